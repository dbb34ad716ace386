import PyProof.Rows.All
import Wide.All
import OpenK.AllK
import Wide.FinOn
import Lean
import PyProof.EqAt
import PyProof.EqKinds
import PyProof.TupleCall
import PyProof.DictRoadsH
import PyProof.DictRoads
import PyProof.DictIter
import PyProof.CompUse
import PyProof.SumWalkG
import KE.KSort
import PyProof.EnumMake
import PyProof.Rows.ZipGen
import PyProof.Rows.RuleDivmod
import PyProof.ListRange
import KE.KDictSum
import KE.KSortTup
import PyProof.DictCompW
import PyProof.ListMulAny
import PyProof.ReprRoads
import PyProof.FitsInt
import PyProof.FString
import PyProof.StrWalks
import KE.KIntText
import KE.IntTextLaws
import PyProof.StrLawsTight
import PyProof.StrLawsJoin
import PyProof.StrLawsOccR
import PyProof.StrLawsIdx
import PyProof.FitsReplace
import PyProof.Rows.StrJoinMade
import PyProof.Rows.ReprOcc
import PySem.Challenge.RW_twainhoard_k78_parties_and_webs_written
set_option Elab.async false
set_option compiler.extract_closed false
set_option genSizeOf false
set_option genInjectivity false
set_option bootstrap.genMatcherCode false
set_option linter.all false
set_option maxRecDepth 100000
theorem ex5 {α β:Type}{A B C:α->β->Prop}{G:Prop}(h:∃x y,A x y/\B x y/\C x y)(k:∀x y,A x y->B x y->C x y->G):G:=by
 obtain ⟨x,y,a,b,c⟩:=h;exact k x y a b c
open List (mem_filter mem_range mem_filterMap filterMap_cons append_nil nodup_cons of_mem_zip length_take zip_nil_left length_nil length_drop reverse_cons find?_cons any_cons ext_getElem? getElem?_range drop_zero nil_append pairwise_cons map_id cons_append)
open Option (isSome_iff_exists getD_none bind_some)
open PySem.Heap (size_push)
abbrev zA:=@PySem.wpAny_bind
abbrev zB:=@PySem.wpAny_pure
abbrev zC:=@List.length_map
abbrev zD:=@PySem.Heap.get?_push_of_some
abbrev zE:=@Nat.le_refl
abbrev zF:=@Nat.lt_of_lt_of_le
abbrev zG:=@Nat.le_trans
abbrev zH:=@List.mem_cons_of_mem
abbrev zI:=@List.mem_cons_self
abbrev zJ:=@List.map_cons
abbrev zK:=@PySem.W.mg_of
abbrev zL:=@List.getElem?_set_ne
abbrev zM:=@List.getElem?_eq_some_iff
abbrev zN:=@List.mem_cons
abbrev zO:=@PySem.Heap.get?_push_size
abbrev zP:=@PySem.Heap.lt_size
abbrev zQ:=@Nat.ne_of_lt
abbrev zR:=@decide_eq_true
abbrev zS:=@Bool.false_ne_true
abbrev zT:=@decide_eq_false
abbrev zU:=@List.size_toArray
abbrev zV:=@List.map_map
abbrev zW:=@List.getElem?_append_left
abbrev zX:=@PySem.W.mg_none_of
abbrev zY:=@PySem.wpAny_mono
abbrev zZ:=@List.length_cons
abbrev qA:=@List.mem_map
abbrev qB:=@List.mem_singleton
abbrev qC:=@List.getElem?_append_right
abbrev qD:=@PySem.wpAny_callSpecial?_slot
abbrev qE:=@List.length_append
abbrev qF:=@List.getElem?_map
abbrev qG:=@PySem.Heap.SameBut.update
abbrev qH:=@List.mem_append_right
abbrev qI:=@PySem.wpAny_call_entry
abbrev qJ:=@Int.emod_lt_of_pos
abbrev qK:=@PySem.wpAny_newObj_type
abbrev qL:=@PyProof.Rows.slot_tuple_getitem
abbrev qM:=@List.map_congr_left
abbrev qN:=@congrArg
abbrev qO:=@Ne.symm
abbrev qP:=@PySem.wpAny_holding
abbrev qQ:=@Option.some.inj
abbrev qR:=@PySem.wpAny_field
abbrev qS:=@Int.emod_nonneg
abbrev qT:=@PySem.StrLaws.glued_eq_join
abbrev qU:=@Nat.pow_le_pow_right
abbrev qV:=@Nat.zero_le
abbrev qW:=@Array.length_toList
abbrev qX:=@PySem.PassesOwn.never
abbrev qY:=@List.mem_append
abbrev qZ:=@PySem.F.slot_dict_keyiterator_next
abbrev jA:=@PySem.Str.length_append
abbrev jB:=@if_true
abbrev jC:=@Array.toList_append
abbrev jD:=@Array.getElem?_eq_none
abbrev jE:=@Nat.lt_irrefl
abbrev jF:=@List.zip_cons_cons
abbrev jG:=@List.length_singleton
abbrev jH:=@List.getElem?_eq_none
abbrev jI:=@PySem.sizeLine_eq
abbrev jJ:=@List.map_append
abbrev jK:=@PySem.W.kia_one
abbrev jL:=@Nat.sub_self
abbrev jM:=@PyProof.Rows.KeyOrd.kle_refl
abbrev jN:=@PySem.strLen_append
abbrev jO:=@PySem.wpAny_typeNameOfWhole_keyiter
abbrev jP:=@beq_eq_false_iff_ne
abbrev jQ:=@PySem.wpAny_seqItems
abbrev jR:=@PyProof.Rows.callWith_type1
abbrev jS:=@List.getElem?_cons_succ
abbrev jT:=@Bool.false_eq_true
abbrev jU:=@PySem.wpAny_setField_rec
abbrev jV:=@PySem.wpAny_passesOwn
abbrev jW:=@List.mem_of_getElem?
abbrev jX:=@Array.getElem?_toList
abbrev jY:=@Int.toNat_natCast
abbrev jZ:=@PySem.wpAny_rule
abbrev xA:=@List.getElem?_eq_none_iff
abbrev xB:=@List.all_eq_true
abbrev xC:=@List.not_mem_nil
abbrev xD:=@List.map_nil
abbrev xE:=@PySem.Str.cps_append
abbrev xF:=@Nat.ne_of_gt
abbrev xG:=@Bool.and_eq_true
abbrev xH:=@PySem.Heap.get?_update_self
abbrev xI:=@PySem.wpAny_typeNameOf_keyiter
abbrev xJ:=@PySem.mem_of_lookup
abbrev xK:=@List.getElem?_cons_zero
abbrev xL:=@PySem.wpAny_getItem_str_slice
abbrev xM:=@PySem.Paired.length
abbrev xN:=@List.length_set
abbrev xO:=@List.length_eq_zero_iff
abbrev xP:=@Option.map_some
abbrev xQ:=@if_false
abbrev xR:=@PyProof.Rows.subscriptTail_builtinR
abbrev xS:=@PySem.F.slot_str_split
abbrev xT:=@of_decide_eq_true
abbrev xU:=@PySem.wpAny_truthy_bool
abbrev xV:=@List.zipWith_cons_cons
abbrev xW:=@PySem.Heap.get?_update_ne
noncomputable section
local macro_rules | `(tactic| walk_at "o") => `(tactic| first | lia | omega)
namespace L2
open PySem PySem.Spec PyProof.Rows
abbrev Key:=Sum Int Str
def keyIs:Key->Value->Bool
 | .inl k,v=>Value.isInt k v
 | .inr x,v=>Value.isStrOf x v
def keyH (w:World):Key->Int
 | .inl k=>hashInt k
 | .inr x=>hashStr w x
theorem n8:∀{k:Key} {v:Value},keyIs k v=true->(∃i t,k=Sum.inl i/\v=Value.int i t)\/(∃x t,k=Sum.inr x/\v=Value.str x t)
 | .inl i,v,h=>by
  obtain⟨t,e⟩:=Value.isInt_shape (k:=i) (v:=v) h;exact .inl ⟨i,t,rfl,e⟩
 | .inr x,v,h=>by
  obtain⟨t,e⟩:=Value.isStrOf_shape (x:=x) (v:=v) h;exact .inr ⟨x,t,rfl,e⟩
theorem a6a (i:Int)(t:Tok):keyIs (.inl i) (.int i t)=true:=by simp[keyIs,Value.isInt]
theorem a59 (x:Str)(t:Tok):keyIs (.inr x) (.str x t)=true:=by simp[keyIs,Value.isStrOf]
theorem b2c (a b:Int):decide ((Sum.inl a:Key)=Sum.inl b)=(a==b):=by
 by_cases e:a=b
 ·subst e;simp
 ·have h:¬(Sum.inl a:Key)=Sum.inl b:=fun q=>e (Sum.inl.inj q);rw[zT h];exact(jP.mpr e).symm
theorem b1F (a b:Str):decide ((Sum.inr a:Key)=Sum.inr b)=decide (a=b):=by
 by_cases e:a=b
 ·subst e;simp
 ·have h:¬(Sum.inr a:Key)=Sum.inr b:=fun q=>e (Sum.inr.inj q);rw[zT h,zT e]
theorem b13 (a:Int)(b:Str):decide ((Sum.inl a:Key)=Sum.inr b)=false:=zT (fun q=>nomatch q)
theorem b1U (a:Str)(b:Int):decide ((Sum.inr a:Key)=Sum.inl b)=false:=zT (fun q=>nomatch q)
def mixKind (prog:Program) (w:World):PySem.KeyKind prog w Key where
 is:=keyIs
 hash:=keyH w
 inj:=fun v a b ha hb=>by
  rcases n8 ha with ⟨i,t,rfl,rfl⟩|⟨x,t,rfl,rfl⟩
  ·rcases n8 hb with ⟨j,u,rfl,e⟩|⟨y,u,rfl,e⟩
   ·injection e with e1 _;rw[e1]
   ·exact nomatch e
  ·rcases n8 hb with ⟨j,u,rfl,e⟩|⟨y,u,rfl,e⟩
   ·exact nomatch e
   ·injection e with e1 _;rw[e1]
 byValue:=fun k v h=>by
  rcases n8 h with ⟨i,t,rfl,rfl⟩|⟨x,t,rfl,rfl⟩<;>rfl
 pyHash:=fun hv h=>by
  rcases n8 hv with ⟨i,t,rfl,rfl⟩|⟨x,t,rfl,rfl⟩
  ·exact wpAny_pyHash_int h
  ·exact wpAny_pyHash_str h
 eqBool:=fun hu hv h=>by
  rcases n8 hu with ⟨i,t,rfl,rfl⟩|⟨x,t,rfl,rfl⟩
  ·rcases n8 hv with ⟨j,u,rfl,rfl⟩|⟨y,u,rfl,rfl⟩
   ·rw[b2c] at h;exact wpAny_eqBool_int h
   ·rw[b13] at h;exact SeqAt.EqAt.int_str i t y u _ _ _ _ h
  ·rcases n8 hv with ⟨j,u,rfl,rfl⟩|⟨y,u,rfl,rfl⟩
   ·rw[b1U] at h;exact SeqAt.EqAt.str_int x t j u _ _ _ _ h
   ·rw[b1F] at h;exact wpAny_eqBool_str h
 «strs»:=fun k x t v h=>by
  rcases n8 h with ⟨i,u,rfl,e⟩|⟨y,u,rfl,e⟩
  ·exact nomatch e
  ·injection e with e1 _
   subst e1;cases v<;>rfl
theorem a3V (prog:Program)(w:World)(i:Int)(t:Tok):(mixKind prog w).is (.inl i) (.int i t)=true:=a6a i t
theorem a3w (prog:Program)(w:World)(x:Str)(t:Tok):(mixKind prog w).is (.inr x) (.str x t)=true:=a59 x t
inductive V where
 | non|bl (b:Bool)|int (i:Int)|str (x:Str)|byt (b:Array UInt8)|flt (b:UInt64)|ref (a:Addr)|ty (n:String)
def RelV:V->Value->Prop
 | .non,u=>u=Value.none
 | .bl b,u=>u=Value.bool b
 | .int i,u=>∃t,u=Value.int i t
 | .str x,u=>∃t,u=Value.str x t
 | .byt b,u=>∃t,u=Value.bytes b t
 | .flt b,u=>∃t,u=Value.float b t
 | .ref a,u=>u=Value.ref a
 | .ty n,u=>u=Value.type n
abbrev Vals:List V->List Value->Prop:=Paired RelV
theorem Vals.length {xs:List V}{us:List Value}(r:Vals xs us):xs.length=us.length:=xM r
theorem Vals.get:∀{xs:List V} {us:List Value} {i:Nat} {x:V},Vals xs us->xs[i]? =some x->∃u,us[i]? =some u/\RelV x u
 | _,_,_,_,.nil,e=>by simp at e
 | _,_,0,_,.cons r _,e=>by simp at e;subst e;exact⟨_,rfl,r⟩
 | _,_,i+1,x,.cons _ t,e=>by
  obtain⟨u,h1,h2⟩:=Vals.get (i:=i) (x:=x) t (by simpa using e)
  exact⟨u,by simpa using h1,h2⟩
theorem Vals.set {x:V}{u:Value}(r:RelV x u):∀{xs:List V} {us:List Value} (i:Nat),Vals xs us->Vals (xs.set i x) (us.set i u)
 | _,_,_,.nil=>.nil
 | _,_,0,.cons _ t=>.cons r t
 | _,_,i+1,.cons q t=>.cons q (Vals.set r i t)
theorem Vals.append:∀{xs ys:List V} {us ws:List Value},Vals xs us->Vals ys ws->Vals (xs++ys) (us++ws)
 | _,_,_,_,.nil,s=>s
 | _,_,_,_,.cons r t,s=>.cons r (Vals.append t s)
theorem Vals.take:∀{xs:List V} {us:List Value} (n:Nat),Vals xs us->Vals (xs.take n) (us.take n)
 | _,_,0,_=>.nil
 | _,_,_+1,.nil=>.nil
 | _,_,n+1,.cons r t=>.cons r (Vals.take n t)
theorem Vals.drop:∀{xs:List V} {us:List Value} (n:Nat),Vals xs us->Vals (xs.drop n) (us.drop n)
 | _,_,0,r=>r
 | _,_,_+1,.nil=>.nil
 | _,_,n+1,.cons _ t=>Vals.drop n t
def RelO:Option V->Option Value->Prop
 | some v,some u=>RelV v u
 | none,none=>True
 | _,_=>False
def KV {κ:Type}:List (κ×V)->List (κ×Value)->Prop:=Paired fun(p:κ×V) (q:κ×Value)=>p.1=q.1/\RelV p.2 q.2
def kV:Key->V
 | .inl i=>.int i
 | .inr x=>.str x
inductive HO where
 | lst (xs:List V)
 | tup (xs:List V)
 | dK (kvs:List (Key×V))|dT (kvs:List (List Key×V))
 | set (S:Int->Bool) (n:Nat)
 | ins (C dx:Addr) (fs:List (Str×V))
 | own (x:Addr)
 | xd (fs:List (Str×V))
 | met (f x:Addr)
 | rng (lo hi:Int)
 | frz (o:Obj) (u:HO)
 | tbl (ps:Array Value)
 | ext (φ:Heap->Prop)
abbrev Hp:=Addr->Option HO
def upd (H:Hp) (a:Addr) (o:HO):Hp:=fun b=>if b=a then some o else H b
theorem m9 {H:Hp}{a:Addr}{o:HO}:upd H a o a=some o:=by unfold upd;rw[if_pos rfl]
theorem g5 {H:Hp}{a b:Addr}{o:HO}(h:b≠a):upd H a o b=H b:=by unfold upd;rw[if_neg h]
theorem ne_of {H:Hp}{a b:Addr}{o u:HO}(h:H a=some o)(h':H b=some u)(d:o≠u):a≠b:=by
 intro e;subst e;rw[h] at h';exact d (qQ h')
theorem l5 {H:Hp}{a b:Addr}{o:HO}(h:H a=some o)(h':H b=none):a≠b:=by
 intro e;subst e;rw[h] at h';cases h'
def TupN (h:Heap) (a:Addr) (its:Array Value):Prop:=∃o,h.get? a=some o/\o.cls= .type "tuple"/\(∃n,o.data= .seq its n)/\o.dict=none
theorem TupN.is {h:Heap}{a:Addr}{its:Array Value}(x:TupN h a its):IsTup h a its:=let ⟨o,e,c,d,_⟩:=x;⟨o,e,c,d⟩
theorem TupN.new (h:Heap)(its:Array Value):TupN (h.push {cls:=.type "tuple",data:=.seq its}) h.objs.size its:=⟨_,zO _ rfl,rfl,⟨_,rfl⟩,rfl⟩
section
variable (P:Program)(w:World)
def ObjOk (H:Hp) (h:Heap) (a:Addr):HO->Prop
 | .lst xs=>xs.length<=sizeLine/\∃(its:List Value) (n:Nat),Vals xs its/\h.get? a=some {cls:=.type "list",data:=.seq its.toArray n}
 | .tup xs=>xs.length<=sizeLine/\∃its:List Value,Vals xs its/\TupN h a its.toArray
 | .dK kvs=>kvs.length<=sizeLine/\(a==sysModules)=false/\∃vs,KV kvs vs/\h.DictAt (mixKind P w) a vs kvs.length
 | .dT kvs=>kvs.length<=sizeLine/\(a==sysModules)=false/\∃xs:List (List Key×Addr×Value),
   Paired (fun(p:List Key×V) (q:List Key×Addr×Value)=>p.1=q.1/\H q.2.1=some (.tup (p.1.map kV))/\RelV p.2 q.2.2) kvs xs/\
   ∃o es,h.get? a=some o/\o.ExactDict/\o.data= .dict es kvs.length/\es.toList=xs.map (entryOfKey (tupleKind (mixKind P w)))/\(xs.map (·.1)).Nodup
 | .set S n=>h.SetOf (intKind P w) a S n
 | .ins C dx fs=>H dx=some (.own a)/\fs.length<=1000/\dx≠a/\h.get? a=some (PySem.W.instObj C dx)/\
   ∃mA,h.Ns1 dx mA/\(∀f,RelO (fs.lookup f) (mA f))/\PySem.Within mA (fs.map (·.1))
 | .own _=>∃o,h.get? a=some o
 | .xd fs=>∃mA,h.Ns1 a mA/\∀f,RelO (fs.lookup f) (mA f)
 | .rng lo hi=>∃t u v,h.get? a=some {cls:=.type "range",data:=.fields #[.int lo t,.int hi u,.int 1 v]}
 | .frz o u=>h.get? a=some o/\ObjOk H h a u
 | .tbl ps=>h.get? a=some {cls:=.none,data:=.fields ps}
 | .met f x=>h.get? a=some (PySem.W.methodObj (.ref f) (.ref x))
 | .ext φ=>φ h/\(∃o,h.get? a=some o)/\∀h1 h2:Heap,φ h1->(∀o,h1.get? a=some o->h2.get? a=some o)->φ h2
def HOk (H:Hp) (h:Heap):Prop:=∀a o,H a=some o->ObjOk P w H h a o
end
section
variable {P:Program}{w:World}{H H':Hp}{h h':Heap}{a:Addr}{o:HO}
theorem ObjOk.lt (x:ObjOk P w H h a o):a<h.objs.size:=by
 cases o with
 | lst xs=>obtain⟨_,_,_,_,e⟩:=x;exact zP e
 | tup xs=>obtain⟨_,_,_,p⟩:=x;exact p.is.lt
 | dK kvs=>obtain⟨_,_,_,_,o,_,e,_⟩:=x;exact zP e
 | dT kvs=>obtain⟨_,_,_,_,o,_,e,_⟩:=x;exact zP e
 | set S n=>obtain⟨o,_,_,_,e,_⟩:=x;exact zP e
 | ins C dx fs=>obtain⟨_,_,_,e,_⟩:=x;exact zP e
 | own y=>obtain⟨_,e⟩:=x;exact zP e
 | xd fs=>obtain⟨_,⟨_,_,_,e,_⟩,_⟩:=x;exact zP e
 | rng lo hi=>obtain⟨_,_,_,e⟩:=x;exact zP e
 | frz ob u=>obtain⟨e,_⟩:=x;exact zP e
 | tbl ps=>exact zP (show h.get? a=some _ from x)
 | met f y=>exact zP (show h.get? a=some _ from x)
 | ext φ=>obtain⟨_,⟨_,e⟩,_⟩:=x;exact zP e
theorem Paired.mapP {α β:Type}{F G:α->β->Prop}:∀{l₁:List α} {l₂:List β},Paired F l₁ l₂->(∀a b,F a b->G a b)->Paired G l₁ l₂
 | _,_,.nil,_=>.nil
 | _,_,.cons r t,f=>.cons (f _ _ r) (Paired.mapP t f)
theorem ObjOk.stay (x:ObjOk P w H h a o)(k:∀b u,(b=a\/H b=some (.own a))->h.get? b=some u->h'.get? b=some u)
  (ho:∀b,H b=some (.own a)->H' b=some (.own a)) (ht:∀b xs,H b=some (.tup xs)->H' b=some (.tup xs)):ObjOk P w H' h' a o:=by
 induction o with
 | lst xs=>obtain⟨z,its,n,r,e⟩:=x;exact⟨z,its,n,r,k _ _ (.inl rfl) e⟩
 | tup xs=>obtain⟨z,its,r,ob,e,c⟩:=x;exact⟨z,its,r,ob,k _ _ (.inl rfl) e,c⟩
 | dK kvs=>obtain⟨z,y,vs,r,ob,es,e,c⟩:=x;exact⟨z,y,vs,r,ob,es,k _ _ (.inl rfl) e,c⟩
 | dT kvs=>
  obtain⟨z,y,xs,r,ob,es,e,c⟩:=x;exact⟨z,y,xs,Paired.mapP r fun p q z=>⟨z.1,ht _ _ z.2.1,z.2.2⟩,ob,es,k _ _ (.inl rfl) e,c⟩
 | set S n=>obtain⟨ob,es,ep,t,e,c⟩:=x;exact⟨ob,es,ep,t,k _ _ (.inl rfl) e,c⟩
 | ins C dx fs=>
  obtain⟨d,z,ne,e,mA,⟨od,es,ep,e2,c⟩,r⟩:=x;exact⟨ho _ d,z,ne,k _ _ (.inl rfl) e,mA,⟨od,es,ep,k _ _ (.inr d) e2,c⟩,r⟩
 | own y=>obtain⟨ob,e⟩:=x;exact⟨ob,k _ _ (.inl rfl) e⟩
 | xd fs=>obtain⟨mA,⟨od,es,ep,e,c⟩,r⟩:=x;exact⟨mA,⟨od,es,ep,k _ _ (.inl rfl) e,c⟩,r⟩
 | rng lo hi=>obtain⟨t,u,v,e⟩:=x;exact⟨t,u,v,k _ _ (.inl rfl) e⟩
 | frz ob u ih=>obtain⟨e,q⟩:=x;exact⟨k _ _ (.inl rfl) e,ih q⟩
 | tbl ps=>
  have e:h.get? a=some {cls:=.none,data:=.fields ps}:=x;show h'.get? a=some {cls:=.none,data:=.fields ps};exact k a _ (.inl rfl) e
 | met f y=>
  have e:h.get? a=some (PySem.W.methodObj (.ref f) (.ref y)):=x;show h'.get? a=some (PySem.W.methodObj (.ref f) (.ref y));exact k a _ (.inl rfl) e
 | ext φ=>obtain⟨p,⟨o,e⟩,st⟩:=x;exact⟨st _ _ p fun o q=>k _ _ (.inl rfl) q,⟨o,k _ _ (.inl rfl) e⟩,st⟩
theorem HOk.lt (x:HOk P w H h)(e:H a=some o):a<h.objs.size:=(x a o e).lt
theorem HOk.fresh (x:HOk P w H h)(e:h.objs.size<=a):H a=none:=by
 cases q:H a with
 | none=>rfl
 | some u=>exact absurd (zF (x.lt q) e) (jE _)
theorem HOk.kept (x:HOk P w H h)(k:∀b u,h.get? b=some u->h'.get? b=some u):HOk P w H h':=fun a o e=>
 (x a o e).stay (fun b u _ q=>k b u q) (fun _ q=>q) fun _ _ q=>q
theorem HOk.laid (x:HOk P w H h)(k:∀b u,h.get? b=some u->h'.get? b=some u)(hp:h.objs.size<=a)(new:ObjOk P w (upd H a o) h' a o):HOk P w (upd H a o) h':=fun b u e=>by
 have hn:=x.fresh hp
 by_cases hb:b=a
 ·subst hb;rw[m9] at e;cases e;exact new
 ·rw[g5 hb] at e;exact(x b u e).stay (fun c v _ q=>k c v q) (fun c q=>by rw[g5 (l5 q hn)];exact q) fun c xs q=>by rw[g5 (l5 q hn)];exact q
end
def Rd (H:Hp) (a:Addr) (u:HO):Prop:=H a=some u\/∃o,H a=some (.frz o u)
theorem Rd.of {H:Hp}{a:Addr}{u:HO}(h:H a=some u):Rd H a u:=.inl h
theorem Rd.ok {P:Program}{w:World}{H:Hp}{h:Heap}{a:Addr}{u:HO}(r:Rd H a u)(x:HOk P w H h):ObjOk P w H h a u:=by
 rcases r with r|⟨o,r⟩
 ·exact x a u r
 ·obtain⟨_,q⟩:=x a _ r;exact q
def Mut:Option HO->Prop
 | some (.lst _)=>True
 | some (.dK _)=>True
 | some (.dT _)=>True
 | some (.set _ _)=>True
 | some (.ins _ _ _)=>True
 | some (.ext _)=>True
 | _=>False
section
variable {P:Program}{w:World}{H:Hp}{h h':Heap}{x e:Addr}{o':HO}
theorem HOk.write (ok:HOk P w H h)(mu:Mut (H x))(he:e=x\/H e=some (.own x))(k:∀b u,b≠e->h.get? b=some u->h'.get? b=some u)(heo:∃u,h'.get? e=some u)
  (new:ObjOk P w (upd H x o') h' x o'):HOk P w (upd H x o') h':=fun b u q=>by
 have nown:∀c y,H c=some (.own y)->c≠x:=fun c y r z=>by subst z;rw[r] at mu;exact mu
 have ntup:∀c xs,H c=some (.tup xs)->c≠x:=fun c xs r z=>by subst z;rw[r] at mu;exact mu
 by_cases hb:b=x
 ·subst hb;rw[m9] at q;cases q;exact new
 ·rw[g5 hb] at q
  by_cases hbe:b=e
  ·have q':H b=some (.own x):=by
    rcases he with z|z
    ·exact absurd (hbe.trans z) hb
    ·rw[hbe];exact z
   rw[q] at q';cases q';obtain⟨v,hv⟩:=heo;exact⟨v,by rw[hbe];exact hv⟩
  ·refine(ok b u q).stay (fun c v hc r=>k c v ?_ r) (fun c r=>by rw[g5 (nown c b r)];exact r) fun c xs r=>by rw[g5 (ntup c xs r)];exact r
   rcases hc with rfl|hc
   ·exact hbe
   ·rintro rfl;rcases he with z|z
    ·exact nown c b hc z
    ·rw[hc] at z;cases z;exact hb rfl
end
structure Un (fs ex:List Addr) (H H':Hp) (h h':Heap):Prop where
 keep:∀b o,h.get? b=some o->H b=none->b∉fs->b∉ex->h'.get? b=some o
 slot:∀b o,h.get? b=some o->H b=none->b∈fs->b∉ex->∃sl,h'.get? b=some {o with slots:=sl}
 free:∀b o,h.get? b=some o->H b=none->b∉ex->H' b=none
 there:∀b o,h.get? b=some o->b∉ex->∃o',h'.get? b=some o'
 tups:∀b xs,H b=some (.tup xs)->H' b=some (.tup xs)
 frzs:∀b o u,H b=some (.frz o u)->H' b=some (.frz o u)
 tbls:∀b ps,H b=some (.tbl ps)->∃more,H' b=some (.tbl (ps++more))
section
variable {fs ex:List Addr}{H H1:Hp}{h h1 h':Heap}{a x e:Addr}{o:HO}
theorem Un.any (u:Un fs ex H H1 h h1){b:Addr}{ob:Obj}(q:h.get? b=some ob)(n:H b=none)(hx:b∉ex):∃sl,h1.get? b=some {ob with slots:=sl}:=by
 by_cases hb:b∈fs
 ·exact u.slot b ob q n hb hx
 ·exact⟨ob.slots,u.keep b ob q n hb hx⟩
theorem Un.kept (k:∀b u,h.get? b=some u->h'.get? b=some u):Un fs ex H H h h':=
 ⟨fun b ob q _ _ _=>k b ob q,fun b ob q _ _ _=>⟨ob.slots,k b ob q⟩,fun _ _ _ n _=>n,fun b ob q _=>⟨ob,k b ob q⟩,fun _ _ q=>q,fun _ _ _ q=>q,fun _ ps q=>⟨#[],by rw[q];simp⟩⟩
theorem Un.refl:Un fs ex H H h h:=Un.kept fun _ _ q=>q
theorem Un.laid (k:∀b u,h.get? b=some u->h'.get? b=some u)(hp:h.objs.size<=a)(hn:H a=none):Un fs ex H (upd H a o) h h' where
 keep:=fun b u q _ _ _=>k b u q
 slot:=fun b u q _ _ _=>⟨u.slots,k b u q⟩
 free:=fun b u q n _=>by rw[g5 (zQ (zF (zP q) hp))];exact n
 there:=fun b u q _=>⟨u,k b u q⟩
 tups:=fun b xs q=>by rw[g5 (l5 q hn)];exact q
 frzs:=fun b u xs q=>by rw[g5 (l5 q hn)];exact q
 tbls:=fun b ps q=>⟨#[],by rw[g5 (l5 q hn),q];simp⟩
theorem Un.write (mu:Mut (H x))(he:e=x\/H e=some (.own x))(k:∀b u,b≠e->h.get? b=some u->h'.get? b=some u)(heo:∃u,h'.get? e=some u):Un fs ex H (upd H x o) h h':=by
 have hx:∀b,H b=none->b≠x:=fun b n z=>by subst z;rw[n] at mu;exact mu
 have hb:∀b,H b=none->b≠e:=fun b n z=>by
  subst z;rcases he with r|r
  ·exact hx b n r
  ·rw[n] at r;cases r
 have hm:∀b u,H b=some u->¬Mut (some u)->b≠x:=fun b u q nm z=>by subst z;rw[q] at mu;exact nm mu
 refine⟨fun b u q n _ _=>k b u (hb b n) q,fun b u q n _ _=>⟨u.slots,k b u (hb b n) q⟩,fun b u q n _=>by rw[g5 (hx b n)];exact n,fun b u q _=>?_,
  fun b xs q=>by rw[g5 (hm b _ q fun z=>z)];exact q,fun b u xs q=>by rw[g5 (hm b _ q fun z=>z)];exact q,fun b ps q=>⟨#[],by rw[g5 (hm b _ q fun z=>z),q];simp⟩⟩
 by_cases hbe:b=e
 ·subst hbe;exact heo
 ·exact⟨u,k b u hbe q⟩
end
def trk (h:Heap) (H:Hp):List Addr:=(List.range h.objs.size).filter fun a=>(H a).isSome
def hidT (h:Heap) (H:Hp):Heap:=PySem.W.hideAll h (trk h H)
theorem a6z (h:Heap)(H:Hp):(hidT h H).objs.size=h.objs.size:=PySem.W.hideAll_size _ _
theorem a8B {h:Heap}{H:Hp}{b:Addr}{o:Obj}(e:h.get? b=some o)(n:H b=none):(hidT h H).get? b=some o:=
 PySem.W.hideAll_get _ e fun hm=>by
  have q:(H b).isSome=true:=(mem_filter.mp hm).2;rw[n] at q;simp at q
theorem a84 {h:Heap}{H:Hp}{b:Addr}{o:Obj}(e:(hidT h H).get? b=some o):h.get? b=some o/\H b=none:=by
 have e':h.get? b=some o:=PySem.W.of_hideAll (trk h H) e;refine⟨e',?_⟩;cases q:H b with
 | none=>rfl
 | some x=>
  have hm:b∈trk h H:=mem_filter.mpr ⟨mem_range.mpr (zP e'),by simp[q]⟩
  have z:(hidT h H).get? b=none:=PySem.W.hideAll_none (trk h H) hm;rw[z] at e;cases e
def allNews (g h:Heap) (L:Addr):List (Addr×Obj):=(List.range h.objs.size).filterMap fun a=>if a=L\/(g.get? a).isSome=true then none else(h.get? a).map fun o=>(a,o)
theorem a3R {g h:Heap}{L a:Addr}{o:Obj}(h1:a≠L)(h2:g.get? a=none)(h3:h.get? a=some o):(a,o)∈allNews g h L:=
 mem_filterMap.mpr ⟨a,mem_range.mpr (zP h3),by simp[h1,h2,h3]⟩
theorem a03 {g h:Heap}{L:Addr}{p:Addr×Obj}(hp:p∈allNews g h L):p.1≠L/\g.get? p.1=none/\h.get? p.1=some p.2:=by
 obtain⟨b,_,e⟩:=mem_filterMap.mp hp;split at e
 ·cases e
 ·rename_i hn;cases q:h.get? b with
  | none=>rw[q] at e;simp at e
  | some u=>
   rw[q] at e;simp only[xP,Option.some.injEq] at e;subst e;refine⟨fun z=>hn (.inl z),?_,q⟩;show g.get? b=none;cases r:g.get? b with
   | none=>rfl
   | some v=>exact(hn (.inr (by simp[r]))).elim
def rest (g h:Heap) (L d:Addr):List (Addr×Obj):=(allNews g h L).filter fun p=>decide (p.1≠d)
theorem a5K {g h:Heap}{L d:Addr}:∀p∈rest g h L d,p.1≠d:=fun p hp=>xT (mem_filter.mp hp).2
theorem a7a {g h:Heap}{L d a:Addr}{o:Obj}(h1:a≠L)(h2:g.get? a=none)(h3:h.get? a=some o)(h4:a≠d):(a,o)∈rest g h L d:=
 mem_filter.mpr ⟨a3R h1 h2 h3,zR h4⟩
theorem a7x {g h:Heap}{L:Addr}:News g L h (allNews g h L):=fun p hp=>let ⟨a,b,c⟩:=a03 hp;⟨c,a,b⟩
theorem a9s {g h:Heap}{L d:Addr}{o:Obj}(h1:d≠L)(h2:g.get? d=none)(h3:h.get? d=some o):News g L h ((d,o)::rest g h L d):=fun p hp=>by
 rcases zN.mp hp with rfl|hp
 ·exact⟨h3,h1,h2⟩
 ·exact a7x p (mem_filter.mp hp).1
theorem a2U {g h h':Heap}{L d:Addr}{m:Str->Option Value}(k:∀b o,g.get? b=some o->h.get? b=some o)(F:Fr g L h' m)(N:News g L h' (rest g h L d)):
  ∀b o,b≠L->b≠d->h.get? b=some o->h'.get? b=some o:=fun b o h1 h2 e=>by
 cases q:g.get? b with
 | some u=>
  have:=k b u q
  rw[e] at this;cases this;exact F.keep b _ q
 | none=>exact(N (b,o) (a7a h1 q e h2)).1
structure Mod (K:PySem.W.Frag) (mg:Str->Option Value) (base:Heap):Prop where
 kin:K.In base
 glob:base.Ns mainGlobals mg
 blt:∃mb,base.Ns builtinsNs mb/\∀x:Str,x≠"__name__"->mb x=bootBuiltins x
 nolimit:base.NoLimit
structure Cx where
 prog:Program
 w:World
 K:PySem.W.Frag
 mg:Str->Option Value
 base:Heap
 A:Around
 N:List Str
 s₀:Shared
 H₀:Hp
 env:Env
 outer:List Env
 stack:List Env
 ex:List Addr
 fn:Str->Bool
 calm:Bool
 pn:List (Addr×Obj)
 xe:Value->Shared->Prop
def frs (l:List Env):List Addr:=l.filterMap (·.frame)
abbrev Cx.fs (X:Cx):List Addr:=frs X.outer
def Vis (sc:Scope) (x:Str):Prop:=sc.names.lookup x=some .local\/sc.names.lookup x=some .cell\/sc.names.lookup x=some .free
def Loc (sc:Scope) (x:Str):Prop:=sc.names.lookup x=some .local\/sc.names.lookup x=some .cell
def Look (env:Env) (h:Heap) (m:Str->Option Value) (x:Str) (u:Value):Prop:=
 (env.kindOf x=some .local/\m x=some u)\/((env.kindOf x=some .cell\/env.kindOf x=some .free)/\∃c,env.cells.lookup x=some c/\h.IsCell c (some u))
structure Cx.Ok (X:Cx):Prop where
 mod:Mod X.K X.mg X.base
 kind:X.env.scope.kind= .function
 glob:X.env.globals=mainGlobals
 blt:X.env.builtins=builtinsNs
 above:X.s₀.heap.objs.size<=X.env.locals
 inj:∀x y c,X.env.cells.lookup x=some c->X.env.cells.lookup y=some c->x=y
 has:∀x,(X.env.kindOf x=some .cell\/X.env.kindOf x=some .free)->∃c,X.env.cells.lookup x=some c
 cab:∀x c,X.fn x=true->X.env.cells.lookup x=some c->X.s₀.heap.objs.size<=c
 hd:X.calm=true->X.A.handled=none
 frames:X.A.frames=some X.stack
 stk:X.stack=X.outer\/(X.stack=X.env::X.outer/\X.env.frame=some X.env.locals)
 exf:∀b∈X.ex,b≠X.env.locals/\∀x c,X.env.cells.lookup x=some c->c≠b
 bs:∀b o,X.base.get? b=some o->X.s₀.heap.get? b=some o/\X.H₀ b=none
 bsz:X.base.objs.size<=X.s₀.heap.objs.size
 noex:∀b o,X.base.get? b=some o->b∉X.ex
 exfs:∀b∈X.ex,b∉X.fs
 funs:X.s₀.heap.FunFrames X.base X.outer
 frf:∀b∈X.fs,X.H₀ b=none
structure Inv (X:Cx) (pins:List (Addr×Obj)) (σ:List (Option V)) (H:Hp) (s:Shared):Prop where
 ok:X.Ok
 os:s.os=X.s₀.os
 bare:AllBare s.gens
 base:Un X.fs X.ex X.H₀ H X.s₀.heap s.heap
 loc:∃m,s.heap.Ns X.env.locals m/\∀(i:Nat) (x:Str) (v:V),X.N[i]? =some x->σ[i]? =some (some v)->Vis X.env.scope x->∃u,RelV v u/\Look X.env s.heap m x u
 cell:∀x c,X.env.cells.lookup x=some c->∃v,s.heap.IsCell c v
 free:H X.env.locals=none
 freeC:∀x c,X.env.cells.lookup x=some c->H c=none
 pin:∀p∈X.pn++pins,s.heap.get? p.1=some p.2/\H p.1=none/\p.1≠X.env.locals/\p.1∉X.fs/\∀v,p.2.data≠.cell v
 hok:HOk X.prog X.w H s.heap
 len:σ.length=X.N.length
section
variable {X:Cx}{pins:List (Addr×Obj)}{σ:List (Option V)}{H H':Hp}{s:Shared}{h':Heap}
theorem Cx.Ok.nofr (ok:X.Ok){b:Addr}{o:Obj}(e:X.base.get? b=some o):b∉X.fs:=fun hb=>by
 have:=(ok.funs.mem hb).1
 rw[e] at this;cases this
theorem Inv.bs (I:Inv X pins σ H s):∀b o,X.base.get? b=some o->s.heap.get? b=some o/\H b=none:=fun b o e=>
 ⟨I.base.keep b o (I.ok.bs b o e).1 (I.ok.bs b o e).2 (I.ok.nofr e) (I.ok.noex b o e),I.base.free b o (I.ok.bs b o e).1 (I.ok.bs b o e).2 (I.ok.noex b o e)⟩
theorem Inv.bk (I:Inv X pins σ H s):∀b o,X.base.get? b=some o->s.heap.get? b=some o:=fun b o e=>(I.bs b o e).1
theorem Inv.mod (I:Inv X pins σ H s):Mod X.K X.mg X.base:=I.ok.mod
theorem Inv.kIn (I:Inv X pins σ H s):X.K.In s.heap:=I.ok.mod.kin.keeps I.bk
theorem Inv.fr (I:Inv X pins σ H s):∃m,Fr X.base X.env.locals s.heap m:=
 let ⟨m,hn,_⟩:=I.loc
 ⟨m,hn,I.bk,zG I.ok.bsz I.ok.above⟩
theorem Inv.lt (I:Inv X pins σ H s):X.env.locals<s.heap.objs.size:=let ⟨_,hn,_⟩:=I.loc;hn.lt
theorem Inv.sz (I:Inv X pins σ H s):X.s₀.heap.objs.size<=s.heap.objs.size:=zG I.ok.above (Nat.le_of_lt I.lt)
theorem Inv.nofs (I:Inv X pins σ H s){a:Addr}(h:s.heap.objs.size<=a):a∉X.fs:=fun hb=>by
 obtain⟨_,o,ho,_⟩:=I.ok.funs.mem hb;exact absurd (zF (zP ho) (zG I.sz h)) (jE _)
theorem Inv.cne (I:Inv X pins σ H s):∀x c,X.env.cells.lookup x=some c->c≠X.env.locals:=fun x c e z=>by
 obtain⟨v,o,ho,hd⟩:=I.cell x c e;obtain⟨m,⟨o',es,ep,ho',hd',_⟩,_⟩:=I.loc;rw[z,ho'] at ho;cases ho;rw[hd'] at hd;cases hd
theorem Inv.funs (I:Inv X pins σ H s):s.heap.FunFrames X.base X.outer:=by
 have all:∀(l:List Env),(∀b∈frs l,b∈X.fs)->X.s₀.heap.FunFrames X.base l->s.heap.FunFrames X.base l:=by
  intro l
  induction l with
  | nil=>intro _ _;trivial
  | cons env r ih=>
   intro hs hl;obtain⟨hk,⟨L,o,hf,hn,ho,hd⟩,hr⟩:=hl;have hL:L∈X.fs:=hs L (by unfold frs;rw[filterMap_cons,hf];exact zI)
   obtain⟨sl,e⟩:=I.base.slot L o ho (I.ok.frf L hL) hL fun z=>I.ok.exfs L z hL;exact⟨hk,⟨L,_,hf,hn,e,hd⟩,ih (fun b hb=>hs b (by unfold frs;rw[filterMap_cons,hf];exact zH _ hb)) hr⟩
 exact all X.outer (fun _ hb=>hb) I.ok.funs
theorem Inv.stack (I:Inv X pins σ H s):s.heap.FunFrames X.base X.stack:=by
 rcases I.ok.stk with e|⟨e,hf⟩
 ·rw[e];exact I.funs
 ·rw[e];obtain⟨m,hn,_⟩:=I.loc;refine .cons (by rw[I.ok.kind];decide) hf hn ?_ I.funs
  exact Heap.get?_none_of_le (zG I.ok.bsz I.ok.above)
theorem Inv.stkSub (I:Inv X pins σ H s):∀b∈frs X.stack,b∈X.env.locals::X.fs:=fun b hb=>by
 rcases I.ok.stk with e|⟨e,hf⟩
 ·rw[e] at hb;exact zH _ hb
 ·rw[e] at hb;unfold frs at hb;rw[filterMap_cons,hf] at hb;exact hb
theorem Inv.stkFree (I:Inv X pins σ H s):∀b∈frs X.stack,H b=none:=fun b hb=>by
 rcases zN.mp (I.stkSub b hb) with e|hb
 ·rw[e];exact I.free
 ·obtain⟨_,o,ho,_⟩:=I.ok.funs.mem hb;exact I.base.free b o ho (I.ok.frf b hb) fun z=>I.ok.exfs b z hb
theorem Inv.step {g':Array GenState}{t':Nat}{d':Drawn}{ch:List Addr}(I:Inv X pins σ H s)
  (hch:∀b∈ch,(b∈X.ex\/X.s₀.heap.objs.size<=b)/\b≠X.env.locals/\(∀x c,X.env.cells.lookup x=some c->c≠b)/\∀p∈X.pn++pins,p.1≠b)
  (keep:∀b o,b≠X.env.locals->b∉X.fs->b∉ch->s.heap.get? b=some o->H b=none->h'.get? b=some o)
  (slot:∀b o,b≠X.env.locals->b∈X.fs->b∉ch->s.heap.get? b=some o->H b=none->∃sl,h'.get? b=some {o with slots:=sl}) (free:∀b o,b∉ch->s.heap.get? b=some o->H b=none->H' b=none)
  (there:∀b o,b∉ch->s.heap.get? b=some o->∃o',h'.get? b=some o')
  (tups:∀b xs,H b=some (.tup xs)->H' b=some (.tup xs)) (frzs:∀b o u,H b=some (.frz o u)->H' b=some (.frz o u)) (tbls:∀b ps,H b=some (.tbl ps)->∃more,H' b=some (.tbl (ps++more)))
  (ns:∀m,s.heap.Ns X.env.locals m->h'.Ns X.env.locals m) (hok:HOk X.prog X.w H' h') (hg:AllBare g'):
  Inv X pins σ H' {s with heap:=h',gens:=g',drawn:=d',toks:=t'}:=by
 have neL:∀b o,X.s₀.heap.get? b=some o->b≠X.env.locals:=fun b o e=>zQ (zF (zP e) I.ok.above);have neC:∀b o,X.s₀.heap.get? b=some o->b∉X.ex->b∉ch:=fun b o e hx hb=>by
  rcases(hch b hb).1 with z|z
  ·exact hx z
  ·exact absurd (zF (zP e) z) (jE _)
 have cellK:∀x c,X.env.cells.lookup x=some c->∀v,s.heap.IsCell c v->h'.IsCell c v:=fun x c e v ⟨o,ho,hd⟩=>by
  have nch:c∉ch:=fun z=>(hch c z).2.2.1 x c e rfl
  by_cases hc:c∈X.fs
  ·obtain⟨sl,q⟩:=slot c o (I.cne x c e) hc nch ho (I.freeC x c e);exact⟨_,q,hd⟩
  ·exact⟨o,keep c o (I.cne x c e) hc nch ho (I.freeC x c e),hd⟩
 refine⟨I.ok,I.os,hg,⟨fun b o e n hb hx=>?_,fun b o e n hb hx=>?_,fun b o e n hx=>?_,fun b o e hx=>?_,fun b xs e=>tups b xs (I.base.tups b xs e),fun b o xs e=>frzs b o xs (I.base.frzs b o xs e),fun b ps e=>?_⟩,?_,fun x c e=>?_,?_,fun x c e=>?_,fun p hp=>?_,hok,I.len⟩
 ·exact keep b o (neL b o e) hb (neC b o e hx) (I.base.keep b o e n hb hx) (I.base.free b o e n hx)
 ·obtain⟨sl,e1⟩:=I.base.slot b o e n hb hx;obtain⟨sl',e2⟩:=slot b _ (neL b o e) hb (neC b o e hx) e1 (I.base.free b o e n hx);exact⟨sl',e2⟩
 ·obtain⟨o',e1⟩:=I.base.there b o e hx;exact free b o' (neC b o e hx) e1 (I.base.free b o e n hx)
 ·obtain⟨o',e1⟩:=I.base.there b o e hx;exact there b o' (neC b o e hx) e1
 ·obtain⟨m1,e1⟩:=I.base.tbls b ps e;obtain⟨m2,e2⟩:=tbls b _ e1;exact⟨m1++m2,by rw[e2,Array.append_assoc]⟩
 ·obtain⟨m,hn,hl⟩:=I.loc;refine⟨m,ns m hn,fun i x v e1 e2 e3=>?_⟩;obtain⟨u,r,l⟩:=hl i x v e1 e2 e3;refine⟨u,r,?_⟩;rcases l with l|⟨k,c,e,z⟩
  ·exact .inl l
  ·exact .inr ⟨k,c,e,cellK x c e _ z⟩
 ·obtain⟨v,z⟩:=I.cell x c e;exact⟨v,cellK x c e v z⟩
 ·obtain⟨m,⟨o,_,_,ho,_⟩,_⟩:=I.loc;exact free _ o (fun z=>(hch _ z).2.1 rfl) ho I.free
 ·obtain⟨v,o,ho,hd⟩:=I.cell x c e;exact free c o (fun z=>(hch c z).2.2.1 x c e rfl) ho (I.freeC x c e)
 ·obtain⟨e,n,ne,nf,d⟩:=I.pin p hp;have nch:p.1∉ch:=fun z=>(hch p.1 z).2.2.2 p hp rfl;exact⟨keep p.1 p.2 ne nf nch e n,free p.1 p.2 nch e n,ne,nf,d⟩
theorem Inv.un {t':Nat}(I:Inv X pins σ H s)(u:Un X.fs [] H H' s.heap h')(hok:HOk X.prog X.w H' h'):Inv X pins σ H' {s with heap:=h',toks:=t'}:=by
 obtain⟨m,⟨o,es,ep,ho,r⟩,_⟩:=id I.loc;obtain⟨sl,hL⟩:=u.any ho I.free (by simp)
 exact I.step (g':=s.gens) (d':=s.drawn) (ch:=[]) (fun _ z=>nomatch z) (fun b o _ hb _ e n=>u.keep b o e n hb (by simp)) (fun b o _ hb _ e n=>u.slot b o e n hb (by simp)) (fun b o _ e n=>u.free b o e n (by simp)) (fun b o _ e=>u.there b o e (by simp)) u.tups u.frzs u.tbls (fun m' hm=>by
  obtain⟨o',es',ep',ho',r'⟩:=hm;rw[ho] at ho';cases ho'
  exact⟨_,es',ep',hL,r'⟩) hok I.bare
theorem Inv.call {g':Array GenState}{t':Nat}{d':Drawn}{ch:List Addr}(I:Inv X pins σ H s)(u:Un (frs X.stack) ch H H' s.heap h')(hok:HOk X.prog X.w H' h')(hg:AllBare g')
  (hch:∀b∈ch,(b∈X.ex\/X.s₀.heap.objs.size<=b)/\b≠X.env.locals/\(∀x c,X.env.cells.lookup x=some c->c≠b)/\∀p∈X.pn++pins,p.1≠b):
  Inv X pins σ H' {s with heap:=h',gens:=g',drawn:=d',toks:=t'}:=by
 obtain⟨m,⟨o,es,ep,ho,r⟩,_⟩:=id I.loc;obtain⟨sl,hL⟩:=u.any ho I.free fun z=>(hch _ z).2.1 rfl
 exact I.step (ch:=ch) hch (fun b o hL hb hc e n=>u.keep b o e n (fun z=>(zN.mp (I.stkSub b z)).elim hL hb) hc) (fun b o _ _ hc e n=>u.any e n hc) (fun b o hc e n=>u.free b o e n hc) (fun b o hc e=>u.there b o e hc) u.tups u.frzs u.tbls (fun m' hm=>by
  obtain⟨o',es',ep',ho',r'⟩:=hm;rw[ho] at ho';cases ho'
  exact⟨_,es',ep',hL,r'⟩) hok hg
theorem Inv.turned {t':Nat}{it:Addr}(I:Inv X pins σ H s)(k:∀b o,b≠it->s.heap.get? b=some o->h'.get? b=some o)(hn:H it=none)(hL:it≠X.env.locals)
  (h1:it∈X.ex\/X.s₀.heap.objs.size<=it) (h2:∀x c,X.env.cells.lookup x=some c->c≠it) (h3:∀p∈X.pn++pins,p.1≠it):Inv X pins σ H {s with heap:=h',toks:=t'}:=by
 have nit:∀b u,H b=some u->b≠it:=fun b u e z=>by rw[z,hn] at e;cases e
 refine I.step (g':=s.gens) (d':=s.drawn) (ch:=[it]) (fun b hb=>?_) (fun b o _ _ hc e _=>k b o (fun z=>hc (by simp[z])) e) (fun b o _ _ hc e _=>⟨o.slots,k b o (fun z=>hc (by simp[z])) e⟩) (fun _ _ _ _ n=>n)
  (fun b o hc e=>⟨o,k b o (fun z=>hc (by simp[z])) e⟩) (fun _ _ e=>e) (fun _ _ _ e=>e) (fun b ps e=>⟨#[],by rw[e];simp⟩) (fun m hm=>?_) (fun b u e=>?_) I.bare
 ·have e:b=it:=by simpa using hb
  subst e;exact⟨h1,hL,h2,h3⟩
 ·obtain⟨o,es,ep,ho,r⟩:=hm;exact⟨o,es,ep,k _ o (qO hL) ho,r⟩
 ·refine(I.hok b u e).stay (fun c v hc q=>k c v ?_ q) (fun _ q=>q) fun _ _ q=>q;rcases hc with z|z
  ·rw[z];exact nit b u e
  ·exact nit c _ z
theorem Inv.tok (I:Inv X pins σ H s)(t:Nat):Inv X pins σ H {s with toks:=t}:=I.un (h':=s.heap) (t':=t) Un.refl I.hok
theorem Inv.kept {t':Nat}(I:Inv X pins σ H s)(k:∀b u,s.heap.get? b=some u->h'.get? b=some u):Inv X pins σ H {s with heap:=h',toks:=t'}:=I.un (Un.kept k) (I.hok.kept k)
theorem Inv.laid {a:Addr}{o:HO}{t':Nat}(I:Inv X pins σ H s)(k:∀b u,s.heap.get? b=some u->h'.get? b=some u)(hp:s.heap.objs.size<=a)(new:ObjOk X.prog X.w (upd H a o) h' a o):
  Inv X pins σ (upd H a o) {s with heap:=h',toks:=t'}:=I.un (Un.laid k hp (I.hok.fresh hp)) (I.hok.laid k hp new)
theorem Inv.write {x e:Addr}{o:HO}{t':Nat}(I:Inv X pins σ H s)(mu:Mut (H x))(he:e=x\/H e=some (.own x))(k:∀b u,b≠e->s.heap.get? b=some u->h'.get? b=some u)(heo:∃u,h'.get? e=some u)
  (new:ObjOk X.prog X.w (upd H x o) h' x o):Inv X pins σ (upd H x o) {s with heap:=h',toks:=t'}:=I.un (Un.write mu he k heo) (I.hok.write mu he k heo new)
theorem Inv.pins_of {pins':List (Addr×Obj)}(I:Inv X pins σ H s)(h:∀p∈pins',s.heap.get? p.1=some p.2/\H p.1=none/\p.1≠X.env.locals/\p.1∉X.fs/\∀v,p.2.data≠.cell v):Inv X pins' σ H s:=
 ⟨I.ok,I.os,I.bare,I.base,I.loc,I.cell,I.free,I.freeC,fun p hp=>(qY.mp hp).elim (fun z=>I.pin p (List.mem_append_left _ z)) (h p),I.hok,I.len⟩
theorem a3K {N:List Str}(hN:N.Nodup){i j:Nat}{x:Str}(a:N[i]? =some x)(b:N[j]? =some x):i=j:=by
 obtain⟨h1,e1⟩:=zM.mp a;obtain⟨h2,e2⟩:=zM.mp b;exact(List.getElem_inj hN).mp (e1.trans e2.symm)
theorem a56 {M:Model}{A:Around}{E:Value->Shared->Prop}{i:Nat}{x:Str}{v:V}{u:Value}{Q:Unit->Shared->Prop}(I:Inv X pins σ H s)(hN:X.N.Nodup)(hi:X.N[i]? =some x)(hx:Loc X.env.scope x)(r:RelV v u)
  (h:∀s',Inv X pins (σ.set i (some v)) H s'->(∃a,Heap.SameBut a s.heap s'.heap/\(a=X.env.locals\/X.env.cells.lookup x=some a))->Q () s') (hf:X.fn x=true\/X.env.scope.names.lookup x=some .local:=by first|exact .inl rfl|exact .inr rfl|assumption):wpAny M A (storeName X.env x u) Q E s:=by
 obtain⟨m,hn,hl⟩:=id I.loc;have hcls:(X.env.scope.kind == .class||(X.env.scope.kind == .module&&X.env.locals != X.env.globals))=false:=by rw[I.ok.kind];rfl
 have hiσ:i<σ.length:=by rw[I.len];exact(zM.mp hi).1
 have cne:=I.cne;have tracked:∀{a:Addr} {h':Heap},(∃o,s.heap.get? a=some o/\H a=none)->Heap.SameBut a s.heap h'->HOk X.prog X.w H h':=fun{a h'} ha hs b ob e=>by
  obtain⟨_,_,hfree⟩:=ha;refine(I.hok b ob e).stay (fun c w' hc q=>(hs.2 c ?_).trans q) (fun _ q=>q) fun _ _ q=>q;rintro rfl;rcases hc with rfl|hc
  ·rw[hfree] at e;cases e
  ·rw[hfree] at hc;cases hc
 rcases hx with hk|hk
 ·refine wpAny_storeName_local hk hn (fun h' hn' hs=>?_) hcls;obtain⟨oL,_,_,hoL,_⟩:=id hn;refine h _ ⟨I.ok,I.os,I.bare,⟨fun b o e n hb hx=>?_,fun b o e n hb hx=>?_,I.base.free,fun b o e hx=>?_,I.base.tups,I.base.frzs,I.base.tbls⟩,⟨_,hn',fun j y v' e1 e2 e3=>?_⟩,fun y c e=>?_,I.free,I.freeC,fun p hp=>?_,tracked ⟨oL,hoL,I.free⟩ hs,by simpa using I.len⟩ ⟨_,hs,.inl rfl⟩
  ·exact(hs.2 b (zQ (zF (zP e) I.ok.above))).trans (I.base.keep b o e n hb hx)
  ·obtain⟨sl,e1⟩:=I.base.slot b o e n hb hx;exact⟨sl,(hs.2 b (zQ (zF (zP e) I.ok.above))).trans e1⟩
  ·obtain⟨o',e1⟩:=I.base.there b o e hx;exact⟨o',(hs.2 b (zQ (zF (zP e) I.ok.above))).trans e1⟩
  ·by_cases hj:j=i
   ·subst hj;rw[hi] at e1;cases e1;rw[List.getElem?_set_self hiσ] at e2;cases e2;exact⟨u,r,.inl ⟨hk,by simp⟩⟩
   ·rw[zL (qO hj)] at e2;obtain⟨u',r',q⟩:=hl j y v' e1 e2 e3;refine⟨u',r',?_⟩;rcases q with ⟨k,e⟩|⟨k,c,e,z⟩
    ·refine .inl ⟨k,?_⟩
     have:y≠x:=fun e=>hj (a3K hN e1 (e▸hi))
     simp[this,e]
    ·exact .inr ⟨k,c,e,z.sameBut hs (cne y c e)⟩
  ·obtain⟨w',z⟩:=I.cell y c e;exact⟨w',z.sameBut hs (cne y c e)⟩
  ·obtain⟨e,n,ne,nf,d⟩:=I.pin p hp;exact⟨(hs.2 p.1 ne).trans e,n,ne,nf,d⟩
 ·have hfn:X.fn x=true:=by
   rcases hf with z|z
   ·exact z
   ·rw[z] at hk;cases hk
  obtain⟨c,hc⟩:=I.ok.has x (.inl hk);obtain⟨w',z⟩:=I.cell x c hc;refine wpAny_storeName_cell I.ok.kind hk hc z (fun h' hc' hs=>?_);obtain⟨oc,hoc,hocd⟩:=id z;refine h {s with heap:=h'} ⟨I.ok,I.os,I.bare,⟨fun b o e n hb hx=>?_,fun b o e n hb hx=>?_,I.base.free,fun b o e hx=>?_,I.base.tups,I.base.frzs,I.base.tbls⟩,⟨m,hn.sameBut hs (qO (cne x c hc)),fun j y v' e1 e2 e3=>?_⟩,fun y c' e=>?_,I.free,I.freeC,fun p hp=>?_,tracked ⟨oc,hoc,I.freeC x c hc⟩ hs,by simpa using I.len⟩ ⟨c,hs,.inr hc⟩
  ·exact(hs.2 b (zQ (zF (zP e) (I.ok.cab x c hfn hc)))).trans (I.base.keep b o e n hb hx)
  ·obtain⟨sl,e1⟩:=I.base.slot b o e n hb hx;exact⟨sl,(hs.2 b (zQ (zF (zP e) (I.ok.cab x c hfn hc)))).trans e1⟩
  ·obtain⟨o',e1⟩:=I.base.there b o e hx;exact⟨o',(hs.2 b (zQ (zF (zP e) (I.ok.cab x c hfn hc)))).trans e1⟩
  ·by_cases hj:j=i
   ·subst hj;rw[hi] at e1;cases e1;rw[List.getElem?_set_self hiσ] at e2;cases e2;exact⟨u,r,.inr ⟨.inl hk,c,hc,hc'⟩⟩
   ·rw[zL (qO hj)] at e2;obtain⟨u',r',q⟩:=hl j y v' e1 e2 e3;refine⟨u',r',?_⟩;rcases q with q|⟨k,c',e,z'⟩
    ·exact .inl q
    ·refine .inr ⟨k,c',e,z'.sameBut hs ?_⟩;rintro rfl;exact hj (a3K hN e1 (I.ok.inj _ _ _ e hc▸hi))
  ·by_cases hcc:c'=c
   ·subst hcc;exact⟨_,hc'⟩
   ·obtain⟨w2,z2⟩:=I.cell y c' e;exact⟨w2,z2.sameBut hs hcc⟩
  ·obtain⟨e,n,ne,nf,d⟩:=I.pin p hp;refine⟨(hs.2 p.1 ?_).trans e,n,ne,nf,d⟩;intro q;rw[q,hoc] at e;have q':oc=p.2:=qQ e;exact d w' (by rw[<-q'];exact hocd)
theorem V2 {M:Model}{A:Around}{E:Value->Shared->Prop}{i:Nat}{x:Str}{v:V}{u:Value}{Q:Unit->Shared->Prop}(I:Inv X pins σ H s)(hN:X.N.Nodup)(hi:X.N[i]? =some x)(hx:Loc X.env.scope x)(r:RelV v u)
  (h:∀s',Inv X pins (σ.set i (some v)) H s'->Q () s') (hf:X.fn x=true\/X.env.scope.names.lookup x=some .local:=by first|exact .inl rfl|exact .inr rfl|assumption):wpAny M A (storeName X.env x u) Q E s:=
 a56 I hN hi hx r (fun s' I' _=>h s' I') hf
theorem Inv.call' {s':Shared}{ch:List Addr}(I:Inv X pins σ H s)(ho:s'.os=s.os)(u:Un (frs X.stack) ch H H' s.heap s'.heap)(hok:HOk X.prog X.w H' s'.heap)(hg:AllBare s'.gens)
  (hch:∀b∈ch,(b∈X.ex\/X.s₀.heap.objs.size<=b)/\b≠X.env.locals/\(∀x c,X.env.cells.lookup x=some c->c≠b)/\∀p∈X.pn++pins,p.1≠b):Inv X pins σ H' s':=by
 obtain⟨h',g',d',t',o'⟩:=s';have e:o'=s.os:=ho;subst e;exact I.call (g':=g') (t':=t') (d':=d') u hok hg hch
end
abbrev XK:=Value->Option Addr->Hp->Prop
abbrev St:=List (Option V)
abbrev VK:=V->Hp->Prop
abbrev TE:=St->Hp->VK->Prop
abbrev TT:=St->Hp->(Bool->Hp->Prop)->Prop
abbrev TA:=St->Hp->(List V->Hp->Prop)->Prop
structure Ends where
 nx:St->Hp->Prop
 rt:VK
 bk:St->Hp->Prop:=fun _ _=>False
 ct:St->Hp->Prop:=fun _ _=>False
abbrev TS:=Ends->St->Hp->Prop
def EP (X:Cx) (pins:List (Addr×Obj)) (σ:St) (Q:VK) (u:Value) (s':Shared):Prop:=∃v H',Inv X pins σ H' s'/\RelV v u/\Q v H'
def TP (X:Cx) (pins:List (Addr×Obj)) (σ:St) (Q:Bool->Hp->Prop) (b:Bool) (s':Shared):Prop:=∃H',Inv X pins σ H' s'/\Q b H'
def AP (X:Cx) (pins:List (Addr×Obj)) (σ:St) (Q:List V->Hp->Prop) (us:List Value) (s':Shared):Prop:=∃vs H',Inv X pins σ H' s'/\Vals vs us/\Q vs H'
def SP (X:Cx) (pins:List (Addr×Obj)) (D:Ends) (f:Flow) (s':Shared):Prop:=
 match f with
 | .next=>∃σ' H',Inv X pins σ' H' s'/\D.nx σ' H'
 | .brk=>∃σ' H',Inv X pins σ' H' s'/\D.bk σ' H'
 | .cont=>∃σ' H',Inv X pins σ' H' s'/\D.ct σ' H'
 | .ret u=>∃v σ' H',Inv X pins σ' H' s'/\RelV v u/\D.rt v H'
def PE (X:Cx) (e:Expr) (t:TE):Prop:=
 ∀(pins:List (Addr×Obj)) (s:Shared) (σ:St) (H:Hp) (Q:VK),Inv X pins σ H s->t σ H Q->wpAny (model X.prog X.w) X.A (eval e X.env) (EP X pins σ Q) X.xe s
def PT (X:Cx) (e:Expr) (t:TT):Prop:=
 ∀(pins:List (Addr×Obj)) (s:Shared) (σ:St) (H:Hp) (Q:Bool->Hp->Prop),Inv X pins σ H s->t σ H Q->wpAny (model X.prog X.w) X.A (isTrue e X.env (eval e X.env)) (TP X pins σ Q) X.xe s
def PW (X:Cx) (e:Expr) (t:TT):Prop:=
 ∀(whole:Sem Value) (pins:List (Addr×Obj)) (s:Shared) (σ:St) (H:Hp) (Q:Bool->Hp->Prop),Inv X pins σ H s->t σ H Q->wpAny (model X.prog X.w) X.A (isTrue e X.env whole) (TP X pins σ Q) X.xe s
theorem PW.pt {X:Cx}{e:Expr}{t:TT}(h:PW X e t):PT X e t:=h _
def PA (X:Cx) (es:List Expr) (t:TA):Prop:=
 ∀(pos:Pos) (pins:List (Addr×Obj)) (s:Shared) (σ:St) (H:Hp) (Q:List V->Hp->Prop),Inv X pins σ H s->t σ H Q->wpAny (model X.prog X.w) X.A (spliced (backTo pos (starEach es X.env))) (AP X pins σ Q) X.xe s
def PS (X:Cx) (st:Stmt) (t:TS):Prop:=
 ∀(pins:List (Addr×Obj)) (s:Shared) (σ:St) (H:Hp) (D:Ends),Inv X pins σ H s->t D σ H->wpAny (model X.prog X.w) X.A (exec st X.env) (SP X pins D) X.xe s
def PSs (X:Cx) (st:List Stmt) (t:TS):Prop:=
 ∀(pins:List (Addr×Obj)) (s:Shared) (σ:St) (H:Hp) (D:Ends),Inv X pins σ H s->t D σ H->wpAny (model X.prog X.w) X.A (execs st X.env) (SP X pins D) X.xe s
theorem thn {α:Type}{t:Sem α}{Q Q':α->Shared->Prop}{M:Model}{A:Around}{E:Value->Shared->Prop}{s:Shared}(h:wpAny M A t Q E s)(hQ:∀a s,Q a s->Q' a s):wpAny M A t Q' E s:=zY h hQ fun _ _ x=>x
section
variable {X:Cx}
def tVar (i:Nat):TE:=fun σ H Q=>∃v,σ[i]? =some (some v)/\Q v H
def tC (v:V):TE:=fun _ H Q=>Q v H
theorem a39 {i:Nat}{x:Str}{pos:Pos}(hN:X.N[i]? =some x)(hv:Vis X.env.scope x)(hd:(x==("__debug__":Str))=false:=by decide)(hcd:(x==("__classdict__":Str))=false:=by decide):PE X (.Name x pos) (tVar i):=by
 intro pins s σ H Q I h;obtain⟨v,e,h⟩:=h;obtain⟨m,hn,hl⟩:=I.loc;obtain⟨u,r,l⟩:=hl i x v hN e hv;have fin:EP X pins σ Q u s:=⟨v,H,I,r,h⟩;rcases l with ⟨hk,hm⟩|⟨hk,c,hc,hcell⟩
 ·exact wpAny_Name (wpAny_loadName_local I.ok.kind hk hn hm fin) hd
 ·rcases hk with hk|hk
  ·exact wpAny_Name (wpAny_loadName_cell I.ok.kind hk hc hcell fin) hd
  ·exact wpAny_Name (wpAny_loadName_free I.ok.kind hk hc hcell fin hcd) hd
theorem b17 {i j pos}:PE X (.Constant (.int i) j pos) (tC (.int i)):=fun _ _ _ H _ I h=>wpAny_Constant_int ⟨.int i,H,I.tok _,⟨_,rfl⟩,h⟩
theorem pe_bl {b j pos}:PE X (.Constant (.bool b) j pos) (tC (.bl b)):=fun _ _ _ H _ I h=>Constant_bool ⟨.bl b,H,I,rfl,h⟩
theorem b18 {j pos}:PE X (.Constant .none j pos) (tC .non):=fun _ _ _ H _ I h=>Constant_none ⟨.non,H,I,rfl,h⟩
theorem b1N {x j pos}:PE X (.Constant (.str x) j pos) (tC (.str x)):=fun _ _ _ H _ I h=>Calls.Constant_str ⟨.str x,H,I.tok _,⟨_,rfl⟩,h⟩
def Gl (X:Cx) (x:Str):Prop:=X.env.kindOf x=some .globalImplicit
theorem a4J {E:Value->Shared->Prop}{pins:List (Addr×Obj)}{s:Shared}{σ:St}{H:Hp}{x:Str}{u:Value}{pos:Pos}{Q:Value->Shared->Prop}(I:Inv X pins σ H s)(hg:Gl X x)(hm:X.mg x=some u)(h:Q u s)
  (hd:(x==("__debug__":Str))=false:=by decide):wpAny (model X.prog X.w) X.A (eval (.Name x pos) X.env) Q E s:=
 Calls.Name_function_global I.ok.kind hg (Calls.loadGlobal_global (by rw[I.ok.glob];exact I.mod.glob.keeps I.bk) hm h) hd
theorem a0e {E:Value->Shared->Prop}{pins:List (Addr×Obj)}{s:Shared}{σ:St}{H:Hp}{x:Str}{u:Value}{pos:Pos}{Q:Value->Shared->Prop}(I:Inv X pins σ H s)(hg:Gl X x)(hm:X.mg x=none)(hv:bootBuiltins x=some u)(h:Q u s)
  (hn:x≠"__name__":=by decide) (hd:(x==("__debug__":Str))=false:=by decide):wpAny (model X.prog X.w) X.A (eval (.Name x pos) X.env) Q E s:=by
 obtain⟨mb,h1,h2⟩:=I.mod.blt;exact Calls.Name_function_global I.ok.kind hg (Calls.loadGlobal_builtin (by rw[I.ok.glob];exact I.mod.glob.keeps I.bk) hm (by rw[I.ok.blt];exact h1.keeps I.bk) ((h2 x hn).trans hv) h) hd
theorem a4O {x:Str}{v:V}{u:Value}{pos:Pos}(hg:Gl X x)(hm:X.mg x=some u)(r:RelV v u)(hd:(x==("__debug__":Str))=false:=by decide):PE X (.Name x pos) (tC v):=
 fun _ _ _ H _ I h=>a4J I hg hm ⟨v,H,I,r,h⟩ hd
theorem a9V {x:Str}{v:V}{u:Value}{pos:Pos}(hg:Gl X x)(hm:X.mg x=none)(hv:bootBuiltins x=some u)(r:RelV v u)(hn:x≠"__name__":=by decide)(hd:(x==("__debug__":Str))=false:=by decide):PE X (.Name x pos) (tC v):=
 fun _ _ _ H _ I h=>a0e I hg hm hv ⟨v,H,I,r,h⟩ hn hd
variable {a b:Expr}{ta tb:TE}{pos:Pos}
variable {tA tB':TT}{rest:List Expr}
def tAnd (t u:TT):TT:=fun σ H Q=>t σ H fun c H1=>if c=true then u σ H1 Q else Q false H1
def tOr (t u:TT):TT:=fun σ H Q=>t σ H fun c H1=>if c=true then Q true H1 else u σ H1 Q
def tNot (t:TT):TT:=fun σ H Q=>t σ H fun c H1=>Q (!c) H1
theorem pw_and1 (ha:PT X a tA):PW X (.BoolOp .And [a] pos) tA:=by
 intro wh pins s σ H Q I h;refine isTrue_and (thn (ha pins s σ H Q I h) fun c s1 e=>?_);cases c with
 | true=>exact isTrue_and_nil e
 | false=>exact e
theorem pw_or1 (ha:PT X a tA):PW X (.BoolOp .Or [a] pos) tA:=by
 intro wh pins s σ H Q I h;refine isTrue_or (thn (ha pins s σ H Q I h) fun c s1 e=>?_);cases c with
 | false=>exact isTrue_or_nil e
 | true=>exact e
theorem pw_and (ha:PT X a tA)(hb:PW X (.BoolOp .And (b::rest) pos) tB'):PW X (.BoolOp .And (a::b::rest) pos) (tAnd tA tB'):=by
 intro wh pins s σ H Q I h;refine isTrue_and (thn (ha pins s σ H _ I h) fun c s1 ⟨H1,I1,q1⟩=>?_);cases c with
 | true=>exact hb wh pins s1 σ H1 Q I1 q1
 | false=>exact⟨H1,I1,q1⟩
theorem pw_or (ha:PT X a tA)(hb:PW X (.BoolOp .Or (b::rest) pos) tB'):PW X (.BoolOp .Or (a::b::rest) pos) (tOr tA tB'):=by
 intro wh pins s σ H Q I h;refine isTrue_or (thn (ha pins s σ H _ I h) fun c s1 ⟨H1,I1,q1⟩=>?_);cases c with
 | true=>exact⟨H1,I1,q1⟩
 | false=>exact hb wh pins s1 σ H1 Q I1 q1
theorem b1m (ha:PT X a tA):PT X (.UnaryOp .Not a pos) (tNot tA):=by
 intro pins s σ H Q I h;exact isTrue_not (ha pins s σ H (fun c H1=>Q (!c) H1) I h)
def tAndV (ta tb:TE):TE:=fun σ H Q=>ta σ H fun x H1=>∃c,x= .bl c/\if c=true then tb σ H1 Q else Q (.bl false) H1
theorem b1u {op}{t:TE}(h:PE X a t):PE X (.BoolOp op [a] pos) t:=fun pins s σ H Q I hw=>BoolOp_one (h pins s σ H Q I hw)
theorem b1Z (ha:PE X a ta)(hb:PE X (.BoolOp .And (b::rest) pos) tb):PE X (.BoolOp .And (a::b::rest) pos) (tAndV ta tb):=by
 intro pins s σ H Q I h;refine BoolOp_and (thn (ha pins s σ H _ I h) fun v s1 h0=>ex5 h0 fun x H1 I1 r1 q1=>?_);obtain⟨c,rfl,q1⟩:=q1;cases r1;refine xU ?_;cases c with
 | true=>exact hb pins s1 σ H1 Q I1 q1
 | false=>exact⟨.bl false,H1,I1,rfl,q1⟩
def tIf (t:TT) (ta tb:TE):TE:=fun σ H Q=>t σ H fun c H1=>if c=true then ta σ H1 Q else tb σ H1 Q
theorem a66 {c:Expr}(hc:PT X c tA)(ha:PE X a ta)(hb:PE X b tb):PE X (.IfExp c a b pos) (tIf tA ta tb):=by
 intro pins s σ H Q I h;refine wpAny_IfExp (thn (hc pins s σ H _ I h) fun d s1 ⟨H1,I1,q1⟩=>?_);cases d with
 | true=>exact ha pins s1 σ H1 Q I1 q1
 | false=>exact hb pins s1 σ H1 Q I1 q1
end
def SqL (K:PySem.W.Frag) (H:Hp) (a:Addr) (xs:List V):Prop:=
 Rd H a (.lst xs)\/
  ∃(o:Obj) (its:Array Value) (n:Nat),K.lookup a=some o/\o.cls= .type "list"/\o.dict=none/\o.data= .seq its n/\its.size<=sizeLine/\Vals xs its.toList
def SqT (K:PySem.W.Frag) (H:Hp) (a:Addr) (xs:List V):Prop:=
 Rd H a (.tup xs)\/
  ∃(o:Obj) (its:Array Value) (n:Nat),K.lookup a=some o/\o.cls= .type "tuple"/\o.dict=none/\o.data= .seq its n/\its.size<=sizeLine/\Vals xs its.toList
def absV:Value->Option V
 | .none=>some .non
 | .bool b=>some (.bl b)
 | .int i _=>some (.int i)
 | .str x _=>some (.str x)
 | .bytes b _=>some (.byt b)
 | .float b _=>some (.flt b)
 | .ref a=>some (.ref a)
 | .type n=>some (.ty n)
 | _=>none
theorem RelV.abs {x:V}{u:Value}(r:RelV x u):absV u=some x:=by
 cases x with
 | non=>cases r;rfl
 | bl _=>cases r;rfl
 | int _=>obtain⟨t,rfl⟩:=r;rfl
 | str _=>obtain⟨t,rfl⟩:=r;rfl
 | byt _=>obtain⟨t,rfl⟩:=r;rfl
 | flt _=>obtain⟨t,rfl⟩:=r;rfl
 | ref _=>cases r;rfl
 | ty _=>cases r;rfl
theorem RelV.inj {x y:V}{u:Value}(r:RelV x u)(q:RelV y u):x=y:=qQ (r.abs.symm.trans q.abs)
theorem Vals.inj:∀{xs ys:List V} {us:List Value},Vals xs us->Vals ys us->xs=ys
 | _,_,_,.nil,.nil=>rfl
 | _,_,_,.cons r t,.cons r' t'=>by rw[r.inj r',Vals.inj t t']
section
variable {X:Cx}{pins:List (Addr×Obj)}{σ:St}{H:Hp}{s:Shared}{a:Addr}{xs ys:List V}
theorem SqL.of {K:PySem.W.Frag}(h:H a=some (.lst xs)):SqL K H a xs:=.inl (.inl h)
theorem SqT.of {K:PySem.W.Frag}(h:H a=some (.tup xs)):SqT K H a xs:=.inl (.inl h)
theorem Inv.list (I:Inv X pins σ H s)(h:SqL X.K H a xs):∃its:List Value,Vals xs its/\PlainL s.heap a its.toArray/\xs.length<=sizeLine:=by
 rcases h with h|⟨o,its,n,hk,hc,hd,hs,hz,r⟩
 ·obtain⟨z,its,n,r,e⟩:=h.ok I.hok;exact⟨its,r,⟨_,n,e,rfl,rfl,rfl⟩,z⟩
 ·refine⟨its.toList,r,⟨o,n,I.kIn a o hk,hc,hd,by simpa using hs⟩,?_⟩
  have e:=r.length;simp only[qW] at e;walk_at "o"
theorem Inv.tupN (I:Inv X pins σ H s)(h:SqT X.K H a xs):∃its:List Value,Vals xs its/\TupN s.heap a its.toArray/\xs.length<=sizeLine:=by
 rcases h with h|⟨o,its,n,hk,hc,hd,hs,hz,r⟩
 ·obtain⟨z,its,r,p⟩:=h.ok I.hok;exact⟨its,r,p,z⟩
 ·refine⟨its.toList,r,⟨o,I.kIn a o hk,hc,⟨n,by simpa using hs⟩,hd⟩,?_⟩
  have e:=r.length;simp only[qW] at e;walk_at "o"
theorem Inv.tuple (I:Inv X pins σ H s)(h:SqT X.K H a xs):∃its:List Value,Vals xs its/\IsTup s.heap a its.toArray/\xs.length<=sizeLine:=let ⟨its,r,p,z⟩:=I.tupN h;⟨its,r,p.is,z⟩
theorem Inv.list_inj (I:Inv X pins σ H s)(h:SqL X.K H a xs)(h':SqL X.K H a ys):xs=ys:=by
 obtain⟨its,r,⟨o,n,e,_,_,d⟩,_⟩:=I.list h;obtain⟨its',r',⟨o',n',e',_,_,d'⟩,_⟩:=I.list h';rw[e] at e';cases e';rw[d] at d';injection d' with d1 _
 have:its=its':=by simpa using qN Array.toList d1
 subst this;exact r.inj r'
theorem Inv.tuple_inj (I:Inv X pins σ H s)(h:SqT X.K H a xs)(h':SqT X.K H a ys):xs=ys:=by
 obtain⟨its,r,⟨o,e,_,n,d⟩,_⟩:=I.tuple h;obtain⟨its',r',⟨o',e',_,n',d'⟩,_⟩:=I.tuple h';rw[e] at e';cases e';rw[d] at d';injection d' with d1 _
 have:its=its':=by simpa using qN Array.toList d1
 subst this;exact r.inj r'
end
abbrev Cx.wish (X:Cx) (E:Value->Shared->Prop):Cx:={X with xe:=E}
abbrev Cx.nox (X:Cx):Cx:=X.wish fun _ _=>False
theorem Cx.Ok.wish {X:Cx}(ok:X.Ok)(E:Value->Shared->Prop):(X.wish E).Ok:=
 ⟨ok.mod,ok.kind,ok.glob,ok.blt,ok.above,ok.inj,ok.has,ok.cab,ok.hd,ok.frames,ok.stk,ok.exf,ok.bs,ok.bsz,ok.noex,ok.exfs,ok.funs,ok.frf⟩
theorem Cx.Ok.unwish {X:Cx}{E:Value->Shared->Prop}(ok:(X.wish E).Ok):X.Ok:=
 ⟨ok.mod,ok.kind,ok.glob,ok.blt,ok.above,ok.inj,ok.has,ok.cab,ok.hd,ok.frames,ok.stk,ok.exf,ok.bs,ok.bsz,ok.noex,ok.exfs,ok.funs,ok.frf⟩
section
variable {X:Cx}{pins:List (Addr×Obj)}{σ:St}{H:Hp}{s:Shared}{E:Value->Shared->Prop}
theorem Inv.wish (I:Inv X pins σ H s)(E:Value->Shared->Prop):Inv (X.wish E) pins σ H s:=⟨I.ok.wish E,I.os,I.bare,I.base,I.loc,I.cell,I.free,I.freeC,I.pin,I.hok,I.len⟩
theorem Inv.unwish (I:Inv (X.wish E) pins σ H s):Inv X pins σ H s:=⟨I.ok.unwish,I.os,I.bare,I.base,I.loc,I.cell,I.free,I.freeC,I.pin,I.hok,I.len⟩
theorem SP.unwish {D:Ends}{f:Flow}{s':Shared}(h:SP (X.wish E) pins D f s'):SP X pins D f s':=by
 cases f with
 | next=>obtain⟨σ',H',I,q⟩:=h;exact⟨σ',H',I.unwish,q⟩
 | brk=>obtain⟨σ',H',I,q⟩:=h;exact⟨σ',H',I.unwish,q⟩
 | cont=>obtain⟨σ',H',I,q⟩:=h;exact⟨σ',H',I.unwish,q⟩
 | ret u=>obtain⟨v,σ',H',I,r,q⟩:=h;exact⟨v,σ',H',I.unwish,r,q⟩
theorem PSs.nox {st:List Stmt}{t:TS}(h:PSs X.nox st t):PSs X st t:=fun pins s σ H D I hw=>
 zY (h pins s σ H D (I.wish _) hw) (fun _ _ q=>q.unwish) fun _ _ z=>False.elim z
end
section
variable {X:Cx}{st:Stmt}{rest:List Stmt}{t u:TS}{e:Expr}{te:TE}{pos:Pos}
def tNext:TS:=fun D σ H=>D.nx σ H
def tSeq (t u:TS):TS:=fun D σ H=>t {D with nx:=u D} σ H
theorem a9Z:PSs X [] tNext:=fun _ _ σ H _ I h=>wpAny_execs_nil ⟨σ,H,I,h⟩
theorem a62 (h1:PS X st t)(h2:PSs X rest u):PSs X (st::rest) (tSeq t u):=by
 intro pins s σ H D I h;refine wpAny_execs_cons (thn (h1 pins s σ H {D with nx:=u D} I h) fun f s1 q=>?_)
 cases f with
 | next=>
  obtain⟨σ',H',I',q⟩:=q;exact h2 pins s1 σ' H' D I' q
 | ret v=>exact q
 | brk=>exact q
 | cont=>exact q
theorem a9I (h1:PS X st t):PSs X [st] t:=by
 intro pins s σ H D I h;refine wpAny_execs_cons (thn (h1 pins s σ H D I h) fun f s1 q=>?_);cases f with
 | next=>exact wpAny_execs_nil q
 | ret v=>exact q
 | brk=>exact q
 | cont=>exact q
theorem Inv.quiet {pins:List (Addr×Obj)}{σ:St}{H:Hp}{s:Shared}(I:Inv X pins σ H s):interactive X.env=false:=by simp[interactive,I.ok.kind]
def tDrop (te:TE):TS:=fun D σ H=>te σ H fun _ H1=>D.nx σ H1
theorem a9L (he:PE X e te)(hs:swapsWith e none pos.line X.env=pure false:=by rfl):PS X (.Expr e pos) (tDrop te):=by
 intro pins s σ H D I h;exact wpAny_Expr_any (thn (he pins s σ H _ I h) fun v s1 h0=>ex5 h0 fun x H1 I1 r1 q1=>⟨σ,H1,I1,q1⟩) I.quiet hs
def tRet (te:TE):TS:=fun D σ H=>te σ H D.rt
theorem b1S (he:PE X e te):PS X (.Return (some e) pos) (tRet te):=by
 intro pins s σ H D I h;exact wpAny_Return_some (thn (he pins s σ H _ I h) fun v s1 h0=>ex5 h0 fun x H1 I1 r1 q1=>⟨x,σ,H1,I1,r1,q1⟩)
def tIfS (c:TT) (t u:TS):TS:=fun D σ H=>c σ H fun b H1=>if b=true then t D σ H1 else u D σ H1
theorem ps_if {c:Expr}{a b:List Stmt}{tc:TT}(hc:PT X c tc)(ha:PSs X a t)(hb:PSs X b u):PS X (.If c a b pos) (tIfS tc t u):=by
 intro pins s σ H D I h;refine wpAny_If (thn (hc pins s σ H _ I h) fun d s1 ⟨H1,I1,q1⟩=>?_);cases d with
 | true=>exact ha pins s1 σ H1 D I1 q1
 | false=>exact hb pins s1 σ H1 D I1 q1
def tNever:TS:=fun _ _ _=>False
theorem a7W:PS X st tNever:=fun _ _ _ _ _ _ h=>h.elim
end
abbrev TG:=V->St->Hp->(St->Hp->Prop)->Prop
abbrev TGs:=List V->St->Hp->(St->Hp->Prop)->Prop
def PG (X:Cx) (target:Expr) (t:TG):Prop:=
 ∀(pins:List (Addr×Obj)) (s:Shared) (σ:St) (H:Hp) (v:V) (u:Value) (Q:St->Hp->Prop),Inv X pins σ H s->RelV v u->t v σ H Q->
  wpAny (model X.prog X.w) X.A (assign target X.env u) (fun _ s'=>∃σ' H',Inv X pins σ' H' s'/\Q σ' H') X.xe s
def PGs (X:Cx) (ts:List Expr) (t:TGs):Prop:=
 ∀(pins:List (Addr×Obj)) (s:Shared) (σ:St) (H:Hp) (vs:List V) (us:List Value) (Q:St->Hp->Prop),Inv X pins σ H s->Vals vs us->t vs σ H Q->
  wpAny (model X.prog X.w) X.A (assignInOrder ((assignEach ts X.env).map (·.2)) us) (fun _ s'=>∃σ' H',Inv X pins σ' H' s'/\Q σ' H') X.xe s
section
variable {X:Cx}{pos:Pos}
def gName (i:Nat):TG:=fun v σ H Q=>Q (σ.set i (some v)) H
theorem a4L {i:Nat}{x:Str}(hN:X.N.Nodup)(hi:X.N[i]? =some x)(hx:Loc X.env.scope x)(hf:X.fn x=true\/X.env.scope.names.lookup x=some .local:=by first|exact .inl rfl|exact .inr rfl|assumption):PG X (.Name x pos) (gName i):=by
 intro pins s σ H v u Q I r h;exact wpAny_assign_Name (V2 I hN hi hx r (fun s' I'=>⟨_,H,I',h⟩) hf)
def gNil:TGs:=fun vs σ H Q=>vs=[]/\Q σ H
def gCons (t:TG) (u:TGs):TGs:=fun vs σ H Q=>∃v r,vs=v::r/\t v σ H fun σ' H'=>u r σ' H' Q
theorem a88:PGs X [] gNil:=by
 intro pins s σ H vs us Q I r h;obtain⟨e,h⟩:=h;subst e;cases r;exact assignInOrder_nil ⟨σ,H,I,h⟩
theorem a7L {e:Expr}{es:List Expr}{t:TG}{u:TGs}(h1:PG X e t)(h2:PGs X es u)
  (hs:(assignEach (e::es) X.env).map (·.2)=assign e X.env::(assignEach es X.env).map (·.2):=by rfl):PGs X (e::es) (gCons t u):=by
 intro pins s σ H vs us Q I r h;obtain⟨v,vr,e1,h⟩:=h;subst e1;cases r with
 | cons r rr=>
  rw[hs];refine assignInOrder_cons (thn (h1 pins s σ H _ _ _ I r h) fun _ s1 ⟨σ1,H1,I1,q1⟩=>?_);exact h2 pins s1 σ1 H1 _ _ Q I1 rr q1
def gTup (K:PySem.W.Frag) (n:Nat) (t:TGs):TG:=fun v σ H Q=>∃a xs,v= .ref a/\SqT K H a xs/\xs.length=n/\t xs σ H Q
theorem b2d {es:List Expr}{k:Nat}{t:TGs}{n:Nat}(hc:X.calm=true)(h:PGs X es t)
  (hn:(assignEach es X.env).length=n:=by rfl) (hst:(assignEach es X.env).findIdx? (·.1)=none:=by rfl):PG X (.Tuple es k pos) (gTup X.K n t):=by
 intro pins s σ H v u Q I r hw;obtain⟨a,xs,e1,hq,hl,hw⟩:=hw;subst e1;cases r;obtain⟨its,rv,ht,hz⟩:=I.tuple hq;refine assign_Tuple_tuple (I.ok.hd hc) ht (by simp[hn,<-hl,rv.length]) hst fun h' hx=>?_
 have I1:Inv X pins σ H {s with heap:=h'}:=I.kept (t':=s.toks) fun b o e=>hx b o (zQ (zP e)) e
 exact h pins _ σ H xs _ Q I1 (by simpa using rv) hw
def tAsg (te:TE) (g:TG):TS:=fun D σ H=>te σ H fun x H1=>g x σ H1 D.nx
theorem b1L {tg e:Expr}{te:TE}{g:TG}(he:PE X e te)(hg:PG X tg g)(hs:swapsWithSole [tg] e pos.line X.env=pure false:=by rfl)(hw:swappedStores [tg] e X.env=pure none:=by rfl)
  (h1:(assignEach [tg] X.env).map (·.2)=[assign tg X.env]:=by rfl):PS X (.Assign [tg] e pos) (tAsg te g):=by
 intro pins s σ H D I h;refine wpAny_Assign_stores (thn (he pins s σ H _ I h) fun v s1 h0=>ex5 h0 fun x H1 I1 r1 q1=>?_) hs hw;rw[h1];exact thn (hg pins s1 σ H1 x v _ I1 r1 q1) fun _ s2 q=>q
theorem b1x {i:Nat}{x:Str}{e:Expr}{te:TE}{pos':Pos}(hN:X.N.Nodup)(hi:X.N[i]? =some x)(hx:Loc X.env.scope x)(he:PE X e te)(hs:swapsWith e (some (.Name x pos')) pos.line X.env=pure false:=by rfl)(hf:X.fn x=true\/X.env.scope.names.lookup x=some .local:=by first|exact .inl rfl|exact .inr rfl|assumption):
  PS X (.Assign [.Name x pos'] e pos) (tAsg te (gName i)):=by
 intro pins s σ H D I h;refine wpAny_Assign_Name (thn (he pins s σ H _ I h) fun v s1 h0=>ex5 h0 fun y H1 I1 r1 q1=>?_) hs;exact V2 I1 hN hi hx r1 (fun s2 I2=>⟨_,H1,I2,q1⟩) hf
def tPar (i j:Nat) (ta:TA):TS:=fun D σ H=>ta σ H fun vs H1=>∃v w,vs=[v,w]/\D.nx ((σ.set i (some v)).set j (some w)) H1
theorem a8k {i j:Nat}{x y:Str}{a b:Expr}{ta:TA}{px py pt:Pos}{kt k2 pt2}(hc:X.calm=true)(hN:X.N.Nodup)(hi:X.N[i]? =some x)(hj:X.N[j]? =some y)(hij:i≠j)
  (hx:X.env.scope.names.lookup x=some .local) (hy:X.env.scope.names.lookup y=some .local) (ha:PA X [a,b] ta)
  (hw:swappedStores [.Tuple [.Name x px,.Name y py] kt pt] (.Tuple [a,b] k2 pt2) X.env=pure (some [x,y]))
  (hs:swapsWithSole [.Tuple [.Name x px,.Name y py] kt pt] (.Tuple [a,b] k2 pt2) pos.line X.env=pure false:=by rfl):
  PS X (.Assign [.Tuple [.Name x px,.Name y py] kt pt] (.Tuple [a,b] k2 pt2) pos) (tPar i j ta):=by
 intro pins s σ H D I h;rw[exec_Assign_arm];refine zA (wpAny_standAt ?_);rw[hs];refine zA (zB ?_);rw[if_neg (by decide)]
 refine zA (Tuple_ (thn (ha _ pins s σ H _ I h) fun us s1 h0=>ex5 h0 fun vs H1 I1 r1 q1=>?_));obtain⟨v,w,e1,q1⟩:=q1;subst e1;obtain⟨u1,u2,rfl,rv,rw'⟩:∃u1 u2,us=[u1,u2]/\RelV v u1/\RelV w u2:=by
  cases r1 with
  | cons p q=>
   cases q with
   | cons p' q'=>
    cases q';exact⟨_,_,rfl,p,p'⟩
 refine qK ?_ (by show 2<=sizeLine;decide)
 have I2:Inv X pins σ H1 {s1 with heap:=s1.heap.push {cls:=.type "tuple",data:=.seq [u1,u2].toArray}}:=I1.kept (t':=s1.toks) fun b o e=>zD _ e
 rw[hw];refine zA (zB ?_);show wpAny (model X.prog X.w) X.A (do rule "assign.swapped-stores";let items <-unpackItems (.ref s1.heap.objs.size) 2 none;assignInOrder [fun v=>bindName X.env y v,fun v=>bindName X.env x v] items.reverse;pure Flow.next) _ _ _
 refine zA (jZ (zA (unpackItems_tuple (items:= #[u1,u2]) (I.ok.hd hc) (IsTup.new s1.heap _) fun h' hx'=>?_)));have I3:=I2.kept (h':=h') (t':=s1.toks) fun b o e=>hx' b o (zQ (zP e)) e;show wpAny _ _ (assignInOrder [fun v=>bindName X.env y v,fun v=>bindName X.env x v] [u2,u1] >>=fun _=>pure Flow.next) _ _ _;refine zA (assignInOrder_cons (wpAny_bindName (V2 I3 hN hj (.inl hy) rw' (fun s2 I4=>?_) (.inr hy))));refine assignInOrder_cons (wpAny_bindName (V2 I4 hN hi (.inl hx) rv (fun s3 I5=>assignInOrder_nil (zB ?_)) (.inr hx)));rw[List.set_comm _ _ (qO hij)] at I5;exact⟨_,H1,I5,q1⟩
end
section
variable {X:Cx}{pos:Pos}
def tWhile (c:TT) (tb:TS):TS:=fun D σ H=>∃W:Nat->St->Hp->Prop,(∃m,W m σ H)/\∀m σ H,W m σ H->
 c σ H fun b H1=>if b=true then ∃N:St->Hp->Prop,(∀σ' H',N σ' H'->∃m',m'<m/\W m' σ' H')/\tb {D with nx:=N,ct:=N,bk:=D.nx} σ H1 else D.nx σ H1
theorem a6T {c:Expr}{body:List Stmt}{tc:TT}{tb:TS}(hp:PassesOwn (model X.prog X.w) X.A X.env X.xe)(hc:PT X c tc)(hb:PSs X body tb):PS X (.While c body [] pos) (tWhile tc tb):=by
 intro pins s σ H D I h;obtain⟨W,⟨m0,w0⟩,turn⟩:=h;refine wpAny_While (codeAny_whileLoop (fun n s'=>∃σ' H',Inv X pins σ' H' s'/\W n σ' H') ?_ m0 ⟨σ,H,I,w0⟩);rintro n s1 ⟨σ1,H1,I1,w1⟩;refine jV hp (thn (hc pins s1 σ1 H1 _ I1 (turn n σ1 H1 w1)) fun b s2 ⟨H2,I2,q2⟩=>?_);cases b with
 | true=>
  obtain⟨N,hN,q2⟩:=q2;rw[if_pos rfl];refine jV hp (thn (hb pins s2 σ1 H2 _ I2 q2) fun f s3 q3=>?_);cases f with
  | next=>
   obtain⟨σ3,H3,I3,n3⟩:=q3;obtain⟨m',hm,w3⟩:=hN σ3 H3 n3;exact⟨m',hm,σ3,H3,I3,w3⟩
  | cont=>
   obtain⟨σ3,H3,I3,n3⟩:=q3;obtain⟨m',hm,w3⟩:=hN σ3 H3 n3;exact⟨m',hm,σ3,H3,I3,w3⟩
  | brk=>exact q3
  | ret v=>exact q3
 | false=>
  rw[if_neg zS];exact wpAny_execs_nil ⟨σ1,H2,I2,q2⟩
end
structure It where
 go:Nat->Hp->Prop
 yld:Nat->Hp->V->Hp->Prop
 stop:Nat->Hp->Prop
def FpOk (X:Cx) (pins:List (Addr×Obj)) (H:Hp) (b:Addr):Prop:=
 H b=none/\b≠X.env.locals/\b∉X.fs/\(b∈X.ex\/X.s₀.heap.objs.size<=b)/\(∀x c,X.env.cells.lookup x=some c->c≠b)/\∀p∈X.pn++pins,p.1≠b
theorem Inv.fpOk {X:Cx}{pins:List (Addr×Obj)}{σ:St}{H H':Hp}{s:Shared}{b:Addr}(I:Inv X pins σ H s)(hb:s.heap.objs.size<=b)(hn:H' b=none):FpOk X pins H' b:=by
 refine⟨hn,xF (zF I.lt hb),I.nofs hb,.inr (zG I.sz hb),fun x c e z=>?_,fun p hp z=>?_⟩
 ·obtain⟨v,q⟩:=I.cell x c e;exact absurd (zF q.lt (by rw[z];exact hb)) (jE _)
 ·exact absurd (zF (zP (I.pin p hp).1) (by rw[z];exact hb)) (jE _)
structure Turn (P:Program) (w:World) (K:PySem.W.Frag) (tg:Expr) (J:It) (fp:List Addr) (it:Addr) (tn:Nat->Heap->Prop):Prop where
 mem:it∈fp
 obj:∀i h,tn i h->∀b∈fp,∃o,h.get? b=some o/\∀v,o.data≠.cell v
 keep:∀i h h',tn i h->(∀b∈fp,∀o,h.get? b=some o->h'.get? b=some o)->tn i h'
 item:∀(X:Cx),X.prog=P->X.w=w->X.K=K->X.calm=true->∀(i:Nat) (pins:List (Addr×Obj)) (s:Shared) (σ:St) (H:Hp) (E:Value->Shared->Prop),Inv X pins σ H s->(∀b∈fp,FpOk X pins H b)->tn i s.heap->J.go i H->
  wpAny (model P w) X.A (pyNext (.ref it)) (fun r s1=>∃u,r=some u/\
   wpAny (model P w) X.A (letOwnedTupleGo tg (.ref it) u) (fun _ s2=>∃x H',Inv X pins σ H' s2/\RelV x u/\J.yld i H x H'/\tn (i+1) s2.heap/\∀b∈fp,H' b=none) E s1) E s
 done:∀(X:Cx),X.prog=P->X.w=w->X.K=K->X.calm=true->∀(i:Nat) (pins:List (Addr×Obj)) (s:Shared) (σ:St) (H:Hp) (E:Value->Shared->Prop),Inv X pins σ H s->(∀b∈fp,FpOk X pins H b)->tn i s.heap->J.stop i H->
  wpAny (model P w) X.A (pyNext (.ref it)) (fun r s1=>r=none/\Inv X pins σ H s1) E s
 self:∀(A:Around) (i:Nat) (s:Shared) (Q:Value->Shared->Prop) (E:Value->Shared->Prop),tn i s.heap->Q (.ref it) s->wpAny (model P w) A (pyIter (.ref it)) Q E s
abbrev TI:=St->Hp->(It->Hp->Prop)->Prop
def PIE (X:Cx) (pins:List (Addr×Obj)) (σ:St) (tg:Expr) (R:It->Hp->Prop) (itv:Value) (s2:Shared):Prop:=
 ∃(it:Addr) (fp:List Addr) (tn:Nat->Heap->Prop) (J:It) (H':Hp),itv= .ref it/\Inv X pins σ H' s2/\Turn X.prog X.w X.K tg J fp it tn/\tn 0 s2.heap/\(∀b∈fp,FpOk X pins H' b)/\R J H'
def PI (X:Cx) (tg iter:Expr) (wi:TI):Prop:=
 ∀(pins:List (Addr×Obj)) (s:Shared) (σ:St) (H:Hp) (R:It->Hp->Prop),Inv X pins σ H s->wi σ H R->
  wpAny (model X.prog X.w) X.A (eval iter X.env) (fun v s1=>wpAny (model X.prog X.w) X.A (pyIter v) (PIE X pins σ tg R) X.xe s1) X.xe s
theorem a5o {M:Model}{A:Around}{E:Value->Shared->Prop}{s:Shared}{tg:Expr}{it:Addr}{u:Value}{o:Obj}{n:String}{vs:Array Value}{Q:Unit->Shared->Prop}(ho:s.heap.get? it=some o)(hc:o.cls= .type n)(hd:o.data= .fields vs)
  (hn:["enumerate","zip","dict_itemiterator","dict_reverseitemiterator","odict_iterator","itertools.zip_longest","itertools.pairwise"].contains n=false) (hQ:Q () s):wpAny M A (letOwnedTupleGo tg (.ref it) u) Q E s:=by
 unfold letOwnedTupleGo;cases tg<;>first
  | exact zB hQ
  | (cases u<;>first
    | exact zB hQ
    | (refine zA (wpAny_load ho ?_)
       rw[hc,hd];show wpAny M A (if(["enumerate","zip","dict_itemiterator","dict_reverseitemiterator","odict_iterator","itertools.zip_longest","itertools.pairwise"].contains n&&vs[0]? == some (rawInt _))=true then _ else _) Q E s;rw[if_neg (by intro h;rw[hn,Bool.false_and] at h;cases h)]
       exact zB hQ))
def Itl (K:PySem.W.Frag) (a:Addr):It:=
 ⟨fun i H=>∃xs x,SqL K H a xs/\xs[i]? =some x,fun i H x H'=>H'=H/\∀xs,SqL K H a xs->xs[i]? =some x,fun i H=>∃xs,SqL K H a xs/\xs.length<=i⟩
def Itt (K:PySem.W.Frag) (a:Addr):It:=
 ⟨fun i H=>∃xs x,SqT K H a xs/\xs[i]? =some x,fun i H x H'=>H'=H/\∀xs,SqT K H a xs->xs[i]? =some x,fun i H=>∃xs,SqT K H a xs/\xs.length<=i⟩
def Itr (lo:Int) (n:Nat):It:=⟨fun i _=>i<n,fun i H x H'=>H'=H/\x= .int (lo+i),fun i _=>n<=i⟩
theorem a6s {P:Program}{w:World}{K:PySem.W.Frag}{tg:Expr}(a it:Addr):Turn P w K tg (Itl K a) [it] it (fun i h=>h.IsListIter it a i) where
 mem:=by simp
 obj:=fun i h st b hb=>by
  have e:b=it:=by simpa using hb
  subst e;obtain⟨o,e,c,d⟩:=st;exact⟨o,e,fun v z=>by rw[d] at z;cases z⟩
 keep:=fun i h h' st k=>st.at fun o e=>k it (by simp) o e
 item:=by
  intro X hP hw hK hc i pins s σ H E I hf st hg;subst hP hw hK;obtain⟨xs,x,hq,hx⟩:=hg;obtain⟨its,rv,p,hz⟩:=I.list hq;obtain⟨u,hu,ru⟩:=rv.get hx;obtain⟨f0,f1,f2,f3,f4,f5⟩:=hf it (by simp)
  refine wpAny_pyNext_list_item st p.isList (x:=u) (by simpa using hu) fun h' st' sb=>?_
  have I1:Inv X pins σ H {s with heap:=h'}:=I.turned (t':=s.toks) (fun b o hb e=>(sb.2 b hb).trans e) f0 f1 f3 f4 f5
  obtain⟨o,e,c,d⟩:=id st';exact⟨u,rfl,a5o (s:={s with heap:=h'}) e c d (by decide) ⟨x,H,I1,ru,⟨rfl,fun ys hy=>by rw[I.list_inj hy hq];exact hx⟩,st',fun b hb=>(hf b hb).1⟩⟩
 done:=by
  intro X hP hw hK hc i pins s σ H E I hf st hg;subst hP hw hK;obtain⟨xs,hq,hx⟩:=hg;obtain⟨its,rv,p,hz⟩:=I.list hq;obtain⟨f0,f1,f2,f3,f4,f5⟩:=hf it (by simp)
  have hl:=rv.length;exact wpAny_pyNext_list_end (I.ok.hd hc) st p.isList (by simp;walk_at "o") fun h' eb=>⟨rfl,I.turned (t':=s.toks) (fun b o hb e=>eb b o hb e) f0 f1 f3 f4 f5⟩
 self:=fun _ _ _ _ _ st h=>wpAny_pyIter_listiter st h
theorem a4B {P:Program}{w:World}{K:PySem.W.Frag}{tg:Expr}(a it:Addr):Turn P w K tg (Itt K a) [it] it (fun i h=>h.IsTupleIter it a i) where
 mem:=by simp
 obj:=fun i h st b hb=>by
  have e:b=it:=by simpa using hb
  subst e;obtain⟨o,e,c,d⟩:=st;exact⟨o,e,fun v z=>by rw[d] at z;cases z⟩
 keep:=fun i h h' st k=>st.at fun o e=>k it (by simp) o e
 item:=by
  intro X hP hw hK hc i pins s σ H E I hf st hg;subst hP hw hK;obtain⟨xs,x,hq,hx⟩:=hg;obtain⟨its,rv,p,hz⟩:=I.tuple hq;obtain⟨u,hu,ru⟩:=rv.get hx;obtain⟨f0,f1,f2,f3,f4,f5⟩:=hf it (by simp)
  refine wpAny_pyNext_tuple_item st (show s.heap.IsTuple a its.toArray from p) (x:=u) (by simpa using hu) fun h' st' sb=>?_
  have I1:Inv X pins σ H {s with heap:=h'}:=I.turned (t':=s.toks) (fun b o hb e=>(sb.2 b hb).trans e) f0 f1 f3 f4 f5
  obtain⟨o,e,c,d⟩:=id st';exact⟨u,rfl,a5o (s:={s with heap:=h'}) e c d (by decide) ⟨x,H,I1,ru,⟨rfl,fun ys hy=>by rw[I.tuple_inj hy hq];exact hx⟩,st',fun b hb=>(hf b hb).1⟩⟩
 done:=by
  intro X hP hw hK hc i pins s σ H E I hf st hg;subst hP hw hK;obtain⟨xs,hq,hx⟩:=hg;obtain⟨its,rv,p,hz⟩:=I.tuple hq;obtain⟨f0,f1,f2,f3,f4,f5⟩:=hf it (by simp)
  have hl:=rv.length;exact wpAny_pyNext_tuple_end (I.ok.hd hc) st (show s.heap.IsTuple a its.toArray from p) (by simp;walk_at "o") fun h' eb=>⟨rfl,I.turned (t':=s.toks) (fun b o hb e=>eb b o hb e) f0 f1 f3 f4 f5⟩
 self:=fun _ _ _ _ _ st h=>wpAny_pyIter_tupleiter st h
theorem a4v {P:Program}{w:World}{K:PySem.W.Frag}{tg:Expr}(it:Addr)(lo:Int)(n:Nat):Turn P w K tg (Itr lo n) [it] it (fun i h=>IsRangeIter h it (lo+(i:Nat)*1) ((n:Int)-(i:Nat)) 1) where
 mem:=by simp
 obj:=fun i h st b hb=>by
  have e:b=it:=by simpa using hb
  subst e
  exact⟨_,st,fun v z=>by
   have z':Data.fields _=Data.cell v:=z
   cases z'⟩
 keep:=fun i h h' st k=>k it (by simp) _ st
 item:=by
  intro X hP hw hK hc i pins s σ H E I hf st hg;subst hP hw hK;obtain⟨f0,f1,f2,f3,f4,f5⟩:=hf it (by simp)
  have W:=Walks.range (prog:=X.prog) (w:=X.w) (I.ok.hd hc) it lo 1 n;refine W.item i s _ _ hg st fun v h' tk hv st' kk=>?_;obtain⟨t,rfl⟩:=hv;have I1:Inv X pins σ H {s with heap:=h',toks:=tk}:=I.turned (fun b o hb e=>kk b o (by simpa using hb) e) f0 f1 f3 f4 f5
  refine⟨_,rfl,a5o (s:={s with heap:=h',toks:=tk}) (n:="range_iterator") st' rfl rfl (by decide) ⟨.int (lo+i),H,I1,⟨t,?_⟩,⟨rfl,rfl⟩,st',fun b hb=>(hf b hb).1⟩⟩
  rw[Int.mul_one]
 done:=by
  intro X hP hw hK hc i pins s σ H E I hf st hg;subst hP hw hK;obtain⟨f0,f1,f2,f3,f4,f5⟩:=hf it (by simp)
  exact wpAny_pyNext_range_end (I.ok.hd hc) st (by have:n<=i:=hg;walk_at "o") fun h' eb=>⟨rfl,I.turned (t':=s.toks) (fun b o hb e=>eb b o hb e) f0 f1 f3 f4 f5⟩
 self:=fun _ _ _ _ _ st h=>wpAny_pyIter_rangeiter st h
section
variable {X:Cx}{tg:Expr}
theorem a37 {pins:List (Addr×Obj)}{σ:St}{H:Hp}{s:Shared}{R:It->Hp->Prop}{E:Value->Shared->Prop}{lo hi:Int}{t u v:Tok}{tk:Nat}(I:Inv X pins σ H s)(h1:-(2^62)<=lo)(h2:lo<2^62)(h3:-(2^62)<=hi)(h4:hi<2^62)
  (q:R (Itr lo (hi-lo).toNat) H):wpAny (model X.prog X.w) X.A (pyIter (.ref s.heap.objs.size)) (PIE X pins σ tg R) E {s with heap:=s.heap.push {cls:=.type "range",data:=.fields #[.int lo t,.int hi u,.int 1 v]},toks:=tk}:=by
 refine wpAny_pyIter_range (IsRange.new ..) (small_one h1 h2 h3 h4) ?_;have I1:Inv X pins σ H {s with heap:=s.heap.push {cls:=.type "range",data:=.fields #[.int lo t,.int hi u,.int 1 v]},toks:=tk}:=I.kept fun b o e=>zD _ e
 refine⟨(s.heap.push {cls:=.type "range",data:=.fields #[.int lo t,.int hi u,.int 1 v]}).objs.size,[(s.heap.push {cls:=.type "range",data:=.fields #[.int lo t,.int hi u,.int 1 v]}).objs.size],_,_,H,rfl,
  I1.kept (t':=tk) fun b o e=>zD _ e,a4v _ lo (hi-lo).toNat,?_,fun b hb=>?_,q⟩
 ·have e1:lo+((0:Nat):Int)*1=lo:=by simp
  have e2:(((hi-lo).toNat:Nat):Int)-((0:Nat):Int)=Builtin.Range.rangeSize lo hi 1:=by rw[rangeSize_one];split<;>walk_at "o"
  show IsRangeIter _ _ (lo+((0:Nat):Int)*1) ((((hi-lo).toNat:Nat):Int)-((0:Nat):Int)) 1;rw[e1,e2];exact zO _ rfl
 ·have e:b=(s.heap.push {cls:=.type "range",data:=.fields #[.int lo t,.int hi u,.int 1 v]}).objs.size:=by simpa using hb
  subst e;exact I1.fpOk (zE _) (I1.hok.fresh (zE _))
def iRng1 (ta:TA):TI:=fun σ H R=>ta σ H fun vs H1=>∃j:Int,vs=[.int j]/\-(2^62)<=j/\j<2^62/\R (Itr 0 j.toNat) H1
def iRng2 (ta:TA):TI:=fun σ H R=>ta σ H fun vs H1=>∃i j:Int,vs=[.int i,.int j]/\(-(2^62)<=i/\i<2^62/\-(2^62)<=j/\j<2^62)/\R (Itr i (j-i).toNat) H1
theorem a6n {a:Expr}{ta:TA}{p pos:Pos}(hg:Gl X "range")(hm:X.mg "range"=none)(ha:PA X [a] ta)(hs:starEach [a] X.env=[(false,eval a X.env)]:=by rfl):PI X tg (.Call (.Name "range" p) [a] [] pos) (iRng1 ta):=by
 intro pins s σ H R I h;refine Call_ (a0e I hg hm boot_range (jR (thn (ha pos pins s σ H _ I h) fun us s1 h0=>ex5 h0 fun vs H1 I1 r1 q1=>?_) hs rfl));obtain⟨j,e,q1,q2,q⟩:=q1;subst e;cases r1 with
 | cons r rr=>
  cases rr;obtain⟨t,rfl⟩:=r;exact call_range_1 (a37 I1 (by walk_at "o") (by walk_at "o") q1 q2 (by simpa using q))
theorem a6e {a b:Expr}{ta:TA}{p pos:Pos}(hg:Gl X "range")(hm:X.mg "range"=none)(ha:PA X [a,b] ta)(hs:starEach [a,b] X.env=[(false,eval a X.env),(false,eval b X.env)]:=by rfl)(hs2:starEach [b] X.env=[(false,eval b X.env)]:=by rfl):
  PI X tg (.Call (.Name "range" p) [a,b] [] pos) (iRng2 ta):=by
 intro pins s σ H R I h;refine Call_ (a0e I hg hm boot_range (jR (thn (ha pos pins s σ H _ I h) fun us s1 h0=>ex5 h0 fun vs H1 I1 r1 q1=>?_) (by rw[hs,hs2]) (by rw[hs2];rfl)))
 obtain⟨i,j,e,⟨q1,q2,q3,q4⟩,q⟩:=q1;subst e;cases r1 with
 | cons r rr=>
  cases rr with
  | cons r' rr=>
   cases rr;obtain⟨t,rfl⟩:=r;obtain⟨t',rfl⟩:=r';exact call_range_2 (a37 I1 q1 q2 q3 q4 q)
def tFor (wi:TI) (g:TG) (tb:TS):TS:=fun D σ H=>wi σ H fun J H1=>∃W:Nat->Nat->St->Hp->Prop,(∃m,W 0 m σ H1)/\∀i m σ H,W i m σ H->
 (J.stop i H/\D.nx σ H)\/(J.go i H/\∃N:St->Hp->Prop,(∀σ' H',N σ' H'->∃m',m'<m/\W (i+1) m' σ' H')/\∀x H',J.yld i H x H'->g x σ H' fun σ2 H2=>tb {D with nx:=N,ct:=N,bk:=D.nx} σ2 H2)
def pinsAt (fp:List Addr) (h:Heap):List (Addr×Obj):=fp.filterMap fun b=>(h.get? b).map fun o=>(b,o)
theorem L8 {fp:List Addr}{h:Heap}{b:Addr}{o:Obj}(hb:b∈fp)(e:h.get? b=some o):(b,o)∈pinsAt fp h:=mem_filterMap.mpr ⟨b,hb,by rw[e];rfl⟩
theorem a6l {fp:List Addr}{h:Heap}{p:Addr×Obj}(hp:p∈pinsAt fp h):p.1∈fp/\h.get? p.1=some p.2:=by
 obtain⟨b,hb,e⟩:=mem_filterMap.mp hp;cases q:h.get? b with
 | none=>rw[q] at e;cases e
 | some o=>
  rw[q] at e;have e':(b,o)=p:=qQ e;subst e';exact⟨hb,q⟩
theorem Inv.pinned {pins:List (Addr×Obj)}{σ:St}{H:Hp}{s:Shared}{fp:List Addr}(I:Inv X pins σ H s)(hf:∀b∈fp,FpOk X pins H b)(ho:∀b∈fp,∃o,s.heap.get? b=some o/\∀v,o.data≠.cell v):Inv X (pins++pinsAt fp s.heap) σ H s:=
 I.pins_of fun p hp=>(qY.mp hp).elim (fun z=>I.pin p (qH _ z)) fun z=>by
  obtain⟨hb,e⟩:=a6l z;obtain⟨f0,f1,f2,_⟩:=hf p.1 hb;obtain⟨o,e',d⟩:=ho p.1 hb;rw[e] at e';cases e';exact⟨e,f0,f1,f2,d⟩
theorem Inv.unpinned {pins pl:List (Addr×Obj)}{σ:St}{H:Hp}{s:Shared}(I:Inv X (pins++pl) σ H s):Inv X pins σ H s:=I.pins_of fun p hp=>I.pin p (qH _ (List.mem_append_left _ hp))
theorem b1G {iter:Expr}{body:List Stmt}{wi:TI}{g:TG}{tb:TS}{pos:Pos}(hp:PassesOwn (model X.prog X.w) X.A X.env X.xe)(hc:X.calm=true)(hi:PI X tg iter wi)(hg:PG X tg g)(hb:PSs X body tb)
  (hs:∀x,foldedSetIterable iter X.env x=pure x:=by intro _;rfl):PS X (.For tg iter body [] pos) (tFor wi g tb):=by
 intro pins s σ H D I h;refine wpAny_For (thn (hi pins s σ H _ I h) fun v s1 h1=>thn h1 fun itv s2 h2=>?_) hs;obtain⟨it,fp,tn,J,H2,e,I2,T,st2,f2,W,⟨m0,w0⟩,turn⟩:=h2;subst e;have stat:∀{H':Hp},(∀b∈fp,H' b=none)->∀b∈fp,FpOk X pins H' b:=fun hn b hb=>⟨hn b hb,(f2 b hb).2⟩;refine codeAny_forLoop_any (fun n s'=>∃i σ' H',Inv X pins σ' H' s'/\tn i s'.heap/\(∀b∈fp,H' b=none)/\W i n σ' H') ?_ m0 ⟨0,σ,H2,I2,st2,fun b hb=>(f2 b hb).1,w0⟩;rintro n s3 ⟨i,σ3,H3,I3,st3,fr3,w3⟩;rcases turn i n σ3 H3 w3 with ⟨stop,qn⟩|⟨go,N,hN,step⟩
 ·refine jV hp (thn (T.done X rfl rfl rfl hc i pins s3 σ3 H3 X.xe I3 (stat fr3) st3 stop) fun r s4 ⟨hr,I4⟩=>?_);subst hr;exact wpAny_execs_nil ⟨σ3,H3,I4,qn⟩
 ·refine jV hp (thn (T.item X rfl rfl rfl hc i pins s3 σ3 H3 X.xe I3 (stat fr3) st3 go) fun r s4 ⟨u,hr,h4⟩=>?_);subst hr;refine jV hp (thn h4 fun _ s5 ⟨x,H5,I5,r5,y5,st5,fr5⟩=>?_);have I5':=I5.pinned (stat fr5) (T.obj _ _ st5);refine jV hp (thn (hg _ s5 σ3 H5 x u _ I5' r5 (step x H5 y5)) fun _ s6 ⟨σ6,H6,I6,q6⟩=>?_);refine jV hp (thn (hb _ s6 σ6 H6 _ I6 q6) fun f s7 q7=>?_);have again:∀{σ7:St} {H7:Hp},Inv X (pins++pinsAt fp s5.heap) σ7 H7 s7->N σ7 H7->∃m,m<n/\∃i σ' H',Inv X pins σ' H' s7/\tn i s7.heap/\(∀b∈fp,H' b=none)/\W i m σ' H':=fun{σ7 H7} I7 n7=>by
   obtain⟨m',hm,w7⟩:=hN σ7 H7 n7;refine⟨m',hm,i+1,σ7,H7,I7.unpinned,T.keep _ _ _ st5 fun b hb o e=>(I7.pin (b,o) (qH _ (qH _ (L8 hb e)))).1,fun b hb=>?_,w7⟩;obtain⟨o,e,d⟩:=T.obj _ _ st5 b hb;exact(I7.pin (b,o) (qH _ (qH _ (L8 hb e)))).2.1
  cases f with
  | next=>obtain⟨σ7,H7,I7,n7⟩:=q7;exact again I7 n7
  | cont=>obtain⟨σ7,H7,I7,n7⟩:=q7;exact again I7 n7
  | brk=>obtain⟨σ7,H7,I7,q7⟩:=q7;exact⟨σ7,H7,I7.unpinned,q7⟩
  | ret v=>obtain⟨x7,σ7,H7,I7,r7,q7⟩:=q7;exact⟨x7,σ7,H7,I7.unpinned,r7,q7⟩
end
abbrev R2:=V->V->Hp->VK->Prop
def OpR (X:Cx) (f:Value->Value->Sem Value) (r:R2):Prop:=
 ∀(pins:List (Addr×Obj)) (s:Shared) (σ:St) (H:Hp) (x y:V) (v u:Value) (Q:VK),Inv X pins σ H s->RelV x v->RelV y u->r x y H Q->
  wpAny (model X.prog X.w) X.A (f v u) (EP X pins σ Q) X.xe s
def UnR (X:Cx) (f:Value->Sem Value) (r:V->Hp->VK->Prop):Prop:=
 ∀(pins:List (Addr×Obj)) (s:Shared) (σ:St) (H:Hp) (x:V) (v:Value) (Q:VK),Inv X pins σ H s->RelV x v->r x H Q->
  wpAny (model X.prog X.w) X.A (f v) (EP X pins σ Q) X.xe s
def CallR (X:Cx) (f:Value) (r:List V->Hp->VK->Prop):Prop:=
 ∀(pins:List (Addr×Obj)) (s:Shared) (σ:St) (H:Hp) (xs:List V) (us:List Value) (Q:VK),Inv X pins σ H s->Vals xs us->r xs H Q->
  wpAny (model X.prog X.w) X.A (call f us) (EP X pins σ Q) X.xe s
def TruR (X:Cx) (r:V->Hp->(Bool->Hp->Prop)->Prop):Prop:=
 ∀(pins:List (Addr×Obj)) (s:Shared) (σ:St) (H:Hp) (x:V) (v:Value) (Q:Bool->Hp->Prop),Inv X pins σ H s->RelV x v->r x H Q->
  wpAny (model X.prog X.w) X.A (truthy v) (TP X pins σ Q) X.xe s
def tOp (r:R2) (ta tb:TE):TE:=fun σ H Q=>ta σ H fun x H1=>tb σ H1 fun y H2=>r x y H2 Q
def tUn (r:V->Hp->VK->Prop) (ta:TE):TE:=fun σ H Q=>ta σ H fun x H1=>r x H1 Q
def rI (C:Int->Int->Prop) (g:Int->Int->V):R2:=fun x y H Q=>∃i j,x= .int i/\y= .int j/\C i j/\Q (g i j) H
def rI0 (g:Int->Int->V):R2:=fun x y H Q=>∃i j,x= .int i/\y= .int j/\Q (g i j) H
def rU (g:Int->V):V->Hp->VK->Prop:=fun x H Q=>∃i,x= .int i/\Q (g i) H
section
variable {X:Cx}{a b:Expr}{ta tb:TE}{pos:Pos}
theorem binT (ha:PE X a ta)(hb:PE X b tb){pins:List (Addr×Obj)}{s:Shared}{σ:St}{H:Hp}{R:V->V->Hp->Prop}(I:Inv X pins σ H s)
  (h:ta σ H fun x H1=>tb σ H1 fun y H2=>R x y H2) {Q:Value->Shared->Prop} {f:Value->Value->Sem Value}
  (hf:∀v u s2 x y H2,Inv X pins σ H2 s2->RelV x v->RelV y u->R x y H2->wpAny (model X.prog X.w) X.A (f v u) Q X.xe s2):
  wpAny (model X.prog X.w) X.A (eval a X.env) (fun v s₁=>wpAny (model X.prog X.w) X.A (eval b X.env) (fun u s₂=>wpAny (model X.prog X.w) X.A (f v u) Q X.xe s₂) X.xe s₁) X.xe s:=by
 refine thn (ha pins s σ H _ I h) fun v s1 h0=>ex5 h0 fun x H1 I1 r1 q1=>?_;refine thn (hb pins s1 σ H1 _ I1 q1) fun u s2 h0=>ex5 h0 fun y H2 I2 r2 q2=>?_;exact hf v u s2 x y H2 I2 r1 r2 q2
theorem pe_op {op:Operator}{r:R2}(ho:OpR X (binaryOp op) r)(ha:PE X a ta)(hb:PE X b tb):PE X (.BinOp a op b pos) (tOp r ta tb):=by
 intro pins s σ H Q I h;exact wpAny_BinOp (binT ha hb I h fun v u s2 x y H2 I2 rx ry q=>ho pins s2 σ H2 x y v u Q I2 rx ry q)
theorem pe_un {op:UnaryOp}{r:V->Hp->VK->Prop}(ho:UnR X (unaryOp op) r)(ha:PE X a ta):PE X (.UnaryOp op a pos) (tUn r ta):=by
 intro pins s σ H Q I h;exact UnaryOp_ (thn (ha pins s σ H _ I h) fun v s1 h0=>ex5 h0 fun x H1 I1 r1 q1=>ho pins s1 σ H1 x v Q I1 r1 q1)
theorem opI {f:Value->Value->Sem Value}{C:Int->Int->Prop}{g:Int->Int->Int}
  (rule:∀(i j:Int) (t u:Tok) (s:Shared) (Q:Value->Shared->Prop) (E:Value->Shared->Prop),C i j->Q (.int (g i j) s.toks) {s with toks:=s.toks+1}->wpAny (model X.prog X.w) X.A (f (.int i t) (.int j u)) Q E s):
  OpR X f (rI C fun i j=>.int (g i j)):=by
 intro pins s σ H x y v u Q I rx ry h;obtain⟨i,j,rfl,rfl,hc,q⟩:=h;obtain⟨t,rfl⟩:=rx;obtain⟨t',rfl⟩:=ry;exact rule i j t t' s _ _ hc ⟨.int (g i j),H,I.tok _,⟨_,rfl⟩,q⟩
theorem opI0 {f:Value->Value->Sem Value}{g:Int->Int->Int}
  (rule:∀(i j:Int) (t u:Tok) (s:Shared) (Q:Value->Shared->Prop) (E:Value->Shared->Prop),Q (.int (g i j) s.toks) {s with toks:=s.toks+1}->wpAny (model X.prog X.w) X.A (f (.int i t) (.int j u)) Q E s):
  OpR X f (rI0 fun i j=>.int (g i j)):=by
 intro pins s σ H x y v u Q I rx ry h;obtain⟨i,j,rfl,rfl,q⟩:=h;obtain⟨t,rfl⟩:=rx;obtain⟨t',rfl⟩:=ry;exact rule i j t t' s _ _ ⟨.int (g i j),H,I.tok _,⟨_,rfl⟩,q⟩
theorem opB0 {f:Value->Value->Sem Value}{g:Int->Int->Bool}
  (rule:∀(i j:Int) (t u:Tok) (s:Shared) (Q:Value->Shared->Prop) (E:Value->Shared->Prop),Q (.bool (g i j)) s->wpAny (model X.prog X.w) X.A (f (.int i t) (.int j u)) Q E s):
  OpR X f (rI0 fun i j=>.bl (g i j)):=by
 intro pins s σ H x y v u Q I rx ry h;obtain⟨i,j,rfl,rfl,q⟩:=h;obtain⟨t,rfl⟩:=rx;obtain⟨t',rfl⟩:=ry;exact rule i j t t' s _ _ ⟨.bl (g i j),H,I,rfl,q⟩
def CPow (i j:Int):Prop:=0<=j/\j<=1000000/\i.natAbs<2^64
theorem b14:OpR X (binaryOp .Add) (rI0 fun i j=>.int (i+j)):=opI0 fun _ _ _ _ _ _ _ q=>add_int q
theorem b1w:OpR X (binaryOp .Sub) (rI0 fun i j=>.int (i-j)):=opI0 fun _ _ _ _ _ _ _ q=>sub_int q
theorem b1t:OpR X (binaryOp .Mod) (rI (fun _ j=>0<j) fun i j=>.int (i%j)):=opI fun i j _ _ _ _ _ hc q=>by
 have h1:(0:Int)<j:=hc;exact mod_int' (by walk_at "o") (by rw[Int.fmod_eq_emod_of_nonneg i (by walk_at "o")];exact q)
theorem b2a:OpR X (binaryOp .Pow) (rI CPow fun i j=>.int (i^j.toNat)):=opI fun _ _ _ _ _ _ _ hc q=>pow_int_small hc.1 hc.2.1 hc.2.2 q
theorem unI {f:Value->Sem Value}{g:Int->Int}
  (rule:∀(i:Int) (t:Tok) (s:Shared) (Q:Value->Shared->Prop) (E:Value->Shared->Prop),Q (.int (g i) s.toks) {s with toks:=s.toks+1}->wpAny (model X.prog X.w) X.A (f (.int i t)) Q E s):
  UnR X f (rU fun i=>.int (g i)):=by
 intro pins s σ H x v Q I rx h;obtain⟨i,rfl,q⟩:=h;obtain⟨t,rfl⟩:=rx;exact rule i t s _ _ ⟨.int (g i),H,I.tok _,⟨_,rfl⟩,q⟩
theorem b1q:UnR X (unaryOp .USub) (rU fun i=>.int (-i)):=unI fun _ _ _ _ _ q=>neg_int q
end
section
variable {X:Cx}{a b c:Expr}{ta tb tc:TE}{pos:Pos}
theorem b1z {pins:List (Addr×Obj)}{σ:St}{H:Hp}{s:Shared}{Q:VK}{k k':Bool}(I:Inv X pins σ H s)(q:Q (.bl k) H)(e:k=k'):EP X pins σ Q (.bool k') s:=by
 subst e;exact⟨.bl k,H,I,rfl,q⟩
theorem a61:OpR X (compareOp .Lt) (rI0 fun i j=>.bl (decide (i<j))):=opB0 fun _ _ _ _ _ _ _ q=>lt_int q
theorem a8j:OpR X (compareOp .LtE) (rI0 fun i j=>.bl (decide (i<=j))):=opB0 fun _ _ _ _ _ _ _ q=>le_int q
theorem op_gt:OpR X (compareOp .Gt) (rI0 fun i j=>.bl (decide (j<i))):=opB0 fun _ _ _ _ _ _ _ q=>gt_int q
theorem op_ge:OpR X (compareOp .GtE) (rI0 fun i j=>.bl (decide (j<=i))):=opB0 fun _ _ _ _ _ _ _ q=>ge_int q
theorem a5Y:OpR X (compareOp .In) (fun x y H Q=>∃i j,x= .str i/\y= .str j/\Q (.bl (!(Builtin.Str.occurrences j i 0 j.length 1).isEmpty)) H):=by
 intro pins s σ H x y v u Q I rx ry h;obtain⟨i,j,rfl,rfl,q⟩:=h;obtain⟨t,rfl⟩:=rx;obtain⟨t',rfl⟩:=ry;exact in_str (b1z I q rfl)
theorem OpR.or {f:Value->Value->Sem Value}{r r':R2}(h:OpR X f r)(h':OpR X f r'):OpR X f (fun x y H Q=>r x y H Q\/r' x y H Q):=by
 intro pins s σ H x y v u Q I rx ry q;rcases q with q|q
 ·exact h pins s σ H x y v u Q I rx ry q
 ·exact h' pins s σ H x y v u Q I rx ry q
theorem nomark (b:Expr){op:CmpOp}(h:op≠.In:=by decide)(h2:op≠.NotIn:=by decide):behindInMarks op b=false:=by
 have e1:(op==CmpOp.In)=false:=by cases op<;>first|rfl|exact absurd rfl h
 have e2:(op==CmpOp.NotIn)=false:=by cases op<;>first|rfl|exact absurd rfl h2
 cases b<;>simp[behindInMarks,e1,e2]
theorem a9K {op:CmpOp}{r:R2}(ho:OpR X (compareOp op) r)(ha:PE X a ta)(hb:PE X b tb)(hm:behindInMarks op b=false):PE X (.Compare a [op] [b] pos) (tOp r ta tb):=by
 intro pins s σ H Q I h;exact wpAny_Compare1 (binT ha hb I h fun v u s2 x y H2 I2 rx ry q=>ho pins s2 σ H2 x y v u Q I2 rx ry q) hm
def tTest (t:TE):TT:=fun σ H Q=>t σ H fun x H'=>∃k,x= .bl k/\Q k H'
theorem a9R {op:CmpOp}{r:R2}(ho:OpR X (compareOp op) r)(ha:PE X a ta)(hb:PE X b tb)(hm:behindInMarks op b=false):PT X (.Compare a [op] [b] pos) (tTest (tOp r ta tb)):=by
 intro pins s σ H Q I h
 refine wpAny_isTrue_Compare1 (thn (ha pins s σ H _ I h) fun v s1 h0=>ex5 h0 fun x H1 I1 r1 q1=>thn (hb pins s1 σ H1 _ I1 q1) fun u s2 h0=>ex5 h0 fun y H2 I2 r2 q2=>
  thn (ho pins s2 σ H2 x y v u _ I2 r1 r2 q2) fun c s3 ⟨z,H3,I3,r3,k,e,q3⟩=>?_) hm
 subst e;cases r3;exact xU ⟨H3,I3,q3⟩
def tChain (r r':R2) (ta tb tc:TE):TE:=fun σ H Q=>ta σ H fun x H1=>tb σ H1 fun y H2=>r x y H2 fun z H3=>∃k,z= .bl k/\
 (if k=true then tc σ H3 fun w' H4=>r' y w' H4 Q else Q (.bl false) H3)
theorem a3x {op op':CmpOp}{r r':R2}(ho:OpR X (compareOp op) r)(ho':OpR X (compareOp op') r')(ha:PE X a ta)(hb:PE X b tb)(hc:PE X c tc)
  (hm:lastMarks [op,op'] [b,c]=false:=by with_unfolding_all rfl):PE X (.Compare a [op,op'] [b,c] pos) (tChain r r' ta tb tc):=by
 intro pins s σ H Q I h
 refine Compare_chain (thn (ha pins s σ H _ I h) fun v s1 h0=>ex5 h0 fun x H1 I1 r1 q1=>chain_link (thn (hb pins s1 σ H1 _ I1 q1) fun u s2 h0=>ex5 h0 fun y H2 I2 r2 q2=>
  thn (ho pins s2 σ H2 x y v u _ I2 r1 r2 q2) fun d s3 ⟨z,H3,I3,r3,k,e,q3⟩=>?_)) hm
 subst e;cases r3;refine xU ?_;cases k with
 | false=>exact ite_ff ⟨.bl false,H3,I3,rfl,q3⟩
 | true=>exact ite_tt (chain_last (thn (hc pins s3 σ H3 _ I3 q3) fun w' s4 h0=>ex5 h0 fun z' H4 I4 r4 q4=>ho' pins s4 σ H4 y z' u w' Q I4 r2 r4 q4))
def TruV (K:PySem.W.Frag) (x:V) (H:Hp) (k:Bool):Prop:=
 match x with
 | .non=>k=false
 | .bl b=>k=b
 | .int i=>k=(i != 0)
 | .str y=>y.length<=sizeLine/\k=((y.length:Int) != 0)
 | .byt y=>y.size<=sizeLine/\k=((y.size:Int) != 0)
 | .ref p=>(∃xs,SqL K H p xs/\k= !xs.isEmpty)\/(∃xs,SqT K H p xs/\k= !xs.isEmpty)\/∃kvs,H p=some (.dK kvs)/\k= !kvs.isEmpty
 | _=>False
theorem a4i {κ:Type}{kvs:List (κ×V)}{vs:List (κ×Value)}(r:KV kvs vs):(!vs.isEmpty)= !kvs.isEmpty:=by
 cases r<;>rfl
theorem a1J {xs:List V}{its:List Value}(r:Vals xs its):(!its.toArray.isEmpty)= !xs.isEmpty:=by
 cases r<;>simp
theorem line63:(sizeLine:Nat)<2^63:=by rw[jI];decide
theorem a7F:TruR X (fun x H Q=>∃k,TruV X.K x H k/\Q k H):=by
 intro pins s σ H x v Q I rx h;obtain⟨k,e,q⟩:=h;have hl:=line63;have hs:sizeLine=16777216:=jI;cases x with
 | non=>
  cases rx;have e':k=false:=e;subst e';exact truthy_none ⟨H,I,q⟩
 | bl b=>
  cases rx;have e':k=b:=e;subst e';exact xU ⟨H,I,q⟩
 | int i=>
  obtain⟨t,rfl⟩:=rx;have e':k=(i != 0):=e;subst e';exact PySem.P.truthy_int ⟨H,I,q⟩
 | str y=>
  obtain⟨t,rfl⟩:=rx;obtain⟨hy,e'⟩:y.length<=sizeLine/\k=((y.length:Int) != 0):=e;subst e';exact PySem.P.truthy_str (by walk_at "o") ⟨H,I.tok _,q⟩
 | byt y=>
  obtain⟨t,rfl⟩:=rx;obtain⟨hy,e'⟩:y.size<=sizeLine/\k=((y.size:Int) != 0):=e;subst e';exact PySem.W.truthy_bytes (by walk_at "o") ⟨H,I.tok _,q⟩
 | ref p=>
  cases rx;have e':(∃xs,SqL X.K H p xs/\k= !xs.isEmpty)\/(∃xs,SqT X.K H p xs/\k= !xs.isEmpty)\/∃kvs,H p=some (.dK kvs)/\k= !kvs.isEmpty:=e;rcases e' with ⟨xs,hx,e'⟩|⟨xs,hx,e'⟩|⟨kvs,hx,e'⟩
  ·subst e';obtain⟨its,r,pl,hz⟩:=I.list hx;have hlen:=r.length;exact wpAny_truthy_list pl.isList (by simp only[zU];walk_at "o") ⟨H,I.tok _,by rw[a1J r];exact q⟩
  ·subst e';obtain⟨its,r,pl,hz⟩:=I.tuple hx;have hlen:=r.length;exact truthy_tuple pl (by simp only[zU];walk_at "o") ⟨H,I.tok _,by rw[a1J r];exact q⟩
  ·subst e';obtain⟨hz,hS,vs,r,m⟩:kvs.length<=sizeLine/\(p==sysModules)=false/\∃vs,KV kvs vs/\s.heap.DictAt (mixKind X.prog X.w) p vs kvs.length:=I.hok p _ hx;have hlen:kvs.length=vs.length:=xM r;exact wpAny_truthy_dict hS m.dictOf (by walk_at "o") ⟨H,I.tok _,by rw[a4i r];exact q⟩
 | _=>exact(show False from e).elim
theorem a8G (ha:PE X a ta)(he:∀whole,isTrue a X.env whole=(do let v <-whole;standAt a.pos;holding [v] (truthy v))):
  PT X a (fun σ H Q=>ta σ H fun x H'=>∃k,TruV X.K x H' k/\Q k H'):=by
 intro pins s σ H Q I h;exact isTrue_plain (thn (ha pins s σ H _ I h) fun v s1 h0=>ex5 h0 fun x H1 I1 r1 q1=>a7F pins s1 σ H1 x v Q I1 r1 q1) (he _)
theorem a4t:OpR X (binaryOp .Add) (fun x y H Q=>∃i j,x= .str i/\y= .str j/\i.length+j.length<=sizeLine/\Q (.str (i++j)) H):=by
 intro pins s σ H x y v u Q I rx ry h;obtain⟨i,j,rfl,rfl,hz,q⟩:=h;obtain⟨t,rfl⟩:=rx;obtain⟨t',rfl⟩:=ry;exact add_str (fun t' tk=>⟨.str (i++j),H,I.tok _,⟨_,rfl⟩,q⟩) hz
theorem vals1 {x:V}{us:List Value}(r:Vals [x] us):∃u,us=[u]/\RelV x u:=by
 cases r with
 | cons r1 r2=>cases r2;exact⟨_,rfl,r1⟩
theorem vals2 {x y:V}{us:List Value}(r:Vals [x,y] us):∃u w',us=[u,w']/\RelV x u/\RelV y w':=by
 cases r with
 | cons r1 r2=>
  cases r2 with
  | cons r3 r4=>cases r4;exact⟨_,_,rfl,r1,r3⟩
theorem a8M:CallR X (.builtin "abs") (fun xs H Q=>∃i,xs=[.int i]/\Q (.int (if i<0 then -i else i)) H):=by
 intro pins s σ H xs us Q I r h;obtain⟨i,rfl,q⟩:=h;obtain⟨u,rfl,t,rfl⟩:=vals1 r;exact call_abs_int fun u tk=>⟨.int (if i<0 then -i else i),H,I.tok _,⟨_,rfl⟩,q⟩
theorem a6f (hc:X.calm=true):CallR X (.builtin "max") (fun xs H Q=>∃i j,xs=[.int i,.int j]/\Q (.int (if j>i then j else i)) H):=by
 intro pins s σ H xs us Q I r h;obtain⟨i,j,rfl,q⟩:=h;obtain⟨u,w',rfl,⟨t,rfl⟩,⟨t',rfl⟩⟩:=vals2 r;refine max_two_ints (I.ok.hd hc) fun h' tk k=>⟨_,H,I.kept k,?_,q⟩
 by_cases hj:j>i
 ·rw[if_pos hj,if_pos hj];exact⟨_,rfl⟩
 ·rw[if_neg hj,if_neg hj];exact⟨_,rfl⟩
theorem a2n (hc:X.calm=true):CallR X (.builtin "min") (fun xs H Q=>∃i j,xs=[.int i,.int j]/\Q (.int (if j<i then j else i)) H):=by
 intro pins s σ H xs us Q I r h;obtain⟨i,j,rfl,q⟩:=h;obtain⟨u,w',rfl,⟨t,rfl⟩,⟨t',rfl⟩⟩:=vals2 r;refine min_two_ints (I.ok.hd hc) fun h' tk k=>⟨_,H,I.kept k,?_,q⟩
 by_cases hj:j<i
 ·rw[if_pos hj,if_pos hj];exact⟨_,rfl⟩
 ·rw[if_neg hj,if_neg hj];exact⟨_,rfl⟩
theorem a3c:CallR X (.type "str") (fun xs H Q=>∃i,xs=[.int i]/\i.natAbs.log2<1920/\Q (.str (toString i)) H):=by
 intro pins s σ H xs us Q I r h;obtain⟨i,rfl,hz,q⟩:=h;obtain⟨u,rfl,t,rfl⟩:=vals1 r;exact PySem.P.str_of_int hz ⟨.str _,H,I.tok _,⟨_,rfl⟩,q⟩
end
theorem RelO.some_of {v:V}{o:Option Value}(r:RelO (some v) o):∃u,o=some u/\RelV v u:=by
 cases o with
 | none=>exact(show False from r).elim
 | some u=>exact⟨u,rfl,r⟩
structure Cls (K:PySem.W.Frag) (C:Addr):Prop where
 pg:PySem.W.plainGet K C Str.empty=true
 hd:PySem.W.hasDictIn K C=true
 po:PySem.W.plainOver K C=true
 sa:PySem.W.findIn K (.ref C) "__setattr__"=some (some (.builtin "object.__setattr__"))
section
variable {H:Hp}
inductive TyOf (K:PySem.W.Frag) (H:Hp):V->Value->Prop where
 | non:TyOf K H .non (.type "NoneType")
 | bl (x:Bool):TyOf K H (.bl x) (.type "bool")
 | int (i:Int):TyOf K H (.int i) (.type "int")
 | str (x:Str):TyOf K H (.str x) (.type "str")
 | flt (x:UInt64):TyOf K H (.flt x) (.type "float")
 | lst {a:Addr} {xs:List V} (e:H a=some (.lst xs)):TyOf K H (.ref a) (.type "list")
 | frz {a:Addr} {o:Obj} {xs:List V} (e:H a=some (.frz o (.lst xs))):TyOf K H (.ref a) (.type "list")
 | tup {a:Addr} {xs:List V} (e:H a=some (.tup xs)):TyOf K H (.ref a) (.type "tuple")
 | dK {a:Addr} {kvs:List (Key×V)} (e:H a=some (.dK kvs)):TyOf K H (.ref a) (.type "dict")
 | dT {a:Addr} {kvs:List (List Key×V)} (e:H a=some (.dT kvs)):TyOf K H (.ref a) (.type "dict")
 | ins {a C dx:Addr} {fs:List (Str×V)} (e:H a=some (.ins C dx fs)) (cl:Cls K C) (ha:PySem.W.findIn K (.ref C) "__class__"=some (some (.builtin "object.__class__")))
   (hn:PySem.W.specialIn K (.builtin "object.__class__") "__get__"=some (some (.builtin "getset_descriptor.__get__"))) (htk:PySem.W.takesIn K (.builtin "object.__class__")=some true)
   (hm:PySem.W.mroIn K C (.type "object")=some true):TyOf K H (.ref a) (.ref C)
end
structure Room (k:Nat) (A:Around):Prop where
 hd:A.handled=none
 dp:A.depth+3*k+5<recursionLimit
 un:A.units+16*k+200<cLine
 gd:A.guards=some []
theorem Room.mono {j k:Nat}{A:Around}(r:Room k A)(h:j<=k):Room j A:=⟨r.hd,by have:=r.dp;walk_at "o",by have:=r.un;walk_at "o",r.gd⟩
theorem Room.deeper {k:Nat}{A:Around}(r:Room (k+1) A)(env:Env):Room k (A.deeper env):=
 ⟨r.hd,by have:=r.dp;show A.depth+1+3*k+5<_;walk_at "o",by have:=r.un;show A.units+3+16*k+200<_;walk_at "o",r.gd⟩
theorem Room.depth {k:Nat}{A:Around}(r:Room k A):A.depth<recursionLimit:=by have:=r.dp;walk_at "o"
theorem Room.units {k:Nat}{A:Around}(r:Room k A):A.units+64<cLine:=by have:=r.un;walk_at "o"
def tNil:TA:=fun _ H Q=>Q [] H
def tCons (ta:TE) (tr:TA):TA:=fun σ H Q=>ta σ H fun x H1=>tr σ H1 fun xs H2=>Q (x::xs) H2
section
variable {X:Cx}{e:Expr}{es:List Expr}{te:TE}{t:TA}{pos:Pos}
theorem a0T:PA X [] tNil:=fun _ _ _ _ H Q I h=>Calls.spliced_nil ⟨[],H,I,.nil,h⟩
theorem Y5 (ha:PE X e te)(hr:PA X es t)(hs:starEach (e::es) X.env=(false,eval e X.env)::starEach es X.env:=by rfl):PA X (e::es) (tCons te t):=by
 intro pos pins s σ H Q I h;rw[hs];show wpAny _ _ (spliced ((false,eval e X.env)::backTo pos (starEach es X.env))) _ _ s;refine Calls.spliced_cons (thn (ha pins s σ H _ I h) fun u s1 h0=>ex5 h0 fun x H1 I1 r1 q1=>?_);exact thn (hr pos pins s1 σ H1 _ I1 q1) fun us s2 h0=>ex5 h0 fun xs H2 I2 r2 q2=>⟨x::xs,H2,I2,.cons r1 r2,q2⟩
def tTup (t:TA):TE:=fun σ H Q=>t σ H fun xs H1=>xs.length<=sizeLine/\∀p,H1 p=none->Q (.ref p) (upd H1 p (.tup xs))
def tLst (t:TA):TE:=fun σ H Q=>t σ H fun xs H1=>xs.length<=sizeLine/\∀p,H1 p=none->Q (.ref p) (upd H1 p (.lst xs))
theorem a7M {x1}(h:PA X es t):PE X (.Tuple es x1 pos) (tTup t):=by
 intro pins s σ H Q I hq;refine wpAny_Tuple_spliced (thn (h pos pins s σ H _ I hq) fun us s1 ⟨xs,H1,I1,r,z,q⟩=>⟨by rw[<-r.length];exact z,?_⟩)
 have hf:H1 s1.heap.objs.size=none:=I1.hok.fresh (zE _);refine⟨.ref s1.heap.objs.size,upd H1 s1.heap.objs.size (.tup xs),I1.laid (t':=s1.toks) (fun b u e=>zD _ e) (zE _) ?_,rfl,q _ hf⟩;exact⟨z,us,r,TupN.new _ _⟩
theorem a4a (h:PA X es t):PE X (.List es pos) (tLst t):=by
 intro pins s σ H Q I hq;refine wpAny_List_spliced (thn (h pos pins s σ H _ I hq) fun us s1 ⟨xs,H1,I1,r,z,q⟩=>⟨by rw[<-r.length];exact z,?_⟩)
 have hf:H1 s1.heap.objs.size=none:=I1.hok.fresh (zE _);refine⟨.ref s1.heap.objs.size,upd H1 s1.heap.objs.size (.lst xs),I1.laid (t':=s1.toks) (fun b u e=>zD _ e) (zE _) ?_,rfl,q _ hf⟩;exact⟨z,us,0,r,zO _ rfl⟩
end
abbrev Sp:=List V->Hp->VK->XK->Prop
abbrev CXT:=List Env->Hp->Shared->XK->Value->Shared->Prop
structure Env0 (P:Program) (w:World) (K:PySem.W.Frag) (mg:Str->Option Value) (base:Heap) (A:Around) (outer:List Env) (s:Shared) (H:Hp):Prop where
 frames:A.frames=some outer
 mod:Mod K mg base
 bs:∀b o,base.get? b=some o->s.heap.get? b=some o/\H b=none
 bsz:base.objs.size<=s.heap.objs.size
 funs:s.heap.FunFrames base outer
 frf:∀b∈frs outer,H b=none
 hok:HOk P w H s.heap
 bare:AllBare s.gens
def CE (outer:List Env) (P:Program) (w:World) (H:Hp) (s:Shared) (Q:VK) (u:Value) (s':Shared):Prop:=
 ∃v H',s'.os=s.os/\AllBare s'.gens/\Un (frs outer) [] H H' s.heap s'.heap/\HOk P w H' s'.heap/\RelV v u/\Q v H'
def CR (CX:CXT) (outer:List Env) (P:Program) (w:World) (H:Hp) (s:Shared) (Q:VK) (E:XK) (r:Result) (s':Shared):Prop:=
 match r with
 | .ok (.ret u)=>CE outer P w H s Q u s'
 | .ok _=>False
 | .error e=>CX outer H s E e s'
structure FnOk (P:Program) (w:World) (K:PySem.W.Frag) (mg:Str->Option Value) (base:Heap) (CX:CXT) (k:Nat) (f:Addr) (fd:FuncData) (ps:List Str) (sp:Sp):Prop where
 len:∀vs H Q E,sp vs H Q E->vs.length=ps.length
 run:∀(A:Around) (outer:List Env) (s:Shared) (H:Hp) (args:Args) (us:List Value) (vs:List V) (Q:VK) (E:XK),Room k A->Env0 P w K mg base A outer s H->BindsTo s fd args (ps.zip us)->Vals vs us->sp vs H Q E->
  codeAny (model P w) A (.call (.ref f) args) (CR CX outer P w H s Q E) s
theorem FnOk.mono {P:Program}{w:World}{K:PySem.W.Frag}{mg:Str->Option Value}{base:Heap}{CX:CXT}{j k:Nat}{f:Addr}{fd:FuncData}{ps:List Str}{sp:Sp}(F:FnOk P w K mg base CX j f fd ps sp)(h:j<=k):
  FnOk P w K mg base CX k f fd ps sp:=⟨F.len,fun A outer s H args us vs Q E hr=>F.run A outer s H args us vs Q E (hr.mono h)⟩
section
variable {X:Cx}{pins:List (Addr×Obj)}{σ:St}{H:Hp}{s s':Shared}
theorem Inv.env0 (I:Inv X pins σ H s):Env0 X.prog X.w X.K X.mg X.base X.A X.stack s H:=
 ⟨I.ok.frames,I.ok.mod,I.bs,zG I.ok.bsz I.sz,I.stack,I.stkFree,I.hok,I.bare⟩
theorem Inv.after {Q:VK}{u:Value}(I:Inv X pins σ H s)(h:CE X.stack X.prog X.w H s Q u s'):EP X pins σ Q u s':=by
 obtain⟨v,H',os,bare,un,hok,r,q⟩:=h;obtain⟨hh,g,d,t,os'⟩:=s';obtain rfl:os'=s.os:=os;exact⟨v,H',I.call (h':=hh) (g':=g) (d':=d) (t':=t) (ch:=[]) un hok bare (fun b z=>absurd z (by simp)),r,q⟩
end
def tCall (sp:Sp) (dvs:List V) (E:XK) (t:TA):TE:=fun σ H Q=>t σ H fun vs H1=>sp (vs++dvs) H1 Q E
def Binds (K:PySem.W.Frag) (fd:FuncData) (ps:List Str) (ds:List Value):Prop:=
 ∀(s:Shared) (us:List Value),K.In s.heap->(us++ds).length=ps.length->BindsTo s fd ⟨us,[]⟩ (ps.zip (us++ds))
theorem Binds.all {K:PySem.W.Frag}{fd:FuncData}{ps:List Str}(h:∀us:List Value,us.length=ps.length->bindArgs fd ⟨us,[]⟩=pure (ps.zip us)):Binds K fd ps []:=fun s us _ hl=>by
 rw[append_nil] at hl ⊢;exact .of_eq (h us hl)
def Passes (CX:CXT) (X:Cx) (E:XK):Prop:=∀(pins:List (Addr×Obj)) (σ:St) (H:Hp) (s:Shared) (e:Value) (s':Shared),Inv X pins σ H s->CX X.stack H s E e s'->X.xe e s'
section
variable {X:Cx}{CX:CXT}{k:Nat}{f:Addr}{fd:FuncData}{ps:List Str}{sp:Sp}{dvs:List V}{ds:List Value}{E:XK}{x:Str}{p pos:Pos}{e:Expr}{es:List Expr}{t:TA}
theorem b1I {pins:List (Addr×Obj)}{σ:St}{H:Hp}{s:Shared}{Q:VK}{us:List Value}{vs:List V}(F:FnOk X.prog X.w X.K X.mg X.base CX k f fd ps sp)(hr:Room k X.A)(hb:Binds X.K fd ps ds)(hd:Vals dvs ds)(hx:Passes CX X E)
  (I:Inv X pins σ H s) (r:Vals vs us) (h:sp (vs++dvs) H Q E):wpAny (model X.prog X.w) X.A (call (.ref f) us) (EP X pins σ Q) X.xe s:=by
 have r2:Vals (vs++dvs) (us++ds):=r.append hd;have hl:(us++ds).length=ps.length:=by rw[<-r2.length];exact F.len _ _ _ _ h
 refine wpAny_call (codeAny_mono (F.run X.A X.stack s H ⟨us,[]⟩ (us++ds) (vs++dvs) Q E hr I.env0 (hb s us I.kIn hl) r2 h) fun r s' hq=>?_);cases r with
 | error e=>exact hx pins σ H s e s' I hq
 | ok fl=>
  cases fl with
  | ret u=>exact I.after hq
  | next=>exact False.elim hq
  | brk=>exact False.elim hq
  | cont=>exact False.elim hq
theorem a9W (F:FnOk X.prog X.w X.K X.mg X.base CX k f fd ps sp)(hr:Room k X.A)(hg:Gl X x)(hm:X.mg x=some (.ref f))(hk:PySem.W.keepIn X.K (.ref f)=true)(hb:Binds X.K fd ps ds)(hd:Vals dvs ds)(hx:Passes CX X E)
  (ha:PA X (e::es) t) (hdb:(x==("__debug__":Str))=false:=by decide) (he:starEach (e::es) X.env=(false,eval e X.env)::starEach es X.env:=by rfl) (hpl:(backTo pos (starEach es X.env)).any (·.1)=false:=by rfl):
  PE X (.Call (.Name x p) (e::es) [] pos) (tCall sp dvs E t):=by
 intro pins s σ H Q I h;refine wpAny_Call_Name_kw (a4J I hg hm ?_ hdb);refine PySem.W.callWith_K (h₀:=X.base) I.ok.mod.kin hk (thn (ha pos pins s σ H _ I h) fun us s1 h0=>ex5 h0 fun vs H1 I1 r q=>⟨I1.kIn,?_⟩) he hpl;exact b1I F hr hb hd hx I1 r q
end
structure FnScope (N P:List Str) (sc:Scope):Prop where
 kind:sc.kind= .function
 co:sc.isCoroutine=false
 gen:sc.isGenerator=false
 nd:N.Nodup
 pre:N.take P.length=P
 par:∀x∈P,sc.names.lookup x=some .local\/sc.names.lookup x=some .cell
 nofree:∀y∈sc.names,y.2≠.free
theorem a2p {kindOf:Str->Option NameKind}{x:Str}:∀{binds:List (Str×Value)} {m:Str->Option Value},(∀v,(x,v)∉binds)->bindL kindOf binds m x=m x
 | [],_,_=>rfl
 | (n,v)::r,m,h=>by
  unfold bindL;rw[a2p fun w hw=>h w (zH _ hw)]
  split
  ·have:x≠n:=by rintro rfl;exact h v zI
   simp[this]
  ·rfl
theorem a2v {kindOf:Str->Option NameKind}{x:Str}:∀{binds:List (Str×Value)} {m:Str->Option Value},(∀v,(x,v)∉binds)->bindC kindOf binds m x=m x
 | [],_,_=>rfl
 | (n,v)::r,m,h=>by
  unfold bindC;rw[a2v fun w hw=>h w (zH _ hw)]
  split
  ·rfl
  ·have:x≠n:=by rintro rfl;exact h v zI
   simp[this]
theorem a11 {kindOf:Str->Option NameKind}{x:Str}{v:Value}:∀{P:List Str} {vs:List Value} {i:Nat} {m:Str->Option Value},P.Nodup->P[i]? =some x->vs[i]? =some v->kindOf x=some .local->
  bindL kindOf (P.zip vs) m x=some v
 | [],_,_,_,_,h,_,_=>by simp at h
 | _::_,[],_,_,_,_,h,_=>by simp at h
 | p::P,w::vs,0,m,nd,h1,h2,hk=>by
  simp at h1 h2;subst h1;subst h2;show bindL kindOf ((p,w)::P.zip vs) m p=_;unfold bindL;rw[a2p fun v hv=>(nodup_cons.mp nd).1 (of_mem_zip hv).1,if_pos hk];simp
 | p::P,w::vs,i+1,m,nd,h1,h2,hk=>by
  show bindL kindOf ((p,w)::P.zip vs) m x=_;unfold bindL;exact a11 (i:=i) (nodup_cons.mp nd).2 (by simpa using h1) (by simpa using h2) hk
theorem a1Z {kindOf:Str->Option NameKind}{x:Str}{v:Value}:∀{P:List Str} {vs:List Value} {i:Nat} {m:Str->Option Value},P.Nodup->P[i]? =some x->vs[i]? =some v->kindOf x≠some .local->
  bindC kindOf (P.zip vs) m x=some v
 | [],_,_,_,_,h,_,_=>by simp at h
 | _::_,[],_,_,_,_,h,_=>by simp at h
 | p::P,w::vs,0,m,nd,h1,h2,hk=>by
  simp at h1 h2;subst h1;subst h2;show bindC kindOf ((p,w)::P.zip vs) m p=_;unfold bindC;rw[a2v fun v hv=>(nodup_cons.mp nd).1 (of_mem_zip hv).1,if_neg hk];simp
 | p::P,w::vs,i+1,m,nd,h1,h2,hk=>by
  show bindC kindOf ((p,w)::P.zip vs) m x=_;unfold bindC;exact a1Z (i:=i) (nodup_cons.mp nd).2 (by simpa using h1) (by simpa using h2) hk
def start (N:List Str) (vs:List V):St:=vs.map some++List.replicate (N.length-vs.length) none
def cxOf (CX:CXT) (P:Program) (w:World) (K:PySem.W.Frag) (mg:Str->Option Value) (base:Heap) (N:List Str) (qual:Str) (scope:Scope) (f:Addr) (cd:Value) (A:Around) (outer:List Env) (s:Shared) (H:Hp) (E:XK):Cx where
 prog:=P
 w:=w
 K:=K
 mg:=mg
 base:=base
 A:=A.deeper (envOfC qual scope s.heap.objs.size f cd)
 N:=N
 s₀:=s
 H₀:=H
 env:=envOfC qual scope s.heap.objs.size f cd
 outer:=outer
 stack:=envOfC qual scope s.heap.objs.size f cd::outer
 ex:=[]
 calm:=true
 fn:=fun _=>true
 pn:=[]
 xe:=fun e s'=>wpAny (model P w) (A.deeper (envOfC qual scope s.heap.objs.size f cd)) (leaving (envOfC qual scope s.heap.objs.size f cd) e) (fun _ s''=>CX outer H s E e s'') (fun e' s''=>CX outer H s E e' s'') s'
theorem a3u {sc:Scope}{n:Nat}{x:Str}(h:sc.names.lookup x=some .cell):∃c,(cellsFrom n sc.names []).lookup x=some c:=by
 have q:=PySem.W.cellsFrom_some sc.names n [] (.inl h);exact isSome_iff_exists.mp q
theorem a6o {CX:CXT}{P:Program}{w:World}{K:PySem.W.Frag}{mg:Str->Option Value}{base:Heap}{N ps:List Str}{qual:Str}{scope:Scope}{f:Addr}{cd:Value}{A:Around}{outer:List Env}{s s1:Shared}{H:Hp}{E:XK}{us:List Value}{vs:List V}
  (S:FnScope N ps scope) (hd:A.handled=none) (e0:Env0 P w K mg base A outer s H) (hl:vs.length=ps.length) (r:Vals vs us)
  (x:InCallC s s.heap.objs.size (bindL (envOfC qual scope s.heap.objs.size f cd).kindOf (ps.zip us) fun _=>none) (cellsFrom (s.heap.objs.size+1) scope.names []) (bindC (envOfC qual scope s.heap.objs.size f cd).kindOf (ps.zip us) fun _=>none) s1):
  Inv (cxOf CX P w K mg base N qual scope f cd A outer s H E) [] (start N vs) H s1:=by
 have hpl:ps.length<=N.length:=by have:=qN List.length S.pre;rw[length_take] at this;walk_at "o"
 obtain⟨h1,tk,rfl,hk⟩:=x.done;have noA:∀b:Addr,b∉(cxOf CX P w K mg base N qual scope f cd A outer s H E).ex:=fun b z=>absurd (show b∈([]:List Addr) from z) (by simp)
 refine⟨⟨e0.mod,S.kind,rfl,rfl,zE _,fun y z c h1 h2=>?_,fun y hy=>?_,fun y c _ h=>?_,fun _=>hd,Around.frames_deeper e0.frames,.inr ⟨rfl,rfl⟩,fun b z=>absurd z (noA b),e0.bs,e0.bsz,fun b _ _=>noA b,fun b z=>absurd z (noA b),e0.funs,e0.frf⟩,
  rfl,e0.bare,Un.kept hk,⟨_,x.toInCall.ns,fun i y v h1 h2 h3=>?_⟩,fun y c h=>⟨_,x.cell y c h⟩,e0.hok.fresh (zE _),fun y c h=>?_,fun p hp=>absurd (show p∈([]:List (Addr×Obj)) from hp) (by simp),e0.hok.kept hk,?_⟩
 ·exact name_of_addr x.apart (xJ h1) (xJ h2)
 ·have hy:scope.names.lookup y=some .cell\/scope.names.lookup y=some .free:=hy;rcases hy with hy|hy
  ·exact a3u hy
  ·exact absurd rfl (S.nofree _ (xJ hy))
 ·exact Nat.le_of_lt (x.above y c (xJ h))
 ·have hi:i<vs.length:=by
   unfold start at h2
   by_cases hi:i<vs.length
   ·exact hi
   ·rw[qC (by simpa using hi)] at h2
    rw[List.getElem?_replicate] at h2;split at h2<;>cases h2
  have ha:vs[i]? =some v:=by
   unfold start at h2;rw[zW (by simpa using hi),qF] at h2
   cases e:vs[i]? with
   | none=>rw[e] at h2;cases h2
   | some a=>rw[e] at h2;cases h2;rfl
  obtain⟨u,hu,rv⟩:=r.get ha;have hp:ps[i]? =some y:=by
   rw[<-S.pre,List.getElem?_take_of_lt (by walk_at "o")];exact h1
  have ndP:ps.Nodup:=by rw[<-S.pre];exact S.nd.sublist (List.take_sublist _ _)
  refine⟨u,rv,?_⟩;rcases S.par y (jW hp) with k|k
  ·exact .inl ⟨k,a11 ndP hp hu k⟩
  ·obtain⟨c,e⟩:=a3u (n:=s.heap.objs.size+1) k;refine .inr ⟨.inl k,c,e,?_⟩;have q:=x.cell y c e;rw[a1Z ndP hp hu (by show scope.names.lookup y≠_;rw[k];decide)] at q
   exact q
 ·exact e0.hok.fresh (Nat.le_of_lt (x.above y c (xJ h)))
 ·unfold start;show _=N.length;rw[qE,zC,List.length_replicate];walk_at "o"
theorem fn_of {CX:CXT}{P:Program}{w:World}{K:PySem.W.Frag}{mg:Str->Option Value}{base:Heap}{k:Nat}{f:Addr}{name qual:Str}{params:Arguments}{body:List Stmt}{scope:Scope}{dV kV doc pm cdv ct oc:Value}{an od:Option Addr}
  {osl:Array (Option Value)} {N ps:List Str} {sp:Sp} (lk:K.lookup f=some ⟨oc,od,.func (PySem.W.fnOf name qual params body scope dV kV doc pm an cdv ct),osl⟩) (hcd:PySem.W.codeIn K cdv qual=true) (S:FnScope N ps scope)
  (len:∀vs H Q E,sp vs H Q E->vs.length=ps.length)
  (hbody:∀(A:Around) (outer:List Env) (s:Shared) (H:Hp) (vs:List V) (Q:VK) (E:XK),Room k (A.deeper (envOfC qual scope s.heap.objs.size f cdv))->sp vs H Q E->
   ∃t,PSs (cxOf CX P w K mg base N qual scope f cdv A outer s H E) body t/\t {nx:=fun _ H'=>Q .non H',rt:=Q} (start N vs) H):
  FnOk P w K mg base CX (k+1) f (PySem.W.fnOf name qual params body scope dV kV doc pm an cdv ct) ps sp:=by
 refine⟨len,fun A outer s H args us vs Q E hr e0 hb r hsp=>?_⟩;have hl:=len _ _ _ _ hsp;have KX:K.In s.heap:=e0.mod.kin.keeps fun b o e=>(e0.bs b o e).1;have lim:s.heap.NoLimit:=e0.mod.nolimit.keeps fun b o e=>(e0.bs b o e).1;have hkind:∀y∈ps.zip us,scope.names.lookup y.1=some .local\/(scope.names.lookup y.1=some .cell/\((cellsFrom (s.heap.objs.size+1) scope.names []).lookup y.1).isSome=true):=fun⟨n,v⟩ hy=>by
  rcases S.par n (of_mem_zip hy).1 with q|q
  ·exact .inl q
  ·exact .inr ⟨q,PySem.W.cellsFrom_some _ _ _ (.inl q)⟩
 refine codeAny_call_function hr.depth (KX _ _ lk) rfl S.co S.gen rfl (PySem.W.codeRec_of KX hcd) (hb _ _ _ _ ?_);refine wpAny_newFunctionEnv_cells S.kind hkind fun env he s1 x=>?_;subst he;refine⟨lim.keeps x.toInCall.keep,codeAny_func ?_⟩;obtain⟨t,ht,hq⟩:=hbody A outer s H vs Q E (hr.deeper _) hsp;have I:Inv (cxOf CX P w K mg base N qual scope f cdv A outer s H E) [] (start N vs) H s1:=a6o S hr.hd e0 hl r x;refine zY (ht [] s1 (start N vs) H _ I hq) (fun fl s' hs=>?_) fun e s' hs=>hs;have fin:∀{σ':St} {H':Hp} {v:V} {u:Value},Inv (cxOf CX P w K mg base N qual scope f cdv A outer s H E) [] σ' H' s'->RelV v u->Q v H'->CE outer P w H s Q u s':=
  fun{σ' H' v u} J rv q=>⟨v,H',J.os,J.bare,J.base,J.hok,rv,q⟩
 cases fl with
 | ret u=>
  obtain⟨v,σ',H',J,rv,q⟩:=hs;exact fin J rv q
 | next=>
  obtain⟨σ',H',J,q⟩:=hs;exact fin (v:=V.non) (u:=Value.none) J rfl q
 | brk=>
  obtain⟨_,_,_,q⟩:=hs;exact False.elim q
 | cont=>
  obtain⟨_,_,_,q⟩:=hs;exact False.elim q
section
variable {X:Cx}{x:Str}{p pos:Pos}{e:Expr}{es:List Expr}{t:TA}{id T:String}{r:List V->Hp->VK->Prop}
def tCB (r:List V->Hp->VK->Prop) (t:TA):TE:=fun σ H Q=>t σ H fun vs H1=>r vs H1 Q
theorem a3O (hc:CallR X (.builtin id) r)(hg:Gl X x)(hm:X.mg x=none)(hv:bootBuiltins x=some (.builtin id))(ha:PA X (e::es) t)(hn:x≠"__name__":=by decide)(hdb:(x==("__debug__":Str))=false:=by decide)
  (he:starEach (e::es) X.env=(false,eval e X.env)::starEach es X.env:=by rfl) (hpl:(backTo pos (starEach es X.env)).any (·.1)=false:=by rfl):PE X (.Call (.Name x p) (e::es) [] pos) (tCB r t):=by
 intro pins s σ H Q I h;refine wpAny_Call_Name_kw (a0e I hg hm hv ?_ hn hdb);exact PyProof.Rows.callWith_builtin1 (thn (ha pos pins s σ H _ I h) fun us s1 h0=>ex5 h0 fun vs H1 I1 r1 q1=>hc pins s1 σ H1 vs us Q I1 r1 q1) he hpl
theorem a5Z (hc:CallR X (.type T) r)(hg:Gl X x)(hm:X.mg x=none)(hv:bootBuiltins x=some (.type T))(ha:PA X (e::es) t)(hn:x≠"__name__":=by decide)(hdb:(x==("__debug__":Str))=false:=by decide)
  (he:starEach (e::es) X.env=(false,eval e X.env)::starEach es X.env:=by rfl) (hpl:(backTo pos (starEach es X.env)).any (·.1)=false:=by rfl):PE X (.Call (.Name x p) (e::es) [] pos) (tCB r t):=by
 intro pins s σ H Q I h;refine wpAny_Call_Name_kw (a0e I hg hm hv ?_ hn hdb);exact jR (thn (ha pos pins s σ H _ I h) fun us s1 h0=>ex5 h0 fun vs H1 I1 r1 q1=>hc pins s1 σ H1 vs us Q I1 r1 q1) he hpl
end
end L2
namespace HT
open PySem PyProof.Rows
def lexLt:List Int->List Int->Bool
 | [],[]=>false
 | [],_::_=>true
 | _::_,[]=>false
 | x::xs,y::ys=>if x=y then lexLt xs ys else decide (x<y)
theorem lexLt_cons (x y:Int)(xs ys:List Int):lexLt (x::xs) (y::ys)=if x=y then lexLt xs ys else decide (x<y):=rfl
theorem a1U:lexLt [] []=false:=rfl
theorem a1B (y:Int)(ys:List Int):lexLt [] (y::ys)=true:=rfl
theorem a1p (x:Int)(xs:List Int):lexLt (x::xs) []=false:=rfl
theorem a7Z (A:Around)(s:Shared)(a:Int)(t:Tok)(c:Int)(u:Tok):∃e,SeqAt.EqAt A s (.int a t) (.int c u) e/\(e=true↔a=c):=
 ⟨(a==c),SeqAt.EqAt.int_int a t c u,by simp⟩
theorem a8T (A:Around)(s:Shared)(a:Int)(t:Tok)(c:Int)(u:Tok)(prog:Program)(w:World)(E:Value->Shared->Prop)(Q:Value->Shared->Prop)(h:Q (.bool (decide (a<c))) s):
  wpAny (model prog w) A (richCompare .Lt (.int a t) (.int c u)) Q E s:=
 (PyProof.Rows.lt_int h:wpAny (model prog w) A (compareOp .Lt (.int a t) (.int c u)) Q E s)
section
open PySem.SeqAt
open PySem.AutoSeq1 (wpAny_loadPart')
open PySem.MeetsSeq PySem.MeetsSeq2 PySem.MeetsSeq3
theorem a1V (l b:Addr)(items items2:Array Value)(n n2:Nat)(dd dd2:Option Addr)(sl sl2:Array (Option Value))(ns ms:List Int)(hi:IntsAre items.toList ns)(hj:IntsAre items2.toList ms):
  Meets (Builtin.«tuple.__lt__» ⟨[.ref l,.ref b],[]⟩)
   (fun _ R s=>s.heap.get? l=some {cls:=.type "tuple",dict:=dd,data:=.seq items n,slots:=sl}/\s.heap.get? b=some {cls:=.type "tuple",dict:=dd2,data:=.seq items2 n2,slots:=sl2}/\
    R (.ok (.ret (.bool (lexLt ns ms)))) s):=
 .of_wp fun prog w A R s h=>by
  obtain⟨hp,g,d,tk,os⟩:=s;obtain⟨hl,hb,h⟩:=h;have f2:=AutoSeq1.sub_tuple_tuple;have z1:items.size=ns.length:=by rw[<-hi.length];simp
  have z2:items2.size=ms.length:=by rw[<-hj.length];simp
  wp_walk using wpAny_loadPart' hl,wpAny_loadPart' hb,wpAny_forIn_list _ (fun rest b s'=>b.1=none/\s'=⟨hp,g,d,tk,os⟩/\∃(vs ws:List Value) (ns' ms':List Int),rest=vs.zip ws/\
   IntsAre vs ns'/\IntsAre ws ms'/\ns'.length+items2.size=ms'.length+items.size/\R (.ok (.ret (.bool (lexLt ns' ms')))) ⟨hp,g,d,tk,os⟩) _
  case turn=>
   rintro⟨y,x⟩ rest b s' ⟨hb',rfl,vs,ws,ns',ms',hz,hvi,hwi,hlen,hR⟩;cases hvi with
   | nil=>rw[zip_nil_left] at hz;cases hz
   | cons a t hvi'=>
    cases hwi with
    | nil=>rw[List.zip_nil_right] at hz;cases hz
    | cons c u hwi'=>
     rw[jF] at hz;injection hz with hyx hrest
     injection hyx with hy hx
     subst hy hx;rw[lexLt_cons] at hR;simp only[zZ] at hlen;obtain⟨e,he,hiff⟩:=a7Z A.in1 ⟨hp,g,d,tk,os⟩ a t c u;refine zA (he prog w _ _ ?_);cases e with
     | true=>
      rw[if_pos (hiff.mp rfl)] at hR
      wp_walk
      exact⟨rfl,rfl,_,_,_,_,hrest,hvi',hwi',by walk_at "o",hR⟩
     | false=>
      rw[if_neg (fun q=>absurd (hiff.mpr q) zS)] at hR;have hri:=a8T A.in1 ⟨hp,g,d,tk,os⟩ a t c u prog w
      wp_walk using hri
      exact⟨_,rfl,by simpa using hR⟩
  case fin=>
   rintro⟨b1,b2⟩ s' ⟨hb',rfl,vs,ws,ns',ms',hz,hvi,hwi,hlen,hR⟩;simp only at hb';subst hb';have hv:lexLt ns' ms'=decide (items.size<items2.size):=by
    cases hvi with
    | nil=>
     cases hwi with
     | nil=>
      simp only[length_nil] at hlen;rw[a1U];exact(zT (by walk_at "o")).symm
     | cons c u hw=>
      simp only[length_nil,zZ] at hlen;rw[a1B];exact(zR (by walk_at "o")).symm
    | cons a t hv=>
     cases hwi with
     | nil=>
      simp only[length_nil,zZ] at hlen;rw[a1p];exact(zT (by walk_at "o")).symm
     | cons c u hw=>
      rw[jF] at hz;cases hz
   rw[hv] at hR
   wp_walk
   exact⟨_,rfl,by simpa [Builtin.Tuple.tupleCompareSizes] using hR⟩
  case h=>
   exact⟨rfl,rfl,items.toList,items2.toList,ns,ms,rfl,hi,hj,by walk_at "o",h⟩
end
section
variable {prog:Program}{w:World}{A:Around}{E:Value->Shared->Prop}{s:Shared}
theorem lt_tupInts {l b:Addr}{items items2:Array Value}{ns ms:List Int}{Q:Value->Shared->Prop}(hl:IsTup s.heap l items)(hb:IsTup s.heap b items2)(hi:IntsAre items.toList ns)(hj:IntsAre items2.toList ms)
  (hu:A.units<cLine) (h:Q (.bool (lexLt ns ms)) s):wpAny (model prog w) A (compareOp .Lt (.ref l) (.ref b)) Q E s:=by
 obtain⟨⟨cls,dd,data,sl⟩,ho,hc,n,hd⟩:=id hl;obtain⟨⟨cls2,dd2,data2,sl2⟩,ho2,hc2,n2,hd2⟩:=id hb;simp only at hc hd hc2 hd2;subst hc hd hc2 hd2;exact richCompare_meets_room (op:=.Lt) ⟨_,ho,rfl⟩ ⟨_,ho2,rfl⟩ PySem.F.slot_tuple_lt PySem.F.entry_tuple_lt (PySem.F.args_tuple_lt_2 _ _) (a1V l b items items2 n n2 dd dd2 sl sl2 ns ms hi hj)
  ⟨ho,ho2,show Value.bool (lexLt ns ms)≠Value.notImplemented/\Q (.bool (lexLt ns ms)) s from⟨(fun x=>nomatch x),h⟩⟩ hu
theorem cat_tup {t b:Addr}{vs ws:List Value}{Q:Value->Shared->Prop}(ht:IsTup s.heap t vs.toArray)(hb:IsTup s.heap b ws.toArray)(hv:vs≠[])
  (h1:ws=[]->Q (.ref t) s) (h2:ws≠[]->Q (.ref s.heap.objs.size) {s with heap:=s.heap.push {cls:=.type "tuple",data:=.seq (vs++ws).toArray}})
  (hsz:vs.length+ws.length<=sizeLine):wpAny (model prog w) A (binaryOp .Add (.ref t) (.ref b)) Q E s:=by
 obtain⟨⟨cls,dd,data,sl⟩,ho,hc,n,hd⟩:=id ht;obtain⟨⟨cls2,dd2,data2,sl2⟩,ho2,hc2,n2,hd2⟩:=id hb;simp only at hc hd hc2 hd2;subst hc hd hc2 hd2;have e:vs.toArray++ws.toArray=(vs++ws).toArray:=by simp
 by_cases hw:ws=[]
 ·exact concat_meets ⟨_,ho,rfl⟩ ⟨_,ho2,rfl⟩ noFill_tuple_add seq_tuple_add PySem.F.slot_tuple_add PySem.F.entry_tuple_add (PySem.F.args_tuple_add_2 _ _)
   (tuple_addW1 t b vs.toArray ws.toArray n n2 dd dd2 sl sl2 (by simpa using hv) (by simp[hw])) ⟨ho,ho2,h1 hw⟩
 ·refine concat_meets ⟨_,ho,rfl⟩ ⟨_,ho2,rfl⟩ noFill_tuple_add seq_tuple_add PySem.F.slot_tuple_add PySem.F.entry_tuple_add (PySem.F.args_tuple_add_2 _ _)
   (tuple_addW2 t b vs.toArray ws.toArray n n2 dd dd2 sl sl2 (by simpa using hv) (by simpa using hw) (by rw[zU,zU];exact hsz)) ⟨ho,ho2,?_⟩
  rw[e];exact h2 hw
def sIx (n d:Nat):Option Int->Nat
 | none=>d
 | some v=>if v<0 then(v+(n:Int)).toNat else min v.toNat n
theorem sIx_none (n d:Nat):sIx n d none=d:=rfl
theorem sIx_nat (n d k:Nat):sIx n d (some (k:Int))=min k n:=by
 show(if(k:Int)<0 then((k:Int)+(n:Int)).toNat else min (k:Int).toNat n)=min k n;rw[if_neg (by walk_at "o"),jY]
theorem b1g (n d:Nat)(hd:d<=n)(o:Option Int):sIx n d o<=n:=by
 cases o with
 | none=>exact hd
 | some v=>
  show(if v<0 then(v+(n:Int)).toNat else min v.toNat n)<=n
  by_cases hv:v<0
  ·rw[if_pos hv];walk_at "o"
  ·rw[if_neg hv];exact Nat.min_le_right _ _
theorem a5J (v:Int)(n d:Nat):(if v<0 then max (v+(n:Int)) 0 else min v (n:Int))=((sIx n d (some v):Nat):Int):=by
 show(if v<0 then max (v+(n:Int)) 0 else min v (n:Int))=(((if v<0 then(v+(n:Int)).toNat else min v.toNat n):Nat):Int)
 by_cases hv:v<0
 ·simp only[if_pos hv];walk_at "o"
 ·simp only[if_neg hv];walk_at "o"
theorem a4A (lo hi:Option Int)(n:Nat):Builtin.Slice.sliceAdjust lo hi 1 (n:Int)=(((sIx n 0 lo:Nat):Int),((sIx n n hi:Nat):Int)):=by
 have h1:¬((1:Int)<0):=by walk_at "o"
 unfold Builtin.Slice.sliceAdjust;simp only[h1,xQ];refine Prod.ext ?_ ?_
 ·cases lo with
  | none=>rfl
  | some v=>exact a5J v n 0
 ·cases hi with
  | none=>rfl
  | some v=>exact a5J v n n
theorem a4d (i j:Nat):Builtin.Slice.slicePlaces (i:Int) (j:Int) 1=j-i:=by
 unfold Builtin.Slice.slicePlaces;have h1:(1:Int)>0:=by walk_at "o"
 simp only[h1,jB,Int.ediv_one]
 split<;>walk_at "o"
theorem a1j {v:Value}{o:Option Int}{Q:Option Int->Shared->Prop}(p:IsPart v o)(h:Q o s):wpAny (model prog w) A (Builtin.Slice.slicePartIndex v) Q E s:=by
 cases p with
 | none=>exact slicePart_none h
 | int i t=>exact slicePart_int h
theorem sliceApplied_gen {sl:Addr}{vl vu:Value}{lo hi:Option Int}{n:Nat}{Q:Int×Int×Nat->Shared->Prop}(hs:s.heap.IsSliceOf sl vl vu .none)(pl:IsPart vl lo)(pu:IsPart vu hi)
  (h:Q (((sIx n 0 lo:Nat):Int),1,sIx n n hi-sIx n 0 lo) s):wpAny (model prog w) A (Builtin.Slice.sliceApplied (.ref sl) (pure (n:Int))) Q E s:=by
 obtain⟨os,hos,hcs,hds⟩:=id hs;unfold Builtin.Slice.sliceApplied Builtin.Slice.sliceFields;refine zA (zA (qR hos hds (x:=vl) rfl (zA (qR hos hds (x:=vu) rfl (zA (qR hos hds (x:=.none) rfl (zB ?_)))))));refine zA (slicePart_none ?_);show wpAny _ _ (if((1:Int)==0)=true then _ else _) _ _ s;rw[if_neg (by decide)]
 refine zA (a1j pl (zA (a1j pu (zA (zB ?_)))));show wpAny _ _ (match Builtin.Slice.sliceAdjust lo hi 1 (n:Int) with|(lo,hi)=>pure (lo,(1:Int),Builtin.Slice.slicePlaces lo hi 1)) _ _ s
 rw[a4A lo hi n];show wpAny _ _ (pure (((sIx n 0 lo:Nat):Int),(1:Int),Builtin.Slice.slicePlaces ((sIx n 0 lo:Nat):Int) ((sIx n n hi:Nat):Int) 1)) _ _ s;rw[a4d];exact zB h
theorem a6R (xs:Array Value)(i k:Nat):((List.range k).filterMap fun(m:Nat)=>xs[((i:Int)+(m:Int)*1).toNat]?).toArray=((xs.toList.drop i).take k).toArray:=by
 have e:(fun(m:Nat)=>xs[((i:Int)+(m:Int)*1).toNat]?)=fun m=>xs[i+m]?:=by
  funext m
  have:((i:Int)+(m:Int)*1).toNat=i+m:=by walk_at "o"
  rw[this]
 rw[e]
 have:=pick_run xs i k
 rw[List.filterMap_map] at this;have e2:((fun x=>xs[x]?)∘fun x=>i+x)=fun m=>xs[i+m]?:=rfl;rw[e2] at this;rw[this]
theorem getItem_tuple_cut {t sl:Addr}{items:Array Value}{vl vu:Value}{lo hi:Option Int}{Q:Value->Shared->Prop}(ht:IsTup s.heap t items)(hs:s.heap.IsSliceOf sl vl vu .none)(pl:IsPart vl lo)(pu:IsPart vu hi)
  (hw:¬(sIx items.size 0 lo=0/\sIx items.size items.size hi=items.size))
  (h:Q (.ref s.heap.objs.size) {s with heap:=s.heap.push {cls:=.type "tuple",data:=.seq ((items.toList.drop (sIx items.size 0 lo)).take (sIx items.size items.size hi-sIx items.size 0 lo)).toArray}})
  (hsz:items.size<=sizeLine):wpAny (model prog w) A (getItem (.ref t) (.ref sl)) Q E s:=by
 have htake:sizeOk (.seq ((items.toList.drop (sIx items.size 0 lo)).take (sIx items.size items.size hi-sIx items.size 0 lo)).toArray):=by
  show((items.toList.drop (sIx items.size 0 lo)).take (sIx items.size items.size hi-sIx items.size 0 lo)).toArray.size<=sizeLine;rw[zU,length_take,length_drop,qW];omega
 have hj:sIx items.size items.size hi<=items.size:=b1g _ _ (zE _) hi;obtain⟨os,hos,hcs,hds⟩:=id hs;have hTs:s.TypeIs (.ref sl) "slice":=⟨os,hos,hcs⟩;unfold getItem
 try with_reducible refine qP ?_
 first|refine zA (zB ?_)|skip
 refine zA (wpAny_sequenceKey ht.typeIs (by decide) ?_)
 refine zA (qD (name:=Str.ofString "__getitem__") ht.typeIs qL
  (qI qL ht.typeIs entry_tuple_getitem ?_ (args_tuple_getitem _ _)))
 show wpAny _ _ (Builtin.Tuple.tupleItemsOf (.ref t) >>=_) _ _ s;refine zA (tupleItemsOf_ ht ?_);refine zA (wpAny_typeOf hTs ?_);rw[if_pos (by decide)]
 refine zA (sliceApplied_gen hs pl pu ?_);have hno:¬((((sIx items.size 0 lo:Nat):Int)==0&&(1:Int)==1&&(sIx items.size items.size hi-sIx items.size 0 lo)==items.size)=true):=by
  intro q;rw[xG,xG] at q;have q1:((sIx items.size 0 lo:Nat):Int)=0:=eq_of_beq q.1.1;have q2:sIx items.size items.size hi-sIx items.size 0 lo=items.size:=eq_of_beq q.2;exact hw ⟨by omega,by omega⟩
 show wpAny _ _ (if(((sIx items.size 0 lo:Nat):Int)==0&&(1:Int)==1&&(sIx items.size items.size hi-sIx items.size 0 lo)==items.size)=true then _ else _) _ _ s;rw[if_neg hno,a6R]
 first
  | exact zA (m:=Builtin.Tuple.tupleExact _) (qK (zB ⟨_,rfl,zB h⟩) htake)
  | exact zA (m:=Builtin.Tuple.tupleExact _) (qK (zA (zB (zB ⟨_,rfl,zB h⟩))) htake)
  | exact zA (zA (m:=Builtin.Tuple.tupleExact _) (qK (zB (zB ⟨_,rfl,zB h⟩)) htake))
  | exact zA (zA (m:=Builtin.Tuple.tupleExact _) (qK (zB ⟨_,rfl,zB h⟩) htake))
end
end HT
namespace L2
open PySem PySem.Spec PyProof.Rows
abbrev TO:=St->Hp->(Option Int->Hp->Prop)->Prop
def PO (X:Cx) (e:Option Expr) (t:TO):Prop:=
 ∀(pins:List (Addr×Obj)) (s:Shared) (σ:St) (H:Hp) (Q:Option Int->Hp->Prop),Inv X pins σ H s->t σ H Q->
  wpAny (model X.prog X.w) X.A (evalPart e X.env) (fun u s'=>∃o H',Inv X pins σ H' s'/\IsPart u o/\Q o H') X.xe s
def tNoPart:TO:=fun _ H Q=>Q none H
def tPart (t:TE):TO:=fun σ H Q=>t σ H fun x H1=>∃i,x= .int i/\Q (some i) H1
theorem L0 {ns:List Int}:∀{us:List Value},Vals (ns.map V.int) us->IntsAre us ns:=by
 induction ns with
 | nil=>intro us r;rw[xD] at r;cases r;exact .nil
 | cons n ns ih=>
  intro us r;rw[zJ] at r;cases r with
  | cons r1 r2=>
   obtain⟨t,e⟩:=r1;subst e;exact .cons n t (ih r2)
section
variable {X:Cx}{e:Expr}{te:TE}{lo hi:Option Expr}{tl th:TO}{pos p2:Pos}
theorem a9P:PO X none tNoPart:=by
 intro pins s σ H Q I h;rw[evalPart_none];exact zB ⟨none,H,I,.none,h⟩
theorem a8Z (h:PE X e te):PO X (some e) (tPart te):=by
 intro pins s σ H Q I hw;rw[evalPart_some];refine thn (h pins s σ H _ I hw) fun u s1 h0=>ex5 h0 fun x H1 I1 r1 q1=>?_;obtain⟨i,rfl,q⟩:=q1;obtain⟨t,rfl⟩:=r1;exact⟨some i,H1,I1,.int i t,q⟩
def SlR (X:Cx) (r:V->Option Int->Option Int->Hp->VK->Prop):Prop:=
 ∀(pins:List (Addr×Obj)) (s:Shared) (σ:St) (H:Hp) (x:V) (v vl vu:Value) (lo hi:Option Int) (sl:Addr) (Q:VK),Inv X pins σ H s->RelV x v->s.heap.IsSliceOf sl vl vu .none->IsPart vl lo->IsPart vu hi->r x lo hi H Q->
  ∃T id,typeLookup (.type T) "__getitem__"=pure (some (.builtin id))/\s.TypeIs v T/\wpAny (model X.prog X.w) X.A (getItem v (.ref sl)) (EP X pins σ Q) X.xe s
theorem SlR.or {r r':V->Option Int->Option Int->Hp->VK->Prop}(h:SlR X r)(h':SlR X r'):SlR X (fun x lo hi H Q=>r x lo hi H Q\/r' x lo hi H Q):=by
 intro pins s σ H x v vl vu lo hi sl Q I rx hs pl pu q;rcases q with q|q
 ·exact h pins s σ H x v vl vu lo hi sl Q I rx hs pl pu q
 ·exact h' pins s σ H x v vl vu lo hi sl Q I rx hs pl pu q
def tSl (r:V->Option Int->Option Int->Hp->VK->Prop) (te:TE) (tl th:TO):TE:=fun σ H Q=>te σ H fun x H1=>tl σ H1 fun l H2=>th σ H2 fun u H3=>r x l u H3 Q
theorem a3q {r:V->Option Int->Option Int->Hp->VK->Prop}(hr:SlR X r)(he:PE X e te)(hl:PO X lo tl)(hu:PO X hi th):PE X (.Subscript e (.Slice lo hi none p2) pos) (tSl r te tl th):=by
 intro pins s σ H Q I h;refine Subscript_ (thn (he pins s σ H _ I h) fun v s1 h0=>ex5 h0 fun x H1 I1 r1 q1=>?_);refine wpAny_Slice (thn (hl pins s1 σ H1 _ I1 q1) fun vl s2 ⟨l,H2,I2,pl,q2⟩=>thn (hu pins s2 σ H2 _ I2 q2) fun vu s3 ⟨u,H3,I3,pu,q3⟩=>?_);rw[evalPart_none];refine zB ?_;have I4:Inv X pins σ H3 {s3 with heap:=s3.heap.push {cls:=.type "slice",data:=.fields #[vl,vu,.none]}}:=I3.kept (t':=s3.toks) fun b ob q=>zD _ q
 obtain⟨T,id,hT,ht,hg⟩:=hr pins {s3 with heap:=s3.heap.push {cls:=.type "slice",data:=.fields #[vl,vu,.none]}} σ H3 x v vl vu l u s3.heap.objs.size Q I4 r1 (Heap.IsSliceOf.new ..) pl pu q3
 show wpAny (model X.prog X.w) X.A (subscriptTail e (.Slice lo hi none p2) v (.ref s3.heap.objs.size)) (EP X pins σ Q) X.xe {s3 with heap:=s3.heap.push {cls:=.type "slice",data:=.fields #[vl,vu,.none]}}
 exact tail_any (ops:=[.ref s3.heap.objs.size,v]) ht hT hg (by with_unfolding_all rfl)
def cutV (xs:List V) (lo hi:Option Int):List V:=(xs.drop (HT.sIx xs.length 0 lo)).take (HT.sIx xs.length xs.length hi-HT.sIx xs.length 0 lo)
theorem a0v (xs:List V)(lo hi:Option Int):(cutV xs lo hi).length<=xs.length:=by
 unfold cutV;rw[length_take,length_drop];walk_at "o"
def rSlT (K:PySem.W.Frag):V->Option Int->Option Int->Hp->VK->Prop:=fun x lo hi H Q=>∃a xs,x= .ref a/\SqT K H a xs/\
 ¬(HT.sIx xs.length 0 lo=0/\HT.sIx xs.length xs.length hi=xs.length)/\∀p,H p=none->Q (.ref p) (upd H p (.tup (cutV xs lo hi)))
theorem b1i:SlR X (rSlT X.K):=by
 intro pins s σ H x v vl vu lo hi sl Q I rx hs pl pu h;obtain⟨a,xs,rfl,hx,hw,q⟩:=h;cases rx;obtain⟨its,r,ht,hz⟩:=I.tuple hx;have hlen:its.toArray.size=xs.length:=by rw[zU];exact r.length.symm
 refine⟨"tuple",_,PyProof.Rows.slot_tuple_getitem.lookup,ht.typeIs,?_⟩;refine HT.getItem_tuple_cut ht hs pl pu (by rw[hlen];exact hw) ?_ (by rw[hlen];exact hz)
 rw[hlen];refine⟨.ref s.heap.objs.size,_,I.laid (t':=s.toks) (o:=.tup (cutV xs lo hi)) (fun b ob q=>zD _ q) (zE _) ?_,rfl,q _ (I.hok.fresh (zE _))⟩;exact⟨zG (a0v xs lo hi) hz,_,(r.drop (HT.sIx xs.length 0 lo)).take (HT.sIx xs.length xs.length hi-HT.sIx xs.length 0 lo),TupN.new _ _⟩
def rLtT (K:PySem.W.Frag):R2:=fun x y H Q=>∃a b ns ms,x= .ref a/\y= .ref b/\SqT K H a (ns.map V.int)/\SqT K H b (ms.map V.int)/\Q (.bl (HT.lexLt ns ms)) H
theorem a8r (hu:X.A.units<cLine):OpR X (compareOp .Lt) (rLtT X.K):=by
 intro pins s σ H x y v u Q I rx ry h;obtain⟨a,b,ns,ms,rfl,rfl,ha,hb,q⟩:=h;cases rx;cases ry;obtain⟨its,r1,p1,_⟩:=I.tuple ha;obtain⟨its2,r2,p2,_⟩:=I.tuple hb;have i1:IntsAre its.toArray.toList ns:=L0 r1;have i2:IntsAre its2.toArray.toList ms:=L0 r2;exact HT.lt_tupInts p1 p2 i1 i2 hu ⟨.bl (HT.lexLt ns ms),H,I,rfl,q⟩
def rCatT (K:PySem.W.Frag):R2:=fun x y H Q=>∃a b xs ys,x= .ref a/\y= .ref b/\SqT K H a xs/\SqT K H b ys/\xs≠[]/\xs.length+ys.length<=sizeLine/\
 (ys=[]->Q (.ref a) H)/\(ys≠[]->∀p,H p=none->Q (.ref p) (upd H p (.tup (xs++ys))))
theorem Vals.nil_iff {xs:List V}{us:List Value}(r:Vals xs us):us=[]↔xs=[]:=by
 cases r with
 | nil=>simp
 | cons _ _=>simp
theorem a5s:OpR X (binaryOp .Add) (rCatT X.K):=by
 intro pins s σ H x y v u Q I rx ry h;obtain⟨a,b,xs,ys,rfl,rfl,ha,hb,hx,hz,q1,q2⟩:=h;cases rx;cases ry;obtain⟨its,r1,p1,_⟩:=I.tuple ha;obtain⟨its2,r2,p2,_⟩:=I.tuple hb;refine HT.cat_tup p1 p2 (fun z=>hx (r1.nil_iff.mp z)) (fun z=>⟨.ref a,H,I,rfl,q1 (r2.nil_iff.mp z)⟩) (fun z=>?_) (by rw[<-r1.length,<-r2.length];exact hz)
 refine⟨.ref s.heap.objs.size,_,I.laid (t':=s.toks) (o:=.tup (xs++ys)) (fun b ob q=>zD _ q) (zE _) ?_,rfl,q2 (fun w=>z (r2.nil_iff.mpr w)) _ (I.hok.fresh (zE _))⟩;exact⟨by rw[qE];exact hz,_,r1.append r2,TupN.new _ _⟩
end
def ixN (n:Nat) (i:Int):Option Nat:=if 0<=i then(if i<n then some i.toNat else none) else if -(n:Int)<=i then some (i+n).toNat else none
def atI {α:Type} (xs:List α) (i:Int):Option α:=(ixN xs.length i).bind fun j=>xs[j]?
theorem a9B {n:Nat}{i:Int}{j:Nat}(h:ixN n i=some j):seqIndex? i n=some j/\j<n/\-(n:Int)<=i/\i<n:=by
 unfold ixN at h
 by_cases h0:0<=i
 ·rw[if_pos h0] at h
  by_cases h1:i<n
  ·rw[if_pos h1] at h;have e:i.toNat=j:=qQ h;exact⟨by rw[seqIndex_of h0 h1,e],by walk_at "o",by walk_at "o",h1⟩
  ·rw[if_neg h1] at h;cases h
 ·rw[if_neg h0] at h
  by_cases h1:-(n:Int)<=i
  ·rw[if_pos h1] at h;have e:(i+n).toNat=j:=qQ h;exact⟨by rw[seqIndex_neg (by walk_at "o") h1,e],by walk_at "o",h1,by walk_at "o"⟩
  ·rw[if_neg h1] at h;cases h
theorem a27 {α:Type}{xs:List α}{i:Int}{v:α}(h:atI xs i=some v):∃j,seqIndex? i xs.length=some j/\xs[j]? =some v/\j<xs.length/\-(xs.length:Int)<=i/\i<xs.length:=by
 unfold atI at h;cases e:ixN xs.length i with
 | none=>rw[e] at h;cases h
 | some j=>
  rw[e] at h;obtain⟨h1,h2,h3,h4⟩:=a9B e;exact⟨j,h1,h,h2,h3,h4⟩
theorem u4 {α:Type}{xs:List α}{j:Nat}{v:α}(h:xs[j]? =some v):atI xs (j:Int)=some v:=by
 have hj:j<xs.length:=(zM.mp h).1;have e:ixN xs.length (j:Int)=some j:=by
  unfold ixN;rw[if_pos (by walk_at "o"),if_pos (by walk_at "o")];simp
 unfold atI;rw[e];exact h
def PlainIx (b:Expr):Prop:=∀o i,subscripted b false o i=operate [o,i] (getItem o i)
def IxR (X:Cx) (r:R2):Prop:=
 ∀(value slice:Expr) (pins:List (Addr×Obj)) (s:Shared) (σ:St) (H:Hp) (x y:V) (v u:Value) (Q:VK),Inv X pins σ H s->RelV x v->RelV y u->r x y H Q->
  subscripted slice false v u=operate [v,u] (getItem v u)->wpAny (model X.prog X.w) X.A (subscriptTail value slice v u) (EP X pins σ Q) X.xe s
def MtR (X:Cx) (id:String) (r:V->List V->Hp->VK->Prop):Prop:=
 ∀(pins:List (Addr×Obj)) (s:Shared) (σ:St) (H:Hp) (x:V) (xs:List V) (v:Value) (us:List Value) (Q:VK),Inv X pins σ H s->RelV x v->Vals xs us->r x xs H Q->
  wpAny (model X.prog X.w) X.A (call (.builtin id) (v::us)) (EP X pins σ Q) X.xe s
section
variable {X:Cx}{a b:Expr}{ta tb:TE}{pos:Pos}
theorem IxR.or {r r':R2}(h:IxR X r)(h':IxR X r'):IxR X (fun x y H Q=>r x y H Q\/r' x y H Q):=by
 intro value slice pins s σ H x y v u Q I rx ry q hs;rcases q with q|q
 ·exact h value slice pins s σ H x y v u Q I rx ry q hs
 ·exact h' value slice pins s σ H x y v u Q I rx ry q hs
theorem b0C {r:R2}(hr:IxR X r)(ha:PE X a ta)(hb:PE X b tb)(hs:PlainIx b):PE X (.Subscript a b pos) (tOp r ta tb):=by
 intro pins s σ H Q I h;exact Subscript_ (binT ha hb I h fun v u s2 x y H2 I2 rx ry q=>hr a b pins s2 σ H2 x y v u Q I2 rx ry q (hs _ _))
def rIxL (K:PySem.W.Frag):R2:=fun x y H Q=>∃p xs i v,x= .ref p/\y= .int i/\SqL K H p xs/\atI xs i=some v/\Q v H
def rIxT (K:PySem.W.Frag):R2:=fun x y H Q=>∃p xs i v,x= .ref p/\y= .int i/\SqT K H p xs/\atI xs i=some v/\Q v H
def rIxS:R2:=fun x y H Q=>∃z i c,x= .str z/\y= .int i/\z.length<=sizeLine/\atI z.cps.toList i=some c/\Q (.str ⟨#[c]⟩) H
theorem a83:IxR X (rIxL X.K):=by
 intro value slice pins s σ H x y v u Q I rx ry h hs;obtain⟨p,xs,i,z,rfl,rfl,hq,he,q⟩:=h;cases rx;obtain⟨t,rfl⟩:=ry;obtain⟨its,r,pl,hz⟩:=I.list hq;obtain⟨j,h1,h2,h3,h4,h5⟩:=a27 he;obtain⟨w,ew,rw'⟩:=r.get h2;have hl:=r.length;have hn:=line63;have fin:EP X pins σ Q w s:=⟨z,H,I,rw',q⟩
 by_cases h0:0<=i
 ·have hj:i.toNat=j:=by
   rw[seqIndex_of h0 h5] at h1;exact qQ h1
  exact item_listR pl.isList h0 (by walk_at "o") (by rw[hj];simpa using ew) fin hs
 ·have hj:(i+(its.toArray.size:Int)).toNat=j:=by
   rw[seqIndex_neg (by walk_at "o") h4] at h1
   rw[zU,<-hl];exact qQ h1
  exact xR (x:=w) pl.isList.typeIs slot_list_getitem.lookup
   (wpAny_getItem_list_neg (Q:=fun r s'=>r=w/\EP X pins σ Q r s') pl.isList (by walk_at "o") (by rw[zU]<;>walk_at "o") (by walk_at "o") (by rw[hj];simpa using ew) ⟨rfl,fin⟩) hs
theorem b19:IxR X (rIxT X.K):=by
 intro value slice pins s σ H x y v u Q I rx ry h hs;obtain⟨p,xs,i,z,rfl,rfl,hq,he,q⟩:=h;cases rx;obtain⟨t,rfl⟩:=ry;obtain⟨its,r,pl,hz⟩:=I.tuple hq;obtain⟨j,h1,h2,h3,h4,h5⟩:=a27 he;obtain⟨w,ew,rw'⟩:=r.get h2;have hl:=r.length;have hn:=line63;have fin:EP X pins σ Q w s:=⟨z,H,I,rw',q⟩;exact xR (x:=w) pl.typeIs slot_tuple_getitem.lookup
  (getItem_tuple (j:=j) (Q:=fun r s'=>r=w/\EP X pins σ Q r s') pl (by walk_at "o") (by walk_at "o") (by rw[zU,<-hl];exact h1) (by simpa using ew) ⟨rfl,fin⟩) hs
theorem b1R:IxR X rIxS:=by
 intro value slice pins s σ H x y v u Q I rx ry h hs;obtain⟨z,i,c,rfl,rfl,hz,he,q⟩:=h;obtain⟨t,rfl⟩:=rx;obtain⟨t',rfl⟩:=ry;obtain⟨j,h1,h2,h3,h4,h5⟩:=a27 he;have hl:z.cps.toList.length=z.length:=by simp[Str.length]
 rw[hl] at h1 h4 h5;have hn:=line63
 exact tail_any (typeIs_str s z t) slot_str_getitem.lookup (getItem_str (c:=c) (by
  have e1:decide (i < -(2^63:Int))=false:=zT (by walk_at "o")
  have e2:decide (i≥2^63)=false:=zT (by walk_at "o")
  rw[e1,e2,Bool.or_false]) (by rw[h1];simpa using h2) ⟨.str ⟨#[c]⟩,H,I.tok _,⟨_,rfl⟩,q⟩) hs
def rIx (K:PySem.W.Frag):R2:=fun x y H Q=>rIxL K x y H Q\/rIxT K x y H Q\/rIxS x y H Q
theorem a8c:IxR X (rIx X.K):=a83.or (b19.or b1R)
theorem Inv.lst {pins:List (Addr×Obj)}{σ:St}{H:Hp}{s:Shared}{p:Addr}{xs:List V}(I:Inv X pins σ H s)(h:H p=some (.lst xs)):
  ∃(its:List Value) (n:Nat),Vals xs its/\s.heap.get? p=some {cls:=.type "list",data:=.seq its.toArray n}/\xs.length<=sizeLine:=by
 obtain⟨z,its,n,r,e⟩:=I.hok p _ h;exact⟨its,n,r,e,z⟩
theorem a23 (lo hi:Option Int)(n:Nat):(sliceBounds lo hi none n).1=((HT.sIx n 0 lo:Nat):Int)/\(sliceBounds lo hi none n).2.1=((HT.sIx n n hi:Nat):Int)/\(sliceBounds lo hi none n).2.2=1:=by
 refine⟨?_,?_,rfl⟩
 ·cases lo with
  | none=>simp[sliceBounds,HT.sIx]
  | some i=>
   simp only[sliceBounds,HT.sIx,getD_none,show(1:Int)>0 by decide,jB]
   by_cases h:i<0
   ·simp only[h,jB]<;>walk_at "o"
   ·simp only[h,xQ]<;>walk_at "o"
 ·cases hi with
  | none=>simp[sliceBounds,HT.sIx]
  | some i=>
   simp only[sliceBounds,HT.sIx,getD_none,show(1:Int)>0 by decide,jB]
   by_cases h:i<0
   ·simp only[h,jB]<;>walk_at "o"
   ·simp only[h,xQ]<;>walk_at "o"
theorem a1T (its:List Value)(lo hi:Option Int):slicePick its.toArray lo hi none=((its.drop (HT.sIx its.length 0 lo)).take (HT.sIx its.length its.length hi-HT.sIx its.length 0 lo)).toArray:=by
 obtain⟨h1,h2,h3⟩:=a23 lo hi its.toArray.size;unfold slicePick;rw[h1,h2,h3];simp only[sliceRange_one,pick_run,zU]<;>rfl
def rSlL (K:PySem.W.Frag):V->Option Int->Option Int->Hp->VK->Prop:=fun x lo hi H Q=>∃a xs,x= .ref a/\SqL K H a xs/\∀p,H p=none->Q (.ref p) (upd H p (.lst (cutV xs lo hi)))
theorem a9S:SlR X (rSlL X.K):=by
 intro pins s σ H x v vl vu lo hi sl Q I rx hs pl pu h;obtain⟨a,xs,rfl,hx,q⟩:=h;cases rx;obtain⟨its,r,ht,hz⟩:=I.list hx;have hlen:=r.length;refine⟨"list",_,slot_list_getitem.lookup,ht.isList.typeIs,?_⟩;refine wpAny_getItem_list_slice ht.isList hs pl pu .none (by simp) ?_ (by rw[zU]<;>walk_at "o")
 rw[a1T,<-hlen];refine⟨.ref s.heap.objs.size,_,I.laid (t':=s.toks) (o:=.lst (cutV xs lo hi)) (fun b ob q=>zD _ q) (zE _) ?_,rfl,q _ (I.hok.fresh (zE _))⟩;exact⟨zG (a0v xs lo hi) hz,_,0,(r.drop (HT.sIx xs.length 0 lo)).take (HT.sIx xs.length xs.length hi-HT.sIx xs.length 0 lo),zO _ rfl⟩
theorem a2Q:CallR X (.builtin "len") (fun xs H Q=>∃p ys,xs=[.ref p]/\(SqL X.K H p ys\/SqT X.K H p ys)/\Q (.int ys.length) H):=by
 intro pins s σ H xs us Q I r h;obtain⟨p,ys,rfl,hq,q⟩:=h;obtain⟨u,rfl,rx⟩:=vals1 r;cases rx;have hn:=line63;rcases hq with hq|hq
 ·obtain⟨its,r',pl,hz⟩:=I.list hq;have hlen:=r'.length;exact Calls.call_len_list pl.isList (by simp only[zU]<;>walk_at "o") ⟨.int ys.length,H,I.tok _,⟨s.toks+1,by rw[zU,hlen]⟩,q⟩
 ·obtain⟨its,r',pl,hz⟩:=I.tuple hq;have hlen:=r'.length;exact len_tuple pl (by simp only[zU]<;>walk_at "o") ⟨.int ys.length,H,I.tok _,⟨s.toks+1,by rw[zU,hlen]⟩,q⟩
theorem a2Z:CallR X (.builtin "len") (fun xs H Q=>∃z,xs=[.str z]/\z.length<=sizeLine/\Q (.int z.length) H):=by
 intro pins s σ H xs us Q I r h;obtain⟨z,rfl,hz,q⟩:=h;obtain⟨u,rfl,t,rfl⟩:=vals1 r;have hn:=line63;exact len_str (by walk_at "o") ⟨.int z.length,H,I.tok _,⟨_,rfl⟩,q⟩
theorem CallR.or {f:Value}{r r':List V->Hp->VK->Prop}(h:CallR X f r)(h':CallR X f r'):CallR X f (fun xs H Q=>r xs H Q\/r' xs H Q):=by
 intro pins s σ H xs us Q I rs q;rcases q with q|q
 ·exact h pins s σ H xs us Q I rs q
 ·exact h' pins s σ H xs us Q I rs q
theorem a2R:CallR X (.type "list") (fun xs H Q=>∃p ys,xs=[.ref p]/\(SqL X.K H p ys\/SqT X.K H p ys)/\∀l,H l=none->Q (.ref l) (upd H l (.lst ys))):=by
 intro pins s σ H xs us Q I r h;obtain⟨p,ys,rfl,hq,q⟩:=h;obtain⟨u,rfl,rx⟩:=vals1 r;cases rx;have fin:∀(its:List Value),Vals ys its->ys.length<=sizeLine->∀(h':Heap) (c':Nat),(∀b o',s.heap.get? b=some o'->h'.get? b=some o')->
   h'.get? s.heap.objs.size=some {cls:=.type "list",dict:=none,data:=.seq its.toArray c',slots:= #[]}->EP X pins σ Q (.ref s.heap.objs.size) {s with heap:=h'}:=fun its r' hz h' c' kp e=>
  ⟨.ref s.heap.objs.size,_,I.laid (t':=s.toks) kp (zE _) (show ObjOk X.prog X.w _ h' _ (.lst ys) from⟨hz,its,c',r',e⟩),rfl,q _ (I.hok.fresh (zE _))⟩
 rcases hq with hq|hq
 ·obtain⟨its,r',pl,hz⟩:=I.list hq;have hlen:=r'.length;obtain⟨o,ho,hc,n,hd⟩:=pl.isList;exact call_list_seq p (.inl rfl) ho hc hd (fun h' c' kp e=>fin its r' hz h' c' kp e) (by simp only[zU]<;>walk_at "o")
 ·obtain⟨its,r',pl,hz⟩:=I.tuple hq;have hlen:=r'.length;obtain⟨o,ho,hc,n,hd⟩:=pl;exact call_list_seq p (.inr rfl) ho hc hd (fun h' c' kp e=>fin its r' hz h' c' kp e) (by simp only[zU]<;>walk_at "o")
theorem v6:CallR X (.type "tuple") (fun xs H Q=>∃p ys,xs=[.ref p]/\((SqL X.K H p ys/\∀l,H l=none->Q (.ref l) (upd H l (.tup ys)))\/(SqT X.K H p ys/\Q (.ref p) H))):=by
 intro pins s σ H xs us Q I r h;obtain⟨p,ys,rfl,h⟩:=h;obtain⟨u,rfl,rx⟩:=vals1 r;cases rx;rcases h with ⟨hq,q⟩|⟨hq,q⟩
 ·obtain⟨its,r',pl,hz⟩:=I.list hq;have hlen:=r'.length;refine call_tuple_list pl.isList (fun h' kp=>?_) (by simp only[zU]<;>walk_at "o")
  have I1:Inv X pins σ H {s with heap:=h'}:=I.kept (t':=s.toks) kp
  have I2:Inv X pins σ (upd H h'.objs.size (.tup ys)) {s with heap:=h'.push {cls:=.type "tuple",data:=.seq its.toArray}}:=
   I1.laid (t':=s.toks) (fun b o e=>zD _ e) (zE _) (show ObjOk X.prog X.w _ _ _ (.tup ys) from⟨hz,its,r',TupN.new _ _⟩)
  exact⟨.ref h'.objs.size,_,I2,rfl,q _ (I1.hok.fresh (zE _))⟩
 ·obtain⟨its,r',pl,hz⟩:=I.tuple hq;exact call_tuple_same pl ⟨.ref p,H,I,rfl,q⟩
def tyV (K:PySem.W.Frag) (T:String) (x:V) (H:Hp):Prop:=match x with
 | .str _=>T="str"
 | .int _=>T="int"
 | .ref p=>(T="list"/\∃xs,SqL K H p xs)\/(T="tuple"/\∃o,K.lookup p=some o/\o.cls= .type "tuple"/\o.dict=none)\/
   (T="dict"/\((∃kvs,H p=some (.dK kvs))\/∃kvs,H p=some (.dT kvs)))\/(T="set"/\∃S n,H p=some (.set S n))
 | _=>False
theorem b1H {pins:List (Addr×Obj)}{σ:St}{H:Hp}{s:Shared}{T:String}{x:V}{v:Value}(I:Inv X pins σ H s)(r:RelV x v)(ty:tyV X.K T x H):
  s.TypeIs v T/\∀a,v= .ref a->∃ob,s.heap.get? a=some ob/\ob.dict=none:=by
 cases x with
 | str z=>
  obtain⟨t,rfl⟩:=r;cases(show T="str" from ty);exact⟨typeIs_str s z t,fun _ e=>nomatch e⟩
 | int i=>
  obtain⟨t,rfl⟩:=r;cases(show T="int" from ty);exact⟨typeIs_int s i t,fun _ e=>nomatch e⟩
 | ref p=>
  cases r;rcases ty with ⟨rfl,xs,hq⟩|⟨rfl,o,hk,hc,hd⟩|⟨rfl,hk⟩|⟨rfl,S,n,hk⟩
  ·obtain⟨its,_,pl,_⟩:=I.list hq;refine⟨pl.isList.typeIs,fun a e=>?_⟩;cases e;obtain⟨o,n,e,c,hd,_⟩:=pl;exact⟨o,e,hd⟩
  ·refine⟨⟨o,I.kIn p o hk,hc⟩,fun a e=>?_⟩;cases e;exact⟨o,I.kIn _ o hk,hd⟩
  ·have z:∃o,s.heap.get? p=some o/\o.ExactDict:=by
    rcases hk with ⟨kvs,hk⟩|⟨kvs,hk⟩
    ·obtain⟨_,_,_,_,o,_,e,ex,_⟩:=I.hok p _ hk;exact⟨o,e,ex⟩
    ·obtain⟨_,_,_,_,o,_,e,ex,_⟩:=I.hok p _ hk;exact⟨o,e,ex⟩
   obtain⟨o,e,ex⟩:=z;refine⟨⟨o,e,ex.1⟩,fun a e2=>?_⟩;cases e2;exact⟨o,e,ex.2.1⟩
  ·obtain⟨o,_,_,_,e,ex,_⟩:=I.hok p _ hk;refine⟨⟨o,e,ex.1⟩,fun a e2=>?_⟩;cases e2;exact⟨o,e,ex.2.1⟩
 | _=>exact False.elim ty
def tBM (K:PySem.W.Frag) (T:String) (r:V->List V->Hp->VK->Prop) (to:TE) (t:TA):TE:=fun σ H Q=>to σ H fun x H1=>tyV K T x H1/\t σ H1 fun xs H2=>r x xs H2 Q
variable {o e:Expr}{es:List Expr}{to:TE}{t:TA}{name:Str}{apos cpos:Pos}{T id:String}{r:V->List V->Hp->VK->Prop}
theorem b0B (pa:PlainAttrs T)(slot:Slot T name id)(hty:typeOf (.builtin id)=pure (.type "method_descriptor"))(hm:MtR X id r)(ho:PE X o to)(ha:PA X (e::es) t)
  (hbase:attributeBase o name X.env (eval o X.env)=eval o X.env:=by rfl)
  (hfew:((backTo cpos (starEach (e::es) X.env)).all (fun x=>!x.1)&&(backToKw cpos (keywordEach [] X.env)).all (fun x=>x.1.isSome)
   && decide ((e::es).length+([]:List Keyword).length+(if([]:List Keyword).isEmpty then 0 else 1)<30))=true:=by rfl)
  (hline:(apos.endLine==cpos.line)=true:=by rfl) (hs:starEach (e::es) X.env=(false,eval e X.env)::starEach es X.env:=by rfl) (hplain:(backTo cpos (starEach es X.env)).any (·.1)=false:=by rfl):
  PE X (.Call (.Attribute o name apos) (e::es) [] cpos) (tBM X.K T r to t):=by
 intro pins s σ H Q I h;refine wpAny_Call_method_late hbase hfew hline rfl (thn (ho pins s σ H _ I h) fun v s1 ⟨x,H1,I1,r1,ty,q1⟩=>?_);obtain⟨h1,h2⟩:=b1H I1 r1 ty;refine⟨T,id,pa,slot,hty,h1,h2,?_⟩;have hA:=ha cpos pins s1 σ H1 _ I1 q1;rw[hs] at hA ⊢;refine Calls.callWith_builtin (by show(false||(backTo cpos (starEach es X.env)).any (·.1))=false;rw[hplain]<;>rfl) (Calls.evalArgs_plain ?_)
 exact thn hA fun us s2 h0=>ex5 h0 fun vs H2 I2 r2 q2=>hm pins s2 σ H2 x vs v us Q I2 r1 r2 q2
end
def MtM (X:Cx) (id:String) (r:V->List V->Hp->VK->Prop):Prop:=
 ∀(pins:List (Addr×Obj)) (s:Shared) (σ:St) (H:Hp) (x:V) (xs:List V) (v:Value) (us:List Value) (Q:VK),Inv X pins σ H s->RelV x v->Vals xs us->r x xs H Q->
  wpAny (model X.prog X.w) X.A (call (.builtin id) (v::us)) (EP X pins σ Q) X.xe s
theorem Vals.one:∀{x:V} {us:List Value},Vals [x] us->∃u,us=[u]/\RelV x u
 | _,_,.cons r .nil=>⟨_,rfl,r⟩
theorem Vals.reverse {xs:List V}{us:List Value}(h:Vals xs us):Vals xs.reverse us.reverse:=by
 induction h with
 | nil=>exact .nil
 | cons r t ih=>rw[reverse_cons,reverse_cons];exact Vals.append ih (.cons r .nil)
section
variable {X:Cx}{pins:List (Addr×Obj)}{σ:St}{H:Hp}{s:Shared}{l:Addr}{xs ys:List V}
theorem Inv.lset {its its':List Value}{n:Nat}{f:Array Value->Array Value}{t':Nat}(I:Inv X pins σ H s)(hH:H l=some (.lst xs))
  (e:s.heap.get? l=some {cls:=.type "list",data:=.seq its.toArray n}) (hf:f its.toArray=its'.toArray) (hv:Vals ys its') (hz:ys.length<=sizeLine):
  Inv X pins σ (upd H l (.lst ys)) {s with heap:=s.heap.update l (Obj.mapSeq f),toks:=t'}:=by
 have q:=PySem.IsL.update e f;rw[hf] at q;refine I.write (x:=l) (e:=l) (by rw[hH];exact trivial) (.inl rfl) (fun b' u hb hu=>(Heap.get?_update_other s.heap (Obj.mapSeq f) (qO hb)).trans hu) ⟨_,q⟩ ?_
 exact⟨hz,its',_,hv,q⟩
theorem Inv.lnew {its:List Value}{t':Nat}(I:Inv X pins σ H s)(hv:Vals ys its)(hz:ys.length<=sizeLine):
  Inv X pins σ (upd H s.heap.objs.size (.lst ys)) {s with heap:=s.heap.push {cls:=.type "list",data:=.seq its.toArray},toks:=t'}:=
 I.laid (fun _ _ q=>zD _ q) (zE _) ⟨hz,its,0,hv,zO _ rfl⟩
theorem Inv.fresh (I:Inv X pins σ H s):H s.heap.objs.size=none:=I.hok.fresh (zE _)
theorem Inv.lstM (I:Inv X pins σ H s)(hH:H l=some (.lst xs)):xs.length<=sizeLine/\∃(its:List Value) (n:Nat),Vals xs its/\xs.length=its.length/\s.heap.get? l=some {cls:=.type "list",data:=.seq its.toArray n}:=by
 obtain⟨z,its,n,r,e⟩:=I.hok l _ hH;exact⟨z,its,n,r,r.length,e⟩
end
section
variable {X:Cx}
def rAppend:V->List V->Hp->VK->Prop:=fun x vs H Q=>∃l xs y,x= .ref l/\vs=[y]/\H l=some (.lst xs)/\xs.length<sizeLine/\Q .non (upd H l (.lst (xs++[y])))
theorem a2u:MtM X "list.append" rAppend:=by
 intro pins s σ H x vs v us Q I rx rv h;obtain⟨l,xs,y,rfl,rfl,hH,hz,q⟩:=h;cases rx;obtain⟨u,rfl,ru⟩:=rv.one;obtain⟨z,its,n,r,hl,e⟩:=I.lstM hH;refine call_meets F.slot_list_append ⟨_,e,rfl⟩ F.entry_list_append (F.args_list_append_2 _ _) (PySem.list_append l its.toArray n u (by rw[zU];walk_at "o")) ⟨e,?_⟩
 refine⟨.non,_,I.lset (its':=its++[u]) hH e (by simp) (r.append (.cons ru .nil)) ?_,rfl,q⟩
 rw[qE,jG];walk_at "o"
end
section
set_option maxRecDepth 100000 in
end
end L2
namespace Att
open PySem PySem.W PySem.Calls PyProof.Rows
theorem a0J {P:Params}{h:Heap}:∀(ns:List Int) (vs:List Value),WellAll P h vs (ns.map WData.int)->IntsAre vs ns:=by
 intro ns
 induction ns with
 | nil=>
  intro vs w;rw[xD] at w;cases w;exact .nil
 | cons n ns ih=>
  intro vs w;rw[zJ] at w;cases w with
  | cons a b=>
   cases a;exact .cons _ _ (ih _ b)
theorem a6r {l:OpenLaw}{n:Nat}(hn:l.most=some n){P:Params}{h:Heap}{args:List WData}{vals:List Value}
  (hpre:l.row.toRowW.claim.pre args=true) (hwl:WellAll P h vals args):
  ∃a vs ns,vals=[Value.ref a]/\args=[WData.list (ns.map WData.int)]/\h.get? a=some {cls:=.type "list",data:=.seq vs.toArray}/\IntsAre vs ns/\ns.length<=n:=by
 have hsh:WShape.hasAll [] args [.list .int]=true:=(pre_splitW hpre).1;have hc:l.pre.holds [] {args:=args}=true:=(pre_splitW hpre).2;obtain⟨d,r,rfl,h1,h2⟩:=hasAllW_cons hsh;obtain rfl:=hasAllW_nil h2;obtain⟨xs,rfl,h3⟩:=hasW_list h1;obtain⟨ns,rfl⟩:=items_int h3;have hlen:ns.length<=n:=by
  unfold OpenLaw.pre at hc;have h4:(WTm.not (.lt (.lit (.int (n:Int))) (.len (.arg 0)))).holds [] {args:=[.list (ns.map .int)]}=true:=by
   have h4:=(holds_andW hc).1;rw[hn] at h4;exact h4
  have h5:=condW_of h4 (w_not (w_lt w_lit (w_len_list (w_arg rfl))));rw[zC] at h5;refine Nat.le_of_not_lt fun q=>?_;have q':(n:Int)<((ns.length:Nat):Int):=by walk_at "o"
  first
   | (rw[zR q'] at h5;exact absurd h5 (by decide))
   | (simp at h5;walk_at "o")
 cases hwl with
 | cons w1 w2=>
  cases w2;cases w1 with
  | list ho hall=>exact⟨_,_,ns,rfl,rfl,ho,a0J ns _ hall,hlen⟩
theorem a6q (l:OpenLaw)(args:List WData):l.row.toRowW.claim.post args (.bool true) args=true:=
 postW_of (r:=l.row.toRowW) (X:=(true==true))
  (show WShape.has [] (.bool true) .bool=true by first|rfl|decide|simp[WShape.has,WShape.arms,WShape.armsAll])
  (show(WTm.eq .res (.lit (.bool true))).value [] {args:=args,res:=some (.bool true),after:=args}=some (.bool (true==true)) from w_eq_bool (w_res rfl) w_lit) rfl
theorem attach_call {l:OpenLaw}{n:Nat}{q:Program}{loose:List Str}{XP:(Str->Option Value)->Heap->Prop}{YP:World->Heap->Prop}{d:DefRec}
  (hn:l.most=some n) (hdf:d.params.defaults=[])
  (call:∀(w:World) (s₀ s₁:Shared) (mg mb:Str->Option Value) (fa:Addr) (o:Obj) (pm cd doc:Value) (a:Addr) (vs:List Value) (ns:List Int),
   Ground q loose [] XP w s₀ mg mb s₁.heap->YP w s₁.heap->
   s₁.heap.get? fa=some o->o.data= .func (docDef d.name d.params d.body d.scope pm cd doc)->s₁.heap.CodeRec cd d.name->mg d.name=some (.ref fa)->
   s₁.heap.get? a=some {cls:=.type "list",data:=.seq vs.toArray}->IntsAre vs ns->ns.length<=n->s₁.gens= #[]->
   codeAny (model l.prog w) callerA (.call (.ref fa) ⟨[.ref a],[]⟩) (fun r s'=>r= .ok (.ret (.bool true))/\OldK s₁.heap s'.heap/\s'.os=s₁.os/\AllBare s'.gens) s₁):
  WalkO q loose XP YP l.row.toRowW d [] (fun f vs=>PySem.call f vs):=by
 intro w s₀ s₁ mg mb G Y fa o pm cd doc dV kV ho hd hcd hD hmg hg args vals as hpre hlay hrd hwl hlo;obtain rfl:dV= .none:=Dflts.none hD hdf;obtain rfl:kV= .none:=Dflts.noKw hD;obtain⟨a,vs,ns,rfl,rfl,hobj,hints,hlen⟩:=a6r hn hpre hwl;refine enter_call (codeAny_mono (call w s₀ s₁ mg mb fa o pm cd doc a vs ns G Y ho (fd_plain hd) hcd hmg hobj hints hlen hg) fun r s' hq=>?_);obtain⟨rfl,h2,h3,h4⟩:=hq;exact⟨.inl ⟨.bool true,.bool true,[],rfl,fun _=>rfl,.bool true,a6q l _,fun _=>⟨List.Pairwise.nil,fun _ hm=>(nomatch hm)⟩⟩,h2,h3,h4⟩
def ledger (h:Heap) (L d:Addr):List (Addr×Obj):=(List.range h.objs.size).filterMap fun a=>if a=L\/a=d then none else(h.get? a).map fun o=>(a,o)
end Att
namespace L2
open PySem PySem.Spec PyProof.Rows
theorem a2G:∀{vs:List Value} {ns:List Int},IntsAre vs ns->Vals (ns.map V.int) vs
 | _,_,.nil=>.nil
 | _,_,.cons n t h=>.cons ⟨t,rfl⟩ (a2G h)
def Only (H:Hp):Prop:=∀b,H b=none\/∃o xs,H b=some (.frz o (.lst xs))
theorem a6Q {P:Program}{w:World}{K:PySem.W.Frag}{mg mb:Str->Option Value}{CX:CXT}{k:Nat}{fa a:Addr}{fd:FuncData}{x:Str}{sp:Sp}{s₁:Shared}{vs:List Value}{ns:List Int}
  (KX:K.In s₁.heap) (hns:s₁.heap.Ns mainGlobals mg) (hb:s₁.heap.Ns builtinsNs mb) (hbb:∀x:Str,x≠"__name__"->mb x=bootBuiltins x) (hlim:s₁.heap.NoLimit) (hg:s₁.gens= #[])
  (ha:s₁.heap.get? a=some {cls:=.type "list",data:=.seq vs.toArray}) (hi:IntsAre vs ns) (hl:ns.length<=sizeLine) (hr:Room k callerA)
  (F:∀base:Heap,K.In base->base.Ns mainGlobals mg->FnOk P w K mg base CX k fa fd [x] sp) (hbind:∀(s:Shared) (u:Value),BindsTo s fd ⟨[u],[]⟩ [(x,u)])
  (hsp:∀H:Hp,Only H->SqL K H a (ns.map V.int)->sp [.ref a] H (fun v _=>v= .bl true) fun _ _ _=>False)
  (hCX:∀H e s',CX [] H s₁ (fun _ _ _=>False) e s'->False):
  codeAny (model P w) callerA (.call (.ref fa) ⟨[.ref a],[]⟩) (fun r s'=>r= .ok (.ret (.bool true))/\OldK s₁.heap s'.heap/\s'.os=s₁.os/\AllBare s'.gens) s₁:=by
 have rv:=a2G hi;have lenV:=hi.length;have core:∀H:Hp,Only H->SqL K H a (ns.map V.int)->HOk P w H s₁.heap->(∀b,H b≠none->b=a)->(H a≠none->K.lookup a=none)->
   codeAny (model P w) callerA (.call (.ref fa) ⟨[.ref a],[]⟩) (fun r s'=>r= .ok (.ret (.bool true))/\OldK s₁.heap s'.heap/\s'.os=s₁.os/\AllBare s'.gens) s₁:=by
  intro H hO hS hok hA hK;have base_of:∀{b:Addr} {o:Obj},s₁.heap.get? b=some o->H b=none->(hidT s₁.heap H).get? b=some o:=fun e n=>a8B e n;have noA:∀{b:Addr} {o:Obj} {es:Array DictEntry} {ep:Nat},s₁.heap.get? b=some o->o.data= .dict es ep->H b=none:=fun{b o es ep} e d=>by
   cases q:H b with
   | none=>rfl
   | some u=>
    have e':b=a:=hA b (by rw[q];simp)
    subst e';rw[ha] at e;cases e;have d':Data.seq vs.toArray _=Data.dict es ep:=d;cases d'
  have nsK:∀{b:Addr} {m:Str->Option Value},s₁.heap.Ns b m->(hidT s₁.heap H).Ns b m:=fun{b m} ⟨o,es,ep,e,d,r⟩=>⟨o,es,ep,base_of e (noA e d),d,r⟩
  have hKb:K.In (hidT s₁.heap H):=fun b o e=>base_of (KX b o e) (by
   cases q:H b with
   | none=>rfl
   | some u=>
    have e':b=a:=hA b (by rw[q];simp)
    subst e'
    rw[hK (by rw[q];simp)] at e;cases e)
  have hM:Mod K mg (hidT s₁.heap H):=⟨hKb,nsK hns,⟨mb,nsK hb,hbb⟩,let ⟨mc,h1,h2⟩:=hlim;⟨mc,nsK h1,h2⟩⟩;have e0:Env0 P w K mg (hidT s₁.heap H) callerA [] s₁ H:=⟨rfl,hM,fun b o e=>a84 e,Nat.le_of_eq (a6z _ _),trivial,fun b hb=>absurd (show b∈([]:List Addr) from hb) (by simp),hok,.of_eq hg⟩
  refine codeAny_mono ((F _ hKb (nsK hns)).run callerA [] s₁ H ⟨[.ref a],[]⟩ [.ref a] [.ref a] _ _ hr e0 (hbind s₁ (.ref a)) (.cons rfl .nil) (hsp H hO hS)) fun r s' h=>?_;cases r with
  | error e=>exact(hCX H e s' h).elim
  | ok fl=>
   cases fl with
   | next=>exact False.elim h
   | brk=>exact False.elim h
   | cont=>exact False.elim h
   | ret u=>
    obtain⟨v,H',os,bare,un,hok',r',q⟩:=h;have q':v= .bl true:=q;subst q';obtain rfl:u=Value.bool true:=r';refine⟨rfl,OldK.of_keep fun b o e=>?_,os,bare⟩;cases q:H b with
    | none=>exact un.keep b o e q (by intro z;exact absurd (show b∈([]:List Addr) from z) (by simp)) (by simp)
    | some u=>
     rcases hO b with z|⟨ob,xs,z⟩
     ·rw[q] at z;cases z
     ·have z2:=un.frzs b ob _ z;obtain⟨e1,_⟩:=hok b _ z;obtain⟨e2,_⟩:=hok' b _ z2;rw[e] at e1;cases e1;exact e2
 cases hk:K.lookup a with
 | some o=>
  have e:=KX a o hk;rw[ha] at e;cases e;refine core (fun _=>none) (fun _=>.inl rfl) (.inr ⟨_,vs.toArray,_,hk,rfl,rfl,rfl,by rw[zU,lenV];exact hl,by simpa using rv⟩) (fun b u z=>by have z':(none:Option HO)=some u:=z;cases z') (fun b z=>absurd rfl z) fun z=>absurd rfl z
 | none=>
  refine core (fun b=>if b=a then some (.frz {cls:=.type "list",data:=.seq vs.toArray} (.lst (ns.map V.int))) else none) (fun b=>?_) (.inl (.inr ⟨{cls:=.type "list",data:=.seq vs.toArray},if_pos rfl⟩)) (fun b u z=>?_) (fun b z=>?_) fun _=>hk
  ·by_cases hb:b=a
   ·exact .inr ⟨_,_,if_pos hb⟩
   ·exact .inl (if_neg hb)
  ·by_cases hb:b=a
   ·have z':=(if_pos hb).symm.trans z;cases z';subst hb;exact⟨ha,by rw[zC];exact hl,vs,_,rv,ha⟩
   ·have z':=(if_neg hb).symm.trans z;cases z'
  ·by_cases hb:b=a
   ·exact hb
   ·exact absurd (if_neg hb) z
abbrev KOf {K:PySem.W.Frag} {h:Heap} (_:K.In h):PySem.W.Frag:=K
theorem a9U {l:PySem.W.OpenLaw}{n k:Nat}{q:Program}{loose:List Str}{XP:(Str->Option Value)->Heap->Prop}{YP:World->Heap->Prop}{d:DefRec}{K:Params->PySem.W.Frag}{CX:World->CXT}{sp:World->Sp}{x:Str}
  (hn:l.most=some n) (hn2:n<=sizeLine) (hdf:d.params.defaults=[]) (hr:Room k callerA)
  (hY:∀(w:World) (h:Heap),YP w h->(K w.params).In h)
  (F:∀(w:World) (mg:Str->Option Value) (fa:Addr) (h:Heap),(K w.params).In h->h.Ns mainGlobals mg->mg d.name=some (.ref fa)->
   ∃fd:FuncData,(∀(s:Shared) (u:Value),BindsTo s fd ⟨[u],[]⟩ [(x,u)])/\
    ∀base:Heap,(K w.params).In base->base.Ns mainGlobals mg->FnOk l.prog w (K w.params) mg base (CX w) k fa fd [x] (sp w))
  (hsp:∀(w:World) (H:Hp) (a:Addr) (ns:List Int),ns.length<=n->Only H->SqL (K w.params) H a (ns.map V.int)->sp w [.ref a] H (fun v _=>v= .bl true) fun _ _ _=>False)
  (hCX:∀(w:World) (H:Hp) (s:Shared) (e:Value) (s':Shared),CX w [] H s (fun _ _ _=>False) e s'->False):
  PySem.W.WalkO q loose XP YP l.row.toRowW d [] (fun f vs=>PySem.call f vs):=by
 refine Att.attach_call hn hdf fun w s₀ s₁ mg mb fa o pm cd doc a vs ns G Y ho hd hcd hmg hobj hints hlen hg=>?_;have KX:=hY w _ Y;obtain⟨fd,hb,hF⟩:=F w mg fa _ KX G.T.g hmg;exact a6Q KX G.T.g G.T.b G.T.builtins G.T.nolimit hg hobj hints (zG hlen hn2) hr hF hb (fun H hO hS=>hsp w H a ns hlen hO hS) fun H e s'=>hCX w H s₁ e s'
def defArgs (s:Stmt):Arguments:=match s with
 | .FunctionDef _ a _ _ _ _ _ _ _ _=>a
 | _=>{posonlyargs:=[],args:=[],vararg:=none,kwonlyargs:=[],kw_defaults:=[],kwarg:=none,defaults:=[]}
def defBody (s:Stmt):List Stmt:=match s with
 | .FunctionDef _ _ b _ _ _ _ _ _ _=>b
 | _=>[]
def defScope (s:Stmt):Scope:=match s with
 | .FunctionDef _ _ _ _ _ _ sc _ _ _=>sc
 | _=>{kind:=.function,names:=[],isGenerator:=false,isCoroutine:=false}
abbrev CX0:CXT:=fun _ _ _ _ _ _=>False
abbrev E0:XK:=fun _ _ _=>False
theorem pass0 {X:Cx}:Passes CX0 X E0:=fun _ _ _ _ _ _ _ h=>h.elim
structure Fun (K:PySem.W.Frag) (x qual:Str) (st:Stmt) (f:Addr) (fd:FuncData):Prop where
 ex:∃(oc:Value) (od:Option Addr) (kV doc pm:Value) (an:Option Addr) (cdv ct:Value) (osl:Array (Option Value)),
  fd=PySem.W.fnOf x qual (defArgs st) (defBody st) (defScope st) .none kV doc pm an cdv ct/\K.lookup f=some ⟨oc,od,.func fd,osl⟩/\PySem.W.codeIn K cdv qual=true
 kp:PySem.W.keepIn K (.ref f)=true
section
variable {P:Program}{w:World}{K:PySem.W.Frag}{mg:Str->Option Value}{base:Heap}
theorem Fun.ok {x qual:Str}{st:Stmt}{f:Addr}{fd:FuncData}{N ps:List Str}{k:Nat}{sp:Sp}(F:Fun K x qual st f fd)(S:FnScope N ps (defScope st))(len:∀vs H Q E,sp vs H Q E->vs.length=ps.length)
  (hbody:∀(cdv:Value) (A:Around) (outer:List Env) (s:Shared) (H:Hp) (vs:List V) (Q:VK) (E:XK),Room k (A.deeper (envOfC qual (defScope st) s.heap.objs.size f cdv))->sp vs H Q E->
   ∃t,PSs (cxOf CX0 P w K mg base N qual (defScope st) f cdv A outer s H E).nox (defBody st) t/\t {nx:=fun _ H'=>Q .non H',rt:=Q} (start N vs) H):FnOk P w K mg base CX0 (k+1) f fd ps sp:=by
 obtain⟨oc,od,kV,doc,pm,an,cdv,ct,osl,rfl,lk,hcd⟩:=F.ex;refine fn_of lk hcd S len fun A outer s H vs Q E hr hsp=>?_;obtain⟨t,h,q⟩:=hbody cdv A outer s H vs Q E hr hsp;exact⟨t,h.nox,q⟩
theorem Fun.binds {x qual:Str}{st:Stmt}{f:Addr}{fd:FuncData}{ps:List Str}(F:Fun K x qual st f fd)
  (h:∀(kV doc pm:Value) (an:Option Addr) (cdv ct:Value) (us:List Value),us.length=ps.length->bindArgs (PySem.W.fnOf x qual (defArgs st) (defBody st) (defScope st) .none kV doc pm an cdv ct) ⟨us,[]⟩=pure (ps.zip us)):Binds K fd ps []:=by
 obtain⟨oc,od,kV,doc,pm,an,cdv,ct,osl,rfl,lk,hcd⟩:=F.ex;exact .all (h kV doc pm an cdv ct)
theorem a6H {x qual:Str}{st:Stmt}{f:Addr}{oc:Value}{od an:Option Addr}{osl:Array (Option Value)}{kV doc pm cdv ct:Value}(l:K.lookup f=some ⟨oc,od,.func (PySem.W.fnOf x qual (defArgs st) (defBody st) (defScope st) .none kV doc pm an cdv ct),osl⟩)
  (c:PySem.W.codeIn K cdv qual=true) (k:PySem.W.keepIn K (.ref f)=true):Fun K x qual st f (PySem.W.fnOf x qual (defArgs st) (defBody st) (defScope st) .none kV doc pm an cdv ct):=⟨⟨oc,od,kV,doc,pm,an,cdv,ct,osl,rfl,l,c⟩,k⟩
end
theorem b0t {A:Around}{k:Nat}(hr:Room k A):A.units+1<cLine:=Nat.lt_of_le_of_lt (Nat.add_le_add_left (by decide:1<=64) _) hr.units
def Same (H H':Hp):Prop:=∀b o,H b=some o->H' b=some o
theorem Same.refl (H:Hp):Same H H:=fun _ _ h=>h
theorem Same.trans {H H1 H2:Hp}(a:Same H H1)(b:Same H1 H2):Same H H2:=fun c o h=>b c o (a c o h)
section
variable {prog:Program}{w:World}{K:Type} [DecidableEq K] {knd:KeyKind prog w K}{A:Around}{E:Value->Shared->Prop}{s:Shared}
theorem a1z {kvs:List (K×Value)}{k:K}{v:Value}(h:(kvs.any fun kv=>decide (kv.1=k))=true):(stored kvs k v).length=kvs.length:=by
 unfold stored;rw[if_pos h,zC]
theorem a1o {kvs:List (K×Value)}{k:K}{v:Value}(h:¬(kvs.any fun kv=>decide (kv.1=k))=true):(stored kvs k v).length=kvs.length+1:=by
 unfold stored;rw[if_neg h,qE];rfl
theorem a4c {d:Addr}{kvs:List (K×Value)}{k:K}{key v:Value}{Q:Unit->Shared->Prop}(hkey:knd.is k key=true)(hm:s.heap.DictAt knd d kvs kvs.length)(hsz:kvs.length<=sizeLine)
  (hQ:∀h',h'.DictAt knd d (stored kvs k v) (stored kvs k v).length->Heap.SameBut d s.heap h'->Q () {s with heap:=h',toks:=s.toks+1}):wpAny (model prog w) A (dictSet d key v) Q E s:=by
 obtain⟨o,es,ho,hc,hd,hk,hp,hn⟩:=hm;have pl:=hp.length;have hes:es.size<=sizeLine:=by rw[qW] at pl;walk_at "o"
 unfold dictSet
 try with_reducible refine qP ?_
 refine zA (knd.pyHash hkey ?_);unfold dictSetHashed
 try with_reducible refine qP ?_
 refine zA (wpAny_dictFind_of (s:={s with toks:=s.toks+1}) hkey ho hd hk ?_)
 have hidx:(es.findIdx? fun e=>knd.is k e.key)=kvs.findIdx? fun kv=>decide (kv.1=k):=by
  rw[<-hp.findIdx k];obtain⟨l⟩:=es;simp
 cases hi:es.findIdx? fun e=>knd.is k e.key with
 | some i=>
  have old:=any_of_findIdx_some (hidx▸hi);have el:=a1z (v:=v) old;refine zA (jZ (zA (wpAny_updateDict (s:={s with toks:=s.toks+1}) ho hd (wpAny_point (hQ _ ⟨_,_,xH _ ho (Obj.isFreed_of_dict (Obj.data_mapDict hd _)),hc.mapDict _,by rw[el];exact Obj.data_mapDict hd _,hk.modify _ _,?_,?_⟩ (qG ..))))))
  ·rw[stored,if_pos old];have hl:(es.toList.findIdx? fun e=>knd.is k e.key)=some i:=by rw[<-hi];obtain⟨l⟩:=es;simp
   have:=hp.modify hn hl v
   obtain⟨l⟩:=es;simpa using this
  ·rw[stored,if_pos old,keys_map_store];exact hn
 | none=>
  have hnot:k∉kvs.map (·.1):=not_mem_of_findIdx_none (hidx▸hi);have hany:¬(kvs.any fun kv=>decide (kv.1=k))=true:=by
   rw[List.any_eq_true];rintro⟨kv,hkv,he⟩;exact hnot (qA.mpr ⟨kv,hkv,xT he⟩)
  have el:=a1o (v:=v) hany;refine zA (jZ (wpAny_updateDictKeys (hz:=hes) (s:={s with toks:=s.toks+1}) ho hd (hQ _ ⟨_,_,xH _ ho (Obj.isFreed_of_dict (Obj.data_mapDictKeys hd _)),hc.mapDictKeys _,by rw[el];exact Obj.data_mapDictKeys hd _,hk.push hkey _,?_,?_⟩ (qG ..))))
  ·rw[stored,if_neg hany]
   have:=hp.append hkey (knd.hash k) v
   obtain⟨l⟩:=es;simpa using this
  ·rw[stored,if_neg hany,jJ,List.nodup_append];exact⟨hn,by simp,fun a ha b hb e=>by simp only[zJ,xD,qB] at hb;subst hb;exact hnot (e▸ha)⟩
theorem a3H {d:Addr}{kvs:List (K×Value)}{k:K}{key v:Value}{Q:Unit->Shared->Prop}(hkey:knd.is k key=true)(hm:s.heap.DictAt knd d kvs kvs.length)(hsz:kvs.length<=sizeLine)
  (hQ:∀h',h'.DictAt knd d (stored kvs k v) (stored kvs k v).length->Heap.SameBut d s.heap h'->Q () {s with heap:=h',toks:=s.toks+1}):wpAny (model prog w) A (setItem (.ref d) key v) Q E s:=by
 have ty:=hm.dictOf.typeIs;unfold setItem
 try with_reducible refine qP ?_
 refine zA (wpAny_sequenceKey ty (by decide) ?_)
 refine zA (qD (name:=Str.ofString "__setitem__") ty slot_dict_setitem (qI slot_dict_setitem ty entry_dict_setitem ?_ (args_dict_setitem _ _ _)));show wpAny _ _ (Builtin.Dict.notOrdered "__setitem__" ⟨[.ref d,key,v],[]⟩ >>=_) _ _ s;refine zA (wpAny_notOrdered_dict ty ?_);show wpAny _ _ (dictSet d key v >>=_) _ _ s;exact zA (a4c hkey hm hsz fun h' hm' hs'=>zB ⟨.none,rfl,zB (hQ h' hm' hs')⟩)
end
section
variable {prog:Program}{w:World}{K:Type} [DecidableEq K] {knd:HeapKind prog w K}{A:Around}{E:Value->Shared->Prop}{s:Shared}
def DictLnH (knd:HeapKind prog w K) (h:Heap) (d:Addr) (xs:List (K×Addr×Value)):Prop:=∃o es,h.get? d=some o/\o.ExactDict/\o.data= .dict es xs.length/\es.toList=xs.map (entryOfKey knd)/\(∀x∈xs,knd.is h x.1 x.2.1)/\(xs.map (·.1)).Nodup
theorem DictLnH.of {h:Heap}{d:Addr}{xs:List (K×Addr×Value)}(x:DictLnH knd h d xs):h.DictOfH knd d xs:=let ⟨o,es,a,b,c,e⟩:=x;⟨o,es,_,a,b,c,e⟩
theorem a55 {d a:Addr}{xs:List (K×Addr×Value)}{k:K}{v:Value}{Q:Unit->Shared->Prop}(hu:knd.room A)(hkey:knd.is s.heap k a)(hm:DictLnH knd s.heap d xs)(hsz:xs.length<=sizeLine)
  (hQ:∀h',DictLnH knd h' d (storedH xs k a v)->Heap.SameBut d s.heap h'->Q () {s with heap:=h',toks:=s.toks+knd.draws k}):wpAny (model prog w) A (dictSet d (.ref a) v) Q E s:=by
 obtain⟨o,es,ho,hc,hd,he,his,hn⟩:=hm;have sz:=size_of_entries he;unfold dictSet
 try with_reducible refine qP ?_
 refine zA (knd.pyHash hu hkey ?_);unfold dictSetHashed
 try with_reducible refine qP ?_
 refine zA (wpAny_dictFind_heap (s:={s with toks:=s.toks+knd.draws k}) hu hkey ho hd he his hn ?_ ?_)
 ·intro hno;have hnot:k∉xs.map (·.1):=not_mem_keys_of_get hno;have en:=storedH_new (atKey_none_of_get hno) a v;refine zA (jZ (wpAny_updateDictKeys (hz:=by walk_at "o") (s:={s with toks:=s.toks+knd.draws k}) ho hd (hQ _ ⟨_,_,xH _ ho (Obj.isFreed_of_dict (Obj.data_mapDictKeys hd _)),hc.mapDictKeys _,by rw[en,qE];exact Obj.data_mapDictKeys hd _,?_,?_,?_⟩ (qG ..))))
  ·rw[en];simp[he,entryOfKey]
  ·rw[en];intro x hx;rcases qY.mp hx with hx|hx
   ·exact knd.keeps (his x hx) ho hd (qG ..)
   ·rw[qB.mp hx];exact knd.keeps hkey ho hd (qG ..)
  ·rw[en,jJ,List.nodup_append];exact⟨hn,by simp,fun x hx y hy e=>by simp only[zJ,xD,qB] at hy;subst hy;exact hnot (e▸hx)⟩
 ·intro j p hj;have eo:=storedH_old (atKey_of_get hn hj) a v;refine zA (jZ (zA (wpAny_updateDict (s:={s with toks:=s.toks+knd.draws k}) ho hd (wpAny_point (hQ _ ⟨_,_,xH _ ho (Obj.isFreed_of_dict (Obj.data_mapDict hd _)),hc.mapDict _,by rw[eo,zC];exact Obj.data_mapDict hd _,?_,?_,?_⟩ (qG ..))))))
  ·rw[eo]
   have:=modify_map_putAt (entryOfKey knd) (fun e:DictEntry=>{e with val:=v}) k v (fun _ _=>rfl) hn hj
   rw[<-he] at this;obtain⟨l⟩:=es;simpa using this
  ·rw[eo];intro x hx;obtain⟨y,hy,rfl⟩:=qA.mp hx;unfold putAt
   split<;>exact knd.keeps (his y hy) ho hd (qG ..)
  ·rw[eo,keys_map_putAt];exact hn
theorem a4m {d a:Addr}{xs:List (K×Addr×Value)}{k:K}{v:Value}{Q:Unit->Shared->Prop}(hu:knd.room A.in1)(hkey:knd.is s.heap k a)(hm:DictLnH knd s.heap d xs)(hsz:xs.length<=sizeLine)
  (hQ:∀h',DictLnH knd h' d (storedH xs k a v)->Heap.SameBut d s.heap h'->Q () {s with heap:=h',toks:=s.toks+knd.draws k}):wpAny (model prog w) A (setItem (.ref d) (.ref a) v) Q E s:=by
 have ty:=hm.of.typeIs;unfold setItem
 try with_reducible refine qP ?_
 refine zA (wpAny_sequenceKey ty (by decide) ?_)
 refine zA (qD (name:=Str.ofString "__setitem__") ty slot_dict_setitem (qI slot_dict_setitem ty entry_dict_setitem ?_ (args_dict_setitem _ _ _)));show wpAny _ _ (Builtin.Dict.notOrdered "__setitem__" ⟨[.ref d,.ref a,v],[]⟩ >>=_) _ _ s;refine zA (wpAny_notOrdered_dict ty ?_);show wpAny _ _ (dictSet d (.ref a) v >>=_) _ _ s;exact zA (a55 hu hkey hm hsz fun h' hm' hs'=>zB ⟨.none,rfl,zB (hQ h' hm' hs')⟩)
end
section
variable {κ:Type} [DecidableEq κ]
def valV (kvs:List (κ×V)) (k:κ):Option V:=(kvs.find? fun kv=>decide (kv.1=k)).map (·.2)
def putK (kvs:List (κ×V)) (k:κ) (v:V):List (κ×V):=
 if(kvs.any fun kv=>decide (kv.1=k))=true then kvs.map (fun kv=>if kv.1=k then(kv.1,v) else kv) else kvs++[(k,v)]
theorem X1 {p:κ×V}{r:List (κ×V)}{k:κ}(e:p.1=k):valV (p::r) k=some p.2:=by simp[valV,find?_cons,e]
theorem P9 {p:κ×V}{r:List (κ×V)}{k:κ}(e:¬p.1=k):valV (p::r) k=valV r k:=by simp[valV,find?_cons,e]
theorem a38 (k:κ):∀kvs:List (κ×V),(kvs.any fun kv=>decide (kv.1=k))=(valV kvs k).isSome
 | []=>rfl
 | p::r=>by
  rw[any_cons]
  by_cases e:p.1=k
  ·simp only[X1 e,zR e,Bool.true_or,Option.isSome_some]
  ·rw[P9 e,zT e,Bool.false_or];exact a38 k r
theorem a0m (kvs:List (κ×V))(k:κ)(v:V):(putK kvs k v).length<=kvs.length+1:=by
 unfold putK
 split
 ·rw[zC];walk_at "o"
 ·rw[qE,zZ,length_nil];walk_at "o"
theorem RelO.isSome_eq {o:Option V}{u:Option Value}(r:RelO o u):o.isSome=u.isSome:=by
 cases o with
 | none=>cases u with
  | none=>rfl
  | some _=>exact(show False from r).elim
 | some _=>cases u with
  | none=>exact(show False from r).elim
  | some _=>rfl
theorem RelO.getD {o:Option V}{u:Option Value}{d:V}{d':Value}(r:RelO o u)(rd:RelV d d'):RelV (o.getD d) (u.getD d'):=by
 cases o with
 | none=>cases u with
  | none=>exact rd
  | some _=>exact(show False from r).elim
 | some _=>cases u with
  | none=>exact(show False from r).elim
  | some _=>exact r
theorem KV.val {kvs:List (κ×V)}{vs:List (κ×Value)}(r:KV kvs vs)(k:κ):RelO (valV kvs k) (valueAt vs k):=by
 unfold KV at r
 induction r with
 | nil=>exact True.intro
 | @cons p q ps qs h t ih=>
  obtain⟨h1,h2⟩:=h
  by_cases e:p.1=k
  ·have e':q.1=k:=h1.symm.trans e;have b:valueAt (q::qs) k=some q.2:=by simp[valueAt,find?_cons,e']
   rw[X1 e,b];exact h2
  ·have e':¬q.1=k:=fun z=>e (h1.trans z);have b:valueAt (q::qs) k=valueAt qs k:=by simp[valueAt,find?_cons,e']
   rw[P9 e,b];exact ih
theorem KV.any {kvs:List (κ×V)}{vs:List (κ×Value)}(r:KV kvs vs)(k:κ):(kvs.any fun kv=>decide (kv.1=k))=vs.any fun kv=>decide (kv.1=k):=by
 unfold KV at r
 induction r with
 | nil=>rfl
 | cons h t ih=>rw[any_cons,any_cons,ih,h.1]
theorem KV.repl {kvs:List (κ×V)}{vs:List (κ×Value)}(r:KV kvs vs)(k:κ){y:V}{u:Value}(ry:RelV y u):
  KV (kvs.map fun kv=>if kv.1=k then(kv.1,y) else kv) (vs.map fun kv=>if kv.1=k then(kv.1,u) else kv):=by
 unfold KV at r ⊢
 induction r with
 | nil=>exact .nil
 | @cons p q ps qs h t ih=>
  rw[zJ,zJ];refine .cons ?_ ih;obtain⟨h1,h2⟩:=h
  by_cases e:p.1=k
  ·rw[if_pos e,if_pos (h1.symm.trans e)];exact⟨h1,ry⟩
  ·rw[if_neg e,if_neg (fun z=>e (h1.trans z))];exact⟨h1,h2⟩
theorem KV.put {kvs:List (κ×V)}{vs:List (κ×Value)}(r:KV kvs vs)(k:κ){y:V}{u:Value}(ry:RelV y u):KV (putK kvs k y) (stored vs k u):=by
 unfold putK stored;rw[r.any k]
 by_cases e:(vs.any fun kv=>decide (kv.1=k))=true
 ·rw[if_pos e,if_pos e];exact r.repl k ry
 ·rw[if_neg e,if_neg e];exact Paired.snoc r ⟨rfl,ry⟩
theorem KV.length {kvs:List (κ×V)}{vs:List (κ×Value)}(r:KV kvs vs):kvs.length=vs.length:=xM r
end
theorem a6F {P:Program}{w:World}{k:Key}{u:Value}(r:RelV (kV k) u):(mixKind P w).is k u=true:=by
 cases k with
 | inl i=>obtain⟨t,e⟩:=(show ∃t,u=Value.int i t from r);subst e;exact a3V P w i t
 | inr x=>obtain⟨t,e⟩:=(show ∃t,u=Value.str x t from r);subst e;exact a3w P w x t
theorem a0k {P:Program}{w:World}:∀{ks:List Key} {us:List Value},Vals (ks.map kV) us->ItemsAre (mixKind P w) ks us
 | [],_,r=>by rw[xD] at r;cases r;exact .nil
 | k::ks,_,r=>by
  rw[zJ] at r;cases r with
  | cons h t=>exact .cons (a6F h) (a0k t)
abbrev KT (H:Hp):List (List Key×V)->List (List Key×Addr×Value)->Prop:=Paired fun p q=>p.1=q.1/\H q.2.1=some (.tup (p.1.map kV))/\RelV p.2 q.2.2
theorem KT.val {H:Hp}{kvs:List (List Key×V)}{xs:List (List Key×Addr×Value)}(r:KT H kvs xs)(k:List Key):RelO (valV kvs k) ((atKey xs k).map (·.2)):=by
 induction r with
 | nil=>exact True.intro
 | @cons p q ps qs h t ih=>
  obtain⟨h1,_,h2⟩:=h
  by_cases e:p.1=k
  ·have e':q.1=k:=h1.symm.trans e;have b:atKey (q::qs) k=some q.2:=by simp[atKey,find?_cons,e']
   rw[X1 e,b];exact h2
  ·have e':¬q.1=k:=fun z=>e (h1.trans z);have b:atKey (q::qs) k=atKey qs k:=by simp[atKey,find?_cons,e']
   rw[P9 e,b];exact ih
theorem KT.repl {H:Hp}{kvs:List (List Key×V)}{xs:List (List Key×Addr×Value)}(r:KT H kvs xs)(k:List Key){y:V}{u:Value}(ry:RelV y u):
  KT H (kvs.map fun kv=>if kv.1=k then(kv.1,y) else kv) (xs.map (putAt k u)):=by
 induction r with
 | nil=>exact .nil
 | @cons p q ps qs h t ih=>
  rw[zJ,zJ];refine .cons ?_ ih;obtain⟨h1,h2,h3⟩:=h;unfold putAt
  by_cases e:p.1=k
  ·rw[if_pos e,if_pos (h1.symm.trans e)];exact⟨h1,h2,ry⟩
  ·rw[if_neg e,if_neg (fun z=>e (h1.trans z))];exact⟨h1,h2,h3⟩
theorem KT.put {H:Hp}{kvs:List (List Key×V)}{xs:List (List Key×Addr×Value)}(r:KT H kvs xs)(k:List Key){b:Addr}{y:V}{u:Value}(hb:H b=some (.tup (k.map kV)))(ry:RelV y u):
  KT H (putK kvs k y) (storedH xs k b u):=by
 have e:(kvs.any fun kv=>decide (kv.1=k))=(atKey xs k).isSome:=by
  rw[a38,(r.val k).isSome_eq,Option.isSome_map]
 unfold putK storedH;rw[e]
 by_cases q:(atKey xs k).isSome=true
 ·rw[if_pos q,if_pos q];exact r.repl k ry
 ·rw[if_neg q,if_neg q];exact Paired.snoc r ⟨rfl,hb,ry⟩
theorem KT.keeps {H H':Hp}{kvs:List (List Key×V)}{xs:List (List Key×Addr×Value)}(r:KT H kvs xs)(ht:∀b ys,H b=some (.tup ys)->H' b=some (.tup ys)):KT H' kvs xs:=
 Paired.mapP r fun _ _ z=>⟨z.1,ht _ _ z.2.1,z.2.2⟩
section
variable {P:Program}{w:World}{H:Hp}{h:Heap}{a:Addr}
theorem a8t {u:HO}(ok:HOk P w H h)(e:Rd H a u):ObjOk P w H h a u:=e.ok ok
theorem dk_rd {kvs:List (Key×V)}(ok:HOk P w H h)(e:Rd H a (.dK kvs)):kvs.length<=sizeLine/\(a==sysModules)=false/\∃vs,KV kvs vs/\h.DictOf (mixKind P w) a vs:=
 let ⟨z,y,vs,r,d⟩:=(show ObjOk P w H h a (.dK kvs) from a8t ok e);⟨z,y,vs,r,d.dictOf⟩
theorem dk_at {kvs:List (Key×V)}(ok:HOk P w H h)(e:H a=some (.dK kvs)):kvs.length<=sizeLine/\(a==sysModules)=false/\∃vs,KV kvs vs/\h.DictAt (mixKind P w) a vs kvs.length:=a8t ok (.inl e)
theorem dk_of {kvs:List (Key×V)}(ok:HOk P w H h)(e:H a=some (.dK kvs)):kvs.length<=sizeLine/\(a==sysModules)=false/\∃vs,KV kvs vs/\h.DictOf (mixKind P w) a vs:=dk_rd ok (.inl e)
theorem a7S {ks:List Key}(ok:HOk P w H h)(e:H a=some (.tup (ks.map kV))):(tupleKind (mixKind P w)).is h ks a:=by
 obtain⟨_,its,r,o,h1,h2,⟨n,h3⟩,_⟩:=(show ObjOk P w H h a (.tup (ks.map kV)) from ok a _ e);exact⟨o,its.toArray,n,h1,h2,h3,by simpa using a0k r⟩
theorem a8b {kvs:List (List Key×V)}(ok:HOk P w H h)(e:Rd H a (.dT kvs)):kvs.length<=sizeLine/\(a==sysModules)=false/\
  ∃xs,KT H kvs xs/\DictLnH (tupleKind (mixKind P w)) h a xs:=by
 obtain⟨z,y,xs,r,o,es,h1,h2,h3,h4,h5⟩:=(show ObjOk P w H h a (.dT kvs) from a8t ok e);refine⟨z,y,xs,r,o,es,h1,h2,by rw[<-xM r];exact h3,h4,fun x hx=>?_,h5⟩
 have all:∀{l:List (List Key×V)} {m:List (List Key×Addr×Value)},KT H l m->∀x∈m,(tupleKind (mixKind P w)).is h x.1 x.2.1:=by
  intro l m q
  induction q with
  | nil=>intro x hx;exact nomatch hx
  | @cons p q ps qs hq t ih=>
   intro x hx;rcases zN.mp hx with e|hx
   ·subst e;exact a7S ok (by rw[<-hq.1];exact hq.2.1)
   ·exact ih x hx
 exact all r x hx
theorem dt_rd {kvs:List (List Key×V)}(ok:HOk P w H h)(e:Rd H a (.dT kvs)):kvs.length<=sizeLine/\(a==sysModules)=false/\
  ∃xs,KT H kvs xs/\h.DictOfH (tupleKind (mixKind P w)) a xs:=let ⟨z,y,xs,r,d⟩:=a8b ok e;⟨z,y,xs,r,d.of⟩
theorem dt_of {kvs:List (List Key×V)}(ok:HOk P w H h)(e:H a=some (.dT kvs)):kvs.length<=sizeLine/\(a==sysModules)=false/\
  ∃xs,KT H kvs xs/\h.DictOfH (tupleKind (mixKind P w)) a xs:=dt_rd ok (.inl e)
end
def DPut (H:Hp) (a:Addr) (y v:V) (H':Hp):Prop:=
 (∃kvs k,H a=some (.dK kvs)/\y=kV k/\kvs.length<sizeLine/\H'=upd H a (.dK (putK kvs k v)))\/
 ∃kvs k b,H a=some (.dT kvs)/\y= .ref b/\H b=some (.tup (k.map kV))/\kvs.length<sizeLine/\H'=upd H a (.dT (putK kvs k v))
theorem DPut.t {H:Hp}{a b:Addr}{kvs:List (List Key×V)}{k:List Key}{v:V}(e:H a=some (.dT kvs))(eb:H b=some (.tup (k.map kV)))(hl:kvs.length<sizeLine):
  DPut H a (.ref b) v (upd H a (.dT (putK kvs k v))):=.inr ⟨kvs,k,b,e,rfl,eb,hl,rfl⟩
section
variable {X:Cx}{pins:List (Addr×Obj)}{σ:St}{H:Hp}{s:Shared}{a:Addr}{y v:V}{u r:Value}{o:Option V}{A:Around}{E:Value->Shared->Prop}
theorem Inv.big (I:Inv X pins σ H s):sysModules<s.heap.objs.size:=by
 have h:mainGlobals<s.heap.objs.size:=(I.mod.glob.keeps I.bk).lt;exact Nat.lt_trans (by decide) h
theorem a4D {h':Heap}{t':Nat}{ob:HO}(I:Inv X pins σ H s)(mu:Mut (H a))(hs:Heap.SameBut a s.heap h')(he:∃q,h'.get? a=some q)(new:ObjOk X.prog X.w (upd H a ob) h' a ob):
  Inv X pins σ (upd H a ob) {s with heap:=h',toks:=t'}:=
 I.write (x:=a) (e:=a) mu (.inl rfl) (fun b q hb z=>(hs.2 b hb).trans z) he new
theorem b1T {P:Program}{w:World}{H':Hp}{h':Heap}{kvs:List (Key×V)}{vs:List (Key×Value)}(z:kvs.length<=sizeLine)(hd:(a==sysModules)=false)(rel:KV kvs vs)(dd:h'.DictAt (mixKind P w) a vs vs.length):
  ObjOk P w H' h' a (.dK kvs):=⟨z,hd,vs,rel,by rw[rel.length];exact dd⟩
theorem a6h {H':Hp}{Q:Unit->Shared->Prop}(hu:A.units+1<cLine)(I:Inv X pins σ H s)(g:DPut H a y v H')(ry:RelV y u)(rv:RelV v r)(h:∀s',Inv X pins σ H' s'->Q () s'):
  wpAny (model X.prog X.w) A (setItem (.ref a) u r) Q E s:=by
 rcases g with ⟨kvs,k,e,ey,l,eH⟩|⟨kvs,k,b,e,ey,eb,l,eH⟩
 ·subst ey eH;obtain⟨z,hd,vs,rel,dd⟩:=dk_at I.hok e;rw[rel.length] at dd;have hz:vs.length<=sizeLine:=by rw[<-rel.length];exact z
  have hl:(putK kvs k v).length<=sizeLine:=by have:=a0m kvs k v;walk_at "o"
  refine a3H (a6F ry) dd hz fun h' dd' hs=>h _ ?_;have he:∃q,h'.get? a=some q:=let ⟨q,_,hq,_⟩:=dd';⟨q,hq⟩;exact a4D I (by rw[e];exact True.intro) hs he (b1T hl hd (rel.put k rv) dd')
 ·subst ey eH;cases(show u=Value.ref b from ry);obtain⟨z,hd,xs,rel,dd⟩:=a8b I.hok (.inl e);have hz:xs.length<=sizeLine:=by rw[<-xM rel];exact z
  have hl:(putK kvs k v).length<=sizeLine:=by have:=a0m kvs k v;walk_at "o"
  refine a4m (tupleKind_room_in1 hu) (a7S I.hok eb) dd hz fun h' dd' hs=>h _ ?_;obtain⟨q,es,hq,h2,h3,h4,_,h5⟩:=dd';refine a4D I (by rw[e];exact True.intro) hs ⟨q,hq⟩ ⟨hl,hd,_,(rel.put k eb rv).keeps fun c ys ec=>?_,q,es,hq,h2,by rw[xM (rel.put k eb rv)];exact h3,h4,h5⟩
  rw[g5 (ne_of ec e (fun z=>nomatch z))];exact ec
end
def sDPut (td ty tv:TE):TS:=fun D σ H=>tv σ H fun v H1=>td σ H1 fun x H2=>ty σ H2 fun y H3=>∃a H4,x= .ref a/\DPut H3 a y v H4/\D.nx σ H4
section
variable {X:Cx}{o i value:Expr}{pos pos':Pos}{td ty tv:TE}
theorem a81 (hu:X.A.units+1<cLine)(ho:PE X o td)(hi:PE X i ty)(hv:PE X value tv)(hs:swapsWith value (some (.Subscript o i pos')) pos.line X.env=pure false):
  PS X (.Assign [.Subscript o i pos'] value pos) (sDPut td ty tv):=by
 intro pins s σ H D I h;refine wpAny_Assign_Subscript (thn (hv pins s σ H _ I h) fun r s1 ⟨v,H1,I1,rv,q1⟩=>thn (ho pins s1 σ H1 _ I1 q1) fun u s2 ⟨x,H2,I2,rx,q2⟩=>thn (hi pins s2 σ H2 _ I2 q2) fun iv s3 ⟨y,H3,I3,ry,a,H4,ex,g,q3⟩=>?_) hs;subst ex;obtain rfl:u=Value.ref a:=rx;exact a6h hu I3 g ry rv fun s4 I4=>⟨σ,H4,I4,q3⟩
end
theorem a6K {P:Program}{w:World}{H:Hp}(h:Heap)(hb:sysModules<h.objs.size):ObjOk P w H (h.push {cls:=.type "dict",data:=.dict #[]}) h.objs.size (.dT []):=
 ⟨qV _,jP.mpr (qO (zQ hb)),[],.nil,_, #[],zO _ rfl,⟨rfl,rfl,rfl⟩,rfl,rfl,List.nodup_nil⟩
def tDNewT:TE:=fun _ H Q=>∀p,H p=none->Q (.ref p) (upd H p (.dT []))
section
variable {X:Cx}{pos:Pos}
theorem a7e:PE X (.Dict [] [] pos) tDNewT:=fun pins s σ H Q I h=>
 wpAny_Dict_empty ⟨.ref s.heap.objs.size,_,I.laid (a:=s.heap.objs.size) (o:=.dT []) (t':=s.toks) (fun _ _ q=>zD _ q) (zE _) (a6K s.heap I.big),rfl,h _ (I.hok.fresh (zE _))⟩
end
end L2
set_option maxHeartbeats 1000000
namespace Z
open PySem PySem.Spec PyProof.Rows L2
theorem obs {α β:Type}{o:Option α}{k:α->Option β}{y:β}(h:o.bind k=some y):∃a,o=some a/\k a=some y:=Option.bind_eq_some_iff.mp h
theorem oms {α β:Type}{o:Option α}{k:α->β}{y:β}(h:o.map k=some y):∃a,o=some a/\k a=y:=Option.map_eq_some_iff.mp h
set_option genInjectivity true in
inductive D where
 | non|bl (b:Bool)|int (i:Int)|str (x:Str)|tup (xs:List D)|lst (xs:List D)|dT (ks:List (List Key)) (xs:List D)|dK (ks:List Key) (xs:List D)|exn (C:Addr)
set_option genInjectivity true in
inductive W where
 | v (d:D)|o (d:D)|l (d:D)|r (i:Nat)
abbrev Ev:=List (Option W)
abbrev Av:=Addr->Prop
def ExcAt (a C:Addr) (h:Heap):Prop:=∃o vs,h.get? a=some o/\o.cls= .ref C/\o.data= .fields vs
def Mu:HO->Prop
 | .lst _=>True
 | .dT _=>True
 | .dK _=>True
 | _=>False
abbrev Emp:Hp:=fun _=>none
mutual
def Den (K:PySem.W.Frag) (A:Av) (H:Hp):D->V->Prop
 | .non,v=>v= .non
 | .bl b,v=>v= .bl b
 | .int i,v=>v= .int i
 | .str x,v=>v= .str x
 | .tup xs,v=>∃a vs,v= .ref a/\SqT K H a vs/\DenL K A H xs vs
 | .lst xs,v=>∃a vs,v= .ref a/\((H a=some (.lst vs)/\¬A a)\/(∃o,H a=some (.frz o (.lst vs)))\/SqL K Emp a vs)/\DenL K A H xs vs
 | .dT ks xs,v=>∃a vs,v= .ref a/\(H a=some (.dT (ks.zip vs))/\¬A a)/\ks.length=xs.length/\DenL K A H xs vs
 | .dK ks xs,v=>∃a vs,v= .ref a/\(H a=some (.dK (ks.zip vs))/\¬A a)/\ks.length=xs.length/\DenL K A H xs vs
 | .exn C,v=>∃a,v= .ref a/\H a=some (.ext (ExcAt a C))
def DenL (K:PySem.W.Frag) (A:Av) (H:Hp):List D->List V->Prop
 | [],vs=>vs=[]
 | d::ds,vs=>∃v r,vs=v::r/\Den K A H d v/\DenL K A H ds r
end
section
variable {K:PySem.W.Frag}{A A' M:Av}{H H':Hp}
structure Go (A A' M:Av) (H H':Hp):Prop where
 k:∀b o,H b=some o->¬M b->H' b=some o
 m:∀b,M b->A b/\∃u,H b=some u/\Mu u
 n:∀b,A' b->A b\/H b=none
theorem Go.not (g:Go A A' M H H'){b:Addr}{u:HO}(e:H b=some u)(n:¬Mu u):H' b=some u:=g.k b u e fun z=>by
 obtain⟨_,u',e',m⟩:=g.m b z;rw[e] at e';cases e';exact n m
theorem Go.lone (g:Go A A' M H H'){b:Addr}{u:HO}(h:H b=some u/\¬A b):H' b=some u/\¬A' b:=
 ⟨g.k b u h.1 fun z=>h.2 (g.m b z).1,fun z=>(g.n b z).elim h.2 fun z=>by rw[h.1] at z;cases z⟩
mutual
theorem m7 (g:Go A A' M H H'):∀(d:D) (v:V),Den K A H d v->Den K A' H' d v
 | .non,v,h=>by rw[Den] at h ⊢;exact h
 | .bl b,v,h=>by rw[Den] at h ⊢;exact h
 | .int i,v,h=>by rw[Den] at h ⊢;exact h
 | .str x,v,h=>by rw[Den] at h ⊢;exact h
 | .tup xs,v,h=>by
  rw[Den] at h ⊢;obtain⟨a,vs,e,q,l⟩:=h;refine⟨a,vs,e,?_,v7 g xs vs l⟩;rcases q with (q|⟨o,q⟩)|q
  ·exact .inl (.inl (g.not q id))
  ·exact .inl (.inr ⟨o,g.not q id⟩)
  ·exact .inr q
 | .lst xs,v,h=>by
  rw[Den] at h ⊢;obtain⟨a,vs,e,q,l⟩:=h;refine⟨a,vs,e,?_,v7 g xs vs l⟩;rcases q with q|⟨o,q⟩|q
  ·exact .inl (g.lone q)
  ·exact .inr (.inl ⟨o,g.not q id⟩)
  ·exact .inr (.inr q)
 | .dT ks xs,v,h=>by
  rw[Den] at h ⊢;obtain⟨a,vs,e,q,hl,l⟩:=h;exact⟨a,vs,e,g.lone q,hl,v7 g xs vs l⟩
 | .dK ks xs,v,h=>by
  rw[Den] at h ⊢;obtain⟨a,vs,e,q,hl,l⟩:=h;exact⟨a,vs,e,g.lone q,hl,v7 g xs vs l⟩
 | .exn C,v,h=>by
  rw[Den] at h ⊢;obtain⟨a,e,q⟩:=h;exact⟨a,e,g.not q id⟩
theorem v7 (g:Go A A' M H H'):∀(ds:List D) (vs:List V),DenL K A H ds vs->DenL K A' H' ds vs
 | [],vs,h=>by rw[DenL] at h ⊢;exact h
 | d::ds,vs,h=>by
  rw[DenL] at h ⊢;obtain⟨v,r,e,q,l⟩:=h;exact⟨v,r,e,m7 g d v q,v7 g ds r l⟩
end
theorem a2X (s:Same H H'):Go A A (fun _=>False) H H':=⟨fun b o e _=>s b o e,fun _ z=>z.elim,fun _ z=>.inl z⟩
theorem A6 (h:∀b,A' b->A b):Go A A' (fun _=>False) H H:=⟨fun _ _ e _=>e,fun _ z=>z.elim,fun b z=>.inl (h b z)⟩
theorem J6 (s:Same H H'){d:D}{v:V}(h:Den K A H d v):Den K A H' d v:=m7 (a2X s) d v h
theorem a5T (s:Same H H'){d:List D}{v:List V}(h:DenL K A H d v):DenL K A H' d v:=v7 (a2X s) d v h
theorem i0 {d:D}{ds:List D}{v:V}{vs:List V}(h:Den K A H d v)(t:DenL K A H ds vs):DenL K A H (d::ds) (v::vs):=by rw[DenL];exact⟨v,vs,rfl,h,t⟩
theorem j3:DenL K A H [] []:=by rw[DenL]
theorem t7:∀{ds es:List D} {vs ws:List V},DenL K A H ds vs->DenL K A H es ws->DenL K A H (ds++es) (vs++ws)
 | [],_,_,_,h,t=>by rw[DenL] at h;subst h;exact t
 | d::ds,_,_,_,h,t=>by
  rw[DenL] at h;obtain⟨v,r,rfl,q,l⟩:=h;exact i0 q (t7 l t)
theorem c5:∀{ds:List D} {vs:List V},DenL K A H ds vs->ds.length=vs.length
 | [],_,h=>by rw[DenL] at h;subst h;rfl
 | d::ds,_,h=>by
  rw[DenL] at h;obtain⟨v,r,rfl,q,l⟩:=h;rw[zZ,zZ,c5 l]
theorem A1:∀{ds:List D} {vs:List V} {i:Nat} {d:D},DenL K A H ds vs->ds[i]? =some d->∃v,vs[i]? =some v/\Den K A H d v
 | [],_,_,_,_,e=>by simp at e
 | d::ds,_,0,_,h,e=>by
  rw[DenL] at h;obtain⟨v,r,rfl,q,l⟩:=h;simp at e;subst e;exact⟨v,rfl,q⟩
 | d::ds,_,i+1,x,h,e=>by
  rw[DenL] at h;obtain⟨v,r,rfl,q,l⟩:=h;obtain⟨u,h1,h2⟩:=A1 (i:=i) (d:=x) l (by simpa using e)
  exact⟨u,by simpa using h1,h2⟩
theorem a2C:∀{ds:List D} {vs:List V} (n:Nat),DenL K A H ds vs->DenL K A H (ds.take n) (vs.take n)
 | [],_,n,h=>by rw[DenL] at h;subst h;simp;exact j3
 | d::ds,_,0,h=>by simp;exact j3
 | d::ds,_,n+1,h=>by
  rw[DenL] at h;obtain⟨v,r,rfl,q,l⟩:=h;exact i0 q (a2C n l)
theorem a2l:∀{ds:List D} {vs:List V} (n:Nat),DenL K A H ds vs->DenL K A H (ds.drop n) (vs.drop n)
 | [],_,n,h=>by rw[DenL] at h;subst h;simp;exact j3
 | d::ds,_,0,h=>h
 | d::ds,_,n+1,h=>by
  rw[DenL] at h;obtain⟨v,r,rfl,q,l⟩:=h;exact a2l n l
theorem B5 {i:Int}{v:V}:Den K A H (.int i) v↔v= .int i:=by rw[Den]
theorem a1n {i:Bool}{v:V}:Den K A H (.bl i) v↔v= .bl i:=by rw[Den]
theorem a5f {v:V}:Den K A H .non v↔v= .non:=by rw[Den]
theorem C3 {i:Str}{v:V}:Den K A H (.str i) v↔v= .str i:=by rw[Den]
theorem denL1 {d:D}{vs:List V}(l:DenL K A H [d] vs):∃v,vs=[v]/\Den K A H d v:=by
 rw[DenL] at l;obtain⟨v,r,rfl,h,l⟩:=l;rw[DenL] at l;subst l;exact⟨v,rfl,h⟩
theorem denL2 {d e:D}{vs:List V}(l:DenL K A H [d,e] vs):∃v u,vs=[v,u]/\Den K A H d v/\Den K A H e u:=by
 rw[DenL] at l;obtain⟨v,r,rfl,h,l⟩:=l;obtain⟨u,rfl,h'⟩:=denL1 l;exact⟨v,u,rfl,h,h'⟩
end
mutual
def lf:D->Bool
 | .tup xs=>lfL xs
 | .lst _=>false
 | .dT _ _=>false
 | .dK _ _=>false
 | _=>true
def lfL:List D->Bool
 | []=>true
 | d::ds=>lf d&&lfL ds
end
section
variable {K:PySem.W.Frag}{A A':Av}{H H':Hp}
mutual
theorem a7G (g:∀b o,H b=some o->¬Mu o->H' b=some o):∀(d:D) (v:V),lf d=true->Den K A H d v->Den K A' H' d v
 | .non,v,_,h=>by rw[Den] at h ⊢;exact h
 | .bl b,v,_,h=>by rw[Den] at h ⊢;exact h
 | .int i,v,_,h=>by rw[Den] at h ⊢;exact h
 | .str x,v,_,h=>by rw[Den] at h ⊢;exact h
 | .tup xs,v,f,h=>by
  rw[Den] at h ⊢;obtain⟨a,vs,e,q,l⟩:=h;refine⟨a,vs,e,?_,X6 g xs vs (by rw[lf] at f;exact f) l⟩
  rcases q with (q|⟨o,q⟩)|q
  ·exact .inl (.inl (g _ _ q id))
  ·exact .inl (.inr ⟨o,g _ _ q id⟩)
  ·exact .inr q
 | .lst xs,v,f,h=>by rw[lf] at f;cases f
 | .dT _ xs,v,f,h=>by rw[lf] at f;cases f
 | .dK _ xs,v,f,h=>by rw[lf] at f;cases f
 | .exn _,v,_,h=>by rw[Den] at h ⊢;obtain⟨a,e,q⟩:=h;exact⟨a,e,g _ _ q id⟩
theorem X6 (g:∀b o,H b=some o->¬Mu o->H' b=some o):∀(d:List D) (v:List V),lfL d=true->DenL K A H d v->DenL K A' H' d v
 | [],v,_,h=>by rw[DenL] at h ⊢;exact h
 | d::ds,v,f,h=>by
  rw[lfL,xG] at f;rw[DenL] at h ⊢;obtain⟨u,r,e,q,l⟩:=h;exact⟨u,r,e,a7G g d u f.1 q,X6 g ds r f.2 l⟩
end
end
def Obj (K:PySem.W.Frag) (A:Av) (H:Hp) (a:Addr):D->Prop
 | .lst xs=>∃vs,H a=some (.lst vs)/\DenL K A H xs vs
 | .dT ks xs=>∃vs,H a=some (.dT (ks.zip vs))/\ks.length=xs.length/\DenL K A H xs vs
 | .dK ks xs=>∃vs,H a=some (.dK (ks.zip vs))/\ks.length=xs.length/\DenL K A H xs vs
 | _=>False
def DenR (K:PySem.W.Frag) (A:Av) (H:Hp):D->V->Prop
 | .lst xs,v=>∃a vs,v= .ref a/\SqL K H a vs/\DenL K A H xs vs
 | .dT ks xs,v=>∃a vs,v= .ref a/\H a=some (.dT (ks.zip vs))/\ks.length=xs.length/\DenL K A H xs vs
 | .dK ks xs,v=>∃a vs,v= .ref a/\H a=some (.dK (ks.zip vs))/\ks.length=xs.length/\DenL K A H xs vs
 | d,v=>Den K A H d v
section
variable {K:PySem.W.Frag}{A A' M:Av}{H H':Hp}{d:D}{v:V}{a:Addr}
theorem z8 (g:Go A A' M H H')(hk:H' a=H a)(h:Obj K A H a d):Obj K A' H' a d:=by
 cases d with
 | lst xs=>obtain⟨vs,e,l⟩:=h;exact⟨vs,hk.trans e,v7 g _ _ l⟩
 | dT ks xs=>obtain⟨vs,e,hl,l⟩:=h;exact⟨vs,hk.trans e,hl,v7 g _ _ l⟩
 | dK ks xs=>obtain⟨vs,e,hl,l⟩:=h;exact⟨vs,hk.trans e,hl,v7 g _ _ l⟩
 | _=>exact h
theorem J1 (h:Obj K A H a d):∃u,H a=some u/\Mu u:=by
 cases d with
 | lst xs=>obtain⟨vs,e,l⟩:=h;exact⟨_,e,trivial⟩
 | dT ks xs=>obtain⟨vs,e,hl,l⟩:=h;exact⟨_,e,trivial⟩
 | dK ks xs=>obtain⟨vs,e,hl,l⟩:=h;exact⟨_,e,trivial⟩
 | _=>exact h.elim
theorem W1 (h:Obj K A H a d)(n:¬A a):Den K A H d (.ref a):=by
 cases d with
 | lst xs=>obtain⟨vs,e,l⟩:=h;rw[Den];exact⟨a,vs,rfl,.inl ⟨e,n⟩,l⟩
 | dT ks xs=>obtain⟨vs,e,hl,l⟩:=h;rw[Den];exact⟨a,vs,rfl,⟨e,n⟩,hl,l⟩
 | dK ks xs=>obtain⟨vs,e,hl,l⟩:=h;rw[Den];exact⟨a,vs,rfl,⟨e,n⟩,hl,l⟩
 | _=>exact h.elim
theorem obj_r (h:Obj K A H a d):DenR K A H d (.ref a):=by
 cases d with
 | lst xs=>obtain⟨vs,e,l⟩:=h;exact⟨a,vs,rfl,.inl (.inl e),l⟩
 | dT ks xs=>obtain⟨vs,e,hl,l⟩:=h;exact⟨a,vs,rfl,e,hl,l⟩
 | dK ks xs=>obtain⟨vs,e,hl,l⟩:=h;exact⟨a,vs,rfl,e,hl,l⟩
 | _=>exact h.elim
theorem G3 (h:Den K A H d v):DenR K A H d v:=by
 cases d with
 | lst xs=>
  rw[Den] at h;obtain⟨a,vs,e,q,l⟩:=h;refine⟨a,vs,e,?_,l⟩;rcases q with q|⟨o,q⟩|(q|⟨o,q⟩)|q
  ·exact .inl (.inl q.1)
  ·exact .inl (.inr ⟨o,q⟩)
  ·cases q
  ·cases q
  ·exact .inr q
 | dT ks xs=>rw[Den] at h;obtain⟨a,vs,e,q,l⟩:=h;exact⟨a,vs,e,q.1,l⟩
 | dK ks xs=>rw[Den] at h;obtain⟨a,vs,e,q,l⟩:=h;exact⟨a,vs,e,q.1,l⟩
 | _=>exact h
end
def W.own:W->Option D
 | .o d=>some d
 | .l d=>some d
 | _=>none
def Ow (ρ:Ev) (σ:L2.St):Av:=fun b=>∃(i:Nat) (w:W) (d:D),ρ[i]? =some (some w)/\w.own=some d/\σ[i]? =some (some (V.ref b))
abbrev AvO (O:Av) (ρ:Ev) (σ:L2.St):Av:=fun b=>O b\/Ow ρ σ b
def SlotOk (K:PySem.W.Frag) (A:Av) (H:Hp):W->V->Prop
 | .v d,v=>Den K A H d v
 | .o d,v=>∃a,v= .ref a/\Obj K A H a d
 | .l d,v=>∃a,v= .ref a/\Obj K A H a d
 | .r _,_=>False
def hz (X:Cx) (L:List (Option Nat×Addr)):Hp:=fun b=>if(none,b)∈L then none else X.H₀ b
structure Rep (X:Cx) (P:List (D×V)) (O:Av) (L:List (Option Nat×Addr)) (ρ:Ev) (σ:L2.St) (H:Hp):Prop where
 same:∀b o,X.H₀ b=some o->(∀i,(i,b)∉L)->H b=some o
 amb:∀b,O b->(∃o,X.H₀ b=some o)/\∀i,(i,b)∉L
 len:ρ.length=σ.length
 slot:∀(i:Nat) (w:W),ρ[i]? =some (some w)->∃v,σ[i]? =some (some v)/\SlotOk X.K (AvO O ρ σ) H w v
 inj:∀(i j:Nat) (w w':W) (d d':D) (b:Addr),ρ[i]? =some (some w)->w.own=some d->σ[i]? =some (some (.ref b))->ρ[j]? =some (some w')->w'.own=some d'->σ[j]? =some (some (.ref b))->i=j
 new:∀(i:Nat) (d:D) (b:Addr),ρ[i]? =some (some (.o d))->σ[i]? =some (some (.ref b))->hz X L b=none
 lnt:∀(i:Nat) (d:D),ρ[i]? =some (some (.l d))->∃b,σ[i]? =some (some (.ref b))/\(some i,b)∈L
 lnd:∀(i:Nat) (b:Addr),(some i,b)∈L->∃d,ρ[i]? =some (some (.l d))/\σ[i]? =some (some (.ref b))
 prot:∀p∈P,Den X.K (AvO O ρ σ) H p.1 p.2
 gvl:∀b,(none,b)∈L->∃(i:Nat) (a:Addr),(some i,a)∈L
section
variable {X:Cx}{P:List (D×V)}{O:Av}{L:List (Option Nat×Addr)}{ρ:Ev}{σ:L2.St}{H H':Hp}
theorem a4q {K:PySem.W.Frag}{A:Av}{H:Hp}{w:W}{d:D}{v:V}(h:SlotOk K A H w v)(e:w.own=some d):∃a,v= .ref a/\Obj K A H a d:=by
 cases w<;>simp only[W.own] at e<;>first|(cases e;exact h)|cases e
theorem Rep.obj (r:Rep X P O L ρ σ H){i:Nat}{w:W}{d:D}(e:ρ[i]? =some (some w))(ew:w.own=some d):∃a,σ[i]? =some (some (.ref a))/\Obj X.K (AvO O ρ σ) H a d:=by
 obtain⟨v,h1,h2⟩:=r.slot i w e;obtain⟨a,rfl,h3⟩:=a4q h2 ew;exact⟨a,h1,h3⟩
theorem Rep.owMu (r:Rep X P O L ρ σ H){b:Addr}(z:Ow ρ σ b):∃u,H b=some u/\Mu u:=by
 obtain⟨i,w,d,e1,e2,e3⟩:=z;obtain⟨a,h1,h2⟩:=r.obj e1 e2;rw[e3] at h1;cases h1;exact J1 h2
theorem Rep.ambN (r:Rep X P O L ρ σ H){b:Addr}(z:O b):¬Ow ρ σ b:=fun⟨i,w,d,e1,e2,e3⟩=>by
 obtain⟨⟨o,h0⟩,hl⟩:=r.amb b z;cases w with
 | o d'=>have:=r.new i d' b e1 e3;unfold hz at this;rw[if_neg (hl none),h0] at this;cases this
 | l d'=>obtain⟨c,h1,h2⟩:=r.lnt i d' e1;rw[e3] at h1;cases h1;exact hl (some i) h2
 | _=>cases e2
theorem Rep.there (r:Rep X P O L ρ σ H){b:Addr}(z:AvO O ρ σ b):∃o,H b=some o:=by
 rcases z with z|z
 ·obtain⟨⟨o,h0⟩,hl⟩:=r.amb b z;exact⟨o,r.same b o h0 hl⟩
 ·obtain⟨u,e,_⟩:=r.owMu z;exact⟨u,e⟩
theorem Rep.fresh (r:Rep X P O L ρ σ H){b:Addr}(n:H b=none):¬AvO O ρ σ b:=fun z=>by obtain⟨o,e⟩:=r.there z;rw[n] at e;cases e
theorem Rep.fresh0 (r:Rep X P O L ρ σ H){b:Addr}(n:H b=none):hz X L b=none:=by
 unfold hz
 split
 ·rfl
 ·rename_i hg;cases q:X.H₀ b with
  | none=>rfl
  | some o=>
   have:H b=some o:=r.same b o q fun i e=>by
    cases i with
    | none=>exact hg e
    | some i=>
     obtain⟨d,h1,h2⟩:=r.lnd i b e;obtain⟨a,h3,h4⟩:=r.obj h1 rfl;rw[h2] at h3;cases h3;obtain⟨u,e,_⟩:=J1 h4;rw[n] at e;cases e
   rw[n] at this;cases this
theorem D4 {K:PySem.W.Frag}{A A' M:Av}{H H':Hp}(g:Go A A' M H H'){w:W}{v:V}(hk:∀a d,w.own=some d->v= .ref a->H' a=H a)(h:SlotOk K A H w v):SlotOk K A' H' w v:=by
 cases w with
 | v d=>exact m7 g _ _ h
 | o d=>obtain⟨a,e,q⟩:=h;exact⟨a,e,z8 g (hk a d rfl e) q⟩
 | l d=>obtain⟨a,e,q⟩:=h;exact⟨a,e,z8 g (hk a d rfl e) q⟩
 | r i=>exact h
theorem Rep.grow (r:Rep X P O L ρ σ H)(s:Same H H'):Rep X P O L ρ σ H' where
 same:=fun b o e hl=>s b o (r.same b o e hl)
 amb:=r.amb
 len:=r.len
 slot:=fun i w e=>by
  obtain⟨v,h1,h2⟩:=r.slot i w e;refine⟨v,h1,D4 (a2X s) (fun a d ew ev=>?_) h2⟩;subst ev;obtain⟨b,h3,h4⟩:=r.obj e ew;rw[h1] at h3;cases h3;obtain⟨u,eu,_⟩:=J1 h4;rw[eu,s _ _ eu]
 inj:=r.inj
 new:=r.new
 lnt:=r.lnt
 lnd:=r.lnd
 prot:=fun p hp=>J6 s (r.prot p hp)
 gvl:=r.gvl
theorem Rep.more {p:D×V}(r:Rep X P O L ρ σ H)(h:Den X.K (AvO O ρ σ) H p.1 p.2):Rep X (p::P) O L ρ σ H:=
 ⟨r.same,r.amb,r.len,r.slot,r.inj,r.new,r.lnt,r.lnd,fun q hq=>(zN.mp hq).elim (fun e=>by rw[e];exact h) (r.prot q),r.gvl⟩
theorem Rep.less {p:D×V}(r:Rep X (p::P) O L ρ σ H):Rep X P O L ρ σ H:=
 ⟨r.same,r.amb,r.len,r.slot,r.inj,r.new,r.lnt,r.lnd,fun q hq=>r.prot q (zH _ hq),r.gvl⟩
theorem Rep.head {p:D×V}(r:Rep X (p::P) O L ρ σ H):Den X.K (AvO O ρ σ) H p.1 p.2:=r.prot p zI
theorem l7 {α:Type}{l:List α}{i j:Nat}{x y:α}(e:(l.set i x)[j]? =some y):(j=i/\y=x/\i<l.length)\/(j≠i/\l[j]? =some y):=by
 by_cases q:i=j
 ·subst q;rw[List.getElem?_set,if_pos rfl] at e;split at e
  ·cases e;rename_i h;exact .inl ⟨rfl,rfl,h⟩
  ·cases e
 ·rw[zL q] at e;exact .inr ⟨qO q,e⟩
theorem w4 {α:Type}{l:List α}{i:Nat}{x:α}(h:i<l.length):(l.set i x)[i]? =some x:=by rw[List.getElem?_set,if_pos rfl,if_pos h]
def freeSlot (ρ:Ev) (i:Nat):Bool:=match ρ[i]? with
 | some (some (.l _))=>false
 | _=>true
theorem Rep.put (r:Rep X P O L ρ σ H){i:Nat}{d:D}{v:V}(hf:freeSlot ρ i=true)(h:Den X.K (AvO O ρ σ) H d v):Rep X P O L (ρ.set i (some (.v d))) (σ.set i (some v)) H:=by
 have sub:∀b,AvO O (ρ.set i (some (.v d))) (σ.set i (some v)) b->AvO O ρ σ b:=fun b z=>by
  rcases z with z|⟨j,w,c,e1,e2,e3⟩
  ·exact .inl z
  ·rcases l7 e1 with ⟨rfl,z,_⟩|⟨n,e1⟩
   ·cases z;cases e2
   ·rw[zL (qO n)] at e3;exact .inr ⟨j,w,c,e1,e2,e3⟩
 have g:=A6 (H:=H) sub;have st:∀{j:Nat} {w:W} {c:D},(ρ.set i (some (.v d)))[j]? =some (some w)->w.own=some c->j≠i/\ρ[j]? =some (some w):=fun{j w c} e1 e2=>by
  rcases l7 e1 with ⟨rfl,z,_⟩|z
  ·cases z;cases e2
  ·exact z
 refine⟨r.same,r.amb,by rw[xN,xN];exact r.len,fun j w e=>?_,fun j k w w' c c' b e1 e2 e3 e4 e5 e6=>?_,fun j c b e1 e2=>?_,fun j c e=>?_,fun j b e=>?_,fun p hp=>m7 g _ _ (r.prot p hp),r.gvl⟩
 ·rcases l7 e with ⟨rfl,z,hl⟩|⟨n,e⟩
  ·cases z;exact⟨v,w4 (by rw[<-r.len];exact hl),m7 g _ _ h⟩
  ·obtain⟨u,h1,h2⟩:=r.slot j w e;exact⟨u,by rw[zL (qO n)];exact h1,D4 g (fun _ _ _ _=>rfl) h2⟩
 ·obtain⟨n1,e1⟩:=st e1 e2;obtain⟨n2,e4⟩:=st e4 e5;rw[zL (qO n1)] at e3;rw[zL (qO n2)] at e6;exact r.inj j k w w' c c' b e1 e2 e3 e4 e5 e6
 ·obtain⟨n1,e1⟩:=st (c:=c) e1 rfl;rw[zL (qO n1)] at e2;exact r.new j c b e1 e2
 ·obtain⟨n1,e1⟩:=st (c:=c) e rfl;rw[zL (qO n1)];exact r.lnt j c e1
 ·obtain⟨c,h1,h2⟩:=r.lnd j b e;have n:i≠j:=fun z=>by subst z;unfold freeSlot at hf;rw[h1] at hf;cases hf
  exact⟨c,by rw[zL n];exact h1,by rw[zL n];exact h2⟩
theorem Rep.putO (r:Rep X P O L ρ σ H)(s:Same H H'){i:Nat}{d:D}{a:Addr}(hf:freeSlot ρ i=true)(hn:H a=none)(h:Obj X.K (fun b=>AvO O ρ σ b\/b=a) H' a d):Rep X P O L (ρ.set i (some (.o d))) (σ.set i (some (.ref a))) H':=by
 have nA:=r.fresh hn;have sub:∀b,AvO O (ρ.set i (some (.o d))) (σ.set i (some (.ref a))) b->AvO O ρ σ b\/b=a:=fun b z=>by
  rcases z with z|⟨j,w,c,e1,e2,e3⟩
  ·exact .inl (.inl z)
  ·rcases l7 e1 with ⟨rfl,z,hl⟩|⟨n,e1⟩
   ·rw[w4 (by rw[<-r.len];exact hl)] at e3;cases e3;exact .inr rfl
   ·rw[zL (qO n)] at e3;exact .inl (.inr ⟨j,w,c,e1,e2,e3⟩)
 have g:Go (AvO O ρ σ) (AvO O (ρ.set i (some (.o d))) (σ.set i (some (.ref a)))) (fun _=>False) H H':=⟨fun b o e _=>s b o e,fun _ z=>z.elim,fun b z=>(sub b z).imp id fun z=>by rw[z];exact hn⟩
 have old:∀{j:Nat} {w:W} {b:Addr},ρ[j]? =some (some w)->σ[j]? =some (some (.ref b))->w.own≠none->b≠a:=fun{j w b} e1 e2 e3 z=>by
  cases q:w.own with
  | none=>exact e3 q
  | some c=>exact nA (.inr ⟨j,w,c,e1,q,by rw[<-z];exact e2⟩)
 refine⟨fun b o e hl=>s b o (r.same b o e hl),r.amb,by rw[xN,xN];exact r.len,fun j w e=>?_,fun j k w w' c c' b e1 e2 e3 e4 e5 e6=>?_,fun j c b e1 e2=>?_,fun j c e=>?_,fun j b e=>?_,fun p hp=>m7 g _ _ (r.prot p hp),r.gvl⟩
 ·rcases l7 e with ⟨rfl,z,hl⟩|⟨n,e⟩
  ·cases z;exact⟨.ref a,w4 (by rw[<-r.len];exact hl),a,rfl,z8 (A6 sub) rfl h⟩
  ·obtain⟨u,h1,h2⟩:=r.slot j w e;refine⟨u,by rw[zL (qO n)];exact h1,D4 g (fun b c ec eb=>?_) h2⟩
   subst eb;obtain⟨o,eo,_⟩:=r.owMu ⟨j,w,c,e,ec,h1⟩;rw[eo,s _ _ eo]
 ·rcases l7 e1 with ⟨rfl,z,hl⟩|⟨n1,e1⟩
  ·rw[w4 (by rw[<-r.len];exact hl)] at e3;cases e3
   rcases l7 e4 with ⟨rfl,_,_⟩|⟨n2,e4⟩
   ·rfl
   ·rw[zL (qO n2)] at e6;exact absurd rfl (old e4 e6 (by rw[e5];exact nofun))
  ·rw[zL (qO n1)] at e3;have f1:=old e1 e3 (by rw[e2];exact nofun)
   rcases l7 e4 with ⟨rfl,_,hl⟩|⟨n2,e4⟩
   ·rw[w4 (by rw[<-r.len];exact hl)] at e6;cases e6
    exact absurd rfl f1
   ·rw[zL (qO n2)] at e6;exact r.inj j k w w' c c' b e1 e2 e3 e4 e5 e6
 ·rcases l7 e1 with ⟨rfl,z,hl⟩|⟨n1,e1⟩
  ·rw[w4 (by rw[<-r.len];exact hl)] at e2;cases e2;exact r.fresh0 hn
  ·rw[zL (qO n1)] at e2;exact r.new j c b e1 e2
 ·rcases l7 e with ⟨rfl,z,hl⟩|⟨n1,e⟩
  ·cases z
  ·rw[zL (qO n1)];exact r.lnt j c e
 ·obtain⟨c,h1,h2⟩:=r.lnd j b e;have n:i≠j:=fun z=>by subst z;unfold freeSlot at hf;rw[h1] at hf;cases hf
  exact⟨c,by rw[zL n];exact h1,by rw[zL n];exact h2⟩
def setOwn (ρ:Ev) (i:Nat) (d:D):Ev:=match ρ[i]? with
 | some (some (.l _))=>ρ.set i (some (.l d))
 | _=>ρ.set i (some (.o d))
def ownAt (ρ:Ev) (i:Nat):Option D:=match ρ[i]? with
 | some (some w)=>w.own
 | _=>none
theorem w5 {ρ:Ev}{i:Nat}{c:D}(e:ownAt ρ i=some c):∃w,ρ[i]? =some (some w)/\w.own=some c:=by
 unfold ownAt at e;split at e
 ·rename_i w q;exact⟨w,q,e⟩
 ·cases e
theorem a0Z {ρ:Ev}{i:Nat}{c d:D}(e:ownAt ρ i=some c):∃w,w.own=some d/\setOwn ρ i d=ρ.set i (some w)/\((∃x,w= .l x)↔∃x,ρ[i]? =some (some (.l x))):=by
 obtain⟨w,q,e⟩:=w5 e;unfold setOwn;cases w with
 | v d=>cases e
 | r d=>cases e
 | o x=>rw[q];exact⟨.o d,rfl,rfl,by simp⟩
 | l x=>rw[q];exact⟨.l d,rfl,rfl,by simp⟩
theorem a1W {ρ:Ev}{σ:L2.St}{i:Nat}{c d:D}(e:ownAt ρ i=some c)(b:Addr):Ow (setOwn ρ i d) σ b↔Ow ρ σ b:=by
 obtain⟨w,h1,h2,_⟩:=a0Z (d:=d) e;obtain⟨w0,q,e0⟩:=w5 e;rw[h2];constructor
 ·rintro⟨j,w',c',e1,e2,e3⟩;rcases l7 e1 with ⟨rfl,z,_⟩|⟨n,e1⟩
  ·exact⟨j,w0,c,q,e0,e3⟩
  ·exact⟨j,w',c',e1,e2,e3⟩
 ·rintro⟨j,w',c',e1,e2,e3⟩
  by_cases n:j=i
  ·subst n;exact⟨j,w,d,w4 (zM.mp q).1,h1,e3⟩
  ·exact⟨j,w',c',by rw[zL (qO n)];exact e1,e2,e3⟩
theorem Rep.mut (r:Rep X P O L ρ σ H){i:Nat}{a:Addr}{c d:D}(e:ownAt ρ i=some c)(ea:σ[i]? =some (some (.ref a)))(hk:∀b o,H b=some o->b≠a->H' b=some o)(h:Obj X.K (AvO O ρ σ) H' a d):
  Rep X P O L (setOwn ρ i d) σ H':=by
 obtain⟨w,h1,h2,h3⟩:=a0Z (d:=d) e;obtain⟨w0,q,e0⟩:=w5 e;have av:AvO O (setOwn ρ i d) σ=AvO O ρ σ:=funext fun b=>propext (or_congr Iff.rfl (a1W e b));have ma:Ow ρ σ a:=⟨i,w0,c,q,e0,ea⟩;have g:Go (AvO O ρ σ) (AvO O ρ σ) (fun b=>b=a) H H':=⟨hk,fun b z=>by rw[z];exact⟨.inr ma,r.owMu ma⟩,fun b z=>.inl z⟩
 have st:∀{j:Nat} {w':W} {c':D},(setOwn ρ i d)[j]? =some (some w')->w'.own=some c'->∃w'' c'',ρ[j]? =some (some w'')/\w''.own=some c'':=fun{j w' c'} e1 e2=>by
  rw[h2] at e1;rcases l7 e1 with ⟨rfl,_,_⟩|⟨_,e1⟩
  ·exact⟨w0,c,q,e0⟩
  ·exact⟨w',c',e1,e2⟩
 refine⟨fun b o eb hl=>hk b o (r.same b o eb hl) fun z=>?_,r.amb,by rw[h2,xN];exact r.len,fun j w' e'=>?_,fun j k w1 w2 c1 c2 b e1 e2 e3 e4 e5 e6=>?_,fun j c' b e1 e2=>?_,fun j c' e'=>?_,fun j b e'=>?_,fun p hp=>by rw[av];exact m7 g _ _ (r.prot p hp),r.gvl⟩
 ·subst z;cases w0 with
  | o x=>have:=r.new i x b q ea;unfold hz at this;rw[if_neg (hl none),eb] at this;cases this
  | l x=>obtain⟨c',q1,q2⟩:=r.lnt i x q;rw[ea] at q1;cases q1;exact hl (some i) q2
  | _=>cases e0
 ·rw[av];rw[h2] at e';rcases l7 e' with ⟨rfl,z,_⟩|⟨n,e'⟩
  ·cases z;refine⟨.ref a,ea,?_⟩;cases w with
   | o x=>cases h1;exact⟨a,rfl,h⟩
   | l x=>cases h1;exact⟨a,rfl,h⟩
   | _=>cases h1
  ·obtain⟨u,q1,q2⟩:=r.slot j w' e';refine⟨u,q1,D4 g (fun b c' ec eb=>?_) q2⟩;subst eb;have nb:b≠a:=fun z=>n (r.inj j i w' w0 c' c a e' ec (by rw[<-z];exact q1) q e0 ea)
   obtain⟨o,eo,_⟩:=r.owMu ⟨j,w',c',e',ec,q1⟩;rw[eo,hk _ _ eo nb]
 ·obtain⟨u1,v1,q1,q2⟩:=st e1 e2;obtain⟨u2,v2,q3,q4⟩:=st e4 e5;exact r.inj j k u1 u2 v1 v2 b q1 q2 e3 q3 q4 e6
 ·rw[h2] at e1;rcases l7 e1 with ⟨rfl,z,_⟩|⟨n,e1⟩
  ·cases z;cases w0 with
   | o x=>exact r.new j x b q e2
   | l x=>exact absurd (h3.mpr ⟨x,q⟩) (by simp)
   | _=>cases e0
  ·exact r.new j c' b e1 e2
 ·rw[h2] at e';rcases l7 e' with ⟨rfl,z,_⟩|⟨n,e'⟩
  ·cases z;obtain⟨x,qx⟩:=h3.mp ⟨_,rfl⟩;exact r.lnt j x qx
  ·exact r.lnt j c' e'
 ·obtain⟨c',q1,q2⟩:=r.lnd j b e'
  by_cases n:j=i
  ·subst n;obtain⟨x,rfl⟩:=h3.mpr ⟨c',q1⟩;exact⟨x,by rw[h2];exact w4 (zM.mp q).1,q2⟩
  ·exact⟨c',by rw[h2,zL (qO n)];exact q1,q2⟩
def frzAt (ρ:Ev) (i:Nat):Option Ev:=match ρ[i]? with
 | some (some (.o d))=>some (ρ.set i (some (.v d)))
 | some (some (.v _))=>some ρ
 | _=>none
theorem Rep.frz (r:Rep X P O L ρ σ H){i:Nat}{ρ':Ev}(e:frzAt ρ i=some ρ'):Rep X P O L ρ' σ H/\∀(j:Nat) (w:W) (d:D),ρ'[j]? =some (some w)->w.own=some d->ρ[j]? =some (some w)/\j≠i:=by
 unfold frzAt at e;split at e
 ·rename_i d q;cases e;obtain⟨a,h1,h2⟩:=r.obj q rfl;have hl:i<σ.length:=by rw[<-r.len];exact(zM.mp q).1
  have es:σ.set i (some (.ref a))=σ:=by
   apply ext_getElem?;intro j
   by_cases z:i=j
   ·subst z;rw[w4 hl,h1]
   ·rw[zL z]
  have hw:¬AvO O (ρ.set i (some (.v d))) σ a:=fun z=>by
   rcases z with z|⟨j,w,c,e1,e2,e3⟩
   ·exact r.ambN z ⟨i,_,d,q,rfl,h1⟩
   ·rcases l7 e1 with ⟨rfl,z,_⟩|⟨n,e1⟩
    ·cases z;cases e2
    ·exact n (r.inj j i w (.o d) c d a e1 e2 e3 q rfl h1)
  have sub:∀b,AvO O (ρ.set i (some (.v d))) σ b->AvO O ρ σ b:=fun b z=>by
   rcases z with z|⟨j,w,c,e1,e2,e3⟩
   ·exact .inl z
   ·rcases l7 e1 with ⟨rfl,z,_⟩|⟨n,e1⟩
    ·cases z;cases e2
    ·exact .inr ⟨j,w,c,e1,e2,e3⟩
  have g:=A6 (H:=H) sub;refine⟨⟨r.same,r.amb,by rw[xN];exact r.len,fun j w e=>?_,fun j k w w' c c' b e1 e2 e3 e4 e5 e6=>?_,fun j c b e1 e2=>?_,fun j c e=>?_,fun j b e=>?_,fun p hp=>m7 g _ _ (r.prot p hp),r.gvl⟩,fun j w c e1 e2=>?_⟩
  ·rcases l7 e with ⟨rfl,z,_⟩|⟨n,e⟩
   ·cases z;exact⟨.ref a,h1,W1 (z8 g rfl h2) hw⟩
   ·obtain⟨u,q1,q2⟩:=r.slot j w e;exact⟨u,q1,D4 g (fun _ _ _ _=>rfl) q2⟩
  ·rcases l7 e1 with ⟨rfl,z,_⟩|⟨n1,e1⟩
   ·cases z;cases e2
   ·rcases l7 e4 with ⟨rfl,z,_⟩|⟨n2,e4⟩
    ·cases z;cases e5
    ·exact r.inj j k w w' c c' b e1 e2 e3 e4 e5 e6
  ·rcases l7 e1 with ⟨rfl,z,_⟩|⟨n1,e1⟩
   ·cases z
   ·exact r.new j c b e1 e2
  ·rcases l7 e with ⟨rfl,z,_⟩|⟨n1,e⟩
   ·cases z
   ·exact r.lnt j c e
  ·obtain⟨c,q1,q2⟩:=r.lnd j b e;have n:i≠j:=fun z=>by subst z;rw[q] at q1;cases q1
   exact⟨c,by rw[zL n];exact q1,q2⟩
  ·rcases l7 e1 with ⟨rfl,z,_⟩|⟨n,e1⟩
   ·cases z;cases e2
   ·exact⟨e1,n⟩
 ·rename_i d q;cases e;exact⟨r,fun j w c e1 e2=>⟨e1,fun z=>by subst z;rw[q] at e1;cases e1;cases e2⟩⟩
 ·cases e
end
abbrev FX:=Ev->Option (W×Ev)
abbrev FT:=Ev->Option (Bool×Ev)
abbrev FA:=Ev->Option (List W×Ev)
def DenW (K:PySem.W.Frag) (A:Av) (σ:L2.St) (H1 H':Hp):W->V->Prop
 | .v d,v=>Den K A H' d v
 | .o d,v=>∃a,v= .ref a/\H1 a=none/\Obj K (fun b=>A b\/b=a) H' a d
 | .r i,v=>σ[i]? =some (some v)
 | .l _,_=>False
def DenP (K:PySem.W.Frag) (A:Av) (σ:L2.St) (H:Hp):W->V->Prop
 | .v d,v=>Den K A H d v
 | .r i,v=>σ[i]? =some (some v)
 | _,_=>False
def DenA (K:PySem.W.Frag) (A:Av) (σ:L2.St) (H:Hp):List W->List V->Prop
 | [],vs=>vs=[]
 | w::ws,vs=>∃v r,vs=v::r/\DenP K A σ H w v/\DenA K A σ H ws r
def W.fz:W->W
 | .o d=>.v d
 | w=>w
def tX (X:Cx) (f:FX):TE:=fun σ H Q=>∃P O L ρ w ρ',Rep X P O L ρ σ H/\f ρ=some (w,ρ')/\∀v H1 H',Rep X P O L ρ' σ H1->Same H1 H'->DenW X.K (AvO O ρ' σ) σ H1 H' w v->Q v H'
def tT (X:Cx) (f:FT):TT:=fun σ H Q=>∃P O L ρ b ρ',Rep X P O L ρ σ H/\f ρ=some (b,ρ')/\∀H',Rep X P O L ρ' σ H'->Q b H'
def tA (X:Cx) (f:FA):TA:=fun σ H Q=>∃P O L ρ ws ρ',Rep X P O L ρ σ H/\f ρ=some (ws,ρ')/\∀vs H',Rep X P O L ρ' σ H'->DenA X.K (AvO O ρ' σ) σ H' ws vs->Q vs H'
theorem tXe {X:Cx}{f:FX}{σ:L2.St}{H:Hp}{Q:VK}{C:Prop}(h:tX X f σ H Q)(k:∀P O L ρ w ρ',Rep X P O L ρ σ H->f ρ=some (w,ρ')->(∀v H1 H',Rep X P O L ρ' σ H1->Same H1 H'->DenW X.K (AvO O ρ' σ) σ H1 H' w v->Q v H')->C):C:=by
 obtain⟨P,O,L,ρ,w,ρ',r,e,q⟩:=h;exact k P O L ρ w ρ' r e q
theorem tTe {X:Cx}{f:FT}{σ:L2.St}{H:Hp}{Q:Bool->Hp->Prop}{C:Prop}(h:tT X f σ H Q)(k:∀P O L ρ b ρ',Rep X P O L ρ σ H->f ρ=some (b,ρ')->(∀H',Rep X P O L ρ' σ H'->Q b H')->C):C:=by
 obtain⟨P,O,L,ρ,w,ρ',r,e,q⟩:=h;exact k P O L ρ w ρ' r e q
theorem tAe {X:Cx}{f:FA}{σ:L2.St}{H:Hp}{Q:List V->Hp->Prop}{C:Prop}(h:tA X f σ H Q)(k:∀P O L ρ ws ρ',Rep X P O L ρ σ H->f ρ=some (ws,ρ')->(∀vs H',Rep X P O L ρ' σ H'->DenA X.K (AvO O ρ' σ) σ H' ws vs->Q vs H')->C):C:=by
 obtain⟨P,O,L,ρ,w,ρ',r,e,q⟩:=h;exact k P O L ρ w ρ' r e q
structure QX (X:Cx) (e:Expr) (f:FX):Prop where
 to:PE X e (tX X f)
structure QT (X:Cx) (e:Expr) (f:FT):Prop where
 to:PT X e (tT X f)
structure QW (X:Cx) (e:Expr) (f:FT):Prop where
 to:PW X e (tT X f)
structure QA (X:Cx) (e:List Expr) (f:FA):Prop where
 to:PA X e (tA X f)
theorem PE.weak {X:Cx}{e:Expr}{t u:TE}(h:PE X e t)(w:∀σ H Q,u σ H Q->t σ H Q):PE X e u:=fun pins s σ H Q I q=>h pins s σ H Q I (w σ H Q q)
theorem PT.weak {X:Cx}{e:Expr}{t u:TT}(h:PT X e t)(w:∀σ H Q,u σ H Q->t σ H Q):PT X e u:=fun pins s σ H Q I q=>h pins s σ H Q I (w σ H Q q)
theorem PW.weak {X:Cx}{e:Expr}{t u:TT}(h:PW X e t)(w:∀σ H Q,u σ H Q->t σ H Q):PW X e u:=fun wh pins s σ H Q I q=>h wh pins s σ H Q I (w σ H Q q)
theorem PA.weak {X:Cx}{e:List Expr}{t u:TA}(h:PA X e t)(w:∀σ H Q,u σ H Q->t σ H Q):PA X e u:=fun pos pins s σ H Q I q=>h pos pins s σ H Q I (w σ H Q q)
def dr (ρ:Ev):W->Option D
 | .v d=>some d
 | .r i=>match ρ[i]? with
  | some (some (.v d))=>some d
  | some (some w)=>w.own
  | _=>none
 | _=>none
def drs (ρ:Ev):List W->Option (List D)
 | []=>some []
 | w::ws=>(dr ρ w).bind fun d=>(drs ρ ws).map fun ds=>d::ds
section
variable {X:Cx}{P:List (D×V)}{O:Av}{L:List (Option Nat×Addr)}{ρ:Ev}{σ:L2.St}{H H1 H':Hp}{w:W}{d:D}{v:V}
theorem DenW.fz (r:Rep X P O L ρ σ H1)(s:Same H1 H')(h:DenW X.K (AvO O ρ σ) σ H1 H' w v):DenP X.K (AvO O ρ σ) σ H' w.fz v:=by
 cases w with
 | v d=>exact h
 | o d=>
  obtain⟨a,rfl,n,ob⟩:=h;exact W1 (z8 (A6 fun b z=>.inl z) rfl ob) (r.fresh n)
 | r i=>exact h
 | l d=>exact h.elim
theorem DenP.same (s:Same H H'){A:Av}(h:DenP X.K A σ H w v):DenP X.K A σ H' w v:=by
 cases w with
 | v d=>exact J6 s h
 | r i=>exact h
 | _=>exact h.elim
theorem hold (r:Rep X P O L ρ σ H)(h:DenP X.K (AvO O ρ σ) σ H w v):∃P',Rep X P' O L ρ σ H/\∀ρ2 H2,Rep X P' O L ρ2 σ H2->Rep X P O L ρ2 σ H2/\DenP X.K (AvO O ρ2 σ) σ H2 w v:=by
 cases w with
 | v d=>exact⟨(d,v)::P,r.more h,fun ρ2 H2 r2=>⟨r2.less,r2.head⟩⟩
 | r i=>exact⟨P,r,fun ρ2 H2 r2=>⟨r2,h⟩⟩
 | _=>exact h.elim
theorem C4 (r:Rep X P O L ρ σ H)(e:dr ρ w=some d)(h:DenP X.K (AvO O ρ σ) σ H w v):DenR X.K (AvO O ρ σ) H d v:=by
 cases w with
 | v c=>cases e;exact G3 h
 | r i=>
  rw[dr] at e;have h:σ[i]? =some (some v):=h;cases q:ρ[i]? with
  | none=>rw[q] at e;cases e
  | some o=>
   rw[q] at e;cases o with
   | none=>cases e
   | some w'=>
    cases w' with
    | v c=>
     cases e;obtain⟨u,h1,h2⟩:=r.slot i _ q;rw[h1] at h;cases h;exact G3 h2
    | _=>
     obtain⟨a,h1,h2⟩:=r.obj q e;rw[h1] at h;cases h;exact obj_r h2
 | _=>cases e
def DenRL (K:PySem.W.Frag) (A:Av) (H:Hp):List D->List V->Prop
 | [],vs=>vs=[]
 | d::ds,vs=>∃v r,vs=v::r/\DenR K A H d v/\DenRL K A H ds r
theorem a28 (r:Rep X P O L ρ σ H):∀{ws:List W} {ds:List D} {vs:List V},drs ρ ws=some ds->DenA X.K (AvO O ρ σ) σ H ws vs->DenRL X.K (AvO O ρ σ) H ds vs
 | [],ds,vs,e,h=>by cases e;exact h
 | w::ws,ds,vs,e,h=>by
  obtain⟨v,rs,rfl,h1,h2⟩:=h;rw[drs] at e;cases e1:dr ρ w with
  | none=>rw[e1] at e;cases e
  | some d=>
   cases e2:drs ρ ws with
   | none=>rw[e1,e2] at e;cases e
   | some dd=>
    rw[e1,e2] at e;cases e;exact⟨v,rs,rfl,C4 r e1 h1,a28 r e2 h2⟩
end
section
variable {K:PySem.W.Frag}{A:Av}{σ:L2.St}{H H':Hp}
theorem A2 {i:Int}:DenW K A σ H H' (.v (.int i)) (.int i):=by show Den _ _ _ _ _;rw[Den]
theorem C1 {i:Bool}:DenW K A σ H H' (.v (.bl i)) (.bl i):=by show Den _ _ _ _ _;rw[Den]
theorem C9 {i:Str}:DenW K A σ H H' (.v (.str i)) (.str i):=by show Den _ _ _ _ _;rw[Den]
theorem a3B:DenW K A σ H H' (.v .non) .non:=by show Den _ _ _ _ _;rw[Den]
end
def fVar (i:Nat):FX:=fun ρ=>match ρ[i]? with
 | some (some (.v d))=>some (.v d,ρ)
 | some (some (.r _))=>none
 | some (some _)=>some (.r i,ρ)
 | _=>none
def fC (d:D):FX:=fun ρ=>some (.v d,ρ)
section
variable {X:Cx}{a b e:Expr}{pos:Pos}{f g h:FX}{t u:FT}
theorem a7 (i:Nat){x:Str}(hN:X.N[i]? =some x:=by rfl)(hv:Vis X.env.scope x:=by first|exact Or.inl rfl|exact Or.inr (Or.inl rfl)|exact Or.inr (Or.inr rfl))(hd:(x==("__debug__":Str))=false:=by decide)(hcd:(x==("__classdict__":Str))=false:=by decide):QX X (.Name x pos) (fVar i):=by
 refine⟨PE.weak (a39 hN hv hd hcd) fun σ H Q h0=>tXe h0 fun P O L ρ w ρ' r e q=>?_⟩;unfold fVar at e;split at e
 ·rename_i d0 e0;cases e;obtain⟨v,h1,h2⟩:=r.slot i _ e0;exact⟨v,h1,q v H H r (Same.refl H) h2⟩
 ·cases e
 ·rename_i w' _ _ e0;cases e;obtain⟨v,h1,h2⟩:=r.slot i _ e0;exact⟨v,h1,q v H H r (Same.refl H) h1⟩
 ·cases e
theorem a2r {d:D}{v:V}(hd:∀A H,Den X.K A H d v):∀σ H Q,tX X (fC d) σ H Q->tC v σ H Q:=fun σ H Q h0=>tXe h0 fun P O L ρ w ρ' r e q=>by cases e;exact q v H H r (Same.refl H) (hd _ H)
theorem b9 {i:Int}{j:Nat}:QX X (.Constant (.int i) j pos) (fC (.int i)):=⟨PE.weak b17 (a2r fun A H=>B5.mpr rfl)⟩
theorem X9 {i:Bool}{j:Nat}:QX X (.Constant (.bool i) j pos) (fC (.bl i)):=⟨PE.weak pe_bl (a2r fun A H=>a1n.mpr rfl)⟩
theorem L3 {j:Nat}:QX X (.Constant .none j pos) (fC .non):=⟨PE.weak b18 (a2r fun A H=>a5f.mpr rfl)⟩
theorem m6 {i:Str}{j:Nat}:QX X (.Constant (.str i) j pos) (fC (.str i)):=⟨PE.weak b1N (a2r fun A H=>C3.mpr rfl)⟩
def fBin (op:D->D->Option W) (f g:FX):FX:=fun ρ=>(f ρ).bind fun p=>(g p.2).bind fun q=>(dr q.2 p.1.fz).bind fun x=>(dr q.2 q.1.fz).bind fun y=>(op x y).map fun w=>(w,q.2)
def Pr2 (X:Cx) (op:D->D->Option W) (r:R2):Prop:=∀(A:Av) (x y:D) (w:W) (v u:V) (H:Hp) (Q:VK),(∀b,A b->∃o,H b=some o)->op x y=some w->DenR X.K A H x v->DenR X.K A H y u->(∀z H',Same H H'->DenW X.K A [] H H' w z->Q z H')->r v u H Q
theorem DenW.st {K:PySem.W.Frag}{A:Av}{σ:L2.St}{H1 H':Hp}{w:W}{v:V}(h:DenW K A [] H1 H' w v):DenW K A σ H1 H' w v:=by
 cases w with
 | r i=>exact absurd h (by simp[DenW])
 | _=>exact h
theorem V0 {r:R2}{op:D->D->Option W}(k:Pr2 X op r):∀σ H Q,tX X (fBin op f g) σ H Q->tOp r (tX X f) (tX X g) σ H Q:=fun σ H Q h0=>tXe h0 fun P O L ρ w ρ' r e q=>by
 unfold fBin at e;obtain⟨⟨w1,ρ1⟩,e1,e⟩:=obs e;dsimp only at e;refine⟨P,O,L,ρ,w1,ρ1,r,e1,fun v H1 H1' r1 s1 d1=>?_⟩;obtain⟨P',r1',k1⟩:=hold (r1.grow s1) (d1.fz r1 s1);obtain⟨⟨w2,ρ2⟩,e2,e⟩:=obs e;dsimp only at e;refine⟨P',O,L,ρ1,w2,ρ2,r1',e2,fun u H2 H2' r2 s2 d2=>?_⟩;have d2':=d2.fz r2 s2;obtain⟨r3,d1'⟩:=k1 ρ2 H2' (r2.grow s2);cases e3:dr ρ2 w1.fz with
 | none=>rw[e3] at e;cases e
 | some x=>
  cases e4:dr ρ2 w2.fz with
  | none=>rw[e3,e4] at e;cases e
  | some y=>
   rw[e3,e4] at e;simp only[bind_some] at e;cases e5:op x y with
   | none=>rw[e5] at e;cases e
   | some w'=>
    rw[e5] at e;cases e;exact k _ x y w v u H2' Q (fun b z=>r3.there z) e5 (C4 r3 e3 d1') (C4 r3 e4 d2') fun z H' s d=>q z H2' H' r3 s d.st
theorem Q3 {op:Operator}{r:R2}{o:D->D->Option W}(ho:OpR X (binaryOp op) r)(k:Pr2 X o r)(ha:QX X a f)(hb:QX X b g):QX X (.BinOp a op b pos) (fBin o f g):=⟨PE.weak (pe_op ho ha.to hb.to) (V0 k)⟩
theorem a4n {op:CmpOp}{r:R2}{o:D->D->Option W}(ho:OpR X (compareOp op) r)(k:Pr2 X o r)(ha:QX X a f)(hb:QX X b g)(hm:behindInMarks op b=false:=by first|exact nomark _|rfl):QX X (.Compare a [op] [b] pos) (fBin o f g):=⟨PE.weak (a9K ho ha.to hb.to hm) (V0 k)⟩
def fTest (f:FX):FT:=fun ρ=>(f ρ).bind fun p=>match p.1 with|.v (.bl k)=>some (k,p.2)|_=>none
theorem a1w {f:FX}{ρ ρ':Ev}{k:Bool}(e:fTest f ρ=some (k,ρ')):f ρ=some (.v (.bl k),ρ'):=by
 unfold fTest at e;cases q:f ρ with
 | none=>rw[q] at e;cases e
 | some p=>
  rw[q] at e;obtain⟨w,ρ1⟩:=p;simp only[bind_some] at e;split at e
  ·cases e;rfl
  ·cases e
theorem a0l {op:CmpOp}{r:R2}{o:D->D->Option W}(ho:OpR X (compareOp op) r)(k:Pr2 X o r)(ha:QX X a f)(hb:QX X b g)(hm:behindInMarks op b=false:=by first|exact nomark _|rfl):QT X (.Compare a [op] [b] pos) (fTest (fBin o f g)):=by
 refine⟨PT.weak (a9R ho ha.to hb.to hm) fun σ H Q h0=>tTe h0 fun P O L ρ t ρ' r e q=>?_⟩;refine V0 k σ H _ ⟨P,O,L,ρ,_,ρ',r,a1w e,fun v H1 H' r1 s1 d1=>⟨t,?_,q H' (r1.grow s1)⟩⟩;have d1':Den X.K (AvO O ρ' σ) H' (.bl t) v:=d1;exact a1n.mp d1'
def big:Nat:=2^8000
def mOk (i j:Int):Prop:=i.natAbs<2^64\/j.natAbs<2^64\/(i.natAbs<big/\j.natAbs<big)
instance (i j:Int):Decidable (mOk i j):=by unfold mOk;infer_instance
theorem mOk.ok {i j:Int}(m:mOk i j):IntMulOk i j:=by
 rcases m with m|m|⟨m,n⟩
 ·exact .of_left (KE_bits m)
 ·exact .of_right (KE_bits m)
 ·exact .of_bits (zG (KE_bits m) (by decide)) (zG (KE_bits n) (by decide))
where KE_bits {x:Int} {m:Nat} (h:x.natAbs<2^m):Builtin.Int.intBits x<=m:=intBits_le_iff.mpr h
theorem a9f:OpR X (binaryOp .Mult) (rI mOk fun i j=>.int (i*j)):=opI fun _ _ _ _ _ _ _ hc q=>mul_int q hc.ok
def dOk (j:Int):Prop:=0<j/\j.natAbs<big
instance (j:Int):Decidable (dOk j):=by unfold dOk;infer_instance
theorem a9p:OpR X (binaryOp .FloorDiv) (rI (fun _ j=>dOk j) fun i j=>.int (i/j)):=opI fun i j _ _ _ _ _ hc q=>by
 have e:i.fdiv j=i/j:=Int.fdiv_eq_ediv_of_nonneg i (Int.le_of_lt hc.1);refine floordiv_int (Int.ne_of_gt hc.1) (by rw[e];exact q) (.inl (PyProof.noPylong_of_log2 ?_))
 by_cases z:j.natAbs=0
 ·rw[z];decide
 ·exact zF ((Nat.log2_lt z).mpr (show j.natAbs<2^8000 from hc.2)) (by decide)
def oI (C:Int->Int->Prop) [∀i j,Decidable (C i j)] (g:Int->Int->D):D->D->Option W
 | .int i,.int j=>if C i j then some (.v (g i j)) else none
 | _,_=>none
def oI0 (g:Int->Int->D):D->D->Option W
 | .int i,.int j=>some (.v (g i j))
 | _,_=>none
theorem h7 {K:PySem.W.Frag}{A:Av}{H:Hp}{i:Int}{v:V}(h:DenR K A H (.int i) v):v= .int i:=by
 have h:Den K A H (.int i) v:=h;exact B5.mp h
theorem kI {C:Int->Int->Prop} [∀i j,Decidable (C i j)] {g:Int->Int->Int}:Pr2 X (oI C fun i j=>.int (g i j)) (rI C fun i j=>.int (g i j)):=by
 intro A x y w v u H Q _ e hx hy q;cases x<;>cases y<;>simp only[oI] at e<;>try cases e
 rename_i i j;split at e
 ·rename_i hc;cases e;exact⟨i,j,h7 hx,h7 hy,hc,q _ H (Same.refl H) A2⟩
 ·cases e
theorem kI0 {g:Int->Int->Int}:Pr2 X (oI0 fun i j=>.int (g i j)) (rI0 fun i j=>.int (g i j)):=by
 intro A x y w v u H Q _ e hx hy q;cases x<;>cases y<;>simp only[oI0] at e<;>cases e
 rename_i i j;exact⟨i,j,h7 hx,h7 hy,q _ H (Same.refl H) A2⟩
theorem kB0 {g:Int->Int->Bool}:Pr2 X (oI0 fun i j=>.bl (g i j)) (rI0 fun i j=>.bl (g i j)):=by
 intro A x y w v u H Q _ e hx hy q;cases x<;>cases y<;>simp only[oI0] at e<;>cases e
 rename_i i j;exact⟨i,j,h7 hx,h7 hy,q _ H (Same.refl H) C1⟩
abbrev fSub:=fBin (oI0 fun i j=>.int (i-j))
abbrev fMul:=fBin (oI mOk fun i j=>.int (i*j))
abbrev fDiv:=fBin (oI (fun _ j=>dOk j) fun i j=>.int (i/j))
abbrev fMod:=fBin (oI (fun _ j=>0<j) fun i j=>.int (i%j))
instance (i j:Int):Decidable (CPow i j):=by unfold CPow;infer_instance
abbrev fPow:=fBin (oI CPow fun i j=>.int (i^j.toNat))
theorem a2P (ha:QX X a f)(hb:QX X b g):QX X (.BinOp a .Sub b pos) (fSub f g):=Q3 b1w kI0 ha hb
theorem K9 (ha:QX X a f)(hb:QX X b g):QX X (.BinOp a .Mult b pos) (fMul f g):=Q3 a9f kI ha hb
theorem a4s (ha:QX X a f)(hb:QX X b g):QX X (.BinOp a .FloorDiv b pos) (fDiv f g):=Q3 a9p kI ha hb
theorem S9 (ha:QX X a f)(hb:QX X b g):QX X (.BinOp a .Mod b pos) (fMod f g):=Q3 b1t kI ha hb
theorem Z9 (ha:QX X a f)(hb:QX X b g):QX X (.BinOp a .Pow b pos) (fPow f g):=Q3 b2a kI ha hb
abbrev oLt:=oI0 fun i j=>.bl (decide (i<j))
abbrev oLe:=oI0 fun i j=>.bl (decide (i<=j))
abbrev oGt:=oI0 fun i j=>.bl (decide (j<i))
abbrev oGe:=oI0 fun i j=>.bl (decide (j<=i))
theorem a44 (ha:QX X a f)(hb:QX X b g):QT X (.Compare a [.Gt] [b] pos) (fTest (fBin oGt f g)):=a0l op_gt kB0 ha hb
theorem b0k (ha:QX X a f)(hb:QX X b g):QT X (.Compare a [.GtE] [b] pos) (fTest (fBin oGe f g)):=a0l op_ge kB0 ha hb
def lim:Nat:=1000000
theorem k8:lim<=sizeLine:=by unfold lim;rw[jI];decide
theorem g9 {H:Hp}{p:Addr}(h:H p=none)(o:HO):Same H (upd H p o):=fun b u q=>by rw[g5 (l5 q h)];exact q
theorem z9 {K:PySem.W.Frag}{A:Av}{σ:L2.St}{H:Hp}{p:Addr}{xs:List D}{vs:List V}(hp:H p=none)(l:DenL K A H xs vs):DenW K A σ H (upd H p (.lst vs)) (.o (.lst xs)) (.ref p):=
 ⟨p,rfl,hp,vs,m9,v7 (M:=fun _=>False) ⟨fun b o q _=>g9 hp _ b o q,fun _ z=>z.elim,fun b z=>z.imp id fun z=>by rw[z];exact hp⟩ _ _ l⟩
theorem F0 {K:PySem.W.Frag}{A:Av}{σ:L2.St}{H H0:Hp}{p:Addr}{xs:List D}{vs:List V}(hp:H p=none)(l:DenL K A H xs vs):DenW K A σ H0 (upd H p (.tup vs)) (.v (.tup xs)) (.ref p):=by
 show Den _ _ _ _ _;rw[Den];exact⟨p,vs,rfl,.inl (.inl m9),a5T (g9 hp _) l⟩
theorem a9w:OpR X (binaryOp .Add) (fun x y H Q=>∃l b xs zs,x= .ref l/\y= .ref b/\SqL X.K H l xs/\SqL X.K H b zs/\xs.length+zs.length<=sizeLine/\∀p,H p=none->Q (.ref p) (upd H p (.lst (xs++zs)))):=by
 intro pins s σ H x y v u Q I rx ry h;obtain⟨l,b,xs,zs,rfl,rfl,hH,hB,hz,q⟩:=h;cases rx;cases ry;obtain⟨its,r,⟨⟨c1,d1,e1,s1⟩,n1,g1,k1,_,w1⟩,_⟩:=I.list hH;obtain⟨its2,r2,⟨⟨c2,d2,e2,s2⟩,n2,g2,k2,_,w2⟩,_⟩:=I.list hB;simp only at k1 w1 k2 w2;subst k1 w1 k2 w2;have l1:=r.length;have l2:=r2.length;refine concat_meets ⟨_,g1,rfl⟩ ⟨_,g2,rfl⟩ noFill_list_add seq_list_add PySem.F.slot_list_add PySem.F.entry_list_add (PySem.F.args_list_add_2 _ _) (list_addW l b its.toArray its2.toArray n1 n2 d1 d2 s1 s2 (by rw[zU,zU];walk_at "o")) ⟨g1,g2,?_⟩
 have ea:its.toArray++its2.toArray=(its++its2).toArray:=by simp
 rw[ea];exact⟨.ref _,_,I.lnew (t':=s.toks) (r.append r2) (by rw[qE];walk_at "o"),rfl,q _ I.fresh⟩
def oCat (xs ys:List D):Option W:=if xs.length+ys.length<=lim then some (.o (.lst (xs++ys))) else none
def oAdd:D->D->Option W
 | .int i,.int j=>some (.v (.int (i+j)))
 | .lst xs,.lst ys=>oCat xs ys
 | .tup xs,.tup ys=>if xs≠[]/\xs.length+ys.length<=lim then some (.v (.tup (xs++ys))) else none
 | _,_=>none
theorem u9 (ha:QX X a f)(hb:QX X b g):QX X (.BinOp a .Add b pos) (fBin oAdd f g):=Q3 (b14.or (a9w.or a5s)) (by
 intro A x y w v u H Q _ e hx hy q;cases x<;>cases y<;>simp only[oAdd] at e<;>try cases e
 ·rename_i i j;exact .inl ⟨i,j,h7 hx,h7 hy,q _ H (Same.refl H) A2⟩
 ·rename_i xs ys;split at e
  ·rename_i hl;cases e;have hx:Den X.K A H (.tup xs) v:=hx;have hy:Den X.K A H (.tup ys) u:=hy;rw[Den] at hx hy;obtain⟨a,vs,ev,ha,la⟩:=hx;obtain⟨b,us,eu,hb,lb⟩:=hy;refine .inr (.inr ⟨a,b,vs,us,ev,eu,ha,hb,fun z=>?_,?_,fun z=>?_,fun _ p hp=>q _ _ (g9 hp _) (F0 hp (t7 la lb))⟩)
   rotate_left 2
   ·subst z;have z:ys=[]:=xO.mp (c5 lb);subst z;refine q _ H (Same.refl H) ?_;show Den _ _ _ _ _;rw[append_nil,Den];exact⟨a,vs,rfl,ha,la⟩
   ·subst z;exact hl.1 (xO.mp (c5 la))
   ·rw[<-c5 la,<-c5 lb];exact zG hl.2 k8
  ·cases e
 ·rename_i xs ys;unfold oCat at e;split at e
  ·rename_i hl;cases e;obtain⟨a,vs,ev,ha,la⟩:=hx;obtain⟨b,us,eu,hb,lb⟩:=hy;refine .inr (.inl ⟨a,b,vs,us,ev,eu,ha,hb,?_,fun p hp=>q _ _ (g9 hp _) (z9 hp (t7 la lb))⟩);rw[<-c5 la,<-c5 lb];exact zG hl k8
  ·cases e) ha hb
def fUn (op:D->Option W) (f:FX):FX:=fun ρ=>(f ρ).bind fun p=>(dr p.2 p.1.fz).bind fun x=>(op x).map fun w=>(w,p.2)
def Pr1 (X:Cx) (op:D->Option W) (r:V->Hp->VK->Prop):Prop:=∀(A:Av) (x:D) (w:W) (v:V) (H:Hp) (Q:VK),(∀b,A b->∃o,H b=some o)->op x=some w->DenR X.K A H x v->(∀z H',Same H H'->DenW X.K A [] H H' w z->Q z H')->r v H Q
theorem a5u {r:V->Hp->VK->Prop}{op:D->Option W}(k:Pr1 X op r):∀σ H Q,tX X (fUn op f) σ H Q->tUn r (tX X f) σ H Q:=fun σ H Q h0=>tXe h0 fun P O L ρ w ρ' r e q=>by
 unfold fUn at e;obtain⟨⟨w1,ρ1⟩,e1,e⟩:=obs e;dsimp only at e;refine⟨P,O,L,ρ,w1,ρ1,r,e1,fun v H1 H1' r1 s1 d1=>?_⟩;have r3:=r1.grow s1;cases e3:dr ρ1 w1.fz with
 | none=>rw[e3] at e;cases e
 | some x=>
  rw[e3] at e;simp only[bind_some] at e;cases e5:op x with
  | none=>rw[e5] at e;cases e
  | some w'=>
   rw[e5] at e;cases e;exact k _ x w v H1' Q (fun b z=>r3.there z) e5 (C4 r3 e3 (d1.fz r1 s1)) fun z H' s d=>q z H1' H' r3 s d.st
def oNeg:D->Option W
 | .int i=>some (.v (.int (-i)))
 | _=>none
theorem b1k (ha:QX X a f):QX X (.UnaryOp .USub a pos) (fUn oNeg f):=⟨PE.weak (pe_un b1q ha.to) (a5u fun A x w v H Q _ e hx q=>by
 cases x<;>simp only[oNeg] at e<;>cases e
 rename_i i
 exact⟨i,h7 hx,q _ H (Same.refl H) A2⟩)⟩
end
section
variable {X:Cx}{a b c e:Expr}{pos:Pos}{f g h:FX}{t u:FT}{fa:FA}{es rest:List Expr}
def truth:D->Option Bool
 | .non=>some false
 | .bl b=>some b
 | .int i=>some (!decide (i=0))
 | .tup xs=>some (!xs.isEmpty)
 | .lst xs=>some (!xs.isEmpty)
 | .dK ks _=>some (!ks.isEmpty)
 | _=>none
def fTru (f:FX):FT:=fun ρ=>(f ρ).bind fun p=>(dr p.2 p.1.fz).bind fun d=>(truth d).map fun k=>(k,p.2)
theorem a1c {K:PySem.W.Frag}{A:Av}{H:Hp}{xs:List D}{vs:List V}(l:DenL K A H xs vs):(!xs.isEmpty)= !vs.isEmpty:=by
 have:=c5 l
 cases xs<;>cases vs<;>simp_all
theorem a5m {K:PySem.W.Frag}{A:Av}{H:Hp}{d:D}{v:V}{k:Bool}(e:truth d=some k)(h:DenR K A H d v):TruV K v H k:=by
 cases d with
 | non=>cases e;have h:Den K A H .non v:=h;rw[Den] at h;subst h;rfl
 | bl b=>cases e;have h:Den K A H (.bl k) v:=h;rw[Den] at h;subst h;rfl
 | int i=>cases e;have h:Den K A H (.int i) v:=h;rw[Den] at h;subst h;rfl
 | tup xs=>cases e;have h:Den K A H (.tup xs) v:=h;rw[Den] at h;obtain⟨a,vs,rfl,hq,l⟩:=h;exact .inr (.inl ⟨vs,hq,a1c l⟩)
 | lst xs=>cases e;obtain⟨a,vs,rfl,hq,l⟩:=h;exact .inl ⟨vs,hq,a1c l⟩
 | dK ks xs=>
  cases e;obtain⟨a,vs,rfl,hq,hl,l⟩:=h;refine .inr (.inr ⟨_,hq,?_⟩)
  have:=c5 l
  cases ks<;>cases vs<;>cases xs<;>simp_all
 | _=>cases e
theorem z7 (ha:QX X a f)(he:∀whole,isTrue a X.env whole=(do let v <-whole;standAt a.pos;holding [v] (truthy v)):=by intro _;rfl):QT X a (fTru f):=⟨PT.weak (a8G ha.to he) fun σ H Q h0=>tTe h0 fun P O L ρ k ρ' r e q=>by
 unfold fTru at e;obtain⟨⟨w,ρ1⟩,e1,e⟩:=obs e;dsimp only at e;cases e2:dr ρ1 w.fz with
 | none=>rw[e2] at e;cases e
 | some d=>
  rw[e2] at e;simp only[bind_some] at e;cases e3:truth d with
  | none=>rw[e3] at e;cases e
  | some k'=>
   rw[e3] at e;cases e
   exact⟨P,O,L,ρ,w,_,r,e1,fun v H1 H' r1 s1 d1=>⟨k,a5m e3 (C4 (r1.grow s1) e2 (d1.fz r1 s1)),q H' (r1.grow s1)⟩⟩⟩
def fNot (t:FT):FT:=fun ρ=>(t ρ).map fun p=>(!p.1,p.2)
theorem C7 (ha:QT X a t):QT X (.UnaryOp .Not a pos) (fNot t):=⟨PT.weak (L2.b1m ha.to) fun σ H Q h0=>tTe h0 fun P O L ρ k ρ' r e q=>by
 unfold fNot at e;cases e1:t ρ with
 | none=>rw[e1] at e;cases e
 | some p=>rw[e1] at e;obtain⟨k1,ρ1⟩:=p;cases e;exact⟨P,O,L,ρ,k1,_,r,e1,q⟩⟩
def fAnd (t u:FT):FT:=fun ρ=>(t ρ).bind fun p=>if p.1=true then u p.2 else some (false,p.2)
def fOr (t u:FT):FT:=fun ρ=>(t ρ).bind fun p=>if p.1=true then some (true,p.2) else u p.2
theorem a5p (ha:QT X a t):QW X (.BoolOp .And [a] pos) t:=⟨pw_and1 ha.to⟩
theorem G7 (ha:QT X a t):QW X (.BoolOp .Or [a] pos) t:=⟨pw_or1 ha.to⟩
theorem a63 (ha:QT X a t)(hb:QW X (.BoolOp .And (b::rest) pos) u):QW X (.BoolOp .And (a::b::rest) pos) (fAnd t u):=⟨PW.weak (pw_and ha.to hb.to) fun σ H Q h0=>tTe h0 fun P O L ρ k ρ' r e q=>by
 unfold fAnd at e;obtain⟨⟨k1,ρ1⟩,e1,e⟩:=obs e;dsimp only at e;refine⟨P,O,L,ρ,k1,ρ1,r,e1,fun H' r'=>?_⟩;cases k1 with
 | true=>rw[if_pos rfl] at e ⊢;exact⟨P,O,L,ρ1,k,ρ',r',e,q⟩
 | false=>rw[if_neg zS] at e ⊢;cases e;exact q H' r'⟩
theorem D2 (ha:QT X a t)(hb:QW X (.BoolOp .Or (b::rest) pos) u):QW X (.BoolOp .Or (a::b::rest) pos) (fOr t u):=⟨PW.weak (pw_or ha.to hb.to) fun σ H Q h0=>tTe h0 fun P O L ρ k ρ' r e q=>by
 unfold fOr at e;obtain⟨⟨k1,ρ1⟩,e1,e⟩:=obs e;dsimp only at e;refine⟨P,O,L,ρ,k1,ρ1,r,e1,fun H' r'=>?_⟩;cases k1 with
 | true=>rw[if_pos rfl] at e ⊢;cases e;exact q H' r'
 | false=>rw[if_neg zS] at e ⊢;exact⟨P,O,L,ρ1,k,ρ',r',e,q⟩⟩
theorem M2 (ha:QW X a t):QT X a t:=⟨PW.pt ha.to⟩
theorem Z6 {op}(ha:QX X a f):QX X (.BoolOp op [a] pos) f:=⟨b1u ha.to⟩
def fAndV (f g:FX):FX:=fun ρ=>(fTest f ρ).bind fun p=>if p.1=true then g p.2 else some (.v (.bl false),p.2)
def fOrV (f g:FX):FX:=fun ρ=>(fTest f ρ).bind fun p=>if p.1=true then some (.v (.bl true),p.2) else g p.2
def fNotV (f:FX):FX:=fun ρ=>(fTest f ρ).map fun p=>(.v (.bl (!p.1)),p.2)
theorem T8 {K:PySem.W.Frag}{A:Av}{σ:L2.St}{H H':Hp}{k:Bool}{v:V}(h:DenW K A σ H H' (.v (.bl k)) v):v= .bl k:=by
 have h:Den K A H' (.bl k) v:=h;exact a1n.mp h
theorem a0g (ha:QX X a f)(hb:QX X (.BoolOp .And (b::rest) pos) g):QX X (.BoolOp .And (a::b::rest) pos) (fAndV f g):=⟨PE.weak (b1Z ha.to hb.to) fun σ H Q h0=>tXe h0 fun P O L ρ w ρ' r e q=>by
 unfold fAndV at e;obtain⟨⟨k,ρ1⟩,e1,e⟩:=obs e;dsimp only at e;refine⟨P,O,L,ρ,_,ρ1,r,a1w e1,fun v H1 H' r1 s1 d1=>⟨k,T8 d1,?_⟩⟩;cases k with
 | true=>rw[if_pos rfl] at e ⊢;exact⟨P,O,L,ρ1,w,ρ',r1.grow s1,e,q⟩
 | false=>rw[if_neg zS] at e ⊢;cases e;exact q _ H' H' (r1.grow s1) (Same.refl _) C1⟩
def fIf (t:FT) (f g:FX):FX:=fun ρ=>(t ρ).bind fun p=>if p.1=true then f p.2 else g p.2
theorem a3N (hc:QT X c t)(ha:QX X a f)(hb:QX X b g):QX X (.IfExp c a b pos) (fIf t f g):=⟨PE.weak (a66 hc.to ha.to hb.to) fun σ H Q h0=>tXe h0 fun P O L ρ w ρ' r e q=>by
 unfold fIf at e;obtain⟨⟨k,ρ1⟩,e1,e⟩:=obs e;dsimp only at e;refine⟨P,O,L,ρ,k,ρ1,r,e1,fun H' r'=>?_⟩;cases k with
 | true=>rw[if_pos rfl] at e ⊢;exact⟨P,O,L,ρ1,w,ρ',r',e,q⟩
 | false=>rw[if_neg zS] at e ⊢;exact⟨P,O,L,ρ1,w,ρ',r',e,q⟩⟩
def fNil:FA:=fun ρ=>some ([],ρ)
def fCons (f:FX) (fa:FA):FA:=fun ρ=>(f ρ).bind fun p=>(fa p.2).map fun q=>(p.1.fz::q.1,q.2)
theorem a9:QA X [] fNil:=⟨PA.weak a0T fun σ H Q h0=>tAe h0 fun P O L ρ ws ρ' r e q=>by cases e;exact q [] H r rfl⟩
theorem a8 (ha:QX X e f)(hr:QA X es fa)(hs:starEach (e::es) X.env=(false,eval e X.env)::starEach es X.env:=by rfl):QA X (e::es) (fCons f fa):=⟨PA.weak (Y5 ha.to hr.to hs) fun σ H Q h0=>tAe h0 fun P O L ρ ws ρ' r e q=>by
 unfold fCons at e;obtain⟨⟨w,ρ1⟩,e1,e⟩:=obs e;dsimp only at e;obtain⟨⟨ws2,ρ2⟩,e2,e⟩:=oms e;cases e;refine⟨P,O,L,ρ,w,ρ1,r,e1,fun v H1 H' r1 s1 d1=>?_⟩;obtain⟨P',r1',k1⟩:=hold (r1.grow s1) (d1.fz r1 s1);refine⟨P',O,L,ρ1,ws2,_,r1',e2,fun vs H2 r2 l2=>?_⟩;obtain⟨r3,d3⟩:=k1 _ H2 r2
 exact q _ H2 r3 ⟨v,vs,rfl,d3,l2⟩⟩
def takeAll:Ev->List W->Option (List D×Ev)
 | ρ,[]=>some ([],ρ)
 | ρ,.v d::ws=>(takeAll ρ ws).map fun p=>(d::p.1,p.2)
 | ρ,.r i::ws=>(frzAt ρ i).bind fun ρ1=>match ρ1[i]? with
  | some (some (.v d))=>(takeAll ρ1 ws).map fun p=>(d::p.1,p.2)
  | _=>none
 | _,_=>none
theorem a4w {ρ ρ':Ev}{σ:L2.St}{O:Av}(h:∀(j:Nat) (w:W) (d:D),ρ'[j]? =some (some w)->w.own=some d->ρ[j]? =some (some w)):∀b,AvO O ρ' σ b->AvO O ρ σ b:=fun b z=>z.imp id fun⟨j,w,d,e1,e2,e3⟩=>⟨j,w,d,h j w d e1 e2,e2,e3⟩
theorem o6 {P:List (D×V)}{O:Av}{L:List (Option Nat×Addr)}{σ:L2.St}{H:Hp}:∀{ws:List W} {ds:List D} {vs:List V} {ρ ρ':Ev},Rep X P O L ρ σ H->takeAll ρ ws=some (ds,ρ')->DenA X.K (AvO O ρ σ) σ H ws vs->
  Rep X P O L ρ' σ H/\DenL X.K (AvO O ρ' σ) H ds vs/\∀(j:Nat) (w:W) (d:D),ρ'[j]? =some (some w)->w.own=some d->ρ[j]? =some (some w)
 | [],ds,vs,ρ,ρ',r,e,h=>by cases e;have h:vs=[]:=h;subst h;exact⟨r,j3,fun j w d e _=>e⟩
 | .v d::ws,ds,vs,ρ,ρ',r,e,h=>by
  obtain⟨v,rs,rfl,h1,h2⟩:=h;rw[takeAll] at e;obtain⟨⟨ds1,ρ1⟩,e1,e⟩:=oms e;cases e;obtain⟨r1,l1,k1⟩:=o6 r e1 h2;exact⟨r1,i0 (m7 (A6 (a4w k1)) _ _ h1) l1,k1⟩
 | .r i::ws,ds,vs,ρ,ρ',r,e,h=>by
  obtain⟨v,rs,rfl,h1,h2⟩:=h;have h1:σ[i]? =some (some v):=h1;rw[takeAll] at e;cases e0:frzAt ρ i with
  | none=>rw[e0] at e;cases e
  | some ρ1=>
   rw[e0] at e;simp only[bind_some] at e;obtain⟨r1,k1⟩:=r.frz e0;split at e
   ·rename_i d q;obtain⟨⟨ds1,ρ2⟩,e1,e⟩:=oms e;cases e;have go1:∀{ws:List W} {vs:List V},DenA X.K (AvO O ρ σ) σ H ws vs->DenA X.K (AvO O ρ1 σ) σ H ws vs:=fun{ws}=>by
     induction ws with
     | nil=>exact fun h=>h
     | cons w ws ih=>
      intro vs h;obtain⟨v,rs,rfl,h1,h2⟩:=h;refine⟨v,rs,rfl,?_,ih h2⟩;cases w with
      | v d=>exact m7 (A6 (a4w fun j w d e1 e2=>(k1 j w d e1 e2).1)) _ _ h1
      | _=>exact h1
    obtain⟨r2,l2,k2⟩:=o6 r1 e1 (go1 h2);obtain⟨u,q1,q2⟩:=r1.slot i _ q;rw[h1] at q1;cases q1;have q2:Den X.K (AvO O ρ1 σ) H d v:=q2;exact⟨r2,i0 (m7 (A6 (a4w k2)) _ _ q2) l2,fun j w d e1 e2=>(k1 j w d (k2 j w d e1 e2) e2).1⟩
   ·cases e
 | .o _::ws,ds,vs,ρ,ρ',r,e,h=>by rw[takeAll] at e<;>first|cases e|(intros;nofun)
 | .l _::ws,ds,vs,ρ,ρ',r,e,h=>by rw[takeAll] at e<;>first|cases e|(intros;nofun)
def fTup (fa:FA):FX:=fun ρ=>(fa ρ).bind fun p=>(takeAll p.2 p.1).bind fun q=>if q.1.length<=lim then some (.v (.tup q.1),q.2) else none
def fLst (fa:FA):FX:=fun ρ=>(fa ρ).bind fun p=>(takeAll p.2 p.1).bind fun q=>if q.1.length<=lim then some (.o (.lst q.1),q.2) else none
theorem a18 {mk:List D->W}{σ:L2.St}{H:Hp}{Q:VK}{R:List V->Hp->Prop}(hq:∀(A:Av) (ds:List D) (vs:List V) (H:Hp),(∀v H',Same H H'->DenW X.K A σ H H' (mk ds) v->Q v H')->vs.length<=sizeLine->DenL X.K A H ds vs->R vs H)
  (h:tX X (fun ρ=>(fa ρ).bind fun p=>(takeAll p.2 p.1).bind fun q=>if q.1.length<=lim then some (mk q.1,q.2) else none) σ H Q):tA X fa σ H R:=by
 obtain⟨P,O,L,ρ,w,ρ',r,e,q⟩:=h;dsimp only at e;obtain⟨⟨ws,ρ1⟩,e1,e⟩:=obs e;dsimp only at e;obtain⟨⟨ds,ρ2⟩,e2,e⟩:=obs e;dsimp only at e;split at e
 ·rename_i hl;cases e;refine⟨P,O,L,ρ,ws,ρ1,r,e1,fun vs H1 r1 l1=>?_⟩;obtain⟨r2,l2,_⟩:=o6 r1 e2 l1;exact hq _ ds vs H1 (fun v H' s d=>q v H1 H' r2 s d) (by rw[<-c5 l2];exact zG hl k8) l2
 ·cases e
theorem C0 {k:Nat}(ha:QA X es fa):QX X (.Tuple es k pos) (fTup fa):=⟨PE.weak (a7M ha.to) fun σ H Q h=>a18 (mk:=fun ds=>.v (.tup ds)) (fun A ds vs H q hl l=>⟨hl,fun p hp=>q _ _ (g9 hp _) (F0 hp l)⟩) h⟩
theorem D1 (ha:QA X es fa):QX X (.List es pos) (fLst fa):=⟨PE.weak (a4a ha.to) fun σ H Q h=>a18 (mk:=fun ds=>.o (.lst ds)) (fun A ds vs H q hl l=>⟨hl,fun p hp=>q _ _ (g9 hp _) (z9 hp l)⟩) h⟩
def items:D->Option (List D)
 | .tup xs=>some xs
 | .lst xs=>some xs
 | _=>none
theorem a0c {K:PySem.W.Frag}{A:Av}{H:Hp}{d:D}{xs:List D}{v:V}(e:items d=some xs)(h:DenR K A H d v):∃a vs,v= .ref a/\(SqL K H a vs\/SqT K H a vs)/\DenL K A H xs vs:=by
 cases d<;>simp only[items] at e<;>cases e
 ·have h:Den K A H (.tup xs) v:=h;rw[Den] at h;obtain⟨a,vs,e,hq,l⟩:=h;exact⟨a,vs,e,.inr hq,l⟩
 ·obtain⟨a,vs,e,hq,l⟩:=h;exact⟨a,vs,e,.inl hq,l⟩
def strAt (x:Str) (i:Int):Option W:=if x.length<=lim then(atI x.cps.toList i).map fun c=>.v (.str ⟨#[c]⟩) else none
def oIx (x y:D):Option W:=match x,y with
 | .str x,.int i=>strAt x i
 | x,.int i=>(items x).bind fun xs=>(atI xs i).map .v
 | _,_=>none
theorem a9C {K:PySem.W.Frag}{A:Av}{H:Hp}{xs:List D}{vs:List V}{i:Int}{d:D}(l:DenL K A H xs vs)(e:atI xs i=some d):∃v,atI vs i=some v/\Den K A H d v:=by
 unfold atI at e ⊢;rw[<-c5 l];cases q:ixN xs.length i with
 | none=>rw[q] at e;cases e
 | some j=>rw[q] at e;exact A1 l e
theorem k_ix:Pr2 X oIx (rIx X.K):=by
 intro A x y w v u H Q _ e hx hy q;unfold oIx at e;split at e
 ·rename_i z i;unfold strAt at e;split at e
  ·rename_i hl;obtain⟨ch,e1,e⟩:=oms e;cases e;have hx:Den X.K A H (.str z) v:=hx;exact .inr (.inr ⟨z,i,ch,C3.mp hx,h7 hy,zG hl k8,e1,q _ H (Same.refl H) C9⟩)
  ·cases e
 ·rename_i i _;cases e1:items x with
  | none=>rw[e1] at e;cases e
  | some xs=>
   rw[e1] at e;simp only[bind_some] at e;obtain⟨d,e2,e⟩:=oms e;cases e;obtain⟨a,vs,rfl,hq,l⟩:=a0c e1 hx;obtain⟨v',h1,h2⟩:=a9C l e2;rcases hq with hq|hq
   ·exact .inl ⟨a,vs,i,v',rfl,h7 hy,hq,h1,q _ H (Same.refl H) h2⟩
   ·exact .inr (.inl ⟨a,vs,i,v',rfl,h7 hy,hq,h1,q _ H (Same.refl H) h2⟩)
 ·cases e
def fCall (k:List D->Option W) (fa:FA):FX:=fun ρ=>(fa ρ).bind fun p=>(drs p.2 p.1).bind fun ds=>(k ds).map fun w=>(w,p.2)
def PrA (X:Cx) (k:List D->Option W) (r:List V->Hp->VK->Prop):Prop:=∀(A:Av) (ds:List D) (w:W) (vs:List V) (H:Hp) (Q:VK),(∀b,A b->∃o,H b=some o)->k ds=some w->DenRL X.K A H ds vs->(∀z H',Same H H'->DenW X.K A [] H H' w z->Q z H')->r vs H Q
theorem a19 {r:List V->Hp->VK->Prop}{k:List D->Option W}(hk:PrA X k r):∀σ H Q,tX X (fCall k fa) σ H Q->tCB r (tA X fa) σ H Q:=fun σ H Q h0=>tXe h0 fun P O L ρ w ρ' r e q=>by
 unfold fCall at e;obtain⟨⟨ws,ρ1⟩,e1,e⟩:=obs e;dsimp only at e;cases e2:drs ρ1 ws with
 | none=>rw[e2] at e;cases e
 | some ds=>
  rw[e2] at e;simp only[bind_some] at e;cases e3:k ds with
  | none=>rw[e3] at e;cases e
  | some w'=>
   rw[e3] at e;cases e;exact⟨P,O,L,ρ,ws,ρ',r,e1,fun vs H1 r1 l1=>hk _ ds w vs H1 Q (fun b z=>r1.there z) e3 (a28 r1 e2 l1) fun z H2 s2 d2=>q z H1 H2 r1 s2 d2.st⟩
theorem a00 {x:Str}{p:Pos}{id:String}{r:List V->Hp->VK->Prop}{k:List D->Option W}(hc:CallR X (.builtin id) r)(hk:PrA X k r)(hv:bootBuiltins x=some (.builtin id))(hm:X.mg x=none)(ha:QA X (e::es) fa)(hg:Gl X x)(hn:x≠"__name__")(hdb:(x==("__debug__":Str))=false)
  (he:starEach (e::es) X.env=(false,eval e X.env)::starEach es X.env) (hpl:(backTo pos (starEach es X.env)).any (·.1)=false):QX X (.Call (.Name x p) (e::es) [] pos) (fCall k fa):=⟨PE.weak (a3O hc hg hm hv ha.to hn hdb he hpl) (a19 hk)⟩
theorem a3W {x:Str}{p:Pos}{T:String}{r:List V->Hp->VK->Prop}{k:List D->Option W}(hc:CallR X (.type T) r)(hk:PrA X k r)(hv:bootBuiltins x=some (.type T))(hm:X.mg x=none)(ha:QA X (e::es) fa)(hg:Gl X x)(hn:x≠"__name__")(hdb:(x==("__debug__":Str))=false)
  (he:starEach (e::es) X.env=(false,eval e X.env)::starEach es X.env) (hpl:(backTo pos (starEach es X.env)).any (·.1)=false):QX X (.Call (.Name x p) (e::es) [] pos) (fCall k fa):=⟨PE.weak (a5Z hc hg hm hv ha.to hn hdb he hpl) (a19 hk)⟩
theorem denRL1 {K:PySem.W.Frag}{A:Av}{H:Hp}{d:D}{vs:List V}(l:DenRL K A H [d] vs):∃v,vs=[v]/\DenR K A H d v:=by
 obtain⟨v,r,rfl,h,l⟩:=l;have l:r=[]:=l;subst l;exact⟨v,rfl,h⟩
theorem denRL2 {K:PySem.W.Frag}{A:Av}{H:Hp}{d d':D}{vs:List V}(l:DenRL K A H [d,d'] vs):∃v v',vs=[v,v']/\DenR K A H d v/\DenR K A H d' v':=by
 obtain⟨v,r,rfl,h,l⟩:=l;obtain⟨v',rfl,h'⟩:=denRL1 l;exact⟨v,v',rfl,h,h'⟩
end
inductive R where
 | nx (ρ:Ev)|bk (ρ:Ev)|ct (ρ:Ev)|rt (w:W) (ρ:Ev)
abbrev FS:=Ev->Option R
abbrev A0 (O:Av) (L:List (Option Nat×Addr)):Av:=fun b=>O b\/∃i:Nat,(some i,b)∈L
def EndsOk (X:Cx) (P:List (D×V)) (O:Av) (L:List (Option Nat×Addr)) (E:Ends):R->Prop
 | .nx ρ=>∀σ H,Rep X P O L ρ σ H->E.nx σ H
 | .bk ρ=>∀σ H,Rep X P O L ρ σ H->E.bk σ H
 | .ct ρ=>∀σ H,Rep X P O L ρ σ H->E.ct σ H
 | .rt w ρ=>∀v H,(∀b o,X.H₀ b=some o->(∀i,(i,b)∉L)->H b=some o)->(∀(i:Nat) b,(some i,b)∈L->∃c,ownAt ρ i=some c/\Obj X.K (A0 O L) H b c)->DenW X.K (A0 O L) [] (hz X L) H w v->E.rt v H
def tS (X:Cx) (F:FS):TS:=fun E σ H=>∃P O L ρ r,Rep X P O L ρ σ H/\F ρ=some r/\EndsOk X P O L E r
theorem tSe {X:Cx}{F:FS}{E:Ends}{σ:L2.St}{H:Hp}{C:Prop}(h:tS X F E σ H)(k:∀P O L ρ r,Rep X P O L ρ σ H->F ρ=some r->EndsOk X P O L E r->C):C:=by
 obtain⟨P,O,L,ρ,r,rp,e,q⟩:=h;exact k P O L ρ r rp e q
structure QS (X:Cx) (st:Stmt) (F:FS):Prop where
 to:PS X st (tS X F)
structure QSs (X:Cx) (st:List Stmt) (F:FS):Prop where
 to:PSs X st (tS X F)
theorem PS.weak {X:Cx}{e:Stmt}{t u:TS}(h:PS X e t)(w:∀E σ H,u E σ H->t E σ H):PS X e u:=fun pins s σ H E I q=>h pins s σ H E I (w E σ H q)
theorem PSs.weak {X:Cx}{e:List Stmt}{t u:TS}(h:PSs X e t)(w:∀E σ H,u E σ H->t E σ H):PSs X e u:=fun pins s σ H E I q=>h pins s σ H E I (w E σ H q)
def fThen (F G:FS):FS:=fun ρ=>(F ρ).bind fun r=>match r with
 | .nx ρ'=>G ρ'
 | r=>some r
section
variable {X:Cx}{P:List (D×V)}{O:Av}{L:List (Option Nat×Addr)}{ρ ρ':Ev}{σ:L2.St}{H H1 H':Hp}{w:W}{d:D}{v:V}
theorem Rep.a0 (r:Rep X P O L ρ σ H){b:Addr}(z:A0 O L b):AvO O ρ σ b:=z.imp id fun⟨i,z⟩=>by
 obtain⟨d,h1,h2⟩:=r.lnd i b z;exact⟨i,_,d,h1,rfl,h2⟩
theorem Rep.lents (r:Rep X P O L ρ σ H):∀(i:Nat) b,(some i,b)∈L->∃c,ownAt ρ i=some c/\Obj X.K (A0 O L) H b c:=fun i b z=>by
 obtain⟨d,h1,h2⟩:=r.lnd i b z;obtain⟨a,h3,h4⟩:=r.obj h1 rfl;rw[h2] at h3;cases h3;exact⟨d,by unfold ownAt;rw[h1];rfl,z8 (A6 fun b z=>r.a0 z) rfl h4⟩
def bindW (ρ:Ev) (i:Nat):W->Option Ev
 | .v d=>if freeSlot ρ i=true then some (ρ.set i (some (.v d))) else none
 | .o d=>if freeSlot ρ i=true then some (ρ.set i (some (.o d))) else none
 | .r j=>(frzAt ρ j).bind fun ρ1=>match ρ1[j]? with
  | some (some (.v d))=>if freeSlot ρ1 i=true then some (ρ1.set i (some (.v d))) else none
  | _=>none
 | .l _=>none
theorem a4W {i:Nat}(r:Rep X P O L ρ σ H1)(s:Same H1 H')(h:DenW X.K (AvO O ρ σ) σ H1 H' w v)(e:bindW ρ i w=some ρ'):Rep X P O L ρ' (σ.set i (some v)) H':=by
 cases w with
 | v d=>
  rw[bindW] at e;split at e
  ·rename_i hf;cases e;exact(r.grow s).put hf h
  ·cases e
 | o d=>
  rw[bindW] at e;split at e
  ·rename_i hf;cases e;obtain⟨a,rfl,hn,ob⟩:=h;exact r.putO s hf hn ob
  ·cases e
 | r j=>
  rw[bindW] at e;cases e1:frzAt ρ j with
  | none=>rw[e1] at e;cases e
  | some ρ1=>
   rw[e1] at e;simp only[bind_some] at e;obtain⟨r1,_⟩:=(r.grow s).frz e1;split at e
   ·rename_i d q;split at e
    ·rename_i hf;cases e;obtain⟨u,q1,q2⟩:=r1.slot j _ q;have h:σ[j]? =some (some v):=h;rw[h] at q1;cases q1;exact r1.put hf q2
    ·cases e
   ·cases e
 | l d=>cases e
def retW (ρ:Ev):W->Option R
 | .v d=>some (.rt (.v d) ρ)
 | .o d=>some (.rt (.o d) ρ)
 | .r i=>match ρ[i]? with
  | some (some (.o d))=>some (.rt (.o d) ρ)
  | some (some (.v d))=>some (.rt (.v d) ρ)
  | _=>none
 | .l _=>none
theorem b1P {E:Ends}{q:R}(r:Rep X P O L ρ σ H1)(s:Same H1 H')(h:DenW X.K (AvO O ρ σ) σ H1 H' w v)(e:retW ρ w=some q)(hq:EndsOk X P O L E q):E.rt v H':=by
 have r':=r.grow s;cases w with
 | v d=>cases e;exact hq v H' r'.same r'.lents (m7 (A6 fun b z=>r.a0 z) _ _ h)
 | o d=>
  cases e;obtain⟨a,rfl,hn,ob⟩:=h;exact hq _ H' r'.same r'.lents ⟨a,rfl,r.fresh0 hn,z8 (A6 fun b z=>z.imp (fun z=>r.a0 z) id) rfl ob⟩
 | r i=>
  rw[retW] at e;have h:σ[i]? =some (some v):=h;split at e
  ·rename_i d q;cases e;obtain⟨a,h1,h2⟩:=r'.obj q rfl;rw[h] at h1;cases h1;refine hq _ H' r'.same r'.lents ⟨a,rfl,r'.new i d a q h,z8 (A6 fun b z=>?_) rfl h2⟩;rcases z with z|z
   ·exact r.a0 z
   ·rw[z];exact .inr ⟨i,_,d,q,rfl,h⟩
  ·rename_i d q;cases e;obtain⟨u,q1,q2⟩:=r'.slot i _ q;rw[h] at q1;cases q1;exact hq v H' r'.same r'.lents (m7 (A6 fun b z=>r.a0 z) _ _ q2)
  ·cases e
 | l d=>cases e
end
section
variable {X:Cx}{a b c e:Expr}{st:Stmt}{rest bd els:List Stmt}{pos:Pos}{f g:FX}{t:FT}{fa:FA}{F G:FS}
theorem j8:QSs X [] (fun ρ=>some (.nx ρ)):=⟨PSs.weak a9Z fun E σ H h0=>tSe h0 fun P O L ρ r rp e q=>by cases e;exact q σ H rp⟩
theorem b8 (h1:QS X st F)(h2:QSs X rest G):QSs X (st::rest) (fThen F G):=⟨PSs.weak (a62 h1.to h2.to) fun E σ H h0=>tSe h0 fun P O L ρ r rp e q=>by
 unfold fThen at e;obtain⟨r1,e1,e⟩:=obs e;refine⟨P,O,L,ρ,r1,rp,e1,?_⟩;cases r1 with
 | nx ρ'=>exact fun σ' H' rp'=>⟨P,O,L,ρ',r,rp',e,q⟩
 | bk ρ'=>cases e;exact q
 | ct ρ'=>cases e;exact q
 | rt d ρ'=>cases e;exact q⟩
theorem c7 (h1:QS X st F):QSs X [st] F:=⟨a9I h1.to⟩
theorem Y3:QS X st (fun _=>none):=⟨PS.weak a7W fun E σ H h0=>tSe h0 fun P O L ρ r rp e q=>by cases e⟩
def fRet (f:FX):FS:=fun ρ=>(f ρ).bind fun p=>retW p.2 p.1
theorem g8 (ha:QX X e f):QS X (.Return (some e) pos) (fRet f):=⟨PS.weak (b1S ha.to) fun E σ H h0=>tSe h0 fun P O L ρ r rp e q=>by
 unfold fRet at e;obtain⟨⟨w,ρ1⟩,e1,e⟩:=obs e
 exact⟨P,O,L,ρ,w,ρ1,rp,e1,fun v H1 H' r1 s1 d1=>b1P r1 s1 d1 e q⟩⟩
def fIfS (t:FT) (F G:FS):FS:=fun ρ=>(t ρ).bind fun p=>if p.1=true then F p.2 else G p.2
theorem z6 (hc:QT X c t)(ha:QSs X bd F)(hb:QSs X els G):QS X (.If c bd els pos) (fIfS t F G):=⟨PS.weak (ps_if hc.to ha.to hb.to) fun E σ H h0=>tSe h0 fun P O L ρ r rp e q=>by
 unfold fIfS at e;obtain⟨⟨k,ρ1⟩,e1,e⟩:=obs e;dsimp only at e;refine⟨P,O,L,ρ,k,ρ1,rp,e1,fun H1 r1=>?_⟩;cases k with
 | true=>rw[if_pos rfl] at e ⊢;exact⟨P,O,L,ρ1,r,r1,e,q⟩
 | false=>rw[if_neg zS] at e ⊢;exact⟨P,O,L,ρ1,r,r1,e,q⟩⟩
def fAsg (i:Nat) (f:FX):FS:=fun ρ=>(f ρ).bind fun p=>(bindW p.2 i p.1).map .nx
theorem m8 (i:Nat){x:Str}{pos':Pos}(hN:X.N.Nodup)(ha:QX X e f)(hi:X.N[i]? =some x:=by rfl)(hx:Loc X.env.scope x:=by first|exact Or.inl rfl|exact Or.inr rfl)(hs:swapsWith e (some (.Name x pos')) pos.line X.env=pure false:=by rfl)(hf:X.fn x=true\/X.env.scope.names.lookup x=some .local:=by first|exact .inl rfl|exact .inr rfl):
  QS X (.Assign [.Name x pos'] e pos) (fAsg i f):=⟨PS.weak (b1x hN hi hx ha.to hs hf) fun E σ H h0=>tSe h0 fun P O L ρ r rp e q=>by
 unfold fAsg at e;obtain⟨⟨w,ρ1⟩,e1,e⟩:=obs e;dsimp only at e;obtain⟨ρ2,e2,e⟩:=oms e;cases e
 exact⟨P,O,L,ρ,w,ρ1,rp,e1,fun v H1 H' r1 s1 d1=>q _ H' (a4W r1 s1 d1 e2)⟩⟩
abbrev FG:=D->Ev->Option Ev
def GOk (X:Cx) (g:TG) (gf:FG):Prop:=∀(P:List (D×V)) (O:Av) (L:List (Option Nat×Addr)) (d:D) (v:V) (ρ ρ':Ev) (σ:L2.St) (H:Hp) (Q:L2.St->Hp->Prop),Rep X P O L ρ σ H->Den X.K (AvO O ρ σ) H d v->gf d ρ=some ρ'->(∀σ' H',Rep X P O L ρ' σ' H'->Q σ' H')->g v σ H Q
structure QG (X:Cx) (tg:Expr) (gf:FG):Prop where
 to:∃g,PG X tg g/\GOk X g gf
abbrev FGs:=List D->Ev->Option Ev
structure QGs (X:Cx) (tgs:List Expr) (n:Nat) (gf:FGs):Prop where
 to:∃g,PGs X tgs g/\∀(P:List (D×V)) (O:Av) (L:List (Option Nat×Addr)) (ds:List D) (vs:List V) (ρ ρ':Ev) (σ:L2.St) (H:Hp) (Q:L2.St->Hp->Prop),Rep X P O L ρ σ H->DenL X.K (AvO O ρ σ) H ds vs->gf ds ρ=some ρ'->(∀σ' H',Rep X P O L ρ' σ' H'->Q σ' H')->g vs σ H Q
 len:∀ds ρ ρ',gf ds ρ=some ρ'->ds.length=n
def gfName (i:Nat):FG:=fun d ρ=>if freeSlot ρ i=true then some (ρ.set i (some (.v d))) else none
theorem c6 (i:Nat){x:Str}(hN:X.N.Nodup)(hi:X.N[i]? =some x:=by rfl)(hx:Loc X.env.scope x:=by first|exact Or.inl rfl|exact Or.inr rfl)(hf:X.fn x=true\/X.env.scope.names.lookup x=some .local:=by first|exact .inl rfl|exact .inr rfl):QG X (.Name x pos) (gfName i):=
 ⟨gName i,a4L hN hi hx hf,fun P O L d v ρ ρ' σ H Q r h e q=>by
  unfold gfName at e;split at e
  ·rename_i hf;cases e;exact q _ H (r.put hf h)
  ·cases e⟩
def gfNil:FGs:=fun ds ρ=>match ds with
 | []=>some ρ
 | _=>none
def gfCons (gf:FG) (gs:FGs):FGs:=fun ds ρ=>match ds with
 | d::ds=>(gf d ρ).bind (gs ds)
 | _=>none
def gfTup (gs:FGs):FG:=fun d ρ=>match d with
 | .tup ds=>gs ds ρ
 | _=>none
theorem l8:QGs X [] 0 gfNil:=⟨⟨gNil,a88,fun P O L ds vs ρ ρ' σ H Q r l e q=>by
 cases ds with
 | nil=>cases e;rw[DenL] at l;exact⟨l,q σ H r⟩
 | cons d ds=>cases e⟩,fun ds ρ ρ' e=>by cases ds with|nil=>rfl|cons d ds=>cases e⟩
theorem holdL {P:List (D×V)}{O:Av}{L:List (Option Nat×Addr)}{σ:L2.St}:∀{ds:List D} {vs:List V} {ρ:Ev} {H:Hp},Rep X P O L ρ σ H->DenL X.K (AvO O ρ σ) H ds vs->∃P',Rep X P' O L ρ σ H/\∀ρ2 σ2 H2,Rep X P' O L ρ2 σ2 H2->Rep X P O L ρ2 σ2 H2/\DenL X.K (AvO O ρ2 σ2) H2 ds vs
 | [],vs,ρ,H,r,l=>⟨P,r,fun ρ2 σ2 H2 r2=>⟨r2,by rw[DenL] at l ⊢;exact l⟩⟩
 | d::ds,vs,ρ,H,r,l=>by
  rw[DenL] at l;obtain⟨v,rs,rfl,h,l⟩:=l;obtain⟨P',r1,k1⟩:=holdL r l
  exact⟨(d,v)::P',r1.more h,fun ρ2 σ2 H2 r2=>by
   obtain⟨r3,l3⟩:=k1 ρ2 σ2 H2 r2.less
   exact⟨r3,i0 r2.head l3⟩⟩
theorem c8 {n:Nat}{tgs:List Expr}{tg:Expr}{gf:FG}{gs:FGs}(h:QG X tg gf)(t:QGs X tgs n gs)(hs:(assignEach (tg::tgs) X.env).map (·.2)=assign tg X.env::(assignEach tgs X.env).map (·.2):=by rfl):QGs X (tg::tgs) (n+1) (gfCons gf gs):=by
 obtain⟨g,p,k⟩:=h.to;obtain⟨gg,pp,kk⟩:=t.to;refine⟨⟨gCons g gg,a7L p pp hs,fun P O L ds vs ρ ρ' σ H Q r l e q=>?_⟩,fun ds ρ ρ' e=>?_⟩
 ·cases ds with
  | nil=>cases e
  | cons d ds=>
   rw[DenL] at l;obtain⟨v,rs,rfl,hd,l⟩:=l;simp only[gfCons] at e;obtain⟨ρ1,e1,e⟩:=obs e;obtain⟨P',r1,k1⟩:=holdL r l;refine⟨v,rs,rfl,k P' O L d v ρ ρ1 σ H _ r1 hd e1 fun σ' H' r2=>?_⟩;obtain⟨r3,l3⟩:=k1 _ _ _ r2;exact kk P O L ds rs ρ1 ρ' σ' H' Q r3 l3 e q
 ·cases ds with
  | nil=>cases e
  | cons d ds=>
   simp only[gfCons] at e;cases e1:gf d ρ with
   | none=>rw[e1] at e;cases e
   | some ρ1=>rw[e1] at e;rw[zZ,t.len ds ρ1 ρ' e]
theorem t9 {tgs:List Expr}{n k:Nat}{gs:FGs}(hc:X.calm=true)(h:QGs X tgs n gs)(hn:(assignEach tgs X.env).length=n:=by rfl)(hst:(assignEach tgs X.env).findIdx? (·.1)=none:=by rfl):QG X (.Tuple tgs k pos) (gfTup gs):=by
 obtain⟨gg,pp,kk⟩:=h.to;refine⟨gTup X.K n gg,b2d hc pp hn hst,fun P O L d v ρ ρ' σ H Q r hd e q=>?_⟩;cases d with
 | tup ds=>
  rw[Den] at hd;obtain⟨a,vs,ev,hq,l⟩:=hd;exact⟨a,vs,ev,hq,by rw[<-c5 l];exact h.len ds ρ ρ' e,kk P O L ds vs ρ ρ' σ H Q r l e q⟩
 | _=>cases e
def gfSub (f g:FX):FG:=fun d ρ=>(f ρ).bind fun p=>match p.1 with
 | .r j=>(g p.2).bind fun q=>(dr q.2 q.1.fz).bind fun k=>match k,ownAt q.2 j with
  | .int k,some (.lst xs)=>(ixN xs.length k).map fun n=>setOwn q.2 j (.lst (xs.set n d))
  | _,_=>none
 | _=>none
def fAsgG (f:FX) (gf:FG):FS:=fun ρ=>(f ρ).bind fun p=>(takeAll p.2 [p.1.fz]).bind fun q=>match q.1 with
 | [d]=>(gf d q.2).map .nx
 | _=>none
theorem A5 {tg:Expr}{gf:FG}(ha:QX X e f)(hg:QG X tg gf)(hs:swapsWithSole [tg] e pos.line X.env=pure false:=by rfl)(hw:swappedStores [tg] e X.env=pure none:=by rfl)(h1:(assignEach [tg] X.env).map (·.2)=[assign tg X.env]:=by rfl):QS X (.Assign [tg] e pos) (fAsgG f gf):=by
 obtain⟨g,p,k⟩:=hg.to;refine⟨PS.weak (b1L ha.to p hs hw h1) fun E σ H h0=>tSe h0 fun P O L ρ r rp e q=>?_⟩;unfold fAsgG at e;obtain⟨⟨w,ρ1⟩,e1,e⟩:=obs e;dsimp only at e;obtain⟨⟨ds,ρ2⟩,e2,e⟩:=obs e;dsimp only at e;split at e
 ·rename_i d;obtain⟨ρ3,e3,e⟩:=oms e;cases e;refine⟨P,O,L,ρ,w,ρ1,rp,e1,fun v H1 H' r1 s1 d1=>?_⟩;obtain⟨r2,l2,_⟩:=o6 (vs:=[v]) (r1.grow s1) e2 ⟨v,[],rfl,d1.fz r1 s1,rfl⟩;obtain⟨v',ev,h'⟩:=denL1 l2;cases ev;exact k P O L d v ρ2 ρ3 σ H' _ r2 h' e3 fun σ' H' r'=>q σ' H' r'
 ·cases e
def fDrop (f:FX):FS:=fun ρ=>(f ρ).map fun p=>.nx p.2
theorem G0 (ha:QX X e f)(hs:swapsWith e none pos.line X.env=pure false:=by rfl):QS X (.Expr e pos) (fDrop f):=⟨PS.weak (a9L ha.to hs) fun E σ H h0=>tSe h0 fun P O L ρ r rp e q=>by
 unfold fDrop at e;obtain⟨p,e1,e⟩:=oms e;cases e
 exact⟨P,O,L,ρ,p.1,p.2,rp,e1,fun v H1 H' r1 s1 d1=>q σ H' (r1.grow s1)⟩⟩
def fPar (i j:Nat) (fa:FA):FS:=fun ρ=>(fa ρ).bind fun p=>(takeAll p.2 p.1).bind fun q=>match q.1 with
 | [d,d']=>if freeSlot q.2 i=true/\freeSlot (q.2.set i (some (.v d))) j=true then some (.nx ((q.2.set i (some (.v d))).set j (some (.v d')))) else none
 | _=>none
theorem b1n (i j:Nat){x y:Str}{px py pt:Pos}{kt k2 pt2}(hc:X.calm=true)(hN:X.N.Nodup)(ha:QA X [a,b] fa)(hw:swappedStores [.Tuple [.Name x px,.Name y py] kt pt] (.Tuple [a,b] k2 pt2) X.env=pure (some [x,y]))(hi:X.N[i]? =some x:=by rfl)(hj:X.N[j]? =some y:=by rfl)(hij:i≠j:=by decide)
  (hx:X.env.scope.names.lookup x=some .local:=by rfl) (hy:X.env.scope.names.lookup y=some .local:=by rfl)
  (hs:swapsWithSole [.Tuple [.Name x px,.Name y py] kt pt] (.Tuple [a,b] k2 pt2) pos.line X.env=pure false:=by rfl):
  QS X (.Assign [.Tuple [.Name x px,.Name y py] kt pt] (.Tuple [a,b] k2 pt2) pos) (fPar i j fa):=⟨PS.weak (a8k hc hN hi hj hij hx hy ha.to hw hs) fun E σ H h0=>tSe h0 fun P O L ρ r rp e q=>by
 unfold fPar at e;obtain⟨⟨ws,ρ1⟩,e1,e⟩:=obs e;dsimp only at e;obtain⟨⟨ds,ρ2⟩,e2,e⟩:=obs e;dsimp only at e;split at e
 ·rename_i d d';split at e
  ·rename_i hf;cases e;refine⟨P,O,L,ρ,ws,ρ1,rp,e1,fun vs H1 r1 l1=>?_⟩;obtain⟨r2,l2,_⟩:=o6 r1 e2 l1;obtain⟨v,v',rfl,h,h'⟩:=denL2 l2;have r3:=(r2.more (p:=(d',v')) h').put (i:=i) hf.1 h;exact⟨v,v',rfl,q _ H1 (r3.less.put (i:=j) hf.2 r3.head)⟩
  ·cases e
 ·cases e⟩
end
def whileF (c:FT) (b:FS):Nat->Ev->Option R
 | 0,_=>none
 | n+1,ρ=>(c ρ).bind fun k=>if k.1=true then(b k.2).bind (fun r=>match r with
   | .nx ρ'=>whileF c b n ρ'
   | .ct ρ'=>whileF c b n ρ'
   | .bk ρ'=>some (.nx ρ')
   | .rt d ρ'=>some (.rt d ρ')) else some (.nx k.2)
theorem N1 {c:FT}{b:FS}:∀{n:Nat} {ρ:Ev} {r:R},whileF c b n ρ=some r->whileF c b (n+1) ρ=some r
 | 0,ρ,r,h=>by cases h
 | n+1,ρ,r,h=>by
  rw[whileF] at h ⊢;cases e:c ρ with
  | none=>rw[e] at h;cases h
  | some k=>
   rw[e] at h;obtain⟨k,ρ1⟩:=k;cases k with
   | false=>exact h
   | true=>
    simp only[bind_some,jB] at h ⊢;cases e2:b ρ1 with
    | none=>rw[e2] at h;cases h
    | some r2=>
     rw[e2] at h;cases r2 with
     | nx ρ'=>exact N1 (n:=n) h
     | ct ρ'=>exact N1 (n:=n) h
     | bk ρ'=>exact h
     | rt d ρ'=>exact h
theorem a2f {c:FT}{b:FS}{n m:Nat}{ρ:Ev}{r:R}(h:whileF c b n ρ=some r)(hm:n<=m):whileF c b m ρ=some r:=by
 induction hm with
 | refl=>exact h
 | step _ ih=>exact N1 ih
open Classical in
def whileV (c:FT) (b:FS):FS:=fun ρ=>if h:∃r,∃n,whileF c b n ρ=some r then some h.choose else none
theorem a6b {c:FT}{b:FS}{n:Nat}{ρ:Ev}{r:R}(h:whileF c b n ρ=some r):whileV c b ρ=some r:=by
 have z:∃r,∃n,whileF c b n ρ=some r:=⟨r,n,h⟩;unfold whileV;rw[dif_pos z];obtain⟨m,hm⟩:=z.choose_spec;have h1:=a2f h (Nat.le_max_left n m);have h2:=a2f hm (Nat.le_max_right n m);rw[h1] at h2;exact h2.symm
theorem a6u {c:FT}{b:FS}{ρ:Ev}{r:R}(h:whileV c b ρ=some r):∃n,whileF c b n ρ=some r:=by
 unfold whileV at h;split at h
 ·rename_i z;cases h;exact z.choose_spec
 ·cases h
section
variable {X:Cx}{a b c e:Expr}{body:List Stmt}{pos:Pos}{f g:FX}{t:FT}{fa:FA}{F:FS}
theorem a71 (hp:PassesOwn (model X.prog X.w) X.A X.env X.xe)(hc:QT X c t)(hb:QSs X body F):QS X (.While c body [] pos) (whileV t F):=⟨PS.weak (a6T hp hc.to hb.to) fun E σ H h0=>tSe h0 fun P O L ρ r rp e q=>by
 obtain⟨n,e⟩:=a6u e;refine⟨fun m σ H=>∃ρ,Rep X P O L ρ σ H/\whileF t F m ρ=some r,⟨n,ρ,rp,e⟩,fun m σ H ⟨ρ,rp,e⟩=>?_⟩;cases m with
 | zero=>cases e
 | succ m=>
  rw[whileF] at e;obtain⟨⟨k,ρ1⟩,e1,e⟩:=obs e;refine⟨P,O,L,ρ,k,ρ1,rp,e1,fun H1 r1=>?_⟩;cases k with
  | false=>
   rw[if_neg zS];cases e;exact q σ H1 r1
  | true=>
   rw[if_pos rfl];simp only[bind_some,jB] at e;obtain⟨r2,e2,e⟩:=obs e;refine⟨fun σ' H'=>∃ρ,Rep X P O L ρ σ' H'/\whileF t F m ρ=some r,fun σ' H' h=>⟨m,Nat.lt_succ_self m,h⟩,P,O,L,ρ1,r2,r1,e2,?_⟩;cases r2 with
   | nx ρ'=>exact fun σ' H' rp'=>⟨ρ',rp',e⟩
   | ct ρ'=>exact fun σ' H' rp'=>⟨ρ',rp',e⟩
   | bk ρ'=>cases e;exact fun σ' H' rp'=>q σ' H' rp'
   | rt d ρ'=>cases e;exact q⟩
abbrev FI:=Ev->Option (List D×Ev)
def Wks (K:PySem.W.Frag) (P:List (D×V)) (xs:List D) (J:It):Prop:=∀(Y:Cx) (O:Av) (L:List (Option Nat×Addr)) (ρ:Ev) (σ:L2.St) (H:Hp),Y.K=K->Rep Y P O L ρ σ H->
 (∀(i:Nat) (x:D),xs[i]? =some x->J.go i H/\∀v H',J.yld i H v H'->Same H H'/\Den K (AvO O ρ σ) H' x v)/\J.stop xs.length H
def Holds (P P':List (D×V)):Prop:=∀p∈P',p∈P
theorem Rep.holds {P P':List (D×V)}{O:Av}{L:List (Option Nat×Addr)}{ρ:Ev}{σ:L2.St}{H:Hp}(r:Rep X P O L ρ σ H)(h:Holds P P'):Rep X P' O L ρ σ H:=⟨r.same,r.amb,r.len,r.slot,r.inj,r.new,r.lnt,r.lnd,fun p hp=>r.prot p (h p hp),r.gvl⟩
def tI (X:Cx) (fi:FI):TI:=fun σ H R=>∃P O L ρ xs ρ',Rep X P O L ρ σ H/\fi ρ=some (xs,ρ')/\∀J H1 P',Rep X P' O L ρ' σ H1->Holds P' P->Wks X.K P' xs J->R J H1
theorem tIe {X:Cx}{fi:FI}{σ:L2.St}{H:Hp}{R:It->Hp->Prop}{C:Prop}(h:tI X fi σ H R)(k:∀P O L ρ xs ρ',Rep X P O L ρ σ H->fi ρ=some (xs,ρ')->(∀J H1 P',Rep X P' O L ρ' σ H1->Holds P' P->Wks X.K P' xs J->R J H1)->C):C:=by
 obtain⟨P,O,L,ρ,w,ρ',r,e,q⟩:=h;exact k P O L ρ w ρ' r e q
structure QI (X:Cx) (tg iter:Expr) (fi:FI):Prop where
 to:PI X tg iter (tI X fi)
theorem PI.weak {tg e:Expr}{t u:TI}(h:PI X tg e t)(w:∀σ H Q,u σ H Q->t σ H Q):PI X tg e u:=fun pins s σ H Q I q=>h pins s σ H Q I (w σ H Q q)
def iSeq (K:PySem.W.Frag) (tl:TE):TI:=fun σ H R=>tl σ H fun x H1=>(∃a,x= .ref a/\(∃xs,SqL K H1 a xs)/\R (Itl K a) H1)\/∃a,x= .ref a/\(∃xs,SqT K H1 a xs)/\R (Itt K a) H1
theorem a7m {tg l:Expr}{tl:TE}(hl:PE X l tl):PI X tg l (iSeq X.K tl):=by
 intro pins s σ H R I h;refine thn (hl pins s σ H _ I h) fun v s1 ⟨x,H1,I1,r1,q1⟩=>?_;rcases q1 with ⟨a,e,⟨xs,hq⟩,q⟩|⟨a,e,⟨xs,hq⟩,q⟩
 ·subst e;cases r1;obtain⟨its,rv,p,hz⟩:=I1.list hq;refine wpAny_pyIter_list p.isList ?_;refine⟨s1.heap.objs.size,[s1.heap.objs.size],_,_,H1,rfl,I1.kept (t':=s1.toks) fun b o e=>zD _ e,a6s a _,⟨_,zO _ rfl,rfl,rfl⟩,fun b hb=>?_,q⟩;have e:b=s1.heap.objs.size:=by simpa using hb
  subst e;exact I1.fpOk (zE _) (I1.hok.fresh (zE _))
 ·subst e;cases r1;obtain⟨its,rv,p,hz⟩:=I1.tuple hq;refine wpAny_pyIter_tuple (show s1.heap.IsTuple a its.toArray from p) ?_;refine⟨s1.heap.objs.size,[s1.heap.objs.size],_,_,H1,rfl,I1.kept (t':=s1.toks) fun b o e=>zD _ e,a4B a _,⟨_,zO _ rfl,rfl,rfl⟩,fun b hb=>?_,q⟩;have e:b=s1.heap.objs.size:=by simpa using hb
  subst e;exact I1.fpOk (zE _) (I1.hok.fresh (zE _))
def fiSeq (f:FX):FI:=fun ρ=>(f ρ).bind fun p=>(takeAll p.2 [p.1.fz]).bind fun q=>match q.1 with
 | [d]=>(items d).map fun xs=>(xs,q.2)
 | _=>none
theorem J0 {tg l:Expr}(hl:QX X l f):QI X tg l (fiSeq f):=⟨PI.weak (a7m hl.to) fun σ H R h0=>tIe h0 fun P O L ρ xs ρ' r e q=>by
 unfold fiSeq at e;obtain⟨⟨w,ρ1⟩,e1,e⟩:=obs e;dsimp only at e;obtain⟨⟨ds,ρ2⟩,e2,e⟩:=obs e;dsimp only at e;split at e
 ·rename_i d;obtain⟨ys,e3,e⟩:=oms e;cases e;refine⟨P,O,L,ρ,w,ρ1,r,e1,fun v H1 H' r1 s1 d1=>?_⟩;obtain⟨r2,l2,_⟩:=o6 (vs:=[v]) (r1.grow s1) e2 ⟨v,[],rfl,d1.fz r1 s1,rfl⟩;obtain⟨v',ev,h'⟩:=denL1 l2;cases ev;have r3:=r2.more (p:=(d,v)) h';have hh:Holds ((d,v)::P) P:=fun p hp=>zH _ hp;cases d with
  | tup zs=>
   cases e3;have z:=h';rw[Den] at z;obtain⟨a,vs,rfl,hq,l⟩:=z;refine .inr ⟨a,rfl,⟨vs,hq⟩,q _ H' _ r3 hh fun Y O' L' ρ' σ' Hh hY rr=>?_⟩;have z:=rr.head;rw[hY] at z;rw[Den] at z;obtain⟨a',vs,ea,hq,l⟩:=z;cases ea;refine⟨fun i x ex=>?_,vs,hq,by rw[<-c5 l];exact zE _⟩
   obtain⟨v0,hv,dv⟩:=A1 l ex;exact⟨⟨vs,v0,hq,hv⟩,fun w H' ⟨y1,y2⟩=>by subst y1;have:=y2 vs hq;rw[hv] at this;cases this;exact⟨Same.refl _,dv⟩⟩
  | lst zs=>
   cases e3;obtain⟨a,vs,rfl,hq,l⟩:=G3 h';refine .inl ⟨a,rfl,⟨vs,hq⟩,q _ H' _ r3 hh fun Y O' L' ρ' σ' Hh hY rr=>?_⟩;have z:=rr.head;rw[hY] at z;obtain⟨a',vs,ea,hq,l⟩:=G3 z;cases ea;refine⟨fun i x ex=>?_,vs,hq,by rw[<-c5 l];exact zE _⟩
   obtain⟨v0,hv,dv⟩:=A1 l ex;exact⟨⟨vs,v0,hq,hv⟩,fun w H' ⟨y1,y2⟩=>by subst y1;have:=y2 vs hq;rw[hv] at this;cases this;exact⟨Same.refl _,dv⟩⟩
  | _=>cases e3
 ·cases e⟩
def rngD (lo:Int) (n:Nat):List D:=(List.range n).map fun(i:Nat)=>D.int (lo+i)
theorem a10 {K:PySem.W.Frag}{P:List (D×V)}(lo:Int)(n:Nat):Wks K P (rngD lo n) (Itr lo n):=fun Y O L ρ σ H _ _=>by
 unfold rngD;refine⟨fun i x ex=>?_,by show(List.length _)≥n;simp⟩
 rw[qF] at ex
 by_cases hi:i<n
 ·rw[getElem?_range hi] at ex;cases ex;exact⟨hi,fun v H' ⟨y1,y2⟩=>by subst y1;exact⟨Same.refl _,B5.mpr y2⟩⟩
 ·rw[jH (by simpa using hi)] at ex;cases ex
def fiR1 (fa:FA):FI:=fun ρ=>(fa ρ).bind fun p=>match p.1 with
 | [.v (.int n)]=>if -(2^62)<=n/\n<2^62 then some (rngD 0 n.toNat,p.2) else none
 | _=>none
theorem a1q {tg:Expr}{p:Pos}(hm:X.mg "range"=none)(ha:QA X [a] fa)(hg:Gl X "range":=by rfl)(hs:starEach [a] X.env=[(false,eval a X.env)]:=by rfl):QI X tg (.Call (.Name "range" p) [a] [] pos) (fiR1 fa):=⟨PI.weak (a6n hg hm ha.to hs) fun σ H R h0=>tIe h0 fun P O L ρ xs ρ' r e q=>by
 unfold fiR1 at e;obtain⟨⟨ws,ρ1⟩,e1,e⟩:=obs e;dsimp only at e;split at e
 ·rename_i n;split at e
  ·rename_i hn;cases e;refine⟨P,O,L,ρ,_,_,r,e1,fun vs H1 r1 l1=>?_⟩;obtain⟨v,rs,rfl,h1,l1⟩:=l1;have l1:rs=[]:=l1;have h1:Den X.K (AvO O ρ' σ) H1 (.int n) v:=h1;subst l1;exact⟨n,by rw[B5.mp h1],hn.1,hn.2,q _ H1 P r1 (fun p hp=>hp) (a10 0 _)⟩
  ·cases e
 ·cases e⟩
def fiR2 (fa:FA):FI:=fun ρ=>(fa ρ).bind fun p=>match p.1 with
 | [.v (.int m),.v (.int n)]=>if(-(2^62)<=m/\m<2^62)/\-(2^62)<=n/\n<2^62 then some (rngD m (n-m).toNat,p.2) else none
 | _=>none
theorem qi_r2 {tg:Expr}{p:Pos}(hm:X.mg "range"=none)(ha:QA X [a,b] fa)(hg:Gl X "range":=by rfl)(hs:starEach [a,b] X.env=[(false,eval a X.env),(false,eval b X.env)]:=by rfl)(hs2:starEach [b] X.env=[(false,eval b X.env)]:=by rfl):QI X tg (.Call (.Name "range" p) [a,b] [] pos) (fiR2 fa):=⟨PI.weak (a6e hg hm ha.to hs hs2) fun σ H R h0=>tIe h0 fun P O L ρ xs ρ' r e q=>by
 unfold fiR2 at e;obtain⟨⟨ws,ρ1⟩,e1,e⟩:=obs e;dsimp only at e;split at e
 ·rename_i m n;split at e
  ·rename_i hn;cases e;refine⟨P,O,L,ρ,_,_,r,e1,fun vs H1 r1 l1=>?_⟩;obtain⟨v,rs,rfl,h1,u,rs',rfl,h2,l1⟩:=l1;have l1:rs'=[]:=l1;have h1:Den X.K (AvO O ρ' σ) H1 (.int m) v:=h1;have h2:Den X.K (AvO O ρ' σ) H1 (.int n) u:=h2;subst l1;exact⟨m,n,by rw[B5.mp h1,B5.mp h2],⟨hn.1.1,hn.1.2,hn.2.1,hn.2.2⟩,q _ H1 P r1 (fun p hp=>hp) (a10 m _)⟩
  ·cases e
 ·cases e⟩
def loopF (b:D->FS):List D->Ev->Option R
 | [],ρ=>some (.nx ρ)
 | x::xs,ρ=>(b x ρ).bind fun r=>match r with
  | .nx ρ'=>loopF b xs ρ'
  | .ct ρ'=>loopF b xs ρ'
  | .bk ρ'=>some (.nx ρ')
  | .rt d ρ'=>some (.rt d ρ')
def turnF (gf:FG) (b:FS):D->FS:=fun x ρ=>(gf x ρ).bind b
def fFor (fi:FI) (gf:FG) (b:FS):FS:=fun ρ=>(fi ρ).bind fun p=>loopF (turnF gf b) p.1 p.2
theorem a0i {tg iter:Expr}{fi:FI}{gf:FG}(hp:PassesOwn (model X.prog X.w) X.A X.env X.xe)(hc:X.calm=true)(hi:QI X tg iter fi)(hg:QG X tg gf)(hb:QSs X body F)(hs:∀x,foldedSetIterable iter X.env x=pure x:=by intro _;rfl):
  QS X (.For tg iter body [] pos) (fFor fi gf F):=by
 obtain⟨g,pg,kg⟩:=hg.to;refine⟨PS.weak (b1G hp hc hi.to pg hb.to hs) fun E σ H h0=>tSe h0 fun P O L ρ r rp e q=>?_⟩;unfold fFor at e;obtain⟨⟨xs,ρ1⟩,e1,e⟩:=obs e;dsimp only at e;refine⟨P,O,L,ρ,xs,ρ1,rp,e1,fun J H1 P' r1 hh wk=>?_⟩;refine⟨fun i m σ H=>m=xs.length-i/\i<=xs.length/\∃ρ,Rep X P' O L ρ σ H/\loopF (turnF gf F) (xs.drop i) ρ=some r,⟨xs.length,by simp,qV _,ρ1,r1,by simpa using e⟩,?_⟩
 rintro i m σ H ⟨rfl,hi,ρ,rp,e⟩;obtain⟨wi,ws⟩:=wk X O L ρ σ H rfl rp
 by_cases hlt:i<xs.length
 ·obtain⟨go,yl⟩:=wi i xs[i] (by simp[hlt])
  refine .inr ⟨go,fun σ' H'=>∃ρ,Rep X P' O L ρ σ' H'/\loopF (turnF gf F) (xs.drop (i+1)) ρ=some r,fun σ' H' h=>⟨xs.length-(i+1),by omega,rfl,hlt,h⟩,fun v H' y=>?_⟩
  obtain⟨sm,dv⟩:=yl v H' y;rw[List.drop_eq_getElem_cons hlt,loopF] at e;cases e1:turnF gf F xs[i] ρ with
  | none=>rw[e1] at e;cases e
  | some r1=>
   rw[e1] at e;simp only[bind_some] at e;unfold turnF at e1;obtain⟨ρ1,e2,e1⟩:=obs e1;refine kg P' O L xs[i] v ρ ρ1 σ _ _ (rp.grow sm) dv e2 fun σ' H2 rp'=>⟨P',O,L,ρ1,r1,rp',e1,?_⟩;cases r1 with
   | nx ρ2=>exact fun σ2 H2 rp2=>⟨ρ2,rp2,e⟩
   | ct ρ2=>exact fun σ2 H2 rp2=>⟨ρ2,rp2,e⟩
   | bk ρ2=>cases e;exact fun σ2 H2 rp2=>q σ2 H2 (rp2.holds hh)
   | rt d ρ2=>cases e;exact q
 ·have ei:i=xs.length:=by omega
  subst ei;rw[List.drop_length,loopF] at e;cases e;exact .inl ⟨ws,q σ H (rp.holds hh)⟩
end
def spF (K:PySem.W.Frag) (g:List D->Option W):Sp:=fun vs H Q _=>∃(A:Av) (ds:List D) (w:W),(∀b,A b->∃o,H b=some o)/\DenL K A H ds vs/\g ds=some w/\∀v H',Same H H'->DenW K A [] H H' w v->Q v H'
structure FnS (P:Program) (w:World) (K:PySem.W.Frag) (mg:Str->Option Value) (base:Heap) (x:Str) (k:Nat) (sp:Sp):Prop where
 ex:∃(f:Addr) (fd:FuncData) (ps:List Str),FnOk P w K mg base CX0 k f fd ps sp/\Binds K fd ps []/\PySem.W.keepIn K (.ref f)=true/\mg x=some (.ref f)
abbrev Fn (P:Program) (w:World) (K:PySem.W.Frag) (mg:Str->Option Value) (base:Heap) (x:Str) (k:Nat) (g:List D->Option W):Prop:=FnS P w K mg base x k (spF K g)
section
variable {P:Program}{w:World}{K:PySem.W.Frag}{mg:Str->Option Value}{base:Heap}{x:Str}{j k:Nat}
theorem FnS.mono {sp:Sp}(F:FnS P w K mg base x j sp)(h:j<=k):FnS P w K mg base x k sp:=by
 obtain⟨f,fd,ps,a,b,c,d⟩:=F.ex;exact⟨f,fd,ps,a.mono h,b,c,d⟩
end
def lfC:D->Bool
 | .lst xs=>lfL xs
 | .dT _ xs=>lfL xs
 | .dK _ xs=>lfL xs
 | _=>false
def lfW:W->Bool
 | .v d=>lf d
 | .o d=>lfC d
 | _=>false
def frzL:List W->Ev->Option Ev
 | [],ρ=>some ρ
 | .r i::ws,ρ=>(frzAt ρ i).bind (frzL ws)
 | _::ws,ρ=>frzL ws ρ
def fDef (g:List D->Option W) (fa:FA):FX:=fun ρ=>(fa ρ).bind fun p=>(drs p.2 p.1).bind fun ds=>(g ds).bind fun w=>if lfW w=true then some (w,p.2) else(frzL p.1 p.2).map fun ρ2=>(w,ρ2)
def noR (i:Nat):List W->Bool
 | []=>true
 | .r j::ws=>i != j&&noR i ws
 | _::ws=>noR i ws
def fDefL (g:D->List D->Option (W×D)) (fa:FA):FX:=fun ρ=>(fa ρ).bind fun p=>match p.1 with
 | .r i::ws=>(ownAt p.2 i).bind fun c=>(drs p.2 ws).bind fun ds=>(g c ds).bind fun z=>if noR i ws=true/\lfC z.2=true then(if lfW z.1=true then some (z.1,setOwn p.2 i z.2) else(frzL ws (setOwn p.2 i z.2)).map fun ρ2=>(z.1,ρ2)) else none
 | _=>none
section
variable {K:PySem.W.Frag}{A A':Av}{H H':Hp}
theorem a0Y (g:∀b o,H b=some o->¬Mu o->H' b=some o){a:Addr}{d:D}(f:lfC d=true)(hk:H' a=H a)(h:Obj K A H a d):Obj K A' H' a d:=by
 cases d with
 | lst xs=>obtain⟨vs,e,l⟩:=h;exact⟨vs,hk.trans e,X6 g _ _ f l⟩
 | dT ks xs=>obtain⟨vs,e,hl,l⟩:=h;exact⟨vs,hk.trans e,hl,X6 g _ _ f l⟩
 | dK ks xs=>obtain⟨vs,e,hl,l⟩:=h;exact⟨vs,hk.trans e,hl,X6 g _ _ f l⟩
 | _=>exact h.elim
end
section
variable {X:Cx}{P:List (D×V)}{O:Av}{L:List (Option Nat×Addr)}{ρ ρ':Ev}{σ:L2.St}{H:Hp}
theorem Q4:∀{ws:List W} {ρ ρ':Ev},Rep X P O L ρ σ H->frzL ws ρ=some ρ'->Rep X P O L ρ' σ H/\∀(j:Nat) (w:W) (d:D),ρ'[j]? =some (some w)->w.own=some d->ρ[j]? =some (some w)/\W.r j∉ws
 | [],ρ,ρ',r,e=>by cases e;exact⟨r,fun j w d e1 _=>⟨e1,by simp⟩⟩
 | .r i::ws,ρ,ρ',r,e=>by
  rw[frzL] at e;obtain⟨ρ1,e1,e⟩:=obs e;obtain⟨r1,k1⟩:=r.frz e1;obtain⟨r2,k2⟩:=Q4 r1 e;refine⟨r2,fun j w d e1 e2=>?_⟩;obtain⟨a1,a2⟩:=k2 j w d e1 e2;obtain⟨b1,b2⟩:=k1 j w d a1 e2;exact⟨b1,fun z=>(zN.mp z).elim (fun z=>by cases z;exact b2 rfl) a2⟩
 | .v _::ws,ρ,ρ',r,e=>by
  obtain⟨r2,k2⟩:=Q4 (ws:=ws) r e;exact⟨r2,fun j w d e1 e2=>⟨(k2 j w d e1 e2).1,fun z=>(zN.mp z).elim (fun z=>by cases z) (k2 j w d e1 e2).2⟩⟩
 | .o _::ws,ρ,ρ',r,e=>by
  obtain⟨r2,k2⟩:=Q4 (ws:=ws) r e;exact⟨r2,fun j w d e1 e2=>⟨(k2 j w d e1 e2).1,fun z=>(zN.mp z).elim (fun z=>by cases z) (k2 j w d e1 e2).2⟩⟩
 | .l _::ws,ρ,ρ',r,e=>by
  obtain⟨r2,k2⟩:=Q4 (ws:=ws) r e;exact⟨r2,fun j w d e1 e2=>⟨(k2 j w d e1 e2).1,fun z=>(zN.mp z).elim (fun z=>by cases z) (k2 j w d e1 e2).2⟩⟩
def Handed (ρ:Ev) (σ:L2.St) (ws:List W) (b:Addr):Prop:=∃(i:Nat) (w:W) (d:D),W.r i∈ws/\ρ[i]? =some (some w)/\w.own=some d/\σ[i]? =some (some (V.ref b))
theorem a2w {B:Av}(r:Rep X P O L ρ σ H)(hB:∀b,B b->AvO O ρ σ b):∀{ws:List W} {ds:List D} {vs:List V},(∀b,B b->¬Handed ρ σ ws b)->drs ρ ws=some ds->DenA X.K (AvO O ρ σ) σ H ws vs->DenL X.K B H ds vs
 | [],ds,vs,n,e,h=>by cases e;have h:vs=[]:=h;subst h;exact j3
 | w::ws,ds,vs,n,e,h=>by
  obtain⟨v,rs,rfl,h1,h2⟩:=h;rw[drs] at e;cases e1:dr ρ w with
  | none=>rw[e1] at e;cases e
  | some d=>
   cases e2:drs ρ ws with
   | none=>rw[e1,e2] at e;cases e
   | some dd=>
    rw[e1,e2] at e;cases e;refine i0 ?_ (a2w r hB (fun b z y=>n b z (let ⟨i,w,d,m,q⟩:=y;⟨i,w,d,zH _ m,q⟩)) e2 h2);cases w with
    | v c=>cases e1;exact m7 (A6 hB) _ _ h1
    | r i=>
     have h1:σ[i]? =some (some v):=h1;rw[dr] at e1;cases q:ρ[i]? with
     | none=>rw[q] at e1;cases e1
     | some o=>
      rw[q] at e1;cases o with
      | none=>cases e1
      | some w'=>
       cases w' with
       | v c=>
        cases e1;obtain⟨u,q1,q2⟩:=r.slot i _ q;rw[h1] at q1;cases q1;exact m7 (A6 hB) _ _ q2
       | _=>
        obtain⟨a,q1,q2⟩:=r.obj q e1;rw[h1] at q1;cases q1;exact W1 (z8 (A6 hB) rfl q2) fun z=>n a z ⟨i,_,d,zI,q,e1,h1⟩
    | _=>cases e1
theorem a1y {ws:List W}(r:Rep X P O L ρ σ H)(k:∀(j:Nat) (w:W) (d:D),ρ'[j]? =some (some w)->w.own=some d->ρ[j]? =some (some w)/\W.r j∉ws){b:Addr}(z:AvO O ρ' σ b):AvO O ρ σ b/\¬Handed ρ σ ws b:=by
 refine⟨z.imp id fun⟨j,w,d,e1,e2,e3⟩=>⟨j,w,d,(k j w d e1 e2).1,e2,e3⟩,fun⟨i,w,d,m,q1,q2,q3⟩=>?_⟩;rcases z with z|⟨j,w',d',e1,e2,e3⟩
 ·exact r.ambN z ⟨i,w,d,q1,q2,q3⟩
 ·obtain⟨a1,a2⟩:=k j w' d' e1 e2
  have:=r.inj i j w w' d d' b q1 q2 q3 a1 e2 e3
  subst this;exact a2 m
end
section
variable {X:Cx}{e:Expr}{es:List Expr}{pos p:Pos}{fa:FA}{x:Str}{k:Nat}
theorem g7 {g:List D->Option W}(F:Fn X.prog X.w X.K X.mg X.base x k g)(hr:Room k X.A)(ha:QA X (e::es) fa)(hg:Gl X x:=by rfl)(hdb:(x==("__debug__":Str))=false:=by decide)
  (he:starEach (e::es) X.env=(false,eval e X.env)::starEach es X.env:=by rfl) (hpl:(backTo pos (starEach es X.env)).any (·.1)=false:=by rfl):QX X (.Call (.Name x p) (e::es) [] pos) (fDef g fa):=by
 obtain⟨f,fd,ps,F,b,kp,hm⟩:=F.ex;refine⟨PE.weak (a9W F hr hg hm kp b .nil pass0 ha.to hdb he hpl) fun σ H Q h0=>tXe h0 fun P O L ρ w ρ' r e q=>?_⟩;unfold fDef at e;obtain⟨⟨ws,ρ1⟩,e1,e⟩:=obs e;dsimp only at e;cases e2:drs ρ1 ws with
 | none=>rw[e2] at e;cases e
 | some ds=>
  rw[e2] at e;simp only[bind_some] at e;cases e3:g ds with
  | none=>rw[e3] at e;cases e
  | some w1=>
   rw[e3] at e;simp only[bind_some] at e;refine⟨P,O,L,ρ,ws,ρ1,r,e1,fun vs H1 r1 l1=>?_⟩;refine⟨fun b=>AvO O ρ1 σ b/\¬Handed ρ1 σ ws b,ds,w1,fun b z=>r1.there z.1,by rw[append_nil];exact a2w r1 (fun b z=>z.1) (fun b z=>z.2) e2 l1,e3,fun v H2 s2 d2=>?_⟩
   split at e
   ·rename_i hl;cases e;refine q v H1 H2 r1 s2 ?_;cases w with
    | v d=>exact a7G (fun _ _ e _=>e) _ _ hl d2
    | o d=>obtain⟨a,ev,hn,ob⟩:=d2;exact⟨a,ev,hn,a0Y (fun _ _ e _=>e) hl rfl ob⟩
    | _=>cases hl
   ·obtain⟨ρ2,e4,e⟩:=oms e;cases e;obtain⟨r2,k2⟩:=Q4 r1 e4;refine q v H1 H2 r2 s2 ?_;have sub:=fun b (z:AvO O ρ' σ b)=>a1y r1 k2 z;cases w with
    | v d=>exact m7 (A6 sub) _ _ d2
    | o d=>obtain⟨a,ev,hn,ob⟩:=d2;exact⟨a,ev,hn,z8 (A6 fun b z=>z.imp (sub b) id) rfl ob⟩
    | r i=>exact absurd d2 (by simp[DenW])
    | l d=>exact d2.elim
end
def start0 (n:Nat) (ds:List D):Ev:=ds.map (fun d=>some (.v d))++List.replicate (n-ds.length) none
def runD (np n:Nat) (G:FS):List D->Option W:=fun ds=>if ds.length=np then match G (start0 n ds) with
 | some (.rt w _)=>some w
 | some (.nx _)=>some (.v .non)
 | _=>none else none
def runL (np n:Nat) (G:FS):D->List D->Option (W×D):=fun c ds=>if ds.length+1=np then match G (some (.l c)::start0 (n-1) ds) with
 | some (.rt w ρ)=>(ownAt ρ 0).map fun c'=>(w,c')
 | some (.nx ρ)=>(ownAt ρ 0).map fun c'=>(.v .non,c')
 | _=>none else none
section
variable {P:Program}{w:World}{K:PySem.W.Frag}{mg:Str->Option Value}{base:Heap}
theorem E2 {n i:Nat}{ds:List D}{w:W}(e:(start0 n ds)[i]? =some (some w)):∃d,ds[i]? =some d/\w= .v d:=by
 unfold start0 at e
 by_cases hi:i<ds.length
 ·rw[zW (by simpa using hi),qF] at e
  cases q:ds[i]? with
  | none=>rw[q] at e;cases e
  | some d0=>rw[q] at e;cases e;exact⟨d0,rfl,rfl⟩
 ·rw[qC (by simpa using hi),List.getElem?_replicate] at e
  split at e<;>cases e
theorem a2s {X:Cx}{ds:List D}{vs:List V}{n:Nat}{N:List Str}{H:Hp}{A:Av}(hH:X.H₀=H)(hN:N.length=n)(hA:∀b,A b->∃o,H b=some o)(l:DenL X.K A H ds vs):Rep X [] A [] (start0 n ds) (start N vs) H where
 same:=fun b o e _=>by rw[<-hH];exact e
 amb:=fun b z=>by rw[hH];exact⟨hA b z,fun i=>by simp⟩
 len:=by unfold start0 L2.start;simp[c5 l,hN]
 slot:=fun i w e=>by
  obtain⟨d,q,rfl⟩:=E2 e;obtain⟨v,h1,h2⟩:=A1 l q;refine⟨v,?_,m7 (A6 fun b z=>?_) _ _ h2⟩
  ·unfold L2.start;rw[zW (by have:=(zM.mp h1).1;simpa using this),qF,h1];rfl
  ·rcases z with z|⟨j,w,c,e1,e2,e3⟩
   ·exact z
   ·obtain⟨d',q',rfl⟩:=E2 e1;cases e2
 inj:=fun i j w w' d d' b e1 e2=>by obtain⟨_,_,rfl⟩:=E2 e1;cases e2
 new:=fun i d b e=>by obtain⟨_,_,z⟩:=E2 e;cases z
 lnt:=fun i d e=>by obtain⟨_,_,z⟩:=E2 e;cases z
 lnd:=fun i b e=>by simp at e
 prot:=fun p hp=>by cases hp
 gvl:=fun b e=>by simp at e
theorem t6 {x:Str}{st:Stmt}{f:Addr}{fd:FuncData}{N ps:List Str}{k np n:Nat}{G:FS}(F:Fun K x x st f fd)(S:FnScope N ps (defScope st))(B:Binds K fd ps [])(hm:mg x=some (.ref f))(hp:ps.length=np)(hn:N.length=n)
  (body:∀(cdv:Value) (A:Around) (outer:List Env) (s:Shared) (H:Hp) (E:XK),Room k (A.deeper (envOfC x (defScope st) s.heap.objs.size f cdv))->
   QSs (cxOf CX0 P w K mg base N x (defScope st) f cdv A outer s H E).nox (defBody st) G):Fn P w K mg base x (k+1) (runD np n G):=by
 refine⟨f,fd,ps,F.ok S (fun vs H Q E h0=>?_) (fun cdv A outer s H vs Q E hr h0=>⟨_,(body cdv A outer s H E hr).to,?_⟩),B,F.kp,hm⟩
 ·obtain⟨A,ds,d,hA,l,e,q⟩:=h0;unfold runD at e;split at e
  ·rename_i hl;rw[<-c5 l,hl,hp]
  ·cases e
 ·obtain⟨A',ds,d,hA,l,e,q⟩:=h0;unfold runD at e;split at e
  ·rename_i hl;cases e1:G (start0 n ds) with
   | none=>rw[e1] at e;cases e
   | some r=>
    rw[e1] at e;refine⟨[],A',[],_,r,a2s rfl hn hA l,e1,?_⟩;have hz:∀{w:W} {v:V} {H':Hp},DenW K (A0 A' []) [] H H' w v->DenW K A' [] H H' w v:=fun{w v H'} h=>by
     have e0:A0 A' []=A':=funext fun b=>propext ⟨fun z=>z.elim id fun⟨i,z⟩=>by simp at z,.inl⟩
     rw[e0] at h;exact h
    cases r with
    | rt w ρ'=>cases e;exact fun v H' s' _ d1=>q v H' (fun b o eb=>s' b o eb fun i=>by simp) (hz d1)
    | nx ρ'=>cases e;exact fun σ' H' rp'=>q .non H' (fun b o eb=>rp'.same b o eb fun i=>by simp) a3B
    | bk ρ'=>cases e
    | ct ρ'=>cases e
  ·cases e
end
@[elab_as_elim] theorem us1 {α:Type} {C:List α->Prop} {us:List α} (h:us.length=1) (k:∀a,C [a]):C us:=by
 match us,h with
 | [a],_=>exact k a
@[elab_as_elim] theorem us2 {α:Type} {C:List α->Prop} {us:List α} (h:us.length=2) (k:∀a b,C [a,b]):C us:=by
 match us,h with
 | [a,b],_=>exact k a b
section
variable {X:Cx}{a b e:Expr}{es:List Expr}{pos:Pos}{f g h:FX}{t u:FT}
theorem a0O {K:PySem.W.Frag}{A:Av}{H:Hp}{i:Bool}{v:V}(h:DenR K A H (.bl i) v):v= .bl i:=by
 have h:Den K A H (.bl i) v:=h;exact a1n.mp h
theorem q9 {K:PySem.W.Frag}{A:Av}{H:Hp}{i:Str}{v:V}(h:DenR K A H (.str i) v):v= .str i:=by
 have h:Den K A H (.str i) v:=h;exact C3.mp h
theorem a1m {K:PySem.W.Frag}{A:Av}{H:Hp}{v:V}(h:DenR K A H .non v):v= .non:=by
 have h:Den K A H .non v:=h;exact a5f.mp h
def tyD:D->String
 | .non=>"NoneType"
 | .bl _=>"bool"
 | .int _=>"int"
 | .str _=>"str"
 | .tup _=>"tuple"
 | .dT _ _=>"dict"
 | .dK _ _=>"dict"
 | _=>"list"
def isX:D->Bool
 | .exn _=>true
 | _=>false
def isiB (T:String) (d:D):Bool:=tyD d==T||(tyD d == "bool" && T == "int")
def Kit (K:PySem.W.Frag) (T:String):Prop:=∀d:D,PySem.W.kitOne K (.type (tyD d)) (.type T)=some (isiB T d)
theorem S6 {K:PySem.W.Frag}{T:String}(h:T="int"\/T="bool"\/T="str"\/T="tuple"\/T="list"):Kit K T:=by
 rcases h with h|h|h|h|h<;>subst h<;>intro d<;>cases d<;>rfl
theorem a8W {T:String}(hk:Kit X.K T):CallR X (.builtin "isinstance") (fun xs H Q=>∃x A d,xs=[x,.ty T]/\isX d=false/\DenR X.K A H d x/\Q (.bl (isiB T d)) H):=by
 intro pins s σ H xs us Q I r h;obtain⟨x,A,d,rfl,nx,hd,q⟩:=h;obtain⟨u,w,rfl,ru,rw'⟩:=vals2 r;cases(show w=Value.type T from rw');have e:=hk d;have fin:∀tk,EP X pins σ Q (.bool (isiB T d)) {s with toks:=tk}:=fun tk=>⟨.bl _,H,I.tok _,rfl,q⟩
 cases d with
 | non=>have hd:=a1m hd;subst hd;cases(show u=Value.none from ru);exact jK PySem.W.kitx_none I.kIn True.intro e (fun z=>nomatch z) fin
 | bl y=>have hd:=a0O hd;subst hd;cases(show u=Value.bool y from ru);exact jK PySem.W.kitx_bool I.kIn True.intro e (fun z=>nomatch z) fin
 | int i=>have hd:=h7 hd;subst hd;obtain⟨t,z⟩:=(show ∃t,u=Value.int i t from ru);cases z;exact jK PySem.W.kitx_int I.kIn True.intro e (fun z=>nomatch z) fin
 | str y=>have hd:=q9 hd;subst hd;obtain⟨t,z⟩:=(show ∃t,u=Value.str y t from ru);cases z;exact jK PySem.W.kitx_str I.kIn True.intro e (fun z=>nomatch z) fin
 | tup ys=>
  have hd:Den X.K A H (.tup ys) x:=hd;rw[Den] at hd;obtain⟨a,vs,rfl,hq,_⟩:=hd;cases(show u=Value.ref a from ru);obtain⟨its,_,p,_⟩:=I.tuple hq;obtain⟨o,h1,h2,_⟩:=p;exact jK PySem.W.kitx_tuple I.kIn ⟨o,h1,h2⟩ e (fun z=>nomatch z) fin
 | lst ys=>
  obtain⟨a,vs,rfl,hq,_⟩:=hd;cases(show u=Value.ref a from ru);obtain⟨its,_,p,_⟩:=I.list hq;obtain⟨o,n,h1,h2,_⟩:=p;exact jK PySem.W.kitx_list I.kIn ⟨o,h1,h2⟩ e (fun z=>nomatch z) fin
 | dK ks ys=>
  obtain⟨a,vs,rfl,hq,_⟩:=hd;cases(show u=Value.ref a from ru);obtain⟨_,_,vs,_,p⟩:=(show ObjOk X.prog X.w H s.heap a (.dK _) from I.hok a _ hq);obtain⟨o,es,h1,h2,_⟩:=p;exact jK PySem.W.kitx_dict I.kIn ⟨o,h1,h2.1⟩ e (fun z=>nomatch z) fin
 | dT ks ys=>
  obtain⟨a,vs,rfl,hq,_⟩:=hd;cases(show u=Value.ref a from ru);obtain⟨_,_,xs,_,o,es,h1,h2,_⟩:=(show ObjOk X.prog X.w H s.heap a (.dT _) from I.hok a _ hq);exact jK PySem.W.kitx_dict I.kIn ⟨o,h1,h2.1⟩ e (fun z=>nomatch z) fin
 | exn C=>cases nx
def oIsi (T:String) (d:D):Option W:=if isX d=true then none else some (.v (.bl (isiB T d)))
theorem T4 {T:String}{x:Str}{p p2:Pos}(hk:Kit X.K T)(hm:X.mg "isinstance"=none)(hmT:X.mg x=none)(ha:QX X e f)(hT:bootBuiltins x=some (.type T):=by rfl)(hb:bootBuiltins "isinstance"=some (.builtin "isinstance"):=by rfl)(hg:Gl X "isinstance":=by rfl)(hgT:Gl X x:=by rfl)(hn:x≠"__name__":=by decide)(hdb:(x==("__debug__":Str))=false:=by decide)
  (he:starEach [e,.Name x p2] X.env=(false,eval e X.env)::starEach [.Name x p2] X.env:=by rfl) (hpl:(backTo pos (starEach [.Name x p2] X.env)).any (·.1)=false:=by rfl) (hs:starEach [.Name x p2] X.env=(false,eval (.Name x p2) X.env)::starEach [] X.env:=by rfl):QX X (.Call (.Name "isinstance" p) [e,.Name x p2] [] pos) (fUn (oIsi T) f):=
 ⟨PE.weak (a3O (a8W hk) hg hm hb (Y5 ha.to (Y5 (a9V (v:=.ty T) hgT hmT hT rfl hn hdb) a0T hs) he) (by decide) (by decide) he hpl) fun σ H Q h=>
  a5u (r:=fun v H Q=>∃x A d,[v,V.ty T]=[x,.ty T]/\isX d=false/\DenR X.K A H d x/\Q (.bl (isiB T d)) H) (fun A x w v H Q _ e hx q=>by
   unfold oIsi at e;split at e
   ·cases e
   ·rename_i nx;cases e;exact⟨v,A,x,rfl,by simpa using nx,hx,q _ H (Same.refl H) C1⟩) σ H Q h⟩
def isD:D->D->Option Bool
 | .non,.non=>some true
 | d,.non=>some false
 | .bl a,.bl b=>some (a==b)
 | _,.bl _=>some false
 | _,_=>none
theorem is_of {M:Model}{A:Around}{E:Value->Shared->Prop}{s:Shared}{x y:Value}{k:Bool}{Q:Value->Shared->Prop}(h:isSame x y=pure k)(q:Q (.bool k) s):wpAny M A (compareOp .Is x y) Q E s:=by
 show wpAny M A (isSame x y >>=fun b=>pure (Value.bool b)) Q E s;rw[h];exact zB q
theorem a7h {K:PySem.W.Frag}{A:Av}{H:Hp}{x:D}{v:V}{vv:Value}(hx:DenR K A H x v)(rx:RelV v vv):(x= .non/\vv= .none)\/(∃b,x= .bl b/\vv= .bool b)\/(∃i t,x= .int i/\vv= .int i t)\/(∃y t,x= .str y/\vv= .str y t)\/((∀b,x≠.bl b)/\x≠.non/\∃a,v= .ref a/\vv= .ref a):=by
 cases x with
 | non=>have h:=a1m hx;subst h;exact .inl ⟨rfl,rx⟩
 | bl b=>have h:=a0O hx;subst h;exact .inr (.inl ⟨b,rfl,rx⟩)
 | int i=>have h:=h7 hx;subst h;obtain⟨t,e⟩:=(show ∃t,vv=Value.int i t from rx);exact .inr (.inr (.inl ⟨i,t,rfl,e⟩))
 | str i=>have h:=q9 hx;subst h;obtain⟨t,e⟩:=(show ∃t,vv=Value.str i t from rx);exact .inr (.inr (.inr (.inl ⟨i,t,rfl,e⟩)))
 | tup xs=>
  have hx:Den K A H (.tup xs) v:=hx;rw[Den] at hx;obtain⟨a,vs,rfl,_⟩:=hx;exact .inr (.inr (.inr (.inr ⟨nofun,nofun,a,rfl,rx⟩)))
 | lst xs=>obtain⟨a,vs,rfl,_⟩:=hx;exact .inr (.inr (.inr (.inr ⟨nofun,nofun,a,rfl,rx⟩)))
 | dT ks xs=>obtain⟨a,vs,rfl,_⟩:=hx;exact .inr (.inr (.inr (.inr ⟨nofun,nofun,a,rfl,rx⟩)))
 | dK ks xs=>obtain⟨a,vs,rfl,_⟩:=hx;exact .inr (.inr (.inr (.inr ⟨nofun,nofun,a,rfl,rx⟩)))
 | exn C=>
  have hx:Den K A H (.exn C) v:=hx;rw[Den] at hx;obtain⟨a,rfl,_⟩:=hx;exact .inr (.inr (.inr (.inr ⟨nofun,nofun,a,rfl,rx⟩)))
theorem a9F {K:PySem.W.Frag}{A:Av}{H:Hp}{x y:D}{v u:V}{vv uu:Value}{k:Bool}(e:isD x y=some k)(hx:DenR K A H x v)(hy:DenR K A H y u)(rx:RelV v vv)(ry:RelV u uu):isSame vv uu=pure k:=by
 cases y with
 | non=>
  have hy:=a1m hy;subst hy;cases(show uu=Value.none from ry);rw[PySem.isSame_none];rcases a7h hx rx with ⟨rfl,rfl⟩|⟨b,rfl,rfl⟩|⟨i,t,rfl,rfl⟩|⟨i,t,rfl,rfl⟩|⟨n1,n2,a,rfl,rfl⟩
  ·cases e;rfl
  ·cases e;rfl
  ·cases e;rfl
  ·cases e;rfl
  ·cases x<;>simp only[isD] at e<;>first|(cases e;rfl)|exact absurd rfl n2
 | bl q=>
  have hy:=a0O hy;subst hy;cases(show uu=Value.bool q from ry);rcases a7h hx rx with ⟨rfl,rfl⟩|⟨b,rfl,rfl⟩|⟨i,t,rfl,rfl⟩|⟨i,t,rfl,rfl⟩|⟨n1,n2,a,rfl,rfl⟩
  ·cases e;rfl
  ·cases e;cases b<;>cases q<;>rfl
  ·cases e;rfl
  ·cases e;rfl
  ·cases x<;>simp only[isD] at e<;>first|(cases e;rfl)|exact absurd rfl (n1 _)
 | _=>cases x<;>simp only[isD] at e<;>cases e
def rD2 (K:PySem.W.Frag) (t:D->D->Option Bool) (neg:Bool):R2:=fun v u H Q=>∃A x y k,t x y=some k/\DenR K A H x v/\DenR K A H y u/\Q (.bl (if neg then !k else k)) H
def oD2 (t:D->D->Option Bool) (neg:Bool) (x y:D):Option W:=(t x y).map fun k=>.v (.bl (if neg then !k else k))
theorem kD2 {t:D->D->Option Bool}{neg:Bool}:Pr2 X (oD2 t neg) (rD2 X.K t neg):=by
 intro A x y w v u H Q _ e hx hy q;unfold oD2 at e;cases e1:t x y with
 | none=>rw[e1] at e;cases e
 | some k=>rw[e1] at e;cases e;exact⟨A,x,y,k,e1,hx,hy,q _ H (Same.refl H) C1⟩
theorem b1V:OpR X (compareOp .Is) (rD2 X.K isD false):=by
 intro pins s σ H x y v u Q I rx ry ⟨A,dx,dy,k,e,hx,hy,q⟩;exact is_of (a9F e hx hy rx ry) ⟨.bl k,H,I,rfl,q⟩
theorem a76 (ha:QX X a f)(hb:QX X b g):QT X (.Compare a [.Is] [b] pos) (fTest (fBin (oD2 isD false) f g)):=a0l b1V kD2 ha hb
def flatE:D->D->Option Bool
 | .non,.non=>some true
 | .non,.int _=>some false
 | .int _,.non=>some false
 | .bl a,.bl b=>some (a==b)
 | .bl a,.int b=>some ((if a then 1 else 0)==b)
 | .int a,.bl b=>some (a==(if b then 1 else 0))
 | .int a,.int b=>some (a==b)
 | .str a,.str b=>some (a==b)
 | _,_=>none
def deqL (eq:D->D->Option Bool):List D->List D->Option Bool
 | [],[]=>some true
 | [],_::_=>some false
 | _::_,[]=>some false
 | x::xs,y::ys=>(eq x y).bind fun p=>(deqL eq xs ys).map fun q=>p&&q
def deq:Nat->D->D->Option Bool
 | 0,x,y=>flatE x y
 | n+1,.tup xs,.tup ys=>deqL (deq n) xs ys
 | n+1,.lst xs,.lst ys=>deqL (deq n) xs ys
 | _+1,x,y=>flatE x y
theorem a5q {K:PySem.W.Frag}{A:Av}{H:Hp}{x y:D}{v u:V}{k:Bool}(e:flatE x y=some k)(hx:DenR K A H x v)(hy:DenR K A H y u):Den K A H x v/\Den K A H y u:=by
 cases x<;>cases y<;>simp only[flatE] at e<;>cases e<;>exact⟨hx,hy⟩
theorem a2I {K:PySem.W.Frag}{O:Av}{H:Hp}{A:Around}{s:Shared}{x y:D}{v u:V}{vv uu:Value}{k:Bool}(e:flatE x y=some k)(hx:DenR K O H x v)(hy:DenR K O H y u)(rx:RelV v vv)(ry:RelV u uu):SeqAt.EqAt A s vv uu k/\SeqAt.RcAt A s vv uu k/\SeqAt.RcNeAt A s vv uu (!k):=by
 obtain⟨hx,hy⟩:=a5q e hx hy;cases x<;>cases y<;>simp only[flatE] at e<;>cases e<;>rw[Den] at hx<;>rw[Den] at hy<;>subst hx<;>subst hy
 ·cases(show vv=Value.none from rx);cases(show uu=Value.none from ry);exact⟨.same _,.none_none,.none_none⟩
 ·cases(show vv=Value.none from rx);obtain⟨t,z⟩:=(show ∃t,uu=Value.int _ t from ry);cases z;exact⟨.none_int _ _,.none_int _ _,.none_int _ _⟩
 ·cases(show vv=Value.bool _ from rx);cases(show uu=Value.bool _ from ry);exact⟨.bool_bool _ _,.bool_bool _ _,.bool_bool _ _⟩
 ·cases(show vv=Value.bool _ from rx);obtain⟨t,z⟩:=(show ∃t,uu=Value.int _ t from ry);cases z;exact⟨.bool_int _ _ _,.bool_int _ _ _,.bool_int _ _ _⟩
 ·cases(show uu=Value.none from ry);obtain⟨t,z⟩:=(show ∃t,vv=Value.int _ t from rx);cases z;exact⟨.int_none _ _,.int_none _ _,.int_none _ _⟩
 ·cases(show uu=Value.bool _ from ry);obtain⟨t,z⟩:=(show ∃t,vv=Value.int _ t from rx);cases z;exact⟨.int_bool _ _ _,.int_bool _ _ _,.int_bool _ _ _⟩
 ·obtain⟨t,z⟩:=(show ∃t,vv=Value.int _ t from rx);cases z;obtain⟨t,z⟩:=(show ∃t,uu=Value.int _ t from ry);cases z;exact⟨.int_int _ _ _ _,.int_int _ _ _ _,.int_int _ _ _ _⟩
 ·obtain⟨t,z⟩:=(show ∃t,vv=Value.str _ t from rx);cases z;obtain⟨t,z⟩:=(show ∃t,uu=Value.str _ t from ry);cases z;exact⟨.str_str _ _ _ _,.str_str _ _ _ _,.str_str _ _ _ _⟩
theorem a2m {K:PySem.W.Frag}{O:Av}{H:Hp}{x y:D}{v:V}{k:Bool}(e:flatE x y=some k)(hx:DenR K O H x v)(hy:DenR K O H y v):k=true:=by
 obtain⟨hx,hy⟩:=a5q e hx hy;cases x<;>cases y<;>simp only[flatE] at e<;>cases e<;>rw[Den] at hx<;>rw[Den] at hy
 all_goals first
  | rfl
  | (rw[hx] at hy;cases hy;simp)
  | (rw[hx] at hy;cases hy)
theorem a2M {K:PySem.W.Frag}{O:Av}{H:Hp}{A:Around}{s:Shared}{eq:D->D->Option Bool}(hq:∀x y v u vv uu k,eq x y=some k->Den K O H x v->Den K O H y u->RelV v vv->RelV u uu->SeqAt.EqAt A s vv uu k):
  ∀{xs ys:List D} {vs us:List V} {its jts:List Value} {k:Bool},deqL eq xs ys=some k->DenL K O H xs vs->DenL K O H ys us->Vals vs its->Vals us jts->
   ∃e:Nat->Bool,(∀j (h1:j<its.toArray.size) (h2:j<jts.toArray.size),SeqAt.EqAt A s its.toArray[j] jts.toArray[j] (e j))/\k=((List.range (min its.toArray.size jts.toArray.size)).all e&&its.toArray.size==jts.toArray.size)
 | [],[],vs,us,its,jts,k,e,hx,hy,rx,ry=>by
  rw[DenL] at hx hy;subst hx;subst hy;cases rx;cases ry;cases e;exact⟨fun _=>true,fun j h1 h2=>absurd h1 (by simp),rfl⟩
 | [],y::ys,vs,us,its,jts,k,e,hx,hy,rx,ry=>by
  rw[DenL] at hx;rw[DenL] at hy;subst hx;obtain⟨u,r,rfl,_,_⟩:=hy;cases rx;cases ry;cases e;exact⟨fun _=>true,fun j h1 h2=>absurd h1 (by simp),by simp⟩
 | x::xs,[],vs,us,its,jts,k,e,hx,hy,rx,ry=>by
  rw[DenL] at hx;rw[DenL] at hy;subst hy;obtain⟨u,r,rfl,_,_⟩:=hx;cases rx;cases ry;cases e;exact⟨fun _=>true,fun j h1 h2=>absurd h2 (by simp),by simp⟩
 | x::xs,y::ys,vs,us,its,jts,k,e,hx,hy,rx,ry=>by
  rw[DenL] at hx hy;obtain⟨v,r,rfl,dx,lx⟩:=hx;obtain⟨u,q,rfl,dy,ly⟩:=hy;cases rx with
  | cons r1 rs1=>
   cases ry with
   | cons r2 rs2=>
    rw[deqL] at e;cases e1:eq x y with
    | none=>rw[e1] at e;cases e
    | some p=>
     cases e2:deqL eq xs ys with
     | none=>rw[e1,e2] at e;cases e
     | some q2=>
      rw[e1,e2] at e;cases e;obtain⟨w,h1,h2⟩:=a2M hq e2 lx ly rs1 rs2;refine⟨fun j=>if j=0 then p else w (j-1),fun j g1 g2=>?_,?_⟩
      ·cases j with
       | zero=>simpa using hq x y v u _ _ p e1 dx dy r1 r2
       | succ j=>
        have z:=h1 j (by simpa using g1) (by simpa using g2)
        simp only[List.getElem_toArray] at z ⊢;simpa using z
      ·rw[h2];simp only[zU,zZ];rw[show min (_+1) (_+1)=min _ _+1 from Nat.succ_min_succ _ _,List.range_succ_eq_map,List.all_cons,List.all_map];simp[Function.comp_def,Bool.and_assoc]
theorem Z3 {K:PySem.W.Frag}{O:Av}{H:Hp}{eq:D->D->Option Bool}(hq:∀x y v k,eq x y=some k->Den K O H x v->Den K O H y v->k=true):
  ∀{xs ys:List D} {vs:List V} {k:Bool},deqL eq xs ys=some k->DenL K O H xs vs->DenL K O H ys vs->k=true
 | [],[],vs,k,e,hx,hy=>by cases e;rfl
 | [],y::ys,vs,k,e,hx,hy=>by have:=c5 hx;have:=c5 hy;simp at *;walk_at "o"
 | x::xs,[],vs,k,e,hx,hy=>by have:=c5 hx;have:=c5 hy;simp at *;walk_at "o"
 | x::xs,y::ys,vs,k,e,hx,hy=>by
  rw[DenL] at hx hy;obtain⟨v,r,rfl,dx,lx⟩:=hx;obtain⟨u,q,e0,dy,ly⟩:=hy;cases e0;rw[deqL] at e;cases e1:eq x y with
  | none=>rw[e1] at e;cases e
  | some p=>
   cases e2:deqL eq xs ys with
   | none=>rw[e1,e2] at e;cases e
   | some q2=>
    rw[e1,e2] at e;cases e;rw[hq x y v p e1 dx dy,Z3 hq e2 lx ly];rfl
theorem a2j {n:Nat}{x y:D}{k:Bool}(e:deq (n+1) x y=some k):flatE x y=some k\/(∃xs ys,x= .tup xs/\y= .tup ys/\deqL (deq n) xs ys=some k)\/∃xs ys,x= .lst xs/\y= .lst ys/\deqL (deq n) xs ys=some k:=by
 cases x<;>cases y<;>first
  | exact .inl e
  | exact .inr (.inl ⟨_,_,rfl,rfl,e⟩)
  | exact .inr (.inr ⟨_,_,rfl,rfl,e⟩)
theorem B8 {K:PySem.W.Frag}{O:Av}{H:Hp}{xs:List D}{v:V}(h:DenR K O H (.tup xs) v):∃a vs,v= .ref a/\SqT K H a vs/\DenL K O H xs vs:=by
 have h:Den K O H (.tup xs) v:=h;rw[Den] at h;exact h
theorem a3C {O:Av}{pins:List (Addr×PySem.Obj)}{σ:L2.St}{H:Hp}{s:Shared}(I:Inv X pins σ H s):∀(n:Nat) (x y:D) (v:V) (k:Bool),deq n x y=some k->DenR X.K O H x v->DenR X.K O H y v->k=true
 | 0,x,y,v,k,e,hx,hy=>a2m e hx hy
 | n+1,x,y,v,k,e,hx,hy=>by
  have hs:∀x y v k,deq n x y=some k->Den X.K O H x v->Den X.K O H y v->k=true:=fun x y v k e hx hy=>a3C I n x y v k e (G3 hx) (G3 hy);rcases a2j e with e|⟨xs,ys,rfl,rfl,e⟩|⟨xs,ys,rfl,rfl,e⟩
  ·exact a2m e hx hy
  ·obtain⟨a,vs,rfl,q1,l1⟩:=B8 hx;obtain⟨b,us,z,q2,l2⟩:=B8 hy;cases z;rw[I.tuple_inj q2 q1] at l2;exact Z3 hs e l1 l2
  ·obtain⟨a,vs,rfl,q1,l1⟩:=hx;obtain⟨b,us,z,q2,l2⟩:=hy;cases z;rw[I.list_inj q2 q1] at l2;exact Z3 hs e l1 l2
theorem a4k {O:Av}{pins:List (Addr×PySem.Obj)}{σ:L2.St}{H:Hp}{s:Shared}(I:Inv X pins σ H s):∀(n:Nat) (A:Around),A.units+n+1<cLine->∀(x y:D) (v u:V) (vv uu:Value) (k:Bool),deq n x y=some k->DenR X.K O H x v->DenR X.K O H y u->RelV v vv->RelV u uu->
  SeqAt.EqAt A s vv uu k/\SeqAt.RcAt A s vv uu k/\SeqAt.RcNeAt A s vv uu (!k)
 | 0,A,hA,x,y,v,u,vv,uu,k,e,hx,hy,rx,ry=>a2I e hx hy rx ry
 | n+1,A,hA,x,y,v,u,vv,uu,k,e,hx,hy,rx,ry=>by
  have hin:∀x y v u vv uu k,deq n x y=some k->Den X.K O H x v->Den X.K O H y u->RelV v vv->RelV u uu->SeqAt.EqAt A.in1 s vv uu k:=fun x y v u vv uu k e hx hy rx ry=>(a4k I n A.in1 (by show A.units+1+n+1<_;walk_at "o") x y v u vv uu k e (G3 hx) (G3 hy) rx ry).1
  have hu:A.units<cLine:=by walk_at "o"
  have done:∀(p q:Addr),v= .ref p->u= .ref q->SeqAt.RcAt A s (.ref p) (.ref q) k->SeqAt.RcNeAt A s (.ref p) (.ref q) (!k)->SeqAt.EqAt A s vv uu k/\SeqAt.RcAt A s vv uu k/\SeqAt.RcNeAt A s vv uu (!k):=fun p q ev eu rc rn=>by
   subst ev;subst eu;cases(show vv=Value.ref p from rx);cases(show uu=Value.ref q from ry);refine⟨?_,rc,rn⟩
   by_cases pq:p=q
   ·subst pq;rw[a3C I (n+1) x y _ k e hx hy];exact .same _
   ·exact .of_refs pq rc
  rcases a2j e with e|⟨xs,ys,rfl,rfl,e⟩|⟨xs,ys,rfl,rfl,e⟩
  ·exact a2I e hx hy rx ry
  ·obtain⟨p,vs,ev,q1,l1⟩:=B8 hx;obtain⟨q,us,eu,q2,l2⟩:=B8 hy;obtain⟨its,r1,t1,_⟩:=I.tuple q1;obtain⟨jts,r2,t2,_⟩:=I.tuple q2;obtain⟨w,h1,h2⟩:=a2M hin e l1 l2 r1 r2;refine done p q ev eu ?_ ?_
   ·rw[h2];exact SeqAt.RcAt.tuples t1 t2 hu h1
   ·rw[h2];exact SeqAt.RcNeAt.tuples t1 t2 hu h1
  ·obtain⟨p,vs,ev,q1,l1⟩:=id hx;obtain⟨q,us,eu,q2,l2⟩:=id hy;obtain⟨its,r1,t1,_⟩:=I.list q1;obtain⟨jts,r2,t2,_⟩:=I.list q2;obtain⟨w,h1,h2⟩:=a2M hin e l1 l2 r1 r2
   by_cases sz:its.toArray.size=jts.toArray.size
   ·have r1:=SeqAt.RcAt.lists t1.isList t2.isList sz hu h1;have r2:=SeqAt.RcNeAt.lists t1.isList t2.isList sz hu h1;rw[sz,Nat.min_self,show(jts.toArray.size==jts.toArray.size)=true by simp,Bool.and_true] at h2
    rw[sz,<-h2] at r1 r2;exact done p q ev eu r1 r2
   ·have r1:=SeqAt.RcAt.lists_lengths (A:=A) t1.isList t2.isList (by simpa using sz) hu
    have r2:=SeqAt.RcNeAt.lists_lengths (A:=A) t1.isList t2.isList (by simpa using sz) hu
    rw[show(its.toArray.size==jts.toArray.size)=false by simpa using sz,Bool.and_false] at h2
    subst h2;exact done p q ev eu r1 r2
theorem a8N {k:Nat}(hr:Room k X.A):OpR X (compareOp .Eq) (rD2 X.K (deq 20) false):=by
 intro pins s σ H x y v u Q I rx ry ⟨A,dx,dy,k,e,hx,hy,q⟩
 have:=(a4k I 20 X.A (by have:=hr.units;walk_at "o") dx dy x y v u k e hx hy rx ry).2.1
 exact this X.prog X.w X.xe _ ⟨.bl k,H,I,rfl,q⟩
theorem b1v {k:Nat}(hr:Room k X.A):OpR X (compareOp .NotEq) (rD2 X.K (deq 20) true):=by
 intro pins s σ H x y v u Q I rx ry ⟨A,dx,dy,k,e,hx,hy,q⟩
 have:=(a4k I 20 X.A (by have:=hr.units;walk_at "o") dx dy x y v u k e hx hy rx ry).2.2
 exact this X.prog X.w X.xe _ ⟨.bl (!k),H,I,rfl,q⟩
theorem b04 {k:Nat}(hr:Room k X.A)(ha:QX X a f)(hb:QX X b g):QX X (.Compare a [.Eq] [b] pos) (fBin (oD2 (deq 20) false) f g):=a4n (a8N hr) kD2 ha hb
theorem a2z {k:Nat}(hr:Room k X.A)(ha:QX X a f)(hb:QX X b g):QT X (.Compare a [.Eq] [b] pos) (fTest (fBin (oD2 (deq 20) false) f g)):=a0l (a8N hr) kD2 ha hb
theorem M0 {k:Nat}(hr:Room k X.A)(ha:QX X a f)(hb:QX X b g):QT X (.Compare a [.NotEq] [b] pos) (fTest (fBin (oD2 (deq 20) true) f g)):=a0l (b1v hr) kD2 ha hb
end
section
variable {prog:Program}{w:World}{A:Around}{R:Result->Shared->Prop}{s:Shared}
abbrev Fa:Value->Shared->Prop:=fun _ _=>False
theorem a5S {elt tg iter:Expr}{ifs:List Expr}{scope:Scope}{pos:Pos}{it acc:Value}{env:Env}(I:Nat->Shared->Prop)
  (turn:∀n s,I n s->wpAny (model prog w) A (pyNext it) (fun r s1=>match r with
   | none=>R (.ok .next) s1
   | some v=>wpAny (model prog w) A (letOwnedTupleGo tg it v) (fun _ s2=>wpAny (model prog w) A (assign tg env v) (fun _ s3=>
     wpAny (model prog w) A (forIn ifs true fun c r=>if r=true then do let ok <-isTrue c env (eval c env);pure (ForInStep.yield ok) else pure (ForInStep.yield r)) (fun ok s4=>
      if ok=true then wpAny (model prog w) A (eval elt env) (fun x s5=>wpAny (model prog w) A (call (.builtin "list.append") [acc,x]) (fun _ s6=>∃m,m<n/\I m s6) Fa s5) Fa s4
      else ∃m,m<n/\I m s4) Fa s3) Fa s2) Fa s1) Fa s)
  (n:Nat) (h:I n s):codeAny (model prog w) A (.compLoop (.ListComp elt [⟨tg,iter,ifs,0⟩] scope pos) 0 it acc env) R s:=by
 refine codeAny_loop rfl I (fun n s hI=>?_) n h;show wpAny _ A ((compTurn (.ListComp elt [⟨tg,iter,ifs,0⟩] scope pos) 0 it acc env).onRaise (fun x=>do noteFrame x env;theTreesLotGoes x)) _ _ s
 refine wpAny_noted ?_;rw[compTurn_list];refine zA (wpAny_standAt (zA (zY (turn n s hI) (fun r s1 h1=>?_) fun _ _ z=>z.elim)));cases r with
 | none=>exact zB h1
 | some v=>
  refine zA (zY h1 (fun _ s2 h2=>zA (zY h2 (fun _ s3 h3=>zA (zY h3 (fun ok s4 h4=>?_) fun _ _ z=>z.elim)) fun _ _ z=>z.elim)) fun _ _ z=>z.elim);cases ok with
  | true=>
   rw[if_pos rfl] at h4 ⊢;exact zA (zA (zY h4 (fun x s5 h5=>zA (zY h5 (fun _ s6 h6=>zB (zB ⟨rfl,h6⟩)) fun _ _ z=>z.elim)) fun _ _ z=>z.elim))
  | false=>
   rw[if_neg zS] at h4 ⊢;exact zA (zB (zB ⟨rfl,h4⟩))
end
def blk (X:Cx) (scope:Scope) (cl:List (Str×Addr)) (s2:Shared) (H2:Hp) (fp:List Addr) (C:Addr) (N:List Str):Cx where
 prog:=X.prog
 w:=X.w
 K:=X.K
 mg:=X.mg
 base:=X.base
 A:=X.A
 N:=N
 s₀:=s2
 H₀:=H2
 env:=compEnvC scope cl C X.env
 outer:=X.stack
 stack:=X.stack
 ex:=fp
 fn:=fun _=>false
 calm:=X.calm
 pn:=[]
 xe:=fun _ _=>False
abbrev accN:Str:=" acc"
inductive Cap (X:Cx) (sc:Scope) (cl:List (Str×Addr)):List Str->List (Option Nat)->Prop where
 | nil:Cap X sc cl [] []
 | own {n:Str} {N:List Str} {js:List (Option Nat)} (t:Cap X sc cl N js):Cap X sc cl (n::N) (none::js)
 | cap {n:Str} {N:List Str} {j:Nat} {js:List (Option Nat)} (hj:X.N[j]? =some n) (hk:X.env.scope.names.lookup n=some .cell) (hl:sc.names.lookup n=some .cell) (hc:cl.lookup n=X.env.cells.lookup n) (t:Cap X sc cl N js):Cap X sc cl (n::N) (some j::js)
theorem Cap.len {X:Cx}{sc:Scope}{cl:List (Str×Addr)}{N:List Str}{js:List (Option Nat)}(h:Cap X sc cl N js):js.length=N.length:=by
 induction h with
 | nil=>rfl
 | own t ih=>simp[ih]
 | cap _ _ _ _ t ih=>simp[ih]
theorem Cap.get {X:Cx}{sc:Scope}{cl:List (Str×Addr)}{N:List Str}{js:List (Option Nat)}(h:Cap X sc cl N js):∀{i j:Nat} {n:Str},N[i]? =some n->js[i]? =some (some j)->X.N[j]? =some n/\X.env.scope.names.lookup n=some .cell/\sc.names.lookup n=some .cell/\cl.lookup n=X.env.cells.lookup n:=by
 induction h with
 | nil=>intro i j n e1 _;simp at e1
 | own t ih=>
  intro i j n e1 e2;cases i with
  | zero=>simp at e2
  | succ i=>exact ih (by simpa using e1) (by simpa using e2)
 | cap hj hk hl hc t ih=>
  intro i j n e1 e2;cases i with
  | zero=>simp at e1 e2;subst e1;subst e2;exact⟨hj,hk,hl,hc⟩
  | succ i=>exact ih (by simpa using e1) (by simpa using e2)
def capS (js:List (Option Nat)) (σ:L2.St):L2.St:=js.map fun o=>o.bind fun j=>(σ[j]?).join
structure Blk (X:Cx) (scope:Scope) (cl:List (Str×Addr)) (N:List Str) (js:List (Option Nat)):Prop where
 clos:closureFor scope X.env=pure cl
 kind:scope.kind= .function
 cell:∀y∈scope.names,y.2≠.cell
 nms:∀y∈scope.names,y.2= .local->scope.names.lookup y.1=some .local
 cap:Cap X (relabel scope X.env) cl N js
 sub:∀y c,cl.lookup y=some c->X.env.cells.lookup y=some c
 has:∀y,((relabel scope X.env).names.lookup y=some .cell\/(relabel scope X.env).names.lookup y=some .free)->∃c,cl.lookup y=some c
 acc:∀k,(relabel scope X.env).names.lookup accN≠some k
section
variable {X:Cx}{pins:List (Addr×PySem.Obj)}{σ:L2.St}{H2:Hp}{s2 s4:Shared}{scope:Scope}{cl:List (Str×Addr)}{N:List Str}{js:List (Option Nat)}{fp:List Addr}{Dd C:Addr}{m:Str->Option Value}
theorem b11 (I:Inv X pins σ H2 s2)(b:Blk X scope cl N js)(f2:∀y∈fp,FpOk X pins H2 y)(fl:∀y∈fp,y<s2.heap.objs.size)(hC:s2.heap.objs.size<=C):(blk X scope cl s2 H2 fp C (N++[accN])).Ok where
 mod:=I.ok.mod
 kind:=b.kind
 glob:=I.ok.glob
 blt:=I.ok.blt
 above:=hC
 inj:=fun x y c e1 e2=>I.ok.inj x y c (b.sub x c e1) (b.sub y c e2)
 has:=fun x h=>b.has x h
 cab:=fun x c h=>nomatch h
 hd:=I.ok.hd
 frames:=I.ok.frames
 stk:=.inl rfl
 exf:=fun y hy=>⟨zQ (zF (fl y hy) hC),fun x c e=>(f2 y hy).2.2.2.2.1 x c (b.sub x c e)⟩
 bs:=I.bs
 bsz:=zG I.ok.bsz I.sz
 noex:=fun y o e hy=>by
  rcases(f2 y hy).2.2.2.1 with z|z
  ·exact I.ok.noex y o e z
  ·exact absurd (zF (zP e) (zG I.ok.bsz z)) (jE _)
 exfs:=fun y hy z=>(zN.mp (I.stkSub y z)).elim (f2 y hy).2.1 (f2 y hy).2.2.1
 funs:=I.stack
 frf:=I.stkFree
theorem a9q {o0:HO}(I:Inv X pins σ H2 s2)(b:Blk X scope cl N js)(f2:∀y∈fp,FpOk X pins H2 y)(fl:∀y∈fp,y<s2.heap.objs.size)(hC:s2.heap.objs.size<=C)(hD:s2.heap.objs.size<=Dd)(ne:Dd≠C)
  (ho:s4.os=s2.os) (hg:AllBare s4.gens) (kp:∀y o,s2.heap.get? y=some o->s4.heap.get? y=some o) (hn:s4.heap.Ns C m) (hk:HOk X.prog X.w (upd H2 Dd o0) s4.heap):
  Inv (blk X scope cl s2 H2 fp C (N++[accN])) [] (capS js σ++[some (.ref Dd)]) (upd H2 Dd o0) s4:=by
 have nD:∀y o,s2.heap.get? y=some o->y≠Dd:=fun y o e=>zQ (zF (zP e) hD);have nH:∀y u,H2 y=some u->y≠Dd:=fun y u e=>zQ (zF (I.hok.lt e) hD);have cD:∀x c,X.env.cells.lookup x=some c->c≠Dd:=fun x c e=>by
  obtain⟨v,o,e1,_⟩:=I.cell x c e;exact nD c o e1
 refine⟨b11 I b f2 fl hC,ho,hg,⟨fun y o e _ _ _=>kp y o e,fun y o e _ _ _=>⟨o.slots,kp y o e⟩,fun y o e n _=>?_,fun y o e _=>⟨o,kp y o e⟩,fun y xs e=>?_,fun y o u e=>?_,fun y ps e=>?_⟩,⟨m,hn,fun i x v e1 e2 e3=>?_⟩,fun x c e=>?_,?_,fun x c e=>?_,fun p hp=>absurd (show p∈([]:List (Addr×PySem.Obj)) from hp) (by simp),hk,?_⟩
 ·rw[g5 (nD y o e)];exact n
 ·rw[g5 (nH _ _ e)];exact e
 ·rw[g5 (nH _ _ e)];exact e
 ·have e':H2 y=some (.tbl ps):=e;exact⟨#[],by rw[g5 (nH _ _ e'),e'];simp⟩
 ·have hl:js.length=N.length:=b.cap.len
  by_cases hi:i<N.length
  ·have e1':N[i]? =some x:=by
    have z:(N++[accN])[i]? =some x:=e1;rw[zW hi] at z;exact z
   rw[zW (by unfold capS;simp;walk_at "o")] at e2
   unfold capS at e2;rw[qF] at e2;cases ej:js[i]? with
   | none=>rw[ej] at e2;cases e2
   | some o=>
    rw[ej] at e2;cases o with
    | none=>cases e2
    | some j=>
     obtain⟨c1,c2,c3,c4⟩:=b.cap.get e1' ej;simp only[xP,bind_some] at e2;have e2':σ[j]? =some (some v):=by
      cases q:σ[j]? with
      | none=>rw[q] at e2;cases e2
      | some o=>rw[q] at e2;simp at e2;rw[e2]
     obtain⟨m2,_,hl2⟩:=I.loc;obtain⟨u,r,lk⟩:=hl2 j x v c1 e2' (.inr (.inl c2));refine⟨u,r,.inr ⟨.inl c3,?_⟩⟩;rcases lk with ⟨k,_⟩|⟨_,c,e,z⟩
     ·have k':X.env.scope.names.lookup x=some .local:=k;rw[c2] at k';cases k'
     ·exact⟨c,c4.trans e,z.keeps kp⟩
  ·have hx:x=accN:=by
    have z:(N++[accN])[i]? =some x:=e1;rw[qC (by walk_at "o")] at z
    cases q:i-N.length with
    | zero=>rw[q] at z;simp at z;exact z.symm
    | succ k=>rw[q] at z;simp at z
   subst hx;rcases e3 with z|z|z
   ·exact absurd z (b.acc _)
   ·exact absurd z (b.acc _)
   ·exact absurd z (b.acc _)
 ·obtain⟨v,z⟩:=I.cell x c (b.sub x c e);exact⟨v,z.keeps kp⟩
 ·show upd H2 Dd o0 C=none;rw[g5 (qO ne)];exact I.hok.fresh hC
 ·rw[g5 (cD x c (b.sub x c e))];exact I.freeC x c (b.sub x c e)
 ·show(capS js σ++[some (V.ref Dd)]).length=(N++[accN]).length;unfold capS;simp[b.cap.len]
end
def AllC (X:Cx):List (Str×Addr)->Prop
 | []=>True
 | p::r=>X.env.cells.lookup p.1=some p.2/\AllC X r
theorem AllC.sub {X:Cx}:∀{cl:List (Str×Addr)},AllC X cl->∀y c,cl.lookup y=some c->X.env.cells.lookup y=some c
 | [],_,y,c,e=>by simp at e
 | (n,c0)::r,h,y,c,e=>by
  rw[List.lookup_cons] at e;cases q:y==n with
  | true=>
   rw[q] at e;cases e
   have:y=n:=by simpa using q
   rw[this];exact h.1
  | false=>rw[q] at e;exact AllC.sub h.2 y c e
theorem a1D {α:Type}:∀{l:List (Str×α)} {y:Str} {k:α},l.lookup y=some k->(y,k)∈l
 | [],y,k,e=>by simp at e
 | (n,a)::r,y,k,e=>by
  rw[List.lookup_cons] at e;cases q:y==n with
  | true=>
   rw[q] at e;cases e
   have:y=n:=by simpa using q
   rw[this];exact zI
  | false=>rw[q] at e;exact zH _ (a1D e)
section
variable {X:Cx}{scope:Scope}{cl:List (Str×Addr)}{N:List Str}{js:List (Option Nat)}
theorem o7 (cap:Cap X (relabel scope X.env) cl N js)(clos:closureFor scope X.env=pure cl)(sub:AllC X cl)(has:(relabel scope X.env).names.all (fun p=>(p.2 != .cell&&p.2 != .free)||(cl.lookup p.1).isSome)=true)(kind:scope.kind= .function:=by rfl)(cell:scope.names.all (fun y=>y.2 != .cell)=true:=by decide +kernel)
  (nms:scope.names.all (fun y=>y.2 != .local||scope.names.lookup y.1==some .local)=true:=by decide +kernel) (acc:(relabel scope X.env).names.lookup accN=none:=by rfl):Blk X scope cl N js where
 clos:=clos
 kind:=kind
 cell:=fun y hy=>by have:=xB.mp cell y hy;simpa using this
 nms:=fun y hy hl=>by have:=xB.mp nms y hy;rw[hl] at this;simpa using this
 cap:=cap
 sub:=sub.sub
 has:=fun y h=>by
  have key:∀k,(relabel scope X.env).names.lookup y=some k->k= .cell\/k= .free->∃c,cl.lookup y=some c:=fun k e hk=>by
   have:=xB.mp has (y,k) (a1D e)
   rcases hk with rfl|rfl<;>simpa [isSome_iff_exists] using this
  rcases h with h|h
  ·exact key _ h (.inl rfl)
  ·exact key _ h (.inr rfl)
 acc:=fun k e=>by rw[acc] at e;cases e
end
def capW (k:Bool):W->Option W
 | .v d=>some (.v d)
 | .o d=>some (if k then .l d else .v d)
 | .l d=>some (if k then .l d else .v d)
 | .r _=>none
def capE (lj:Option Nat) (js:List (Option Nat)) (ρ:Ev):Ev:=js.map fun o=>o.bind fun j=>((ρ[j]?).join).bind (capW (lj==some j))
def Capd (ρ:Ev) (σ:L2.St) (js:List (Option Nat)) (b:Addr):Prop:=∃(j:Nat) (w:W) (d:D),some j∈js/\ρ[j]? =some (some w)/\w.own=some d/\σ[j]? =some (some (V.ref b))
def lentL (li:Option (Nat×Nat)) (σ:L2.St):List (Option Nat×Addr):=match li with
 | some (i,j)=>match σ[j]? with
  | some (some (.ref a))=>[(some i,a)]
  | _=>[]
 | none=>[]
structure LiOk (li:Option (Nat×Nat)) (js:List (Option Nat)) (ρ:Ev):Prop where
 own:∀i j,li=some (i,j)->∃c,ownAt ρ j=some c
 at':∀i j,li=some (i,j)->js[i]? =some (some j)
 one:∀i j k,li=some (i,j)->js[k]? =some (some j)->k=i
section
variable {X:Cx}{P:List (D×V)}{O:Av}{L:List (Option Nat×Addr)}{ρ:Ev}{σ:L2.St}{H2:Hp}{s2:Shared}{scope:Scope}{cl:List (Str×Addr)}{N:List Str}{js:List (Option Nat)}{fp:List Addr}{Dd C:Addr}{li:Option (Nat×Nat)}
theorem V7 {lj:Option Nat}{i:Nat}{w:W}(e:(capE lj js ρ)[i]? =some (some w)):∃j w0,js[i]? =some (some j)/\ρ[j]? =some (some w0)/\capW (lj==some j) w0=some w:=by
 unfold capE at e;rw[qF] at e;cases ej:js[i]? with
 | none=>rw[ej] at e;cases e
 | some o=>
  rw[ej] at e;cases o with
  | none=>cases e
  | some j=>
   simp only[xP,bind_some] at e;cases q:ρ[j]? with
   | none=>rw[q] at e;cases e
   | some o=>
    rw[q] at e;cases o with
    | none=>cases e
    | some w0=>exact⟨j,w0,rfl,q,qQ e⟩
theorem Y2 {i j:Nat}{v:V}(ej:js[i]? =some (some j))(e:σ[j]? =some (some v)):(capS js σ)[i]? =some (some v):=by
 unfold capS;rw[qF,ej];simp only[xP,bind_some];rw[e];rfl
theorem a0U {b:Addr}:(none,b)∉lentL li σ:=by
 unfold lentL
 split
 ·split
  ·simp
  ·simp
 ·simp
theorem K1 {i:Nat}{b:Addr}:(some i,b)∈lentL li σ↔∃j,li=some (i,j)/\σ[j]? =some (some (.ref b)):=by
 unfold lentL;cases li with
 | none=>simp
 | some p=>
  obtain⟨i',j'⟩:=p;dsimp only;constructor
  ·intro h;split at h
   ·rename_i a q;rw[qB] at h;cases h;exact⟨j',rfl,q⟩
   ·cases h
  ·rintro⟨j,e,q⟩;cases e;rw[q];exact qB.mpr rfl
theorem K7 {d0:D}(r:Rep X P O L ρ σ H2)(hl:LiOk li js ρ){i:Nat}{w:W}{d:D}{v:V}(e1:(capE (li.map (·.2)) js ρ++[some (.l d0)])[i]? =some (some w))(e2:w.own=some d)(e3:(capS js σ++[some (.ref Dd)])[i]? =some (some v)):
  (i=js.length/\w= .l d0/\v= .ref Dd)\/∃j a w0,li=some (i,j)/\i<js.length/\w= .l d/\js[i]? =some (some j)/\ρ[j]? =some (some w0)/\w0.own=some d/\σ[j]? =some (some (.ref a))/\v= .ref a:=by
 have hcl:(capE (li.map (·.2)) js ρ).length=js.length:=by unfold capE;simp
 have hsl:(capS js σ).length=js.length:=by unfold capS;simp
 by_cases hi:i<js.length
 ·rw[zW (by walk_at "o")] at e1 e3
  obtain⟨j,w0,ej,q,ew⟩:=V7 e1;have own0:w0.own≠none/\li.map (·.2)=some j/\w= .l d/\w0.own=some d:=by
   cases w0 with
   | v c=>cases ew;cases e2
   | r c=>cases ew
   | o c=>
    simp only[capW] at ew;split at ew
    ·rename_i hk;cases ew;cases e2;exact⟨nofun,by simpa using hk,rfl,rfl⟩
    ·cases ew;cases e2
   | l c=>
    simp only[capW] at ew;split at ew
    ·rename_i hk;cases ew;cases e2;exact⟨nofun,by simpa using hk,rfl,rfl⟩
    ·cases ew;cases e2
  obtain⟨_,hlj,rfl,ow⟩:=own0;obtain⟨a,h1,h2⟩:=r.obj q ow;rw[Y2 ej h1] at e3;cases e3;cases li with
  | none=>cases hlj
  | some p=>
   obtain⟨i',j'⟩:=p;cases hlj
   have:=hl.one i' _ i rfl ej
   subst this;exact .inr ⟨_,a,w0,rfl,hi,rfl,ej,q,ow,h1,rfl⟩
 ·have hi':i=js.length:=by
   have:=(zM.mp e1).1
   rw[qE,hcl] at this;simp at this;walk_at "o"
  subst hi';rw[qC (by walk_at "o"),hcl,jL] at e1
  rw[qC (by walk_at "o"),hsl,jL] at e3
  simp only[xK,Option.some.injEq] at e1 e3;exact .inl ⟨rfl,e1.symm,e3.symm⟩
theorem a9Q {d0:D}{o0:HO}(hob:∀A H,H Dd=some o0->Obj X.K A H Dd d0)(r:Rep X P O L ρ σ H2)(hl:LiOk li js ρ)(hn:H2 Dd=none):
  Rep (blk X scope cl s2 H2 fp C (N++[accN])) P (fun b=>AvO O ρ σ b/\¬Capd ρ σ js b) ((some js.length,Dd)::lentL li σ) (capE (li.map (·.2)) js ρ++[some (.l d0)]) (capS js σ++[some (.ref Dd)]) (upd H2 Dd o0):=by
 have hcl:(capE (li.map (·.2)) js ρ).length=js.length:=by unfold capE;simp
 have hsl:(capS js σ).length=js.length:=by unfold capS;simp
 have acc1:(capE (li.map (·.2)) js ρ++[some (.l d0)])[js.length]? =some (some (.l d0)):=by rw[qC (by walk_at "o"),hcl,jL];rfl
 have acc2:(capS js σ++[some (V.ref Dd)])[js.length]? =some (some (.ref Dd)):=by rw[qC (by walk_at "o"),hsl,jL];rfl
 have lnt2:∀{i j:Nat} {a:Addr},li=some (i,j)->σ[j]? =some (some (.ref a))->∃w0 d,ρ[j]? =some (some w0)/\w0.own=some d/\(capE (li.map (·.2)) js ρ++[some (.l d0)])[i]? =some (some (.l d))/\(capS js σ++[some (V.ref Dd)])[i]? =some (some (.ref a)):=fun{i j a} e1 e2=>by
  obtain⟨c,ec⟩:=hl.own i j e1;obtain⟨w0,q,ow⟩:=w5 ec;have ej:=hl.at' i j e1;have hi:i<js.length:=(zM.mp ej).1;refine⟨w0,c,q,ow,?_,by rw[zW (by walk_at "o")];exact Y2 ej e2⟩
  rw[zW (by walk_at "o")]
  unfold capE;rw[qF,ej];simp only[xP,bind_some,q,Option.join_some,e1,beq_self_eq_true];cases w0 with
  | o x=>cases ow;rfl
  | l x=>cases ow;rfl
  | _=>cases ow
 have av:∀b,AvO (fun b=>AvO O ρ σ b/\¬Capd ρ σ js b) (capE (li.map (·.2)) js ρ++[some (.l d0)]) (capS js σ++[some (V.ref Dd)]) b->AvO O ρ σ b\/H2 b=none:=fun b z=>by
  rcases z with z|⟨i,w,d,e1,e2,e3⟩
  ·exact .inl z.1
  ·rcases K7 r hl e1 e2 e3 with ⟨_,_,e⟩|⟨j,a,w0,_,_,_,_,q,ow,qs,e⟩
   ·cases e;exact .inr hn
   ·cases e;exact .inl (.inr ⟨j,w0,d,q,ow,qs⟩)
 have g:Go (AvO O ρ σ) (AvO (fun b=>AvO O ρ σ b/\¬Capd ρ σ js b) (capE (li.map (·.2)) js ρ++[some (.l d0)]) (capS js σ++[some (V.ref Dd)])) (fun _=>False) H2 (upd H2 Dd o0):=⟨fun b o e _=>g9 hn _ b o e,fun _ z=>z.elim,av⟩;refine⟨fun b o e _=>g9 hn _ b o e,fun b z=>⟨r.there z.1,fun i m=>?_⟩,by simp[hcl,hsl],fun i w e=>?_,fun i i' w w' d d' b e1 e2 e3 e4 e5 e6=>?_,fun i d b e=>?_,fun i d e=>?_,fun i b e=>?_,fun p hp=>m7 g _ _ (r.prot p hp),fun b m=>⟨js.length,Dd,zI⟩⟩
 ·rcases zN.mp m with m|m
  ·cases m;exact r.fresh hn z.1
  ·cases i with
   | none=>exact a0U m
   | some i=>
    obtain⟨j,e1,e2⟩:=K1.mp m;obtain⟨w0,d,q,ow,_⟩:=lnt2 e1 e2;exact z.2 ⟨j,w0,d,jW (hl.at' i j e1),q,ow,e2⟩
 ·by_cases hi:i<js.length
  ·have e':=e;rw[zW (by walk_at "o")] at e'
   obtain⟨j,w0,ej,q,ew⟩:=V7 e';obtain⟨v,h1,h2⟩:=r.slot j w0 q;refine⟨v,by rw[zW (by walk_at "o")];exact Y2 ej h1,?_⟩
   cases w0 with
   | v c=>cases ew;exact m7 g _ _ h2
   | r c=>cases ew
   | o c=>
    simp only[capW] at ew;obtain⟨a,rfl,ob⟩:=h2;have hk:upd H2 Dd o0 a=H2 a:=g5 fun z=>by obtain⟨u,eu,_⟩:=J1 ob;rw[z,hn] at eu;cases eu
    split at ew
    ·cases ew;exact⟨a,rfl,z8 g hk ob⟩
    ·rename_i nk;cases ew;refine W1 (z8 g hk ob) fun z=>?_;rcases z with z|⟨i2,w2,d2,e1,e2,e3⟩
     ·exact z.2 ⟨j,_,c,jW ej,q,rfl,h1⟩
     ·rcases K7 r hl e1 e2 e3 with ⟨_,_,e⟩|⟨j2,a2,w0,l2,_,_,ej2,q2,ow2,qs2,e⟩
      ·cases e;obtain⟨u,eu,_⟩:=J1 ob;rw[hn] at eu;cases eu
      ·cases e
       have:=r.inj j j2 _ w0 c d2 a q rfl h1 q2 ow2 qs2
       subst this;rw[l2] at nk;simp at nk
   | l c=>
    simp only[capW] at ew;obtain⟨a,rfl,ob⟩:=h2;have hk:upd H2 Dd o0 a=H2 a:=g5 fun z=>by obtain⟨u,eu,_⟩:=J1 ob;rw[z,hn] at eu;cases eu
    split at ew
    ·cases ew;exact⟨a,rfl,z8 g hk ob⟩
    ·rename_i nk;cases ew;refine W1 (z8 g hk ob) fun z=>?_;rcases z with z|⟨i2,w2,d2,e1,e2,e3⟩
     ·exact z.2 ⟨j,_,c,jW ej,q,rfl,h1⟩
     ·rcases K7 r hl e1 e2 e3 with ⟨_,_,e⟩|⟨j2,a2,w0,l2,_,_,ej2,q2,ow2,qs2,e⟩
      ·cases e;obtain⟨u,eu,_⟩:=J1 ob;rw[hn] at eu;cases eu
      ·cases e
       have:=r.inj j j2 _ w0 c d2 a q rfl h1 q2 ow2 qs2
       subst this;rw[l2] at nk;simp at nk
  ·have hi':i=js.length:=by
    have:=(zM.mp e).1
    rw[qE,hcl] at this;simp at this;walk_at "o"
   subst hi';rw[acc1] at e;cases e;exact⟨.ref Dd,acc2,Dd,rfl,hob _ _ m9⟩
 ·rcases K7 r hl e1 e2 e3 with ⟨rfl,_,e⟩|⟨j,a,w0,l1,_,_,_,q,ow,qs,e⟩
  ·cases e;rcases K7 r hl e4 e5 e6 with ⟨rfl,_,_⟩|⟨j,a,w0,l1,_,_,_,q,ow,qs,e⟩
   ·rfl
   ·cases e;obtain⟨u,eu,_⟩:=r.owMu ⟨j,w0,d',q,ow,qs⟩;rw[hn] at eu;cases eu
  ·cases e;rcases K7 r hl e4 e5 e6 with ⟨rfl,_,e⟩|⟨j',a',w0',l1',_,_,_,q',ow',qs',e⟩
   ·cases e;obtain⟨u,eu,_⟩:=r.owMu ⟨j,w0,d,q,ow,qs⟩;rw[hn] at eu;cases eu
   ·rw[l1] at l1';cases l1';rfl
 ·by_cases hi:i<js.length
  ·rw[zW (by walk_at "o")] at e
   obtain⟨j,w0,ej,q,ew⟩:=V7 e;cases w0<;>simp only[capW] at ew<;>first|cases ew|(split at ew<;>cases ew)
  ·rw[qC (by walk_at "o")] at e
   cases q:i-(capE (li.map (·.2)) js ρ).length with
   | zero=>rw[q] at e;cases e
   | succ n=>rw[q] at e;simp at e
 ·by_cases hi:i<js.length
  ·have e':=e;rw[zW (by walk_at "o")] at e'
   obtain⟨j,w0,ej,q,ew⟩:=V7 e';obtain⟨v,h1,h2⟩:=r.slot j w0 q;have e3:(capS js σ++[some (V.ref Dd)])[i]? =some (some v):=by rw[zW (by walk_at "o")];exact Y2 ej h1
   rcases K7 r hl e rfl e3 with ⟨rfl,_⟩|⟨j,a,w0,l1,_,_,_,q,ow,qs,rfl⟩
   ·walk_at "o"
   ·exact⟨a,e3,zH _ (K1.mpr ⟨j,l1,qs⟩)⟩
  ·have hi':i=js.length:=by
    have:=(zM.mp e).1
    rw[qE,hcl] at this;simp at this;walk_at "o"
   subst hi';exact⟨Dd,acc2,zI⟩
 ·rcases zN.mp e with e|e
  ·cases e;exact⟨_,acc1,acc2⟩
  ·obtain⟨j,e1,e2⟩:=K1.mp e;obtain⟨w0,d,_,_,q1,q2⟩:=lnt2 e1 e2;exact⟨d,q1,q2⟩
end
structure Tst (Y:Cx) (ifs:List Expr) (t:FT):Prop where
 to:∀(pins:List (Addr×PySem.Obj)) (s:Shared) (σ:L2.St) (H:Hp) (P:List (D×V)) (O:Av) (L:List (Option Nat×Addr)) (ρ ρ':Ev) (k:Bool) (Q:Bool->Hp->Prop),Inv Y pins σ H s->Rep Y P O L ρ σ H->t ρ=some (k,ρ')->(∀H',Rep Y P O L ρ' σ H'->Q k H')->
  wpAny (model Y.prog Y.w) Y.A (forIn ifs true fun c r=>if r=true then do let ok <-isTrue c Y.env (eval c Y.env);pure (ForInStep.yield ok) else pure (ForInStep.yield r)) (TP Y pins σ Q) Fa s
theorem k6 {Y:Cx}:Tst Y [] (fun ρ=>some (true,ρ)):=⟨fun pins s σ H P O L ρ ρ' k Q I r e q=>by cases e;exact wpAny_tests_nil ⟨H,I,q H r⟩⟩
def WksB (li:Option (Nat×Nat)) (K:PySem.W.Frag) (P:List (D×V)) (O:Av) (ρ:Ev) (σ:L2.St) (H:Hp) (xs:List D) (J:It):Prop:=∀(Y:Cx) (O':Av) (L:List (Option Nat×Addr)) (ρ':Ev) (σ':L2.St) (H':Hp),Y.K=K->Y.H₀=H->Rep Y P O' L ρ' σ' H'->(∀b,O' b->AvO O ρ σ b)->(li=none->∀i b,(i,b)∈L->H b=none)->
 (∀(i:Nat) (x:D),xs[i]? =some x->J.go i H'/\∀v H'',J.yld i H' v H''->Same H' H''/\Den K (AvO O' ρ' σ') H'' x v)/\J.stop xs.length H'
def tIB (X:Cx) (li:Option (Nat×Nat)) (fi:FI):TI:=fun σ H R=>∃P O L ρ xs ρ',Rep X P O L ρ σ H/\fi ρ=some (xs,ρ')/\∀J H1 P',Rep X P' O L ρ' σ H1->Holds P' P->WksB li X.K P' O ρ' σ H1 xs J->R J H1
theorem tIBe {X:Cx}{li:Option (Nat×Nat)}{fi:FI}{σ:L2.St}{H:Hp}{R:It->Hp->Prop}{C:Prop}(h:tIB X li fi σ H R)(k:∀P O L ρ xs ρ',Rep X P O L ρ σ H->fi ρ=some (xs,ρ')->(∀J H1 P',Rep X P' O L ρ' σ H1->Holds P' P->WksB li X.K P' O ρ' σ H1 xs J->R J H1)->C):C:=by
 obtain⟨P,O,L,ρ,w,ρ',r,e,q⟩:=h;exact k P O L ρ w ρ' r e q
structure QIB (X:Cx) (li:Option (Nat×Nat)) (tg iter:Expr) (fi:FI):Prop where
 to:PI X tg iter (tIB X li fi)
theorem Wks.b {li:Option (Nat×Nat)}{K:PySem.W.Frag}{P:List (D×V)}{O:Av}{ρ:Ev}{σ:L2.St}{H:Hp}{xs:List D}{J:It}(w:Wks K P xs J):WksB li K P O ρ σ H xs J:=fun Y O' L ρ' σ' H' hY _ r _ _=>w Y O' L ρ' σ' H' hY r
theorem B9 {X:Cx}{li:Option (Nat×Nat)}{tg iter:Expr}{fi:FI}(h:QI X tg iter fi):QIB X li tg iter fi:=⟨PI.weak h.to fun σ H R h0=>tIBe h0 fun P O L ρ xs ρ' r e q=>⟨P,O,L,ρ,xs,ρ',r,e,fun J H1 P' r1 hh w=>q J H1 P' r1 hh w.b⟩⟩
def fiName (i:Nat):FI:=fun ρ=>match ρ[i]? with
 | some (some (.v d))=>(items d).map fun xs=>(xs,ρ)
 | some (some (.r _))=>none
 | some (some w)=>match w.own with
  | some (.lst xs)=>some (xs,ρ)
  | _=>none
 | _=>none
theorem b1M {Y:Cx}{P:List (D×V)}{O O':Av}{L:List (Option Nat×Addr)}{ρ ρ':Ev}{σ σ':L2.St}{H H':Hp}(hH:Y.H₀=H)(r:Rep Y P O' L ρ' σ' H')(ho:∀b,O' b->AvO O ρ σ b)(hn:∀i b,(i,b)∈L->H b=none):Go (AvO O ρ σ) (AvO O' ρ' σ') (fun _=>False) H H' where
 k:=fun b o e _=>r.same b o (by rw[hH];exact e) fun i m=>by rw[hn i b m] at e;cases e
 m:=fun _ z=>z.elim
 n:=fun b z=>by
  rcases z with z|⟨i,w,d,e1,e2,e3⟩
  ·exact .inl (ho b z)
  ·cases w with
   | o c=>
    have z:=r.new i c b e1 e3;unfold hz at z;split at z
    ·rename_i m;exact .inr (hn none b m)
    ·exact .inr (by rw[<-hH];exact z)
   | l c=>obtain⟨b',q1,q2⟩:=r.lnt i c e1;rw[e3] at q1;cases q1;exact .inr (hn (some i) b q2)
   | _=>cases e2
theorem D5 {X:Cx}{tg:Expr}{pos:Pos}(i:Nat){x:Str}(hN:X.N[i]? =some x:=by rfl)(hv:Vis X.env.scope x:=by first|exact Or.inl rfl|exact Or.inr (Or.inl rfl)|exact Or.inr (Or.inr rfl))(hd:(x==("__debug__":Str))=false:=by decide)(hcd:(x==("__classdict__":Str))=false:=by decide):QIB X none tg (.Name x pos) (fiName i):=⟨PI.weak (a7m (a39 hN hv hd hcd)) fun σ H R h0=>tIBe h0 fun P O L ρ xs ρ' r e q=>by
 unfold fiName at e;split at e
 ·rename_i d0 e0;obtain⟨v,h1,h2⟩:=r.slot i _ e0;have h2:Den X.K (AvO O ρ σ) H d0 v:=h2;obtain⟨ys,e3,e⟩:=oms e;cases e;have r3:=r.more (p:=(d0,v)) h2;have hh:Holds ((d0,v)::P) P:=fun p hp=>zH _ hp;refine⟨v,h1,?_⟩;cases d0 with
  | tup zs=>
   cases e3;have z:=h2;rw[Den] at z;obtain⟨a,vs,rfl,hq,l⟩:=z;refine .inr ⟨a,rfl,⟨vs,hq⟩,q _ H _ r3 hh (Wks.b fun Y O' L' ρ' σ' Hh hY rr=>?_)⟩;have z:=rr.head;rw[hY] at z;rw[Den] at z;obtain⟨a',vs,ea,hq,l⟩:=z;cases ea;refine⟨fun i x ex=>?_,vs,hq,by rw[<-c5 l];exact zE _⟩
   obtain⟨v0,hv,dv⟩:=A1 l ex;exact⟨⟨vs,v0,hq,hv⟩,fun w H' ⟨y1,y2⟩=>by subst y1;have:=y2 vs hq;rw[hv] at this;cases this;exact⟨Same.refl _,dv⟩⟩
  | lst zs=>
   cases e3;obtain⟨a,vs,rfl,hq,l⟩:=G3 h2;refine .inl ⟨a,rfl,⟨vs,hq⟩,q _ H _ r3 hh (Wks.b fun Y O' L' ρ' σ' Hh hY rr=>?_)⟩;have z:=rr.head;rw[hY] at z;obtain⟨a',vs,ea,hq,l⟩:=G3 z;cases ea;refine⟨fun i x ex=>?_,vs,hq,by rw[<-c5 l];exact zE _⟩
   obtain⟨v0,hv,dv⟩:=A1 l ex;exact⟨⟨vs,v0,hq,hv⟩,fun w H' ⟨y1,y2⟩=>by subst y1;have:=y2 vs hq;rw[hv] at this;cases this;exact⟨Same.refl _,dv⟩⟩
  | _=>cases e3
 ·cases e
 ·rename_i w0 _ _ e0;cases ew:w0.own with
  | none=>rw[ew] at e;cases e
  | some c=>
   rw[ew] at e;cases c with
   | lst zs=>
    cases e;obtain⟨a,h1,h2⟩:=r.obj e0 ew;refine⟨.ref a,h1,?_⟩;obtain⟨vs,h4,lz⟩:=h2;refine .inl ⟨a,rfl,⟨vs,.inl (.inl h4)⟩,q _ H P r (fun p hp=>hp) fun Y O' L' ρ2 σ2 Hh hY hH rr ho hn=>?_⟩;have g:=b1M hH rr ho (hn rfl);have l2:=v7 g _ _ lz;have h5:Hh a=some (.lst vs):=g.k a _ h4 id;have hq:SqL X.K Hh a vs:=.inl (.inl h5);refine⟨fun i x ex=>?_,vs,hq,by rw[<-c5 lz];exact zE _⟩
    obtain⟨v0,hv,dv⟩:=A1 l2 ex;exact⟨⟨vs,v0,hq,hv⟩,fun w H' ⟨y1,y2⟩=>by subst y1;have:=y2 vs hq;rw[hv] at this;cases this;exact⟨Same.refl _,dv⟩⟩
   | _=>cases e
 ·cases e⟩
def appTo (k:Nat) (p:W×Ev):Option Ev:=(takeAll p.2 [p.1.fz]).bind fun q=>match q.1,ownAt q.2 k with
 | [d],some (.lst zs)=>if zs.length<lim then some (setOwn q.2 k (.lst (zs++[d]))) else none
 | _,_=>none
def turnC (k:Nat) (gf:FG) (t:FT) (fe:FX):D->Ev->Option Ev:=fun x ρ=>(gf x ρ).bind fun ρ1=>(t ρ1).bind fun p=>if p.1=true then(fe p.2).bind (appTo k) else some p.2
def loopC (st:D->Ev->Option Ev):List D->Ev->Option Ev
 | [],ρ=>some ρ
 | x::xs,ρ=>(st x ρ).bind (loopC st xs)
section
variable {X:Cx}{pins:List (Addr×PySem.Obj)}{σ:L2.St}{H2:Hp}{s2:Shared}{scope:Scope}{cl:List (Str×Addr)}{N:List Str}{js:List (Option Nat)}{fp:List Addr}{it:Addr}{tn:Nat->Heap->Prop}{J:It}{elt tg iter:Expr}{ifs:List Expr}{pos:Pos}{P:List (D×V)}{O:Av}{L:List (Option Nat×Addr)}{ρ ρe:Ev}{xs:List D}{gf:FG}{t:FT}{fe:FX}{Qq:Value->Shared->Prop}{use:Option (Value->Sem Unit)}{li:Option (Nat×Nat)}
def turnG (gf:FG) (t:FT) (stp:Ev->Option Ev):D->Ev->Option Ev:=fun x ρ=>(gf x ρ).bind fun ρ1=>(t ρ1).bind fun p=>if p.1=true then stp p.2 else some p.2
theorem a5W {new:Sem Value}{ce:Expr}{ob0:PySem.Obj}{o0:HO}{d0:D}{stp:Ev->Option Ev}{el:Env->Addr->Shared->(Shared->Prop)->Prop}
  (hnew:∀{Q:Value->Shared->Prop},Q (.ref s2.heap.objs.size) {s2 with heap:=s2.heap.push ob0}->wpAny (model X.prog X.w) X.A new Q X.xe s2) (hob:∀A H a,H a=some o0->Obj X.K A H a d0) (hok:HOk X.prog X.w (upd H2 s2.heap.objs.size o0) (s2.heap.push ob0))
  (hloop:∀{Dd:Addr} {env:Env} {R:Result->Shared->Prop} {s:Shared} (I:Nat->Shared->Prop),(∀n s,I n s->wpAny (model X.prog X.w) X.A (pyNext (.ref it)) (fun r s1=>match r with
   | none=>R (.ok .next) s1
   | some v=>wpAny (model X.prog X.w) X.A (letOwnedTupleGo tg (.ref it) v) (fun _ s2=>wpAny (model X.prog X.w) X.A (assign tg env v) (fun _ s3=>
     wpAny (model X.prog X.w) X.A (forIn ifs true fun c r=>if r=true then do let ok <-isTrue c env (eval c env);pure (ForInStep.yield ok) else pure (ForInStep.yield r)) (fun ok s4=>
      if ok=true then el env Dd s4 (fun s6=>∃m,m<n/\I m s6) else ∃m,m<n/\I m s4) Fa s3) Fa s2) Fa s1) Fa s)->∀n,I n s->codeAny (model X.prog X.w) X.A (.compLoop ce 0 (.ref it) (.ref Dd) env) R s)
  (hstart:∀{acc:Value} {env:Env} {R:Result->Shared->Prop} {s:Shared},codeAny (model X.prog X.w) X.A (.compLoop ce 0 (.ref it) acc env) R s->wpAny (model X.prog X.w) X.A (pyIter (.ref it)) (fun it' s'=>codeAny (model X.prog X.w) X.A (.compLoop ce 0 it' acc env) R s') (notedBy (model X.prog X.w) X.A env fun x s'=>R (.error x) s') s->codeAny (model X.prog X.w) X.A (.compStart ce 0 (.ref it) acc env) R s)
  (hE:∀{C Dd:Addr} {qs:List (Addr×PySem.Obj)} {σ6:L2.St} {H7:Hp} {s7:Shared} {O':Av} {L':List (Option Nat×Addr)} {ρ2 ρt:Ev} {K:Shared->Prop},(some js.length,Dd)∈L'->Inv (blk X scope cl s2 H2 fp C (N++[accN])) qs σ6 H7 s7->Rep (blk X scope cl s2 H2 fp C (N++[accN])) P O' L' ρ2 σ6 H7->stp ρ2=some ρt->(∀{s8 H8},Inv (blk X scope cl s2 H2 fp C (N++[accN])) qs σ6 H8 s8->Rep (blk X scope cl s2 H2 fp C (N++[accN])) P O' L' ρt σ6 H8->K s8)->el (compEnvC scope cl C X.env) Dd s7 K)
  (hcalm:X.calm=true) (I2:Inv X pins σ H2 s2) (T:Turn X.prog X.w X.K tg J fp it tn) (st2:tn 0 s2.heap) (f2:∀y∈fp,FpOk X pins H2 y) (b:Blk X scope cl N js) (r:Rep X P O L ρ σ H2) (hl:LiOk li js ρ) (wk:WksB li X.K P O ρ σ H2 xs J)
  (hg:∀C,QG (blk X scope cl s2 H2 fp C (N++[accN])) tg gf) (ht:∀C,Tst (blk X scope cl s2 H2 fp C (N++[accN])) ifs t)
  (e:loopC (turnG gf t stp) xs (capE (li.map (·.2)) js ρ++[some (.l d0)])=some ρe)
  (fin:∀(Dd C:Addr) (σe:L2.St) (He:Hp) (s1:Shared),H2 Dd=none->s2.heap.objs.size<=C->Inv (blk X scope cl s2 H2 fp C (N++[accN])) [] σe He s1->Rep (blk X scope cl s2 H2 fp C (N++[accN])) P (fun b=>AvO O ρ σ b/\¬Capd ρ σ js b) ((some js.length,Dd)::lentL li σ) ρe σe He->
   compPost (model X.prog X.w) X.A X.xe use Qq (.ref Dd) C (.ok .next) s1):
  wpAny (model X.prog X.w) X.A new (fun acc s3=>wpAny (model X.prog X.w) X.A (newFunctionEnv scope X.env.globals cl [] X.env.qual none .none (some X.env)) (fun cenv s4=>
   codeAny (model X.prog X.w) X.A (.compStart ce 0 (.ref it) acc {cenv with scope:=relabel scope X.env}) (compPost (model X.prog X.w) X.A X.xe use Qq acc cenv.locals) s4) X.xe s3) X.xe s2:=by
 have fl:∀y∈fp,y<s2.heap.objs.size:=fun y hy=>by obtain⟨o,eo,_⟩:=T.obj _ _ st2 y hy;exact zP eo
 refine hnew (wpAny_newFunctionEnv b.cell (by intro y hy;simp at hy) (fun h' hns hsb=>?_) b.kind)
 dsimp only at hns hsb ⊢;generalize hH:s2.heap.push ob0=H3 at hok hns hsb ⊢;have hC:H3.objs.size=s2.heap.objs.size+1:=by rw[<-hH,size_push]
 have ne:s2.heap.objs.size≠H3.objs.size:=by rw[hC];exact zQ (Nat.lt_succ_self _)
 have leC:s2.heap.objs.size<=H3.objs.size:=by rw[hC];exact Nat.le_succ _
 have kp3:∀y o,s2.heap.get? y=some o->H3.get? y=some o:=fun y o e=>hH▸zD _ e;have kp4:∀y o,H3.get? y=some o->h'.get? y=some o:=fun y o e=>hsb.extBut y o (zQ (zP e)) (zD _ e);have hDn:H2 s2.heap.objs.size=none:=I2.hok.fresh (zE _);have I4:=a9q (s4:={s2 with heap:=h',toks:=s2.toks+([]:List (Str×Value)).length}) (Dd:=s2.heap.objs.size) (C:=H3.objs.size) I2 b f2 fl leC (zE _) ne rfl I2.bare (fun y o e=>kp4 y o (kp3 y o e)) hns (hok.kept kp4)
 have R4:=a9Q (d0:=d0) (o0:=o0) (fun A H=>hob A H _) (scope:=scope) (cl:=cl) (N:=N) (s2:=s2) (fp:=fp) (C:=H3.objs.size) (Dd:=s2.heap.objs.size) r hl hDn;have hfree:∀{H':Hp},(∀y∈fp,H' y=none)->∀y∈fp,FpOk (blk X scope cl s2 H2 fp H3.objs.size (N++[accN])) [] H' y:=fun hn y hy=>
  ⟨hn y hy,zQ (zF (fl y hy) leC),fun z=>(zN.mp (I2.stkSub y z)).elim (f2 y hy).2.1 (f2 y hy).2.2.1,.inl hy,fun x c ec=>(f2 y hy).2.2.2.2.1 x c (b.sub x c ec),fun p hp=>absurd (show p∈([]:List (Addr×PySem.Obj)) from hp) (by simp)⟩
 obtain⟨gg,pg,kg⟩:=(hg H3.objs.size).to;have loop:∀s5:Shared,s5={s2 with heap:=h',toks:=s2.toks+([]:List (Str×Value)).length}->
   codeAny (model X.prog X.w) X.A (.compLoop ce 0 (.ref it) (.ref s2.heap.objs.size) (compEnvC scope cl H3.objs.size X.env))
    (compPost (model X.prog X.w) X.A X.xe use Qq (.ref s2.heap.objs.size) H3.objs.size) s5:=by
  rintro s5 rfl
  let Y:=blk X scope cl s2 H2 fp H3.objs.size (N++[accN])
  let O':Av:=fun b=>AvO O ρ σ b/\¬Capd ρ σ js b
  let L':=(some js.length,s2.heap.objs.size)::lentL li σ
  refine hloop (fun n s=>∃i σ' H' ρ',n=xs.length-i/\i<=xs.length/\Inv Y [] σ' H' s/\tn i s.heap/\(∀y∈fp,H' y=none)/\Rep Y P O' L' ρ' σ' H'/\loopC (turnG gf t stp) (xs.drop i) ρ'=some ρe) ?_ xs.length
   ⟨0,_,_,_,by simp,qV _,I4,T.keep 0 _ _ st2 fun y hy o eo=>kp4 y o (kp3 y o eo),fun y hy=>by rw[g5 (zQ (fl y hy))];exact(f2 y hy).1,R4,by simpa using e⟩
  rintro n s ⟨i,σ',H',ρ',rfl,hi,I,st,fr,rp,el⟩;obtain⟨wi,ws⟩:=wk Y O' L' ρ' σ' H' rfl rfl rp (fun b z=>z.1) (fun z i b m=>by subst z;exact(zN.mp m).elim (fun m=>by cases m;exact hDn) (fun m=>by cases m))
  by_cases hlt:i<xs.length
  ·obtain⟨go,yl⟩:=wi i xs[i] (by simp[hlt])
   refine zY (T.item Y rfl rfl rfl hcalm i [] s σ' H' Fa I (hfree fr) st go) (fun r s1 ⟨u,hr,h1⟩=>?_) fun _ _ z=>z;subst hr;refine zY h1 (fun _ s3 ⟨x,H5,I5,r5,y5,st5,fr5⟩=>?_) fun _ _ z=>z;obtain⟨sm5,dx⟩:=yl x H5 y5
   replace rp:=rp.grow sm5
   rw[List.drop_eq_getElem_cons hlt,loopC] at el;cases e1:turnG gf t stp xs[i] ρ' with
   | none=>rw[e1] at el;cases el
   | some ρt=>
    rw[e1] at el;simp only[bind_some] at el;unfold turnG at e1;cases e2:gf xs[i] ρ' with
    | none=>rw[e2] at e1;cases e1
    | some ρ1=>
     rw[e2] at e1;simp only[bind_some] at e1;obtain⟨⟨k,ρ2⟩,e3,e1⟩:=obs e1;dsimp only at e1;have I5':=I5.pinned (hfree fr5) (T.obj _ _ st5);have gq:=kg P O' L' xs[i] x ρ' ρ1 σ' H5 (fun σ2 Hh=>Rep Y P O' L' ρ1 σ2 Hh) rp dx e2 (fun σ2 H2' rp2=>rp2);refine zY (pg _ s3 σ' H5 x u _ I5' r5 gq) (fun _ s6 ⟨σ6,H6,I6,rp6⟩=>?_) fun _ _ z=>z;have back:∀{s7:Shared} {H7:Hp} {ρ7:Ev},Inv Y ([]++pinsAt fp s3.heap) σ6 H7 s7->Rep Y P O' L' ρ7 σ6 H7->loopC (turnG gf t stp) (xs.drop (i+1)) ρ7=some ρe->
       ∃m,m<xs.length-i/\∃i σ' H' ρ',m=xs.length-i/\i<=xs.length/\Inv Y [] σ' H' s7/\tn i s7.heap/\(∀y∈fp,H' y=none)/\Rep Y P O' L' ρ' σ' H'/\loopC (turnG gf t stp) (xs.drop i) ρ'=some ρe:=fun{s7 H7 ρ7} I7 rp7 e7=>by
      refine⟨xs.length-(i+1),by walk_at "o",i+1,σ6,H7,ρ7,rfl,hlt,I7.unpinned,T.keep _ _ _ st5 fun y hy o eo=>(I7.pin (y,o) (qH _ (qH _ (L8 hy eo)))).1,fun y hy=>?_,rp7,e7⟩
      obtain⟨o,eo,_⟩:=T.obj _ _ st5 y hy;exact(I7.pin (y,o) (qH _ (qH _ (L8 hy eo)))).2.1
     refine zY ((ht H3.objs.size).to _ s6 σ6 H6 P O' L' ρ1 ρ2 k (fun k' Hh=>k'=k/\Rep Y P O' L' ρ2 σ6 Hh) I6 rp6 e3 (fun H' rr=>⟨rfl,rr⟩)) (fun ok s7 ⟨H7,I7,hk,rp7⟩=>?_) fun _ _ z=>z;subst hk;cases ok with
     | false=>
      rw[if_neg zS] at e1 ⊢;cases e1;exact back I7 rp7 el
     | true=>
      rw[if_pos rfl] at e1 ⊢;exact hE zI I7 rp7 e1 fun I8 rp8=>back I8 rp8 el
  ·have hie:i=xs.length:=by walk_at "o"
   subst hie;refine zY (T.done Y rfl rfl rfl hcalm _ [] s σ' H' Fa I (hfree fr) st ws) (fun r s1 ⟨hr,I1⟩=>?_) fun _ _ z=>z;subst hr;rw[List.drop_eq_nil_of_le (zE _),loopC] at el;cases el;exact fin _ _ σ' H' s1 hDn leC I1 rp
 exact hstart (loop _ rfl) (T.self _ 0 _ _ _ (T.keep 0 _ _ st2 fun y hy o eo=>kp4 y o (kp3 y o eo)) (loop _ rfl))
theorem a7t (hcalm:X.calm=true)(I2:Inv X pins σ H2 s2)(T:Turn X.prog X.w X.K tg J fp it tn)(st2:tn 0 s2.heap)(f2:∀y∈fp,FpOk X pins H2 y)(b:Blk X scope cl N js)(r:Rep X P O L ρ σ H2)(hl:LiOk li js ρ)(wk:WksB li X.K P O ρ σ H2 xs J)
  (hg:∀C,QG (blk X scope cl s2 H2 fp C (N++[accN])) tg gf) (ht:∀C,Tst (blk X scope cl s2 H2 fp C (N++[accN])) ifs t) (he:∀C,QX (blk X scope cl s2 H2 fp C (N++[accN])) elt fe)
  (e:loopC (turnC js.length gf t fe) xs (capE (li.map (·.2)) js ρ++[some (.l (.lst []))])=some ρe)
  (fin:∀(Dd C:Addr) (σe:L2.St) (He:Hp) (s1:Shared),H2 Dd=none->s2.heap.objs.size<=C->Inv (blk X scope cl s2 H2 fp C (N++[accN])) [] σe He s1->Rep (blk X scope cl s2 H2 fp C (N++[accN])) P (fun b=>AvO O ρ σ b/\¬Capd ρ σ js b) ((some js.length,Dd)::lentL li σ) ρe σe He->
   compPost (model X.prog X.w) X.A X.xe use Qq (.ref Dd) C (.ok .next) s1):
  wpAny (model X.prog X.w) X.A (newList []) (fun acc s3=>wpAny (model X.prog X.w) X.A (newFunctionEnv scope X.env.globals cl [] X.env.qual none .none (some X.env)) (fun cenv s4=>
   codeAny (model X.prog X.w) X.A (.compStart (.ListComp elt [⟨tg,iter,ifs,0⟩] scope pos) 0 (.ref it) acc {cenv with scope:=relabel scope X.env}) (compPost (model X.prog X.w) X.A X.xe use Qq acc cenv.locals) s4) X.xe s3) X.xe s2:=
 a5W (new:=newList []) (ob0:={cls:=.type "list",dict:=none,data:=.seq ([]:List Value).toArray}) (o0:=.lst []) (d0:=.lst []) (stp:=fun ρ=>(fe ρ).bind (appTo js.length)) (el:=fun env a s K=>wpAny (model X.prog X.w) X.A (eval elt env) (fun x s5=>wpAny (model X.prog X.w) X.A (call (.builtin "list.append") [.ref a,x]) (fun _ s6=>K s6) Fa s5) Fa s)
  (fun h=>qK h) (fun _ _ _ e=>⟨[],e,j3⟩) (I2.hok.laid (fun y o e=>zD _ e) (zE _) ⟨qV _,[],0,.nil,zO _ rfl⟩) (fun I t n h=>a5S I t n h) codeAny_compStart_list
  (fun{C Dd qs σ6 H7 s7 O' L' ρ2 ρt K} hL I7 rp7 e1 back=>by
   obtain⟨⟨w,ρ3⟩,e4,e1⟩:=obs e1;simp only[appTo] at e1;obtain⟨⟨ds,ρ4⟩,e5,e1⟩:=obs e1;dsimp only at e1;split at e1
   ·rename_i d zs e6;split at e1
    ·rename_i hl;cases e1;refine zY ((he C).to _ s7 σ6 H7 (fun v H8=>Rep (blk X scope cl s2 H2 fp C (N++[accN])) P O' L' ρ4 σ6 H8/\Den X.K (AvO O' ρ4 σ6) H8 d v) I7 ⟨P,O',L',ρ2,w,ρ3,rp7,e4,fun v H8 H8' r8 s8 d8=>?_⟩) (fun u8 s8 ⟨v8,H8,I8,r8,rp8,d8⟩=>?_) fun _ _ z=>z
     ·obtain⟨r9,l9,_⟩:=o6 (vs:=[v]) (r8.grow s8) e5 ⟨v,[],rfl,d8.fz r8 s8,rfl⟩;obtain⟨v',ev,h'⟩:=denL1 l9;cases ev;exact⟨r9,h'⟩
     ·obtain⟨d0,q1,q2⟩:=rp8.lnd js.length Dd hL;have e6':=e6;unfold ownAt at e6';rw[q1] at e6';cases e6';obtain⟨a,h1,vs,h4,lz⟩:=rp8.obj q1 rfl;rw[q2] at h1;cases h1;have h9:=a2u _ s8 σ6 H8 (.ref Dd) [v8] (.ref Dd) [u8] (fun v H9=>H9=upd H8 Dd (.lst (vs++[v8]))) I8 rfl (.cons r8 .nil) ⟨_,vs,v8,rfl,rfl,h4,by rw[<-c5 lz];exact zF hl k8,rfl⟩
      refine zY h9 (fun _ s9 ⟨v9,H9,I9,_,e9⟩=>?_) fun _ _ z=>z;subst e9;have g0:Go (AvO O' ρ4 σ6) (AvO O' ρ4 σ6) (fun b=>b=Dd) H8 (upd H8 Dd (.lst (vs++[v8]))):=⟨fun b o eb nb=>by rw[g5 nb];exact eb,fun b z=>by rw[z];exact⟨.inr ⟨js.length,_,_,q1,rfl,q2⟩,_,h4,trivial⟩,fun b z=>.inl z⟩
      exact back I9 (rp8.mut (d:=.lst (zs++[d])) e6 q2 (fun b o eb nb=>by rw[g5 nb];exact eb) ⟨_,m9,v7 g0 _ _ (t7 lz (i0 d8 j3))⟩)
    ·cases e1
   ·cases e1) hcalm I2 T st2 f2 b r hl wk hg ht e fin
theorem a6I {C:Addr}{σe:L2.St}{He:Hp}{s1:Shared}{h9:Heap}(I2:Inv X pins σ H2 s2)(f2:∀y∈fp,FpOk X pins H2 y)(leC:s2.heap.objs.size<=C)(I1:Inv (blk X scope cl s2 H2 fp C (N++[accN])) [] σe He s1)(hs9:∀y,y≠C->h9.get? y=s1.heap.get? y):
  Inv X pins σ He {s1 with heap:=h9}:=by
 have neC:∀y,He y≠none->y≠C:=fun y z w=>z (by rw[w];exact I1.free)
 have inS:∀y o,s2.heap.get? y=some o->y≠C:=fun y o e0=>zQ (zF (zP e0) leC);have B:=I1.base
 have un:Un (frs X.stack) fp H2 He s2.heap h9:=⟨fun y o e0 n hb hx=>(hs9 y (inS y o e0)).trans (B.keep y o e0 n hb hx),fun y o e0 n hb hx=>by
   obtain⟨sl',z⟩:=B.slot y o e0 n hb hx;exact⟨sl',(hs9 y (inS y o e0)).trans z⟩,B.free,fun y o e0 hx=>by
   obtain⟨o',z⟩:=B.there y o e0 hx
   exact⟨o',(hs9 y (inS y o e0)).trans z⟩,B.tups,B.frzs,B.tbls⟩
 have hok:HOk X.prog X.w He h9:=fun y u0 q0=>(I1.hok y u0 q0).stay (fun c v hc z=>(hs9 c (neC c (by
   rcases hc with w|w
   ·rw[w,q0];exact fun z=>nomatch z
   ·rw[w];exact fun z=>nomatch z))).trans z) (fun _ z=>z) fun _ _ z=>z
 exact I2.call' (s':={s1 with heap:=h9}) (ch:=fp) I1.os un hok I1.bare (fun y hy=>⟨(f2 y hy).2.2.2.1,(f2 y hy).2.1,(f2 y hy).2.2.2.2.1,(f2 y hy).2.2.2.2.2⟩)
end
def capR (js:List (Option Nat)):List W:=js.filterMap fun o=>o.map W.r
def backG (li:Option (Nat×Nat)) (js:List (Option Nat)) (ρe ρ1:Ev) (d:D):Option (W×Ev):=match li with
 | none=>if lfC d=true then some (.o d,ρ1) else(frzL (capR js) ρ1).map fun ρ2=>(.o d,ρ2)
 | some (i,j)=>if lfC d=true then(ownAt ρe i).bind fun c=>if lfC c=true then some (.o d,setOwn ρ1 j c) else none else none
def liJ (li:Option (Nat×Nat)) (js:List (Option Nat)):Bool:=match li with
 | none=>true
 | some (i,j)=>js[i]? == some (some j)&&(List.range js.length).all fun k=>js[k]? != some (some j)||k==i
def liB (li:Option (Nat×Nat)) (ρ:Ev):Bool:=match li with
 | none=>true
 | some (_,j)=>(ownAt ρ j).isSome
def fComp (fi:FI) (li:Option (Nat×Nat)) (js:List (Option Nat)) (gf:FG) (t:FT) (fe:FX):FX:=fun ρ=>(fi ρ).bind fun p=>if liB li p.2=true then
  (loopC (turnC js.length gf t fe) p.1 (capE (li.map (·.2)) js p.2++[some (.l (.lst []))])).bind fun ρe=>match ownAt ρe js.length with
   | some (.lst ys)=>backG li js ρe p.2 (.lst ys)
   | _=>none
 else none
section
variable {X:Cx}{pins:List (Addr×PySem.Obj)}{σ σe:L2.St}{H2 He:Hp}{s2:Shared}{scope:Scope}{cl:List (Str×Addr)}{N:List Str}{js:List (Option Nat)}{fp:List Addr}{Dd C:Addr}{elt tg iter:Expr}{ifs:List Expr}{pos:Pos}{P:List (D×V)}{O:Av}{L:List (Option Nat×Addr)}{ρ ρ2 ρe:Ev}{w:W}{ys:List D}{fi:FI}{gf:FG}{t:FT}{fe:FX}{li:Option (Nat×Nat)}
theorem li_ok (h:liJ li js=true)(hb:liB li ρ=true):LiOk li js ρ:=by
 cases li with
 | none=>exact⟨nofun,nofun,nofun⟩
 | some p=>
  obtain⟨i,j⟩:=p;simp only[liJ,xG,beq_iff_eq,xB,mem_range,Bool.or_eq_true,bne_iff_ne] at h;simp only[liB,isSome_iff_exists] at hb;refine⟨fun i' j' e=>by cases e;exact hb,fun i' j' e=>by cases e;exact h.1,fun i' j' k e ek=>?_⟩
  cases e;rcases h.2 k (zM.mp ek).1 with z|z
  ·exact absurd ek z
  ·exact z
theorem a7A {j:Nat}:W.r j∈capR js↔some j∈js:=by
 unfold capR;rw[mem_filterMap];constructor
 ·rintro⟨o,h1,h2⟩;cases o with
  | none=>cases h2
  | some k=>cases h2;exact h1
 ·exact fun h=>⟨some j,h,rfl⟩
theorem a9A (r:Rep X P O L ρ σ H2)(hl:LiOk li js ρ)(hn:H2 Dd=none)(rp:Rep (blk X scope cl s2 H2 fp C (N++[accN])) P (fun b=>AvO O ρ σ b/\¬Capd ρ σ js b) ((some js.length,Dd)::lentL li σ) ρe σe He)
  {d0:D} (ey:ownAt ρe js.length=some d0) (e:backG li js ρe ρ d0=some (w,ρ2)):∃Hx,Rep X P O L ρ2 σ Hx/\Same Hx He/\DenW X.K (AvO O ρ2 σ) σ Hx He w (.ref Dd):=by
 obtain⟨c0,q0,ob⟩:=rp.lents js.length Dd zI;rw[ey] at q0;cases q0;cases li with
 | none=>
  have sm:Same H2 He:=fun b o eb=>rp.same b o eb fun i m=>by
   rcases zN.mp m with m|m
   ·cases m;rw[hn] at eb;cases eb
   ·cases m
  unfold backG at e;simp only at e;split at e
  ·rename_i hf;cases e;exact⟨H2,r,sm,Dd,rfl,hn,a0Y (d:=d0) (fun _ _ e _=>e) hf rfl ob⟩
  ·obtain⟨ρ3,e4,e⟩:=oms e;cases e;obtain⟨r2,k2⟩:=Q4 r e4;refine⟨H2,r2,sm,Dd,rfl,hn,z8 (A6 fun b z=>?_) rfl ob⟩;rcases z with z|z
   ·obtain⟨z1,z2⟩:=a1y r k2 z;exact .inl ⟨z1,fun⟨j,w,d,m,q⟩=>z2 ⟨j,w,d,a7A.mpr m,q⟩⟩
   ·exact .inr ⟨js.length,by rw[z];exact zI⟩
 | some p=>
  obtain⟨i,j⟩:=p;unfold backG at e;simp only at e;split at e
  ·rename_i hf;cases e5:ownAt ρe i with
   | none=>rw[e5] at e;cases e
   | some c=>
    rw[e5] at e;simp only[bind_some] at e;split at e
    ·rename_i hc;cases e;obtain⟨c1,ec1⟩:=hl.own i j rfl;obtain⟨w0,q1,ow⟩:=w5 ec1;obtain⟨a,h1,oba⟩:=r.obj q1 ow;obtain⟨u0,eu0,_⟩:=J1 oba;have na:a≠Dd:=fun z=>by rw[z,hn] at eu0;cases eu0
     have mem:(some i,a)∈lentL (some (i,j)) σ:=K1.mpr ⟨j,rfl,h1⟩;obtain⟨c2,ec2,ob2⟩:=rp.lents i a (zH _ mem);rw[e5] at ec2;cases ec2;obtain⟨ur,eur,mur⟩:=J1 ob;have keep:∀b o,H2 b=some o->b≠a->He b=some o:=fun b o eb nb=>rp.same b o eb fun k m=>by
      rcases zN.mp m with m|m
      ·cases m;rw[hn] at eb;cases eb
      ·cases k with
       | none=>exact a0U m
       | some k=>
        obtain⟨j',e1,e2⟩:=K1.mp m;cases e1;rw[h1] at e2;cases e2;exact nb rfl
     refine⟨fun b=>if b=Dd then none else He b,r.mut ec1 h1 (fun b o eb nb=>?_) (a0Y (fun b o eb nm=>?_) hc (if_neg na) ob2),fun b o eb=>?_,Dd,rfl,if_pos rfl,a0Y (d:=d0) (fun _ _ e _=>e) hf rfl ob⟩
     ·have:b≠Dd:=fun z=>by rw[z,hn] at eb;cases eb
      show(if b=Dd then none else He b)=some o;rw[if_neg this];exact keep b o eb nb
     ·have:b≠Dd:=fun z=>by rw[z,eur] at eb;cases eb;exact nm mur
      show(if b=Dd then none else He b)=some o;rw[if_neg this];exact eb
     ·dsimp only at eb;split at eb
      ·cases eb
      ·exact eb
    ·cases e
  ·cases e
theorem a3A {Q:VK}{Qq:Value->Shared->Prop}{use:Option (Value->Sem Unit)}{H:Hp}{s:Shared}{newPos:Pos}(hc:X.calm=true)(b:Blk X scope cl N js)(hj:liJ li js=true)(hi:QIB X li tg iter fi)
  (hg:∀s2 H2 fp C,QG (blk X scope cl s2 H2 fp C (N++[accN])) tg gf) (ht:∀s2 H2 fp C,Tst (blk X scope cl s2 H2 fp C (N++[accN])) ifs t) (he:∀s2 H2 fp C,QX (blk X scope cl s2 H2 fp C (N++[accN])) elt fe) (hs:∀x,foldedSetIterable iter X.env x=pure x)
  (I:Inv X pins σ H s) (h:tX X (fComp fi li js gf t fe) σ H Q)
  (fin:∀(C:Addr) (v:V) (He:Hp) (s1:Shared),Q v He->(∀h9:Heap,(∀y,y≠C->h9.get? y=s1.heap.get? y)->Inv X pins σ He {s1 with heap:=h9})->FpOk X pins He C->(∃m,s1.heap.Ns C m)->∀vv,RelV v vv->compPost (model X.prog X.w) X.A X.xe use Qq vv C (.ok .next) s1):
  wpAny (model X.prog X.w) X.A (comprehension (.ListComp elt [⟨tg,iter,ifs,0⟩] scope pos) scope X.env newPos (newList []) false (eval iter X.env) use) Qq X.xe s:=by
 obtain⟨P,O,L,ρ,w,ρ',r,e,q⟩:=h;unfold fComp at e;obtain⟨⟨xs,ρ1⟩,e1,e⟩:=obs e;dsimp only at e;split at e
 ·rename_i hb;cases e2:loopC (turnC js.length gf t fe) xs (capE (li.map (·.2)) js ρ1++[some (.l (.lst []))]) with
  | none=>rw[e2] at e;cases e
  | some ρe=>
   rw[e2] at e;simp only[bind_some] at e;split at e
   ·rename_i ys ey;have hl:=li_ok hj hb;refine wpAny_comprehension_free rfl hs b.clos b.kind b.nms ?_;refine zY (hi.to pins s σ H _ I ⟨P,O,L,ρ,xs,ρ1,r,e1,fun J H1 P' r1 hh wk=>(⟨P',r1,hh,wk⟩:∃P',Rep X P' O L ρ1 σ H1/\Holds P' P/\WksB li X.K P' O ρ1 σ H1 xs J)⟩) (fun v s1 h1=>zY h1 (fun itv s2 h2=>?_) fun _ _ z=>z) fun _ _ z=>z;obtain⟨it,fp,tn,J,H2,rfl,I2,T,st2,f2,P',r1,hh,wk⟩:=h2;refine a7t hc I2 T st2 f2 b r1 hl wk (hg s2 H2 fp) (ht s2 H2 fp) (he s2 H2 fp) e2 fun Dd C σe He s3 hn leC I1 rp=>?_;obtain⟨Hx,rx,sx,dx⟩:=a9A r1 hl hn rp ey e;obtain⟨m,hm,_⟩:=id I1.loc;refine fin C (.ref Dd) He s3 (q _ Hx He (rx.holds hh) sx dx) (fun h9 k9=>a6I I2 f2 leC I1 k9) ?_ ⟨m,hm⟩ (.ref Dd) rfl;exact I2.fpOk leC I1.free
   ·cases e
 ·cases e
theorem m3 (hc:X.calm=true)(b:Blk X scope cl N js)(hi:QIB X li tg iter fi)(hg:∀s2 H2 fp C,QG (blk X scope cl s2 H2 fp C (N++[accN])) tg gf)(ht:∀s2 H2 fp C,Tst (blk X scope cl s2 H2 fp C (N++[accN])) ifs t)(he:∀s2 H2 fp C,QX (blk X scope cl s2 H2 fp C (N++[accN])) elt fe)
  (hj:liJ li js=true:=by rfl) (hs:∀x,foldedSetIterable iter X.env x=pure x:=by intro _;rfl):QX X (.ListComp elt [⟨tg,iter,ifs,0⟩] scope pos) (fComp fi li js gf t fe):=⟨fun pins s σ H Q I h=>by
 rw[eval_ListComp];refine a3A (use:=none) hc b hj hi hg ht he hs I h fun C v He s1 hq back fp ⟨m,hm⟩ vv rv=>?_
 exact⟨m,hm,fun h9 k9=>⟨v,He,back h9 fun y ny=>k9.2 y ny,rv,hq⟩⟩⟩
def UseOk (X:Cx) (pins:List (Addr×PySem.Obj)) (σ:L2.St) (Q:VK) (u:Value->Sem Unit) (Rr:Shared->Prop):Prop:=
 ∀(C:Addr) (m:Str->Option Value) (s':Shared) (H':Hp) (v:V) (vv:Value),FpOk X pins H' C->s'.heap.Ns C m->Inv X pins σ H' s'->RelV v vv->Q v H'->
  wpAny (model X.prog X.w) X.A (u vv) (fun _ s2=>∃m,s2.heap.Ns C m/\∀h',Heap.SameBut C s2.heap h'->Rr {s2 with heap:=h'}) X.xe s'
structure QXU (X:Cx) (e:Expr) (f:FX):Prop where
 to:∀(pins:List (Addr×PySem.Obj)) (s:Shared) (σ:L2.St) (H:Hp) (Q:VK) (u:Value->Sem Unit) (Rr:Shared->Prop),Inv X pins σ H s->tX X f σ H Q->UseOk X pins σ Q u Rr->
  wpAny (model X.prog X.w) X.A (evalThenUse e X.env u) (fun _ s'=>Rr s') X.xe s
theorem a7R {M:Model}{A:Around}{E:Value->Shared->Prop}{s:Shared}{env:Env}{elt:Expr}{g:Comprehension}{gs:List Comprehension}{scope:Scope}{pos:Pos}{u:Value->Sem Unit}{Rr:Shared->Prop}
  (h:wpAny M A (comprehension (.ListComp elt (g::gs) scope pos) scope env (firstIterPos (g::gs) pos) (newList []) (firstAsync (g::gs)) (firstIter (g::gs) env) (some u)) (fun _ s'=>Rr s') E s):
  wpAny M A (evalThenUse (.ListComp elt (g::gs) scope pos) env u) (fun _ s'=>Rr s') E s:=by
 show wpAny M A (do let _ <-comprehension (.ListComp elt (g::gs) scope pos) scope env (firstIterPos (g::gs) pos) (newList []) (firstAsync (g::gs)) (firstIter (g::gs) env) (some u)) _ _ s
 exact zA (zY h (fun _ s' hq=>zB hq) fun _ _ e=>e)
theorem a3p (hc:X.calm=true)(b:Blk X scope cl N js)(hi:QIB X li tg iter fi)(hg:∀s2 H2 fp C,QG (blk X scope cl s2 H2 fp C (N++[accN])) tg gf)(ht:∀s2 H2 fp C,Tst (blk X scope cl s2 H2 fp C (N++[accN])) ifs t)(he:∀s2 H2 fp C,QX (blk X scope cl s2 H2 fp C (N++[accN])) elt fe)
  (hj:liJ li js=true:=by rfl) (hs:∀x,foldedSetIterable iter X.env x=pure x:=by intro _;rfl):QXU X (.ListComp elt [⟨tg,iter,ifs,0⟩] scope pos) (fComp fi li js gf t fe):=⟨fun pins s σ H Q u Rr I h hU=>by
 refine a7R (a3A (use:=some u) hc b hj hi hg ht he hs I h fun C v He s1 hq back fp ⟨m,hm⟩ vv rv=>?_)
 exact hU C m s1 He v vv fp hm (back s1.heap fun y _=>rfl) rv hq⟩
end
theorem a5R {prog:Program}{w:World}{A:Around}(hh:A.handled=none){l I:Addr}{its:Array Value}(ne:l≠I):
  Walks prog w A I [I,l] [I] its.size (fun i v=>its[i]? =some v) (fun i h=>h.IsListIter I l i/\h.IsList l its) where
 sub:=fun b hb=>by rw[qB.mp hb];exact zI
 frame:=fun i h h' ⟨⟨o,e,r⟩,⟨o2,e2,r2⟩⟩ k=>⟨⟨o,k I zI o e,r⟩,⟨o2,k l (zH _ zI) o2 e2,r2⟩⟩
 item:=fun i s Q E hi ⟨h1,h2⟩ q=>wpAny_pyNext_list_item h1 h2 (x:=its[i]) (by simp[hi]) fun h' hit hs=>q its[i] h' s.toks (by simp[hi]) ⟨hit,h2.extBut hs.extBut ne⟩ fun b o hb e=>hs.extBut b o (fun z=>hb (by rw[z];exact qB.mpr rfl)) e
 done:=fun s Q E ⟨h1,h2⟩ q=>wpAny_pyNext_list_end hh h1 h2 (by simp) fun h' hx=>q h' s.toks fun b o hb e=>hx b o (fun z=>hb (by rw[z];exact qB.mpr rfl)) e
 self:=fun i s Q E ⟨h1,_⟩ q=>wpAny_pyIter_listiter h1 q
theorem a72 {bs:List Bool}{its:List Value}(r:Vals (bs.map V.bl) its){i:Nat}{v:Value}(e:its.toArray[i]? =some v):v= .bool (bs.getD i false):=by
 rw[List.getElem?_toArray] at e
 induction bs generalizing its i with
 | nil=>cases r;simp at e
 | cons b bs ih=>
  cases r with
  | cons r1 r2=>
   cases i with
   | zero=>simp at e;subst e;exact r1
   | succ i=>exact ih r2 (by simpa using e)
theorem a5O (bs:List Bool)(n:Nat)(hn:n=bs.length):(List.range n).all (fun i=>bs.getD i false)=bs.all id:=by
 subst hn;apply Bool.eq_iff_iff.mpr;simp only[xB,mem_range,id];constructor
 ·intro h x hx;obtain⟨i,hi,e⟩:=List.mem_iff_getElem.mp hx
  have:=h i hi
  rw[List.getD_eq_getElem?_getD,List.getElem?_eq_getElem hi] at this;simpa [e] using this
 ·intro h i hi;rw[List.getD_eq_getElem?_getD,List.getElem?_eq_getElem hi];exact h _ (List.getElem_mem hi)
section
variable {X:Cx}
theorem Q9 (hc:X.calm=true):CallR X (.builtin "all") (fun xs H Q=>∃(p:Addr) (bs:List Bool),xs=[.ref p]/\SqL X.K H p (bs.map V.bl)/\Q (.bl (bs.all id)) H):=by
 intro pins s σ H xs us Q I r h;obtain⟨p,bs,rfl,hq,q⟩:=h;obtain⟨u,rfl,ru⟩:=vals1 r;cases ru;obtain⟨its,rv,⟨o,m,h1,h2,_,h4⟩,hz⟩:=I.list hq;have hl:s.heap.IsList p its.toArray:=⟨o,h1,h2,m,h4⟩;have ne:p≠s.heap.objs.size:=zQ (zP h1);refine call_all_walk (wpAny_pyIter_list hl ⟨s.heap.objs.size,_,_,_,_,_,fun i=>bs.getD i false,rfl,a5R (show X.A.in1.handled=none from I.ok.hd hc) ne,⟨⟨_,zO _ rfl,rfl,rfl⟩,hl.push _⟩,fun i v s' Q' E' hv hq'=>?_,fun h' tk hk=>?_⟩)
 ·rw[a72 rv hv];exact xU hq'
 ·have I1:Inv X pins σ H {s with heap:=h',toks:=tk}:=I.kept (t':=tk) fun b ob e=>hk b ob (fun z=>absurd (zP e) (by rw[qB.mp z];exact jE _)) (zD _ e)
  refine⟨.bl _,H,I1,?_,q⟩;show Value.bool _=Value.bool _;rw[a5O bs _ (by rw[zU,<-rv.length,zC])]
end
section
variable {X:Cx}{b:Expr}{h:FX}{u:FT}
theorem a6p:CallR X (.type "int") (fun xs H Q=>∃b,xs=[.bl b]/\Q (.int (if b then 1 else 0)) H):=by
 intro pins s σ H xs us Q I r h;obtain⟨b,rfl,q⟩:=h;obtain⟨u,rfl,rx⟩:=vals1 r;cases(show u=Value.bool b from rx);exact call_int_bool ⟨.int _,H,I.tok _,⟨_,rfl⟩,q⟩
end
def sortI (ns:List Int):List Int:=ns.mergeSort fun a b=>decide (a<=b)
theorem a06 (ns:List Int):(sortI ns).Perm ns:=List.mergeSort_perm ns _
theorem a3a (ns:List Int):(sortI ns).Pairwise (·<=·):=by
 have z:=List.pairwise_mergeSort (le:=fun a b:Int=>decide (a<=b)) (fun a b c h1 h2=>by
  simp only[decide_eq_true_eq] at *;walk_at "o") (fun a b=>by
  simp only[Bool.or_eq_true,decide_eq_true_eq];walk_at "o") ns
 exact z.imp fun h=>by simpa using h
theorem V6:∀{its:List Value} {ns:List Int},IntsAre its ns->Vals (ns.map V.int) its
 | _,_,.nil=>.nil
 | _,_,.cons a t r=>.cons ⟨t,rfl⟩ (V6 r)
section
variable {X:Cx}{e:Expr}{p:Pos}
theorem a22:CallR X (.builtin "sorted") (fun xs H Q=>∃(p:Addr) (ns:List Int),xs=[.ref p]/\SqL X.K H p (ns.map V.int)/\ns.length<64/\∀l,H l=none->Q (.ref l) (upd H l (.lst ((sortI ns).map V.int)))):=by
 intro pins s σ H xs us Q I r h;obtain⟨p,ns,rfl,hq,h64,q⟩:=h;obtain⟨u,rfl,ru⟩:=vals1 r;cases ru;refine Calls.call_function_entry kind_sorted plain_sorted entry_sorted (args_sorted1 _) ?_;unfold Builtin.«sorted»;refine zA (m:=checkCount "sorted" 1 1 _) (zB ?_);obtain⟨its,rv,⟨o,m,h1,h2,_,h4⟩,hz⟩:=I.list hq;have len:its.length=ns.length:=by rw[<-rv.length,zC]
 have hL:s.heap.IsList p its.toArray:=⟨o,h1,h2,m,h4⟩;have sz:its.length<=sizeLine:=by rw[len,jI];walk_at "o"
 refine zA (collect_list hL ?_ sz);refine zA (wpAny_newList ?_ sz);have I1:Inv X pins σ H {s with heap:=(s.heap.push (seqObj "list" #[] 0)).update s.heap.objs.size (PySem.Obj.mapSeq (· ++ its.toArray))}:=I.kept (t':=s.toks) fun b o e=>by
  rw[xW _ _ _ _ (zQ (zP e))];exact zD _ e
 generalize hG:(s.heap.push (seqObj "list" #[] 0)).update s.heap.objs.size (PySem.Obj.mapSeq (· ++ its.toArray))=G at I1 ⊢;have ho:(G.push (seqObj "list" its.toArray 0)).get? G.objs.size=some (seqObj "list" its.toArray 0):=zO _ rfl;refine zA (qP ?_);refine qI PyProof.Rows.slot_list_sort ⟨_,ho,rfl⟩ PyProof.Rows.entry_list_sort (list_sort_tree (n:=0) (vs:=its) ho (L0 rv) (by walk_at "o") fun out ns' hI hp hP=>⟨.none,rfl,?_⟩) (PyProof.Rows.args_list_sort _)
 have es:ns'=sortI ns:=PySem.W.lks_uniq (hp.trans (a06 ns).symm) hP (a3a ns);subst es;have g1:=get?_update_seq ho (fun _=> #[]);have g2:=get?_update_seq (zD (seqObj "list" #[] 0) (zD (seqObj "tuple" its.toArray 0) g1)) (fun _=>out);have kept:∀b o,G.get? b=some o->(sortedHeap (G.push (seqObj "list" its.toArray 0)) G.objs.size its out).get? b=some o:=fun b o e=>by
  have ne:b≠G.objs.size:=zQ (zP e);unfold sortedHeap;rw[xW _ _ _ _ ne];refine zD _ (zD _ ?_);rw[xW _ _ _ _ ne];exact zD _ e
 refine zB ⟨_,rfl,.ref G.objs.size,_,I1.laid (t':=s.toks) (o:=.lst ((sortI ns).map V.int)) kept (zE _) ?_,rfl,q _ (I1.hok.fresh (zE _))⟩;obtain⟨ep,g3⟩:∃ep,(sortedHeap (G.push (seqObj "list" its.toArray 0)) G.objs.size its out).get? G.objs.size=some (seqObj "list" out.toList.toArray ep):=⟨_,by rw[Array.toArray_toList];exact g2⟩
 exact⟨by rw[zC,(a06 ns).length_eq,jI];walk_at "o",out.toList,_,V6 hI,g3⟩
end
section
variable {prog:Program}{w:World}{A:Around}{E:Value->Shared->Prop}{s:Shared}
theorem a4e {t sl:Addr}{items:Array Value}{vl vu:Value}{lo hi:Option Int}{Q:Value->Shared->Prop}(ht:IsTup s.heap t items)(hs:s.heap.IsSliceOf sl vl vu .none)(pl:IsPart vl lo)(pu:IsPart vu hi)
  (hw:HT.sIx items.size 0 lo=0/\HT.sIx items.size items.size hi=items.size) (h:Q (.ref t) s):wpAny (model prog w) A (getItem (.ref t) (.ref sl)) Q E s:=by
 obtain⟨os,hos,hcs,hds⟩:=id hs;have hTs:s.TypeIs (.ref sl) "slice":=⟨os,hos,hcs⟩;unfold getItem
 try with_reducible refine qP ?_
 first|refine zA (zB ?_)|skip
 refine zA (wpAny_sequenceKey ht.typeIs (by decide) ?_)
 refine zA (qD (name:=Str.ofString "__getitem__") ht.typeIs qL
  (qI qL ht.typeIs entry_tuple_getitem ?_ (args_tuple_getitem _ _)))
 show wpAny _ _ (Builtin.Tuple.tupleItemsOf (.ref t) >>=_) _ _ s;refine zA (tupleItemsOf_ ht ?_);refine zA (wpAny_typeOf hTs ?_);rw[if_pos (by decide)]
 refine zA (HT.sliceApplied_gen hs pl pu ?_);show wpAny _ _ (if(((HT.sIx items.size 0 lo:Nat):Int)==0&&(1:Int)==1&&(HT.sIx items.size items.size hi-HT.sIx items.size 0 lo)==items.size)=true then _ else _) _ _ s;rw[if_pos (by rw[hw.1,hw.2];simp)]
 unfold Builtin.Tuple.tupleIsExact;refine zA (zA (wpAny_typeOf ht.typeIs (zB ?_)));rw[if_pos (by decide)]
 first
  | exact zA (jZ (zB ⟨_,rfl,zB h⟩))
  | exact zA (jZ (zA (zB (zB ⟨_,rfl,zB h⟩))))
end
section
variable {X:Cx}{a b c e:Expr}{es:List Expr}{pos p:Pos}{f g h:FX}{t u:FT}{fa:FA}{x:Str}
def rSlF (K:PySem.W.Frag):V->Option Int->Option Int->Hp->VK->Prop:=fun x lo hi H Q=>∃a xs,x= .ref a/\SqT K H a xs/\(HT.sIx xs.length 0 lo=0/\HT.sIx xs.length xs.length hi=xs.length)/\Q (.ref a) H
theorem a9e:SlR X (rSlF X.K):=by
 intro pins s σ H x v vl vu lo hi sl Q I rx hs pl pu h;obtain⟨a,xs,rfl,hx,hw,q⟩:=h;cases rx;obtain⟨its,r,ht,hz⟩:=I.tuple hx;have hlen:its.toArray.size=xs.length:=by rw[zU];exact r.length.symm
 refine⟨"tuple",_,PyProof.Rows.slot_tuple_getitem.lookup,ht.typeIs,?_⟩;exact a4e ht hs pl pu (by rw[hlen];exact hw) ⟨.ref a,H,I,rfl,q⟩
theorem qx_b {id:String}{r:List V->Hp->VK->Prop}{k:List D->Option W}(hc:CallR X (.builtin id) r)(hk:PrA X k r)(hm:X.mg x=none)(ha:QA X (e::es) fa)(hv:bootBuiltins x=some (.builtin id):=by rfl)(hg:Gl X x:=by rfl)(hn:x≠"__name__":=by decide)(hdb:(x==("__debug__":Str))=false:=by decide)
  (he:starEach (e::es) X.env=(false,eval e X.env)::starEach es X.env:=by rfl) (hpl:(backTo pos (starEach es X.env)).any (·.1)=false:=by rfl):QX X (.Call (.Name x p) (e::es) [] pos) (fCall k fa):=a00 hc hk hv hm ha hg hn hdb he hpl
theorem qx_t {T:String}{r:List V->Hp->VK->Prop}{k:List D->Option W}(hc:CallR X (.type T) r)(hk:PrA X k r)(hm:X.mg x=none)(ha:QA X (e::es) fa)(hv:bootBuiltins x=some (.type T):=by rfl)(hg:Gl X x:=by rfl)(hn:x≠"__name__":=by decide)(hdb:(x==("__debug__":Str))=false:=by decide)
  (he:starEach (e::es) X.env=(false,eval e X.env)::starEach es X.env:=by rfl) (hpl:(backTo pos (starEach es X.env)).any (·.1)=false:=by rfl):QX X (.Call (.Name x p) (e::es) [] pos) (fCall k fa):=a3W hc hk hv hm ha hg hn hdb he hpl
def k1 (g:D->Option W):List D->Option W
 | [d]=>g d
 | _=>none
theorem pr1 {g:D->Option W}{r:List V->Hp->VK->Prop}(h:∀(A:Av) (d:D) (w:W) (v:V) (H:Hp) (Q:VK),g d=some w->DenR X.K A H d v->(∀z H',Same H H'->DenW X.K A [] H H' w z->Q z H')->r [v] H Q):PrA X (k1 g) r:=fun A ds w vs H Q _ e l q=>by
 unfold k1 at e;split at e
 ·obtain⟨v,rfl,h1⟩:=denRL1 l;exact h A _ w v H Q e h1 q
 ·cases e
def k2 (g:Int->Int->D):List D->Option W
 | [.int i,.int j]=>some (.v (g i j))
 | _=>none
theorem pr2 {g:Int->Int->Int}{r:List V->Hp->VK->Prop}(h:∀i j (H:Hp) (Q:VK),Q (.int (g i j)) H->r [.int i,.int j] H Q):PrA X (k2 fun i j=>.int (g i j)) r:=fun A ds w vs H Q _ e l q=>by
 unfold k2 at e;split at e
 ·rename_i i j;cases e;obtain⟨v,v',rfl,h1,h2⟩:=denRL2 l;rw[h7 h1,h7 h2];exact h i j H Q (q _ H (Same.refl H) A2)
 ·cases e
def gLen (d:D):Option W:=(items d).map fun xs=>.v (.int xs.length)
theorem b1y:PrA X (k1 gLen) (fun xs H Q=>∃p ys,xs=[.ref p]/\(SqL X.K H p ys\/SqT X.K H p ys)/\Q (.int ys.length) H):=pr1 fun A d w v H Q e h q=>by
 unfold gLen at e;obtain⟨xs,e1,e⟩:=oms e;cases e;obtain⟨a,ws,rfl,hq,lw⟩:=a0c e1 h;exact⟨a,ws,rfl,hq,by rw[<-c5 lw];exact q _ H (Same.refl H) A2⟩
def gAbs:D->Option W
 | .int i=>some (.v (.int (if i<0 then -i else i)))
 | _=>none
theorem b1J:PrA X (k1 gAbs) (fun xs H Q=>∃i,xs=[.int i]/\Q (.int (if i<0 then -i else i)) H):=pr1 fun A d w v H Q e h q=>by
 cases d<;>simp only[gAbs] at e<;>cases e
 exact⟨_,by rw[h7 h],q _ H (Same.refl H) A2⟩
abbrev gMax:=k2 fun i j=>.int (if j>i then j else i)
abbrev gMin:=k2 fun i j=>.int (if j<i then j else i)
theorem b2e:PrA X gMax (fun xs H Q=>∃i j,xs=[.int i,.int j]/\Q (.int (if j>i then j else i)) H):=pr2 fun i j H Q q=>⟨i,j,rfl,q⟩
theorem a7i:PrA X gMin (fun xs H Q=>∃i j,xs=[.int i,.int j]/\Q (.int (if j<i then j else i)) H):=pr2 fun i j H Q q=>⟨i,j,rfl,q⟩
def gStr:D->Option W
 | .int i=>if i.natAbs<2^1900 then some (.v (.str (toString i))) else none
 | _=>none
def gInt:D->Option W
 | .bl b=>some (.v (.int (if b then 1 else 0)))
 | _=>none
theorem b1Q:PrA X (k1 gInt) (fun xs H Q=>∃b,xs=[.bl b]/\Q (.int (if b then 1 else 0)) H):=pr1 fun A d w v H Q e h q=>by
 cases d<;>simp only[gInt] at e<;>cases e
 exact⟨_,by rw[a0O h],q _ H (Same.refl H) A2⟩
def gTuple (d:D):Option W:=(items d).map fun xs=>.v (.tup xs)
theorem K4:PrA X (k1 gTuple) (fun xs H Q=>∃p ys,xs=[.ref p]/\((SqL X.K H p ys/\∀l,H l=none->Q (.ref l) (upd H l (.tup ys)))\/(SqT X.K H p ys/\Q (.ref p) H))):=pr1 fun A d w v H Q e h q=>by
 cases d<;>simp only[gTuple,items,Option.map_none] at e<;>first|cases e|skip
 ·rename_i xs;obtain⟨a,vs,rfl,hq,l⟩:=B8 h;exact⟨a,vs,rfl,.inr ⟨hq,q _ H (Same.refl H) h⟩⟩
 ·rename_i xs;obtain⟨a,vs,rfl,hq,l⟩:=h;exact⟨a,vs,rfl,.inl ⟨hq,fun l' hl=>q _ _ (g9 hl _) (F0 hl l)⟩⟩
def gList (d:D):Option W:=(items d).map fun xs=>.o (.lst xs)
theorem a9j:PrA X (k1 gList) (fun xs H Q=>∃p ys,xs=[.ref p]/\(SqL X.K H p ys\/SqT X.K H p ys)/\∀l,H l=none->Q (.ref l) (upd H l (.lst ys))):=pr1 fun A d w v H Q e h q=>by
 unfold gList at e;obtain⟨xs,e1,e⟩:=oms e;cases e;obtain⟨a,ws,rfl,hq,lw⟩:=a0c e1 h;exact⟨a,ws,rfl,hq,fun l hl=>q _ _ (g9 hl _) (z9 hl lw)⟩
def intsOf:List D->Option (List Int)
 | []=>some []
 | .int i::ds=>(intsOf ds).map fun is=>i::is
 | _=>none
theorem J9:∀{ds:List D} {is:List Int},intsOf ds=some is->ds=is.map D.int
 | [],is,e=>by cases e;rfl
 | .int i::ds,is,e=>by
  rw[intsOf] at e;cases e1:intsOf ds with
  | none=>rw[e1] at e;cases e
  | some js=>rw[e1] at e;cases e;rw[zJ,<-J9 e1]
 | .non::ds,is,e=>by cases e
 | .bl _::ds,is,e=>by cases e
 | .str _::ds,is,e=>by cases e
 | .tup _::ds,is,e=>by cases e
 | .lst _::ds,is,e=>by cases e
 | .dT _ _::ds,is,e=>by cases e
 | .dK _ _::ds,is,e=>by cases e
 | .exn _::ds,is,e=>by cases e
theorem A4:∀is:List Int,intsOf (is.map D.int)=some is
 | []=>rfl
 | i::is=>by rw[zJ,intsOf,A4 is];rfl
theorem B4 {K:PySem.W.Frag}{A:Av}{H:Hp}:∀{is:List Int} {vs:List V},DenL K A H (is.map D.int) vs->vs=is.map V.int
 | [],vs,l=>by rw[xD,DenL] at l;exact l
 | i::is,vs,l=>by
  rw[zJ,DenL] at l;obtain⟨v,r,rfl,h,l⟩:=l;rw[B5.mp h,B4 l];rfl
theorem J5 {K:PySem.W.Frag}{A:Av}{H:Hp}:∀ns:List Int,DenL K A H (ns.map D.int) (ns.map V.int)
 | []=>by rw[xD,xD];exact j3
 | n::ns=>by rw[zJ,zJ];exact i0 (by rw[Den]) (J5 ns)
def boolsOf:List D->Option (List Bool)
 | []=>some []
 | .bl i::ds=>(boolsOf ds).map fun is=>i::is
 | _=>none
theorem a1C:∀{ds:List D} {is:List Bool},boolsOf ds=some is->ds=is.map D.bl
 | [],is,e=>by cases e;rfl
 | .bl i::ds,is,e=>by
  rw[boolsOf] at e;cases e1:boolsOf ds with
  | none=>rw[e1] at e;cases e
  | some js=>rw[e1] at e;cases e;rw[zJ,<-a1C e1]
 | .non::ds,is,e=>by cases e
 | .int _::ds,is,e=>by cases e
 | .str _::ds,is,e=>by cases e
 | .tup _::ds,is,e=>by cases e
 | .lst _::ds,is,e=>by cases e
 | .dT _ _::ds,is,e=>by cases e
 | .dK _ _::ds,is,e=>by cases e
 | .exn _::ds,is,e=>by cases e
theorem a0r:∀is:List Bool,boolsOf (is.map D.bl)=some is
 | []=>rfl
 | i::is=>by rw[zJ,boolsOf,a0r is];rfl
theorem R6 {K:PySem.W.Frag}{A:Av}{H:Hp}:∀{is:List Bool} {vs:List V},DenL K A H (is.map D.bl) vs->vs=is.map V.bl
 | [],vs,l=>by rw[xD,DenL] at l;exact l
 | i::is,vs,l=>by
  rw[zJ,DenL] at l;obtain⟨v,r,rfl,h,l⟩:=l;rw[a1n.mp h,R6 l];rfl
def gBools (r:List Bool->Bool):D->Option W
 | .lst xs=>(boolsOf xs).map fun bs=>.v (.bl (r bs))
 | _=>none
theorem X0 {r:List Bool->Bool}:PrA X (k1 (gBools r)) (fun xs H Q=>∃(p:Addr) (bs:List Bool),xs=[.ref p]/\SqL X.K H p (bs.map V.bl)/\Q (.bl (r bs)) H):=pr1 fun A d w v H Q e h q=>by
 cases d with
 | lst xs=>
  simp only[gBools] at e;obtain⟨bs,e1,e⟩:=oms e;cases e;obtain⟨a,vs,rfl,hq,l⟩:=h;rw[a1C e1] at l;rw[R6 l] at hq;exact⟨a,bs,rfl,hq,q _ H (Same.refl H) C1⟩
 | _=>cases e
def gSortI:D->Option W
 | .lst xs=>(intsOf xs).bind fun ns=>if ns.length<64 then some (.o (.lst ((sortI ns).map D.int))) else none
 | _=>none
theorem a8I:PrA X (k1 gSortI) (fun xs H Q=>∃(p:Addr) (ns:List Int),xs=[.ref p]/\SqL X.K H p (ns.map V.int)/\ns.length<64/\∀l,H l=none->Q (.ref l) (upd H l (.lst ((sortI ns).map V.int)))):=pr1 fun A d w v H Q e h q=>by
 cases d with
 | lst xs=>
  simp only[gSortI] at e;cases e1:intsOf xs with
  | none=>rw[e1] at e;cases e
  | some bs=>
   rw[e1] at e;simp only[bind_some] at e;split at e
   ·rename_i hl;cases e;obtain⟨a,vs,rfl,hq,l⟩:=h;rw[J9 e1] at l;rw[B4 l] at hq;exact⟨a,bs,rfl,hq,hl,fun l hl=>q _ _ (g9 hl _) (z9 hl (J5 _))⟩
   ·cases e
 | _=>cases e
def GlI (mg:Str->Option Value) (x:Str) (i:Int):Prop:=∃t,mg x=some (.int i t)
theorem E4 {i:Int}(hm:GlI X.mg x i)(hg:Gl X x:=by rfl)(hd:(x==("__debug__":Str))=false:=by decide):QX X (.Name x pos) (fC (.int i)):=by
 obtain⟨t,hm⟩:=hm;exact⟨PE.weak (a4O (v:=.int i) hg hm ⟨t,rfl⟩ hd) (a2r fun A H=>by rw[Den])⟩
def oLtT:D->D->Option W
 | .int i,.int j=>some (.v (.bl (decide (i<j))))
 | .tup xs,.tup ys=>(intsOf xs).bind fun ns=>(intsOf ys).map fun ms=>.v (.bl (HT.lexLt ns ms))
 | _,_=>none
theorem kLtT:Pr2 X oLtT (fun v u H Q=>rI0 (fun i j=>.bl (decide (i<j))) v u H Q\/rLtT X.K v u H Q):=by
 intro A x y w v u H Q _ e hx hy q;unfold oLtT at e;split at e
 ·cases e;exact .inl ⟨_,_,h7 hx,h7 hy,q _ H (Same.refl H) C1⟩
 ·rename_i xs ys;cases e1:intsOf xs with
  | none=>rw[e1] at e;cases e
  | some ns=>
   cases e2:intsOf ys with
   | none=>rw[e1,e2] at e;cases e
   | some ms=>
    rw[e1,e2] at e;cases e;obtain⟨a,vs,rfl,h1,l1⟩:=B8 hx;obtain⟨b,us,rfl,h2,l2⟩:=B8 hy;rw[J9 e1] at l1;rw[J9 e2] at l2;rw[B4 l1] at h1;rw[B4 l2] at h2;exact .inr ⟨a,b,ns,ms,rfl,rfl,h1,h2,q _ H (Same.refl H) C1⟩
 ·cases e
theorem a7s {k:Nat}(hr:Room k X.A)(ha:QX X a f)(hb:QX X b g):QX X (.Compare a [.Lt] [b] pos) (fBin oLtT f g):=a4n (a61.or (a8r (by have:=hr.units;walk_at "o"))) kLtT ha hb
theorem a4r {k:Nat}(hr:Room k X.A)(ha:QX X a f)(hb:QX X b g):QT X (.Compare a [.Lt] [b] pos) (fTest (fBin oLtT f g)):=a0l (a61.or (a8r (by have:=hr.units;walk_at "o"))) kLtT ha hb
def fChain (o o':D->D->Option W) (f g h:FX):FX:=fun ρ=>(f ρ).bind fun p=>(g p.2).bind fun q=>(dr q.2 p.1.fz).bind fun x=>(dr q.2 q.1.fz).bind fun y=>(o x y).bind fun d=>match d with
 | .v (.bl k)=>if k=true then(h q.2).bind fun z=>(dr z.2 q.1.fz).bind fun y=>(dr z.2 z.1.fz).bind fun z'=>(o' y z').map fun w=>(w,z.2) else some (.v (.bl false),q.2)
 | _=>none
theorem a1N {r r':R2}{o o':D->D->Option W}(k:Pr2 X o r)(k':Pr2 X o' r'):∀σ H Q,tX X (fChain o o' f g h) σ H Q->tChain r r' (tX X f) (tX X g) (tX X h) σ H Q:=fun σ H Q h0=>tXe h0 fun P O L ρ w ρ' r e q=>by
 unfold fChain at e;obtain⟨⟨w1,ρ1⟩,e1,e⟩:=obs e;dsimp only at e;refine⟨P,O,L,ρ,w1,ρ1,r,e1,fun v H1 H1' r1 s1 d1=>?_⟩;obtain⟨P',r1',k1⟩:=hold (r1.grow s1) (d1.fz r1 s1);obtain⟨⟨w2,ρ2⟩,e2,e⟩:=obs e;dsimp only at e;refine⟨P',O,L,ρ1,w2,ρ2,r1',e2,fun u H2 H2' r2 s2 d2=>?_⟩;have d2':=d2.fz r2 s2;obtain⟨r3,d1'⟩:=k1 ρ2 H2' (r2.grow s2);cases e3:dr ρ2 w1.fz with
 | none=>rw[e3] at e;cases e
 | some x=>
  cases e4:dr ρ2 w2.fz with
  | none=>rw[e3,e4] at e;cases e
  | some y=>
   rw[e3,e4] at e;simp only[bind_some] at e;cases e5:o x y with
   | none=>rw[e5] at e;cases e
   | some d0=>
    rw[e5] at e;simp only[bind_some] at e;refine k _ x y d0 v u H2' _ (fun b z=>r3.there z) e5 (C4 r3 e3 d1') (C4 r3 e4 d2') fun z H3 s3 d3=>?_;split at e
    ·rename_i b;refine⟨b,T8 d3,?_⟩;have r4:=r3.grow s3;cases b with
     | true=>
      rw[if_pos rfl] at e ⊢;obtain⟨P'',r4',k4⟩:=hold r4 (d2'.same s3);obtain⟨⟨w3,ρ3⟩,e6,e⟩:=obs e;dsimp only at e;refine⟨P'',O,L,ρ2,w3,ρ3,r4',e6,fun u3 H5 H5' r5 s5 d5=>?_⟩;obtain⟨r6,d6⟩:=k4 ρ3 H5' (r5.grow s5);cases e7:dr ρ3 w2.fz with
      | none=>rw[e7] at e;cases e
      | some y'=>
       cases e8:dr ρ3 w3.fz with
       | none=>rw[e7,e8] at e;cases e
       | some z'=>
        rw[e7,e8] at e;simp only[bind_some] at e;cases e9:o' y' z' with
        | none=>rw[e9] at e;cases e
        | some w'=>
         rw[e9] at e;cases e;exact k' _ y' z' w u u3 H5' Q (fun b z=>r6.there z) e9 (C4 r6 e7 d6) (C4 r6 e8 (d5.fz r5 s5)) fun z H' s d=>q z H5' H' r6 s d.st
     | false=>
      rw[if_neg zS] at e ⊢;cases e;exact q _ H3 H3 r4 (Same.refl _) C1
    ·cases e
theorem a9n (ha:QX X a f)(hb:QX X b g)(hc:QX X c h)(hm:lastMarks [.LtE,.Lt] [b,c]=false:=by with_unfolding_all rfl):QX X (.Compare a [.LtE,.Lt] [b,c] pos) (fChain oLe oLt f g h):=⟨PE.weak (a3x a8j a61 ha.to hb.to hc.to hm) (a1N kB0 kB0)⟩
theorem a47 (ha:QX X a f)(hb:QX X b g)(hc:QX X c h)(hm:lastMarks [.LtE,.LtE] [b,c]=false:=by with_unfolding_all rfl):QX X (.Compare a [.LtE,.LtE] [b,c] pos) (fChain oLe oLe f g h):=⟨PE.weak (a3x a8j a8j ha.to hb.to hc.to hm) (a1N kB0 kB0)⟩
abbrev FO:=Ev->Option (Option Int×Ev)
def tO (X:Cx) (f:FO):TO:=fun σ H Q=>∃P O L ρ o ρ',Rep X P O L ρ σ H/\f ρ=some (o,ρ')/\∀H',Rep X P O L ρ' σ H'->Q o H'
theorem tOe {X:Cx}{f:FO}{σ:L2.St}{H:Hp}{Q:Option Int->Hp->Prop}{C:Prop}(h:tO X f σ H Q)(k:∀P O L ρ o ρ',Rep X P O L ρ σ H->f ρ=some (o,ρ')->(∀H',Rep X P O L ρ' σ H'->Q o H')->C):C:=by
 obtain⟨P,O,L,ρ,w,ρ',r,e,q⟩:=h;exact k P O L ρ w ρ' r e q
structure QO (X:Cx) (e:Option Expr) (f:FO):Prop where
 to:PO X e (tO X f)
theorem PO.weak {X:Cx}{e:Option Expr}{t u:TO}(h:PO X e t)(w:∀σ H Q,u σ H Q->t σ H Q):PO X e u:=fun pins s σ H Q I q=>h pins s σ H Q I (w σ H Q q)
def fO0:FO:=fun ρ=>some (none,ρ)
def fO1 (f:FX):FO:=fun ρ=>(f ρ).bind fun p=>match p.1 with|.v (.int i)=>some (some i,p.2)|_=>none
theorem R3:QO X none fO0:=⟨PO.weak a9P fun σ H Q h0=>tOe h0 fun P O L ρ o ρ' r e q=>by cases e;exact q H r⟩
theorem G6 (ha:QX X e f):QO X (some e) (fO1 f):=⟨PO.weak (a8Z ha.to) fun σ H Q h0=>tOe h0 fun P O L ρ o ρ' r e q=>by
 unfold fO1 at e;obtain⟨⟨w,ρ1⟩,e1,e⟩:=obs e;dsimp only at e;split at e
 ·rename_i i;cases e;refine⟨P,O,L,ρ,_,_,r,e1,fun v H1 H' r1 s1 d1=>⟨i,?_,q H' (r1.grow s1)⟩⟩;have d1:Den X.K (AvO O ρ' σ) H' (.int i) v:=d1;exact B5.mp d1
 ·cases e⟩
def cutD (xs:List D) (lo hi:Option Int):List D:=(xs.drop (HT.sIx xs.length 0 lo)).take (HT.sIx xs.length xs.length hi-HT.sIx xs.length 0 lo)
theorem a3j {K:PySem.W.Frag}{A:Av}{H:Hp}{xs:List D}{vs:List V}(lo hi:Option Int)(l:DenL K A H xs vs):DenL K A H (cutD xs lo hi) (cutV vs lo hi):=by
 unfold cutD cutV;rw[c5 l];exact a2C _ (a2l _ l)
def slD (x:D) (lo hi:Option Int):Option W:=match x with
 | .tup xs=>some (.v (.tup (cutD xs lo hi)))
 | .lst xs=>some (.o (.lst (cutD xs lo hi)))
 | _=>none
def fSl (f:FX) (lo hi:FO):FX:=fun ρ=>(f ρ).bind fun p=>(lo p.2).bind fun l=>(hi l.2).bind fun u=>(dr u.2 p.1.fz).bind fun x=>(slD x l.1 u.1).map fun w=>(w,u.2)
theorem K3 {lo hi:Option Expr}{fl fu:FO}{p2:Pos}(ha:QX X a f)(hl:QO X lo fl)(hu:QO X hi fu):QX X (.Subscript a (.Slice lo hi none p2) pos) (fSl f fl fu):=⟨PE.weak (a3q ((a9S.or b1i).or a9e) ha.to hl.to hu.to) fun σ H Q h0=>tXe h0 fun P O L ρ w ρ' r e q=>by
 unfold fSl at e;obtain⟨⟨w1,ρ1⟩,e1,e⟩:=obs e;dsimp only at e;obtain⟨⟨l,ρ2⟩,e2,e⟩:=obs e;dsimp only at e;obtain⟨⟨u,ρ3⟩,e3,e⟩:=obs e;dsimp only at e;refine⟨P,O,L,ρ,w1,ρ1,r,e1,fun v H1 H1' r1 s1 d1=>?_⟩;obtain⟨P',r1',k1⟩:=hold (r1.grow s1) (d1.fz r1 s1);refine⟨P',O,L,ρ1,l,ρ2,r1',e2,fun H2 r2=>⟨P',O,L,ρ2,u,ρ3,r2,e3,fun H3 r3=>?_⟩⟩;obtain⟨r4,d4⟩:=k1 ρ3 H3 r3;cases e4:dr ρ3 w1.fz with
 | none=>rw[e4] at e;cases e
 | some x=>
  rw[e4] at e;simp only[bind_some] at e;have dx:=C4 r4 e4 d4;cases x with
  | tup xs=>
   cases e;obtain⟨a,vs,ev,hq,la⟩:=B8 dx
   by_cases hn:HT.sIx xs.length 0 l=0/\HT.sIx xs.length xs.length u=xs.length
   ·refine .inr ⟨a,vs,ev,hq,by rw[<-c5 la];exact hn,q _ H3 H3 r4 (Same.refl _) ?_⟩
    have ec:cutD xs l u=xs:=by
     unfold cutD;rw[hn.1,hn.2,drop_zero,Nat.sub_zero,List.take_length]
    rw[ec,<-ev];exact dx
   ·exact .inl (.inr ⟨a,vs,ev,hq,by rw[<-c5 la];exact hn,fun p hp=>q _ H3 _ r4 (g9 hp _) (F0 hp (a3j l u la))⟩)
  | lst xs=>
   cases e;obtain⟨a,vs,ev,hq,la⟩:=dx;exact .inl (.inl ⟨a,vs,ev,hq,fun p hp=>q _ H3 _ r4 (g9 hp _) (z9 hp (a3j l u la))⟩)
  | _=>cases e⟩
end
section
variable {X:Cx}{a b e o:Expr}{es:List Expr}{pos p apos:Pos}{f h:FX}{fa:FA}{x:Str}
theorem a5D (i:Nat){pos':Pos}(hN:X.N.Nodup)(ha:QXU X e f)(hi:X.N[i]? =some x:=by rfl)(hx:Loc X.env.scope x:=by first|exact Or.inl rfl|exact Or.inr rfl)(hs:swapsWith e (some (.Name x pos')) pos.line X.env=pure true:=by rfl)(hf:X.fn x=true\/X.env.scope.names.lookup x=some .local:=by first|exact .inl rfl|exact .inr rfl):
  QS X (.Assign [.Name x pos'] e pos) (fAsg i f):=⟨fun pins s σ H E I h0=>tSe h0 fun P O L ρ r rp e0 q=>by
 unfold fAsg at e0;obtain⟨⟨w,ρ1⟩,e1,e0⟩:=obs e0;dsimp only at e0;obtain⟨ρ2,e2,e0⟩:=oms e0;cases e0;rw[exec_Assign_Name_used _ _ _ _ hs];refine zA (wpAny_standAt (zA (zY (ha.to pins s σ H (fun v H'=>∃H1,Rep X P O L ρ1 σ H1/\Same H1 H'/\DenW X.K (AvO O ρ1 σ) σ H1 H' w v) (assign (.Name x pos') X.env) (fun s'=>SP X pins E .next s') I ⟨P,O,L,ρ,w,ρ1,rp,e1,fun v H1 H' r1 s1 d1=>⟨H1,r1,s1,d1⟩⟩ ?_) (fun _ s' h=>zB h) fun _ _ z=>z)));intro C m s' H' v vv fp hn I' rv ⟨H1,r1,sm,dv⟩;obtain⟨o,es,ep,ho,hd,hk⟩:=hn;obtain⟨f0,f1,f2,f3,f4,f5⟩:=fp;have I2:Inv X (pins++[(C,o)]) σ H' s':=I'.pins_of fun p hp=>(qY.mp hp).elim (fun z=>I'.pin p (qH _ z)) fun z=>by
  rw[qB.mp z];exact⟨ho,f0,f1,f2,fun w z=>by rw[hd] at z;cases z⟩
 refine zY (a4L hN hi hx hf (pins++[(C,o)]) s' σ H' v vv (fun σ2 H2=>σ2=σ.set i (some v)/\H2=H') I2 rv ⟨rfl,rfl⟩) (fun _ s2 ⟨σ2,H2,I3,e2',e3⟩=>?_) fun _ _ z=>z;subst e2' e3;have pc:=I3.pin (C,o) (qH _ (qH _ (qB.mpr rfl)));refine⟨m,⟨o,es,ep,pc.1,hd,hk⟩,fun h' hs'=>?_⟩
 exact⟨_,_,(I3.unpinned).turned (t':=s2.toks) (it:=C) (fun b o' hb eb=>(hs'.2 b hb).trans eb) f0 f1 f3 f4 f5,q _ _ (a4W r1 sm dv e2)⟩⟩
def isLst:Option D->Bool
 | some (.lst _)=>true
 | _=>false
def fMut (op:List D->List D->Option (W×List D)) (f:FX) (fa:FA):FX:=fun ρ=>(f ρ).bind fun p=>match p.1 with
 | .r i=>if isLst (ownAt p.2 i)=true then(fa p.2).bind fun q=>(takeAll q.2 q.1).bind fun z=>match ownAt z.2 i with
  | some (.lst xs)=>(op xs z.1).map fun y=>(y.1,setOwn z.2 i (.lst y.2))
  | _=>none
  else none
 | _=>none
def PrM (X:Cx) (op:List D->List D->Option (W×List D)) (r:V->List V->Hp->VK->Prop):Prop:=∀(A:Av) (a:Addr) (xs ds:List D) (w:W) (ys:List D) (us vs:List V) (H:Hp) (Q:VK),H a=some (.lst us)->DenL X.K A H xs us->DenL X.K A H ds vs->op xs ds=some (w,ys)->
 (∀z ws,DenL X.K A H ys ws->DenW X.K A [] H H w z->Q z (upd H a (.lst ws)))->(w= .v .non\/∃d,w= .v d)->r (.ref a) vs H Q
theorem a7P {op:List D->List D->Option (W×List D)}{r:V->List V->Hp->VK->Prop}(hk:PrM X op r)(hw:∀xs ds w ys,op xs ds=some (w,ys)->∃d,w= .v d):∀σ H Q,tX X (fMut op f fa) σ H Q->tBM X.K "list" r (tX X f) (tA X fa) σ H Q:=fun σ H Q h0=>tXe h0 fun P O L ρ w ρ' rp e q=>by
 unfold fMut at e;obtain⟨⟨w1,ρ1⟩,e1,e⟩:=obs e;dsimp only at e;split at e
 ·rename_i i;split at e
  ·rename_i hl;refine⟨P,O,L,ρ,_,ρ1,rp,e1,fun v H1 H1' r1 s1 d1=>?_⟩;have d1:σ[i]? =some (some v):=d1;have r1':=r1.grow s1;refine⟨?_,?_⟩
   ·unfold isLst at hl;split at hl
    ·rename_i xs e2;obtain⟨w0,q0,ow⟩:=w5 e2;obtain⟨a,h1,vs,h2,_⟩:=r1'.obj q0 ow;rw[d1] at h1;cases h1;exact .inl ⟨rfl,vs,.inl (.inl h2)⟩
    ·cases hl
   ·obtain⟨⟨ws,ρ2⟩,e3,e⟩:=obs e;dsimp only at e;obtain⟨⟨ds,ρ3⟩,e4,e⟩:=obs e;dsimp only at e;split at e
    ·rename_i xs e5;obtain⟨⟨wy,ys⟩,e6,e⟩:=oms e;cases e;refine⟨P,O,L,ρ1,ws,ρ2,r1',e3,fun vs H2 r2 l2=>?_⟩;obtain⟨r3,l3,_⟩:=o6 r2 e4 l2;obtain⟨w0,q0,ow⟩:=w5 e5;obtain⟨a,h1,us,h2,l⟩:=r3.obj q0 ow;rw[d1] at h1;cases h1;refine hk _ a xs ds _ ys us vs H2 Q h2 l l3 e6 (fun z wz lz dz=>?_) (.inr (hw _ _ _ _ e6));have g0:Go (AvO O ρ3 σ) (AvO O ρ3 σ) (fun b=>b=a) H2 (upd H2 a (.lst wz)):=⟨fun b o eb nb=>by rw[g5 nb];exact eb,fun b z=>by rw[z];exact⟨.inr ⟨i,w0,_,q0,ow,d1⟩,_,h2,trivial⟩,fun b z=>.inl z⟩
     have r4:Rep X P O L (setOwn ρ3 i (.lst ys)) σ (upd H2 a (.lst wz)):=r3.mut (d:=.lst ys) e5 d1 (fun b o eb nb=>by rw[g5 nb];exact eb) ⟨wz,m9,v7 g0 _ _ lz⟩
     refine q z _ _ r4 (Same.refl _) ?_;obtain⟨d,rfl⟩:=hw _ _ _ _ e6;have av:∀b,AvO O (setOwn ρ3 i (.lst ys)) σ b->AvO O ρ3 σ b:=fun b z=>z.imp id fun z=>(a1W e5 b).mp z;exact m7 (A6 av) _ _ (m7 g0 _ _ dz)
    ·cases e
  ·cases e
 ·cases e
def mApp (xs ds:List D):Option (W×List D):=match ds with
 | [d]=>if xs.length<lim then some (.v .non,xs++[d]) else none
 | _=>none
theorem a6i:PrM X mApp rAppend:=fun A a xs ds w ys us vs H Q h l l' e q _=>by
 unfold mApp at e;split at e
 ·split at e
  ·rename_i d hl;cases e;obtain⟨v,rfl,hv⟩:=denL1 l';exact⟨a,us,v,rfl,rfl,h,by rw[<-c5 l];exact zF hl k8,q _ _ (t7 l (i0 hv j3)) a3B⟩
  ·cases e
 ·cases e
theorem b1r:∀xs ds w ys,mApp xs ds=some (w,ys)->∃d,w= .v d:=fun xs ds w ys e=>by
 unfold mApp at e;split at e
 ·split at e
  ·cases e;exact⟨_,rfl⟩
  ·cases e
 ·cases e
theorem Q6 (ho:QX X o f)(ha:QA X (e::es) fa)(hbase:attributeBase o "append" X.env (eval o X.env)=eval o X.env:=by rfl)
  (hfew:((backTo pos (starEach (e::es) X.env)).all (fun x=>!x.1)&&(backToKw pos (keywordEach [] X.env)).all (fun x=>x.1.isSome)&&decide ((e::es).length+([]:List Keyword).length+(if([]:List Keyword).isEmpty then 0 else 1)<30))=true:=by rfl)
  (hline:(apos.endLine==pos.line)=true:=by rfl) (hs:starEach (e::es) X.env=(false,eval e X.env)::starEach es X.env:=by rfl) (hpl:(backTo pos (starEach es X.env)).any (·.1)=false:=by rfl):QX X (.Call (.Attribute o "append" apos) (e::es) [] pos) (fMut mApp f fa):=
 ⟨PE.weak (b0B PySem.F.plainAttrs_list PySem.F.slot_list_append PySem.F.type_list_append a2u ho.to ha.to hbase hfew hline hs hpl) (a7P a6i b1r)⟩
end
section
variable {P:Program}{w:World}{K:PySem.W.Frag}{mg:Str->Option Value}{base:Heap}
def spLaw (K:PySem.W.Frag):Sp:=fun vs H Q _=>∃(a:Addr) (ns:List Int),vs=[.ref a]/\((∃o,H a=some (.frz o (.lst (ns.map V.int))))\/SqL K (fun _=>none) a (ns.map V.int))/\ns.length<=63/\∀H',Q (.bl true) H'
theorem b1l {st:Stmt}{f:Addr}{fd:FuncData}{N ps:List Str}{k np n:Nat}{G:FS}(F:Fun K "law" "law" st f fd)(S:FnScope N ps (defScope st))(hp:ps.length=np)(hn:N.length=n)
  (body:∀(cdv:Value) (A:Around) (outer:List Env) (s:Shared) (H:Hp) (E:XK),Room k (A.deeper (envOfC "law" (defScope st) s.heap.objs.size f cdv))->
   QSs (cxOf CX0 P w K mg base N "law" (defScope st) f cdv A outer s H E).nox (defBody st) G)
  (h:∀ns:List Int,ns.length<=63->runD np n G [.lst (ns.map D.int)]=some (.v (.bl true))):FnOk P w K mg base CX0 (k+1) f fd ps (spLaw K):=by
 have den:∀(H:Hp) (a:Addr) (ns:List Int),((∃o,H a=some (.frz o (.lst (ns.map V.int))))\/SqL K (fun _=>none) a (ns.map V.int))->DenL K (fun _=>False) H [.lst (ns.map D.int)] [.ref a]:=fun H a ns hq=>by
  refine i0 ?_ j3;rw[Den];exact⟨a,_,rfl,.inr hq,J5 ns⟩
 refine F.ok S (fun vs H Q E ⟨a,ns,ev,hq,hl,q⟩=>?_) (fun cdv A outer s H vs Q E hr ⟨a,ns,ev,hq,hl,q⟩=>⟨_,(body cdv A outer s H E hr).to,?_⟩)
 ·have e:=h ns hl;unfold runD at e;split at e
  ·rename_i hl';rw[ev,hp,<-hl'];rfl
  ·cases e
 ·have e:=h ns hl;unfold runD at e;split at e
  ·rename_i hl';cases e1:G (start0 n [.lst (ns.map D.int)]) with
   | none=>rw[e1] at e;cases e
   | some r=>
    rw[e1] at e;refine⟨[],fun _=>False,[],_,r,a2s rfl hn (fun b z=>z.elim) (by rw[ev];exact den H a ns hq),e1,?_⟩
    cases r with
    | rt d' ρ'=>cases e;exact fun v H' s' _ d1=>by rw[T8 d1];exact q H'
    | nx ρ'=>cases e
    | bk ρ'=>cases e
    | ct ρ'=>cases e
  ·cases e
theorem walk {l:PySem.W.OpenLaw}{q:Program}{loose:List Str}{XP:(Str->Option Value)->Heap->Prop}{YP:World->Heap->Prop}{d:DefRec}{K:Params->PySem.W.Frag}(hn:l.most=some 63)(hdf:d.params.defaults=[])
  (hY:∀(w:World) (h:Heap),YP w h->(K w.params).In h)
  (F:∀(w:World) (mg:Str->Option Value) (fa:Addr) (h:Heap),(K w.params).In h->h.Ns mainGlobals mg->mg d.name=some (.ref fa)->
   ∃fd:FuncData,(∀(s:Shared) (u:Value),BindsTo s fd ⟨[u],[]⟩ [("script",u)])/\∀base:Heap,(K w.params).In base->base.Ns mainGlobals mg->FnOk l.prog w (K w.params) mg base CX0 60 fa fd ["script"] (spLaw (K w.params))):
  PySem.W.WalkO q loose XP YP l.row.toRowW d [] (fun f vs=>PySem.call f vs):=
 L2.a9U (n:=63) (k:=60) (x:="script") (CX:=fun _=>CX0) (sp:=fun w=>spLaw (K w.params)) hn (by decide) hdf ⟨rfl,by decide,by decide,rfl⟩ hY F (fun _ H a ns hl hO hS=>⟨a,ns,rfl,(by
  rcases hS with (hS|⟨o,hS⟩)|hS
  ·rcases hO a with z|⟨o,ys,z⟩
   ·rw[z] at hS;cases hS
   ·rw[z] at hS;cases hS
  ·exact .inl ⟨o,hS⟩
  ·exact .inr (.inr hS)),hl,fun _=>rfl⟩) fun _ _ _ _ _ z=>z
end
end Z
set_option maxHeartbeats 1000000
set_option exponentiation.threshold 100000
namespace Z
open PySem L2
theorem a99 {d:D}:lfW (.v d)=lf d:=rfl
theorem b0g {d:D}:lfW (.o d)=lfC d:=rfl
theorem a41 {xs:List D}:lfC (.lst xs)=lfL xs:=rfl
theorem lfC_dT {ks:List (List Key)}{xs:List D}:lfC (.dT ks xs)=lfL xs:=rfl
theorem lfC_dK {ks:List Key}{xs:List D}:lfC (.dK ks xs)=lfL xs:=rfl
def freeO:Option W->Bool
 | some (.l _)=>false
 | _=>true
theorem a0W:freeO none=true:=rfl
theorem a4U {d:D}:freeO (some (.v d))=true:=rfl
theorem freeO_o {d:D}:freeO (some (.o d))=true:=rfl
theorem freeO_l {d:D}:freeO (some (.l d))=false:=rfl
theorem free_nil {n:Nat}:freeSlot [] n=true:=rfl
theorem a7d {x:Option W}{ρ:Ev}:freeSlot (x::ρ) 0=freeO x:=by
 unfold freeSlot freeO;rw[xK];cases x with
 | none=>rfl
 | some w=>cases w<;>rfl
theorem a6A {x:Option W}{ρ:Ev}{n:Nat}:freeSlot (x::ρ) (n+1)=freeSlot ρ n:=by
 unfold freeSlot;rw[jS]
theorem a16 {xs:List D}:isLst (some (.lst xs))=true:=rfl
theorem liB_none {ρ:Ev}:liB none ρ=true:=rfl
theorem liB_some {i j:Nat}{ρ:Ev}:liB (some (i,j)) ρ=(ownAt ρ j).isSome:=rfl
theorem own_nil {n:Nat}:ownAt [] n=none:=rfl
theorem b1e {w:W}{ρ:Ev}:ownAt (some w::ρ) 0=w.own:=rfl
theorem own_n {ρ:Ev}:ownAt (none::ρ) 0=none:=rfl
theorem b07 {x:Option W}{ρ:Ev}{n:Nat}:ownAt (x::ρ) (n+1)=ownAt ρ n:=by
 unfold ownAt;rw[jS]
theorem setO_l {c d:D}{ρ:Ev}:setOwn (some (.l c)::ρ) 0 d=some (.l d)::ρ:=rfl
theorem a8h {c d:D}{ρ:Ev}:setOwn (some (.o c)::ρ) 0 d=some (.o d)::ρ:=rfl
theorem a8a {x:Option W}{ρ:Ev}{n:Nat}{d:D}:setOwn (x::ρ) (n+1) d=x::setOwn ρ n d:=by
 unfold setOwn;rw[jS]
 split<;>rename_i h<;>simp[h]
theorem frz_nil {n:Nat}:frzAt [] n=none:=rfl
theorem b0N {d:D}{ρ:Ev}:frzAt (some (.o d)::ρ) 0=some (some (.v d)::ρ):=rfl
theorem frz_v {d:D}{ρ:Ev}:frzAt (some (.v d)::ρ) 0=some (some (.v d)::ρ):=rfl
theorem b0E {x:Option W}{ρ:Ev}{n:Nat}:frzAt (x::ρ) (n+1)=(frzAt ρ n).map fun ρ'=>x::ρ':=by
 unfold frzAt;rw[jS]
 split<;>rename_i h<;>simp[h]
abbrev acc (zs:List D):Ev:=[some (.l (.lst zs))]
theorem a6J {B:Ev}{zs:List D}{k:Nat}(h:B.length=k):ownAt (B++acc zs) k=some (.lst zs):=by
 unfold ownAt;rw[qC (by walk_at "o"),h,jL];rfl
theorem a9r {B:Ev}{zs ys:List D}{k:Nat}(h:B.length=k):setOwn (B++acc zs) k (.lst ys)=B++acc ys:=by
 unfold setOwn;have e:(B++acc zs)[k]? =some (some (.l (.lst zs))):=by rw[qC (by walk_at "o"),h,jL];rfl
 rw[e];simp only;rw[List.set_append_right _ _ (by walk_at "o"),h,jL];rfl
theorem app_v {B:Ev}{zs:List D}{k:Nat}{w:W}{d:D}(h:B.length=k)(hw:w= .v d\/w= .o d)(hl:zs.length<lim):appTo k (w,B++acc zs)=some (B++acc (zs++[d])):=by
 unfold appTo;have e:w.fz= .v d:=by rcases hw with rfl|rfl<;>rfl
 simp only[e,takeAll,xP,bind_some];rw[a6J h];simp only[if_pos hl,a9r h]
theorem a0h {k:Nat}{gf:FG}{t:FT}{fe:FX}(I:Ev->Prop)(p:D->Bool)(h:D->D)(hI:∀B,I B->B.length=k):∀(xs:List D),(∀x∈xs,∀B zs,I B->∃B' w,I B'/\gf x (B++acc zs)=some (B'++acc zs)/\t (B'++acc zs)=some (p x,B'++acc zs)/\(p x=true->fe (B'++acc zs)=some (w,B'++acc zs)/\(w= .v (h x)\/w= .o (h x))))->
  ∀(B:Ev) (zs:List D),zs.length+xs.length<=lim->I B->∃B',I B'/\loopC (turnC k gf t fe) xs (B++acc zs)=some (B'++acc (zs++(xs.filter p).map h))
 | [],st,B,zs,hl,i=>⟨B,i,by simp[loopC]⟩
 | x::xs,st,B,zs,hl,i=>by
  obtain⟨B1,w,i1,e1,e2,e3⟩:=st x zI B zs i;rw[zZ] at hl;cases hp:p x with
  | true=>
   obtain⟨e4,hw⟩:=e3 hp;obtain⟨B2,i2,e5⟩:=a0h I p h hI xs (fun y hy=>st y (zH _ hy)) B1 (zs++[h x]) (by rw[qE,jG];walk_at "o") i1
   refine⟨B2,i2,?_⟩;rw[loopC,turnC,e1];have ea:=app_v (zs:=zs) (hI B1 i1) hw (by walk_at "o")
   simp only[bind_some,e2,hp,jB,e4,ea];rw[e5,List.filter_cons_of_pos hp,zJ,List.append_assoc];rfl
  | false=>
   obtain⟨B2,i2,e5⟩:=a0h I p h hI xs (fun y hy=>st y (zH _ hy)) B1 zs (by walk_at "o") i1
   refine⟨B2,i2,?_⟩;rw[loopC,turnC,e1];simp only[bind_some,e2,hp,jT,xQ];rw[e5,List.filter_cons_of_neg (by rw[hp];exact zS)]
theorem j5 {fi:FI}{js:List (Option Nat)}{gf:FG}{t:FT}{fe:FX}{ρ ρ1:Ev}{xs:List D}(I:Ev->Prop)(p:D->Bool)(h:D->D)(ei:fi ρ=some (xs,ρ1))(hI:∀B,I B->B.length=js.length)(h0:I (capE none js ρ1))(hl:xs.length<=lim)(hf:lfL ((xs.filter p).map h)=true)
  (st:∀x∈xs,∀B zs,I B->∃B' w,I B'/\gf x (B++acc zs)=some (B'++acc zs)/\t (B'++acc zs)=some (p x,B'++acc zs)/\(p x=true->fe (B'++acc zs)=some (w,B'++acc zs)/\(w= .v (h x)\/w= .o (h x)))):
  fComp fi none js gf t fe ρ=some (.o (.lst ((xs.filter p).map h)),ρ1):=by
 obtain⟨B',i',e⟩:=a0h I p h hI xs st (capE none js ρ1) [] (by rw[length_nil];walk_at "o") h0
 unfold fComp;rw[ei];simp only[bind_some,liB,jB,Option.map_none];rw[show capE none js ρ1++[some (.l (.lst []))]=capE none js ρ1++acc [] from rfl,e];simp only[bind_some,nil_append,a6J (hI B' i'),backG,lfC,hf,jB]
theorem c9 {α:Type}(xs:List α):xs.filter (fun _=>true)=xs:=by induction xs with
 | nil=>rfl
 | cons x xs ih=>rw[List.filter_cons_of_pos rfl,ih]
def Sz (n:Nat) (q:Rat):Prop:=q.num.natAbs<2^n/\q.den<2^n
theorem Sz.mono {m n:Nat}{q:Rat}(h:Sz m q)(hm:m<=n):Sz n q:=⟨zF h.1 (qU (by decide) hm),zF h.2 (qU (by decide) hm)⟩
section
variable {ρ ρ1 ρ2:Ev}{op:D->D->Option W}{o:D->Option W}{f g h:FX}{t u:FT}{fa:FA}{F G:FS}{i j:Nat}{d e x y:D}{w z:W}{ws:List W}{ds xs ys:List D}{r:R}{k b:Bool}
def varO (i:Nat) (ρ:Ev):Option (Option W)->Option (W×Ev)
 | some (some (.v d))=>some (.v d,ρ)
 | some (some (.r _))=>none
 | some (some _)=>some (.r i,ρ)
 | _=>none
theorem b0L:fVar i ρ=varO i ρ ρ[i]?:=by unfold fVar varO;split<;>simp_all
theorem a5j:varO i ρ (some (some (.v d)))=some (.v d,ρ):=rfl
theorem a5n:varO i ρ (some (some (.o d)))=some (.r i,ρ):=rfl
theorem r_var_l:varO i ρ (some (some (.l d)))=some (.r i,ρ):=rfl
theorem r_c:fC d ρ=some (.v d,ρ):=rfl
def drO:Option (Option W)->Option D
 | some (some (.v d))=>some d
 | some (some w)=>w.own
 | _=>none
theorem a8C:dr ρ (.v d)=some d:=rfl
theorem a64:dr ρ (.r i)=drO ρ[i]?:=by unfold dr drO;rfl
theorem r_drO_v:drO (some (some (.v d)))=some d:=rfl
theorem a4V:drO (some (some (.o d)))=some d:=rfl
theorem r_drO_l:drO (some (some (.l d)))=some d:=rfl
theorem a8E:(W.v d).fz= .v d:=rfl
theorem a7w:(W.o d).fz= .v d:=rfl
theorem a67:(W.r i).fz= .r i:=rfl
def drsC (ρ:Ev) (ws:List W):Option D->Option (List D)
 | some d=>(drs ρ ws).map fun ds=>d::ds
 | none=>none
theorem a5d:drs ρ []=some []:=rfl
theorem a5t:drs ρ (w::ws)=drsC ρ ws (dr ρ w):=by rw[drs];unfold drsC;cases dr ρ w<;>rfl
theorem a7H:drsC ρ ws (some d)=(drs ρ ws).map fun ds=>d::ds:=rfl
def bin2 (op:D->D->Option W) (g:FX):Option (W×Ev)->Option (W×Ev)
 | some p=>(g p.2).bind fun q=>(dr q.2 p.1.fz).bind fun x=>(dr q.2 q.1.fz).bind fun y=>(op x y).map fun w=>(w,q.2)
 | none=>none
def bin3 (op:D->D->Option W) (w:W):Option (W×Ev)->Option (W×Ev)
 | some q=>(dr q.2 w.fz).bind fun x=>(dr q.2 q.1.fz).bind fun y=>(op x y).map fun w=>(w,q.2)
 | none=>none
def bin4 (op:D->D->Option W) (ρ:Ev):Option D->Option D->Option (W×Ev)
 | some x,some y=>(op x y).map fun w=>(w,ρ)
 | _,_=>none
def withE (ρ:Ev):Option W->Option (W×Ev)
 | some w=>some (w,ρ)
 | none=>none
theorem b01:fBin op f g ρ=bin2 op g (f ρ):=by unfold fBin bin2;cases f ρ<;>rfl
theorem a8v:bin2 op g (some (w,ρ))=bin3 op w (g ρ):=by unfold bin2 bin3;dsimp only;cases g ρ<;>rfl
theorem a7E:bin3 op w (some (z,ρ))=bin4 op ρ (dr ρ w.fz) (dr ρ z.fz):=by unfold bin3 bin4;dsimp only;cases dr ρ w.fz<;>cases dr ρ z.fz<;>rfl
theorem a7V:bin4 op ρ (some x) (some y)=withE ρ (op x y):=by unfold bin4 withE;dsimp only;cases op x y<;>rfl
theorem a6X:withE ρ (some w)=some (w,ρ):=rfl
def un2 (o:D->Option W):Option (W×Ev)->Option (W×Ev)
 | some p=>(dr p.2 p.1.fz).bind fun x=>(o x).map fun w=>(w,p.2)
 | none=>none
def un3 (o:D->Option W) (ρ:Ev):Option D->Option (W×Ev)
 | some x=>withE ρ (o x)
 | none=>none
theorem r_un:fUn o f ρ=un2 o (f ρ):=by unfold fUn un2;cases f ρ<;>rfl
theorem b06:un2 o (some (w,ρ))=un3 o ρ (dr ρ w.fz):=by unfold un2 un3 withE;dsimp only;cases dr ρ w.fz with
 | none=>rfl
 | some x=>simp only[bind_some];cases o x<;>rfl
theorem a97:un3 o ρ (some x)=withE ρ (o x):=rfl
def tstO:Option (W×Ev)->Option (Bool×Ev)
 | some (.v (.bl k),ρ)=>some (k,ρ)
 | _=>none
theorem a1K:fTest f ρ=tstO (f ρ):=by
 unfold fTest tstO;cases f ρ with
 | none=>rfl
 | some p=>
  obtain⟨w,ρ⟩:=p;cases w with
  | v d=>cases d<;>rfl
  | _=>rfl
theorem a8z:tstO (some (.v (.bl k),ρ))=some (k,ρ):=rfl
def tru2:Option (W×Ev)->Option (Bool×Ev)
 | some p=>(dr p.2 p.1.fz).bind fun d=>(truth d).map fun k=>(k,p.2)
 | none=>none
def tru3 (ρ:Ev):Option D->Option (Bool×Ev)
 | some d=>(truth d).map fun k=>(k,ρ)
 | none=>none
theorem a8i:fTru f ρ=tru2 (f ρ):=by unfold fTru tru2;cases f ρ<;>rfl
theorem a6E:tru2 (some (w,ρ))=tru3 ρ (dr ρ w.fz):=by unfold tru2 tru3;dsimp only;cases dr ρ w.fz<;>rfl
theorem a3i:tru3 ρ (some (.bl k))=some (k,ρ):=rfl
theorem b2h:tru3 ρ (some (.tup xs))=some (!xs.isEmpty,ρ):=rfl
theorem a2y:tru3 ρ (some (.lst xs))=some (!xs.isEmpty,ρ):=rfl
theorem b2g:tru3 ρ (some .non)=some (false,ρ):=rfl
def notO:Option (Bool×Ev)->Option (Bool×Ev)
 | some p=>some (!p.1,p.2)
 | none=>none
theorem b0J:fNot t ρ=notO (t ρ):=by unfold fNot notO;cases t ρ<;>rfl
theorem a8O:notO (some (k,ρ))=some (!k,ρ):=rfl
def andO (u:FT):Option (Bool×Ev)->Option (Bool×Ev)
 | some (true,ρ)=>u ρ
 | some (false,ρ)=>some (false,ρ)
 | none=>none
def orO (u:FT):Option (Bool×Ev)->Option (Bool×Ev)
 | some (true,ρ)=>some (true,ρ)
 | some (false,ρ)=>u ρ
 | none=>none
theorem b05:fAnd t u ρ=andO u (t ρ):=by unfold fAnd andO;cases t ρ with
 | none=>rfl
 | some p=>obtain⟨k,ρ⟩:=p;cases k<;>rfl
theorem r_or:fOr t u ρ=orO u (t ρ):=by unfold fOr orO;cases t ρ with
 | none=>rfl
 | some p=>obtain⟨k,ρ⟩:=p;cases k<;>rfl
theorem a5h:andO u (some (true,ρ))=u ρ:=id rfl
theorem a4H:andO u (some (false,ρ))=some (false,ρ):=rfl
theorem a8S:orO u (some (true,ρ))=some (true,ρ):=rfl
theorem a8x:orO u (some (false,ρ))=u ρ:=id rfl
def andV (g:FX):Option (Bool×Ev)->Option (W×Ev)
 | some (true,ρ)=>g ρ
 | some (false,ρ)=>some (.v (.bl false),ρ)
 | none=>none
def orV (g:FX):Option (Bool×Ev)->Option (W×Ev)
 | some (true,ρ)=>some (.v (.bl true),ρ)
 | some (false,ρ)=>g ρ
 | none=>none
def notV:Option (Bool×Ev)->Option (W×Ev)
 | some (k,ρ)=>some (.v (.bl (!k)),ρ)
 | none=>none
def ifV (f g:FX):Option (Bool×Ev)->Option (W×Ev)
 | some (true,ρ)=>f ρ
 | some (false,ρ)=>g ρ
 | none=>none
theorem a8D:fAndV f g ρ=andV g (tstO (f ρ)):=by unfold fAndV andV;rw[a1K];cases tstO (f ρ) with
 | none=>rfl
 | some p=>obtain⟨k,ρ⟩:=p;cases k<;>rfl
theorem r_orV:fOrV f g ρ=orV g (tstO (f ρ)):=by unfold fOrV orV;rw[a1K];cases tstO (f ρ) with
 | none=>rfl
 | some p=>obtain⟨k,ρ⟩:=p;cases k<;>rfl
theorem r_notV:fNotV f ρ=notV (tstO (f ρ)):=by unfold fNotV notV;rw[a1K];cases tstO (f ρ)<;>rfl
theorem r_if:fIf t f g ρ=ifV f g (t ρ):=by unfold fIf ifV;cases t ρ with
 | none=>rfl
 | some p=>obtain⟨k,ρ⟩:=p;cases k<;>rfl
theorem a3I:andV g (some (true,ρ))=g ρ:=id rfl
theorem r_andV_f:andV g (some (false,ρ))=some (.v (.bl false),ρ):=rfl
theorem r_orV_t:orV g (some (true,ρ))=some (.v (.bl true),ρ):=rfl
theorem r_orV_f:orV g (some (false,ρ))=g ρ:=id rfl
theorem r_notV_s:notV (some (k,ρ))=some (.v (.bl (!k)),ρ):=rfl
theorem a8m:ifV f g (some (true,ρ))=f ρ:=id rfl
theorem a7N:ifV f g (some (false,ρ))=g ρ:=id rfl
def cons2 (fa:FA):Option (W×Ev)->Option (List W×Ev)
 | some p=>(fa p.2).map fun q=>(p.1.fz::q.1,q.2)
 | none=>none
def cons3 (w:W):Option (List W×Ev)->Option (List W×Ev)
 | some q=>some (w::q.1,q.2)
 | none=>none
theorem b0m:fNil ρ=some ([],ρ):=rfl
theorem a6M:fCons f fa ρ=cons2 fa (f ρ):=by unfold fCons cons2;cases f ρ<;>rfl
theorem a49:cons2 fa (some (w,ρ))=cons3 w.fz (fa ρ):=by unfold cons2 cons3;dsimp only;cases fa ρ<;>rfl
theorem a5c:cons3 w (some (ws,ρ))=some (w::ws,ρ):=rfl
def takC (d:D):Option (List D×Ev)->Option (List D×Ev)
 | some p=>some (d::p.1,p.2)
 | none=>none
def takR (i:Nat) (ws:List W):Option Ev->Option (List D×Ev)
 | some ρ1=>match ρ1[i]? with
  | some (some (.v d))=>(takeAll ρ1 ws).map fun p=>(d::p.1,p.2)
  | _=>none
 | none=>none
def takS (ρ:Ev) (ws:List W):Option (Option W)->Option (List D×Ev)
 | some (some (.v d))=>takC d (takeAll ρ ws)
 | _=>none
theorem a4X:takeAll ρ []=some ([],ρ):=rfl
theorem a4E:takeAll ρ (.v d::ws)=takC d (takeAll ρ ws):=by rw[takeAll];unfold takC;cases takeAll ρ ws<;>rfl
theorem a5z:takeAll ρ (.r i::ws)=takR i ws (frzAt ρ i):=by rw[takeAll];unfold takR;cases frzAt ρ i<;>rfl
theorem a7f:takC d (some (ds,ρ))=some (d::ds,ρ):=rfl
theorem a7T:takR i ws (some ρ)=takS ρ ws ρ[i]?:=by
 unfold takR takS;dsimp only
 split
 ·unfold takC;cases takeAll ρ ws<;>rfl
 ·rfl
theorem a7b:takS ρ ws (some (some (.v d)))=takC d (takeAll ρ ws):=rfl
def disp2 (mk:List D->W):Option (List W×Ev)->Option (W×Ev)
 | some p=>(takeAll p.2 p.1).bind fun q=>if q.1.length<=lim then some (mk q.1,q.2) else none
 | none=>none
def disp3 (mk:List D->W):Option (List D×Ev)->Option (W×Ev)
 | some q=>if q.1.length<=lim then some (mk q.1,q.2) else none
 | none=>none
theorem b0p:fTup fa ρ=disp2 (fun ds=>.v (.tup ds)) (fa ρ):=by unfold fTup disp2;cases fa ρ<;>rfl
theorem b0T:fLst fa ρ=disp2 (fun ds=>.o (.lst ds)) (fa ρ):=by unfold fLst disp2;cases fa ρ<;>rfl
theorem a4Q {mk:List D->W}:disp2 mk (some (ws,ρ))=disp3 mk (takeAll ρ ws):=by unfold disp2 disp3;dsimp only;cases takeAll ρ ws<;>rfl
theorem a4F {mk:List D->W}:disp3 mk (some (ds,ρ))=if ds.length<=lim then some (mk ds,ρ) else none:=rfl
def call2 (k:List D->Option W):Option (List W×Ev)->Option (W×Ev)
 | some p=>(drs p.2 p.1).bind fun ds=>(k ds).map fun w=>(w,p.2)
 | none=>none
def call3 (k:List D->Option W) (ρ:Ev):Option (List D)->Option (W×Ev)
 | some ds=>withE ρ (k ds)
 | none=>none
theorem a8K {k:List D->Option W}:fCall k fa ρ=call2 k (fa ρ):=by unfold fCall call2;cases fa ρ<;>rfl
theorem a45 {k:List D->Option W}:call2 k (some (ws,ρ))=call3 k ρ (drs ρ ws):=by
 unfold call2 call3 withE;dsimp only;cases drs ρ ws with
 | none=>rfl
 | some ds=>simp only[bind_some];cases k ds<;>rfl
theorem a5F {k:List D->Option W}:call3 k ρ (some ds)=withE ρ (k ds):=rfl
theorem r_k1 {g:D->Option W}:k1 g [d]=g d:=rfl
theorem r_k2 {g:Int->Int->D}{i j:Int}:k2 g [.int i,.int j]=some (.v (g i j)):=rfl
def def2 (g:List D->Option W):Option (List W×Ev)->Option (W×Ev)
 | some p=>(drs p.2 p.1).bind fun ds=>(g ds).bind fun w=>if lfW w=true then some (w,p.2) else(frzL p.1 p.2).map fun ρ2=>(w,ρ2)
 | none=>none
def def3 (g:List D->Option W) (ws:List W) (ρ:Ev):Option (List D)->Option (W×Ev)
 | some ds=>(g ds).bind fun w=>if lfW w=true then some (w,ρ) else(frzL ws ρ).map fun ρ2=>(w,ρ2)
 | none=>none
def def4 (ws:List W) (ρ:Ev):Option W->Option (W×Ev)
 | some w=>if lfW w=true then some (w,ρ) else(frzL ws ρ).map fun ρ2=>(w,ρ2)
 | none=>none
theorem b0H {g:List D->Option W}:fDef g fa ρ=def2 g (fa ρ):=by unfold fDef def2;cases fa ρ<;>rfl
theorem a70 {g:List D->Option W}:def2 g (some (ws,ρ))=def3 g ws ρ (drs ρ ws):=by unfold def2 def3;dsimp only;cases drs ρ ws<;>rfl
theorem a7p {g:List D->Option W}:def3 g ws ρ (some ds)=def4 ws ρ (g ds):=by unfold def3 def4;dsimp only;cases g ds<;>rfl
theorem a8u:def4 ws ρ (some w)=if lfW w=true then some (w,ρ) else(frzL ws ρ).map fun ρ2=>(w,ρ2):=rfl
def dl2 (g:D->List D->Option (W×D)):Option (List W×Ev)->Option (W×Ev)
 | some (.r i::ws,ρ)=>(ownAt ρ i).bind fun c=>(drs ρ ws).bind fun ds=>(g c ds).bind fun z=>if noR i ws=true/\lfC z.2=true then(if lfW z.1=true then some (z.1,setOwn ρ i z.2) else(frzL ws (setOwn ρ i z.2)).map fun ρ2=>(z.1,ρ2)) else none
 | _=>none
def dl3 (g:D->List D->Option (W×D)) (i:Nat) (ws:List W) (ρ:Ev):Option D->Option (List D)->Option (W×Ev)
 | some c,some ds=>(g c ds).bind fun z=>if noR i ws=true/\lfC z.2=true then(if lfW z.1=true then some (z.1,setOwn ρ i z.2) else(frzL ws (setOwn ρ i z.2)).map fun ρ2=>(z.1,ρ2)) else none
 | _,_=>none
def dl4 (i:Nat) (ws:List W) (ρ:Ev):Option (W×D)->Option (W×Ev)
 | some z=>if noR i ws=true/\lfC z.2=true then(if lfW z.1=true then some (z.1,setOwn ρ i z.2) else(frzL ws (setOwn ρ i z.2)).map fun ρ2=>(z.1,ρ2)) else none
 | none=>none
theorem r_dl {g:D->List D->Option (W×D)}:fDefL g fa ρ=dl2 g (fa ρ):=by
 unfold fDefL dl2;cases fa ρ with
 | none=>rfl
 | some p=>
  obtain⟨ws,ρ⟩:=p;cases ws with
  | nil=>rfl
  | cons w ws=>cases w<;>rfl
theorem r_dl2 {g:D->List D->Option (W×D)}:dl2 g (some (.r i::ws,ρ))=dl3 g i ws ρ (ownAt ρ i) (drs ρ ws):=by unfold dl2 dl3;dsimp only;cases ownAt ρ i<;>cases drs ρ ws<;>rfl
theorem r_dl3 {g:D->List D->Option (W×D)}:dl3 g i ws ρ (some d) (some ds)=dl4 i ws ρ (g d ds):=by unfold dl3 dl4;dsimp only;cases g d ds<;>rfl
theorem r_dl4:dl4 i ws ρ (some (w,d))=if noR i ws=true/\lfC d=true then(if lfW w=true then some (w,setOwn ρ i d) else(frzL ws (setOwn ρ i d)).map fun ρ2=>(w,ρ2)) else none:=rfl
def sl2 (lo hi:FO):Option (W×Ev)->Option (W×Ev)
 | some p=>(lo p.2).bind fun l=>(hi l.2).bind fun u=>(dr u.2 p.1.fz).bind fun x=>(slD x l.1 u.1).map fun w=>(w,u.2)
 | none=>none
def sl3 (hi:FO) (w:W):Option (Option Int×Ev)->Option (W×Ev)
 | some l=>(hi l.2).bind fun u=>(dr u.2 w.fz).bind fun x=>(slD x l.1 u.1).map fun w=>(w,u.2)
 | none=>none
def sl4 (w:W) (l:Option Int):Option (Option Int×Ev)->Option (W×Ev)
 | some u=>(dr u.2 w.fz).bind fun x=>(slD x l u.1).map fun w=>(w,u.2)
 | none=>none
def sl5 (l u:Option Int) (ρ:Ev):Option D->Option (W×Ev)
 | some x=>withE ρ (slD x l u)
 | none=>none
theorem r_sl {lo hi:FO}:fSl f lo hi ρ=sl2 lo hi (f ρ):=by unfold fSl sl2;cases f ρ<;>rfl
theorem b0I {lo hi:FO}:sl2 lo hi (some (w,ρ))=sl3 hi w (lo ρ):=by unfold sl2 sl3;dsimp only;cases lo ρ<;>rfl
theorem b0q {hi:FO}{l:Option Int}:sl3 hi w (some (l,ρ))=sl4 w l (hi ρ):=by unfold sl3 sl4;dsimp only;cases hi ρ<;>rfl
theorem a94 {l u:Option Int}:sl4 w l (some (u,ρ))=sl5 l u ρ (dr ρ w.fz):=by
 unfold sl4 sl5 withE;dsimp only;cases dr ρ w.fz with
 | none=>rfl
 | some x=>simp only[bind_some];cases slD x l u<;>rfl
theorem b0a {l u:Option Int}:sl5 l u ρ (some x)=withE ρ (slD x l u):=rfl
theorem a7l {l u:Option Int}:slD (.tup xs) l u=some (.v (.tup (cutD xs l u))):=rfl
theorem a7j {l u:Option Int}:slD (.lst xs) l u=some (.o (.lst (cutD xs l u))):=rfl
def o1O:Option (W×Ev)->Option (Option Int×Ev)
 | some (.v (.int i),ρ)=>some (some i,ρ)
 | _=>none
theorem r_o0:fO0 ρ=some (none,ρ):=rfl
theorem r_o1:fO1 f ρ=o1O (f ρ):=by
 unfold fO1 o1O;cases f ρ with
 | none=>rfl
 | some p=>
  obtain⟨w,ρ⟩:=p;cases w with
  | v d=>cases d<;>rfl
  | _=>rfl
theorem a90 {n:Int}:o1O (some (.v (.int n),ρ))=some (some n,ρ):=rfl
def thnO (G:FS):Option R->Option R
 | some (.nx ρ)=>G ρ
 | o=>o
theorem a68:fThen F G ρ=thnO G (F ρ):=by unfold fThen thnO;cases F ρ with
 | none=>rfl
 | some r=>cases r<;>rfl
theorem a2b:thnO G (some (.nx ρ))=G ρ:=id rfl
theorem a2D:thnO G (some (.rt w ρ))=some (.rt w ρ):=id rfl
theorem b2f:thnO G (some (.bk ρ))=some (.bk ρ):=rfl
theorem b2n:thnO G (some (.ct ρ))=some (.ct ρ):=rfl
def retO:Option (W×Ev)->Option R
 | some p=>retW p.2 p.1
 | none=>none
def retS (ρ:Ev):Option (Option W)->Option R
 | some (some (.o d))=>some (.rt (.o d) ρ)
 | some (some (.v d))=>some (.rt (.v d) ρ)
 | _=>none
theorem b0X:fRet f ρ=retO (f ρ):=by unfold fRet retO;cases f ρ<;>rfl
theorem a5e:retO (some (.v d,ρ))=some (.rt (.v d) ρ):=rfl
theorem a5a:retO (some (.o d,ρ))=some (.rt (.o d) ρ):=rfl
theorem a5r:retO (some (.r i,ρ))=retS ρ ρ[i]?:=by unfold retO retS;first|(dsimp only[retW];done)|(dsimp only[retW];rfl)
theorem a33:retS ρ (some (some (.o d)))=some (.rt (.o d) ρ):=rfl
theorem r_retS_v:retS ρ (some (some (.v d)))=some (.rt (.v d) ρ):=rfl
def ifO (F G:FS):Option (Bool×Ev)->Option R
 | some (true,ρ)=>F ρ
 | some (false,ρ)=>G ρ
 | none=>none
theorem r_ifS:fIfS t F G ρ=ifO F G (t ρ):=by unfold fIfS ifO;cases t ρ with
 | none=>rfl
 | some p=>obtain⟨k,ρ⟩:=p;cases k<;>rfl
theorem a5G:ifO F G (some (true,ρ))=F ρ:=id rfl
theorem a4P:ifO F G (some (false,ρ))=G ρ:=id rfl
def asgO (i:Nat):Option (W×Ev)->Option R
 | some p=>(bindW p.2 i p.1).map .nx
 | none=>none
def bndO (i j:Nat):Option Ev->Option R
 | some ρ1=>match ρ1[j]? with
  | some (some (.v d))=>if freeSlot ρ1 i=true then some (.nx (ρ1.set i (some (.v d)))) else none
  | _=>none
 | none=>none
def bndS (i:Nat) (ρ:Ev):Option (Option W)->Option R
 | some (some (.v d))=>if freeSlot ρ i=true then some (.nx (ρ.set i (some (.v d)))) else none
 | _=>none
theorem b0F:fAsg i f ρ=asgO i (f ρ):=by unfold fAsg asgO;cases f ρ<;>rfl
theorem a46:asgO i (some (.v d,ρ))=if freeSlot ρ i=true then some (.nx (ρ.set i (some (.v d)))) else none:=by unfold asgO;dsimp only[bindW];split<;>rfl
theorem a5B:asgO i (some (.o d,ρ))=if freeSlot ρ i=true then some (.nx (ρ.set i (some (.o d)))) else none:=by unfold asgO;dsimp only[bindW];split<;>rfl
theorem r_asg_r:asgO i (some (.r j,ρ))=bndO i j (frzAt ρ j):=by
 unfold asgO bndO;dsimp only[bindW];cases frzAt ρ j with
 | none=>rfl
 | some ρ1=>
  simp only[bind_some];cases q:ρ1[j]? with
  | none=>rfl
  | some o=>
   cases o with
   | none=>rfl
   | some w=>
    cases w with
    | v d=>dsimp only;split<;>rfl
    | _=>rfl
theorem r_bndO:bndO i j (some ρ)=bndS i ρ ρ[j]?:=by
 unfold bndO bndS;rfl
theorem r_bndS:bndS i ρ (some (some (.v d)))=if freeSlot ρ i=true then some (.nx (ρ.set i (some (.v d)))) else none:=rfl
def agO2 (gf:FG):Option (W×Ev)->Option R
 | some p=>(takeAll p.2 [p.1.fz]).bind fun q=>match q.1 with
  | [d]=>(gf d q.2).map .nx
  | _=>none
 | none=>none
def agO3 (gf:FG):Option (List D×Ev)->Option R
 | some ([d],ρ)=>(gf d ρ).map .nx
 | _=>none
def nxO:Option Ev->Option R
 | some ρ=>some (.nx ρ)
 | none=>none
theorem r_ag {gf:FG}:fAsgG f gf ρ=agO2 gf (f ρ):=by unfold fAsgG agO2;cases f ρ<;>rfl
theorem b00 {gf:FG}:agO2 gf (some (w,ρ))=agO3 gf (takeAll ρ [w.fz]):=by
 unfold agO2 agO3;dsimp only;cases takeAll ρ [w.fz] with
 | none=>rfl
 | some p=>
  obtain⟨ds,ρ⟩:=p
  match ds with
  | []=>rfl
  | [_]=>rfl
  | _::_::_=>rfl
theorem b0x {gf:FG}:agO3 gf (some ([d],ρ))=nxO (gf d ρ):=by unfold agO3 nxO;dsimp only;cases gf d ρ<;>rfl
theorem b0n:nxO (some ρ)=some (.nx ρ):=rfl
theorem a5b:gfName i d ρ=if freeSlot ρ i=true then some (ρ.set i (some (.v d))) else none:=rfl
def gcO (gs:FGs) (ds:List D):Option Ev->Option Ev
 | some ρ=>gs ds ρ
 | none=>none
theorem a8w:gfNil [] ρ=some ρ:=rfl
theorem a4N {gf:FG}{gs:FGs}:gfCons gf gs (d::ds) ρ=gcO gs ds (gf d ρ):=by unfold gfCons gcO;dsimp only;cases gf d ρ<;>rfl
theorem b0Q {gs:FGs}:gcO gs ds (some ρ)=gs ds ρ:=id rfl
theorem a74 {gs:FGs}:gfTup gs (.tup ds) ρ=gs ds ρ:=rfl
def gs2 (g:FX) (d:D):Option (W×Ev)->Option Ev
 | some (.r j,ρ)=>(g ρ).bind fun q=>(dr q.2 q.1.fz).bind fun k=>match k,ownAt q.2 j with
  | .int k,some (.lst xs)=>(ixN xs.length k).map fun n=>setOwn q.2 j (.lst (xs.set n d))
  | _,_=>none
 | _=>none
def gs3 (j:Nat) (d:D):Option (W×Ev)->Option Ev
 | some q=>(dr q.2 q.1.fz).bind fun k=>match k,ownAt q.2 j with
  | .int k,some (.lst xs)=>(ixN xs.length k).map fun n=>setOwn q.2 j (.lst (xs.set n d))
  | _,_=>none
 | none=>none
def gs4 (j:Nat) (d:D) (ρ:Ev):Option D->Option D->Option Ev
 | some (.int k),some (.lst xs)=>(ixN xs.length k).map fun n=>setOwn ρ j (.lst (xs.set n d))
 | _,_=>none
theorem r_gs:gfSub f g d ρ=gs2 g d (f ρ):=by
 unfold gfSub gs2;cases f ρ with
 | none=>rfl
 | some p=>obtain⟨w,ρ⟩:=p;cases w<;>rfl
theorem r_gs2:gs2 g d (some (.r j,ρ))=gs3 j d (g ρ):=by unfold gs2 gs3;dsimp only;cases g ρ<;>rfl
theorem r_gs3:gs3 j d (some (w,ρ))=gs4 j d ρ (dr ρ w.fz) (ownAt ρ j):=by
 unfold gs3 gs4;dsimp only;cases dr ρ w.fz with
 | none=>rfl
 | some k=>
  simp only[bind_some];cases k with
  | int n=>cases ownAt ρ j with
   | none=>rfl
   | some c=>cases c<;>rfl
  | _=>rfl
theorem r_gs4 {n:Int}:gs4 j d ρ (some (.int n)) (some (.lst xs))=(ixN xs.length n).map fun n=>setOwn ρ j (.lst (xs.set n d)):=rfl
def dropO:Option (W×Ev)->Option R
 | some p=>some (.nx p.2)
 | none=>none
theorem a7J:fDrop f ρ=dropO (f ρ):=by unfold fDrop dropO;cases f ρ<;>rfl
theorem a5g:dropO (some (w,ρ))=some (.nx ρ):=rfl
def par2 (i j:Nat):Option (List W×Ev)->Option R
 | some p=>(takeAll p.2 p.1).bind fun q=>match q.1 with
  | [d,d']=>if freeSlot q.2 i=true/\freeSlot (q.2.set i (some (.v d))) j=true then some (.nx ((q.2.set i (some (.v d))).set j (some (.v d')))) else none
  | _=>none
 | none=>none
def par3 (i j:Nat):Option (List D×Ev)->Option R
 | some ([d,d'],ρ)=>if freeSlot ρ i=true/\freeSlot (ρ.set i (some (.v d))) j=true then some (.nx ((ρ.set i (some (.v d))).set j (some (.v d')))) else none
 | _=>none
theorem b0v:fPar i j fa ρ=par2 i j (fa ρ):=by unfold fPar par2;cases fa ρ<;>rfl
theorem a8F:par2 i j (some (ws,ρ))=par3 i j (takeAll ρ ws):=by
 unfold par2 par3;dsimp only;cases takeAll ρ ws with
 | none=>rfl
 | some p=>
  obtain⟨ds,ρ⟩:=p
  match ds with
  | []=>rfl
  | [_]=>rfl
  | [_,_]=>rfl
  | _::_::_::_=>rfl
theorem a69:par3 i j (some ([d,e],ρ))=if freeSlot ρ i=true/\freeSlot (ρ.set i (some (.v d))) j=true then some (.nx ((ρ.set i (some (.v d))).set j (some (.v e)))) else none:=rfl
def is2:Option (W×Ev)->Option (List D×Ev)
 | some p=>(takeAll p.2 [p.1.fz]).bind fun q=>match q.1 with
  | [d]=>(items d).map fun xs=>(xs,q.2)
  | _=>none
 | none=>none
def is3:Option (List D×Ev)->Option (List D×Ev)
 | some ([.tup xs],ρ)=>some (xs,ρ)
 | some ([.lst xs],ρ)=>some (xs,ρ)
 | _=>none
theorem r_is:fiSeq f ρ=is2 (f ρ):=by unfold fiSeq is2;cases f ρ<;>rfl
theorem b0y:is2 (some (w,ρ))=is3 (takeAll ρ [w.fz]):=by
 unfold is2 is3;dsimp only;cases takeAll ρ [w.fz] with
 | none=>rfl
 | some p=>
  obtain⟨ds,ρ⟩:=p
  match ds with
  | []=>rfl
  | [d]=>cases d<;>rfl
  | _::_::_=>simp
theorem a7o:is3 (some ([.tup xs],ρ))=some (xs,ρ):=rfl
theorem a7K:is3 (some ([.lst xs],ρ))=some (xs,ρ):=rfl
def forO (gf:FG) (b:FS):Option (List D×Ev)->Option R
 | some p=>loopF (turnF gf b) p.1 p.2
 | none=>none
theorem b0e {fi:FI}{gf:FG}:fFor fi gf F ρ=forO gf F (fi ρ):=by unfold fFor forO;cases fi ρ<;>rfl
theorem a65 {gf:FG}:forO gf F (some (xs,ρ))=loopF (turnF gf F) xs ρ:=id rfl
def turnO (b:FS):Option Ev->Option R
 | some ρ=>b ρ
 | none=>none
theorem a7O {gf:FG}:turnF gf F d ρ=turnO F (gf d ρ):=by unfold turnF turnO;cases gf d ρ<;>rfl
theorem a5k:turnO F (some ρ)=F ρ:=id rfl
def mu2 (op:List D->List D->Option (W×List D)) (fa:FA):Option (W×Ev)->Option (W×Ev)
 | some (.r i,ρ)=>if isLst (ownAt ρ i)=true then(fa ρ).bind fun q=>(takeAll q.2 q.1).bind fun z=>match ownAt z.2 i with
  | some (.lst xs)=>(op xs z.1).map fun y=>(y.1,setOwn z.2 i (.lst y.2))
  | _=>none
  else none
 | _=>none
def mu3 (op:List D->List D->Option (W×List D)) (i:Nat):Option (List W×Ev)->Option (W×Ev)
 | some q=>(takeAll q.2 q.1).bind fun z=>match ownAt z.2 i with
  | some (.lst xs)=>(op xs z.1).map fun y=>(y.1,setOwn z.2 i (.lst y.2))
  | _=>none
 | none=>none
def mu4 (op:List D->List D->Option (W×List D)) (i:Nat):Option (List D×Ev)->Option (W×Ev)
 | some z=>match ownAt z.2 i with
  | some (.lst xs)=>(op xs z.1).map fun y=>(y.1,setOwn z.2 i (.lst y.2))
  | _=>none
 | none=>none
def mu5 (op:List D->List D->Option (W×List D)) (i:Nat) (ds:List D) (ρ:Ev):Option D->Option (W×Ev)
 | some (.lst xs)=>(op xs ds).map fun y=>(y.1,setOwn ρ i (.lst y.2))
 | _=>none
def mu6 (i:Nat) (ρ:Ev):Option (W×List D)->Option (W×Ev)
 | some y=>some (y.1,setOwn ρ i (.lst y.2))
 | none=>none
variable {om:List D->List D->Option (W×List D)}
theorem r_mu:fMut om f fa ρ=mu2 om fa (f ρ):=by
 unfold fMut mu2;cases f ρ with
 | none=>rfl
 | some p=>obtain⟨w,ρ⟩:=p;cases w<;>rfl
theorem b0O:mu2 om fa (some (.r i,ρ))=if isLst (ownAt ρ i)=true then mu3 om i (fa ρ) else none:=by unfold mu2 mu3;dsimp only;cases fa ρ<;>rfl
theorem b0j:mu3 om i (some (ws,ρ))=mu4 om i (takeAll ρ ws):=by unfold mu3 mu4;dsimp only;cases takeAll ρ ws<;>rfl
theorem b0f:mu4 om i (some (ds,ρ))=mu5 om i ds ρ (ownAt ρ i):=by unfold mu4 mu5;rfl
theorem a96:mu5 om i ds ρ (some (.lst xs))=mu6 i ρ (om xs ds):=by unfold mu5 mu6;dsimp only;cases om xs ds<;>rfl
theorem b0V:mu6 i ρ (some (w,xs))=some (w,setOwn ρ i (.lst xs)):=rfl
theorem b0h:mApp xs [d]=if xs.length<lim then some (.v .non,xs++[d]) else none:=rfl
def runO:Option R->Option W
 | some (.rt w _)=>some w
 | some (.nx _)=>some (.v .non)
 | _=>none
theorem b0c {np n:Nat}:runD np n G ds=if ds.length=np then runO (G (start0 n ds)) else none:=by
 unfold runD runO
 split
 ·cases G (start0 n ds) with
  | none=>rfl
  | some r=>cases r<;>rfl
 ·rfl
theorem a3Q:runO (some (.rt w ρ))=some w:=rfl
theorem a3T:runO (some (.nx ρ))=some (.v .non):=rfl
def runLO:Option R->Option (W×D)
 | some (.rt w ρ)=>(ownAt ρ 0).map fun c=>(w,c)
 | some (.nx ρ)=>(ownAt ρ 0).map fun c=>(.v .non,c)
 | _=>none
theorem r_runL {np n:Nat}:runL np n G d ds=if ds.length+1=np then runLO (G (some (.l d)::start0 (n-1) ds)) else none:=by
 unfold runL runLO
 split
 ·cases G (some (.l d)::start0 (n-1) ds) with
  | none=>rfl
  | some r=>cases r<;>rfl
 ·rfl
theorem b2m:runLO (some (.rt w ρ))=(ownAt ρ 0).map fun c=>(w,c):=rfl
theorem b2k:runLO (some (.nx ρ))=(ownAt ρ 0).map fun c=>(.v .non,c):=rfl
variable {m n:Int}
theorem o_i0 {g:Int->Int->D}:oI0 g (.int m) (.int n)=some (.v (g m n)):=rfl
theorem o_i {C:Int->Int->Prop} [∀i j,Decidable (C i j)] {g:Int->Int->D}:oI C g (.int m) (.int n)=if C m n then some (.v (g m n)) else none:=rfl
theorem a4I:oAdd (.int m) (.int n)=some (.v (.int (m+n))):=rfl
theorem a5H:oAdd (.lst xs) (.lst ys)=if xs.length+ys.length<=lim then some (.o (.lst (xs++ys))) else none:=rfl
theorem o_add_t:oAdd (.tup xs) (.tup ys)=if xs≠[]/\xs.length+ys.length<=lim then some (.v (.tup (xs++ys))) else none:=by
 by_cases h:xs≠[]/\xs.length+ys.length<=lim
 ·rw[if_pos h];exact if_pos h
 ·rw[if_neg h];exact if_neg h
theorem o_neg:oNeg (.int m)=some (.v (.int (-m))):=rfl
theorem a7u:oLtT (.int m) (.int n)=some (.v (.bl (decide (m<n)))):=rfl
theorem a8f:oIx (.tup xs) (.int n)=(atI xs n).map .v:=rfl
theorem a7X:oIx (.lst xs) (.int n)=(atI xs n).map .v:=rfl
theorem a5i:gLen (.tup xs)=some (.v (.int xs.length)):=rfl
theorem a4R:gLen (.lst xs)=some (.v (.int xs.length)):=rfl
theorem a91:gAbs (.int m)=some (.v (.int (if m<0 then -m else m))):=rfl
theorem o_int:gInt (.bl b)=some (.v (.int (if b then 1 else 0))):=rfl
theorem b2l:gTuple (.tup xs)=some (.v (.tup xs)):=rfl
theorem a13:gTuple (.lst xs)=some (.v (.tup xs)):=rfl
theorem o_list_t:gList (.tup xs)=some (.o (.lst xs)):=rfl
theorem o_list_l:gList (.lst xs)=some (.o (.lst xs)):=rfl
theorem o_d2 {q:D->D->Option Bool}{neg:Bool}:oD2 q neg x y=(q x y).map fun k=>.v (.bl (if neg then !k else k)):=rfl
theorem a_0:atI (d::ds) 0=some d:=u4 (j:=0) rfl
theorem a_1:atI (d::e::ds) 1=some e:=u4 (j:=1) rfl
theorem a_2:atI (d::e::x::ds) 2=some x:=u4 (j:=2) rfl
end
open PySem PySem.Spec PyProof.Rows L2
section
variable {prog:Program}{w:World}{A:Around}{E:Value->Shared->Prop}{s:Shared}
theorem a4o {c t:Addr}{k:Nat}{its:Array Value}{x:Value}{Q:Value->Shared->Prop}(hc:IsTupIter s.heap c t k)(ht:IsTup s.heap t its)(hx:its[k]? =some x)
  (q:∀h',IsTupIter h' c t (k+1)->Heap.SameBut c s.heap h'->Q x {s with heap:=h'}):wpAny (model prog w) A (Builtin.SmallTypes.nextOf (.ref c)) Q E s:=by
 have T:=hc.typeIs;obtain⟨o,e1,e2,e3⟩:=hc;obtain⟨o2,g1,_,m,g3⟩:=ht;unfold Builtin.SmallTypes.nextOf;refine zA (qD (name:=Str.ofString "__next__") T slot_tupleiter_next (qI slot_tupleiter_next T entry_tupleiter_next ?_ (args_tupleiter_next _)));have step:wpAny (model prog w) A.in1 (setField (.ref c) 1 (rawInt ((k:Nat)+1:Nat))) (fun _ s'=>wpAny (model prog w) A.in1 (ret x) (fun fin s''=>∃v,fin= .done (.ret v)/\wpAny (model prog w) A (pure v) Q E s'') E s') E s:=by
  refine wpAny_setField e1 e3 (by simp) (zB ⟨x,rfl,zB (q _ ⟨_,xH _ e1 (Obj.isFreed_of_fields (Obj.data_mapFields e3 _)),(Obj.cls_mapFields ..).trans e2,?_⟩ (qG ..))⟩)
  rw[Obj.data_mapFields e3];simp[rawInt]
 refine zA (m:=field (.ref c) 0) (qR e1 e3 (x:=.ref t) rfl ?_);show wpAny _ _ (if(Value.ref t==Value.none)=true then _ else _) _ _ s;have nn:¬((Value.ref t==Value.none)=true):=zS;rw[if_neg nn];refine zA (m:=field (.ref c) 1) (qR e1 e3 (x:=.int k 0) rfl (zA (m:=seqItems? (.ref t)) (jQ g1 g3 ?_)));simp only[jY,hx];exact zA step
theorem a6d {c t:Addr}{k:Nat}{its:Array Value}{Q:Value->Shared->Prop}(hh:A.handled=none)(hc:IsTupIter s.heap c t k)(ht:IsTup s.heap t its)(hx:its[k]? =none)
  (q:∀h' x,Heap.ExtBut c s.heap h'->(∃o,h'.get? x=some o/\o.cls= .type "StopIteration")->E (.ref x) {s with heap:=h'}):wpAny (model prog w) A (Builtin.SmallTypes.nextOf (.ref c)) Q E s:=by
 have T:=hc.typeIs;obtain⟨o,e1,e2,e3⟩:=hc;obtain⟨o2,g1,_,m,g3⟩:=ht;unfold Builtin.SmallTypes.nextOf;refine zA (qD (name:=Str.ofString "__next__") T slot_tupleiter_next (qI slot_tupleiter_next T entry_tupleiter_next ?_ (args_tupleiter_next _)));refine zA (m:=field (.ref c) 0) (qR e1 e3 (x:=.ref t) rfl ?_);show wpAny _ _ (if(Value.ref t==Value.none)=true then _ else _) _ _ s;have nn:¬((Value.ref t==Value.none)=true):=zS;rw[if_neg nn];refine zA (m:=field (.ref c) 1) (qR e1 e3 (x:=.int k 0) rfl (zA (m:=seqItems? (.ref t)) (jQ g1 g3 ?_)));simp only[jY,hx];refine zA (jZ (zA (wpAny_setField e1 e3 (by simp) ?_)))
 refine zA (m:=newExc (.type "StopIteration") []) ?_;simp only[newExc,newTuple];refine zA (qK ?_ (by size_fits))
 refine zA (m:=firstArgMember _ _) (wpAny_of_eq (a:=Value.none) (by first|rfl|(simp only[firstArgMember];rfl)) (qK ?_ (by size_fits)))
 simp only[raiseNew];refine zA (wpAny_handled ?_)
 first|rw[show A.in1.handled=none from hh]|rw[hh]
 exact zA (zB (wpAny_throw (q _ _ (((qG ..).extBut.push _).push _) ⟨_,zO _ rfl,rfl⟩)))
end
def SIt (k:Bool) (h:Heap) (c t:Addr) (i:Nat):Prop:=match k with
 | true=>h.IsListIter c t i
 | false=>IsTupIter h c t i
def SSq (k:Bool) (h:Heap) (t:Addr) (its:Array Value):Prop:=match k with
 | true=>h.IsList t its
 | false=>IsTup h t its
def SqK (k:Bool) (K:PySem.W.Frag) (H:Hp) (a:Addr) (xs:List V):Prop:=match k with
 | true=>SqL K H a xs
 | false=>SqT K H a xs
def itN (k:Bool):String:=if k then "list_iterator" else "tuple_iterator"
theorem C6 {b:Bool}{h h':Heap}{c t:Addr}{k:Nat}(i:SIt b h c t k)(kp:∀o,h.get? c=some o->h'.get? c=some o):SIt b h' c t k:=by
 cases b<;>(obtain⟨o,e,r⟩:=i;exact⟨o,kp o e,r⟩)
theorem Y9 {b:Bool}{h h':Heap}{c:Addr}{its:Array Value}(i:SSq b h c its)(kp:∀o,h.get? c=some o->h'.get? c=some o):SSq b h' c its:=by
 cases b<;>(obtain⟨o,e,r⟩:=i;exact⟨o,kp o e,r⟩)
theorem Q7 {b:Bool}{h:Heap}{c t:Addr}{k:Nat}(i:SIt b h c t k):∃o,h.get? c=some o/\∀v,o.data≠.cell v:=by
 cases b<;>(obtain⟨o,e,r,d⟩:=i;exact⟨o,e,fun v z=>by rw[d] at z;cases z⟩)
theorem a4Z {b:Bool}{h:Heap}{c l:Addr}(e:h.get? c=some {cls:=.type (itN b),data:=.fields #[.ref l,.int 0 0]}):SIt b h c l 0:=by
 cases b<;>exact⟨_,e,rfl,rfl⟩
theorem sqk {X:Cx}{k:Bool}{pins:List (Addr×PySem.Obj)}{σ:L2.St}{H:Hp}{s:Shared}{a:Addr}{xs:List V}(I:Inv X pins σ H s)(h:SqK k X.K H a xs):∃its,Vals xs its/\SSq k s.heap a its.toArray:=by
 cases k
 ·obtain⟨its,r,p,_⟩:=I.tuple h;exact⟨its,r,p⟩
 ·obtain⟨its,r,p,_⟩:=I.list h;exact⟨its,r,p.isList⟩
theorem a5x {X:Cx}{k:Bool}{pins:List (Addr×PySem.Obj)}{σ:L2.St}{H:Hp}{s:Shared}{a:Addr}{xs ys:List V}(I:Inv X pins σ H s)(h:SqK k X.K H a xs)(h':SqK k X.K H a ys):xs=ys:=by
 cases k
 ·exact I.tuple_inj h h'
 ·exact I.list_inj h h'
theorem a8p {b:Bool}{h:Heap}{c:Addr}{its:Array Value}(i:SSq b h c its):c<h.objs.size:=by
 cases b<;>(obtain⟨o,e,r⟩:=i;exact zP e)
section
variable {prog:Program}{w:World}{A:Around}{E:Value->Shared->Prop}{s:Shared}
theorem T5 {b:Bool}{c t:Addr}{k:Nat}{its:Array Value}{x:Value}{Q:Value->Shared->Prop}(hc:SIt b s.heap c t k)(ht:SSq b s.heap t its)(hx:its[k]? =some x)
  (q:∀h',SIt b h' c t (k+1)->Heap.SameBut c s.heap h'->Q x {s with heap:=h'}):wpAny (model prog w) A (Builtin.SmallTypes.nextOf (.ref c)) Q E s:=by
 cases b
 ·exact a4o hc ht hx q
 ·exact wpAny_nextOf_list_item hc ht hx q
theorem a1X {b:Bool}{c t:Addr}{k:Nat}{its:Array Value}{Q:Value->Shared->Prop}(hh:A.handled=none)(hc:SIt b s.heap c t k)(ht:SSq b s.heap t its)(hx:its[k]? =none)
  (q:∀h' x,Heap.ExtBut c s.heap h'->(∃o,h'.get? x=some o/\o.cls= .type "StopIteration")->E (.ref x) {s with heap:=h'}):wpAny (model prog w) A (Builtin.SmallTypes.nextOf (.ref c)) Q E s:=by
 cases b
 ·exact a6d hh hc ht hx q
 ·exact wpAny_nextOf_list_end hh hc ht hx q
theorem iterS {b:Bool}{l:Addr}{its:Array Value}{Q:Value->Shared->Prop}(ht:SSq b s.heap l its)(q:Q (.ref s.heap.objs.size) {s with heap:=s.heap.push {cls:=.type (itN b),data:=.fields #[.ref l,.int 0 0]}}):wpAny (model prog w) A (pyIter (.ref l)) Q E s:=by
 cases b
 ·exact iter_tuple ht q
 ·exact wpAny_pyIter_list ht q
end
section
variable {prog:Program}{w:World}{A:Around}{E:Value->Shared->Prop}{s:Shared}{c1 c2:Bool}{z TI TO i1 i2 l1 l2:Addr}{k1 k2:Nat}{xs ys:Array Value}{x y a b:Value}
theorem a51 {Q:Value->Shared->Prop}(D:ZipApart z TI TO i1 i2 l1 l2)(hz:IsZip s.heap z TI TO .none)(hTI:IsPair s.heap TI (.ref i1) (.ref i2))(hTO:IsPair s.heap TO a b)
  (h1:SIt c1 s.heap i1 l1 k1) (h2:SIt c2 s.heap i2 l2 k2) (t1:SSq c1 s.heap l1 xs) (t2:SSq c2 s.heap l2 ys) (hx:xs[k1]? =some x) (hy:ys[k2]? =some y)
  (q:∀h',IsZip h' z TI TO (rawInt s.heap.objs.size)->IsPair h' TO x y->SIt c1 h' i1 l1 (k1+1)->SIt c2 h' i2 l2 (k2+1)->IsPair h' s.heap.objs.size x y->h'.objs.size=s.heap.objs.size+1->
   (∀c o,c≠z->c≠TO->c≠i1->c≠i2->s.heap.get? c=some o->h'.get? c=some o)->Q (.ref s.heap.objs.size) {s with heap:=h'}):
  wpAny (model prog w) A (Builtin.«zip.__next__» ⟨[.ref z],[]⟩) (fun fin s'=>∃v,fin= .done (.ret v)/\Q v s') E s:=by
 refine zA (m:=field (.ref z) 2) (qR hz rfl (x:=.bool false) rfl ?_);refine zA (m:=field (.ref z) 3) (qR hz rfl (x:=.ref TI) rfl (zA (jQ hTI rfl ?_)));refine zA (m:=Builtin.SmallTypes.ownedTupleIsFree (.ref z)) ?_;unfold Builtin.SmallTypes.ownedTupleIsFree;refine zA (qR hz rfl (x:=.none) rfl (zB ?_));simp only[jB];refine zA (jZ (zA (qR hz rfl (x:=.ref TO) rfl (zA (jU hz (by simp) fun ha za sa=>?_)))))
 have za':IsZip ha z TI TO .ellipsis:=za;have ka:∀c o,c≠z->s.heap.get? c=some o->ha.get? c=some o:=fun c o n e=>sa.extBut c o n e;refine zA ?_;simp only[List.zipIdx_cons,List.zipIdx_nil,List.forIn_cons,List.forIn_nil];refine zA (zA (wpAny_onRaise (zA (m:=Builtin.SmallTypes.nextOf (.ref i1)) (T5 (C6 h1 fun o e=>ka _ o D.i1z e) (Y9 t1 fun o e=>ka _ o D.l1z e) hx fun hb ib sb=>zB ?_))));have kb:∀c o,c≠z->c≠i1->s.heap.get? c=some o->hb.get? c=some o:=fun c o n n1 e=>sb.extBut c o n1 (ka c o n e);have ob:IsPair hb TO a b:=kb _ _ D.TOz D.TOi1 hTO;refine zA (jQ ob rfl (zA (wpAny_updateSeq_pair ob fun hc oc sc=>?_)));have oc':IsPair hc TO x b:=oc;have kc:∀c o,c≠z->c≠i1->c≠TO->s.heap.get? c=some o->hc.get? c=some o:=fun c o n n1 n2 e=>sc.extBut c o n2 (kb c o n n1 e);refine zA (wpAny_letGo (zB ?_));refine zA (zA (wpAny_onRaise (zA (m:=Builtin.SmallTypes.nextOf (.ref i2)) (T5 (C6 h2 fun o e=>kc _ o D.i2z D.i12.symm D.TOi2.symm e) (Y9 t2 fun o e=>kc _ o D.l2z D.l2i1 D.l2TO e) hy fun hd id' sd=>zB ?_))));have od:IsPair hd TO x b:=sd.extBut _ _ D.TOi2 oc';refine zA (jQ od rfl (zA (wpAny_updateSeq_pair od fun he oe se=>?_)));have oe':IsPair he TO x y:=oe;refine zA (wpAny_letGo (zB (zB ?_)));refine zA (jQ oe' rfl (zA (wpAny_newTuple ?_)));have size:he.objs.size=s.heap.objs.size:=by rw[se.1,sd.1,sc.1,sb.1,sa.1]
 have ke:∀c o,c≠z->c≠TO->c≠i1->c≠i2->s.heap.get? c=some o->he.get? c=some o:=fun c o n n1 n2 n3 e=>se.extBut c o n1 (sd.extBut c o n3 (kc c o n n2 n1 e));have ze:IsZip he z TI TO .ellipsis:=se.extBut _ _ D.TOz.symm (sd.extBut _ _ D.i2z.symm (sc.extBut _ _ D.TOz.symm (sb.extBut _ _ D.i1z.symm za')));have ie1:SIt c1 he i1 l1 (k1+1):=C6 ib fun o e=>se.extBut _ o D.TOi1.symm (sd.extBut _ o D.i12 (sc.extBut _ o D.TOi1.symm e));have ie2:SIt c2 he i2 l2 (k2+1):=C6 id' fun o e=>se.extBut _ o D.TOi2.symm e;have zlt:z<he.objs.size:=zP ze;refine zA (m:=Builtin.SmallTypes.ownedTupleHandOut (.ref z) (.ref he.objs.size)) ?_;unfold Builtin.SmallTypes.ownedTupleHandOut;have zp:IsZip (he.push {cls:=.type "tuple",data:=.seq #[x,y]}) z TI TO .ellipsis:=zD _ ze;refine zA (jU zp (by simp) fun hf zf sf=>?_)
 have zf':IsZip hf z TI TO (rawInt he.objs.size):=zf;refine jU zf' (by simp) fun hg zg sg=>?_
 have zg':IsZip hg z TI TO (rawInt he.objs.size):=zg;have up:∀c o,c≠z->he.get? c=some o->hg.get? c=some o:=fun c o n e=>sg.extBut c o n (sf.extBut c o n (zD _ e));have pg:IsPair hg he.objs.size x y:=sg.extBut _ _ (xF zlt) (sf.extBut _ _ (xF zlt) (zO _ rfl));have szg:hg.objs.size=he.objs.size+1:=by rw[sg.1,sf.1,size_push]
 rw[size] at zg' pg szg;refine zB ⟨_,rfl,?_⟩;show Q (.ref he.objs.size) _;rw[size];exact q hg zg' (up _ _ D.TOz oe') (C6 ie1 fun o e=>up _ o D.i1z e) (C6 ie2 fun o e=>up _ o D.i2z e) pg szg fun c o n n1 n2 n3 e=>up c o n (ke c o n n1 n2 n3 e)
end
section
variable {prog:Program}{w:World}{A:Around}{E:Value->Shared->Prop}{s:Shared}{c1 c2:Bool}{z TI TO i1 i2 l1 l2:Addr}{k1 k2:Nat}{xs ys:Array Value}{x y a b:Value}
theorem a8J {Q:Fin->Shared->Prop}(hh:A.handled=none)(D:ZipApart z TI TO i1 i2 l1 l2)(hz:IsZip s.heap z TI TO .none)(hTI:IsPair s.heap TI (.ref i1) (.ref i2))(hTO:IsPair s.heap TO a b)
  (h1:SIt c1 s.heap i1 l1 k1) (h2:SIt c2 s.heap i2 l2 k2) (t1:SSq c1 s.heap l1 xs) (t2:SSq c2 s.heap l2 ys) (hend:xs[k1]? =none\/ys[k2]? =none)
  (q:∀h' c,(∀c o,c≠z->c≠TO->c≠i1->c≠i2->s.heap.get? c=some o->h'.get? c=some o)->(∃o,h'.get? c=some o/\o.cls= .type "StopIteration")->E (.ref c) {s with heap:=h'}):
  wpAny (model prog w) A (Builtin.«zip.__next__» ⟨[.ref z],[]⟩) Q E s:=by
 refine zA (m:=field (.ref z) 2) (qR hz rfl (x:=.bool false) rfl ?_);refine zA (m:=field (.ref z) 3) (qR hz rfl (x:=.ref TI) rfl (zA (jQ hTI rfl ?_)));refine zA (m:=Builtin.SmallTypes.ownedTupleIsFree (.ref z)) ?_;unfold Builtin.SmallTypes.ownedTupleIsFree;refine zA (qR hz rfl (x:=.none) rfl (zB ?_));simp only[jB];refine zA (jZ (zA (qR hz rfl (x:=.ref TO) rfl (zA (jU hz (by simp) fun ha za sa=>?_)))))
 have za':IsZip ha z TI TO .ellipsis:=za;have ka:∀c o,c≠z->s.heap.get? c=some o->ha.get? c=some o:=fun c o n e=>sa.extBut c o n e;have apart:∀{h:Heap} {c:Addr} {v:Value},IsZip h z TI TO v->(∃o,h.get? c=some o/\o.cls= .type "StopIteration")->c≠z:=fun{h c v} hz' ⟨o,e1,e2⟩ n=>by
  subst n;rw[hz'] at e1;cases e1;simp at e2
 refine zA ?_;simp only[List.zipIdx_cons,List.zipIdx_nil,List.forIn_cons,List.forIn_nil];cases hx:xs[k1]? with
 | none=>
  refine zA (zA (wpAny_onRaise (zA (m:=Builtin.SmallTypes.nextOf (.ref i1)) (a1X hh (C6 h1 fun o e=>ka _ o D.i1z e) (Y9 t1 fun o e=>ka _ o D.l1z e) hx fun hb c kb hc=>?_))));have zb:IsZip hb z TI TO .ellipsis:=kb _ _ D.i1z.symm za';have nz:=apart zb hc;obtain⟨o,eo,co⟩:=hc;exact jU zb (by simp) fun hd _ sd=>q hd c (fun d o' n _ n2 _ e=>sd.extBut d o' n (kb d o' n2 (ka d o' n e))) ⟨o,sd.extBut _ _ nz eo,co⟩
 | some x=>
  have hy:ys[k2]? =none:=hend.resolve_left (by rw[hx];exact fun n=>nomatch n)
  refine zA (zA (wpAny_onRaise (zA (m:=Builtin.SmallTypes.nextOf (.ref i1)) (T5 (C6 h1 fun o e=>ka _ o D.i1z e) (Y9 t1 fun o e=>ka _ o D.l1z e) hx fun hb ib sb=>zB ?_))));have kb:∀c o,c≠z->c≠i1->s.heap.get? c=some o->hb.get? c=some o:=fun c o n n1 e=>sb.extBut c o n1 (ka c o n e);have ob:IsPair hb TO a b:=kb _ _ D.TOz D.TOi1 hTO;refine zA (jQ ob rfl (zA (wpAny_updateSeq_pair ob fun hc oc sc=>?_)));have kc:∀c o,c≠z->c≠i1->c≠TO->s.heap.get? c=some o->hc.get? c=some o:=fun c o n n1 n2 e=>sc.extBut c o n2 (kb c o n n1 e);refine zA (wpAny_letGo (zB ?_));refine zA (zA (wpAny_onRaise (zA (m:=Builtin.SmallTypes.nextOf (.ref i2)) (a1X hh (C6 h2 fun o e=>kc _ o D.i2z D.i12.symm D.TOi2.symm e) (Y9 t2 fun o e=>kc _ o D.l2z D.l2i1 D.l2TO e) hy fun hd c kd hc'=>?_))));have zd:IsZip hd z TI TO .ellipsis:=kd _ _ D.i2z.symm (sc.extBut _ _ D.TOz.symm (sb.extBut _ _ D.i1z.symm za'));have nz:=apart zd hc';obtain⟨o,eo,co⟩:=hc';exact jU zd (by simp) fun hf _ sf=>q hf c (fun d o' n n1 n2 n3 e=>sf.extBut d o' n (kd d o' n3 (kc d o' n n2 n1 e))) ⟨o,sf.extBut _ _ nz eo,co⟩
theorem a4y {Q:Option Value->Shared->Prop}(D:ZipApart z TI TO i1 i2 l1 l2)(hz:IsZip s.heap z TI TO .none)(hTI:IsPair s.heap TI (.ref i1) (.ref i2))(hTO:IsPair s.heap TO a b)
  (h1:SIt c1 s.heap i1 l1 k1) (h2:SIt c2 s.heap i2 l2 k2) (t1:SSq c1 s.heap l1 xs) (t2:SSq c2 s.heap l2 ys) (hx:xs[k1]? =some x) (hy:ys[k2]? =some y)
  (q:∀h',IsZip h' z TI TO (rawInt s.heap.objs.size)->IsPair h' TO x y->SIt c1 h' i1 l1 (k1+1)->SIt c2 h' i2 l2 (k2+1)->IsPair h' s.heap.objs.size x y->h'.objs.size=s.heap.objs.size+1->
   (∀c o,c≠z->c≠TO->c≠i1->c≠i2->s.heap.get? c=some o->h'.get? c=some o)->Q (some (.ref s.heap.objs.size)) {s with heap:=h'}):
  wpAny (model prog w) A (pyNext (.ref z)) Q E s:=by
 have T:s.TypeIs (.ref z) "zip":=⟨_,hz,rfl⟩;unfold pyNext
 exact zA (wpAny_attempt (qD (name:=Str.ofString "__next__") T F.slot_zip_next
  (qI F.slot_zip_next T F.entry_zip_next (a51 D hz hTI hTO h1 h2 t1 t2 hx hy fun h' b1 b2 b3 b4 b5 b6 b7=>zB (q h' b1 b2 b3 b4 b5 b6 b7)) (F.args_zip_next_1 _))))
theorem a6w {Q:Option Value->Shared->Prop}(hh:A.handled=none)(D:ZipApart z TI TO i1 i2 l1 l2)(hz:IsZip s.heap z TI TO .none)(hTI:IsPair s.heap TI (.ref i1) (.ref i2))(hTO:IsPair s.heap TO a b)
  (h1:SIt c1 s.heap i1 l1 k1) (h2:SIt c2 s.heap i2 l2 k2) (t1:SSq c1 s.heap l1 xs) (t2:SSq c2 s.heap l2 ys) (hend:xs[k1]? =none\/ys[k2]? =none)
  (q:∀h',(∀c o,c≠z->c≠TO->c≠i1->c≠i2->s.heap.get? c=some o->h'.get? c=some o)->Q none {s with heap:=h'}):wpAny (model prog w) A (pyNext (.ref z)) Q E s:=by
 have T:s.TypeIs (.ref z) "zip":=⟨_,hz,rfl⟩;unfold pyNext;refine zA (wpAny_attempt (qD (name:=Str.ofString "__next__") T F.slot_zip_next (qI F.slot_zip_next T F.entry_zip_next (a8J hh D hz hTI hTO h1 h2 t1 t2 hend fun h' c kp hc=>?_) (F.args_zip_next_1 _))));obtain⟨o,eo,co⟩:=hc;exact zA (wpAny_isInstance (T:="StopIteration") (b:=true) ⟨o,eo,co⟩ isSubtype_stop (zB (q _ kp)))
abbrev zp1 (b:Bool) (h:Heap) (l:Addr):Heap:=h.push {cls:=.type (itN b),data:=.fields #[.ref l,.int 0 0]}
abbrev zp3 (c1 c2:Bool) (h:Heap) (l m:Addr):Heap:=(zp1 c2 (zp1 c1 h l) m).push {cls:=.type "tuple",data:=.seq #[.ref h.objs.size,.ref (zp1 c1 h l).objs.size]}
abbrev zp4 (c1 c2:Bool) (h:Heap) (l m:Addr):Heap:=(zp3 c1 c2 h l m).push {cls:=.type "tuple",data:=.seq #[.none,.none]}
abbrev zp5 (c1 c2:Bool) (h:Heap) (l m:Addr):Heap:=(zp4 c1 c2 h l m).push {cls:=.type "zip",data:=.fields #[.none,.bool false,.bool false,.ref (zp1 c2 (zp1 c1 h l) m).objs.size,.ref (zp3 c1 c2 h l m).objs.size]}
theorem a8X (c1 c2:Bool)(l m:Addr)(xs ys:Array Value):Meets (Builtin.«zip.__new__» ⟨[.type "zip",.ref l,.ref m],[]⟩) (fun _ R s=>SSq c1 s.heap l xs/\SSq c2 s.heap m ys/\R (.ok (.ret (.ref (zp4 c1 c2 s.heap l m).objs.size))) {s with heap:=zp5 c1 c2 s.heap l m}):=
 .of_wp fun prog w A R s hh=>by
  obtain⟨hp,g,d,tk,os⟩:=s;obtain⟨p1,p2,hr⟩:=hh;have hsub:=sub_zip;have q1:SSq c1 (Shared.heap ⟨hp,g,d,tk,os⟩) l xs:=p1;have q2:SSq c2 (Shared.heap ⟨zp1 c1 hp l,g,d,tk,os⟩) m ys:=Y9 p2 fun o e=>zD _ e
  wp_walk using iterS q1,iterS q2
  exact⟨_,rfl,hr⟩
theorem a6j {Q:Value->Shared->Prop}(p1:SSq c1 s.heap l1 xs)(p2:SSq c2 s.heap l2 ys)
  (q:∀h',IsZip h' (s.heap.objs.size+4) (s.heap.objs.size+2) (s.heap.objs.size+3) .none->IsPair h' (s.heap.objs.size+2) (.ref s.heap.objs.size) (.ref (s.heap.objs.size+1))->IsPair h' (s.heap.objs.size+3) .none .none->
   SIt c1 h' s.heap.objs.size l1 0->SIt c2 h' (s.heap.objs.size+1) l2 0->(∀c o,s.heap.get? c=some o->h'.get? c=some o)->Q (.ref (s.heap.objs.size+4)) {s with heap:=h'}):
  wpAny (model prog w) A (call (.type "zip") [.ref l1,.ref l2]) Q E s:=by
 refine callType_new F.called_zip (by decide) (F.typeCall_zip_2 _ _) (F.newCall_zip_2 _ _) (fun obj=>F.args_object_init_3 obj _ _) F.entry_zip_new (a8X c1 c2 l1 l2 xs ys) ⟨p1,p2,?_⟩
 have n1:(zp1 c1 s.heap l1).objs.size=s.heap.objs.size+1:=size_push ..;have n2:(zp1 c2 (zp1 c1 s.heap l1) l2).objs.size=s.heap.objs.size+2:=by rw[size_push,n1]
 have n3:(zp3 c1 c2 s.heap l1 l2).objs.size=s.heap.objs.size+3:=by rw[size_push,n2]
 have n4:(zp4 c1 c2 s.heap l1 l2).objs.size=s.heap.objs.size+4:=by rw[size_push,n3]
 have up:∀{h:Heap} {c:Addr} {o p:PySem.Obj},h.get? c=some o->(h.push p).get? c=some o:=fun e=>zD _ e;have r5:(zp5 c1 c2 s.heap l1 l2).get? (zp4 c1 c2 s.heap l1 l2).objs.size=some _:=zO _ rfl;have r4:(zp5 c1 c2 s.heap l1 l2).get? (zp3 c1 c2 s.heap l1 l2).objs.size=some _:=up (zO _ rfl);have r3:(zp5 c1 c2 s.heap l1 l2).get? (zp1 c2 (zp1 c1 s.heap l1) l2).objs.size=some _:=up (up (zO _ rfl));have r2:(zp5 c1 c2 s.heap l1 l2).get? (zp1 c1 s.heap l1).objs.size=some _:=up (up (up (zO _ rfl)));have r1:(zp5 c1 c2 s.heap l1 l2).get? s.heap.objs.size=some _:=up (up (up (up (zO _ rfl))));rw[n2,n3,n4] at r5;rw[n1,n2] at r3;rw[n3] at r4;rw[n1] at r2;show _/\_;rw[n4];exact⟨⟨_,r5,rfl⟩,q _ r5 r3 r4 (a4Z r1) (a4Z r2) fun c o e=>up (up (up (up (up e))))⟩
end
theorem a2c {xs:List V}{us:List Value}{i:Nat}(r:Vals xs us)(e:xs[i]? =none):us.toArray[i]? =none:=by
 have:=r.length
 rw[xA] at e;rw[List.getElem?_toArray,xA];walk_at "o"
def ItzT (c1 c2:Bool) (K:PySem.W.Frag) (l1 l2:Addr):It:=
 ⟨fun i H=>∃xs ys x y,SqK c1 K H l1 xs/\SqK c2 K H l2 ys/\xs[i]? =some x/\ys[i]? =some y,
  fun i H v H'=>∃T x y,v= .ref T/\H T=none/\H'=upd H T (.tup [x,y])/\(∀xs,SqK c1 K H l1 xs->xs[i]? =some x)/\∀ys,SqK c2 K H l2 ys->ys[i]? =some y,
  fun i H=>∃xs ys,SqK c1 K H l1 xs/\SqK c2 K H l2 ys/\(xs[i]? =none\/ys[i]? =none)⟩
def zipTt (c1 c2:Bool) (z TI TO i1 i2 l1 l2:Addr) (i:Nat) (h:Heap):Prop:=IsZip h z TI TO .none/\IsPair h TI (.ref i1) (.ref i2)/\(∃a b,IsPair h TO a b)/\SIt c1 h i1 l1 i/\SIt c2 h i2 l2 i
theorem a58 {P:Program}{w:World}{K:PySem.W.Frag}{es:List Expr}{kt:Nat}{pt:Pos}{c1 c2:Bool}{z TI TO i1 i2 l1 l2:Addr}(D:ZipApart z TI TO i1 i2 l1 l2):
  Turn P w K (.Tuple es kt pt) (ItzT c1 c2 K l1 l2) [z,TI,TO,i1,i2] z (zipTt c1 c2 z TI TO i1 i2 l1 l2) where
 mem:=by simp
 obj:=fun i h st b hb=>by
  obtain⟨hz,hTI,⟨a,b',hTO⟩,s1,s2⟩:=st;obtain⟨o1,e1,d1⟩:=Q7 s1;obtain⟨o2,e2,d2⟩:=Q7 s2;simp only[zN,xC,or_false] at hb;rcases hb with rfl|rfl|rfl|rfl|rfl
  ·exact⟨_,hz,fun v z=>nomatch z⟩
  ·exact⟨_,hTI,fun v z=>nomatch z⟩
  ·exact⟨_,hTO,fun v z=>nomatch z⟩
  ·exact⟨_,e1,d1⟩
  ·exact⟨_,e2,d2⟩
 keep:=fun i h h' st k=>by
  obtain⟨hz,hTI,⟨a,b',hTO⟩,h1,h2⟩:=st;exact⟨k z (by simp) _ hz,k TI (by simp) _ hTI,⟨a,b',k TO (by simp) _ hTO⟩,C6 h1 fun o e=>k i1 (by simp) o e,C6 h2 fun o e=>k i2 (by simp) o e⟩
 item:=by
  intro X hP hw hK hc i pins s σ H E I hf st hg;subst hP hw hK;obtain⟨xs,ys,x,y,q1,q2,ex,ey⟩:=hg;obtain⟨its1,r1,p1⟩:=sqk I q1;obtain⟨its2,r2,p2⟩:=sqk I q2;obtain⟨u,hu,ru⟩:=r1.get ex;obtain⟨v,hv,rv⟩:=r2.get ey;obtain⟨hz,hTI,⟨a,b,hTO⟩,h1,h2⟩:=st;have l1:∀{c o},s.heap.get? c=some o->c≠s.heap.objs.size:=fun e=>zQ (zP e);refine a4y D hz hTI hTO h1 h2 p1 p2 (x:=u) (y:=v) (by simpa using hu) (by simpa using hv) fun h' a1 a2 a3 a4 a5 a6 hk=>⟨_,rfl,?_⟩
  refine wpAny_letOwnedTupleGo_zip a1 fun h2' b1 b2=>?_;have ez:z<s.heap.objs.size:=zP hz;have nT:s.heap.objs.size≠z:=xF ez;have kp:∀c o,c∉[z,TI,TO,i1,i2]->s.heap.get? c=some o->h2'.get? c=some o:=fun c o hc e=>by
   simp only[zN,xC,or_false,not_or] at hc;exact(b2.2 c hc.1).trans (hk c o hc.1 hc.2.2.1 hc.2.2.2.1 hc.2.2.2.2 e)
  have fr:H s.heap.objs.size=none:=I.hok.fresh (zE _);have tr:∀c w,H c=some w->c∉[z,TI,TO,i1,i2]:=fun c w e hc=>by rw[(hf c hc).1] at e;cases e
  have st':zipTt c1 c2 z TI TO i1 i2 _ _ (i+1) h2':=⟨b1,(b2.2 _ D.TIz).trans (hk _ _ D.TIz D.TITO D.TIi1 D.TIi2 hTI),⟨_,_,(b2.2 _ D.TOz).trans a2⟩,C6 a3 fun o e=>(b2.2 _ D.i1z).trans e,C6 a4 fun o e=>(b2.2 _ D.i2z).trans e⟩;have five:∀c∈[z,TI,TO,i1,i2],∃o,h2'.get? c=some o:=fun c hc=>by
   obtain⟨q1,q2,⟨_,_,q3⟩,s4,s5⟩:=st';obtain⟨_,q4,_⟩:=Q7 s4;obtain⟨_,q5,_⟩:=Q7 s5;simp only[zN,xC,or_false] at hc;rcases hc with rfl|rfl|rfl|rfl|rfl
   ·exact⟨_,q1⟩
   ·exact⟨_,q2⟩
   ·exact⟨_,q3⟩
   ·exact⟨_,q4⟩
   ·exact⟨_,q5⟩
  have hb5:h2'.get? s.heap.objs.size=some {cls:=.type "tuple",data:=.seq #[u,v]}:=(b2.2 _ nT).trans a5
  have un:Un (frs X.stack) [z,TI,TO,i1,i2] H (upd H s.heap.objs.size (.tup [x,y])) s.heap h2':=⟨fun c o e n hfs hx=>kp c o hx e,fun c o e n hfs hx=>⟨o.slots,kp c o hx e⟩,fun c o e n hx=>by rw[g5 (l1 e)];exact n,fun c o e hx=>⟨o,kp c o hx e⟩,
   fun c ws e=>by rw[g5 (l5 e fr)];exact e,fun c o w e=>by rw[g5 (l5 e fr)];exact e,fun c ps e=>⟨#[],by rw[g5 (l5 e fr),e];simp⟩⟩
  have hok:HOk X.prog X.w (upd H s.heap.objs.size (.tup [x,y])) h2':=fun c w e=>by
   by_cases hc:c=s.heap.objs.size
   ·subst hc;rw[m9] at e;cases e;exact⟨by show 2<=sizeLine;rw[jI];decide,[u,v],.cons ru (.cons rv .nil),⟨_,hb5,rfl,⟨_,rfl⟩,rfl⟩⟩
   ·rw[g5 hc] at e
    refine(I.hok c w e).stay (fun c' o hc' e'=>kp c' o (by
     rcases hc' with rfl|hc'
     ·exact tr _ _ e
     ·exact tr _ _ hc') e') (fun c' q=>by rw[g5 (l5 q fr)];exact q) fun c' ws q=>by rw[g5 (l5 q fr)];exact q
  have I1:Inv X pins σ (upd H s.heap.objs.size (.tup [x,y])) {s with heap:=h2'}:=I.call' (s':={s with heap:=h2'}) (ch:=[z,TI,TO,i1,i2]) rfl un hok I.bare fun c hc=>⟨(hf c hc).2.2.2.1,(hf c hc).2.1,(hf c hc).2.2.2.2.1,(hf c hc).2.2.2.2.2⟩
  exact⟨.ref s.heap.objs.size,_,I1,rfl,⟨_,x,y,rfl,fr,rfl,fun ws hw=>by rw[a5x I hw q1];exact ex,fun ws hw=>by rw[a5x I hw q2];exact ey⟩,st',fun c hc=>by
   obtain⟨o,e⟩:=five c hc
   have:c≠s.heap.objs.size:=fun z=>by
    subst z
    have:=(hf _ hc)
    obtain⟨q1,q2,⟨_,_,q3⟩,s4,s5⟩:=(⟨hz,hTI,⟨a,b,hTO⟩,h1,h2⟩:zipTt c1 c2 z TI TO i1 i2 _ _ i s.heap);obtain⟨_,q4,_⟩:=Q7 s4;obtain⟨_,q5,_⟩:=Q7 s5;simp only[zN,xC,or_false] at hc;rcases hc with rfl|rfl|rfl|rfl|rfl
    ·exact l1 q1 rfl
    ·exact l1 q2 rfl
    ·exact l1 q3 rfl
    ·exact l1 q4 rfl
    ·exact l1 q5 rfl
   rw[g5 this];exact(hf c hc).1⟩
 done:=by
  intro X hP hw hK hc i pins s σ H E I hf st hg;subst hP hw hK;obtain⟨xs,ys,q1,q2,hend⟩:=hg;obtain⟨its1,r1,p1⟩:=sqk I q1;obtain⟨its2,r2,p2⟩:=sqk I q2;obtain⟨hz,hTI,⟨a,b,hTO⟩,h1,h2⟩:=st;refine a6w (I.ok.hd hc) D hz hTI hTO h1 h2 p1 p2 (hend.imp (a2c r1) (a2c r2)) fun h' hk=>⟨rfl,?_⟩;have kp:∀c o,c∉[z,TO,i1,i2]->s.heap.get? c=some o->h'.get? c=some o:=fun c o hc e=>by
   simp only[zN,xC,or_false,not_or] at hc;exact hk c o hc.1 hc.2.1 hc.2.2.1 hc.2.2.2 e
  have sub:∀c∈[z,TO,i1,i2],c∈[z,TI,TO,i1,i2]:=fun c hc=>by simp at hc ⊢;rcases hc with h|h|h|h<;>simp[h]
  have un:Un (frs X.stack) [z,TO,i1,i2] H H s.heap h':=⟨fun c o e n hfs hx=>kp c o hx e,fun c o e n hfs hx=>⟨o.slots,kp c o hx e⟩,fun c o e n hx=>n,fun c o e hx=>⟨o,kp c o hx e⟩,fun c ws e=>e,fun c o w e=>e,fun c ps e=>⟨#[],by rw[e];simp⟩⟩
  have tr:∀c w,H c=some w->c∉[z,TO,i1,i2]:=fun c w e hc=>by rw[(hf c (sub c hc)).1] at e;cases e
  have hok:HOk X.prog X.w H h':=fun c w e=>(I.hok c w e).stay (fun c' o hc' e'=>kp c' o (by
   rcases hc' with rfl|hc'
   ·exact tr _ _ e
   ·exact tr _ _ hc') e') (fun _ q=>q) fun _ _ q=>q
  exact I.call' (s':={s with heap:=h'}) (ch:=[z,TO,i1,i2]) rfl un hok I.bare fun c hc=>⟨(hf c (sub c hc)).2.2.2.1,(hf c (sub c hc)).2.1,(hf c (sub c hc)).2.2.2.2.1,(hf c (sub c hc)).2.2.2.2.2⟩
 self:=fun _ _ _ _ _ st h=>wpAny_pyIter_zip st.1 h
def kd:D->Bool
 | .lst _=>true
 | _=>false
theorem a2S {K:PySem.W.Frag}{A:Av}{H:Hp}{d:D}{v:V}{xs:List D}(e:items d=some xs)(h:Den K A H d v):∃a vs,v= .ref a/\SqK (kd d) K H a vs/\DenL K A H xs vs:=by
 cases d with
 | tup zs=>cases e;rw[Den] at h;exact h
 | lst zs=>cases e;obtain⟨a,vs,e,hq,l⟩:=G3 h;exact⟨a,vs,e,hq,l⟩
 | _=>cases e
section
variable {X:Cx}{a b:Expr}{p pos:Pos}{fa:FA}{es:List Expr}{kt:Nat}{pt:Pos}
def iZip (K:PySem.W.Frag) (ta:TA):TI:=fun σ H R=>ta σ H fun vs H1=>∃c1 c2 l1 l2,vs=[.ref l1,.ref l2]/\(∃xs,SqK c1 K H1 l1 xs)/\(∃ys,SqK c2 K H1 l2 ys)/\R (ItzT c1 c2 K l1 l2) H1
theorem b1K {ta:TA}(hg:Gl X "zip")(hm:X.mg "zip"=none)(ha:PA X [a,b] ta)(hs:starEach [a,b] X.env=(false,eval a X.env)::starEach [b] X.env:=by rfl)(hpl:(backTo pos (starEach [b] X.env)).any (·.1)=false:=by rfl)(hbt:bootBuiltins "zip"=some (.type "zip"):=by rfl):
  PI X (.Tuple es kt pt) (.Call (.Name "zip" p) [a,b] [] pos) (iZip X.K ta):=by
 intro pins s σ H R I h;refine Call_ (a0e I hg hm hbt (jR (thn (ha pos pins s σ H _ I h) fun us s1 ⟨vs,H1,I1,r1,q1⟩=>?_) hs hpl) (by decide) (by decide))
 obtain⟨c1,c2,l1,l2,rfl,⟨xs,h1⟩,⟨ys,h2⟩,q⟩:=q1;obtain⟨u1,u2,rfl,ru1,ru2⟩:=vals2 r1;cases ru1;cases ru2;obtain⟨its1,_,p1⟩:=sqk I1 h1;obtain⟨its2,_,p2⟩:=sqk I1 h2;refine a6j p1 p2 fun h' d1 d2 d3 d4 d5 d7=>?_;refine wpAny_pyIter_zip d1 ?_;refine⟨_,[s1.heap.objs.size+4,s1.heap.objs.size+2,s1.heap.objs.size+3,s1.heap.objs.size,s1.heap.objs.size+1],_,_,H1,rfl,I1.kept (t':=s1.toks) fun c o e0=>d7 c o e0,a58 (zipApart_new (a8p p1) (a8p p2)),⟨d1,d2,⟨_,_,d3⟩,d4,d5⟩,fun c hc=>?_,q⟩;have le:s1.heap.objs.size<=c:=by simp only[zN,xC,or_false] at hc;rcases hc with h|h|h|h|h<;>(rw[h];first|exact Nat.le_add_right _ _|exact zE _)
 exact I1.fpOk le (I1.hok.fresh le)
def zipD (xs ys:List D):List D:=List.zipWith (fun x y=>.tup [x,y]) xs ys
def enumD (xs:List D):List D:=xs.mapIdx fun(i:Nat) x=>.tup [.int i,x]
def fiZip (fa:FA):FI:=fun ρ=>(fa ρ).bind fun p=>(takeAll p.2 p.1).bind fun q=>match q.1 with
 | [x,y]=>(items x).bind fun xs=>(items y).map fun ys=>(zipD xs ys,q.2)
 | _=>none
def fiEnum (fa:FA):FI:=fun ρ=>(fa ρ).bind fun p=>(takeAll p.2 p.1).bind fun q=>match q.1 with
 | [x]=>(items x).map fun xs=>(enumD xs,q.2)
 | _=>none
theorem b12 (hm:X.mg "zip"=none)(ha:QA X [a,b] fa)(hg:Gl X "zip":=by rfl)(hs:starEach [a,b] X.env=(false,eval a X.env)::starEach [b] X.env:=by rfl)(hpl:(backTo pos (starEach [b] X.env)).any (·.1)=false:=by rfl)(hbt:bootBuiltins "zip"=some (.type "zip"):=by rfl):
  QI X (.Tuple es kt pt) (.Call (.Name "zip" p) [a,b] [] pos) (fiZip fa):=⟨PI.weak (b1K hg hm ha.to hs hpl hbt) fun σ H R h0=>tIe h0 fun P O L ρ xs ρ' r e q=>by
 unfold fiZip at e;obtain⟨⟨ws,ρ1⟩,e1,e⟩:=obs e;dsimp only at e;obtain⟨⟨ds,ρ2⟩,e2,e⟩:=obs e;dsimp only at e;split at e
 ·rename_i x y;cases e3:items x with
  | none=>rw[e3] at e;cases e
  | some xs'=>
   cases e4:items y with
   | none=>rw[e3,e4] at e;cases e
   | some ys'=>
    rw[e3,e4] at e;cases e;refine⟨P,O,L,ρ,ws,ρ1,r,e1,fun vs H1 r1 l1=>?_⟩;obtain⟨r2,l2,_⟩:=o6 r1 e2 l1;obtain⟨v,u,rfl,hv,hu⟩:=denL2 l2;obtain⟨a1,vs1,rfl,s1,m1⟩:=a2S e3 hv;obtain⟨a2,vs2,rfl,s2,m2⟩:=a2S e4 hu;have r3:=(r2.more (p:=(y,.ref a2)) hu).more (p:=(x,.ref a1)) hv;refine⟨kd x,kd y,a1,a2,rfl,⟨vs1,s1⟩,⟨vs2,s2⟩,q _ H1 _ r3 (fun p hp=>zH _ (zH _ hp)) fun Y O' L' ρ' σ' Hh hY rr=>?_⟩;have z1:=rr.prot _ zI;have z2:=rr.prot _ (zH _ zI);rw[hY] at z1 z2;obtain⟨b1,ws1,ev1,q1,n1⟩:=a2S e3 z1;obtain⟨b2,ws2,ev2,q2,n2⟩:=a2S e4 z2;cases ev1;cases ev2;refine⟨fun i z ez=>?_,ws1,ws2,q1,q2,?_⟩
    ·unfold zipD at ez;rw[List.getElem?_zipWith] at ez;cases g1:xs'[i]? with
     | none=>rw[g1] at ez;cases ez
     | some x0=>
      cases g2:ys'[i]? with
      | none=>rw[g1,g2] at ez;cases ez
      | some y0=>
       rw[g1,g2] at ez;cases ez;obtain⟨v1,k1,t1⟩:=A1 n1 g1;obtain⟨v2,k2,t2⟩:=A1 n2 g2;refine⟨⟨ws1,ws2,v1,v2,q1,q2,k1,k2⟩,fun w H' ⟨T,x1,y1,ew,hT,eH,f1,f2⟩=>?_⟩;subst ew eH;have g3:=f1 ws1 q1;have g4:=f2 ws2 q2;rw[k1] at g3;cases g3;rw[k2] at g4;cases g4;have sm:=g9 hT (.tup [v1,v2]);refine⟨sm,?_⟩;rw[Den];exact⟨T,[v1,v2],rfl,.inl (.inl m9),i0 (J6 sm t1) (i0 (J6 sm t2) j3)⟩
    ·have k1:=c5 n1;have k2:=c5 n2;unfold zipD;rw[List.length_zipWith,xA,xA];walk_at "o"
 ·cases e⟩
end
section
variable {X:Cx}{b e o:Expr}{es:List Expr}{pos p:Pos}{f h:FX}{t u:FT}{fa:FA}
theorem a25:CallR X (.builtin "divmod") (fun xs H Q=>∃i j:Int,xs=[.int i,.int j]/\dOk j/\∀l,H l=none->Q (.ref l) (upd H l (.tup [.int (i/j),.int (i%j)]))):=by
 intro pins s σ H xs us Q I r h;obtain⟨i,j,rfl,hj,q⟩:=h;obtain⟨u,u',rfl,r1,r2⟩:=vals2 r;obtain⟨t,rfl⟩:=r1;obtain⟨t',rfl⟩:=r2;have e1:i.fdiv j=i/j:=Int.fdiv_eq_ediv_of_nonneg i (Int.le_of_lt hj.1);have e2:i.fmod j=i%j:=Int.fmod_eq_emod_of_nonneg i (Int.le_of_lt hj.1);refine divmod_int (Int.ne_of_gt hj.1) ?_ (.inl (PyProof.noPylong_of_log2 ?_))
 ·rw[e1,e2];have I2:Inv X pins σ (upd H s.heap.objs.size (.tup [.int (i/j),.int (i%j)])) {s with heap:=s.heap.push {cls:=.type "tuple",data:=.seq #[.int (i/j) s.toks,.int (i%j) (s.toks+1)]},toks:=s.toks+1+1}:=
   I.laid (fun b o e=>zD _ e) (zE _) (show ObjOk X.prog X.w _ _ _ (.tup [.int (i/j),.int (i%j)]) from⟨by rw[jI];show 2<=16777216;decide,[.int (i/j) s.toks,.int (i%j) (s.toks+1)],.cons ⟨_,rfl⟩ (.cons ⟨_,rfl⟩ .nil),TupN.new _ _⟩)
  exact⟨.ref s.heap.objs.size,_,I2,rfl,q _ (I.hok.fresh (zE _))⟩
 ·by_cases z:j.natAbs=0
  ·rw[z];decide
  ·exact zF ((Nat.log2_lt z).mpr (show j.natAbs<2^8000 from hj.2)) (by decide)
def gDivmod:List D->Option W
 | [.int i,.int j]=>if dOk j then some (.v (.tup [.int (i/j),.int (i%j)])) else none
 | _=>none
theorem a6y:PrA X gDivmod (fun xs H Q=>∃i j:Int,xs=[.int i,.int j]/\dOk j/\∀l,H l=none->Q (.ref l) (upd H l (.tup [.int (i/j),.int (i%j)]))):=fun A ds w vs H Q _ e l q=>by
 unfold gDivmod at e;split at e
 ·rename_i i j;split at e
  ·rename_i hj;cases e;obtain⟨v,v',rfl,h1,h2⟩:=denRL2 l;exact⟨i,j,by rw[h7 h1,h7 h2],hj,fun l hl=>q _ _ (g9 hl _) (F0 hl (J5 [i/j,i%j]))⟩
  ·cases e
 ·cases e
theorem q8 (hm:X.mg "divmod"=none)(ha:QA X (e::es) fa)(hv:bootBuiltins "divmod"=some (.builtin "divmod"):=by rfl)(hg:Gl X "divmod":=by rfl)
  (he:starEach (e::es) X.env=(false,eval e X.env)::starEach es X.env:=by rfl) (hpl:(backTo pos (starEach es X.env)).any (·.1)=false:=by rfl):QX X (.Call (.Name "divmod" p) (e::es) [] pos) (fCall gDivmod fa):=a00 a25 a6y hv hm ha hg (by decide) (by decide) he hpl
def fListR (fa:FA):FX:=fun ρ=>(fa ρ).bind fun p=>match p.1 with
 | [.v (.int n)]=>if 0<=n/\n<=1000 then some (.o (.lst (rngD 0 n.toNat)),p.2) else none
 | _=>none
def fCnt (f:FX) (fa:FA):FX:=fun ρ=>(f ρ).bind fun p=>(dr p.2 p.1.fz).bind fun d=>match d with
 | .tup _=>(fa p.2).bind fun q=>(dr q.2 p.1.fz).bind fun y=>match y,q.1 with
  | .tup xs,[.v (.int i)]=>(intsOf xs).map fun ns=>(.v (.int (ns.count i:Nat)),q.2)
  | _,_=>none
 | _=>none
def fDNew:FX:=fun ρ=>some (.o (.dK [] []),ρ)
def fDNewT:FX:=fun ρ=>some (.o (.dT [] []),ρ)
theorem a8R:QX X (.Dict [] [] pos) fDNewT:=⟨PE.weak a7e fun σ H Q h0=>tXe h0 fun P O L ρ w ρ' r e q=>by
 cases e
 exact fun p hp=>q _ H _ r (g9 hp _) ⟨p,rfl,hp,[],m9,rfl,j3⟩⟩
end
section
variable {f g:FX}{t:FT}{fa:FA}{ρ ρ1 ρ2:Ev}{w z:W}{ws:List W}{d e x y:D}{xs ys:List D}{i k:Nat}{m n:Int}{b:Bool}
theorem it_t:items (.tup xs)=some xs:=rfl
theorem it_l:items (.lst xs)=some xs:=rfl
def iz2:Option (List W×Ev)->Option (List D×Ev)
 | some p=>(takeAll p.2 p.1).bind fun q=>match q.1 with
  | [x,y]=>(items x).bind fun xs=>(items y).map fun ys=>(zipD xs ys,q.2)
  | _=>none
 | none=>none
def iz3:Option (List D×Ev)->Option (List D×Ev)
 | some q=>match q.1 with
  | [x,y]=>(items x).bind fun xs=>(items y).map fun ys=>(zipD xs ys,q.2)
  | _=>none
 | none=>none
def iz4 (ρ:Ev):Option (List D)->Option (List D)->Option (List D×Ev)
 | some xs,some ys=>some (zipD xs ys,ρ)
 | _,_=>none
theorem r_iz:fiZip fa ρ=iz2 (fa ρ):=by unfold fiZip iz2;cases fa ρ<;>rfl
theorem b02:iz2 (some (ws,ρ))=iz3 (takeAll ρ ws):=by unfold iz2 iz3;dsimp only;cases takeAll ρ ws<;>rfl
theorem b1c:iz3 (some ([x,y],ρ))=iz4 ρ (items x) (items y):=by unfold iz3 iz4;dsimp only;cases items x<;>cases items y<;>rfl
theorem b0l:iz4 ρ (some xs) (some ys)=some (zipD xs ys,ρ):=rfl
def ie2:Option (List W×Ev)->Option (List D×Ev)
 | some p=>(takeAll p.2 p.1).bind fun q=>match q.1 with
  | [x]=>(items x).map fun xs=>(enumD xs,q.2)
  | _=>none
 | none=>none
def ie3:Option (List D×Ev)->Option (List D×Ev)
 | some q=>match q.1 with
  | [x]=>(items x).map fun xs=>(enumD xs,q.2)
  | _=>none
 | none=>none
theorem r_ie:fiEnum fa ρ=ie2 (fa ρ):=by unfold fiEnum ie2;cases fa ρ<;>rfl
theorem r_ie2:ie2 (some (ws,ρ))=ie3 (takeAll ρ ws):=by unfold ie2 ie3;dsimp only;cases takeAll ρ ws<;>rfl
theorem r_ie3_t:ie3 (some ([.tup xs],ρ))=some (enumD xs,ρ):=rfl
theorem r_ie3_l:ie3 (some ([.lst xs],ρ))=some (enumD xs,ρ):=rfl
def jr1:Option (List W×Ev)->Option (List D×Ev)
 | some p=>match p.1 with
  | [.v (.int n)]=>if -(2^62)<=n/\n<2^62 then some (rngD 0 n.toNat,p.2) else none
  | _=>none
 | none=>none
def jr2:Option (List W×Ev)->Option (List D×Ev)
 | some p=>match p.1 with
  | [.v (.int m),.v (.int n)]=>if(-(2^62)<=m/\m<2^62)/\-(2^62)<=n/\n<2^62 then some (rngD m (n-m).toNat,p.2) else none
  | _=>none
 | none=>none
def lr2:Option (List W×Ev)->Option (W×Ev)
 | some p=>match p.1 with
  | [.v (.int n)]=>if 0<=n/\n<=1000 then some (.o (.lst (rngD 0 n.toNat)),p.2) else none
  | _=>none
 | none=>none
theorem r_r1:fiR1 fa ρ=jr1 (fa ρ):=by unfold fiR1 jr1;cases fa ρ<;>rfl
theorem a93:jr1 (some ([.v (.int n)],ρ))=if -(2^62)<=n/\n<2^62 then some (rngD 0 n.toNat,ρ) else none:=rfl
theorem r_r2:fiR2 fa ρ=jr2 (fa ρ):=by unfold fiR2 jr2;cases fa ρ<;>rfl
theorem b03:jr2 (some ([.v (.int m),.v (.int n)],ρ))=if(-(2^62)<=m/\m<2^62)/\-(2^62)<=n/\n<2^62 then some (rngD m (n-m).toNat,ρ) else none:=rfl
theorem r_lr:fListR fa ρ=lr2 (fa ρ):=by unfold fListR lr2;cases fa ρ<;>rfl
theorem r_lr2:lr2 (some ([.v (.int n)],ρ))=if 0<=n/\n<=1000 then some (.o (.lst (rngD 0 n.toNat)),ρ) else none:=rfl
theorem r_dm (h:dOk n):gDivmod [.int m,.int n]=some (.v (.tup [.int (m/n),.int (m%n)])):=by unfold gDivmod;exact if_pos h
def cn2 (fa:FA):Option (W×Ev)->Option (W×Ev)
 | some p=>(dr p.2 p.1.fz).bind fun d=>match d with
  | .tup _=>(fa p.2).bind fun q=>(dr q.2 p.1.fz).bind fun y=>match y,q.1 with
   | .tup xs,[.v (.int i)]=>(intsOf xs).map fun ns=>(.v (.int (ns.count i:Nat)),q.2)
   | _,_=>none
  | _=>none
 | none=>none
def cn3 (fa:FA) (w:W) (ρ:Ev):Option D->Option (W×Ev)
 | some (.tup _)=>(fa ρ).bind fun q=>(dr q.2 w.fz).bind fun y=>match y,q.1 with
   | .tup xs,[.v (.int i)]=>(intsOf xs).map fun ns=>(.v (.int (ns.count i:Nat)),q.2)
   | _,_=>none
 | _=>none
def cn4 (w:W):Option (List W×Ev)->Option (W×Ev)
 | some q=>(dr q.2 w.fz).bind fun y=>match y,q.1 with
   | .tup xs,[.v (.int i)]=>(intsOf xs).map fun ns=>(.v (.int (ns.count i:Nat)),q.2)
   | _,_=>none
 | _=>none
def cn5 (ws:List W) (ρ:Ev):Option D->Option (W×Ev)
 | some y=>match y,ws with
   | .tup xs,[.v (.int i)]=>(intsOf xs).map fun ns=>(.v (.int (ns.count i:Nat)),ρ)
   | _,_=>none
 | _=>none
theorem r_cn:fCnt f fa ρ=cn2 fa (f ρ):=by unfold fCnt cn2;cases f ρ<;>rfl
theorem r_cn2:cn2 fa (some (w,ρ))=cn3 fa w ρ (dr ρ w.fz):=by
 unfold cn2 cn3;dsimp only;cases dr ρ w.fz with
 | none=>rfl
 | some d=>cases d<;>rfl
theorem r_cn3:cn3 fa w ρ (some (.tup xs))=cn4 w (fa ρ):=by unfold cn3 cn4;cases fa ρ<;>rfl
theorem r_cn4:cn4 w (some (ws,ρ))=cn5 ws ρ (dr ρ w.fz):=by unfold cn4 cn5;dsimp only;cases dr ρ w.fz<;>rfl
theorem r_dnew:fDNew ρ=some (.o (.dK [] []),ρ):=rfl
def ch2 (o o':D->D->Option W) (g h:FX):Option (W×Ev)->Option (W×Ev)
 | some p=>fChain o o' (fun _=>some p) g h p.2
 | none=>none
def ch3 (o o':D->D->Option W) (w:W) (h:FX):Option (W×Ev)->Option (W×Ev)
 | some q=>(dr q.2 w.fz).bind fun x=>(dr q.2 q.1.fz).bind fun y=>(o x y).bind fun d=>match d with
  | .v (.bl k)=>if k=true then(h q.2).bind fun z=>(dr z.2 q.1.fz).bind fun y=>(dr z.2 z.1.fz).bind fun z'=>(o' y z').map fun w=>(w,z.2) else some (.v (.bl false),q.2)
  | _=>none
 | none=>none
def ch4 (o o':D->D->Option W) (h:FX) (w:W) (ρ:Ev):Option D->Option D->Option (W×Ev)
 | some x,some y=>(o x y).bind fun d=>match d with
  | .v (.bl k)=>if k=true then(h ρ).bind fun z=>(dr z.2 w.fz).bind fun y=>(dr z.2 z.1.fz).bind fun z'=>(o' y z').map fun w=>(w,z.2) else some (.v (.bl false),ρ)
  | _=>none
 | _,_=>none
def ch5 (o':D->D->Option W) (h:FX) (w:W) (ρ:Ev):Option W->Option (W×Ev)
 | some (.v (.bl k))=>if k=true then bin3 o' w (h ρ) else some (.v (.bl false),ρ)
 | _=>none
theorem r_ch {o o':D->D->Option W}{h:FX}:fChain o o' f g h ρ=ch2 o o' g h (f ρ):=by unfold ch2;cases e:f ρ with
 | none=>unfold fChain;rw[e];rfl
 | some p=>unfold fChain;rw[e]
theorem b0r {o o':D->D->Option W}{h:FX}:ch2 o o' g h (some (w,ρ))=ch3 o o' w h (g ρ):=by unfold ch2 ch3 fChain;dsimp only[bind_some];cases g ρ<;>rfl
theorem a92 {o o':D->D->Option W}{h:FX}:ch3 o o' w h (some (z,ρ))=ch4 o o' h z ρ (dr ρ w.fz) (dr ρ z.fz):=by
 unfold ch3 ch4;dsimp only;cases dr ρ w.fz<;>cases dr ρ z.fz<;>rfl
theorem b0U {o o':D->D->Option W}{h:FX}:ch4 o o' h w ρ (some x) (some y)=ch5 o' h w ρ (o x y):=by
 unfold ch4 ch5 bin3;dsimp only;cases o x y with
 | none=>rfl
 | some d=>
  dsimp only[bind_some];cases d with
  | v d=>cases d with
   | bl k=>cases h ρ<;>rfl
   | _=>rfl
  | _=>rfl
theorem a4S {o':D->D->Option W}{h:FX}:ch5 o' h w ρ (some (.v (.bl true)))=bin3 o' w (h ρ):=rfl
theorem r_ch5_f {o':D->D->Option W}{h:FX}:ch5 o' h w ρ (some (.v (.bl false)))=some (.v (.bl false),ρ):=rfl
def tc2 (k:Nat) (t:FT) (fe:FX):Option Ev->Option Ev
 | some ρ1=>(t ρ1).bind fun p=>if p.1=true then(fe p.2).bind (appTo k) else some p.2
 | none=>none
def tc3 (k:Nat) (fe:FX):Option (Bool×Ev)->Option Ev
 | some p=>if p.1=true then(fe p.2).bind (appTo k) else some p.2
 | none=>none
def tc4 (k:Nat):Option (W×Ev)->Option Ev
 | some p=>appTo k p
 | none=>none
def ap2 (k:Nat):Option (List D×Ev)->Option Ev
 | some q=>match q.1,ownAt q.2 k with
  | [d],some (.lst zs)=>if zs.length<lim then some (setOwn q.2 k (.lst (zs++[d]))) else none
  | _,_=>none
 | none=>none
def ap3 (k:Nat) (d:D) (ρ:Ev):Option D->Option Ev
 | some (.lst zs)=>if zs.length<lim then some (setOwn ρ k (.lst (zs++[d]))) else none
 | _=>none
theorem r_tc {gf:FG}{fe:FX}:turnC k gf t fe d ρ=tc2 k t fe (gf d ρ):=by unfold turnC tc2;cases gf d ρ<;>rfl
theorem r_tc2 {fe:FX}:tc2 k t fe (some ρ)=tc3 k fe (t ρ):=by unfold tc2 tc3;dsimp only;cases t ρ<;>rfl
theorem r_tc3_t {fe:FX}:tc3 k fe (some (true,ρ))=tc4 k (fe ρ):=by unfold tc3 tc4;simp only[jB];cases fe ρ<;>rfl
theorem r_tc3_f {fe:FX}:tc3 k fe (some (false,ρ))=some ρ:=rfl
theorem r_tc4:tc4 k (some (w,ρ))=ap2 k (takeAll ρ [w.fz]):=by
 unfold tc4 appTo ap2;dsimp only;cases takeAll ρ [w.fz]<;>rfl
theorem r_ap2:ap2 k (some ([d],ρ))=ap3 k d ρ (ownAt ρ k):=by
 unfold ap2 ap3;dsimp only;cases ownAt ρ k with
 | none=>rfl
 | some x=>cases x<;>rfl
theorem r_ap3:ap3 k d ρ (some (.lst xs))=if xs.length<lim then some (setOwn ρ k (.lst (xs++[d]))) else none:=rfl
theorem a2g {C:Prop}{b:D->FS}{r:Option R}(e:loopF b xs ρ=r)(I:List D->Ev->Prop)(h0:I [] ρ)(st:∀d x ρ,x∈xs->d.length<xs.length->I d ρ->∃ρ',b x ρ=some (.nx ρ')/\I (d++[x]) ρ')(c:∀ρ',r=some (.nx ρ')->I xs ρ'->C):C:=by
 have key:∀(ys done:List D) (ρ:Ev),(∀y∈ys,y∈xs)->done.length+ys.length=xs.length->I done ρ->∃ρ',loopF b ys ρ=some (.nx ρ')/\I (done++ys) ρ':=by
  intro ys
  induction ys with
  | nil=>intro done ρ _ _ h;exact⟨ρ,rfl,by rw[append_nil];exact h⟩
  | cons y ys ih=>
   intro done ρ hm hl h;rw[zZ] at hl;obtain⟨ρ1,e1,i1⟩:=st done y ρ (hm y zI) (by walk_at "o") h
   obtain⟨ρ2,e2,i2⟩:=ih (done++[y]) ρ1 (fun a ha=>hm a (zH _ ha)) (by rw[qE,jG];walk_at "o") i1
   exact⟨ρ2,by rw[loopF,e1];exact e2,by rw[List.append_assoc] at i2;exact i2⟩
 obtain⟨ρ',e',i⟩:=key xs [] ρ (fun _ h=>h) (by simp) h0
 exact c ρ' (e.symm.trans e') (by simpa using i)
theorem a3r (ns:List Int):lfL (ns.map D.int)=true:=by
 induction ns with
 | nil=>rfl
 | cons n ns ih=>rw[zJ,lfL,ih];rfl
theorem Y7 (m:Int)(n:Nat):(rngD m n).length=n:=by unfold rngD;simp
theorem a40 {m:Int}{n:Nat}(h:x∈rngD m n):∃i:Int,x= .int i/\m<=i/\i<m+n:=by
 unfold rngD at h;obtain⟨i,hi,rfl⟩:=qA.mp h;rw[mem_range] at hi;exact⟨_,rfl,by walk_at "o",by walk_at "o"⟩
theorem o8 (h:0<n)(h2:n.natAbs<2^64):dOk n:=⟨h,zF h2 (qU (by decide) (by decide))⟩
end
theorem a3t {o:Option D}:freeO (o.map W.v)=true:=by cases o<;>rfl
def isI:D->Bool
 | .int _=>true
 | .bl _=>true
 | _=>false
def isB:D->Bool
 | .bl _=>true
 | _=>false
def isT:D->Bool
 | .tup _=>true
 | _=>false
def isS:D->Bool
 | .str _=>true
 | _=>false
def whole:D->Bool
 | .int _=>true
 | _=>false
theorem b1s {d:D}(h:isX d=false):oIsi "int" d=some (.v (.bl (isI d))):=by cases d<;>first|rfl|cases h
theorem a85 {d:D}(h:isX d=false):oIsi "bool" d=some (.v (.bl (isB d))):=by cases d<;>first|rfl|cases h
theorem a1f {d:D}(h:isX d=false):oIsi "tuple" d=some (.v (.bl (isT d))):=by cases d<;>first|rfl|cases h
theorem a6S {d:D}(h:isX d=false):oIsi "str" d=some (.v (.bl (isS d))):=by cases d<;>first|rfl|cases h
def rise:List Int->Bool
 | a::b::r=>decide (a<b)&&rise (b::r)
 | _=>true
theorem sIx1 (n:Nat):HT.sIx n 0 (some 1)=min 1 n:=by
 unfold HT.sIx;simp
theorem a7g (xs:List D):cutD xs (some 1) none=xs.drop 1:=by
 unfold cutD;rw[sIx1];cases xs with
 | nil=>rfl
 | cons x xs=>
  rw[zZ,show min 1 (xs.length+1)=1 by walk_at "o"]
  simp[HT.sIx]
theorem a1F {r:List Bool->Bool}{xs:List D}{bs:List Bool}(h:boolsOf xs=some bs):gBools r (.lst xs)=some (.v (.bl (r bs))):=by unfold gBools;simp only[h,xP]
theorem a1v (f:D->Bool)(xs:List D):lfL (xs.map fun d=>D.bl (f d))=true:=by
 induction xs with
 | nil=>rfl
 | cons n ns ih=>rw[zJ,lfL,ih];rfl
theorem D0 (f:D->Bool)(xs:List D):boolsOf (xs.map fun d=>D.bl (f d))=some (xs.map f):=by
 have:(xs.map fun d=>D.bl (f d))=(xs.map f).map D.bl:=by rw[zV];rfl
 rw[this,a0r]
theorem F4 {α:Type}(f:α->Bool)(xs:List α):(xs.map f).all id=xs.all f:=by rw[List.all_map];rfl
theorem a7D {ns:List Int}{x:D}(h:x∈ns.map D.int):∃i∈ns,x= .int i:=by
 obtain⟨i,hi,rfl⟩:=qA.mp h;exact⟨i,hi,rfl⟩
theorem a9T (xs ys:List D):(zipD xs ys).length=min xs.length ys.length:=by unfold zipD;simp
theorem B6:∀{xs:List D},(∀x∈xs,lf x=true)->lfL xs=true
 | [],_=>rfl
 | x::xs,h=>by rw[lfL,h x zI,B6 fun y hy=>h y (zH _ hy)];rfl
section
variable {d:D}{ds:List D}{x0:D}{x1:D}{x2:D}{x3:D}{x4:D}{x5:D}{x6:D}{x7:D}{x8:D}{x9:D}{x10:D}{x11:D}{x12:D}
theorem a_3:atI (x0::x1::x2::d::ds) 3=some d:=u4 (j:=3) rfl
theorem a_4:atI (x0::x1::x2::x3::d::ds) 4=some d:=u4 (j:=4) rfl
theorem a_5:atI (x0::x1::x2::x3::x4::d::ds) 5=some d:=u4 (j:=5) rfl
theorem a_6:atI (x0::x1::x2::x3::x4::x5::d::ds) 6=some d:=u4 (j:=6) rfl
theorem a_7:atI (x0::x1::x2::x3::x4::x5::x6::d::ds) 7=some d:=u4 (j:=7) rfl
theorem a_8:atI (x0::x1::x2::x3::x4::x5::x6::x7::d::ds) 8=some d:=u4 (j:=8) rfl
theorem a_9:atI (x0::x1::x2::x3::x4::x5::x6::x7::x8::d::ds) 9=some d:=u4 (j:=9) rfl
theorem a_10:atI (x0::x1::x2::x3::x4::x5::x6::x7::x8::x9::d::ds) 10=some d:=u4 (j:=10) rfl
theorem a_11:atI (x0::x1::x2::x3::x4::x5::x6::x7::x8::x9::x10::d::ds) 11=some d:=u4 (j:=11) rfl
theorem a_12:atI (x0::x1::x2::x3::x4::x5::x6::x7::x8::x9::x10::x11::d::ds) 12=some d:=u4 (j:=12) rfl
theorem a_13:atI (x0::x1::x2::x3::x4::x5::x6::x7::x8::x9::x10::x11::x12::d::ds) 13=some d:=u4 (j:=13) rfl
theorem ix_0 {n:Nat}:ixN (n+1) 0=some 0:=by unfold ixN;rw[if_pos (Int.le_refl _),if_pos (by walk_at "o")];rfl
end
def dkey:D->Option Key
 | .int i=>some (Sum.inl i)
 | .str x=>some (Sum.inr x)
 | _=>none
def dkeys:List D->Option (List Key)
 | []=>some []
 | d::ds=>(dkey d).bind fun k=>(dkeys ds).map fun ks=>k::ks
def tkey:D->Option (List Key)
 | .tup ds=>dkeys ds
 | _=>none
def look {κ:Type} [DecidableEq κ]:List κ->List D->κ->Option D
 | k'::ks,x::xs,k=>if k'=k then some x else look ks xs k
 | _,_,_=>none
def putKs {κ:Type} [DecidableEq κ] (ks:List κ) (k:κ):List κ:=if k∈ks then ks else ks++[k]
def putX {κ α:Type} [DecidableEq κ] (ks:List κ) (xs:List α) (k:κ) (d:α):List α:=if k∈ks then List.zipWith (fun k' x=>if k'=k then d else x) ks xs else xs++[d]
theorem a3L {K:PySem.W.Frag}{A:Av}{H:Hp}{d:D}{k:Key}{v:V}(e:dkey d=some k)(h:DenR K A H d v):v=kV k:=by
 cases d with
 | int i=>cases e;exact h7 h
 | str x=>cases e;exact q9 h
 | _=>cases e
theorem Z4 {K:PySem.W.Frag}{A:Av}{H:Hp}:∀{ds:List D} {ks:List Key} {vs:List V},dkeys ds=some ks->DenL K A H ds vs->vs=ks.map kV
 | [],ks,vs,e,l=>by cases e;rw[DenL] at l;rw[l];rfl
 | d::ds,ks,vs,e,l=>by
  rw[DenL] at l;obtain⟨v,r,rfl,h,l⟩:=l;rw[dkeys] at e;cases e1:dkey d with
  | none=>rw[e1] at e;cases e
  | some k=>
   cases e2:dkeys ds with
   | none=>rw[e1,e2] at e;cases e
   | some js=>
    rw[e1,e2] at e;cases e;rw[zJ,<-a3L e1 (G3 h),<-Z4 e2 l]
theorem a8g {K:PySem.W.Frag}{A:Av}{H:Hp}{d:D}{k:List Key}{v:V}(e:tkey d=some k)(h:DenR K A H d v):∃b,v= .ref b/\SqT K H b (k.map kV):=by
 cases d with
 | tup ds=>
  obtain⟨b,vs,ev,hq,l⟩:=B8 h;rw[Z4 e l] at hq;exact⟨b,ev,hq⟩
 | _=>cases e
theorem a1P {κ:Type} [DecidableEq κ] {K:PySem.W.Frag}{A:Av}{H:Hp}:∀{ks:List κ} {xs:List D} {vs:List V} {k:κ} {x:D},DenL K A H xs vs->look ks xs k=some x->∃v,valV (ks.zip vs) k=some v/\Den K A H x v
 | [],_,_,_,_,_,e=>by simp[look] at e
 | _::_,[],_,_,_,_,e=>by simp[look] at e
 | k'::ks,x0::xs,vs,k,x,l,e=>by
  rw[DenL] at l;obtain⟨v,r,rfl,h,l⟩:=l;simp only[look] at e;rw[jF];split at e
  ·rename_i q;cases e;exact⟨v,X1 (by simpa using q),h⟩
  ·rename_i q;rw[P9 (by simpa using q)]
   exact a1P l e
theorem a0a {κ:Type} [DecidableEq κ] {K:PySem.W.Frag}{A:Av}{H:Hp}:∀{ks:List κ} {xs:List D} {vs:List V} {k:κ},DenL K A H xs vs->ks.length=xs.length->look ks xs k=none->valV (ks.zip vs) k=none
 | [],_,_,_,_,_,_=>by simp[valV]
 | _::_,[],_,_,_,hl,_=>by simp at hl
 | k'::ks,x0::xs,vs,k,l,hl,e=>by
  rw[DenL] at l;obtain⟨v,r,rfl,h,l⟩:=l;simp only[look] at e;rw[jF];split at e
  ·cases e
  ·rename_i q;rw[P9 (by simpa using q)]
   exact a0a l (by simpa using hl) e
theorem a5y {κ:Type} [DecidableEq κ]:∀{ks:List κ} {vs:List V} {k:κ},ks.length=vs.length->((ks.zip vs).any fun kv=>decide (kv.1=k))=decide (k∈ks)
 | [],_,_,_=>by simp
 | _::_,[],_,hl=>by simp at hl
 | k'::ks,v::vs,k,hl=>by
  rw[jF,any_cons,a5y (by simpa using hl)]
  by_cases q:k'=k
  ·simp[q]
  ·have q2:¬k=k':=fun z=>q z.symm;simp[q,q2]
theorem a86 {κ:Type} [DecidableEq κ] {ks:List κ}{vs:List V}{k:κ}{v:V}(hl:ks.length=vs.length):putK (ks.zip vs) k v=(putKs ks k).zip (putX ks vs k v):=by
 unfold putK putKs putX;rw[a5y hl]
 by_cases q:k∈ks
 ·rw[if_pos (by simpa using q),if_pos q,if_pos q]
  clear q
  induction ks generalizing vs with
  | nil=>simp
  | cons k' ks ih=>
   cases vs with
   | nil=>simp at hl
   | cons w vs=>
    have ih':=ih (vs:=vs) (by simpa using hl)
    rw[jF,zJ,xV,jF,ih']
    by_cases q:k'=k
    ·simp[q]
    ·simp[q]
 ·rw[if_neg (by simpa using q),if_neg q,if_neg q,List.zip_append hl]
  rfl
theorem a3n {κ α:Type} [DecidableEq κ] {ks:List κ}{xs:List α}{k:κ}{d:α}(hl:ks.length=xs.length):(putKs ks k).length=(putX ks xs k d).length:=by
 unfold putKs putX
 split
 ·rw[List.length_zipWith,hl];simp
 ·simp[hl]
theorem a7Y {κ:Type} [DecidableEq κ] {K:PySem.W.Frag}{A:Av}{H:Hp}{ks:List κ}{xs:List D}{vs:List V}{k:κ}{d:D}{v:V}(l:DenL K A H xs vs)(h:Den K A H d v):DenL K A H (putX ks xs k d) (putX ks vs k v):=by
 unfold putX
 split
 ·rename_i q;clear q
  induction ks generalizing xs vs with
  | nil=>simp;exact j3
  | cons k' ks ih=>
   cases xs with
   | nil=>rw[DenL] at l;subst l;simp;exact j3
   | cons x xs=>
    rw[DenL] at l;obtain⟨u,r,rfl,hx,l⟩:=l;rw[xV,xV];refine i0 ?_ (ih l)
    split
    ·exact h
    ·exact hx
 ·exact t7 l (i0 h j3)
section
variable {X:Cx}{a b e o:Expr}{pos p:Pos}{f g h:FX}{u:FT}{fa:FA}{x:Str}
theorem a9b {pins:List (Addr×PySem.Obj)}{σ:L2.St}{H:Hp}{s:Shared}{b:Addr}{ks:List Key}(I:Inv X pins σ H s)(q:SqT X.K H b (ks.map kV)):(tupleKind (mixKind X.prog X.w)).is s.heap ks b:=by
 obtain⟨its,r,⟨o,h1,h2,n,h3⟩,_⟩:=I.tuple q;exact⟨o,its.toArray,n,h1,h2,h3,by simpa using a0k r⟩
def DGe (K:PySem.W.Frag) (H:Hp) (a:Addr) (y:V) (r:Option V):Prop:=
 (∃kvs k,H a=some (.dK kvs)/\y=kV k/\r=valV kvs k)\/∃kvs k b,H a=some (.dT kvs)/\y= .ref b/\SqT K H b (k.map kV)/\r=valV kvs k
def lookG (x y:D):Option (Option D):=match x with
 | .dT ks xs=>(tkey y).map fun k=>look ks xs k
 | .dK ks xs=>(dkey y).map fun k=>look ks xs k
 | _=>none
def LkOk (K:PySem.W.Frag) (A:Av) (H:Hp):Option D->Option V->Prop
 | some d,w=>∃z,w=some z/\Den K A H d z
 | none,w=>w=none
theorem a54 {A:Av}{H:Hp}{x y:D}{r:Option D}{v u:V}(e:lookG x y=some r)(hx:DenR X.K A H x v)(hy:DenR X.K A H y u):∃a w,v= .ref a/\DGe X.K H a u w/\LkOk X.K A H r w:=by
 cases x with
 | dT ks xs=>
  simp only[lookG] at e;cases e1:tkey y with
  | none=>rw[e1] at e;cases e
  | some k=>
   rw[e1] at e;obtain⟨b,rfl,hb⟩:=a8g e1 hy;obtain⟨a,vs,rfl,ha,hl,l⟩:=hx;refine⟨a,_,rfl,.inr ⟨_,k,b,ha,rfl,hb,rfl⟩,?_⟩;cases(show look ks xs k=r from qQ e);cases e2:look ks xs k with
   | none=>exact a0a l hl e2
   | some d=>exact a1P l e2
 | dK ks xs=>
  simp only[lookG] at e;cases e1:dkey y with
  | none=>rw[e1] at e;cases e
  | some k=>
   rw[e1] at e;obtain⟨a,vs,rfl,ha,hl,l⟩:=hx;refine⟨a,_,rfl,.inl ⟨_,k,ha,a3L e1 hy,rfl⟩,?_⟩;cases(show look ks xs k=r from qQ e);cases e2:look ks xs k with
   | none=>exact a0a l hl e2
   | some d=>exact a1P l e2
 | _=>cases e
def rIxD (K:PySem.W.Frag):R2:=fun x y H Q=>∃a v,x= .ref a/\DGe K H a y (some v)/\Q v H
theorem a9D {k:Nat}(hr:Room k X.A):IxR X (rIxD X.K):=by
 intro value slice pins s σ H x y v u Q I rx ry h hs;obtain⟨a,z,rfl,hg,q⟩:=h;cases rx;rcases hg with ⟨kvs,k,ha,rfl,hv⟩|⟨kvs,k,b,ha,rfl,hq,hv⟩
 ·obtain⟨_,hd,vs,rel,dd⟩:=dk_of I.hok ha;obtain⟨w',hw,rw'⟩:=RelO.some_of (v:=z) (o:=valueAt vs k) (by rw[hv];exact rel.val k)
  refine xR (x:=w') dd.typeIs PySem.F.slot_dict_getitem.lookup ?_ hs;exact wpAny_getItem_of (a6F ry) dd.mapOf hw ⟨rfl,z,H,I.tok _,rw',q⟩
 ·cases(show u=Value.ref b from ry);obtain⟨_,hd,xs,rel,dd⟩:=dt_of I.hok ha;obtain⟨w',hw,rw'⟩:=RelO.some_of (v:=z) (o:=(atKey xs k).map (·.2)) (by rw[hv];exact rel.val k)
  obtain⟨p,hp,hp2⟩:=Option.map_eq_some_iff.mp hw;refine xR (x:=w') dd.typeIs PySem.F.slot_dict_getitem.lookup ?_ hs;refine wpAny_getItem_heap (tupleKind_room_in1 (b0t hr)) (a9b I hq) dd hp ?_;rw[hp2];exact⟨rfl,z,H,I.tok _,rw',q⟩
def isDi:D->Bool
 | .dT _ _=>true
 | .dK _ _=>true
 | _=>false
def oIxG (x y:D):Option W:=if isDi x=true then(lookG x y).bind fun r=>r.map .v else oIx x y
theorem t5 {k:Nat}(hr:Room k X.A)(ha:QX X a f)(hb:QX X b g)(hs:PlainIx b:=by intro _ _;rfl):QX X (.Subscript a b pos) (fBin oIxG f g):=⟨PE.weak (b0C (a8c.or (a9D hr)) ha.to hb.to hs) (V0 (by
 intro A x y w v u H Q hA e hx hy q;unfold oIxG at e;split at e
 ·obtain⟨r,e1,e⟩:=obs e;obtain⟨a,w',rfl,hg,hm⟩:=a54 e1 hx hy;cases r with
  | none=>cases e
  | some d=>
   cases e;obtain⟨z,rfl,dz⟩:=hm;exact .inr ⟨a,z,rfl,hg,q z H (Same.refl H) dz⟩
 ·exact .inl (k_ix A x y w v u H Q hA e hx hy q)))⟩
def tupI (k:List Int):D:=.tup (k.map D.int)
def tupsOf:List D->Option (List (List Int))
 | []=>some []
 | .tup ds::xs=>(intsOf ds).bind fun k=>(tupsOf xs).map fun ks=>k::ks
 | _=>none
theorem a1I:∀ks:List (List Int),tupsOf (ks.map tupI)=some ks
 | []=>rfl
 | k::ks=>by rw[zJ,show tupI k= .tup (k.map D.int) from rfl,tupsOf,A4,a1I ks];rfl
def nb (neg k:Bool):W:=.v (.bl (if neg then !k else k))
def fGet (f:FX) (fa:FA):FX:=fun ρ=>(f ρ).bind fun p=>(dr p.2 p.1.fz).bind fun d=>if isDi d=true then(fa p.2).bind fun q=>(takeAll q.2 q.1).bind fun z=>(dr z.2 p.1.fz).bind fun x=>match z.1 with
  | [y,e]=>(lookG x y).map fun r=>(.v (r.getD e),z.2)
  | _=>none
 else none
end
open PySem PySem.W PyProof.Rows
def TWp {α:Type} (n:Nat) (lt:Nat->Nat->Bool):KasT α->(α->Prop)->Prop
 | .ret a,Q=>Q a
 | .ask i j k,Q=>i<n/\j<n/\TWp n lt (k (lt i j)) Q
theorem J8 {α β:Type}{n:Nat}{lt:Nat->Nat->Bool}{g:α->KasT β}{Q:β->Prop}:∀(t:KasT α),TWp n lt t (fun a=>TWp n lt (g a) Q)->TWp n lt (t.bind g) Q
 | .ret _,h=>h
 | .ask i j k,⟨h1,h2,h⟩=>⟨h1,h2,J8 (k (lt i j)) h⟩
theorem a5v {α:Type}{n:Nat}{lt:Nat->Nat->Bool}{cmp:Nat->Nat->(Bool->Shared->Prop)->Shared->Prop}{s:Shared}{Q:α->Shared->Prop}
  (hc:∀i j (C:Bool->Shared->Prop),i<n->j<n->C (lt i j) s->cmp i j C s):∀(t:KasT α),TWp n lt t (fun a=>Q a s)->t.kasWp cmp Q s
 | .ret a,h=>h
 | .ask i j k,⟨h1,h2,h⟩=>hc i j _ h1 h2 (a5v hc (k (lt i j)) h)
section
variable {O:KeyOrd}{f:Nat->O.α}{n:Nat}
def Ky (f:Nat->O.α) (p:Array Nat) (i:Nat):O.α:=f (p.getD i 0)
def SoTo (f:Nat->O.α) (p:Array Nat) (k:Nat):Prop:=∀i j,i<=j->j<k->O.kle (Ky f p i) (Ky f p j)
def NoIn (f:Nat->O.α) (p:Array Nat) (k:Nat):Prop:=∀i j,i<=j->j<k->O.kle (Ky f p j) (Ky f p i)
structure PB (n:Nat) (p:Array Nat):Prop where
 perm:p.Perm (List.toArray (List.range n))
 pos:0<n
theorem PB.size {p:Array Nat}(h:PB n p):p.size=n:=by rw[h.perm.size_eq];simp
theorem PB.lt {p:Array Nat}(h:PB n p)(i:Nat):p.getD i 0<n:=by
 by_cases q:i<p.size
 ·have e:p.getD i 0=p[i]:=by simp[Array.getD,q]
  rw[e];have m:p[i]∈p.toList:=by simp
  have:=(Array.perm_iff_toList_perm.mp h.perm).mem_iff.mp m
  simpa using this
 ·have e:p.getD i 0=0:=by simp[Array.getD,q]
  rw[e];exact h.pos
theorem O0 {p q:Array Nat}{i j:Nat}(h:p[i]? =q[j]?):Ky f p i=Ky f q j:=by
 unfold Ky;congr 1;rw[Array.getD_eq_getD_getElem?,Array.getD_eq_getD_getElem?,h]
theorem a2d {xs:Array Nat}{src d:Nat}(hs:src<xs.size)(hd:d<=src)(k:Nat):
  Ky f (bubble xs src d) k=if k=src-d then Ky f xs src else if src-d<k/\k<=src then Ky f xs (k-1) else Ky f xs k:=by
 have e:=getElem?_bubble hs d hd k
 by_cases h1:k=src-d
 ·rw[if_pos h1] at e ⊢;exact O0 e
 ·rw[if_neg h1] at e ⊢
  by_cases h2:src-d<k/\k<=src
  ·rw[if_pos h2] at e ⊢;exact O0 e
  ·rw[if_neg h2] at e ⊢;exact O0 e
theorem a0j {xs:Array Nat}{i j:Nat}(hj:j<=xs.size)(k:Nat):
  Ky f (kas_rev xs i j) k=if i<=k/\k<j then Ky f xs (i+j-1-k) else Ky f xs k:=by
 have e:=getElem?_mirror_all (i:=i) hj k;unfold kas_rev
 by_cases h1:i<=k/\k<j
 ·rw[if_pos h1] at e ⊢;exact O0 e
 ·rw[if_neg h1] at e ⊢;exact O0 e
theorem v4 {xs:Array Nat}{i j:Nat}(hj:j<=xs.size)(heq:∀k,i<=k->k<j->Ky f xs k=Ky f xs (j-1))(k:Nat):Ky f (kas_rev xs i j) k=Ky f xs k:=by
 rw[a0j hj]
 split
 ·rw[heq _ (by omega) (by omega),heq k (by omega) (by omega)]
 ·rfl
theorem PB.rev {p:Array Nat}(h:PB n p)(i j:Nat):PB n (kas_rev p i j):=⟨(mirror_perm _ _ _ _).trans h.perm,h.pos⟩
theorem PB.bub {p:Array Nat}(h:PB n p)(i j:Nat):PB n (bubble p i j):=⟨(bubble_perm _ _ _).trans h.perm,h.pos⟩
abbrev ltK (f:Nat->O.α):Nat->Nat->Bool:=fun i j=>O.blt (f i) (f j)
theorem a3e {p:Array Nat}(hB:PB n p){Q:Nat->Prop}:∀(c a:Nat),1<=a->SoTo f p a->(∀m,a<=m->m<=a+c->SoTo f p m->(m=a+c\/O.klt (Ky f p m) (Ky f p (m-1)))->Q m)->TWp n (ltK f) (kas_asc p c a) Q
 | 0,a,_,hs,h=>h a (zE _) (zE _) hs (.inl rfl)
 | c+1,a,h1,hs,h=>by
  refine⟨hB.lt _,hB.lt _,?_⟩;cases hless:O.blt (Ky f p a) (Ky f p (a-1))
  case true=>
   rw[show ltK f (p.getD a 0) (p.getD (a-1) 0)=true from hless];dsimp only;rw[if_pos rfl];exact h a (zE _) (by walk_at "o") hs (.inr hless)
  case false=>
   rw[show ltK f (p.getD a 0) (p.getD (a-1) 0)=false from hless];dsimp only;rw[if_neg (by simp)]
   refine a3e hB c (a+1) (by walk_at "o") (fun i j hij hj=>?_) fun m x1 x2 x3 x4=>h m (by walk_at "o") (by walk_at "o") x3 (x4.imp (fun q=>by walk_at "o") id)
   by_cases hjx:j<a
   ·exact hs i j hij hjx
   ·have hj':j=a:=by walk_at "o"
    subst hj'
    by_cases hi':i=j
    ·subst hi';exact jM _
    ·exact KeyOrd.kle_trans (hs i (j-1) (by walk_at "o") (by walk_at "o")) hless
theorem a2e {p:Array Nat}(hB:PB n p){Q:Nat×Array Nat->Prop}{a m:Nat}(h1:1<=a)(ha:a<=m)(hm:m<=n)(hs:NoIn f p a)(h:∀k q,PB n q->1<=k->k<=m->SoTo f q k->Q (k,q)):TWp n (ltK f) (kas_tail3 a m p) Q:=by
 have hsz:a<=p.size:=by rw[hB.size];walk_at "o"
 refine J8 _ (a3e (hB.rev 0 a) (m-a) a h1 (fun i j hij hj=>?_) fun k x1 x2 x3 _=>h k _ (hB.rev 0 a) (by walk_at "o") (by walk_at "o") x3)
 rw[a0j hsz,a0j hsz,if_pos (by walk_at "o"),if_pos (by walk_at "o")]
 exact hs _ _ (by walk_at "o") (by walk_at "o")
theorem X8 {Q:Array Nat×Nat×Nat->Prop}{m:Nat}(hm:m<=n):∀(c:Nat) (p:Array Nat) (a q:Nat),a+c=m->PB n p->1<=a->NoIn f p a->q+1<=a->(∀i,a-(q+1)<=i->i<a->Ky f p i=Ky f p (a-1))->
  (∀k r p',PB n p'->a<=k->k<=m->NoIn f p' k->r+1<=k->(∀i,k-(r+1)<=i->i<k->Ky f p' i=Ky f p' (k-1))->Q (p',k,r))->TWp n (ltK f) (kas_desc c p a q) Q
 | 0,p,a,q,hc,hB,h1,hs,hq,he,h=>h a q p hB (zE _) (by walk_at "o") hs hq he
 | c+1,p,a,q,hc,hB,h1,hs,hq,he,h=>by
  have hsz:a<=p.size:=by rw[hB.size];walk_at "o"
  refine⟨hB.lt _,hB.lt _,?_⟩;cases hless:O.blt (Ky f p a) (Ky f p (a-1))
  case true=>
   rw[show ltK f (p.getD a 0) (p.getD (a-1) 0)=true from hless];dsimp only;rw[if_pos rfl];have step1:∀xs:Array Nat,(∀k,Ky f xs k=Ky f p k)->NoIn f xs (a+1):=by
    intro xs hk i j hij hj;rw[hk,hk]
    by_cases hjx:j<a
    ·exact hs i j hij hjx
    ·have hj':j=a:=by walk_at "o"
     subst hj'
     by_cases hi':i=j
     ·subst hi';exact jM _
     ·exact KeyOrd.kle_trans (KeyOrd.kle_of_klt hless) (hs i (j-1) (by walk_at "o") (by walk_at "o"))
   by_cases hneq:q>0
   ·rw[if_pos hneq];exact X8 hm c _ (a+1) 0 (by walk_at "o") (hB.rev _ _) (by walk_at "o") (step1 _ (v4 hsz he)) (by walk_at "o") (fun i h1 h2=>by congr 1;walk_at "o") fun k r p' x1 x2=>h k r p' x1 (by walk_at "o")
   ·rw[if_neg hneq];exact X8 hm c _ (a+1) 0 (by walk_at "o") hB (by walk_at "o") (step1 _ (fun _=>rfl)) (by walk_at "o") (fun i h1 h2=>by congr 1;walk_at "o") fun k r p' x1 x2=>h k r p' x1 (by walk_at "o")
  case false=>
   rw[show ltK f (p.getD a 0) (p.getD (a-1) 0)=false from hless];dsimp only;rw[if_neg (by simp)]
   refine⟨hB.lt _,hB.lt _,?_⟩;cases hlarger:O.blt (Ky f p (a-1)) (Ky f p a)
   case true=>
    rw[show ltK f (p.getD (a-1) 0) (p.getD a 0)=true from hlarger];dsimp only;rw[if_pos rfl];exact h a q p hB (zE _) (by walk_at "o") hs hq he
   case false=>
    rw[show ltK f (p.getD (a-1) 0) (p.getD a 0)=false from hlarger];dsimp only;rw[if_neg (by simp)]
    have heqx:Ky f p a=Ky f p (a-1):=KeyOrd.kle_antisymm hlarger hless;refine X8 hm c p (a+1) (q+1) (by walk_at "o") hB (by walk_at "o") (fun i j hij hj=>?_) (by walk_at "o") (fun i h1 h2=>?_) fun k r p' x1 x2=>h k r p' x1 (by walk_at "o")
    ·by_cases hjx:j<a
     ·exact hs i j hij hjx
     ·have hj':j=a:=by walk_at "o"
      subst hj'
      by_cases hi':i=j
      ·subst hi';exact jM _
      ·rw[heqx];exact hs i (j-1) (by walk_at "o") (by walk_at "o")
    ·rw[show a+1-1=a by walk_at "o"]
     by_cases hix:i=a
     ·subst hix;rfl
     ·rw[heqx];exact he i (by walk_at "o") (by walk_at "o")
theorem V9 {p:Array Nat}(hB:PB n p){Q:Nat×Array Nat->Prop}{a m:Nat}(ha:a+1<=m)(hm:m<=n)(hs:NoIn f p (a+1))(h:∀k q,PB n q->1<=k->k<=m->SoTo f q k->Q (k,q)):TWp n (ltK f) (kas_descPart a m p) Q:=by
 refine J8 _ (X8 hm (m-(a+1)) p (a+1) 0 (by walk_at "o") hB (by walk_at "o") hs (by walk_at "o") (fun i h1 h2=>by congr 1;walk_at "o") fun k r p' hB' x2 x3 hs' x5 he=>?_)
 have hsz:k<=p'.size:=by rw[hB'.size];walk_at "o"
 dsimp only
 by_cases hneq:r>0
 ·rw[if_pos hneq];refine a2e (hB'.rev _ _) (by walk_at "o") x3 hm (fun i j hij hj=>?_) h
  rw[v4 hsz he,v4 hsz he];exact hs' i j hij hj
 ·rw[if_neg hneq];exact a2e hB' (by walk_at "o") x3 hm hs' h
theorem a50 {p:Array Nat}(hB:PB n p){Q:Nat×Array Nat->Prop}{m:Nat}(h1:1<=m)(hm:m<=n)(h:∀k q,PB n q->1<=k->k<=m->SoTo f q k->Q (k,q)):TWp n (ltK f) (kas_count m p) Q:=by
 refine J8 _ (a3e hB (m-1) 1 (zE 1) (fun i j hij hj=>by have:i=j:=(by walk_at "o");subst this;exact jM _) fun a ha1 ha2 hsn hor=>?_)
 by_cases hnn:a=m
 ·rw[if_pos (by simpa using hnn)]
  exact h a p hB ha1 (by walk_at "o") hsn
 ·rw[if_neg (by simpa using hnn)]
  have hlt:O.klt (Ky f p a) (Ky f p (a-1)):=hor.resolve_left (by walk_at "o")
  by_cases hgt:a>1
  ·rw[if_pos hgt];refine⟨hB.lt _,hB.lt _,?_⟩;cases hrose:O.blt (Ky f p 0) (Ky f p (a-1))
   case true=>
    rw[show ltK f (p.getD 0 0) (p.getD (a-1) 0)=true from hrose];dsimp only;rw[if_pos rfl];exact h a p hB ha1 (by walk_at "o") hsn
   case false=>
    rw[show ltK f (p.getD 0 0) (p.getD (a-1) 0)=false from hrose];dsimp only;rw[if_neg (by simp)]
    have hsz:a<=p.size:=by rw[hB.size];walk_at "o"
    have hall:∀k,0<=k->k<a->Ky f p k=Ky f p (a-1):=by
     intro k _ hk;have a1:=hsn 0 k (by walk_at "o") hk
     have a2:=hsn k (a-1) (by walk_at "o") (by walk_at "o")
     exact KeyOrd.kle_antisymm a2 (KeyOrd.kle_trans hrose a1)
    refine V9 (hB.rev _ _) (by walk_at "o") hm (fun i j hij hj=>?_) h
    rw[v4 hsz hall,v4 hsz hall]
    by_cases hjn:j<a
    ·rw[hall i (by walk_at "o") (by walk_at "o"),hall j (by walk_at "o") hjn];exact jM _
    ·have hj':j=a:=by walk_at "o"
     subst hj'
     by_cases hi':i=j
     ·subst hi';exact jM _
     ·rw[hall i (by walk_at "o") (by walk_at "o")];exact KeyOrd.kle_of_klt hlt
  ·rw[if_neg hgt];have hn1':a=1:=by walk_at "o"
   subst hn1';refine V9 hB (by walk_at "o") hm (fun i j hij hj=>?_) h
   by_cases hi':i=j
   ·subst hi';exact jM _
   ·have hi0:i=0:=by walk_at "o"
    have hj1:j=1:=by walk_at "o"
    subst hi0;subst hj1;exact KeyOrd.kle_of_klt hlt
theorem Z1 {p:Array Nat}(hB:PB n p){Q:Nat->Prop}{k:Nat}(hk:k<n)(hs:SoTo f p k)
  (h:∀l,l<=k->(∀i,i<l->O.kle (Ky f p i) (Ky f p k))->(∀i,l<=i->i<k->O.klt (Ky f p k) (Ky f p i))->Q l):
  ∀(c l r:Nat),l<=r->r<=k->r-l<=c->(∀i,i<l->O.kle (Ky f p i) (Ky f p k))->(∀i,r<=i->i<k->O.klt (Ky f p k) (Ky f p i))->TWp n (ltK f) (kas_place p k c l r) Q
 | 0,l,r,hlr,hrk,hc,hlo,hhi=>h l (by omega) hlo (fun i h1 h2=>hhi i (by omega) h2)
 | c+1,l,r,hlr,hrk,hc,hlo,hhi=>by
  unfold kas_place
  by_cases hge:l≥r
  ·rw[if_pos hge]
   have:l=r:=by omega
   subst this;exact h l hrk hlo hhi
  ·rw[if_neg hge];refine⟨hB.lt _,hB.lt _,?_⟩;cases hless:O.blt (Ky f p k) (Ky f p ((l+r)/2))
   case true=>
    rw[show ltK f (p.getD k 0) (p.getD ((l+r)/2) 0)=true from hless];dsimp only;rw[if_pos rfl];exact Z1 hB hk hs h c l ((l+r)/2) (by omega) (by omega) (by omega) hlo fun i h1 h2=>KeyOrd.klt_of_klt_of_kle hless (hs _ _ h1 h2)
   case false=>
    rw[show ltK f (p.getD k 0) (p.getD ((l+r)/2) 0)=false from hless];dsimp only;rw[if_neg (by simp)]
    exact Z1 hB hk hs h c ((l+r)/2+1) r (by omega) (by omega) (by omega) (fun i h1=>KeyOrd.kle_trans (hs i ((l+r)/2) (by omega) (by omega)) (show O.kle _ _ from hless)) hhi
theorem a4T {Q:Array Nat->Prop}(h:∀p,PB n p->SoTo f p n->Q p):∀(c k:Nat) (p:Array Nat),c+k=n->PB n p->SoTo f p k->TWp n (ltK f) (kas_bin c p k) Q
 | 0,k,p,hc,hB,hs=>h p hB (by rw[<-hc];rw[Nat.zero_add];exact hs)
 | c+1,k,p,hc,hB,hs=>by
  refine J8 _ (Z1 hB (by walk_at "o") hs (fun l hlk hlo hhi=>?_) k 0 k (by walk_at "o") (by walk_at "o") (by walk_at "o") (fun i hi=>by walk_at "o") fun i h1 h2=>by walk_at "o")
  refine a4T h c (k+1) _ (by walk_at "o") (hB.bub _ _) fun i j hij hj=>?_
  have hks:k<p.size:=by rw[hB.size];walk_at "o"
  rw[a2d hks (by walk_at "o"),a2d hks (by walk_at "o"),show k-(k-l)=l by walk_at "o"]
  repeat' split
  all_goals first
   | (exfalso;walk_at "o")
   | exact jM _
   | exact hlo _ (by walk_at "o")
   | exact KeyOrd.kle_of_klt (hhi _ (by walk_at "o") (by walk_at "o"))
   | exact hs _ _ (by walk_at "o") (by walk_at "o")
theorem a7v {Q:Array Nat->Prop}(hn:1<=n)(h:∀p,PB n p->SoTo f p n->Q p):TWp n (ltK f) (kas_sort n) Q:=by
 refine J8 _ (a50 ⟨Array.Perm.refl _,hn⟩ hn (zE _) fun k q hB x1 x2 hs=>?_);dsimp only
 split
 ·rw[show max k 1=k by walk_at "o"]
  exact a4T h (n-k) k q (by walk_at "o") hB hs
 ·exact h q hB (by rw[show n=k by walk_at "o"];exact hs)
end
def DRaw (h:Heap) (d:Addr) (es:Array DictEntry) (ep:Nat):Prop:=∃o,h.get? d=some o/\o.ExactDict/\o.data= .dict es ep
theorem DRaw.typeIs {s:Shared}{d:Addr}{es:Array DictEntry}{ep:Nat}(x:DRaw s.heap d es ep):s.TypeIs (.ref d) "dict":=let ⟨o,e,c,_⟩:=x;⟨o,e,c.1⟩
theorem DRaw.lt {h:Heap}{d:Addr}{es:Array DictEntry}{ep:Nat}(x:DRaw h d es ep):d<h.objs.size:=let ⟨_,e,_⟩:=x;zP e
theorem DRaw.on {h h':Heap}{d:Addr}{es:Array DictEntry}{ep:Nat}(x:DRaw h d es ep)(k:∀o,h.get? d=some o->h'.get? d=some o):DRaw h' d es ep:=let ⟨o,e,r⟩:=x;⟨o,k o e,r⟩
section
variable {prog:Program}{w:World}{A:Around}{E:Value->Shared->Prop}{s:Shared}{it d:Addr}{es:Array DictEntry}{i ep:Nat}
theorem a6C {Q:Value->Shared->Prop}(ns:(d==sysModules)=false)(hm:DRaw s.heap d es ep)
  (q:Q (.ref s.heap.objs.size) {s with heap:=s.heap.push {cls:=.type "dict_keyiterator",data:=.fields #[.ref d,.int 0 0,.int es.size 0,.int ep 0]}}):wpAny (model prog w) A (pyIter (.ref d)) Q E s:=by
 obtain⟨o,g0,gx,gd⟩:=id hm;have T:=hm.typeIs;refine wpAny_pyIter_slot T F.slot_dict_iter (qI F.slot_dict_iter T F.entry_dict_iter ?_ (F.args_dict_iter_1 _));unfold Builtin.«dict.__iter__»;refine zA ?_;unfold Builtin.Dict.dictSlotNone;refine zA (wpAny_notOrdered_dict T (zB ?_));show wpAny _ _ (Builtin.Dict.showsAll d >>=_) _ _ s;unfold Builtin.Dict.showsAll;rw[if_neg (by rw[ns];simp)]
 refine zA (zB (zA (wpAny_dictEntries g0 gd (zA (wpAny_dictEpoch g0 gd ?_)))));refine zA (qK (zB ⟨_,rfl,"dict_keyiterator",_,⟨_,zO _ rfl,rfl⟩,F.slot_dict_keyiterator_next.lookup,?_⟩));simpa [rawInt] using q
theorem a8e {Q:Option Value->Shared->Prop}{e:DictEntry}(hit:s.heap.IsKeyIter it d i es.size ep)(hm:DRaw s.heap d es ep)(he:es[i]? =some e)
  (q:∀h',h'.IsKeyIter it d (i+1) es.size ep->Heap.SameBut it s.heap h'->Q (some e.key) {s with heap:=h'}):wpAny (model prog w) A (pyNext (.ref it)) Q E s:=by
 obtain⟨o,t0,tc,td⟩:=id hit;obtain⟨od,g0,gx,gd⟩:=id hm;unfold pyNext;refine zA (wpAny_attempt (qD (name:=Str.ofString "__next__") hit.typeIs qZ (qI qZ hit.typeIs F.entry_dict_keyiterator_next ?_ (F.args_dict_keyiterator_next_1 _))));refine zA (zB (zA (zA ?_)))
 first|refine zA (jO hit.typeIs (zB (zA (wpAny_fieldsOf t0 td ?_))))|refine zA (xI hit.typeIs (zB (zA (wpAny_fieldsOf t0 td ?_))))
 have own:Builtin.Dict_items.ownsTuple "dict_keyiterator"=false:=by decide
 simp only[own,jT,xQ];show wpAny _ _ (if(Value.ref d==Value.none)=true then _ else _) _ _ s;rw[if_neg (show ¬((Value.ref d==Value.none)=true) from zS)];refine zA (zB (zA (wpAny_dictEntries g0 gd ?_)));rw[if_neg (by simp)]
 refine zA (zB (zA (wpAny_dictEpoch g0 gd ?_)));rw[if_neg (by simp)]
 refine zB ?_;have lt:i<es.size:=by
  rcases Nat.lt_or_ge i es.size with z|z
  ·exact z
  ·rw[jD z] at he;cases he
 simp only[show ¬((i:Int)<0) from by walk_at "o",xQ,jY,he]
 refine zA ?_
 first|refine zA (jO hit.typeIs (zB (zA (wpAny_isOneOf_keyiter hit.typeIs ?_))))|refine zA (xI hit.typeIs (zB (zA (wpAny_isOneOf_keyiter hit.typeIs ?_))))
 show wpAny _ _ (setField (.ref it) 1 (rawInt ((i:Int)+1)) >>=_) _ _ s;refine zA (wpAny_setField t0 td (by simp) ?_)
 have up:(s.heap.update it (PySem.Obj.mapFields (·.setIfInBounds 1 (rawInt ((i:Int)+1))))).IsKeyIter it d (i+1) es.size ep:=⟨_,xH _ t0 (Obj.isFreed_of_fields (Obj.data_mapFields td _)),(Obj.cls_mapFields ..).trans tc,by rw[Obj.data_mapFields td];simp[rawInt]⟩
 refine zA (qP (zA (wpAny_isOneOf_keyiter (s:={s with heap:=s.heap.update it (PySem.Obj.mapFields (·.setIfInBounds 1 (rawInt ((i:Int)+1))))}) up.typeIs ?_)))
 show wpAny _ _ (pure e.key) _ _ _;exact zB (zB ⟨_,rfl,zB (q _ up (qG ..))⟩)
theorem a9t {Q:Option Value->Shared->Prop}(hh:A.handled=none)(hit:s.heap.IsKeyIter it d i es.size ep)(hm:DRaw s.heap d es ep)(he:es[i]? =none)
  (q:∀h',Heap.ExtBut it s.heap h'->Q none {s with heap:=h'}):wpAny (model prog w) A (pyNext (.ref it)) Q E s:=by
 obtain⟨o,t0,tc,td⟩:=id hit;obtain⟨od,g0,gx,gd⟩:=id hm;unfold pyNext;refine zA (wpAny_attempt (qD (name:=Str.ofString "__next__") hit.typeIs qZ (qI qZ hit.typeIs F.entry_dict_keyiterator_next ?_ (F.args_dict_keyiterator_next_1 _))));refine zA (zB (zA (zA ?_)))
 first|refine zA (jO hit.typeIs (zB (zA (wpAny_fieldsOf t0 td ?_))))|refine zA (xI hit.typeIs (zB (zA (wpAny_fieldsOf t0 td ?_))))
 have own:Builtin.Dict_items.ownsTuple "dict_keyiterator"=false:=by decide
 simp only[own,jT,xQ];show wpAny _ _ (if(Value.ref d==Value.none)=true then _ else _) _ _ s;rw[if_neg (show ¬((Value.ref d==Value.none)=true) from zS)];refine zA (zB (zA (wpAny_dictEntries g0 gd ?_)));rw[if_neg (by simp)]
 refine zA (zB (zA (wpAny_dictEpoch g0 gd ?_)));rw[if_neg (by simp)]
 refine zB ?_;simp only[show ¬((i:Int)<0) from by walk_at "o",xQ,jY,he]
 refine zA ?_
 first|refine zA (jO hit.typeIs (zB ?_))|refine zA (xI hit.typeIs (zB ?_))
 show wpAny _ _ (setField (.ref it) 0 .none >>=_) _ _ s;refine zA (wpAny_setField t0 td (by simp) ?_)
 show wpAny _ _ (newExc (.type "StopIteration") [] >>=_) _ _ _;refine zA ?_;simp only[newExc,newTuple];refine zA (qK ?_ (by size_fits))
 refine zA (m:=firstArgMember _ _) (wpAny_of_eq (a:=Value.none) (by first|rfl|(simp only[firstArgMember];rfl)) (qK ?_ (by size_fits)))
 simp only[raiseNew];refine zA (wpAny_handled ?_);rw[show A.in1.handled=none from hh];refine zA (zB (wpAny_throw ?_));refine zA (wpAny_isInstance (b:=true) (T:="StopIteration") ⟨_,zO _ rfl,rfl⟩ isSubtype_stop ?_);exact zB (q _ (((qG ..).extBut.push _).push _))
theorem a57 (hh:A.handled=none)(I d:Addr)(hne:d≠I)(es:Array DictEntry)(ep:Nat):
  Walks prog w A I [I,d] [I] es.size (fun i v=>∃e,es[i]? =some e/\v=e.key) (fun i h=>h.IsKeyIter I d i es.size ep/\DRaw h d es ep) where
 sub:=fun b hb=>by simp at hb;simp[hb]
 frame:=fun _ _ _ st hk=>⟨st.1.at fun o e=>hk I (by simp) o e,st.2.on fun o e=>hk d (by simp) o e⟩
 item:=fun i s Q E hi st hQ=>a8e st.1 st.2 (e:=es[i]) (by simp[hi]) fun h' h1 h2=>hQ _ h' s.toks ⟨_,by simp[hi],rfl⟩ ⟨h1,st.2.on fun o e=>(h2.2 d hne).trans e⟩ fun b o hb e=>(h2.2 b (fun z=>hb (by simp[z]))).trans e
 done:=fun s Q E st hQ=>a9t hh st.1 st.2 (by simp) fun h' x=>hQ h' s.toks fun b o hb e=>x b o (fun z=>hb (by simp[z])) e
 self:=fun _ _ _ _ st hQ=>wpAny_pyIter_keyiter st.1 hQ
theorem a42 (ns:(d==sysModules)=false):KdlSrc prog w "dict" d d es.size (fun i v=>∃e,es[i]? =some e/\v=e.key) (fun h=>DRaw h d es ep) where
 type:=fun _ x=>x.typeIs
 there:=fun _ x=>⟨x.lt,x.lt⟩
 keep:=fun _ _ x hk=>x.on fun o e=>hk d (.inl rfl) o e
 notList:=by decide
 notTuple:=by decide
 hint:=fun _ _ _ _ x q=>kdl_hint_dict x.typeIs q
 iter:=fun _ _ hh x=>⟨_,_,(fun _ _ q=>a6C ns x q),a57 hh _ d (zQ x.lt) es ep,⟨⟨_,zO _ rfl,rfl,rfl⟩,x.on fun o e=>zD _ e⟩⟩
end
theorem a4M:∀a:List Int,HT.lexLt a a=false
 | []=>rfl
 | x::a=>by rw[HT.lexLt_cons,if_pos rfl];exact a4M a
theorem a15:∀a b c:List Int,HT.lexLt a b=true->HT.lexLt b c=true->HT.lexLt a c=true
 | [],[],_,h,_=>by cases h
 | [],_::_,[],_,h=>by cases h
 | [],_::_,_::_,_,_=>rfl
 | _::_,[],_,h,_=>by cases h
 | _::_,_::_,[],_,h=>by cases h
 | x::a,y::b,z::c,h,h'=>by
  rw[HT.lexLt_cons] at h h' ⊢
  by_cases e1:x=y
  ·by_cases e2:y=z
   ·rw[if_pos e1] at h;rw[if_pos e2] at h';rw[if_pos (e1.trans e2)];exact a15 a b c h h'
   ·rw[if_neg e2] at h';rw[if_neg (fun q=>e2 (e1.symm.trans q)),e1];exact h'
  ·rw[if_neg e1] at h;have h1:=xT h
   by_cases e2:y=z
   ·rw[if_neg (fun q=>e1 (q.trans e2.symm)),<-e2];exact h
   ·rw[if_neg e2] at h';have h2:=xT h';rw[if_neg (by omega)]
    exact zR (by omega)
theorem a5E:∀a b c:List Int,HT.lexLt a c=true->HT.lexLt a b=true\/HT.lexLt b c=true
 | [],[],_,h=>.inr h
 | [],_::_,_,_=>.inl rfl
 | _::_,_,[],h=>by cases h
 | _::_,[],_::_,_=>.inr rfl
 | x::a,y::b,z::c,h=>by
  rw[HT.lexLt_cons] at h ⊢;rw[HT.lexLt_cons]
  by_cases e1:x=y
  ·by_cases e2:y=z
   ·rw[if_pos (e1.trans e2)] at h;rw[if_pos e1,if_pos e2];exact a5E a b c h
   ·rw[if_neg (fun q=>e2 (e1.symm.trans q))] at h;rw[if_neg e2,<-e1];exact .inr h
  ·rw[if_neg e1]
   by_cases e2:x=z
   ·have e3:¬y=z:=fun q=>e1 (e2.trans q.symm);rw[if_neg e3];rcases Int.lt_or_gt_of_ne e1 with q|q
    ·exact .inl (zR q)
    ·exact .inr (zR (by omega))
   ·rw[if_neg e2] at h;have h1:=xT h;rcases Int.lt_or_gt_of_ne e1 with q|q
    ·exact .inl (zR q)
    ·rw[if_neg (show ¬y=z by omega)];exact .inr (zR (by omega))
theorem a0K:∀a b:List Int,HT.lexLt a b=false->HT.lexLt b a=false->a=b
 | [],[],_,_=>rfl
 | [],_::_,h,_=>by cases h
 | _::_,[],_,h=>by cases h
 | x::a,y::b,h,h'=>by
  rw[HT.lexLt_cons] at h h'
  by_cases e:x=y
  ·rw[if_pos e] at h;rw[if_pos e.symm] at h';rw[e,a0K a b h h']
  ·rw[if_neg e] at h;rw[if_neg (fun q=>e q.symm)] at h';have h1:=of_decide_eq_false h;have h2:=of_decide_eq_false h';walk_at "o"
def lexO:KeyOrd:=⟨List Int,HT.lexLt,a4M,a15,a5E,a0K⟩
inductive Tups (h:Heap):List Value->List (List Int)->Prop where
 | nil:Tups h [] []
 | cons {a:Addr} {its:Array Value} {k:List Int} {vs:List Value} {ks:List (List Int)} (t:IsTup h a its) (i:IntsAre its.toList k) (ne:k≠[]) (r:Tups h vs ks):Tups h (.ref a::vs) (k::ks)
theorem Tups.len {h:Heap}{vs:List Value}{ks:List (List Int)}(t:Tups h vs ks):vs.length=ks.length:=by
 induction t with
 | nil=>rfl
 | cons _ _ _ _ ih=>simp[ih]
theorem Tups.on {h h':Heap}{vs:List Value}{ks:List (List Int)}(t:Tups h vs ks)(k:∀a o,(.ref a)∈vs->h.get? a=some o->h'.get? a=some o):Tups h' vs ks:=by
 induction t with
 | nil=>exact .nil
 | cons x i ne r ih=>
  obtain⟨o,e,c⟩:=x;exact .cons ⟨o,k _ o zI e,c⟩ i ne (ih fun a o m e=>k a o (zH _ m) e)
theorem Tups.at {h:Heap}{vs:List Value}{ks:List (List Int)}(t:Tups h vs ks):∀{i:Nat},i<vs.length->∃a its,vs.getD i .none= .ref a/\IsTup h a its/\IntsAre its.toList (ks.getD i [])/\ks.getD i []≠[]:=by
 induction t with
 | nil=>intro i hi;simp at hi
 | cons x i ne r ih=>
  intro j hj;cases j with
  | zero=>exact⟨_,_,rfl,x,i,ne⟩
  | succ j=>exact ih (i:=j) (by simpa using hj)
section
variable {prog:Program}{w:World}{A:Around}{E:Value->Shared->Prop}{s:Shared}{h₀:Heap}{L D:Addr}{m:Str->Option Value}{vs:List Value}{ks:List (List Int)}
theorem a6P {fin:Bool}{Q:Bool->Shared->Prop}:∀{us ws:List Value} {ns ms:List Int} {i:Nat},IntsAre us ns->IntsAre ws ms->fin=decide (us.length<ws.length)->
  Q (HT.lexLt ns ms) s->KatLex prog w A true fin Q (us.zip ws) i s
 | [],[],_,_,i,h1,h2,ef,q=>by
  cases h1;cases h2;rw[zip_nil_left];exact kat_nil (by rw[ef];exact q)
 | [],_::_,_,_,i,h1,h2,ef,q=>by
  cases h1;cases h2;rw[zip_nil_left];exact kat_nil (by rw[ef];simpa [HT.lexLt] using q)
 | _::_,[],_,_,i,h1,h2,ef,q=>by
  cases h1;cases h2;rw[List.zip_nil_right];exact kat_nil (by rw[ef];simpa [HT.lexLt] using q)
 | _::us,_::ws,_,_,i,h1,h2,ef,q=>by
  cases h1 with
  | cons a t h1=>
   cases h2 with
   | cons c u h2=>
    rw[jF];rw[HT.lexLt_cons] at q;refine kat_cons (SeqAt.EqAt.int_int a t c u prog w _ _ ?_)
    by_cases e:a=c
    ·rw[if_pos e] at q;rw[show(a==c)=true by simpa using e]
     exact kat_yes (a6P h1 h2 (by rw[ef];simp) q)
    ·rw[if_neg e] at q;rw[show(a==c)=false by simpa using e]
     refine kat_no ?_;cases hb:(true&&i==0) with
     | true=>exact oneLt_int q
     | false=>exact kat_one _ _ (lt_int q)
theorem katTups {h:Heap}{vs:List Value}{ks:List (List Int)}(t:Tups h vs ks):∃fs,KatTups h vs fs/\fs.length=ks.length/\∀v∈fs,∃(i:Int) (u:Tok),v= .int i u:=by
 induction t with
 | nil=>exact⟨[],.nil,rfl,fun v hv=>by cases hv⟩
 | @cons a its k vs ks x i ne r ih=>
  obtain⟨fs,h1,h2,h3⟩:=ih;obtain⟨o,e,c,n,d⟩:=x;obtain⟨its⟩:=its;cases i with
  | nil=>exact absurd rfl ne
  | cons n0 t0 r'=>exact⟨_,.cons e c d (by rfl) h1,by simp[h2],fun v hv=>(zN.mp hv).elim (fun z=>⟨_,_,z⟩) (h3 v)⟩
theorem a82 {s:Shared}(T:Tups s.heap vs ks)(i j:Nat)(C:Bool->Shared->Prop)(hi:i<vs.length)(hj:j<vs.length)(q:C (HT.lexLt (ks.getD i []) (ks.getD j [])) s):kas_ask prog w A (tuples' true) vs i j C s:=by
 obtain⟨a,its,ea,⟨o,h1,h2,n,h3⟩,ia,_⟩:=T.at hi;obtain⟨b,its2,eb,⟨o2,g1,g2,n2,g3⟩,ib,_⟩:=T.at hj;unfold kas_ask;rw[ea,eb];exact kat_lt h1 h3 g1 g3 (a6P ia ib (by simp) q)
theorem a5V {Q:Value->Shared->Prop}(F:Fr h₀ L s.heap m)(hD:s.heap.get? D=some (listOf vs.toArray 0))(hDL:D≠L)(hD0:h₀.get? D=none)(T:Tups s.heap vs ks)(nD:Value.ref D∉vs)(nL:Value.ref L∉vs)(k0:∀b o,h₀.get? b=some o->s.heap.get? b=some o)(h2:2<=vs.length)(h64:vs.length<64)
  (q:∀(h':Heap) (p:Array Nat) (e:Nat),Fr h₀ L h' m->(∀b o,b≠L->b≠D->s.heap.get? b=some o->h'.get? b=some o)->h'.get? D=some (listOf (p.toList.map fun i=>vs.getD i .none).toArray e)->PB vs.length p->SoTo (O:=lexO) (fun i=>ks.getD i []) p vs.length->Q .none {s with heap:=h'}):
  wpAny (model prog w) A (call (.builtin "list.sort") [.ref D]) Q E s:=by
 have kept:=fun{h':Heap} (F':Fr h₀ L h' m) (N':News h₀ L h' (L2.rest h₀ s.heap L D))=>L2.a2U (d:=D) k0 F' N';refine kat_lsort (vs:=vs) F (L2.a9s hDL hD0 hD) (.head L2.a5K) (by simp) h2 h64 fun e1 h' F' N'=>?_
 have K':=kept F' fun p hp=>N' p (zH _ hp);have T':Tups h' vs ks:=T.on fun a o ma e=>K' a o (fun z=>nL (z▸ma)) (fun z=>nD (z▸ma)) e;obtain⟨fs,f1,f2,f3⟩:=katTups T';refine kat_kind (s:={s with heap:=h'}) (T:=.type "int") f1 (by rw[f2,<-T.len];walk_at "o") (fun v hv=>by obtain⟨i,u,rfl⟩:=f3 v hv;exact Looks.of_pure rfl) (by decide) ?_
 have tb:(Value.type "int" != Value.type "tuple")=true:=by decide
 rw[tb];refine a5v (s:={s with heap:=h'}) (n:=vs.length) (lt:=ltK (O:=lexO) fun i=>ks.getD i []) (fun i j C hi hj c=>a82 (s:={s with heap:=h'}) T' i j C hi hj c) _ (a7v (by walk_at "o") fun p hp hs=>?_)
 refine KasFin.intro F' N' (.head L2.a5K) fun h3 c F3 N3=>?_;exact q h3 p c F3 (kept F3 fun p hp=>N3 p (zH _ hp)) (N3 _ zI).1 hp hs
theorem a4l {Q:Value->Shared->Prop}(hD:s.heap.get? D=some (listOf vs.toArray 0))(h2:vs.length<2)
  (q:∀(h':Heap) (e:Nat),(∀b o,b≠D->s.heap.get? b=some o->h'.get? b=some o)->h'.get? D=some (listOf vs.toArray e)->Q .none {s with heap:=h'}):
  wpAny (model prog w) A (call (.builtin "list.sort") [.ref D]) Q E s:=by
 refine qI slot_list_sort ⟨_,hD,rfl⟩ entry_list_sort ?_ (args_list_sort _);rw[list_sort_plain];have lt:D<s.heap.objs.size:=zP hD;refine zA (listItems_at hD rfl (zA (listUpdate_at hD rfl ?_)));obtain⟨e1,k1⟩:∃e1,(s.heap.update D (PySem.Obj.mapSeq fun _=> #[])).get? D=some (seqObj "list" #[] e1):=⟨_,get?_update_seq hD (fun _=> #[])⟩;refine zA (seqEpoch_at k1 rfl (zA (wpAny_newTuple (zA (wpAny_newList (qP ?_))))));have k2:(((s.heap.update D (PySem.Obj.mapSeq fun _=> #[])).push (seqObj "tuple" vs.toArray 0)).push (seqObj "list" #[] 0)).get? D=some (seqObj "list" #[] e1):=zD _ (zD _ k1);show wpAny (model prog w) _ _ _ E {s with heap:=((s.heap.update D (PySem.Obj.mapSeq fun _=> #[])).push (seqObj "tuple" vs.toArray 0)).push (seqObj "list" #[] 0)}
 dsimp only;have sz:vs.toArray.size<2:=by simpa using h2
 rw[if_pos sz,if_pos sz];refine zA (zB ?_);rw[StateT.run_pure];refine zA (zB ?_);dsimp only;have out:(arrOf (SortSt.mk' general' (vs.toArray.zip vs.toArray) #[] 7 none)).map (·.2)=vs.toArray:=by
  show(vs.toArray.zip vs.toArray).map (·.2)=vs.toArray;have e:(vs.toArray.zip vs.toArray)=(vs.zip vs).toArray:=by simp
  rw[e,List.map_toArray];congr 1;exact List.map_snd_zip (zE _)
 rw[out];refine zA (seqEpoch_at k2 rfl (zA (listUpdate_at k2 rfl ?_ (hsz2:=by rw[jI];walk_at "o"))))
 simp only[bne_self_eq_false,jT,xQ];obtain⟨e2,k3⟩:∃e2,((((s.heap.update D (PySem.Obj.mapSeq fun _=> #[])).push (seqObj "tuple" vs.toArray 0)).push (seqObj "list" #[] 0)).update D (PySem.Obj.mapSeq fun _=>vs.toArray)).get? D=some (seqObj "list" vs.toArray e2):=⟨_,get?_update_seq k2 (fun _=>vs.toArray)⟩;refine zB ⟨_,rfl,q _ e2 (fun b o hb e=>?_) k3⟩;rw[xW _ _ _ _ hb];refine zD _ (zD _ ?_);rw[xW _ _ _ _ hb];exact e
end
abbrev kleB (a b:List Int):Bool:=!HT.lexLt b a
def sortK (ks:List (List Int)):List (List Int):=ks.mergeSort kleB
theorem w8 (ks:List (List Int)):(sortK ks).Perm ks:=List.mergeSort_perm ks _
theorem Y4 (ks:List (List Int)):(sortK ks).Pairwise fun a b=>HT.lexLt b a=false:=by
 have:=List.pairwise_mergeSort (le:=kleB) (fun a b c h1 h2=>by
  simp only[kleB,Bool.not_eq_true'] at *;exact KeyOrd.kle_trans (O:=lexO) h1 h2) (fun a b=>by
  simp only[kleB,Bool.or_eq_true,Bool.not_eq_true'];cases q:HT.lexLt b a with
  | false=>exact .inl rfl
  | true=>exact .inr (KeyOrd.klt_asymm (O:=lexO) q)) ks
 exact this.imp fun h=>by simpa [kleB] using h
theorem a2k:∀{l1 l2:List (List Int)},l1.Perm l2->(l1.Pairwise fun a b=>HT.lexLt b a=false)->(l2.Pairwise fun a b=>HT.lexLt b a=false)->l1=l2
 | [],l2,h,_,_=>(List.nil_perm.mp h).symm
 | a::l1,[],h,_,_=>by have:=h.length_eq;simp at this
 | a::l1,b::l2,h,h1,h2=>by
  have h1':=pairwise_cons.mp h1;have h2':=pairwise_cons.mp h2;have e:a=b:=by
   have ma:a∈b::l2:=h.mem_iff.mp zI;have mb:b∈a::l1:=h.mem_iff.mpr zI;rcases zN.mp ma with z|z
   ·exact z
   ·rcases zN.mp mb with y|y
    ·exact y.symm
    ·exact a0K a b (h2'.1 a z) (h1'.1 b y)
  subst e;rw[a2k ((List.perm_cons a).mp h) h1'.2 h2'.2]
inductive Al (K:PySem.W.Frag) (H:Hp):List Addr->List (List Int)->Prop where
 | nil:Al K H [] []
 | cons {a:Addr} {k:List Int} {as:List Addr} {ks:List (List Int)} (q:SqT K H a (k.map V.int)) (r:Al K H as ks):Al K H (a::as) (k::ks)
section
variable {K:PySem.W.Frag}{H:Hp}
theorem Al.len {as:List Addr}{ks:List (List Int)}(h:Al K H as ks):as.length=ks.length:=by
 induction h with
 | nil=>rfl
 | cons _ _ ih=>simp[ih]
theorem Al.at {as:List Addr}{ks:List (List Int)}(h:Al K H as ks):∀{i:Nat},i<as.length->SqT K H (as.getD i 0) ((ks.getD i []).map V.int):=by
 induction h with
 | nil=>intro i hi;simp at hi
 | cons q r ih=>
  intro i hi;cases i with
  | zero=>exact q
  | succ i=>exact ih (i:=i) (by simpa using hi)
theorem Al.pick {as:List Addr}{ks:List (List Int)}(h:Al K H as ks):∀{l:List Nat},(∀i∈l,i<as.length)->Al K H (l.map fun i=>as.getD i 0) (l.map fun i=>ks.getD i [])
 | [],_=>.nil
 | i::l,hl=>.cons (h.at (hl i zI)) (h.pick fun j hj=>hl j (zH _ hj))
theorem Al.den {O:Av}{as:List Addr}{ks:List (List Int)}(h:Al K H as ks):DenL K O H (ks.map tupI) (as.map V.ref):=by
 induction h with
 | nil=>exact j3
 | cons q r ih=>
  refine i0 ?_ ih;unfold tupI;rw[Den];exact⟨_,_,rfl,q,J5 _⟩
end
theorem a08 {K:PySem.W.Frag}{O:Av}{H:Hp}:∀{ds:List D} {ks:List (List Int)} {vs:List V},tupsOf ds=some ks->DenL K O H ds vs->∃as,vs=as.map V.ref/\Al K H as ks
 | [],ks,vs,e,l=>by rw[DenL] at l;subst l;cases e;exact⟨[],rfl,.nil⟩
 | d::ds,ks,vs,e,l=>by
  rw[DenL] at l;obtain⟨v,r,rfl,h,l⟩:=l;cases d<;>simp only[tupsOf] at e<;>try cases e
  rename_i xs;cases e1:intsOf xs with
  | none=>rw[e1] at e;cases e
  | some k=>
   rw[e1] at e;simp only[bind_some] at e;cases e2:tupsOf ds with
   | none=>rw[e2] at e;cases e
   | some ks'=>
    rw[e2] at e;cases e;obtain⟨as,rfl,a⟩:=a08 e2 l;rw[J9 e1,Den] at h;obtain⟨p,us,rfl,q,lu⟩:=h;rw[B4 lu] at q;exact⟨p::as,rfl,.cons q a⟩
section
variable {X:Cx}{pins:List (Addr×PySem.Obj)}{σ:L2.St}{H:Hp}{s:Shared}
theorem Al.tups {as:List Addr}{ks:List (List Int)}(I:Inv X pins σ H s)(h:Al X.K H as ks)(ne:∀k∈ks,k≠[]):Tups s.heap (as.map Value.ref) ks:=by
 induction h with
 | nil=>exact .nil
 | cons q r ih=>
  obtain⟨its,r1,p1,_⟩:=I.tuple q;exact .cons p1 (L0 r1) (ne _ zI) (ih fun k hk=>ne k (zH _ hk))
theorem Z5:∀as:List Addr,Vals (as.map V.ref) (as.map Value.ref)
 | []=>.nil
 | a::as=>.cons rfl (Z5 as)
theorem W9:∀{as:List Addr} {us:List Value},Vals (as.map V.ref) us->us=as.map Value.ref
 | [],us,r=>by cases r;rfl
 | a::as,us,r=>by
  cases r with
  | cons h t=>cases h;rw[W9 t];rfl
theorem a2i {A:Around}{E:Value->Shared->Prop}{as:List Addr}{ks:List (List Int)}{Q:VK}(I:Inv X pins σ H s)(a:Al X.K H as ks)(ne:∀k∈ks,k≠[])(h64:ks.length<64)
  (q:∀l bs,H l=none->Al X.K H bs (sortK ks)->Q (.ref l) (upd H l (.lst (bs.map V.ref)))):
  wpAny (model X.prog X.w) A (call (.builtin "list.sort") [.ref s.heap.objs.size]) (fun _ s'=>EP X pins σ Q (.ref s.heap.objs.size) s') E {s with heap:=s.heap.push (PySem.W.listOf (as.map Value.ref).toArray 0)}:=by
 have I2:Inv X pins σ H {s with heap:=s.heap.push (PySem.W.listOf (as.map Value.ref).toArray 0)}:=I.kept (t':=s.toks) fun b o e=>zD _ e
 obtain⟨m,F⟩:=I2.fr;have T:=a.tups I2 ne;have fr:H s.heap.objs.size=none:=I.hok.fresh (zE _);have hD:(s.heap.push (PySem.W.listOf (as.map Value.ref).toArray 0)).get? s.heap.objs.size=some (PySem.W.listOf (as.map Value.ref).toArray 0):=zO _ rfl;have dL:s.heap.objs.size≠X.env.locals:=xF I.lt;have al:=a.len;have fin:∀(h':Heap) (p:List Nat) (ec:Nat),Fr X.base X.env.locals h' m->(∀b o,b≠X.env.locals->b≠s.heap.objs.size->(s.heap.push (PySem.W.listOf (as.map Value.ref).toArray 0)).get? b=some o->h'.get? b=some o)->
   h'.get? s.heap.objs.size=some (PySem.W.listOf (p.map fun i=>Value.ref (as.getD i 0)).toArray ec)->p.Perm (List.range ks.length)->((p.map fun i=>ks.getD i []).Pairwise fun a b=>HT.lexLt b a=false)->EP X pins σ Q (.ref s.heap.objs.size) {s with heap:=h'}:=fun h' p ec F' kp hD' pp ps=>by
  have lt:∀i∈p,i<as.length:=fun i hi=>by have:=pp.mem_iff.mp hi;rw[al];simpa using this
  have ek:(p.map fun i=>ks.getD i [])=sortK ks:=by
   refine a2k (((pp.map _).trans ?_).trans (w8 ks).symm) ps (Y4 ks)
   have:(List.range ks.length).map (fun i=>ks.getD i [])=ks:=by
    apply ext_getElem?;intro i
    by_cases hi:i<ks.length
    ·rw[qF,getElem?_range hi];simp[hi]
    ·rw[jH (by simp;walk_at "o"),jH (by walk_at "o")]
   rw[this]
  have pk:=a.pick lt;rw[ek] at pk;have kept:∀b o,b≠X.env.locals->s.heap.get? b=some o->h'.get? b=some o:=fun b o hb e=>kp b o hb (zQ (zP e)) (zD _ e);have nD:∀b o,s.heap.get? b=some o->b≠s.heap.objs.size:=fun b o e=>zQ (zP e);have nH:∀b u,H b=some u->b≠s.heap.objs.size:=fun b u e=>l5 e fr;have nLH:∀b u,H b=some u->b≠X.env.locals:=fun b u e z=>by rw[z,I.free] at e;cases e
  refine⟨.ref s.heap.objs.size,upd H s.heap.objs.size (.lst ((p.map fun i=>as.getD i 0).map V.ref)),?_,rfl,q _ _ fr pk⟩;refine I.step (g':=s.gens) (t':=s.toks) (d':=s.drawn) (ch:=[]) (fun _ z=>nomatch z) (fun b o hL _ _ e _=>kept b o hL e) (fun b o hL _ _ e _=>⟨o.slots,kept b o hL e⟩) (fun b o _ e n=>by rw[g5 (nD b o e)];exact n) (fun b o _ e=>?_)
   (fun b xs e=>by rw[g5 (nH _ _ e)];exact e) (fun b o u e=>by rw[g5 (nH _ _ e)];exact e) (fun b ps e=>⟨#[],by rw[g5 (nH _ _ e),e];simp⟩) (fun m' hm=>?_) (fun b u e=>?_) I.bare
  ·by_cases hL:b=X.env.locals
   ·obtain⟨o',_,_,e',_⟩:=F'.ns;rw[hL];exact⟨o',e'⟩
   ·exact⟨o,kept b o hL e⟩
  ·have e1:m'=m:=by
    have z1:(s.heap.push (PySem.W.listOf (as.map Value.ref).toArray 0)).Ns X.env.locals m':=by
     obtain⟨o,es,ep,e,r⟩:=hm;exact⟨o,es,ep,zD _ e,r⟩
    rw[z1.eq_nsMap,F.ns.eq_nsMap]
   rw[e1];exact F'.ns
  ·by_cases hb:b=s.heap.objs.size
   ·subst hb;rw[m9] at e;cases e;refine⟨?_,(p.map fun i=>as.getD i 0).map Value.ref,ec,Z5 _,?_⟩
    ·rw[zC,zC,pp.length_eq,List.length_range,jI];walk_at "o"
    ·rw[hD'];simp[zV,Function.comp_def]
   ·rw[g5 hb] at e
    refine(I.hok b u e).stay (fun c v hc z=>kept c v (by
     rcases hc with w|w
     ·rw[w];exact nLH b u e
     ·exact nLH c _ w) z) (fun c z=>by rw[g5 (nH _ _ z)];exact z) fun c ys z=>by rw[g5 (nH _ _ z)];exact z
 have gr:∀p:List Nat,(∀i∈p,i<as.length)->(p.map fun i=>(as.map Value.ref).getD i .none)=p.map fun i=>Value.ref (as.getD i 0):=fun p hp=>qM fun i hi=>by simp[hp i hi]
 have tp:∀{vs:List Value} {ks:List (List Int)},Tups s.heap vs ks->∀a,Value.ref a∈vs->∃its,IsTup s.heap a its:=fun{vs ks} t=>by
  induction t with
  | nil=>intro a z;cases z
  | cons x i ne r ih=>
   intro a z;rcases zN.mp z with z|z
   ·cases z;exact⟨_,x⟩
   ·exact ih a z
 have tp:=tp (a.tups I ne)
 by_cases h2:ks.length<2
 ·refine a4l hD (by rw[zC,al];exact h2) fun h' e kp hD'=>fin h' (List.range ks.length) e ⟨?_,fun b o eb=>kp b o (fun z=>?_) (F.keep b o eb),F.above⟩ (fun b o _ hb eb=>kp b o hb eb) ?_ (List.Perm.refl _) ?_
  ·obtain⟨o,es,ep,e1,r⟩:=F.ns;exact⟨o,es,ep,kp _ o (qO dL) e1,r⟩
  ·have:=I.bk b o eb
   exact absurd (zP this) (by rw[z];exact jE _)
  ·rw[hD',<-al];congr 3;apply ext_getElem?;intro i
   by_cases hi:i<as.length
   ·rw[qF,qF,getElem?_range hi];simp[hi]
   ·rw[jH (by simp;walk_at "o"),jH (by simp;walk_at "o")]
  ·match ks,h2 with
   | [],_=>exact .nil
   | [k],_=>exact List.pairwise_singleton _ _
 ·refine a5V F hD dL ?_ T (fun z=>?_) (fun z=>?_) F.keep (by rw[zC,al];walk_at "o") (by rw[zC,al];walk_at "o") fun h' p e F' kp hD' hp hs=>?_
  ·cases q0:X.base.get? s.heap.objs.size with
   | none=>rfl
   | some o=>exact absurd (zP (I.bk _ o q0)) (jE _)
  ·obtain⟨its,o,e1,_⟩:=tp _ z;exact absurd (zP e1) (jE _)
  ·obtain⟨its,o,e1,_,n,d1⟩:=tp _ z;obtain⟨m2,⟨o2,es,ep,e2,d2,_⟩,_⟩:=id I.loc;rw[e1] at e2;cases e2;rw[d1] at d2;cases d2
  ·have pp:p.toList.Perm (List.range ks.length):=by
    have:=Array.perm_iff_toList_perm.mp hp.perm
    rw[zC,al] at this;simpa using this
   have sz:p.size=ks.length:=by rw[hp.size,zC,al]
   refine fin h' p.toList e F' kp ?_ pp ?_
   ·rw[hD',gr p.toList fun i hi=>by have:=pp.mem_iff.mp hi;rw[al];simpa using this]
   ·rw[List.pairwise_iff_getElem];intro i j hi hj hij;have hj':j<p.size:=by simpa using hj
    have hi':i<p.size:=by simpa using hi
    have z:=hs i j (Nat.le_of_lt hij) (by rw[zC,al,<-sz];exact hj')
    simp only[List.getElem_map,Array.getElem_toList];unfold Ky at z;have g1:p.getD i 0=p[i]:=by simp[Array.getD,hi']
    have g2:p.getD j 0=p[j]:=by simp[Array.getD,hj']
    rw[g1,g2] at z;exact z
end
def SrcT (K:PySem.W.Frag) (H:Hp) (p:Addr) (ks:List (List Int)):Prop:=(∃as,SqL K H p (as.map V.ref)/\Al K H as ks)\/∃vs,H p=some (.dT ((ks.map fun k=>k.map Sum.inl).zip vs))/\ks.length=vs.length
theorem b1o (k:List Int):(k.map (Sum.inl:Int->Key)).map kV=k.map V.int:=by rw[zV];rfl
theorem b1b {K:PySem.W.Frag}{H:Hp}:∀{ks:List (List Int)} {vs:List V} {xs:List (List Key×Addr×Value)},ks.length=vs.length->KT H ((ks.map fun k=>k.map Sum.inl).zip vs) xs->Al K H (xs.map (·.2.1)) ks
 | [],vs,xs,hl,r=>by
  rw[xD,zip_nil_left] at r;cases r;exact .nil
 | k::ks,[],xs,hl,r=>by simp at hl
 | k::ks,v::vs,xs,hl,r=>by
  rw[zJ,jF] at r;cases r with
  | cons h t=>
   obtain⟨h1,h2,_⟩:=h;rw[zJ];refine .cons (.inl (.inl ?_)) (b1b (by simpa using hl) t)
   rw[h2,b1o]
section
variable {X:Cx}{e:Expr}{pos p:Pos}{fa:FA}
theorem a2N (hc:X.calm=true):CallR X (.builtin "sorted") (fun xs H Q=>∃p ks,xs=[.ref p]/\SrcT X.K H p ks/\ks.length<64/\(∀k∈ks,k≠[])/\∀l bs,H l=none->Al X.K H bs (sortK ks)->Q (.ref l) (upd H l (.lst (bs.map V.ref)))):=by
 intro pins s σ H xs us Q I r h;obtain⟨p,ks,rfl,src,h64,ne,q⟩:=h;obtain⟨u,rfl,ru⟩:=vals1 r;cases ru;refine Calls.call_function_entry kind_sorted plain_sorted entry_sorted (args_sorted1 _) ?_;unfold Builtin.«sorted»;refine zA (m:=checkCount "sorted" 1 1 _) (zB ?_);rcases src with ⟨as,hq,al⟩|⟨vs,hq,hl⟩
 ·have len:=al.len;obtain⟨its,rv,⟨o,m,h1,h2,_,h4⟩,hz⟩:=I.list hq;have ei:=W9 rv;subst ei;have hL:s.heap.IsList p (as.map Value.ref).toArray:=⟨o,h1,h2,m,h4⟩;have sz:(as.map Value.ref).length<=sizeLine:=by rw[zC,len,jI];walk_at "o"
  refine zA (collect_list hL ?_ sz);refine zA (wpAny_newList ?_ sz);have I1:Inv X pins σ H {s with heap:=(s.heap.push (seqObj "list" #[] 0)).update s.heap.objs.size (PySem.Obj.mapSeq (· ++ (as.map Value.ref).toArray))}:=I.kept (t':=s.toks) fun b o e=>by
   rw[xW _ _ _ _ (zQ (zP e))];exact zD _ e
  refine zA (qP (zY (a2i I1 al ne h64 q) (fun _ s' x=>?_) fun _ _ z=>z));exact zB ⟨_,rfl,x⟩
 ·obtain⟨z,hs,xs,rel,o,es,h1,h2,h3,h4,h5⟩:=(show ObjOk X.prog X.w H s.heap p (.dT ((ks.map fun k=>k.map Sum.inl).zip vs)) from I.hok p _ hq);have al:=b1b (K:=X.K) hl rel;have len:=al.len;have sz:es.size=ks.length:=by rw[<-len,zC,<-qW,h4,zC]
  have szl:es.size<=sizeLine:=by rw[sz,jI];walk_at "o"
  refine zA (PySem.W.kdu_collect (a42 (es:=es) hs) (show X.A.in1.handled=none from I.ok.hd hc) ⟨o,h1,h2,h3⟩ szl fun h' tk acc hk hacc=>?_);have ea:acc.toList=(xs.map (·.2.1)).map Value.ref:=by
   have e0:(xs.map (·.2.1)).map Value.ref=es.toList.map (·.key):=by rw[h4,zV,zV];rfl
   rw[e0];apply ext_getElem?;intro i;rw[jX,qF,jX]
   by_cases hi:i<es.size
   ·have hi2:i<acc.size:=by rw[hacc.1];exact hi
    obtain⟨e,he,hv⟩:=hacc.2 i acc[i] (by simp[hi2])
    rw[he,Array.getElem?_eq_getElem hi2,hv];rfl
   ·rw[jD (by rw[hacc.1];walk_at "o"),jD (by walk_at "o")];rfl
  rw[ea];refine zA (wpAny_newList ?_ (by rw[zC,len,<-sz];exact szl))
  have I1:Inv X pins σ H {s with heap:=h',toks:=tk}:=I.kept (t':=tk) hk
  refine zA (qP (zY (a2i I1 al ne h64 q) (fun _ s' x=>?_) fun _ _ z=>z));exact zB ⟨_,rfl,x⟩
def inlK:List Key->Option (List Int)
 | []=>some []
 | Sum.inl i::k=>(inlK k).map fun j=>i::j
 | Sum.inr _::_=>none
def inlKs:List (List Key)->Option (List (List Int))
 | []=>some []
 | k::ks=>(inlK k).bind fun j=>(inlKs ks).map fun js=>j::js
theorem a5w:∀{k:List Key} {j:List Int},inlK k=some j->k=j.map Sum.inl
 | [],j,e=>by cases e;rfl
 | Sum.inr _::_,j,e=>by cases e
 | Sum.inl i::k,j,e=>by
  rw[inlK] at e;cases e1:inlK k with
  | none=>rw[e1] at e;cases e
  | some js=>rw[e1] at e;cases e;rw[zJ,<-a5w e1]
theorem a30:∀{ks:List (List Key)} {js:List (List Int)},inlKs ks=some js->ks=js.map fun k=>k.map Sum.inl
 | [],js,e=>by cases e;rfl
 | k::ks,js,e=>by
  rw[inlKs] at e;cases e1:inlK k with
  | none=>rw[e1] at e;cases e
  | some j=>
   cases e2:inlKs ks with
   | none=>rw[e1,e2] at e;cases e
   | some js'=>rw[e1,e2] at e;cases e;rw[zJ,<-a30 e2,<-a5w e1]
theorem a34:∀k:List Int,inlK (k.map Sum.inl)=some k
 | []=>rfl
 | i::k=>by rw[zJ,inlK,a34 k];rfl
theorem a1Y:∀ks:List (List Int),inlKs (ks.map fun k=>k.map Sum.inl)=some ks
 | []=>rfl
 | k::ks=>by rw[zJ,inlKs,a34,a1Y ks];rfl
def keysOf:D->Option (List (List Int))
 | .dT ks _=>inlKs ks
 | .lst ds=>tupsOf ds
 | _=>none
def gSortT (d:D):Option W:=(keysOf d).bind fun ks=>if ks.length<64/\(∀k∈ks,k≠[]) then some (.o (.lst ((sortK ks).map tupI))) else none
def gSort (d:D):Option W:=match gSortI d with
 | some w=>some w
 | none=>gSortT d
theorem a4u {K:PySem.W.Frag}{A:Av}{H:Hp}{d:D}{ks:List (List Int)}{v:V}(e:keysOf d=some ks)(h:DenR K A H d v):∃p,v= .ref p/\SrcT K H p ks:=by
 cases d with
 | dT js xs=>
  obtain⟨a,vs,rfl,hq,hl,l⟩:=h;have ej:=a30 e;subst ej;exact⟨a,rfl,.inr ⟨vs,hq,by rw[<-c5 l,<-hl,zC]⟩⟩
 | lst ds=>
  obtain⟨a,vs,rfl,hq,l⟩:=h;obtain⟨as,rfl,al⟩:=a08 e l;exact⟨a,rfl,.inl ⟨as,hq,al⟩⟩
 | _=>cases e
theorem a7B:PrA X (k1 gSortT) (fun xs H Q=>∃p ks,xs=[.ref p]/\SrcT X.K H p ks/\ks.length<64/\(∀k∈ks,k≠[])/\∀l bs,H l=none->Al X.K H bs (sortK ks)->Q (.ref l) (upd H l (.lst (bs.map V.ref)))):=pr1 fun A d w v H Q e h q=>by
 unfold gSortT at e;cases e1:keysOf d with
 | none=>rw[e1] at e;cases e
 | some ks=>
  rw[e1] at e;simp only[bind_some] at e;split at e
  ·rename_i hl;cases e;obtain⟨a,rfl,src⟩:=a4u e1 h;exact⟨a,ks,rfl,src,hl.1,hl.2,fun l bs hp al=>q _ _ (g9 hp _) (z9 hp al.den)⟩
  ·cases e
theorem a9v:PrA X (k1 gSort) (fun xs H Q=>(∃(p:Addr) (ns:List Int),xs=[.ref p]/\SqL X.K H p (ns.map V.int)/\ns.length<64/\∀l,H l=none->Q (.ref l) (upd H l (.lst ((sortI ns).map V.int))))\/
  ∃p ks,xs=[.ref p]/\SrcT X.K H p ks/\ks.length<64/\(∀k∈ks,k≠[])/\∀l bs,H l=none->Al X.K H bs (sortK ks)->Q (.ref l) (upd H l (.lst (bs.map V.ref)))):=fun A ds w vs H Q hA e l q=>by
 match ds,e,l with
 | [d],e,l=>
  have e:gSort d=some w:=e;unfold gSort at e;cases e1:gSortI d with
  | some w'=>rw[e1] at e;cases e;exact .inl (a8I A [d] w vs H Q hA e1 l q)
  | none=>rw[e1] at e;exact .inr (a7B A [d] w vs H Q hA e l q)
theorem a2t {k:Nat}(hr:Room k X.A)(hc:X.calm=true)(hm:X.mg "sorted"=none)(ha:QA X [e] fa)(hv:bootBuiltins "sorted"=some (.builtin "sorted"):=by rfl)(hg:Gl X "sorted":=by rfl)
  (he:starEach [e] X.env=(false,eval e X.env)::starEach [] X.env:=by rfl):QX X (.Call (.Name "sorted" p) [e] [] pos) (fCall (k1 gSort) fa):=a00 (a22.or (a2N hc)) a9v hv hm ha hg (by decide) (by decide) he rfl
end
def putTo (k j:Nat) (p:List W×Ev):Option Ev:=(takeAll p.2 p.1).bind fun q=>(dkeys q.1).bind fun kk=>match q.2[j]? with
 | some (some (.v d))=>match ownAt q.2 k with
  | some (.dT ks zs)=>if ks.length<lim/\q.1.length<=lim then some (setOwn q.2 k (.dT (putKs ks kk) (putX ks zs kk d))) else none
  | _=>none
 | _=>none
def turnCD (k:Nat) (gf:FG) (t:FT) (fa:FA) (j:Nat):D->Ev->Option Ev:=fun x ρ=>(gf x ρ).bind fun ρ1=>(t ρ1).bind fun p=>if p.1=true then(fa p.2).bind (putTo k j) else some p.2
section
variable {X:Cx}{a b e o:Expr}{es:List Expr}{pos p p2:Pos}{f g:FX}{t u:FT}{fa:FA}
def oBits:D->Option W
 | .int i=>some (.v (.int (Builtin.Int.intBits i:Nat)))
 | _=>none
def fDPutT (fd:FX) (fk:FA) (fv:FX):FS:=fun ρ=>(fv ρ).bind fun p=>(fd p.2).bind fun q=>match q.1 with
 | .r i=>(fk q.2).bind fun z=>(takeAll z.2 (p.1.fz::z.1)).bind fun y=>match y.1 with
  | d::ds=>(dkeys ds).bind fun k=>match ownAt y.2 i with
   | some (.dT ks xs)=>if ks.length<lim/\ds.length<=lim then some (.nx (setOwn y.2 i (.dT (putKs ks k) (putX ks xs k d)))) else none
   | _=>none
  | _=>none
 | _=>none
theorem a75 {k:Nat}{x1}{p1 p2:Pos}(hr:Room k X.A)(hd:QX X o f)(ha:QA X es fa)(hv:QX X e g)(hs:swapsWith e (some (.Subscript o (.Tuple es x1 p1) p2)) pos.line X.env=pure false:=by rfl):
  QS X (.Assign [.Subscript o (.Tuple es x1 p1) p2] e pos) (fDPutT f fa g):=by
 refine⟨PS.weak (a81 (b0t hr) hd.to (a7M ha.to) hv.to hs) fun E σ H h0=>tSe h0 fun P O L ρ r rp e q=>?_⟩;unfold fDPutT at e;obtain⟨⟨w1,ρ1⟩,e1,e⟩:=obs e;dsimp only at e;obtain⟨⟨w2,ρ2⟩,e2,e⟩:=obs e;dsimp only at e;split at e
 ·rename_i i;obtain⟨⟨ws,ρ3⟩,e3,e⟩:=obs e;dsimp only at e;obtain⟨⟨dl,ρ4⟩,e4,e⟩:=obs e;dsimp only at e;split at e
  ·rename_i d ds;cases e5:dkeys ds with
   | none=>rw[e5] at e;cases e
   | some kk=>
    rw[e5] at e;simp only[bind_some] at e;split at e
    ·rename_i ks xs e6;split at e
     ·rename_i hl;cases e;refine⟨P,O,L,ρ,w1,ρ1,rp,e1,fun v H1 H1' r1 s1 d1=>?_⟩;obtain⟨P',r1',k1⟩:=hold (r1.grow s1) (d1.fz r1 s1);refine⟨P',O,L,ρ1,_,ρ2,r1',e2,fun v2 H2 H2' r2 s2 d2=>?_⟩;have d2:σ[i]? =some (some v2):=d2;refine⟨P',O,L,ρ2,ws,ρ3,r2.grow s2,e3,fun us H3 r3 l3=>?_⟩;obtain⟨r3',d3⟩:=k1 _ H3 r3;obtain⟨r4,l4,_⟩:=o6 (vs:=v::us) r3' e4 ⟨v,us,rfl,d3,l3⟩;rw[DenL] at l4;obtain⟨v',us',ev,hd',ld⟩:=l4;cases ev;have ek:=Z4 e5 ld;refine⟨?_,fun p hp=>?_⟩
      ·rw[<-c5 ld];exact zG hl.2 k8
      ·have sm:=g9 hp (.tup us);have r5:=r4.grow sm;obtain⟨w0,q0,ow⟩:=w5 e6;obtain⟨a,h1,vs,h4,hkl,lz⟩:=r5.obj q0 ow;rw[d2] at h1;cases h1;have hlv:ks.length=vs.length:=by rw[hkl,c5 lz]
       refine⟨a,_,rfl,DPut.t (k:=kk) h4 (by rw[<-ek];exact m9) ?_,?_⟩
       ·rw[List.length_zip,hlv,Nat.min_self,<-hlv];exact zF hl.1 k8
       ·rw[a86 hlv];have g0:∀u,Go (AvO O ρ4 σ) (AvO O ρ4 σ) (fun b=>b=a) (upd H3 p (.tup us)) (upd (upd H3 p (.tup us)) a u):=fun u=>⟨fun b o eb nb=>by rw[g5 nb];exact eb,fun b z=>by rw[z];exact⟨.inr ⟨i,w0,_,q0,ow,d2⟩,_,h4,trivial⟩,fun b z=>.inl z⟩
        exact q σ _ (r5.mut (d:=.dT (putKs ks kk) (putX ks xs kk d)) e6 d2 (fun b o eb nb=>by rw[g5 nb];exact eb) ⟨_,m9,a3n hkl,v7 (g0 _) _ _ (a7Y lz (J6 sm hd'))⟩)
     ·cases e
    ·cases e
  ·cases e
 ·cases e
end
def kd1:Key->D
 | .inl i=>.int i
 | .inr x=>.str x
def keyD (k:List Key):D:=.tup (k.map kd1)
theorem a9G {K:PySem.W.Frag}{A:Av}{H:Hp}(k:Key):Den K A H (kd1 k) (kV k):=by
 cases k with
 | inl i=>exact B5.mpr rfl
 | inr x=>exact C3.mpr rfl
theorem a3U {K:PySem.W.Frag}{A:Av}{H:Hp}:∀ks:List Key,DenL K A H (ks.map kd1) (ks.map kV)
 | []=>j3
 | k::ks=>by rw[zJ,zJ];exact i0 (a9G k) (a3U ks)
inductive KeysAt (H:Hp):List (List Key)->List Addr->Prop where
 | nil:KeysAt H [] []
 | cons {k:List Key} {ks:List (List Key)} {b:Addr} {bs:List Addr} (q:H b=some (.tup (k.map kV))) (r:KeysAt H ks bs):KeysAt H (k::ks) (b::bs)
theorem a2B {H:Hp}:∀{kvs:List (List Key×V)} {xs:List (List Key×Addr×Value)},KT H kvs xs->KeysAt H (kvs.map (·.1)) (xs.map (·.2.1))
 | _,_,.nil=>.nil
 | _,_,.cons h t=>.cons h.2.1 (a2B t)
theorem KeysAt.den {K:PySem.W.Frag}{A:Av}{H:Hp}:∀{ks:List (List Key)} {bs:List Addr},KeysAt H ks bs->DenL K A H (ks.map keyD) (bs.map V.ref)
 | _,_,.nil=>j3
 | _,_,.cons q r=>by
  rw[zJ,zJ];refine i0 ?_ r.den;unfold keyD;rw[Den];exact⟨_,_,rfl,.inl (.inl q),a3U _⟩
section
variable {X:Cx}{a e e' o:Expr}{es:List Expr}{pos p:Pos}{h:FX}{u:FT}{fa:FA}
theorem a3f (hc:X.calm=true):CallR X (.type "list") (fun vs H Q=>∃(p:Addr) (kvs:List (List Key×V)),vs=[.ref p]/\H p=some (.dT kvs)/\∀l bs,H l=none->KeysAt H (kvs.map (·.1)) bs->Q (.ref l) (upd H l (.lst (bs.map V.ref)))):=by
 intro pins s σ H vs us Q I r h;obtain⟨p,kvs,rfl,hq,q⟩:=h;obtain⟨u,rfl,ru⟩:=vals1 r;cases ru;obtain⟨z,hs,xs,rel,o,es,h1,h2,h3,h4,h5⟩:=(show ObjOk X.prog X.w H s.heap p (.dT kvs) from I.hok p _ hq);have len:kvs.length=xs.length:=xM rel;have sz:es.size=xs.length:=by rw[<-qW,h4,zC]
 have szl:es.size<=sizeLine:=by rw[sz,<-len];exact z
 refine PySem.W.kdl_call (a42 (es:=es) hs) (I.ok.hd hc) ⟨o,h1,h2,h3⟩ szl fun h' tk acc c' hk hS hacc=>?_;have ea:acc.toList=(xs.map (·.2.1)).map Value.ref:=by
  have e0:(xs.map (·.2.1)).map Value.ref=es.toList.map (·.key):=by rw[h4,zV,zV];rfl
  rw[e0];apply ext_getElem?;intro i;rw[jX,qF,jX]
  by_cases hi:i<es.size
  ·have hi2:i<acc.size:=by rw[hacc.1];exact hi
   obtain⟨e,he,hv⟩:=hacc.2 i acc[i] (by simp[hi2])
   rw[he,Array.getElem?_eq_getElem hi2,hv];rfl
  ·rw[jD (by rw[hacc.1];walk_at "o"),jD (by walk_at "o")];rfl
 refine⟨.ref s.heap.objs.size,_,I.laid (t':=tk) (o:=.lst ((xs.map (·.2.1)).map V.ref)) hk (zE _) ⟨?_,acc.toList,c',?_,by rw[Array.toArray_toList];exact hS⟩,rfl,q _ _ (I.hok.fresh (zE _)) (a2B rel)⟩
 ·rw[zC,zC,<-len];exact z
 ·rw[ea];exact Z5 _
def gListD:D->Option W
 | .dT ks _=>some (.o (.lst (ks.map keyD)))
 | d=>gList d
theorem a5I {α:Type}:∀{ks:List α} {vs:List V},ks.length=vs.length->(ks.zip vs).map (·.1)=ks
 | [],_,_=>by simp
 | _::_,[],h=>by simp at h
 | k::ks,v::vs,h=>by rw[jF,zJ,a5I (by simpa using h)]
theorem a7I:PrA X (k1 gListD) (fun xs H Q=>(∃p ys,xs=[.ref p]/\(SqL X.K H p ys\/SqT X.K H p ys)/\∀l,H l=none->Q (.ref l) (upd H l (.lst ys)))\/
  ∃(p:Addr) (kvs:List (List Key×V)),xs=[.ref p]/\H p=some (.dT kvs)/\∀l bs,H l=none->KeysAt H (kvs.map (·.1)) bs->Q (.ref l) (upd H l (.lst (bs.map V.ref)))):=fun A ds w vs H Q hA e l q=>by
 match ds,e,l with
 | [d],e,l=>
  have e:gListD d=some w:=e
  by_cases hd:∃ks xs,d= .dT ks xs
  ·obtain⟨ks,xs,rfl⟩:=hd;cases e;obtain⟨v,rfl,h⟩:=denRL1 l;obtain⟨a,us,rfl,hq,hl,lu⟩:=h;refine .inr ⟨a,_,rfl,hq,fun l bs hp hk=>q _ _ (g9 hp _) (z9 hp ?_)⟩;rw[a5I (by rw[hl,c5 lu])] at hk
   exact hk.den
  ·have e':gList d=some w:=by
    cases d<;>first|exact e|exact absurd ⟨_,_,rfl⟩ hd
   exact .inl (a9j A [d] w vs H Q hA e' l q)
theorem a6Y (hc:X.calm=true)(hm:X.mg "list"=none)(ha:QA X (e::es) fa)(hv:bootBuiltins "list"=some (.type "list"):=by rfl)(hg:Gl X "list":=by rfl)
  (he:starEach (e::es) X.env=(false,eval e X.env)::starEach es X.env:=by rfl) (hpl:(backTo pos (starEach es X.env)).any (·.1)=false:=by rfl):QX X (.Call (.Name "list" p) (e::es) [] pos) (fCall (k1 gListD) fa):=a3W (a2R.or (a3f hc)) a7I hv hm ha hg (by decide) (by decide) he hpl
def mExt (xs ds:List D):Option (W×List D):=match ds with
 | [d]=>(items d).bind fun ys=>if xs.length+ys.length<=lim then some (.v .non,xs++ys) else none
 | _=>none
end
section
variable {f g h:FX}{t:FT}{fa:FA}{ρ ρ1:Ev}{w z:W}{ws:List W}{d e x y:D}{ds xs ys:List D}{i j k:Nat}{m n:Int}{kl:List (List Key)}{kk:List Key}{kq:List Key}
theorem a6L:oIxG (.tup xs) d=oIx (.tup xs) d:=rfl
theorem a6U:oIxG (.lst xs) d=oIx (.lst xs) d:=rfl
theorem b1A (hk:tkey d=some kk)(hl:look kl xs kk=some e):oIxG (.dT kl xs) d=some (.v e):=by
 unfold oIxG;simp only[isDi,jB,lookG,hk,xP,bind_some,hl]
theorem nb_f {k:Bool}:nb false k= .v (.bl k):=rfl
theorem nb_t {k:Bool}:nb true k= .v (.bl (!k)):=rfl
def ge2 (fa:FA):Option (W×Ev)->Option (W×Ev)
 | some p=>fGet (fun _=>some p) fa p.2
 | none=>none
def ge3 (fa:FA) (w:W) (ρ:Ev):Option D->Option (W×Ev)
 | some d=>if isDi d=true then(fa ρ).bind fun q=>(takeAll q.2 q.1).bind fun z=>(dr z.2 w.fz).bind fun x=>match z.1 with
  | [y,e]=>(lookG x y).map fun r=>(.v (r.getD e),z.2)
  | _=>none
  else none
 | none=>none
def ge4 (w:W):Option (List W×Ev)->Option (W×Ev)
 | some q=>(takeAll q.2 q.1).bind fun z=>(dr z.2 w.fz).bind fun x=>match z.1 with
  | [y,e]=>(lookG x y).map fun r=>(.v (r.getD e),z.2)
  | _=>none
 | none=>none
def ge5 (w:W):Option (List D×Ev)->Option (W×Ev)
 | some z=>(dr z.2 w.fz).bind fun x=>match z.1 with
  | [y,e]=>(lookG x y).map fun r=>(.v (r.getD e),z.2)
  | _=>none
 | none=>none
def ge6 (y e:D) (ρ:Ev):Option D->Option (W×Ev)
 | some x=>(lookG x y).map fun r=>(.v (r.getD e),ρ)
 | none=>none
theorem r_ge:fGet f fa ρ=ge2 fa (f ρ):=by unfold ge2;cases e:f ρ with
 | none=>unfold fGet;rw[e];rfl
 | some p=>unfold fGet;rw[e]
theorem r_ge2:ge2 fa (some (w,ρ))=ge3 fa w ρ (dr ρ w.fz):=by unfold ge2 ge3 fGet;dsimp only[bind_some];cases dr ρ w.fz<;>rfl
theorem r_ge3_T:ge3 fa w ρ (some (.dT kl xs))=ge4 w (fa ρ):=by unfold ge3 ge4;simp only[isDi,jB];cases fa ρ<;>rfl
theorem r_ge3_K:ge3 fa w ρ (some (.dK kq xs))=ge4 w (fa ρ):=by unfold ge3 ge4;simp only[isDi,jB];cases fa ρ<;>rfl
theorem r_ge4:ge4 w (some (ws,ρ))=ge5 w (takeAll ρ ws):=by unfold ge4 ge5;dsimp only;cases takeAll ρ ws<;>rfl
theorem r_ge5:ge5 w (some ([y,e],ρ))=ge6 y e ρ (dr ρ w.fz):=by unfold ge5 ge6;dsimp only;cases dr ρ w.fz<;>rfl
theorem a1t:∀ns:List Int,dkeys (ns.map D.int)=some (ns.map Sum.inl)
 | []=>rfl
 | n::ns=>by rw[zJ,dkeys,a1t ns];rfl
theorem a9a (ns:List Int):tkey (tupI ns)=some (ns.map Sum.inl):=a1t ns
def dp2 (fd:FX) (fk:FA):Option (W×Ev)->Option R
 | some p=>fDPutT fd fk (fun _=>some p) p.2
 | none=>none
def dp3 (w:W) (fk:FA):Option (W×Ev)->Option R
 | some q=>match q.1 with
  | .r i=>(fk q.2).bind fun z=>(takeAll z.2 (w.fz::z.1)).bind fun y=>match y.1 with
   | d::ds=>(dkeys ds).bind fun k=>match ownAt y.2 i with
    | some (.dT ks xs)=>if ks.length<lim/\ds.length<=lim then some (.nx (setOwn y.2 i (.dT (putKs ks k) (putX ks xs k d)))) else none
    | _=>none
   | _=>none
  | _=>none
 | none=>none
def dp4 (w:W) (i:Nat):Option (List W×Ev)->Option R
 | some z=>(takeAll z.2 (w.fz::z.1)).bind fun y=>match y.1 with
   | d::ds=>(dkeys ds).bind fun k=>match ownAt y.2 i with
    | some (.dT ks xs)=>if ks.length<lim/\ds.length<=lim then some (.nx (setOwn y.2 i (.dT (putKs ks k) (putX ks xs k d)))) else none
    | _=>none
   | _=>none
 | none=>none
def dp5 (i:Nat):Option (List D×Ev)->Option R
 | some y=>match y.1 with
   | d::ds=>(dkeys ds).bind fun k=>match ownAt y.2 i with
    | some (.dT ks xs)=>if ks.length<lim/\ds.length<=lim then some (.nx (setOwn y.2 i (.dT (putKs ks k) (putX ks xs k d)))) else none
    | _=>none
   | _=>none
 | none=>none
def dp6 (i:Nat) (d:D) (ds:List D) (ρ:Ev):Option (List Key)->Option D->Option R
 | some k,some (.dT ks xs)=>if ks.length<lim/\ds.length<=lim then some (.nx (setOwn ρ i (.dT (putKs ks k) (putX ks xs k d)))) else none
 | _,_=>none
theorem r_dp:fDPutT f fa g ρ=dp2 f fa (g ρ):=by unfold dp2;cases e:g ρ with
 | none=>unfold fDPutT;rw[e];rfl
 | some p=>unfold fDPutT;rw[e]
theorem b0Y:dp2 f fa (some (w,ρ))=dp3 w fa (f ρ):=by unfold dp2 dp3 fDPutT;dsimp only[bind_some];cases f ρ<;>rfl
theorem b0s:dp3 w fa (some (.r i,ρ))=dp4 w i (fa ρ):=by unfold dp3 dp4;dsimp only;cases fa ρ<;>rfl
theorem b0M:dp4 w i (some (ws,ρ))=dp5 i (takeAll ρ (w.fz::ws)):=by unfold dp4 dp5;dsimp only;cases takeAll ρ (w.fz::ws)<;>rfl
theorem b0R:dp5 i (some (d::ds,ρ))=dp6 i d ds ρ (dkeys ds) (ownAt ρ i):=by
 unfold dp5 dp6;dsimp only;cases dkeys ds with
 | none=>cases ownAt ρ i<;>rfl
 | some k=>
  dsimp only[bind_some];cases ownAt ρ i with
  | none=>rfl
  | some x=>cases x<;>rfl
theorem b08:dp6 i d ds ρ (some kk) (some (.dT kl xs))=if kl.length<lim/\ds.length<=lim then some (.nx (setOwn ρ i (.dT (putKs kl kk) (putX kl xs kk d)))) else none:=rfl
theorem b0K:dkeys []=some []:=rfl
theorem b0d:dkeys (.int m::ds)=(dkeys ds).map fun ks=>Sum.inl m::ks:=by rw[dkeys];rfl
theorem b0A:fDNewT ρ=some (.o (.dT [] []),ρ):=rfl
theorem a9X (h:kk∉kl):putKs kl kk=kl++[kk]/\putX kl xs kk d=xs++[d]:=⟨if_neg h,if_neg h⟩
theorem o_bits:oBits (.int n)=some (.v (.int (Builtin.Int.intBits n:Nat))):=by cases n<;>exact rfl
theorem r_ext:mExt xs [d]=(items d).bind fun ys=>if xs.length+ys.length<=lim then some (.v .non,xs++ys) else none:=rfl
theorem b2i:gListD (.dT kl xs)=some (.o (.lst (kl.map keyD))):=rfl
theorem a2q:gListD (.lst xs)=some (.o (.lst xs)):=rfl
theorem b2j:gListD (.tup xs)=some (.o (.lst xs)):=rfl
theorem a87 {ks:List (List Int)}(hi:gSortI (.lst xs)=none)(ht:tupsOf xs=some ks)(h64:ks.length<64)(ne:∀k∈ks,k≠[]):gSort (.lst xs)=some (.o (.lst ((sortK ks).map tupI))):=by
 unfold gSort gSortT;rw[hi];simp only[keysOf,ht,bind_some];exact if_pos ⟨h64,ne⟩
theorem a6c {k:List Int}{ks:List (List Int)}:gSortI (.lst ((k::ks).map tupI))=none:=rfl
theorem a3J {ks:List (List Int)}(h64:ks.length<64)(ne:∀k∈ks,k≠[]):gSort (.lst (ks.map tupI))=some (.o (.lst ((sortK ks).map tupI))):=by
 cases ks with
 | nil=>simp[gSort,gSortI,intsOf,sortI,sortK]
 | cons k ks=>exact a87 a6c (a1I _) h64 ne
def td2 (k j:Nat) (t:FT) (fa:FA):Option Ev->Option Ev
 | some ρ1=>(t ρ1).bind fun p=>if p.1=true then(fa p.2).bind (putTo k j) else some p.2
 | none=>none
def td3 (k j:Nat) (fa:FA):Option (Bool×Ev)->Option Ev
 | some p=>if p.1=true then(fa p.2).bind (putTo k j) else some p.2
 | none=>none
def td4 (k j:Nat):Option (List W×Ev)->Option Ev
 | some p=>putTo k j p
 | none=>none
def pt2 (k j:Nat):Option (List D×Ev)->Option Ev
 | some q=>(dkeys q.1).bind fun kk=>match q.2[j]? with
  | some (some (.v d))=>match ownAt q.2 k with
   | some (.dT ks zs)=>if ks.length<lim/\q.1.length<=lim then some (setOwn q.2 k (.dT (putKs ks kk) (putX ks zs kk d))) else none
   | _=>none
  | _=>none
 | none=>none
def pt3 (k:Nat) (n:Nat) (ρ:Ev):Option (List Key)->Option (Option W)->Option D->Option Ev
 | some kk,some (some (.v d)),some (.dT ks zs)=>if ks.length<lim/\n<=lim then some (setOwn ρ k (.dT (putKs ks kk) (putX ks zs kk d))) else none
 | _,_,_=>none
theorem r_td {gf:FG}:turnCD k gf t fa j d ρ=td2 k j t fa (gf d ρ):=by unfold turnCD td2;cases gf d ρ<;>rfl
theorem r_td2:td2 k j t fa (some ρ)=td3 k j fa (t ρ):=by unfold td2 td3;dsimp only;cases t ρ<;>rfl
theorem r_td3:td3 k j fa (some (true,ρ))=td4 k j (fa ρ):=by unfold td3 td4;simp only[jB];cases fa ρ<;>rfl
theorem r_td4:td4 k j (some (ws,ρ))=pt2 k j (takeAll ρ ws):=by unfold td4 putTo pt2;dsimp only;cases takeAll ρ ws<;>rfl
theorem r_pt2:pt2 k j (some (ds,ρ))=pt3 k ds.length ρ (dkeys ds) ρ[j]? (ownAt ρ k):=by
 unfold pt2 pt3;dsimp only;cases dkeys ds with
 | none=>rfl
 | some kk=>
  dsimp only[bind_some];cases ρ[j]? with
  | none=>rfl
  | some o=>
   cases o with
   | none=>rfl
   | some w=>
    cases w with
    | v d=>
     cases ownAt ρ k with
     | none=>rfl
     | some x=>cases x<;>rfl
    | _=>rfl
theorem r_pt3 {n:Nat}:pt3 k n ρ (some kk) (some (some (.v d))) (some (.dT kl xs))=if kl.length<lim/\n<=lim then some (setOwn ρ k (.dT (putKs kl kk) (putX kl xs kk d))) else none:=rfl
end
abbrev Tie:=Int×Int×Int
def tieD (t:Tie):D:=.tup [.int t.1,.int t.2.1,.int t.2.2]
def webD (n:Int) (ts:List Tie):D:=.tup [.int n,.tup (ts.map tieD)]
def tkK (t:Tie):List Key:=[Sum.inl t.1,Sum.inl t.2.1]
def parK (n:Int) (ts:List Tie):List (List Int):=((List.range n.toNat).map fun(i:Nat)=>[(i:Int)])++ts.map fun t=>[t.1,t.2.1]
structure WebOk (n:Int) (ts:List Tie):Prop where
 n1:1<=n/\n<=8
 t:∀t∈ts,0<=t.1/\t.1<t.2.1/\t.2.1<n/\1<=t.2.2/\t.2.2<=10^15
 nd:(ts.map fun t=>(t.1,t.2.1)).Nodup
 len:ts.length<=55
def gainOf:List Tie->List Int->Int
 | [],_=>0
 | t::ts,k=>if[t.1,t.2.1]=k then t.2.2 else gainOf ts k
theorem a9m {a b:List Int}(h:a.map (Sum.inl:Int->Key)=b.map Sum.inl):a=b:=by
 induction a generalizing b with
 | nil=>cases b with|nil=>rfl|cons _ _=>cases h
 | cons x a ih=>cases b with
  | nil=>cases h
  | cons y b=>rw[zJ,zJ] at h;injection h with h1 h2;injection h1 with h1;rw[h1,ih h2]
theorem b1D (t:Tie):tkK t=[t.1,t.2.1].map Sum.inl:=rfl
theorem R7:∀{ts:List Tie} {k:List Int},k∈(ts.map fun t=>[t.1,t.2.1])->look (ts.map tkK) (ts.map fun t=>D.int t.2.2) (k.map Sum.inl)=some (.int (gainOf ts k))
 | [],k,h=>by cases h
 | t::ts,k,h=>by
  rw[zJ,zJ,look,gainOf]
  by_cases e:[t.1,t.2.1]=k
  ·rw[if_pos (by rw[b1D,e]),if_pos e]
  ·rw[if_neg (show ¬tkK t=k.map Sum.inl from fun z=>e (a9m z)),if_neg e];rcases zN.mp h with rfl|h
   ·exact absurd rfl e
   ·exact R7 h
theorem a3l {n:Int}{ts:List Tie}(h:WebOk n ts):(parK n ts).length<=63/\∀k∈parK n ts,k≠[]:=by
 unfold parK;refine⟨by rw[qE,zC,zC,List.length_range];have:=h.n1;have:=h.len;walk_at "o",fun k hk=>?_⟩
 rcases qY.mp hk with h|h
 ·obtain⟨i,_,rfl⟩:=qA.mp h;simp
 ·obtain⟨t,_,rfl⟩:=qA.mp h;simp
theorem a4K (ts:List Tie):lfL (ts.map tieD)=true:=B6 fun x hx=>by
 obtain⟨t,_,rfl⟩:=qA.mp hx;rfl
theorem a9i (k:List Int):lf (tupI k)=true:=a3r k
theorem W3 (ks:List (List Int)):lfL (ks.map tupI)=true:=B6 fun x hx=>by
 obtain⟨k,_,rfl⟩:=qA.mp hx;exact a9i k
theorem a0N {C:Prop}{b:D->FS}{xs:List D}{ρ:Ev}{r:Option R}(e:loopF b xs ρ=r)(I:Nat->Ev->Prop)(h0:I 0 ρ)(st:∀i x ρ,xs[i]? =some x->I i ρ->∃ρ',b x ρ=some (.nx ρ')/\I (i+1) ρ')(c:∀ρ',r=some (.nx ρ')->I xs.length ρ'->C):C:=by
 have key:∀(ys:List D) (k:Nat) (ρ:Ev),xs.drop k=ys->I k ρ->k<=xs.length->∃ρ',loopF b ys ρ=some (.nx ρ')/\I xs.length ρ':=by
  intro ys
  induction ys with
  | nil=>
   intro k ρ hk h hl
   have:k=xs.length:=by
    have:=List.drop_eq_nil_iff.mp hk;walk_at "o"
   exact⟨ρ,rfl,this▸h⟩
  | cons y ys ih=>
   intro k ρ hk h hl;have hx:xs[k]? =some y:=by
    have:=qN (·[0]?) hk
    simpa using this
   have lt:=(zM.mp hx).1;obtain⟨ρ1,e1,i1⟩:=st k y ρ hx h;obtain⟨ρ2,e2,i2⟩:=ih (k+1) ρ1 (by rw[<-List.drop_drop,hk];rfl) i1 lt
   exact⟨ρ2,by rw[loopF,e1];exact e2,i2⟩
 obtain⟨ρ',e',i⟩:=key xs 0 ρ (by simp) h0 (qV _)
 exact c ρ' (e.symm.trans e') i
theorem a21 {m:Int}{n i:Nat}{x:D}(h:(rngD m n)[i]? =some x):x= .int (m+i)/\i<n:=by
 unfold rngD at h;rw[qF] at h
 by_cases hi:i<n
 ·rw[getElem?_range hi] at h;cases h;exact⟨rfl,hi⟩
 ·rw[jH (by simpa using hi)] at h;cases h
def Sm (n:Int):Prop:=0<n/\n.natAbs<2^390
theorem Sm.pos {n:Int}(h:Sm n):0<n:=h.1
def Pot (b:Nat) (d:D):Prop:=∃r c s:Int,d= .lst [.int r,.int c,.int s]/\0<=c/\c<=b/\0<=s/\s<2147483647
theorem Pot.mono {b b':Nat}{d:D}(h:Pot b d)(hb:b<=b'):Pot b' d:=by
 obtain⟨r,c,s,e,h1,h2,h3⟩:=h;exact⟨r,c,s,e,h1,by walk_at "o",h3⟩
theorem Pot.lf {b:Nat}{d:D}(h:Pot b d):lfC d=true:=by obtain⟨r,c,s,rfl,_⟩:=h;rfl
section
variable {ρ:Ev}{i:Nat}{d:D}{xs:List D}
def fn2 (ρ:Ev):Option (Option W)->Option (List D×Ev)
 | some (some (.v d))=>(items d).map fun xs=>(xs,ρ)
 | some (some (.r _))=>none
 | some (some w)=>match w.own with
  | some (.lst xs)=>some (xs,ρ)
  | _=>none
 | _=>none
def fn3 (ρ:Ev):Option (List D)->Option (List D×Ev)
 | some xs=>some (xs,ρ)
 | none=>none
theorem r_fn:fiName i ρ=fn2 ρ ρ[i]?:=by
 unfold fiName fn2;cases ρ[i]? with
 | none=>rfl
 | some o=>cases o with
  | none=>rfl
  | some w=>cases w<;>rfl
theorem a6Z:fn2 ρ (some (some (.v d)))=fn3 ρ (items d):=by
 show(items d).map _=_;unfold fn3;cases items d<;>rfl
theorem a6W:fn2 ρ (some (some (.o (.lst xs))))=some (xs,ρ):=rfl
theorem r_fn_l:fn2 ρ (some (some (.l (.lst xs))))=some (xs,ρ):=rfl
theorem b0D:fn3 ρ (some xs)=some (xs,ρ):=rfl
end
mutual
def toP:D->PyData
 | .non=>.none
 | .bl b=>.bool b
 | .int i=>.int i
 | .str x=>.str x
 | .tup xs=>.tuple (toPs xs)
 | .lst xs=>.list (toPs xs)
 | _=>.none
def toPs:List D->List PyData
 | []=>[]
 | x::xs=>toP x::toPs xs
end
def txt (d:D):Str:=(toP d).shown
def Sh:Nat->Nat->D->Prop
 | _,n,.int i=>i.natAbs<2^1900/\1910<=n
 | _,n,.non=>5<=n
 | _,n,.bl _=>5<=n
 | k+1,n,.tup xs=>∃m,(∀x∈xs,Sh k m x)/\xs.length*(m+2)+4<=n
 | k+1,n,.lst xs=>∃m,(∀x∈xs,Sh k m x)/\xs.length*(m+2)+4<=n
 | _,_,_=>False
theorem F6 {m:Nat}:∀{xs:List D},(∀x∈xs,(toP x).shown.length<=m)->piled (PyData.shownAll (toPs xs))<=xs.length*(m+2)/\(PyData.shownAll (toPs xs)).length=xs.length
 | [],_=>⟨by rw[toPs,PyData.shownAll,piled_nil];exact qV _,by rw[toPs,PyData.shownAll];rfl⟩
 | x::xs,h=>by
  obtain⟨h1,h2⟩:=F6 (xs:=xs) fun y hy=>h y (zH _ hy);rw[toPs,PyData.shownAll,piled_cons,zZ,zZ,h2,Nat.succ_mul]
  have:=h x zI
  exact⟨by walk_at "o",rfl⟩
theorem a2L (ts:List Str):(tupleText ts).length<=piled ts+3:=by
 unfold tupleText;rw[jN,jN]
 have e1:((("(":String):Str)).length=1:=rfl
 have e3:(((if ts.length==1 then ",)" else ")":String):Str)).length<=2:=by split<;>decide
 rw[e1];cases ts with
 | nil=>
  have:(Str.join ", " ([]:List Str)).length=0:=rfl
  walk_at "o"
 | cons t ts=>have:=join_length_add (t::ts) (by simp);walk_at "o"
theorem a3S (ts:List Str):(listText ts).length<=piled ts+4:=by
 unfold listText
 have e1:((("]":String):Str)).length=1:=rfl
 rw[jN,e1];cases ts with
 | nil=>
  have:(textFrom 0 "[" []).length=1:=rfl
  walk_at "o"
 | cons t ts=>
  rw[textFrom,textFrom_length_pos _ _ _ (by decide),piled_cons,jN,jN]
  have e2:(((("[":String):Str))).length=1:=rfl
  have e3:(((if 0>0 then ", " else "":String):Str)).length=0:=rfl;walk_at "o"
structure ShP (k n:Nat) (p:PyData):Prop where
 sh:p.showable=true
 nd:p.hasDict=false
 dp:p.depth<=k
 ln:p.shown.length<=n
theorem a3d {k m:Nat}:∀{xs:List D},(∀x∈xs,ShP k m (toP x))->PyData.showableAll (toPs xs)=true/\PyData.hasDictAll (toPs xs)=false/\PyData.depthAll (toPs xs)<=k
 | [],_=>⟨rfl,rfl,qV _⟩
 | x::xs,h=>by
  obtain⟨h1,h2,h3⟩:=a3d (xs:=xs) fun y hy=>h y (zH _ hy);have hx:=h x zI;rw[toPs,PyData.showableAll,PyData.hasDictAll,PyData.depthAll,hx.sh,hx.nd,h1,h2]
  have:=hx.dp
  exact⟨rfl,rfl,by walk_at "o"⟩
theorem b10 {k n:Nat}{i:Int}(h:i.natAbs<2^1900)(hn:1910<=n):ShP k n (toP (.int i)):=by
 have hl:i.natAbs.log2<1901:=by
  by_cases z:i.natAbs=0
  ·rw[z];decide
  ·exact zF ((Nat.log2_lt z).mpr h) (by decide)
 rw[toP];refine⟨?_,by rw[PyData.hasDict],by rw[PyData.depth];exact qV _,?_⟩
 ·rw[PyData.showable];exact zR (zF hl (by decide))
 ·rw[PyData.shown,PySem.ofString_length]
  have:=int_text_length_le (k:=1901) (by decide) hl
  walk_at "o"
theorem a8l:∀(k n:Nat) (d:D),Sh k n d->ShP k n (toP d)
 | k,n,.int i,h=>by unfold Sh at h;exact b10 h.1 h.2
 | k,n,.non,h=>by
  unfold Sh at h;rw[toP];exact⟨by rw[PyData.showable],by rw[PyData.hasDict],by rw[PyData.depth];exact qV _,by rw[PyData.shown];exact zG (by decide) h⟩
 | k,n,.bl b,h=>by
  unfold Sh at h;rw[toP];refine⟨by rw[PyData.showable],by rw[PyData.hasDict],by rw[PyData.depth];exact qV _,?_⟩
  rw[PyData.shown];refine zG ?_ h;cases b<;>decide
 | k+1,n,.tup xs,h=>by
  unfold Sh at h;obtain⟨m,hm,hn⟩:=h;have hx:=fun x hx=>a8l k m x (hm x hx);obtain⟨h1,h2,h3⟩:=a3d hx;obtain⟨h4,h5⟩:=F6 fun x h=>(hx x h).ln;rw[toP];refine⟨by rw[PyData.showable];exact h1,by rw[PyData.hasDict];exact h2,by rw[PyData.depth];walk_at "o",?_⟩
  rw[PyData.shown]
  have:=a2L (PyData.shownAll (toPs xs))
  walk_at "o"
 | k+1,n,.lst xs,h=>by
  unfold Sh at h;obtain⟨m,hm,hn⟩:=h;have hx:=fun x hx=>a8l k m x (hm x hx);obtain⟨h1,h2,h3⟩:=a3d hx;obtain⟨h4,h5⟩:=F6 fun x h=>(hx x h).ln;rw[toP];refine⟨by rw[PyData.showable];exact h1,by rw[PyData.hasDict];exact h2,by rw[PyData.depth];walk_at "o",?_⟩
  rw[PyData.shown]
  have:=a3S (PyData.shownAll (toPs xs))
  walk_at "o"
 | 0,n,.tup xs,h=>by unfold Sh at h;exact h.elim
 | 0,n,.lst xs,h=>by unfold Sh at h;exact h.elim
 | 0,n,.str x,h=>by unfold Sh at h;exact h.elim
 | k+1,n,.str x,h=>by unfold Sh at h;exact h.elim
 | 0,n,.dT _ _,h=>by unfold Sh at h;exact h.elim
 | k+1,n,.dT _ _,h=>by unfold Sh at h;exact h.elim
 | 0,n,.dK _ _,h=>by unfold Sh at h;exact h.elim
 | k+1,n,.dK _ _,h=>by unfold Sh at h;exact h.elim
 | 0,n,.exn _,h=>by unfold Sh at h;exact h.elim
 | k+1,n,.exn _,h=>by unfold Sh at h;exact h.elim
section
variable {X:Cx}{pins:List (Addr×PySem.Obj)}{σ:L2.St}{H:Hp}{s:Shared}{A:Av}
theorem a0b (I:Inv X pins σ H s){P:D->Prop}(ih:∀d,P d->∀v u,Den X.K A H d v->RelV v u->∃as,Reads s.heap u (toP d) as):∀{xs:List D} {vs:List V} {us:List Value},(∀x∈xs,P x)->DenL X.K A H xs vs->Vals vs us->∃as,ReadsAll s.heap us (toPs xs) as
 | [],vs,us,_,l,r=>by rw[DenL] at l;subst l;cases r;exact⟨[],.nil⟩
 | x::xs,vs,us,hp,l,r=>by
  rw[DenL] at l;obtain⟨v,rs,rfl,hd,l⟩:=l;cases r with
  | cons r1 r2=>
   obtain⟨as,ha⟩:=ih x (hp x zI) _ _ hd r1;obtain⟨bs,hb⟩:=a0b I ih (fun y hy=>hp y (zH _ hy)) l r2;exact⟨as++bs,.cons ha hb⟩
theorem a1G (I:Inv X pins σ H s):∀(k n:Nat) (d:D),Sh k n d->∀v u,DenR X.K A H d v->RelV v u->∃as,Reads s.heap u (toP d) as
 | k,n,.int i,h,v,u,hd,r=>by
  have hd:Den X.K A H (.int i) v:=hd;rw[Den] at hd;subst hd;obtain⟨t,rfl⟩:=r;exact⟨[],by rw[toP];exact .int i t⟩
 | k,n,.non,h,v,u,hd,r=>by
  have hd:Den X.K A H .non v:=hd;rw[Den] at hd;subst hd;cases r;exact⟨[],by rw[toP];exact .none⟩
 | k,n,.bl b,h,v,u,hd,r=>by
  have hd:Den X.K A H (.bl b) v:=hd;rw[Den] at hd;subst hd;cases r;exact⟨[],by rw[toP];exact .bool b⟩
 | k+1,n,.tup xs,h,v,u,hd,r=>by
  unfold Sh at h;obtain⟨m,hm,hn⟩:=h;have hd:Den X.K A H (.tup xs) v:=hd;rw[Den] at hd;obtain⟨a,vs,rfl,hq,l⟩:=hd;cases r;obtain⟨its,rv,⟨o,e1,e2,nn,e3⟩,_⟩:=I.tuple hq;obtain⟨as,ha⟩:=a0b I (P:=Sh k m) (fun d hp v u hd r=>a1G I k m d hp v u (G3 hd) r) hm l rv;exact⟨as,by rw[toP];exact .tuple e1 e2 e3 (by simpa using ha)⟩
 | k+1,n,.lst xs,h,v,u,hd,r=>by
  unfold Sh at h;obtain⟨m,hm,hn⟩:=h;obtain⟨a,vs,rfl,hq,l⟩:=hd;cases r;obtain⟨its,rv,⟨o,nn,e1,e2,_,e3⟩,_⟩:=I.list hq;obtain⟨as,ha⟩:=a0b I (P:=Sh k m) (fun d hp v u hd r=>a1G I k m d hp v u (G3 hd) r) hm l rv;exact⟨_,by rw[toP];exact .list e1 e2 e3 (by simpa using ha)⟩
 | 0,n,.tup xs,h,_,_,_,_=>by unfold Sh at h;exact h.elim
 | 0,n,.lst xs,h,_,_,_,_=>by unfold Sh at h;exact h.elim
 | 0,n,.str x,h,_,_,_,_=>by unfold Sh at h;exact h.elim
 | k+1,n,.str x,h,_,_,_,_=>by unfold Sh at h;exact h.elim
 | 0,n,.dT _ _,h,_,_,_,_=>by unfold Sh at h;exact h.elim
 | k+1,n,.dT _ _,h,_,_,_,_=>by unfold Sh at h;exact h.elim
 | 0,n,.dK _ _,h,_,_,_,_=>by unfold Sh at h;exact h.elim
 | k+1,n,.dK _ _,h,_,_,_,_=>by unfold Sh at h;exact h.elim
 | 0,n,.exn _,h,_,_,_,_=>by unfold Sh at h;exact h.elim
 | k+1,n,.exn _,h,_,_,_,_=>by unfold Sh at h;exact h.elim
def rStr (K:PySem.W.Frag):List V->Hp->VK->Prop:=fun xs H Q=>(∃i,xs=[.int i]/\i.natAbs.log2<1920/\Q (.str (toString i)) H)\/∃(A:Av) (d:D) (a:Addr),xs=[.ref a]/\DenR K A H d (.ref a)/\Sh 8 10000000 d/\Q (.str (txt d)) H
theorem R1 {k:Nat}(hr:Room k X.A):CallR X (.type "str") (rStr X.K):=by
 intro pins s σ H xs us Q I r h;rcases h with h|⟨A,d,a,rfl,hd,hs,q⟩
 ·exact a3c pins s σ H xs us Q I r h
 ·obtain⟨u,rfl,r1⟩:=vals1 r;cases r1;obtain⟨as,ha⟩:=a1G I 8 _ d hs _ _ hd rfl;have sp:=a8l 8 _ d hs;have hu:=hr.units;have dp:=sp.dp;exact str_of_reads ha sp.sh (PyData.noDict_hsm sp.nd) hr.gd (by walk_at "o") (fun b o e=>e) (fun h' u tk hk=>⟨.str (txt d),H,I.kept hk,⟨u,rfl⟩,q⟩) (zG sp.ln (by decide))
open Classical in
def gStrD:D->Option W
 | .tup xs=>if Sh 8 10000000 (.tup xs) then some (.v (.str (txt (.tup xs)))) else none
 | .lst xs=>if Sh 8 10000000 (.lst xs) then some (.v (.str (txt (.lst xs)))) else none
 | d=>gStr d
theorem a0M:PrA X (k1 gStrD) (rStr X.K):=pr1 fun A d w v H Q e h q=>by
 cases d with
 | tup xs=>
  simp only[gStrD] at e;split at e
  ·rename_i hs;cases e;have h':Den X.K A H (.tup xs) v:=h;rw[Den] at h';obtain⟨a,vs,rfl,_⟩:=h';exact .inr ⟨A,_,a,rfl,h,hs,q _ H (Same.refl H) C9⟩
  ·cases e
 | lst xs=>
  simp only[gStrD] at e;split at e
  ·rename_i hs;cases e;obtain⟨a,vs,rfl,_⟩:=id h;exact .inr ⟨A,_,a,rfl,h,hs,q _ H (Same.refl H) C9⟩
  ·cases e
 | int i=>
  simp only[gStrD,gStr] at e;split at e
  ·rename_i hl;cases e;refine .inl ⟨i,by rw[h7 h],?_,q _ H (Same.refl H) C9⟩
   by_cases z:i.natAbs=0
   ·rw[z];decide
   ·exact zF ((Nat.log2_lt z).mpr hl) (by decide)
  ·cases e
 | _=>cases e
end
section
variable {X:Cx}{a:Expr}{f:FX}{pos:Pos}
theorem a89 {ta:TE}(ha:PE X a ta):PE X (.UnaryOp .Not a pos) (fun σ H Q=>ta σ H fun x H'=>∃k,TruV X.K x H' k/\Q (.bl (!k)) H'):=by
 intro pins s σ H Q I h;refine UnaryOp_ (thn (ha pins s σ H _ I h) fun v s1 ⟨x,H1,I1,r1,q1⟩=>?_);obtain⟨k,q1,q2⟩:=q1;exact not_of (zY (a7F pins s1 σ H1 x v (fun k' H'=>Q (.bl (!k')) H') I1 r1 ⟨k,q1,q2⟩) (fun b s2 ⟨H2,I2,q3⟩=>⟨.bl (!b),H2,I2,rfl,q3⟩) (fun _ _ z=>z))
def fNotT (f:FX):FX:=fun ρ=>(fTru f ρ).map fun p=>(.v (.bl (!p.1)),p.2)
theorem a9d (ha:QX X a f):QX X (.UnaryOp .Not a pos) (fNotT f):=⟨PE.weak (a89 ha.to) fun σ H Q h0=>tXe h0 fun P O L ρ w0 ρ' r e q=>by
 unfold fNotT fTru at e;cases e1:f ρ with
 | none=>rw[e1] at e;cases e
 | some p=>
  obtain⟨w,ρ1⟩:=p;rw[e1] at e;simp only[bind_some] at e;cases e2:dr ρ1 w.fz with
  | none=>rw[e2] at e;cases e
  | some d=>
   rw[e2] at e;simp only[bind_some] at e;cases e3:truth d with
   | none=>rw[e3] at e;cases e
   | some k'=>
    rw[e3] at e;cases e
    exact⟨P,O,L,ρ,w,_,r,e1,fun v H1 H' r1 s1 d1=>⟨k',a5m e3 (C4 (r1.grow s1) e2 (d1.fz r1 s1)),q _ H' H' (r1.grow s1) (Same.refl _) C1⟩⟩⟩
end
section
variable {f:FX}{ρ:Ev}{k:Bool}
def nt2:Option (Bool×Ev)->Option (W×Ev)
 | some p=>some (.v (.bl (!p.1)),p.2)
 | none=>none
theorem r_nt:fNotT f ρ=nt2 (tru2 (f ρ)):=by unfold fNotT;rw[a8i];unfold nt2;cases tru2 (f ρ)<;>rfl
theorem b0S:nt2 (some (k,ρ))=some (.v (.bl (!k)),ρ):=rfl
end
def key2 (t:Tie):List Int:=[t.1,t.2.1]
theorem a8L {t u:Tie}(h:key2 t=key2 u):t.1=u.1/\t.2.1=u.2.1:=by
 unfold key2 at h;injection h with h1 h2
 injection h2 with h2 _
 exact⟨h1,h2⟩
theorem a9H {ts:List Tie}:(ts.map fun t=>(t.1,t.2.1)).Nodup↔(ts.map key2).Nodup:=by
 rw[List.Nodup,List.pairwise_map,List.Nodup,List.pairwise_map];constructor
 ·exact fun h=>h.imp fun{a b} hab z=>hab (by obtain⟨z1,z2⟩:=a8L z;rw[z1,z2])
 ·exact fun h=>h.imp fun{a b} hab z=>hab (by injection z with z1 z2;unfold key2;rw[z1,z2])
theorem a05:∀{ts:List Tie},(ts.map key2).Nodup->∀{t:Tie},t∈ts->gainOf ts (key2 t)=t.2.2
 | [],_,t,h=>by cases h
 | u::ts,nd,t,h=>by
  rw[zJ,nodup_cons] at nd;rw[gainOf];rcases zN.mp h with rfl|h
  ·exact if_pos rfl
  ·rw[if_neg fun z=>nd.1 (by rw[show key2 u=key2 t from z];exact qA.mpr ⟨t,h,rfl⟩)]
   exact a05 nd.2 h
def tieOf (ts:List Tie) (k:List Int):Tie:=(k.getD 0 0,k.getD 1 0,gainOf ts k)
def resort (ts:List Tie):List Tie:=(sortK (ts.map key2)).map (tieOf ts)
theorem a0z {ts:List Tie}(nd:(ts.map key2).Nodup):(resort ts).Perm ts:=by
 unfold resort;refine((w8 (ts.map key2)).map (tieOf ts)).trans ?_;rw[zV]
 have:ts.map (tieOf ts∘key2)=ts:=by
  conv=>rhs;rw[<-map_id ts]
  apply qM;intro t ht;show(t.1,t.2.1,gainOf ts (key2 t))=t;rw[a05 nd ht]
 rw[this]
theorem WebOk.perm {n:Int}{ts us:List Tie}(h:WebOk n us)(p:ts.Perm us):WebOk n ts where
 n1:=h.n1
 t:=fun t ht=>h.t t (p.mem_iff.mp ht)
 nd:=(p.map _).nodup_iff.mpr h.nd
 len:=by rw[p.length_eq];exact h.len
theorem WebOk.nk {n:Int}{ts:List Tie}(h:WebOk n ts):(ts.map key2).Nodup:=a9H.mp h.nd
structure Bq (m:Nat) (q:Rat):Prop where
 nn:0<=q
 le:q<=((10^12:Int):Rat)
 dn:q.den<2^m
theorem Bq.sz {m:Nat}{q:Rat}(h:Bq m q):Sz (m+41) q:=by
 refine⟨?_,zF h.dn (qU (by decide) (by walk_at "o"))⟩
 have h1:=Rat.num_nonneg.mpr h.nn;have h2:=(Rat.le_iff _ _).mp h.le;rw[Rat.num_intCast,Rat.den_intCast] at h2;have h3:q.num<=10^12*(q.den:Int):=by
  have:q.num*((1:Nat):Int)=q.num:=by walk_at "o"
  rw[this] at h2;exact h2
 have h4:(q.num.natAbs:Int)<=10^12*(q.den:Int):=by walk_at "o"
 have h5:q.num.natAbs<=10^12*q.den:=by exact_mod_cast h4
 have h6:10^12*q.den<2^41*2^m:=Nat.mul_lt_mul'' (by decide) h.dn
 rw[<-Nat.pow_add,Nat.add_comm] at h6;walk_at "o"
section
variable {X:Cx}{a b:Expr}{f g:FX}{pos:Pos}
def rCatT0 (K:PySem.W.Frag):R2:=fun x y H Q=>∃a b ys,x= .ref a/\y= .ref b/\SqT K H a []/\SqT K H b ys/\Q (.ref b) H
theorem a8n:OpR X (binaryOp .Add) (rCatT0 X.K):=by
 intro pins s σ H x y v u Q I rx ry h;obtain⟨a,b,ys,rfl,rfl,ha,hb,q⟩:=h;cases rx;cases ry;obtain⟨its,r1,p1,_⟩:=I.tuple ha;obtain⟨its2,r2,p2,_⟩:=I.tuple hb;have e0:its=[]:=r1.nil_iff.mpr rfl;subst e0;obtain⟨⟨cls,dd,data,sl⟩,ho,hc,n,hd⟩:=p1;obtain⟨⟨cls2,dd2,data2,sl2⟩,ho2,hc2,n2,hd2⟩:=p2;simp only at hc hd hc2 hd2;subst hc hd hc2 hd2;exact concat_meets ⟨_,ho,rfl⟩ ⟨_,ho2,rfl⟩ noFill_tuple_add seq_tuple_add PySem.F.slot_tuple_add PySem.F.entry_tuple_add (PySem.F.args_tuple_add_2 _ _) (tuple_addW0 a b _ _ n n2 dd dd2 sl sl2 rfl) ⟨ho,ho2,.ref b,H,I,rfl,q⟩
def oAddT:D->D->Option W
 | .tup xs,.tup ys=>if xs.length+ys.length<=lim then some (.v (.tup (xs++ys))) else none
 | _,_=>none
theorem a9y (ha:QX X a f)(hb:QX X b g):QX X (.BinOp a .Add b pos) (fBin oAddT f g):=Q3 (a8n.or a5s) (by
 intro A x y w v u H Q _ e hx hy q;cases x<;>cases y<;>simp only[oAddT] at e<;>try cases e
 rename_i xs ys;split at e
 ·rename_i hl;cases e;have hx:Den X.K A H (.tup xs) v:=hx;have hy:Den X.K A H (.tup ys) u:=hy;rw[Den] at hx hy;obtain⟨a,vs,ev,ha,la⟩:=hx;obtain⟨b,us,eu,hb,lb⟩:=hy
  by_cases h0:xs=[]
  ·subst h0;have z:vs=[]:=xO.mp (c5 la).symm;subst z;refine .inl ⟨a,b,us,ev,eu,ha,hb,q _ H (Same.refl H) ?_⟩;show Den _ _ _ _ _;rw[nil_append,Den];exact⟨b,us,rfl,hb,lb⟩
  ·refine .inr ⟨a,b,vs,us,ev,eu,ha,hb,fun z=>?_,?_,fun z=>?_,fun _ p hp=>q _ _ (g9 hp _) (F0 hp (t7 la lb))⟩
   rotate_left 2
   ·subst z;have z:ys=[]:=xO.mp (c5 lb);subst z;refine q _ H (Same.refl H) ?_;show Den _ _ _ _ _;rw[append_nil,Den];exact⟨a,vs,rfl,ha,la⟩
   ·subst z;exact h0 (xO.mp (c5 la))
   ·rw[<-c5 la,<-c5 lb];exact zG hl k8
 ·cases e) ha hb
theorem a7U {xs ys:List D}:oAddT (.tup xs) (.tup ys)=if xs.length+ys.length<=lim then some (.v (.tup (xs++ys))) else none:=rfl
end
abbrev FP:=Ev->Option W
def tP (X:Cx) (f:FP):TE:=fun σ H Q=>∃P O L ρ w,Rep X P O L ρ σ H/\f ρ=some w/\∀v H1 H',Same H H1->Same H1 H'->DenW X.K (AvO O ρ σ) σ H1 H' w v->Q v H'
structure QP (X:Cx) (e:Expr) (f:FP):Prop where
 to:PE X e (tP X f)
theorem a3z {K:PySem.W.Frag}{A:Av}{H:Hp}:∀{ds:List D} {vs:List V},DenL K A H ds vs->DenL K A H ds.reverse vs.reverse
 | [],_,h=>by rw[DenL] at h;subst h;exact j3
 | d::ds,_,h=>by
  rw[DenL] at h;obtain⟨v,r,rfl,q,l⟩:=h;rw[reverse_cons,reverse_cons];exact t7 (a3z l) (i0 q j3)
section
open Classical in
end
section
variable {X:Cx}{P:List (D×V)}{O:Av}{L:List (Option Nat×Addr)}{ρ:Ev}{σ σ':L2.St}{H:Hp}{pins:List (Addr×PySem.Obj)}{s:Shared}{k:Nat}
theorem Rep.off (r:Rep X P O L ρ σ H){d:D}{a:Addr}(e:ρ[k]? =some (some (.o d)))(ea:σ[k]? =some (some (.ref a))):Rep X P O L (ρ.set k none) σ (fun b=>if b=a then none else H b):=by
 have ow:Ow ρ σ a:=⟨k,_,d,e,rfl,ea⟩;have st:∀{j:Nat} {w:W},(ρ.set k none)[j]? =some (some w)->j≠k/\ρ[j]? =some (some w):=fun{j w} e1=>by
  rcases l7 e1 with ⟨_,z,_⟩|z
  ·cases z
  ·exact z
 have sub:∀b,AvO O (ρ.set k none) σ b->AvO O ρ σ b:=fun b z=>by
  rcases z with z|⟨j,w,c,e1,e2,e3⟩
  ·exact .inl z
  ·exact .inr ⟨j,w,c,(st e1).2,e2,e3⟩
 have g:Go (AvO O ρ σ) (AvO O (ρ.set k none) σ) (fun b=>b=a) H (fun b=>if b=a then none else H b):=⟨fun b o eb nb=>by rw[if_neg nb];exact eb,fun b z=>by rw[z];exact⟨.inr ow,r.owMu ow⟩,fun b z=>.inl (sub b z)⟩
 refine⟨fun b o eb hl=>?_,r.amb,by rw[xN];exact r.len,fun j w ej=>?_,fun j i w w' c c' b e1 e2 e3 e4 e5 e6=>r.inj j i w w' c c' b (st e1).2 e2 e3 (st e4).2 e5 e6,fun j c b e1 e2=>r.new j c b (st e1).2 e2,fun j c e1=>r.lnt j c (st e1).2,fun j b e1=>?_,fun p hp=>m7 g _ _ (r.prot p hp),r.gvl⟩
 ·have nb:b≠a:=fun z=>by have:=r.new k d a e ea;unfold hz at this;rw[if_neg (z▸hl none),<-z,eb] at this;cases this
  rw[if_neg nb];exact r.same b o eb hl
 ·obtain⟨n,ej⟩:=st ej;obtain⟨v,h1,h2⟩:=r.slot j w ej;refine⟨v,h1,D4 g (fun b c ec eb=>?_) h2⟩;subst eb
  have:b≠a:=fun z=>n (r.inj j k w _ c d a ej ec (z▸h1) e rfl ea)
  rw[if_neg this]
 ·obtain⟨c,q1,q2⟩:=r.lnd j b e1;have n:k≠j:=fun z=>by subst z;rw[e] at q1;cases q1
  exact⟨c,by rw[zL n];exact q1,q2⟩
theorem a8H (h:∀(j:Nat) (w:W),ρ[j]? =some (some w)->σ'[j]? =σ[j]?):AvO O ρ σ'=AvO O ρ σ:=funext fun b=>propext (or_congr Iff.rfl ⟨fun⟨j,w,d,e1,e2,e3⟩=>⟨j,w,d,e1,e2,by rw[<-h j w e1];exact e3⟩,fun⟨j,w,d,e1,e2,e3⟩=>⟨j,w,d,e1,e2,by rw[h j w e1];exact e3⟩⟩)
theorem Rep.sig (r:Rep X P O L ρ σ H)(hl:σ'.length=σ.length)(h:∀(j:Nat) (w:W),ρ[j]? =some (some w)->σ'[j]? =σ[j]?):Rep X P O L ρ σ' H:=by
 have av:=a8H (O:=O) h;refine⟨r.same,r.amb,r.len.trans hl.symm,fun j w e=>by rw[h j w e,av];exact r.slot j w e,fun i j w w' d d' b e1 e2 e3 e4 e5 e6=>r.inj i j w w' d d' b e1 e2 (by rw[<-h i w e1];exact e3) e4 e5 (by rw[<-h j w' e4];exact e6),fun i d b e1 e2=>r.new i d b e1 (by rw[<-h i _ e1];exact e2),fun i d e=>by rw[h i _ e];exact r.lnt i d e,fun i b e=>?_,(fun p hp=>by rw[av];exact r.prot p hp),r.gvl⟩
 obtain⟨d,q1,q2⟩:=r.lnd i b e;exact⟨d,q1,by rw[h i _ q1];exact q2⟩
def Hid (X:Cx) (k:Nat):Prop:=∀j x,k<=j->X.N[j]? =some x->¬Vis X.env.scope x
theorem a43 (hk:Hid X k)(I:Inv X pins σ H s)(hl:σ'.length=σ.length)(h:∀j,j<k->σ'[j]? =σ[j]?):Inv X pins σ' H s:=
 ⟨I.ok,I.os,I.bare,I.base,by
  obtain⟨m,hn,q⟩:=I.loc;refine⟨m,hn,fun i x v e1 e2 e3=>q i x v e1 ?_ e3⟩
  have:i<k:=Nat.lt_of_not_le fun z=>hk i x z e1 e3
  rw[<-h i this];exact e2,I.cell,I.free,I.freeC,I.pin,I.hok,hl.trans I.len⟩
end
abbrev FH:=Ev->Option (List D×Ev)
def HidL (ρ:Ev) (σ:L2.St):Nat->List D->List V->Prop
 | _,[],vs=>vs=[]
 | k,d::ds,vs=>∃a r,vs= .ref a::r/\ρ[k]? =some (some (.o d))/\σ[k]? =some (some (.ref a))/\HidL ρ σ (k+1) ds r
def tH (X:Cx) (k:Nat) (F:FH):TA:=fun σ H Q=>∃P O L ρ ds ρ',Rep X P O L ρ σ H/\F ρ=some (ds,ρ')/\∀(vs:List V) (σ':L2.St) (H':Hp),σ'.length=σ.length->(∀j,j<k->σ'[j]? =σ[j]?)->Rep X P O L ρ' σ' H'->HidL ρ' σ' k ds vs->Q vs H'
structure QH (X:Cx) (k:Nat) (es:List Expr) (F:FH):Prop where
 to:PA X es (tH X k F)
def hNil:FH:=fun ρ=>some ([],ρ)
def hPut (k:Nat) (F:FH) (w:W) (ρ:Ev):Option (List D×Ev):=match w,ρ[k]? with
 | .o d,some none=>(F (ρ.set k (some (.o d)))).bind fun q=>match q.2[k]? with
  | some (some (.o d'))=>some (d'::q.1,q.2)
  | _=>none
 | _,_=>none
def hCons (k:Nat) (f:FX) (F:FH):FH:=fun ρ=>(f ρ).bind fun p=>hPut k F p.1 p.2
section
variable {X:Cx}{k:Nat}{e:Expr}{es:List Expr}{f:FX}{F:FH}{pos:Pos}
theorem b1Y:QH X k [] hNil:=⟨PA.weak a0T fun σ H Q h0=>by
 obtain⟨P,O,L,ρ,ds,ρ',r,e,q⟩:=h0;cases e
 exact q [] σ H rfl (fun _ _=>rfl) r rfl⟩
theorem Q8 (hk:Hid X k)(ha:QX X e f)(hr:QH X (k+1) es F)(hs:starEach (e::es) X.env=(false,eval e X.env)::starEach es X.env:=by rfl):QH X k (e::es) (hCons k f F):=⟨by
 intro pos pins s σ H Q I h;obtain⟨P,O,L,ρ,ds,ρ',r,eF,q⟩:=h;unfold hCons at eF;obtain⟨⟨w,ρ1⟩,e1,eF⟩:=obs eF;dsimp only at eF;unfold hPut at eF;split at eF
 ·rename_i d e2;obtain⟨⟨ds2,ρ2⟩,e3,eF⟩:=obs eF;dsimp only at eF;split at eF
  ·rename_i d' e4;cases eF;have hkl:∀{a:Addr},k<σ.length->(σ.set k (some (V.ref a)))[k]? =some (some (V.ref a)):=fun h=>w4 h;rw[hs];show wpAny _ _ (spliced ((false,eval e X.env)::backTo pos (starEach es X.env))) _ _ s;refine Calls.spliced_cons (thn (ha.to pins s σ H (fun v H1=>∃a,v= .ref a/\Rep X P O L (ρ1.set k (some (.o d))) (σ.set k (some (.ref a))) H1) I ⟨P,O,L,ρ,_,ρ1,r,e1,fun v H1 H' r1 s1 d1=>?_⟩) fun u s1 h0=>ex5 h0 fun x H1 I1 rv1 q1=>?_)
   ·obtain⟨a,rfl,hn,ob⟩:=d1;exact⟨a,rfl,r1.putO s1 (by unfold freeSlot;rw[e2]) hn ob⟩
   ·obtain⟨a,rfl,rp⟩:=q1;have hlt:k<σ.length:=by
     have z:=rp.len;have z2:=(zM.mp e2).1;rw[xN,xN] at z;walk_at "o"
    refine thn (hr.to pos pins s1 (σ.set k (some (.ref a))) H1 (fun vs H2=>Q (.ref a::vs) H2) (a43 hk I1 (by simp) (fun j hj=>by rw[zL (xF hj)])) ⟨P,O,L,_,ds2,_,rp,e3,fun vs σ' H' hl hj r2 hd=>?_⟩) fun us s2 h0=>ex5 h0 fun xs H2 I2 r2 q2=>⟨.ref a::xs,H2,a43 hk I2 (by simp) (fun j hj=>by rw[zL (xF hj)]),.cons rv1 r2,q2⟩
    exact q _ σ' H' (hl.trans (by simp)) (fun j h=>(hj j (Nat.lt_succ_of_lt h)).trans (by rw[zL (xF h)])) r2 ⟨a,vs,rfl,e4,(hj k (Nat.lt_succ_self _)).trans (w4 hlt),hd⟩
  ·cases eF
 ·cases eF⟩
def offN:Nat->Nat->Ev->Ev
 | _,0,ρ=>ρ
 | k,n+1,ρ=>offN (k+1) n (ρ.set k none)
theorem a3E:∀{n k:Nat} {ρ:Ev} {j:Nat} {w:W},(offN k n ρ)[j]? =some (some w)->ρ[j]? =some (some w)
 | 0,_,_,_,_,e=>e
 | n+1,k,ρ,j,w,e=>by
  rcases l7 (a3E (n:=n) e) with ⟨_,z,_⟩|z
  ·cases z
  ·exact z.2
theorem a3m {σ:L2.St}:∀{ds:List D} {vs:List V} {ρ:Ev} {j k:Nat},j<k->HidL ρ σ k ds vs->HidL (ρ.set j none) σ k ds vs
 | [],_,_,_,_,_,h=>h
 | d::ds,vs,ρ,j,k,hj,⟨a,r,e1,e2,e3,h⟩=>⟨a,r,e1,by rw[zL (zQ hj)];exact e2,e3,a3m (Nat.lt_succ_of_lt hj) h⟩
theorem a3s {σ:L2.St}:∀{ds:List D} {vs:List V} {ρ:Ev} {k j:Nat} {d:D},HidL ρ σ k ds vs->ds[j]? =some d->∃a,vs[j]? =some (.ref a)/\ρ[k+j]? =some (some (.o d))/\σ[k+j]? =some (some (.ref a))
 | [],_,_,_,_,_,_,e=>by simp at e
 | d::ds,vs,ρ,k,0,x,⟨a,r,e1,e2,e3,_⟩,e=>by
  simp at e;subst e;subst e1;exact⟨a,rfl,e2,e3⟩
 | d::ds,vs,ρ,k,j+1,x,⟨a,r,e1,e2,e3,h⟩,e=>by
  subst e1;obtain⟨b,q1,q2,q3⟩:=a3s h (by simpa using e)
  refine⟨b,by simpa using q1,?_,?_⟩
  ·rw[show k+(j+1)=k+1+j by walk_at "o"];exact q2
  ·rw[show k+(j+1)=k+1+j by walk_at "o"];exact q3
theorem a07 {σ:L2.St}:∀{ds:List D} {vs:List V} {ρ:Ev} {k:Nat},HidL ρ σ k ds vs->vs.length=ds.length
 | [],_,_,_,h=>by rw[h];rfl
 | d::ds,vs,ρ,k,⟨a,r,e1,_,_,h⟩=>by rw[e1,zZ,zZ,a07 h]
theorem a3h {P:List (D×V)}{O:Av}{L:List (Option Nat×Addr)}{σ:L2.St}:∀{ds:List D} {vs:List V} {ρ:Ev} {H:Hp} {k:Nat},Rep X P O L ρ σ H->HidL ρ σ k ds vs->∃H1,Rep X P O L (offN k ds.length ρ) σ H1/\Same H1 H/\∀a,V.ref a∈vs->H1 a=none
 | [],vs,ρ,H,k,r,h=>by cases(show vs=[] from h);exact⟨H,r,Same.refl H,fun a h=>by cases h⟩
 | d::ds,vs,ρ,H,k,r,⟨a,t,e1,e2,e3,h⟩=>by
  subst e1;obtain⟨H1,r1,s1,n1⟩:=a3h (r.off e2 e3) (a3m (Nat.lt_succ_self _) h);have na:H1 a=none:=by
   cases q:H1 a with
   | none=>rfl
   | some o=>have:=s1 a o q;simp at this
  refine⟨H1,r1,fun b o eb=>?_,fun b hb=>?_⟩
  ·have:=s1 b o eb
   dsimp only at this;split at this
   ·cases this
   ·exact this
  ·rcases zN.mp hb with z|z
   ·cases z;exact na
   ·exact n1 b z
def fPick (k:Nat) (F:FH) (i:Nat):FX:=fun ρ=>(F ρ).bind fun p=>match p.2[i]? with
 | some (some (.v (.int n)))=>if p.1.length<=lim/\i<k/\((offN k p.1.length p.2).drop k).all (·.isNone)=true then(atI p.1 n).map fun d=>(.o d,offN k p.1.length p.2) else none
 | _=>none
theorem a9O {α β:Type}{xs:List α}{ys:List β}{n:Int}{x:α}(hl:xs.length=ys.length)(e:atI xs n=some x):∃j:Nat,xs[j]? =some x/\atI ys n=ys[j]?:=by
 unfold atI at e ⊢;rw[<-hl];cases q:ixN xs.length n with
 | none=>rw[q] at e;cases e
 | some j=>rw[q] at e;exact⟨j,e,rfl⟩
theorem a8Y (i:Nat){x:Str}{px pos2:Pos}(ha:QH X k es F)(hN:X.N[i]? =some x:=by rfl)(hv:Vis X.env.scope x:=by first|exact Or.inl rfl|exact Or.inr (Or.inl rfl)|exact Or.inr (Or.inr rfl))(hd:(x==("__debug__":Str))=false:=by decide)(hcd:(x==("__classdict__":Str))=false:=by decide)(hs:PlainIx (.Name x px):=by intro _ _;rfl):QX X (.Subscript (.List es pos2) (.Name x px) pos) (fPick k F i):=⟨PE.weak (b0C a8c (a4a ha.to) (a39 hN hv hd hcd) hs) fun σ H Q h0=>tXe h0 fun P O L ρ w ρ' r e q=>by
 unfold fPick at e;obtain⟨⟨ds,ρ1⟩,e1,e⟩:=obs e;dsimp only at e;split at e
 ·rename_i n e2;split at e
  ·rename_i hc;obtain⟨hl,hi,hno⟩:=hc;obtain⟨d,e3,e⟩:=oms e;cases e;refine⟨P,O,L,ρ,ds,ρ1,r,e1,fun vs σ' H' hls hj r1 hh=>⟨by rw[a07 hh];exact zG hl k8,fun p hp=>?_⟩⟩
   obtain⟨v,h1,h2⟩:=r1.slot i _ e2;have h2:Den X.K (AvO O ρ1 σ') H' (.int n) v:=h2;have hv:v= .int n:=B5.mp h2;subst hv;refine⟨.int n,(hj i hi).symm.trans h1,.inl ?_⟩;obtain⟨j,e4,e5⟩:=a9O (ys:=vs) (a07 hh).symm e3;obtain⟨a,q1,q2,q3⟩:=a3s hh e4;refine⟨p,vs,n,.ref a,rfl,rfl,.inl (.inl m9),e5.trans q1,?_⟩;obtain⟨H1,r2,s2,n2⟩:=a3h r1 hh;have hsg:∀(j:Nat) (w:W),(offN k ds.length ρ1)[j]? =some (some w)->σ[j]? =σ'[j]?:=fun j w ej=>by
    by_cases hjk:j<k
    ·exact(hj j hjk).symm
    ·have hm:some w∈(offN k ds.length ρ1).drop k:=by
      rw[List.mem_iff_getElem?];refine⟨j-k,?_⟩;rw[List.getElem?_drop,show k+(j-k)=j by walk_at "o"]
      exact ej
     have:=xB.mp hno _ hm
     cases this
   have r3:=r2.sig hls.symm hsg;have sp:Same H' (upd H' p (.lst vs)):=g9 hp _;refine q _ H1 _ r3 (fun b o eb=>sp b o (s2 b o eb)) ⟨a,rfl,n2 a (jW q1),?_⟩;obtain⟨a',h3,ob⟩:=r1.obj q2 rfl;rw[q3] at h3;cases h3;obtain⟨u,eu,_⟩:=J1 ob;refine z8 (A:=AvO O ρ1 σ') (M:=fun _=>False) ⟨fun b o eb _=>sp b o eb,fun _ z=>z.elim,fun b z=>.inl ?_⟩ ?_ ob
   ·rcases z with z|z
    ·have av:=a8H (O:=O) hsg;rw[av] at z;rcases z with z|⟨j,w,c,z1,z2,z3⟩
     ·exact .inl z
     ·exact .inr ⟨j,w,c,a3E z1,z2,z3⟩
    ·rw[z];exact .inr ⟨_,_,_,q2,rfl,q3⟩
   ·rw[eu,sp _ _ eu]
  ·cases e
 ·cases e⟩
end
section
variable {X:Cx}{o e:Expr}{f:FX}
theorem a0d {X:Cx}{k:Nat}(h:(X.N.drop k).all (fun x=>(X.env.scope.names.lookup x).isNone)=true):Hid X k:=fun j x hj e v=>by
 have hm:x∈X.N.drop k:=by
  rw[List.mem_iff_getElem?];exact⟨j-k,by rw[List.getElem?_drop,show k+(j-k)=j by walk_at "o"];exact e⟩
 have z:=xB.mp h x hm;rcases v with v|v|v<;>(rw[v] at z;cases z)
theorem a2E {k:Nat}{f:FX}{F:FH}{ρ ρ':Ev}{d:D}{ds:List D}(e:f ρ=some (.o d,ρ))(en:ρ[k]? =some none)(eF:F (ρ.set k (some (.o d)))=some (ds,ρ'))(ek:ρ'[k]? =some (some (.o d))):hCons k f F ρ=some (d::ds,ρ'):=by
 unfold hCons;rw[e];dsimp only[bind_some];unfold hPut;rw[en];dsimp only;rw[eF];dsimp only[bind_some];rw[ek]
theorem a9o {k i:Nat}{F:FH}{ρ ρ':Ev}{d:D}{ds:List D}{n:Int}(e:F ρ=some (ds,ρ'))(ei:ρ'[i]? =some (some (.v (.int n))))(hc:ds.length<=lim/\i<k/\((offN k ds.length ρ').drop k).all (·.isNone)=true)(ed:atI ds n=some d):fPick k F i ρ=some (.o d,offN k ds.length ρ'):=by
 unfold fPick;rw[e];dsimp only[bind_some];rw[ei];dsimp only;rw[if_pos hc,ed];rfl
def pD (p:Int×Int):D:=.tup [.int p.1,.int p.2]
def onI (f:Int->D):D->D
 | .int i=>f i
 | d=>d
def rngP (fx fy:Int->Int) (lo:Int) (m:Nat):List (Int×Int):=(List.range m).map fun(i:Nat)=>(fx (lo+(i:Int)),fy (lo+(i:Int)))
theorem Y0 {fx fy:Int->Int}{lo:Int}{m:Nat}:(rngP fx fy lo m).length=m:=by unfold rngP;rw[zC,List.length_range]
theorem W2 {fx fy:Int->Int}{lo:Int}{m:Nat}{p:Int×Int}(h:p∈rngP fx fy lo m):∃i:Int,lo<=i/\i<lo+m/\p=(fx i,fy i):=by
 unfold rngP at h;obtain⟨i,hi,rfl⟩:=qA.mp h
 have:=mem_range.mp hi
 exact⟨lo+i,by walk_at "o",by walk_at "o",rfl⟩
theorem L7 {fi:FI}{js:List (Option Nat)}{gf:FG}{t:FT}{fe:FX}{ρ:Ev}{lo:Int}{m:Nat}(fx fy:Int->Int)(I:Ev->Prop)(ei:fi ρ=some (rngD lo m,ρ))(hm:m<=8)(hI:∀B,I B->B.length=js.length)(h0:I (capE none js ρ))
  (st:∀i:Int,lo<=i->i<lo+m->∀B zs,I B->∃B',I B'/\gf (.int i) (B++acc zs)=some (B'++acc zs)/\t (B'++acc zs)=some (true,B'++acc zs)/\fe (B'++acc zs)=some (.v (.tup [.int (fx i),.int (fy i)]),B'++acc zs)):
  fComp fi none js gf t fe ρ=some (.o (.lst ((rngP fx fy lo m).map pD)),ρ):=by
 have e:(rngP fx fy lo m).map pD=((rngD lo m).filter fun _=>true).map (onI fun i=>pD (fx i,fy i)):=by
  rw[c9];unfold rngP rngD;rw[zV,zV];rfl
 rw[e];refine j5 I (fun _=>true) (onI fun i=>pD (fx i,fy i)) ei hI h0 ?_ ?_ ?_
 ·rw[Y7];unfold lim;walk_at "o"
 ·rw[<-e];refine B6 fun y hy=>?_;obtain⟨p,_,rfl⟩:=qA.mp hy;rfl
 ·intro x hx B zs hB;obtain⟨j,hj⟩:=List.mem_iff_getElem?.mp hx;obtain⟨rfl,hj'⟩:=a21 hj;obtain⟨B',h1,h2,h3,h4⟩:=st (lo+(j:Int)) (by walk_at "o") (by walk_at "o") B zs hB
  exact⟨B',_,h1,h2,h3,fun _=>⟨h4,.inl rfl⟩⟩
end
section
variable {X:Cx}{e:Expr}{pos:Pos}
def fpNil:FP:=fun _=>some (.o (.lst []))
theorem b1E:QP X (.List [] pos) fpNil:=⟨PE.weak (a4a a0T) fun σ H Q h0=>by
 obtain⟨P,O,L,ρ,w,r,e,q⟩:=h0;cases e
 exact⟨qV _,fun p hp=>q _ H _ (Same.refl H) (g9 hp _) (z9 hp j3)⟩⟩
end
theorem a48 {α β:Type}{f:α->Option β}{g:α->β}:∀(l:List α),(∀x∈l,f x=some (g x))->l.filterMap f=l.map g
 | [],_=>rfl
 | x::l,h=>by rw[filterMap_cons,h x zI,zJ];dsimp only;rw[a48 l fun y hy=>h y (zH _ hy)]
theorem a6x (xs:Array Value):((List.range xs.size).filterMap fun(m:Nat)=>xs[((xs.size:Int)-1+(m:Int) * -1).toNat]?).toArray=xs.toList.reverse.toArray:=by
 congr 1;apply ext_getElem?;intro i;have e:(List.range xs.size).filterMap (fun(m:Nat)=>xs[((xs.size:Int)-1+(m:Int) * -1).toNat]?)=(List.range xs.size).map (fun m=>xs.getD (xs.size-1-m) .none):=by
  refine a48 _ fun m hm=>?_;have hm':m<xs.size:=by simpa using hm
  have e1:((xs.size:Int)-1+(m:Int) * -1).toNat=xs.size-1-m:=by walk_at "o"
  have e2:xs.size-1-m<xs.size:=by walk_at "o"
  rw[e1];simp[Array.getD,e2]
 rw[e]
 by_cases h:i<xs.size
 ·have e2:xs.size-1-i<xs.size:=by walk_at "o"
  rw[qF,getElem?_range h,List.getElem?_reverse (by simpa using h)]
  simp[Array.getD,e2]
 ·rw[jH (by simp;walk_at "o"),jH (by simp;walk_at "o")]
theorem a5Q (items:List Value):slicePick items.toArray none none (some (-1))=items.reverse.toArray:=by
 have e:sliceBounds none none (some (-1)) items.toArray.size=((items.toArray.size:Int)-1,-1,-1):=rfl;have e2:sliceRange ((items.toArray.size:Int)-1) (-1) (-1)=(List.range items.toArray.size).map fun(k:Nat)=>((items.toArray.size:Int)-1+(k:Int) * -1).toNat:=by
  unfold sliceRange;simp only[];rw[if_neg (by decide)]
  have c:(if(items.toArray.size:Int)-1 > -1 then((items.toArray.size:Int)-1 - -1 - -1-1)/(- -1) else 0)=(items.toArray.size:Int):=by
   rw[show(- -1:Int)=1 from rfl,Int.ediv_one]
   split<;>walk_at "o"
  rw[c,jY];exact qM fun k _=>by rw[Int.mul_comm]
 have p:=a6x items.toArray;unfold slicePick;rw[e,e2,List.filterMap_map];exact p
section
variable {X:Cx}{a e:Expr}{pos:Pos}{f:FX}
def fRevL (f:FX):FX:=fun ρ=>(f ρ).bind fun p=>(dr p.2 p.1.fz).bind fun d=>match d with
 | .lst xs=>some (.o (.lst xs.reverse),p.2)
 | _=>none
theorem a9c {p1 p2 p3:Pos}{j:Nat}(ha:QX X a f):QX X (.Subscript a (.Slice none none (some (.UnaryOp .USub (.Constant (.int 1) j p1) p2)) p3) pos) (fRevL f):=by
 refine⟨fun pins s σ H Q I h0=>tXe h0 fun P O L ρ w ρ' rp e q=>?_⟩;unfold fRevL at e;obtain⟨⟨w1,ρ1⟩,e1,e⟩:=obs e;dsimp only at e;cases e2:dr ρ1 w1.fz with
 | none=>rw[e2] at e;cases e
 | some x=>
  rw[e2] at e;simp only[bind_some] at e;cases x<;>simp only at e<;>try cases e
  rename_i xs;refine Subscript_ (zY (ha.to pins s σ H (fun v H1=>∃P',Rep X P' O L ρ' σ H1/\∀H2,Rep X P' O L ρ' σ H2->Rep X P O L ρ' σ H2/\DenR X.K (AvO O ρ' σ) H2 (.lst xs) v) I ⟨P,O,L,ρ,w1,ρ',rp,e1,fun v H1 H1' r1 s1 d1=>?_⟩) (fun v s1 ⟨x,H1,I1,r1,P',rp1,kp⟩=>?_) fun _ _ z=>z)
  ·have r1g:=r1.grow s1;obtain⟨P',r1',k1⟩:=hold r1g (d1.fz r1 s1);exact⟨P',r1',fun H2 r2=>by obtain⟨r3,d3⟩:=k1 _ H2 r2;exact⟨r3,C4 r3 e2 d3⟩⟩
  refine wpAny_Slice ?_;rw[evalPart_none];refine zB (zB ?_);rw[evalPart_some];have z:=((b1k (X:=X) (b9 (X:=X) (i:=1) (j:=j) (pos:=p1))):QX X (.UnaryOp .USub (.Constant (.int 1) j p1) p2) _).to pins s1 σ H1 (fun v H2=>v= .int (-1)/\Rep X P' O L ρ' σ H2) I1 ⟨P',O,L,ρ',.v (.int (-1)),ρ',rp1,rfl,fun v H2 H2' r2 s2 d2=>⟨B5.mp (show Den X.K (AvO O ρ' σ) H2' (.int (-1)) v from d2),r2.grow s2⟩⟩;refine zY z (fun vu s3 ⟨y,H3,I3,r3,ey,rp3⟩=>?_) fun _ _ z=>z;subst ey;obtain⟨t,rfl⟩:=r3;have I4:Inv X pins σ H3 {s3 with heap:=s3.heap.push {cls:=.type "slice",data:=.fields #[.none,.none,.int (-1) t]}}:=I3.kept (t':=s3.toks) fun b ob q=>zD _ q
  obtain⟨rp4,dx⟩:=kp H3 rp3;obtain⟨p,vs,ev,hq,la⟩:=dx;subst ev;cases r1;obtain⟨its,r,ht,hz⟩:=I4.list hq;have hlen:=r.length;show wpAny (model X.prog X.w) X.A (subscriptTail a (.Slice none none (some (.UnaryOp .USub (.Constant (.int 1) j p1) p2)) p3) (.ref p) (.ref s3.heap.objs.size)) (EP X pins σ Q) X.xe {s3 with heap:=s3.heap.push {cls:=.type "slice",data:=.fields #[.none,.none,.int (-1) t]}}
  refine tail_any (ops:=[.ref p,.ref s3.heap.objs.size]) ht.isList.typeIs slot_list_getitem.lookup ?_ (by with_unfolding_all rfl)
  refine wpAny_getItem_list_slice ht.isList (Heap.IsSliceOf.new ..) .none .none (.int (-1) t) (fun z=>by cases z) ?_ (by rw[zU];walk_at "o")
  rw[a5Q];have fr:=I4.hok.fresh (zE _);refine⟨.ref _,_,I4.laid (t':=s3.toks) (o:=.lst vs.reverse) (fun b ob q=>zD _ q) (zE _) ?_,rfl,q _ H3 _ rp4 (g9 fr _) (z9 fr (a3z la))⟩;exact⟨by rw[List.length_reverse];exact hz,_,0,r.reverse,zO _ rfl⟩
end
section
variable {f:FX}{ρ:Ev}{d:D}{w:W}
def rvL:Option (W×Ev)->Option (W×Ev)
 | some p=>(dr p.2 p.1.fz).bind fun d=>match d with
  | .lst xs=>some (.o (.lst xs.reverse),p.2)
  | _=>none
 | none=>none
def rvL2 (ρ:Ev):Option D->Option (W×Ev)
 | some (.lst xs)=>some (.o (.lst xs.reverse),ρ)
 | _=>none
theorem b0i:fRevL f ρ=rvL (f ρ):=by unfold fRevL rvL;cases f ρ<;>rfl
theorem a8Q:rvL (some (w,ρ))=rvL2 ρ (dr ρ w.fz):=by
 unfold rvL rvL2;dsimp only;cases dr ρ w.fz with
 | none=>rfl
 | some d=>cases d<;>rfl
theorem a79 {xs:List D}:rvL2 ρ (some (.lst xs))=some (.o (.lst xs.reverse),ρ):=rfl
end
section
variable {X:Cx}{a b e:Expr}{pos:Pos}{f g:FX}
def oAddS:D->D->Option W
 | .str x,.str y=>if x.length+y.length<=lim then some (.v (.str (x++y))) else none
 | _,_=>none
theorem a0R (ha:QX X a f)(hb:QX X b g):QX X (.BinOp a .Add b pos) (fBin oAddS f g):=Q3 a4t (by
 intro A x y w v u H Q _ e hx hy q;cases x<;>cases y<;>simp only[oAddS] at e<;>try cases e
 rename_i i j;split at e
 ·rename_i hl;cases e;exact⟨i,j,q9 hx,q9 hy,zG hl k8,q _ H (Same.refl H) C9⟩
 ·cases e) ha hb
def inS (i j:Str):Bool:=!(Builtin.Str.occurrences j i 0 j.length 1).isEmpty
def oInS (n:Bool):D->D->Option W
 | .str i,.str j=>some (.v (.bl (if n then !inS i j else inS i j)))
 | _,_=>none
theorem kInS:Pr2 X (oInS false) (fun x y H Q=>∃i j,x= .str i/\y= .str j/\Q (.bl (!(Builtin.Str.occurrences j i 0 j.length 1).isEmpty)) H):=by
 intro A x y w v u H Q _ e hx hy q;cases x<;>cases y<;>simp only[oInS] at e<;>cases e
 rename_i i j;exact⟨i,j,q9 hx,q9 hy,q _ H (Same.refl H) C1⟩
theorem b1h (ha:QX X a f)(hb:QX X b g)(hm:behindInMarks .In b=false:=by first|exact nomark _|rfl):QX X (.Compare a [.In] [b] pos) (fBin (oInS false) f g):=a4n a5Y kInS ha hb hm
def gLenG:D->Option W
 | .str x=>if x.length<=lim then some (.v (.int x.length)) else none
 | d=>gLen d
theorem B0:CallR X (.builtin "len") (fun xs H Q=>(∃p ys,xs=[.ref p]/\(SqL X.K H p ys\/SqT X.K H p ys)/\Q (.int ys.length) H)\/∃z,xs=[.str z]/\z.length<=sizeLine/\Q (.int z.length) H):=a2Q.or a2Z
theorem G2:PrA X (k1 gLenG) (fun xs H Q=>(∃p ys,xs=[.ref p]/\(SqL X.K H p ys\/SqT X.K H p ys)/\Q (.int ys.length) H)\/∃z,xs=[.str z]/\z.length<=sizeLine/\Q (.int z.length) H):=fun A ds w vs H Q hA e l q=>by
 match ds,e,l with
 | [d],e,l=>
  have e:gLenG d=some w:=e;cases d with
  | str x=>
   obtain⟨v,rfl,h⟩:=denRL1 l;simp only[gLenG] at e;split at e
   ·rename_i hl;cases e;exact .inr ⟨x,by rw[q9 h],zG hl k8,q _ H (Same.refl H) A2⟩
   ·cases e
  | _=>exact .inl (b1y A [_] w vs H Q hA e l q)
def GlS (mg:Str->Option Value) (x:Str) (i:Str):Prop:=∃t,mg x=some (.str i t)
theorem a1h {x i:Str}(hm:GlS X.mg x i)(hg:Gl X x:=by rfl)(hd:(x==("__debug__":Str))=false:=by decide):QX X (.Name x pos) (fC (.str i)):=by
 obtain⟨t,hm⟩:=hm;exact⟨PE.weak (a4O (v:=.str i) hg hm ⟨t,rfl⟩ hd) (a2r fun A H=>by rw[Den])⟩
end
section
variable {X:Cx}{o e:Expr}{es:List Expr}{apos pos:Pos}{f:FX}{fa:FA}
def fMeth (op:Str->List D->Option W) (f:FX) (fa:FA):FX:=fun ρ=>(f ρ).bind fun p=>match p.1 with
 | .v (.str x)=>(fa p.2).bind fun q=>(drs q.2 q.1).bind fun ds=>(op x ds).map fun w=>(w,q.2)
 | _=>none
def PrMt (X:Cx) (op:Str->List D->Option W) (r:V->List V->Hp->VK->Prop):Prop:=∀(A:Av) (x:Str) (ds:List D) (w:W) (vs:List V) (H:Hp) (Q:VK),(∀b,A b->∃o,H b=some o)->op x ds=some w->DenRL X.K A H ds vs->(∀z H',Same H H'->DenW X.K A [] H H' w z->Q z H')->r (.str x) vs H Q
theorem a6m {op:Str->List D->Option W}{r:V->List V->Hp->VK->Prop}(k:PrMt X op r):∀σ H Q,tX X (fMeth op f fa) σ H Q->tBM X.K "str" r (tX X f) (tA X fa) σ H Q:=fun σ H Q h0=>tXe h0 fun P O L ρ w ρ' rp e q=>by
 unfold fMeth at e;obtain⟨⟨w1,ρ1⟩,e1,e⟩:=obs e;dsimp only at e;split at e
 ·rename_i x;refine⟨P,O,L,ρ,_,ρ1,rp,e1,fun v H1 H1' r1 s1 d1=>?_⟩;have d1:Den X.K (AvO O ρ1 σ) H1' (.str x) v:=d1;have ev:=C3.mp d1;subst ev;refine⟨rfl,?_⟩;obtain⟨⟨ws,ρ2⟩,e2,e⟩:=obs e;dsimp only at e;refine⟨P,O,L,ρ1,ws,ρ2,r1.grow s1,e2,fun vs H2 r2 l2=>?_⟩;cases e3:drs ρ2 ws with
  | none=>rw[e3] at e;cases e
  | some ds=>
   rw[e3] at e;simp only[bind_some] at e;cases e4:op x ds with
   | none=>rw[e4] at e;cases e
   | some w'=>
    rw[e4] at e;cases e;exact k _ x ds w vs H2 Q (fun b z=>r2.there z) e4 (a28 r2 e3 l2) fun z H' s d=>q z H2 H' r2 s d.st
 ·cases e
theorem a0Q {id:String}{m:Str}{op:Str->List D->Option W}{r:V->List V->Hp->VK->Prop}(hs0:Slot "str" m id)(ht0:typeOf (.builtin id)=pure (.type "method_descriptor"))(hm:MtR X id r)(hk:PrMt X op r)
  (ho:QX X o f) (ha:QA X (e::es) fa) (hbase:attributeBase o m X.env (eval o X.env)=eval o X.env)
  (hfew:((backTo pos (starEach (e::es) X.env)).all (fun x=>!x.1)&&(backToKw pos (keywordEach [] X.env)).all (fun x=>x.1.isSome)&&decide ((e::es).length+([]:List Keyword).length+(if([]:List Keyword).isEmpty then 0 else 1)<30))=true)
  (hline:(apos.endLine==pos.line)=true) (hs:starEach (e::es) X.env=(false,eval e X.env)::starEach es X.env) (hpl:(backTo pos (starEach es X.env)).any (·.1)=false):QX X (.Call (.Attribute o m apos) (e::es) [] pos) (fMeth op f fa):=
 ⟨PE.weak (b0B PySem.F.plainAttrs_str hs0 ht0 hm ho.to ha.to hbase hfew hline hs hpl) (a6m hk)⟩
def mStarts (x:Str):List D->Option W
 | [.str y]=>some (.v (.bl (Txt.startswith x y)))
 | _=>none
def rStarts:V->List V->Hp->VK->Prop:=fun v vs H Q=>∃x y,v= .str x/\vs=[.str y]/\Q (.bl (Txt.startswith x y)) H
theorem a6g:MtR X "str.startswith" rStarts:=by
 intro pins s σ H x vs v us Q I rx rv ⟨a,b,ex,ev,q⟩;subst ex ev;obtain⟨t,rfl⟩:=rx;obtain⟨u,rfl,t',rfl⟩:=rv.one;exact SC.startswith ⟨.bl _,H,I,rfl,q⟩
theorem a5N:PrMt X mStarts rStarts:=fun A x ds w vs H Q _ e l q=>by
 unfold mStarts at e;split at e
 ·rename_i y;cases e;obtain⟨v,rfl,h⟩:=denRL1 l;exact⟨x,y,rfl,by rw[q9 h],q _ H (Same.refl H) C1⟩
 ·cases e
theorem a1S (ho:QX X o f)(ha:QA X (e::es) fa)(hbase:attributeBase o "startswith" X.env (eval o X.env)=eval o X.env:=by rfl)
  (hfew:((backTo pos (starEach (e::es) X.env)).all (fun x=>!x.1)&&(backToKw pos (keywordEach [] X.env)).all (fun x=>x.1.isSome)&&decide ((e::es).length+([]:List Keyword).length+(if([]:List Keyword).isEmpty then 0 else 1)<30))=true:=by rfl)
  (hline:(apos.endLine==pos.line)=true:=by rfl) (hs:starEach (e::es) X.env=(false,eval e X.env)::starEach es X.env:=by rfl) (hpl:(backTo pos (starEach es X.env)).any (·.1)=false:=by rfl):QX X (.Call (.Attribute o "startswith" apos) (e::es) [] pos) (fMeth mStarts f fa):=
 a0Q PySem.F.slot_str_startswith PySem.F.type_str_startswith a6g a5N ho ha hbase hfew hline hs hpl
end
theorem R5:∀(l:List (Str×Tok)),Vals ((l.map (·.1)).map V.str) (strValues l)
 | []=>.nil
 | (x,t)::l=>.cons ⟨t,rfl⟩ (R5 l)
theorem V5:∀{xs:List Str} {its:List Value},Vals (xs.map V.str) its->∃l:List (Str×Tok),its=strValues l/\l.map (·.1)=xs
 | [],_,r=>by cases r;exact⟨[],rfl,rfl⟩
 | x::xs,_,r=>by
  rw[zJ] at r;cases r with
  | cons h t=>
   obtain⟨tk,rfl⟩:=h;obtain⟨l,rfl,rfl⟩:=V5 t;exact⟨(x,tk)::l,rfl,rfl⟩
theorem Z8 {K:PySem.W.Frag}{A:Av}{H:Hp}:∀(xs:List Str),DenL K A H (xs.map .str) (xs.map V.str)
 | []=>j3
 | x::xs=>i0 (C3.mpr rfl) (Z8 xs)
theorem Y6 {K:PySem.W.Frag}{A:Av}{H:Hp}:∀{xs:List Str} {vs:List V},DenL K A H (xs.map .str) vs->vs=xs.map V.str
 | [],_,l=>by rw[xD,DenL] at l;rw[l];rfl
 | x::xs,_,l=>by
  rw[zJ,DenL] at l;obtain⟨v,r,rfl,h,l⟩:=l;rw[C3.mp h,Y6 l];rfl
section
variable {X:Cx}{a o e:Expr}{es:List Expr}{apos pos p2:Pos}{f:FX}{fa:FA}{lo hi:Option Expr}{fl fu:FO}
def partS (x y:Str):List Str:=match Builtin.Str.occurrences x y 0 x.length 1 with
 | i::_=>[Builtin.Str.strSub x 0 i,y,Builtin.Str.strSub x (i+y.length) x.length]
 | []=>[x,Str.empty,Str.empty]
def mPart (x:Str):List D->Option W
 | [.str y]=>if(y.length==0)=false/\x.length<=lim then some (.v (.tup ((partS x y).map .str))) else none
 | _=>none
def rPart:V->List V->Hp->VK->Prop:=fun v vs H Q=>∃x y,v= .str x/\vs=[.str y]/\(y.length==0)=false/\x.length<=sizeLine/\∀p,H p=none->Q (.ref p) (upd H p (.tup ((partS x y).map V.str)))
theorem a9z:MtR X "str.partition" rPart:=by
 intro pins s σ H x vs v us Q I rx rv ⟨x0,y,ex,ev,hy,hx,q⟩;subst ex ev;obtain⟨t,rfl⟩:=rx;obtain⟨u,rfl,t',rfl⟩:=rv.one;refine call_meets PySem.F.slot_str_partition (typeIs_str _ _ _) PySem.F.entry_str_partition (PySem.F.args_str_partition_2 _ _) (meets_str_partition x0 y t t' hy hx) ?_;unfold partS at q;cases hoc:Builtin.Str.occurrences x0 y 0 x0.length 1 with
 | nil=>
  rw[hoc] at q;exact⟨.ref s.heap.objs.size,_,I.laid (o:=.tup ([x0,Str.empty,Str.empty].map V.str)) (fun b ob q=>zD _ q) (zE _) ⟨(show(3:Nat)<=sizeLine by decide),_,.cons ⟨t,rfl⟩ (.cons ⟨s.toks,rfl⟩ (.cons ⟨s.toks,rfl⟩ .nil)),TupN.new _ _⟩,rfl,q _ I.fresh⟩
 | cons i r=>
  rw[hoc] at q;exact⟨.ref s.heap.objs.size,_,I.laid (o:=.tup ([Builtin.Str.strSub x0 0 i,y,Builtin.Str.strSub x0 (i+y.length) x0.length].map V.str)) (fun b ob q=>zD _ q) (zE _) ⟨(show(3:Nat)<=sizeLine by decide),_,.cons ⟨s.toks,rfl⟩ (.cons ⟨t',rfl⟩ (.cons ⟨s.toks+1,rfl⟩ .nil)),TupN.new _ _⟩,rfl,q _ I.fresh⟩
theorem a80:PrMt X mPart rPart:=fun A x ds w vs H Q _ e l q=>by
 unfold mPart at e;split at e
 ·rename_i y;split at e
  ·rename_i hc;cases e;obtain⟨v,rfl,h⟩:=denRL1 l;exact⟨x,y,rfl,by rw[q9 h],hc.1,zG hc.2 k8,fun p hp=>q _ _ (g9 hp _) (F0 hp (Z8 _))⟩
  ·cases e
 ·cases e
theorem a2T (ho:QX X o f)(ha:QA X (e::es) fa)(hbase:attributeBase o "partition" X.env (eval o X.env)=eval o X.env:=by rfl)
  (hfew:((backTo pos (starEach (e::es) X.env)).all (fun x=>!x.1)&&(backToKw pos (keywordEach [] X.env)).all (fun x=>x.1.isSome)&&decide ((e::es).length+([]:List Keyword).length+(if([]:List Keyword).isEmpty then 0 else 1)<30))=true:=by rfl)
  (hline:(apos.endLine==pos.line)=true:=by rfl) (hs:starEach (e::es) X.env=(false,eval e X.env)::starEach es X.env:=by rfl) (hpl:(backTo pos (starEach es X.env)).any (·.1)=false:=by rfl):QX X (.Call (.Attribute o "partition" apos) (e::es) [] pos) (fMeth mPart f fa):=
 a0Q PySem.F.slot_str_partition PySem.F.type_str_partition a9z a80 ho ha hbase hfew hline hs hpl
def mSplit (x:Str):List D->Option W
 | [.str y]=>if(y.length==0)=false/\x.length<=lim/\(Builtin.Str.partsBetween x (Builtin.Str.occurrences x y 0 x.length (x.length+1)) y.length).length<=lim then some (.o (.lst ((Txt.split x y).map .str))) else none
 | _=>none
def rSplit:V->List V->Hp->VK->Prop:=fun v vs H Q=>∃x y,v= .str x/\vs=[.str y]/\(y.length==0)=false/\x.length<=sizeLine/\(Builtin.Str.partsBetween x (Builtin.Str.occurrences x y 0 x.length (x.length+1)) y.length).length<=sizeLine/\∀p,H p=none->Q (.ref p) (upd H p (.lst ((Txt.split x y).map V.str)))
theorem a7q:MtR X "str.split" rSplit:=by
 intro pins s σ H x vs v us Q I rx rv ⟨x0,y,ex,ev,hy,hx,hp,q⟩;subst ex ev;obtain⟨t,rfl⟩:=rx;obtain⟨u,rfl,t',rfl⟩:=rv.one;unfold Txt.split at q;cases h1:(decide (x0.length<y.length)||decide (Builtin.Str.strKind x0<Builtin.Str.strKind y))
 ·rw[h1,if_neg zS] at q;cases hf:(Builtin.Str.occurrences x0 y 0 x0.length (x0.length+1)).isEmpty
  ·rw[hf,if_neg zS] at q;refine call_meets xS (typeIs_str _ _ _) PySem.F.entry_str_split (PySem.F.args_str_split_2 _ _) (meets_str_split_sep x0 y t t' h1 hy hf hx hp) ?_;rw[strsFrom_eq];have hv:=R5 (numbered s.toks (Builtin.Str.partsBetween x0 (Builtin.Str.occurrences x0 y 0 x0.length (x0.length+1)) y.length));rw[numbered_texts] at hv;exact⟨.ref s.heap.objs.size,_,I.lnew hv (by rw[zC];exact hp),rfl,q _ I.fresh⟩
  ·rw[hf,if_pos rfl] at q;exact call_meets xS (typeIs_str _ _ _) PySem.F.entry_str_split (PySem.F.args_str_split_2 _ _) (meets_str_split_not_found x0 y t t' h1 hy hf) ⟨.ref s.heap.objs.size,_,I.lnew (t':=s.toks) (R5 [(x0,t)]) (show(1:Nat)<=sizeLine by decide),rfl,q _ I.fresh⟩
 ·rw[h1,if_pos rfl] at q;exact call_meets xS (typeIs_str _ _ _) PySem.F.entry_str_split (PySem.F.args_str_split_2 _ _) (meets_str_split_cannot_occur x0 y t t' h1) ⟨.ref s.heap.objs.size,_,I.lnew (t':=s.toks) (R5 [(x0,t)]) (show(1:Nat)<=sizeLine by decide),rfl,q _ I.fresh⟩
theorem a6D:PrMt X mSplit rSplit:=fun A x ds w vs H Q _ e l q=>by
 unfold mSplit at e;split at e
 ·rename_i y;split at e
  ·rename_i hc;cases e;obtain⟨v,rfl,h⟩:=denRL1 l;exact⟨x,y,rfl,by rw[q9 h],hc.1,zG hc.2.1 k8,zG hc.2.2 k8,fun p hp=>q _ _ (g9 hp _) (z9 hp (Z8 _))⟩
  ·cases e
 ·cases e
theorem a1x (ho:QX X o f)(ha:QA X (e::es) fa)(hbase:attributeBase o "split" X.env (eval o X.env)=eval o X.env:=by rfl)
  (hfew:((backTo pos (starEach (e::es) X.env)).all (fun x=>!x.1)&&(backToKw pos (keywordEach [] X.env)).all (fun x=>x.1.isSome)&&decide ((e::es).length+([]:List Keyword).length+(if([]:List Keyword).isEmpty then 0 else 1)<30))=true:=by rfl)
  (hline:(apos.endLine==pos.line)=true:=by rfl) (hs:starEach (e::es) X.env=(false,eval e X.env)::starEach es X.env:=by rfl) (hpl:(backTo pos (starEach es X.env)).any (·.1)=false:=by rfl):QX X (.Call (.Attribute o "split" apos) (e::es) [] pos) (fMeth mSplit f fa):=
 a0Q xS PySem.F.type_str_split a7q a6D ho ha hbase hfew hline hs hpl
def strsOf:List D->Option (List Str)
 | []=>some []
 | .str x::ds=>(strsOf ds).map fun xs=>x::xs
 | _=>none
theorem a14:∀{ds:List D} {xs:List Str},strsOf ds=some xs->ds=xs.map .str
 | [],xs,e=>by cases e;rfl
 | .str x::ds,xs,e=>by
  rw[strsOf] at e;obtain⟨ys,e1,rfl⟩:=oms e;rw[a14 e1];rfl
 | .non::_,_,e=>by cases e
 | .bl _::_,_,e=>by cases e
 | .int _::_,_,e=>by cases e
 | .tup _::_,_,e=>by cases e
 | .lst _::_,_,e=>by cases e
 | .dT _ _::_,_,e=>by cases e
 | .dK _ _::_,_,e=>by cases e
 | .exn _::_,_,e=>by cases e
theorem U7:∀xs:List Str,strsOf (xs.map .str)=some xs
 | []=>rfl
 | x::xs=>by rw[zJ,strsOf,U7 xs];rfl
def mJoin (x:Str):List D->Option W
 | [.lst ds]=>(strsOf ds).bind fun xs=>if JoinOk x xs=true then some (.v (.str (Txt.join x xs))) else none
 | _=>none
def rJoin (K:PySem.W.Frag):V->List V->Hp->VK->Prop:=fun v vs H Q=>∃x p xs,v= .str x/\vs=[.ref p]/\SqL K H p (xs.map V.str)/\JoinOk x xs=true/\Q (.str (Txt.join x xs)) H
theorem a9N:MtR X "str.join" (rJoin X.K):=by
 intro pins s σ H x vs v us Q I rx rv ⟨x0,p,xs,ex,ev,hq,hj,q⟩;subst ex ev;obtain⟨t,rfl⟩:=rx;obtain⟨u,rfl,ru⟩:=rv.one;cases ru;obtain⟨its,r,pl,_⟩:=I.list hq;obtain⟨l,rfl,hl⟩:=V5 r;exact SC.join pl.isList hl hj fun t' k=>⟨.str _,H,I.tok _,⟨t',rfl⟩,q⟩
theorem a9x:PrMt X mJoin (rJoin X.K):=fun A x ds w vs H Q _ e l q=>by
 unfold mJoin at e;split at e
 ·rename_i ds;obtain⟨xs,e1,e⟩:=obs e;split at e
  ·rename_i hc;cases e;obtain⟨v,rfl,h⟩:=denRL1 l;obtain⟨a,us,rfl,hq,lz⟩:=h;rw[a14 e1] at lz;rw[Y6 lz] at hq;exact⟨x,a,xs,rfl,rfl,hq,hc,q _ H (Same.refl H) C9⟩
  ·cases e
 ·cases e
theorem L5 (ho:QX X o f)(ha:QA X (e::es) fa)(hbase:attributeBase o "join" X.env (eval o X.env)=eval o X.env:=by rfl)
  (hfew:((backTo pos (starEach (e::es) X.env)).all (fun x=>!x.1)&&(backToKw pos (keywordEach [] X.env)).all (fun x=>x.1.isSome)&&decide ((e::es).length+([]:List Keyword).length+(if([]:List Keyword).isEmpty then 0 else 1)<30))=true:=by rfl)
  (hline:(apos.endLine==pos.line)=true:=by rfl) (hs:starEach (e::es) X.env=(false,eval e X.env)::starEach es X.env:=by rfl) (hpl:(backTo pos (starEach es X.env)).any (·.1)=false:=by rfl):QX X (.Call (.Attribute o "join" apos) (e::es) [] pos) (fMeth mJoin f fa):=
 a0Q PySem.F.slot_str_join PySem.F.type_str_join a9N a9x ho ha hbase hfew hline hs hpl
def rSlS:V->Option Int->Option Int->Hp->VK->Prop:=fun v lo hi H Q=>∃x,v= .str x/\x.length<=sizeLine/\Q (.str (Txt.slice x lo hi)) H
theorem b2b:SlR X rSlS:=by
 intro pins s σ H x v vl vu lo hi sl Q I rx hs pl pu h;obtain⟨x0,rfl,hz,q⟩:=h;obtain⟨t,rfl⟩:=rx;refine⟨"str",_,PySem.F.slot_str_getitem.lookup,typeIs_str _ _ _,?_⟩;cases pl with
 | none=>
  cases pu with
  | none=>exact xL (l:=none) (u:=none) (st:=none) hs rfl (post_val_or_str ⟨zG (Txt.slice_le x0 _ _) hz,fun t' k=>⟨.str _,H,I.tok _,⟨t',rfl⟩,q⟩⟩)
  | int j uj=>exact xL (l:=none) (u:=some (j,uj)) (st:=none) hs rfl (post_val_or_str ⟨zG (Txt.slice_le x0 _ _) hz,fun t' k=>⟨.str _,H,I.tok _,⟨t',rfl⟩,q⟩⟩)
 | int i ui=>
  cases pu with
  | none=>exact xL (l:=some (i,ui)) (u:=none) (st:=none) hs rfl (post_val_or_str ⟨zG (Txt.slice_le x0 _ _) hz,fun t' k=>⟨.str _,H,I.tok _,⟨t',rfl⟩,q⟩⟩)
  | int j uj=>exact xL (l:=some (i,ui)) (u:=some (j,uj)) (st:=none) hs rfl (post_val_or_str ⟨zG (Txt.slice_le x0 _ _) hz,fun t' k=>⟨.str _,H,I.tok _,⟨t',rfl⟩,q⟩⟩)
def slS (x:D) (lo hi:Option Int):Option W:=match x with
 | .str x=>if x.length<=lim then some (.v (.str (Txt.slice x lo hi))) else none
 | _=>none
def fSlS (f:FX) (lo hi:FO):FX:=fun ρ=>(f ρ).bind fun p=>(lo p.2).bind fun l=>(hi l.2).bind fun u=>(dr u.2 p.1.fz).bind fun x=>(slS x l.1 u.1).map fun w=>(w,u.2)
theorem a6t (ha:QX X a f)(hl:QO X lo fl)(hu:QO X hi fu):QX X (.Subscript a (.Slice lo hi none p2) pos) (fSlS f fl fu):=⟨PE.weak (a3q b2b ha.to hl.to hu.to) fun σ H Q h0=>tXe h0 fun P O L ρ w ρ' r e q=>by
 unfold fSlS at e;obtain⟨⟨w1,ρ1⟩,e1,e⟩:=obs e;dsimp only at e;obtain⟨⟨l,ρ2⟩,e2,e⟩:=obs e;dsimp only at e;obtain⟨⟨u,ρ3⟩,e3,e⟩:=obs e;dsimp only at e;refine⟨P,O,L,ρ,w1,ρ1,r,e1,fun v H1 H1' r1 s1 d1=>?_⟩;obtain⟨P',r1',k1⟩:=hold (r1.grow s1) (d1.fz r1 s1);refine⟨P',O,L,ρ1,l,ρ2,r1',e2,fun H2 r2=>⟨P',O,L,ρ2,u,ρ3,r2,e3,fun H3 r3=>?_⟩⟩;obtain⟨r4,d4⟩:=k1 ρ3 H3 r3;cases e4:dr ρ3 w1.fz with
 | none=>rw[e4] at e;cases e
 | some x=>
  rw[e4] at e;simp only[bind_some] at e;have dx:=C4 r4 e4 d4;cases x with
  | str x=>
   simp only[slS] at e;split at e
   ·rename_i hz;cases e;exact⟨x,q9 dx,zG hz k8,q _ H3 H3 r4 (Same.refl _) C9⟩
   ·cases e
  | _=>cases e⟩
end
section
variable {X:Cx}{a b c e tg:Expr}{pos:Pos}{f g:FX}{ff:FX}{gp:FP}
def fParV (i j:Nat) (f:FX) (g:FP):FS:=fun ρ=>(f ρ).bind fun p=>match p.1 with
 | .v d=>(g p.2).bind fun w=>match w with
  | .o d'=>if(freeSlot p.2 i=true/\freeSlot (p.2.set i (some (.v d))) j=true)/\lfC d'=true then some (.nx ((p.2.set i (some (.v d))).set j (some (.o d')))) else none
  | _=>none
 | _=>none
theorem a9M (i j:Nat){x y:Str}{px py pt:Pos}{kt k2 pt2}(hc:X.calm=true)(hN:X.N.Nodup)(ha:QX X a ff)(hb:QP X b gp)(hw:swappedStores [.Tuple [.Name x px,.Name y py] kt pt] (.Tuple [a,b] k2 pt2) X.env=pure (some [x,y]))(hi:X.N[i]? =some x:=by rfl)(hj:X.N[j]? =some y:=by rfl)(hij:i≠j:=by decide)
  (hx:X.env.scope.names.lookup x=some .local:=by rfl) (hy:X.env.scope.names.lookup y=some .local:=by rfl)
  (hs:swapsWithSole [.Tuple [.Name x px,.Name y py] kt pt] (.Tuple [a,b] k2 pt2) pos.line X.env=pure false:=by rfl)
  (h1:starEach [a,b] X.env=(false,eval a X.env)::starEach [b] X.env:=by rfl) (h2:starEach [b] X.env=(false,eval b X.env)::starEach [] X.env:=by rfl):
  QS X (.Assign [.Tuple [.Name x px,.Name y py] kt pt] (.Tuple [a,b] k2 pt2) pos) (fParV i j ff gp):=⟨PS.weak (a8k hc hN hi hj hij hx hy (Y5 ha.to (Y5 hb.to a0T h2) h1) hw hs) fun E σ H h0=>tSe h0 fun P O L ρ r rp e q=>by
 unfold fParV at e;obtain⟨⟨w1,ρ1⟩,e1,e⟩:=obs e;dsimp only at e;split at e
 ·rename_i d;obtain⟨w2,e2,e⟩:=obs e;split at e
  ·rename_i d';split at e
   ·rename_i hf;cases e;obtain⟨⟨f1,f2⟩,f3⟩:=hf;refine⟨P,O,L,ρ,_,ρ1,rp,e1,fun v H1 H1' r1 s1 d1=>?_⟩;have d1:Den X.K (AvO O ρ1 σ) H1' d v:=d1;refine⟨P,O,L,ρ1,_,r1.grow s1,e2,fun u H2 H2' s2 s2' d2=>⟨_,_,rfl,q _ _ ?_⟩⟩;obtain⟨a2,rfl,n2,ob2⟩:=d2;have ra:=((r1.grow s1).grow s2).put (i:=i) f1 (J6 s2 d1);exact ra.putO (i:=j) s2' f2 n2 (a0Y (fun _ _ e _=>e) f3 rfl ob2)
   ·cases e
  ·cases e
 ·cases e⟩
def tFs (c:Str) (ta tb:TE):TE:=fun σ H Q=>ta σ H fun x H1=>∃i,x= .str i/\i.length+c.length<=lim/\tb σ H1 fun y H2=>∃j,y= .str j/\i.length+c.length+j.length<=lim/\Q (.str (i++c++j)) H2
theorem a9E {ta tb:TE}{c:Str}{k:Nat}{p1 p2 p3:Pos}(ha:PE X a ta)(hb:PE X b tb)(hs:evalEach [.FormattedValue a (-1) none p1,.Constant (.str c) k p2,.FormattedValue b (-1) none p3] X.env=[eval (.FormattedValue a (-1) none p1) X.env,eval (.Constant (.str c) k p2) X.env,eval (.FormattedValue b (-1) none p3) X.env]:=by rfl):
  PE X (.JoinedStr [.FormattedValue a (-1) none p1,.Constant (.str c) k p2,.FormattedValue b (-1) none p3] pos) (tFs c ta tb):=by
 intro pins s σ H Q I h;refine wpAny_JoinedStr ?_;rw[hs];have sl:=k8;have z0:∀i:Str,(Str.empty++i).length=i.length:=fun i=>by rw[jN];exact Nat.zero_add _
 unfold Joins;refine wpAny_FormattedValue_plain (thn (ha pins s σ H _ I h) fun u s1 ⟨x,H1,I1,r1,i,ex,hi,h1⟩=>?_);subst ex;obtain⟨tk,rfl⟩:=(show ∃tk,u=Value.str i tk from r1);have li:i.length<=sizeLine:=by walk_at "o"
 have fin:∀(s2:Shared) (t2:Tok),Inv X pins σ H1 s2->∃y t,Value.str i t2=Value.str y t/\(Str.empty++y).length<=sizeLine/\Joins (model X.prog X.w) X.A X.xe [eval (.Constant (.str c) k p2) X.env,eval (.FormattedValue b (-1) none p3) X.env] (Str.empty++y) (fun out s₁=>out.length<=sizeLine/\EP X pins σ Q (.str out s₁.toks) {s₁ with toks:=s₁.toks+1}) s2:=fun s2 t2 I2=>by
  refine⟨i,t2,rfl,by rw[z0];exact li,?_⟩
  unfold Joins;refine wpAny_Constant_str ⟨c,_,rfl,by rw[jN,z0];walk_at "o",?_⟩
  unfold Joins;refine wpAny_FormattedValue_plain (thn (hb pins _ σ H1 _ (I2.tok _) h1) fun u3 s3 ⟨y,H3,I3,r3,j,ey,hj,q⟩=>?_);subst ey;obtain⟨tk3,rfl⟩:=(show ∃tk,u3=Value.str j tk from r3);have hl:(Str.empty++i++c++j).length<=sizeLine:=by
   rw[jN,jN,z0];walk_at "o"
  have ee:Str.empty++i++c++j=i++c++j:=by rw[Str.empty_append]
  have fin2:∀(s4:Shared) (t4:Tok),Inv X pins σ H3 s4->∃y t,Value.str j t4=Value.str y t/\(Str.empty++i++c++y).length<=sizeLine/\Joins (model X.prog X.w) X.A X.xe [] (Str.empty++i++c++y) (fun out s₁=>out.length<=sizeLine/\EP X pins σ Q (.str out s₁.toks) {s₁ with toks:=s₁.toks+1}) s4:=fun s4 t4 I4=>by
   refine⟨j,t4,rfl,hl,?_⟩;unfold Joins;exact⟨hl,.str _,H3,I4.tok _,⟨_,rfl⟩,by rw[ee];exact q⟩
  exact wpAny_formatField_str (fin2 _ _ I3) (fin2 _ _ (I3.tok _)) (by walk_at "o")
 exact wpAny_formatField_str (fin _ _ I1) (fin _ _ (I1.tok _)) li
def fFs (c:Str) (f g:FX):FX:=fun ρ=>(f ρ).bind fun p=>match p.1 with
 | .v (.str i)=>if i.length+c.length<=lim then(g p.2).bind fun q=>match q.1 with
  | .v (.str j)=>if i.length+c.length+j.length<=lim then some (.v (.str (i++c++j)),q.2) else none
  | _=>none else none
 | _=>none
theorem a9h {c:Str}{k:Nat}{p1 p2 p3:Pos}(ha:QX X a f)(hb:QX X b g)(hs:evalEach [.FormattedValue a (-1) none p1,.Constant (.str c) k p2,.FormattedValue b (-1) none p3] X.env=[eval (.FormattedValue a (-1) none p1) X.env,eval (.Constant (.str c) k p2) X.env,eval (.FormattedValue b (-1) none p3) X.env]:=by rfl):
  QX X (.JoinedStr [.FormattedValue a (-1) none p1,.Constant (.str c) k p2,.FormattedValue b (-1) none p3] pos) (fFs c f g):=⟨PE.weak (a9E ha.to hb.to hs) fun σ H Q h0=>tXe h0 fun P O L ρ w ρ' r e q=>by
 unfold fFs at e;obtain⟨⟨w1,ρ1⟩,e1,e⟩:=obs e;dsimp only at e;split at e
 ·rename_i i;split at e
  ·rename_i hl;obtain⟨⟨w2,ρ2⟩,e2,e⟩:=obs e;dsimp only at e;split at e
   ·rename_i j;split at e
    ·rename_i hl2;cases e;refine⟨P,O,L,ρ,_,ρ1,r,e1,fun v H1 H1' r1 s1 d1=>?_⟩;have d1:Den X.K (AvO O ρ1 σ) H1' (.str i) v:=d1;refine⟨i,C3.mp d1,hl,P,O,L,ρ1,_,_,r1.grow s1,e2,fun u H2 H2' r2 s2 d2=>?_⟩;have d2:Den X.K (AvO O ρ' σ) H2' (.str j) u:=d2;exact⟨j,C3.mp d2,hl2,q _ H2' H2' (r2.grow s2) (Same.refl _) C9⟩
    ·cases e
   ·cases e
  ·cases e
 ·cases e⟩
def Its (z:Str):It:=⟨fun i _=>i<z.cps.size,fun i H x H'=>H'=H/\∃c,z.cps[i]? =some c/\x= .str ⟨#[c]⟩,fun i _=>z.cps.size<=i⟩
theorem a77 {P:Program}{w:World}{K:PySem.W.Frag}(z:Str)(t:Tok)(it:Addr):Turn P w K tg (Its z) [it] it (fun i h=>h.IsStrIter it "str_ascii_iterator" z t i) where
 mem:=by simp
 obj:=fun i h st b hb=>by
  have e:b=it:=by simpa using hb
  subst e;obtain⟨o,e,c,d⟩:=st;exact⟨o,e,fun v z=>by rw[d] at z;cases z⟩
 keep:=fun i h h' st k=>by
  obtain⟨o,e,r⟩:=st;exact⟨o,k it (by simp) o e,r⟩
 item:=by
  intro X hP hw hK hc i pins s σ H E I hf st hg;subst hP hw hK;obtain⟨f0,f1,f2,f3,f4,f5⟩:=hf it (by simp)
  have hg:i<z.cps.size:=hg;refine wpAny_pyNext_ascii_item st (c:=z.cps[i]) (by simp[hg]) fun h' st' sb=>?_
  have I1:Inv X pins σ H {s with heap:=h',toks:=s.toks+1}:=I.turned (fun b o hb e=>(sb.2 b hb).trans e) f0 f1 f3 f4 f5
  obtain⟨o,e,c,d⟩:=id st';exact⟨_,rfl,a5o (s:={s with heap:=h',toks:=s.toks+1}) e c d (by decide) ⟨.str ⟨#[z.cps[i]]⟩,H,I1,⟨_,rfl⟩,⟨rfl,_,by simp[hg],rfl⟩,st',fun b hb=>(hf b hb).1⟩⟩
 done:=by
  intro X hP hw hK hc i pins s σ H E I hf st hg;subst hP hw hK;obtain⟨f0,f1,f2,f3,f4,f5⟩:=hf it (by simp)
  exact wpAny_pyNext_ascii_end (I.ok.hd hc) st (jD hg) fun h' eb=>⟨rfl,I.turned (t':=s.toks) (fun b o hb e=>eb b o hb e) f0 f1 f3 f4 f5⟩
 self:=fun _ _ _ _ _ st h=>wpAny_pyIter_striter_ascii st h
def iStr (tl:TE):TI:=fun σ H R=>tl σ H fun x H1=>∃z,x= .str z/\z.cps.all (· < 128)=true/\R (Its z) H1
theorem b1O {tl:TE}(hl:PE X e tl):PI X tg e (iStr tl):=by
 intro pins s σ H R I h;refine thn (hl pins s σ H _ I h) fun v s1 ⟨x,H1,I1,r1,z,ex,ha,q⟩=>?_;subst ex;obtain⟨t,rfl⟩:=(show ∃t,v=Value.str z t from r1);refine wpAny_pyIter_ascii ha ?_;have I2:=I1.kept (t':=s1.toks) (h':=s1.heap.push {cls:=.type "str_ascii_iterator",data:=.fields #[.str z t,.int 0 0]}) fun b o e=>zD _ e;refine⟨s1.heap.objs.size,[s1.heap.objs.size],_,_,H1,rfl,I2,a77 z t _,⟨_,zO _ rfl,rfl,rfl⟩,fun b hb=>?_,q⟩;have e:b=s1.heap.objs.size:=by simpa using hb
 subst e;exact I1.fpOk (zE _) (I1.hok.fresh (zE _))
def signs (z:Str):List D:=z.cps.toList.map fun c=>.str ⟨#[c]⟩
def fiStr (f:FX):FI:=fun ρ=>(f ρ).bind fun p=>match p.1 with
 | .v (.str z)=>if z.cps.all (· < 128)=true then some (signs z,p.2) else none
 | _=>none
theorem b1p (hl:QX X e f):QI X tg e (fiStr f):=⟨PI.weak (b1O hl.to) fun σ H R h0=>tIe h0 fun P O L ρ xs ρ' r e q=>by
 unfold fiStr at e;obtain⟨⟨w,ρ1⟩,e1,e⟩:=obs e;dsimp only at e;split at e
 ·rename_i z;split at e
  ·rename_i ha;cases e;refine⟨P,O,L,ρ,_,_,r,e1,fun v H1 H' r1 s1 d1=>?_⟩;have d1:Den X.K (AvO O ρ' σ) H' (.str z) v:=d1;refine⟨z,C3.mp d1,ha,q _ H' P (r1.grow s1) (fun p hp=>hp) fun Y O' L' ρ' σ' Hh hY rr=>⟨fun i x ex=>?_,?_⟩⟩
   ·unfold signs at ex;rw[qF,jX] at ex;cases hc:z.cps[i]? with
    | none=>rw[hc] at ex;cases ex
    | some c=>
     rw[hc] at ex;cases ex;refine⟨(Array.getElem?_eq_some_iff.mp hc).1,fun w H'' ⟨y1,c',y2,y3⟩=>?_⟩;subst y1 y3;rw[hc] at y2;cases y2;exact⟨Same.refl _,C3.mpr rfl⟩
   ·show z.cps.size<=(signs z).length;unfold signs;rw[zC,qW];exact zE _
  ·cases e
 ·cases e⟩
theorem a5X:CallR X (.type "int") (fun xs H Q=>∃x n,xs=[.str x]/\x.length<=640/\PySem.intText? x=some n/\Q (.int n) H):=by
 intro pins s σ H xs us Q I r h;obtain⟨x,n,rfl,hl,hn,q⟩:=h;obtain⟨u,rfl,rx⟩:=vals1 r;obtain⟨t,rfl⟩:=(show ∃t,u=Value.str x t from rx);exact PySem.W.KIN.call_text hn hl ⟨.int _,H,I.tok _,⟨_,rfl⟩,q⟩
def gIntT:D->Option W
 | .str x=>if x.length<=640 then(PySem.intText? x).map fun n=>.v (.int n) else none
 | d=>gInt d
theorem a2F:CallR X (.type "int") (fun xs H Q=>(∃b,xs=[.bl b]/\Q (.int (if b then 1 else 0)) H)\/∃x n,xs=[.str x]/\x.length<=640/\PySem.intText? x=some n/\Q (.int n) H):=a6p.or a5X
theorem a4G:PrA X (k1 gIntT) (fun xs H Q=>(∃b,xs=[.bl b]/\Q (.int (if b then 1 else 0)) H)\/∃x n,xs=[.str x]/\x.length<=640/\PySem.intText? x=some n/\Q (.int n) H):=fun A ds w vs H Q hA e l q=>by
 match ds,e,l with
 | [d],e,l=>
  have e:gIntT d=some w:=e;cases d with
  | str x=>
   obtain⟨v,rfl,h⟩:=denRL1 l;simp only[gIntT] at e;split at e
   ·rename_i hl;obtain⟨n,e1,rfl⟩:=oms e;exact .inr ⟨x,n,by rw[q9 h],hl,e1,q _ H (Same.refl H) A2⟩
   ·cases e
  | _=>exact .inl (b1Q A [_] w vs H Q hA e l q)
end
section
variable {ρ:Ev}{f g:FX}{fa:FA}{op:Str->List D->Option W}{x y c:Str}{ws:List W}{ds:List D}{w:W}{d d':D}{lo hi:FO}{l u:Option Int}{i j:Nat}{gp:FP}{b:Bool}
def me4 (op:Str->List D->Option W) (x:Str) (ρ:Ev):Option (List D)->Option (W×Ev)
 | some ds=>withE ρ (op x ds)
 | none=>none
def me3 (op:Str->List D->Option W) (x:Str):Option (List W×Ev)->Option (W×Ev)
 | some (ws,ρ)=>me4 op x ρ (drs ρ ws)
 | none=>none
def me2 (op:Str->List D->Option W) (fa:FA):Option (W×Ev)->Option (W×Ev)
 | some (.v (.str x),ρ)=>me3 op x (fa ρ)
 | _=>none
theorem r_me:fMeth op f fa ρ=me2 op fa (f ρ):=by
 unfold fMeth;cases f ρ with
 | none=>rfl
 | some p=>
  obtain⟨w,ρ1⟩:=p;cases w with
  | v d=>cases d with
   | str x=>
    show(fa ρ1).bind _=me3 op x (fa ρ1);cases fa ρ1 with
    | none=>rfl
    | some q=>
     obtain⟨ws,ρ2⟩:=q;show(drs ρ2 ws).bind _=me4 op x ρ2 (drs ρ2 ws);cases drs ρ2 ws with
     | none=>rfl
     | some ds=>show(op x ds).map _=withE ρ2 (op x ds);unfold withE;cases op x ds<;>rfl
   | _=>rfl
  | _=>rfl
theorem b0w:me2 op fa (some (.v (.str x),ρ))=me3 op x (fa ρ):=id rfl
theorem b0o:me3 op x (some (ws,ρ))=me4 op x ρ (drs ρ ws):=id rfl
theorem b0G:me4 op x ρ (some ds)=withE ρ (op x ds):=id rfl
theorem r_ms:mStarts x [.str y]=some (.v (.bl (Txt.startswith x y))):=id rfl
def ss5 (l u:Option Int) (ρ:Ev):Option D->Option (W×Ev)
 | some x=>withE ρ (slS x l u)
 | none=>none
def ss4 (w:W) (l:Option Int):Option (Option Int×Ev)->Option (W×Ev)
 | some (u,ρ)=>ss5 l u ρ (dr ρ w.fz)
 | none=>none
def ss3 (w:W) (hi:FO):Option (Option Int×Ev)->Option (W×Ev)
 | some (l,ρ)=>ss4 w l (hi ρ)
 | none=>none
def ss2 (lo hi:FO):Option (W×Ev)->Option (W×Ev)
 | some (w,ρ)=>ss3 w hi (lo ρ)
 | none=>none
theorem r_ss:fSlS f lo hi ρ=ss2 lo hi (f ρ):=by
 unfold fSlS;cases f ρ with
 | none=>rfl
 | some p=>
  obtain⟨w,ρ1⟩:=p;show(lo ρ1).bind _=ss3 w hi (lo ρ1);cases lo ρ1 with
  | none=>rfl
  | some q=>
   obtain⟨l,ρ2⟩:=q;show(hi ρ2).bind _=ss4 w l (hi ρ2);cases hi ρ2 with
   | none=>rfl
   | some q=>
    obtain⟨u,ρ3⟩:=q;show(dr ρ3 w.fz).bind _=ss5 l u ρ3 (dr ρ3 w.fz);cases dr ρ3 w.fz with
    | none=>rfl
    | some x=>show(slS x l u).map _=withE ρ3 (slS x l u);unfold withE;cases slS x l u<;>rfl
theorem b0P:ss2 lo hi (some (w,ρ))=ss3 w hi (lo ρ):=id rfl
theorem b0z:ss3 w hi (some (l,ρ))=ss4 w l (hi ρ):=id rfl
theorem a98:ss4 w l (some (u,ρ))=ss5 l u ρ (dr ρ w.fz):=id rfl
theorem b1d:ss5 l u ρ (some d)=withE ρ (slS d l u):=id rfl
def pv3 (i j:Nat) (d:D) (ρ:Ev):Option W->Option R
 | some (.o d')=>if(freeSlot ρ i=true/\freeSlot (ρ.set i (some (.v d))) j=true)/\lfC d'=true then some (.nx ((ρ.set i (some (.v d))).set j (some (.o d')))) else none
 | _=>none
def pv2 (i j:Nat) (g:FP):Option (W×Ev)->Option R
 | some (.v d,ρ)=>pv3 i j d ρ (g ρ)
 | _=>none
theorem r_pv:fParV i j f gp ρ=pv2 i j gp (f ρ):=by
 unfold fParV;cases f ρ with
 | none=>rfl
 | some p=>
  obtain⟨w,ρ1⟩:=p;cases w with
  | v d=>
   show(gp ρ1).bind _=pv3 i j d ρ1 (gp ρ1);cases gp ρ1 with
   | none=>rfl
   | some w=>cases w<;>rfl
  | _=>rfl
theorem b1f:pv2 i j gp (some (.v d,ρ))=pv3 i j d ρ (gp ρ):=id rfl
theorem b0Z:pv3 i j d ρ (some (.o d'))=if(freeSlot ρ i=true/\freeSlot (ρ.set i (some (.v d))) j=true)/\lfC d'=true then some (.nx ((ρ.set i (some (.v d))).set j (some (.o d')))) else none:=id rfl
def fs3 (c i:Str):Option (W×Ev)->Option (W×Ev)
 | some (.v (.str j),ρ)=>if i.length+c.length+j.length<=lim then some (.v (.str (i++c++j)),ρ) else none
 | _=>none
def fs2 (c:Str) (g:FX):Option (W×Ev)->Option (W×Ev)
 | some (.v (.str i),ρ)=>if i.length+c.length<=lim then fs3 c i (g ρ) else none
 | _=>none
theorem r_fs:fFs c f g ρ=fs2 c g (f ρ):=by
 unfold fFs;cases f ρ with
 | none=>rfl
 | some p=>
  obtain⟨w,ρ1⟩:=p;cases w with
  | v d=>cases d with
   | str i=>
    show(if _ then(g ρ1).bind _ else _)=(if _ then fs3 c i (g ρ1) else _)
    split
    ·cases g ρ1 with
     | none=>rfl
     | some q=>
      obtain⟨w,ρ2⟩:=q;cases w with
      | v d=>cases d<;>rfl
      | _=>rfl
    ·rfl
   | _=>rfl
  | _=>rfl
theorem a95:fs2 c g (some (.v (.str x),ρ))=if x.length+c.length<=lim then fs3 c x (g ρ) else none:=id rfl
theorem b1a:fs3 c x (some (.v (.str y),ρ))=if x.length+c.length+y.length<=lim then some (.v (.str (x++c++y)),ρ) else none:=id rfl
def isg2:Option (W×Ev)->Option (List D×Ev)
 | some (.v (.str z),ρ)=>if z.cps.all (· < 128)=true then some (signs z,ρ) else none
 | _=>none
theorem b09:fiStr f ρ=isg2 (f ρ):=by
 unfold fiStr;cases f ρ with
 | none=>rfl
 | some p=>
  obtain⟨w,ρ1⟩:=p;cases w with
  | v d=>cases d<;>rfl
  | _=>rfl
theorem a7Q:isg2 (some (.v (.str x),ρ))=if x.cps.all (· < 128)=true then some (signs x,ρ) else none:=id rfl
theorem b0u:oInS b (.str x) (.str y)=some (.v (.bl (if b then !inS x y else inS x y))):=id rfl
theorem a7n:oAddS (.str x) (.str y)=if x.length+y.length<=lim then some (.v (.str (x++y))) else none:=id rfl
theorem a8d:gLenG (.str x)=if x.length<=lim then some (.v (.int x.length)) else none:=id rfl
theorem a8o:gLenG (.lst ds)=gLen (.lst ds):=id rfl
theorem a8q:gLenG (.tup ds)=gLen (.tup ds):=id rfl
theorem a6O:gIntT (.str x)=if x.length<=640 then(PySem.intText? x).map fun n=>.v (.int n) else none:=id rfl
theorem a60:gIntT (.bl b)=some (.v (.int (if b then 1 else 0))):=id rfl
theorem b0W:slS (.str x) l u=if x.length<=lim then some (.v (.str (Txt.slice x l u))) else none:=id rfl
theorem b0b {n:Int}:oIx (.str x) (.int n)=strAt x n:=id rfl
end
open PySem L2 PySem.NumText PySem.StrLaws PyProof.Rows
abbrev numS (n:Int):Str:=Str.ofString (toString n)
def dgs (m:Nat):List Nat:=(Nat.toDigits 10 m).map Char.toNat
theorem E1 (m:Nat):(numS (m:Int)).cps.toList=dgs m:=PySem.W.KIN.signs_num m
theorem Z0 (m:Nat):(numS (-((m+1:Nat):Int))).cps.toList=45::dgs (m+1):=by
 show(Str.ofString (toString (Int.negSucc m))).cps.toList=_;rw[signs_ofString];show(("-" ++ Nat.repr (m+1):String).toList).map Char.toNat=_;rw[String.toList_append,jJ,Nat.toList_repr];rfl
theorem Q5 {a b:Str}(h:a.cps.toList=b.cps.toList):a=b:=Str.ext' (by
 have:=qN List.toArray h
 simpa using this)
theorem a9l (m:Nat):numS (-((m+1:Nat):Int))=Str.ofString "-" ++ numS ((m+1:Nat):Int):=Q5 (by
 rw[Z0,xE,jC,E1];rfl)
theorem V3 (m:Nat):AllDigits (dgs m):=fun c hc=>by
 obtain⟨ch,hch,e⟩:=qA.mp hc;have r:=digit_range (Nat.isDigit_of_mem_toDigits (by decide) (by decide) hch)
 rw[<-e];exact r
theorem a1M (m:Nat):dgs m≠[]:=fun e=>by
 have h:=toDigits_len_ge 10 m;rw[List.map_eq_nil_iff.mp e] at h;exact absurd h (by decide)
theorem a7c:∀(m:Nat) {r:List Nat},dgs m=48::r->m=0:=by
 intro m
 induction m using Nat.strongRecOn with
 | _ m ih=>
  intro r e
  by_cases h:m<10
  ·unfold dgs at e;rw[Nat.toDigits_of_lt_base h] at e;have hd:=PySem.W.KIN.digit_back m h;have e1:(Nat.digitChar m).toNat=48:=by
    have:=qN List.head? e
    simpa using this
   walk_at "o"
  ·have hm:m%10<10:=Nat.mod_lt m (by decide)
   have t:Nat.toDigits 10 (m/10)++Nat.toDigits 10 (m%10)=Nat.toDigits 10 (10*(m/10)+m%10):=Nat.toDigits_append_toDigits (by decide) (by walk_at "o") hm
   rw[Nat.div_add_mod] at t;unfold dgs at e;rw[<-t,jJ] at e;cases q:dgs (m/10) with
   | nil=>exact absurd q (a1M _)
   | cons c s=>
    unfold dgs at q;rw[q] at e;have e1:c=48:=by
     have:=qN List.head? e
     simpa using this
    subst e1
    have:=ih (m/10) (by walk_at "o") (r:=s) q
    walk_at "o"
theorem W7 (x:Str):x.length=x.cps.toList.length:=by simp[Str.length]
theorem V4 {m:Nat}(h:m<10^60):(numS (m:Int)).length<=60:=toString_length_le (Int.natCast_nonneg m) (by decide) (by exact_mod_cast h)
theorem J2 (n:Int):(∃m:Nat,n=m)\/∃m:Nat,n= -((m+1:Nat):Int):=by
 cases n with
 | ofNat m=>exact .inl ⟨m,rfl⟩
 | negSucc m=>exact .inr ⟨m,rfl⟩
theorem a1A {n:Int}(h:n.natAbs<10^60):(numS n).length<=61:=by
 rcases J2 n with ⟨m,rfl⟩|⟨m,rfl⟩
 ·exact Nat.le_succ_of_le (V4 (by walk_at "o"))
 ·rw[W7,Z0]
  have:=V4 (m:=m+1) (by walk_at "o")
  rw[W7,E1] at this;rw[zZ];walk_at "o"
theorem a9u {n:Int}(h:n.natAbs<10^60):PySem.intText? (numS n)=some n:=by
 rcases J2 n with ⟨m,rfl⟩|⟨m,rfl⟩
 ·have e:=intText_digits (x:=numS (m:Int)) (by rw[E1];exact V3 m) (by rw[E1];exact a1M m) (zG (a1A h) (by decide))
  rw[E1] at e;unfold dgs at e;rw[PySem.W.KIN.val_back] at e;exact e
 ·have e:=intText_neg (x:=numS (-((m+1:Nat):Int))) (Z0 m) (V3 _) (a1M _) (zG (a1A h) (by decide))
  unfold dgs at e;rw[PySem.W.KIN.val_back] at e;exact e
theorem a8P (c:Nat)(n:Int)(hc:c≠45/\(c<48\/57<c)):c∉(numS n).cps.toList:=int_text_free' c hc n
theorem a53 (n:Int):(numS n).cps.all (· < 128)=true:=by
 rw[Array.all_eq_true_iff_forall_mem];intro c hc;have hc:c∈(numS n).cps.toList:=by simpa using hc
 by_cases h:c=45\/(48<=c/\c<=57)
 ·simp;walk_at "o"
 ·exact absurd hc (a8P c n (by walk_at "o"))
theorem b1C (c:Nat)(x:Str):inS ⟨#[c]⟩ x=decide (c∈x.cps.toList):=found_one x c
theorem a4f (x:Str)(c:Nat):Txt.startswith x ⟨#[c]⟩=(x.cps.toList.head? == some c):=by
 unfold Txt.startswith;rw[Bool.eq_iff_iff,xG,decide_eq_true_eq,beq_iff_eq,subAt_one x c 0,List.head?_eq_getElem?]
theorem a6N {a b:Str}{c:Nat}(h:c∉a.cps.toList):partS (a++⟨#[c]⟩++b) ⟨#[c]⟩=[a,⟨#[c]⟩,b]:=by
 have hl:(a++⟨#[c]⟩++b:Str).cps.toList=a.cps.toList++c::b.cps.toList:=by
  rw[xE,xE,jC,jC];simp
 have la:a.length=a.cps.toList.length:=W7 a;have lw:(a++⟨#[c]⟩++b:Str).length=a.cps.toList.length+(b.cps.toList.length+1):=by rw[W7,hl];simp
 have at_:∀i,At (a++⟨#[c]⟩++b) ⟨#[c]⟩ (a++⟨#[c]⟩++b:Str).length i↔(a.cps.toList++c::b.cps.toList)[i]? =some c:=fun i=>by
  unfold At;rw[subAt_one,hl]
 have first:∃r,Builtin.Str.occurrences (a++⟨#[c]⟩++b) ⟨#[c]⟩ 0 (a++⟨#[c]⟩++b:Str).length 1=a.cps.toList.length::r:=by
  have h0:(a.cps.toList++c::b.cps.toList)[a.cps.toList.length]? =some c:=by rw[qC (zE _),jL];rfl
  rcases occ_head (a++⟨#[c]⟩++b) ⟨#[c]⟩ 1 (zE 1) with ⟨_,hn⟩|⟨i,r,e,hi,hn⟩
  ·exact absurd ((at_ _).mpr h0) (hn _)
  ·have hi':=(at_ i).mp hi
   have:¬i<a.cps.toList.length:=fun q=>by
    rw[zW q] at hi';exact h (jW hi')
   have:¬a.cps.toList.length<i:=fun q=>hn _ q ((at_ _).mpr h0)
   have:i=a.cps.toList.length:=by walk_at "o"
   subst this;exact⟨r,e⟩
 obtain⟨r,e⟩:=first;unfold partS;rw[e];dsimp only
 have e1:Builtin.Str.strSub (a++⟨#[c]⟩++b) 0 a.cps.toList.length=a:=Q5 (by
  rw[strSub_toList,hl];simp)
 have e2:Builtin.Str.strSub (a++⟨#[c]⟩++b) (a.cps.toList.length+(⟨#[c]⟩:Str).length) (a++⟨#[c]⟩++b:Str).length=b:=Q5 (by
  rw[strSub_toList,hl,lw];show((a.cps.toList++c::b.cps.toList).drop (a.cps.toList.length+1)).take (a.cps.toList.length+(b.cps.toList.length+1)-(a.cps.toList.length+1))=_;rw[List.drop_append,List.drop_eq_nil_of_le (Nat.le_succ _),nil_append,show a.cps.toList.length+1-a.cps.toList.length=1 by walk_at "o"]
  exact List.take_of_length_le (by show b.cps.toList.length<=_;walk_at "o"))
 rw[e1,e2]
theorem a2x (y x:Str)(z:Str)(r:List Str):Str.join y (x::z::r)=x++y++Str.join y (z::r):=rfl
theorem a3F {c:Nat}:∀{a b r s:List Nat},c∉a->c∉b->a++c::r=b++c::s->a=b/\r=s
 | [],[],r,s,_,_,e=>by simpa using e
 | [],y::b,r,s,_,hb,e=>by
  have:c=y:=by simpa using qN List.head? e
  exact absurd (this▸zI) hb
 | x::a,[],r,s,ha,_,e=>by
  have:x=c:=by simpa using qN List.head? e
  exact absurd (this▸zI) ha
 | x::a,y::b,r,s,ha,hb,e=>by
  rw[cons_append,cons_append,List.cons.injEq] at e;obtain⟨e1,e2⟩:=a3F (fun m=>ha (zH _ m)) (fun m=>hb (zH _ m)) e.2;exact⟨by rw[e.1,e1],e2⟩
theorem D3 (c:Nat)(x z:Str)(r:List Str):(Str.join ⟨#[c]⟩ (x::z::r)).cps.toList=x.cps.toList++c::(Str.join ⟨#[c]⟩ (z::r)).cps.toList:=by
 rw[a2x,xE,xE,jC,jC];simp
theorem a2H {c:Nat}:∀{xs ys:List Str},xs≠[]->ys≠[]->(∀x∈xs,c∉x.cps.toList)->(∀x∈ys,c∉x.cps.toList)->Str.join ⟨#[c]⟩ xs=Str.join ⟨#[c]⟩ ys->xs=ys
 | [],_,h,_,_,_,_=>absurd rfl h
 | _::_,[],_,h,_,_,_=>absurd rfl h
 | [x],[y],_,_,_,_,e=>by rw[show x=y from e]
 | [x],y::z::r,_,_,hx,_,e=>by
  have e:x.cps.toList=_:=(qN (fun s:Str=>s.cps.toList) e).trans (D3 c y z r);exact absurd (by rw[e];simp) (hx x zI)
 | x::z::r,[y],_,_,_,hy,e=>by
  have e:_=y.cps.toList:=(D3 c x z r).symm.trans (qN (fun s:Str=>s.cps.toList) e);exact absurd (by rw[<-e];simp) (hy y zI)
 | x::z::r,y::u::s,_,_,hx,hy,e=>by
  have e:=qN (fun s:Str=>s.cps.toList) e;rw[D3,D3] at e;obtain⟨e1,e2⟩:=a3F (hx x zI) (hy y zI) e;rw[Q5 e1,a2H (by simp) (by simp) (fun q h=>hx q (zH _ h)) (fun q h=>hy q (zH _ h)) (Q5 e2)]
theorem a7C (x y:Str):Txt.split x y≠[]:=by
 unfold Txt.split
 split
 ·simp
 ·split
  ·simp
  ·intro h
   have:=length_partsBetween x (Builtin.Str.occurrences x y 0 x.length (x.length+1)) y.length
   rw[h] at this;simp at this
theorem U1 {c:Nat}{xs:List Str}(h0:xs≠[])(h:∀x∈xs,c∉x.cps.toList):Txt.split (Txt.join ⟨#[c]⟩ xs) ⟨#[c]⟩=xs:=by
 have e:Txt.join ⟨#[c]⟩ xs=Str.join ⟨#[c]⟩ xs:=qT _ _;exact a2H (a7C _ _) h0 (split_free _ c) h ((join_split _ _).trans e)
theorem Z7 (x:Str)(c:Nat):(Builtin.Str.partsBetween x (Builtin.Str.occurrences x ⟨#[c]⟩ 0 x.length (x.length+1)) (⟨#[c]⟩:Str).length).length<=x.length+2:=by
 rw[length_partsBetween]
 have:=occ_length_le_len x ⟨#[c]⟩ 0 (x.length+1)
 exact zG (Nat.succ_le_succ (occ_length_le_len x ⟨#[c]⟩ 0 x.length (x.length+1))) (by walk_at "o")
theorem a78 {x:Str}{d:D}:oIxG (.str x) d=oIx (.str x) d:=rfl
end Z
def rwN:=(".r_me .b0w .b0o .b0G .r_ms .r_ss .b0P .b0z .a98 .b1d .r_pv .b1f .b0Z .r_fs .a95 .b1a .b09 .a7Q .b0u .a7n .a8d .a8o .a8q .a6O .a60 .b0W .b0b .b0i .a8Q .a79 reverse_cons List.reverse_nil nil_append .a78 .lim .r_nt .b0S .r_fn .a6Z .a6W .b0D .a3t .a6L .a6U .r_dp .b0Y .b0s .b0M .b0R .b08 .b0K .b0d .b0A .a2q .it_t .it_l .r_iz .b02 .b1c .b0l .r_r1 .a93 .r_r2 .b03 .r_ch .b0r .a92 .b0U .a4S .b0L .a5j .a5n .r_c .a8C .a64 .a4V .a8E .a7w .a67 .a5d .a5t .a7H .b01 .a8v .a7E .a7V .a6X .r_un .b06 .a97 .a1K .a8z .a8i .a6E .a3i .a2y .b0J .a8O .b05 .r_or .a5h .a4H .a8S .a8x .a8D .r_if .a3I .a8m .a7N .b0m .a6M .a49 .a5c .a4X .a4E .a5z .a7f .a7T .a7b .b0p .b0T .a4Q .a4F .a8K .a45 .a5F .r_k1 .r_k2 .b0H .a70 .a7p .a8u .r_sl .b0I .b0q .a94 .b0a .a7l .a7j .r_o0 .r_o1 .a90 .a68 .a2b .a2D .b0X .a5e .a5a .a5r .a33 .r_ifS .a5G .a4P .b0F .a46 .a5B .r_ag .b00 .b0x .b0n .a5b .a8w .a4N .b0Q .a74 .a7J .a5g .b0v .a8F .a69 .r_is .b0y .a7o .a7K .b0e .a65 .a7O .a5k .r_mu .b0O .b0j .b0f .a96 .b0V .b0h .b0c .a3Q .a3T .o_i0 .o_i .a4I .a5H .a7U .a7u .a8f .a7X .a5i .a4R .a91 .a13 .o_d2 .a_0 .a_1 .a_2 .a99 .b0g .a41 .a0W .a4U .a7d .a6A .a16 .b1e .b07 .a8h .a8a .b0N .b0E .W.own .start0 .deq .deqL .flatE .isD .lf .lfL .frzL zZ length_nil zJ xD List.replicate append_nil nil_append cons_append xK jS List.set_cons_zero List.set_cons_succ bind_some xP jB xQ jT Nat.zero_add Nat.reduceAdd Nat.reduceSub jL Nat.add_one_sub_one and_self and_true Bool.and_self Bool.and_true Bool.true_and Bool.not_true Bool.not_false reduceIte ite_self Nat.reduceLeDiff beq_self_eq_true List.isEmpty_cons List.isEmpty_nil".splitOn " ")
local macro_rules|`(tactic|walk_at "z r")=>do
 let xs:=(rwN.map fun s=>Lean.mkIdent (if s.startsWith "." then "Z"++s else s).toName).toArray
 `(tactic|simp only[$[$xs:ident],*])
local macro_rules|`(tactic| walk_at "q") => `(tactic| repeat(first|walk_at "z r"))
local macro_rules|`(tactic|walk_at "z i")=>do
 let xs:=((rwN.filter fun s=>![".r_ifS"].contains s).map fun s=>Lean.mkIdent (if s.startsWith "." then "Z"++s else s).toName).toArray
 `(tactic|simp only[$[$xs:ident],*])
set_option maxHeartbeats 1500000
namespace Q78
open PySem L2 Z
abbrev LO:=List D->Option W
abbrev LL:=D->List D->Option (W×D)
local macro_rules|`(tactic| walk_at "c") => `(tactic| exact⟨rfl, rfl, rfl, by decide +kernel, rfl, by decide +kernel, by decide +kernel⟩)
def top (i:Nat):Stmt:=PySem.Challenge.pw_twainhoard_k78_parties_and_webs_written.main.body.getD i (.Pass ⟨0,0,0,0⟩)
section
variable {P:Program}{w:World}{K:PySem.W.Frag}{mg:Str->Option Value}{base:Heap}{f:Addr}{fd:FuncData}{k:Nat}
abbrev a2o (mg:Str->Option Value) (K:PySem.W.Frag):Prop:=GlS mg "FIGURES" "0123456789"
abbrev a4x (mg:Str->Option Value) (K:PySem.W.Frag):Prop:=GlS mg "NONE" "."
abbrev Q1 (mg:Str->Option Value) (K:PySem.W.Frag):Prop:=∃t,mg "MOST_FIGURES"=some (.int 60 t)
abbrev R9 (mg:Str->Option Value) (K:PySem.W.Frag):Prop:=∃t,mg "MOST_THINGS"=some (.int 100 t)
abbrev a5A (mg:Str->Option Value) (K:PySem.W.Frag):Prop:=∃t,mg "PIECE"=some (.int (10^60) t)
abbrev G9 (mg:Str->Option Value) (K:PySem.W.Frag):Prop:=∃t,mg "MOST_PEOPLE"=some (.int 8 t)
abbrev a0C (mg:Str->Option Value) (K:PySem.W.Frag):Prop:=∃t,mg "MOST_GAIN"=some (.int (10^12) t)
abbrev T6:Stmt:=top 4
theorem a0u:FnScope ["thing"] ["thing"] (defScope T6):=by walk_at "c"
def L1 (g:LO):Prop:=∀i:Int,g [.int i]=some (.v (.bl true))
theorem a31 (g6:mg "isinstance"=none)(m_int:mg "int"=none)(a4p:mg "bool"=none)(F:Fun K "is_whole" "is_whole" T6 f fd)(B:Binds K fd ["thing"] [])(hm:mg "is_whole"=some (.ref f)):∃g,Fn P w K mg base "is_whole" (k+1) g/\L1 g:=by
 have nd:=a0u.nd;refine⟨_,t6 F a0u B hm rfl rfl (fun cdv A outer s H E hr=>(c7 (g8 (a0g (T4 (T:="int") (S6 (by decide)) g6 m_int (a7 0)) (Z6 (a9d (T4 (T:="bool") (S6 (by decide)) g6 a4p (a7 0)))))))),?_⟩
 intro i;have i1:=b1s (d:=.int i) rfl;have i2:=a85 (d:=.int i) rfl
 repeat(first|walk_at "z r" | simp only[i1,i2,isI,isB])
abbrev a1H:Stmt:=top 5
theorem a17:FnScope ["thing","count"] ["thing","count"] (defScope a1H):=by walk_at "c"
def a0S (g:LO):Prop:=∀(xs:List D) (c:Int),g [.tup xs,.int c]=some (.v (.bl (((xs.length:Nat):Int)==c)))
theorem a6v (g6:mg "isinstance"=none)(j6:mg "tuple"=none)(m_len:mg "len"=none)(F:Fun K "is_row" "is_row" a1H f fd)(B:Binds K fd ["thing","count"] [])(hm:mg "is_row"=some (.ref f)):∃g,Fn P w K mg base "is_row" (k+1) g/\a0S g:=by
 have nd:=a17.nd;refine⟨_,t6 F a17 B hm rfl rfl (fun cdv A outer s H E hr=>(c7 (g8 (a0g (T4 (T:="tuple") (S6 (by decide)) g6 j6 (a7 0)) (Z6 (b04 hr (qx_b B0 G2 m_len (a8 (a7 0) a9)) (a7 1))))))),?_⟩
 intro xs c;have it:=a1f (d:=.tup xs) rfl
 repeat(first|walk_at "z r" | simp only[it,isT])
def RiseD (xs:List D):Prop:=∀x∈zipD xs (xs.drop 1),∃a b,x= .tup [a,b]/\oLtT a b=some (.v (.bl true))
theorem a20 {α:Type}{f:α->D}{R:α->α->Prop}(hR:∀a b,R a b->oLtT (f a) (f b)=some (.v (.bl true))):∀{xs:List α},xs.Pairwise R->RiseD (xs.map f)
 | [],_,x,hx=>by cases hx
 | [a],_,x,hx=>by cases hx
 | a::b::r,h,x,hx=>by
  unfold zipD at hx;rw[zJ,zJ,List.drop_succ_cons,drop_zero,xV] at hx;rcases zN.mp hx with rfl|hx
  ·exact⟨f a,f b,rfl,hR _ _ ((pairwise_cons.mp h).1 b zI)⟩
  ·exact a20 hR (pairwise_cons.mp h).2 x (by unfold zipD;rw[zJ,List.drop_succ_cons,drop_zero];exact hx)
theorem a0L:∀{xs:List D},lfL xs=true->∀{x:D},x∈xs->lf x=true
 | y::ys,h,x,hx=>by
  rw[lfL,xG] at h;rcases zN.mp hx with rfl|hx
  ·exact h.1
  ·exact a0L h.2 hx
abbrev Q0:Stmt:=top 6
theorem X3:FnScope ["row"] ["row"] (defScope Q0):=by walk_at "c"
def N0 (g:LO):Prop:=∀xs:List D,RiseD xs->xs.length<=100->lfL xs=true->g [.lst xs]=some (.v (.bl true))
theorem a2K (m_all:mg "all"=none)(m_zip:mg "zip"=none)(F:Fun K "is_rising" "is_rising" Q0 f fd)(B:Binds K fd ["row"] [])(hm:mg "is_rising"=some (.ref f)):∃g,Fn P w K mg base "is_rising" (k+1) g/\N0 g:=by
 have nd:=X3.nd;refine⟨_,t6 F X3 B hm rfl rfl (fun cdv A outer s H E hr=>(c7 (g8 (qx_b (Q9 rfl) X0 m_all (a8 (m3 (N:=["one","other"]) (js:=[none,none]) (li:=none) rfl (o7 (by exact(.own (.own .nil))) rfl (by exact trivial) (by rfl)) (B9 (b12 m_zip (a8 (a7 0) (a8 (K3 (a7 0) (G6 b9) R3) a9)))) (fun _ _ _ _=>(t9 rfl (c8 (c6 0 (show((["one","other"]:List Str)++[accN]).Nodup by decide +kernel)) (c8 (c6 1 (show((["one","other"]:List Str)++[accN]).Nodup by decide +kernel)) l8)))) (fun _ _ _ _=>k6) (fun _ _ _ _=>(a7s hr (a7 0) (a7 1)))) a9))))),?_⟩
 intro xs hs hl hf;have lf1:lfL (xs.drop 1)=true:=B6 fun y hy=>a0L hf (List.mem_of_mem_drop hy);walk_at "q";rw[j5 (ρ1:=[some (.v (.lst xs))]) (xs:=zipD xs (xs.drop 1)) (fun B=>∃o1 o2:Option D,B=[o1.map .v,o2.map .v]) (fun _=>true) (fun _=>.bl true)]
 ·rw[c9];have gb:=a1F (r:=fun bs=>bs.all id) (D0 (fun _=>true) (zipD xs (xs.drop 1)));rw[F4,show((zipD xs (xs.drop 1)).all fun _=>true)=true by simp] at gb
  repeat(first|walk_at "z r" | simp only[gb])
 ·repeat(first|walk_at "z r" | simp only[a7g,lf1])
 ·rintro _ ⟨_,_,rfl⟩;rfl
 ·exact⟨none,none,rfl⟩
 ·rw[a9T];simp[lim];walk_at "o"
 ·exact a1v _ _
 ·rintro x hx _ zs ⟨o1,o2,rfl⟩;obtain⟨a,b,rfl,lt⟩:=hs x hx;refine⟨[some (.v a),some (.v b)],.v (.bl true),⟨some _,some _,rfl⟩,?_,rfl,fun _=>⟨?_,.inl rfl⟩⟩
  ·walk_at "q"
  ·repeat(first|walk_at "z r" | simp only[lt])
abbrev P4:Stmt:=top 10
theorem W5:FnScope ["thing"] ["thing"] (defScope P4):=by walk_at "c"
def a0y (g:LO):Prop:=∀n:Int,1<=n->n<=8->g [.int n]=some (.v (.bl true))
theorem a2J {u7:LO}(u5:Fn P w K mg base "is_whole" k u7)(t8:L1 u7)(v5:G9 mg K)(F:Fun K "is_people" "is_people" P4 f fd)(B:Binds K fd ["thing"] [])(hm:mg "is_people"=some (.ref f)):∃g,Fn P w K mg base "is_people" (k+1) g/\a0y g:=by
 have nd:=W5.nd;refine⟨_,t6 F W5 B hm rfl rfl (fun cdv A outer s H E hr=>(c7 (g8 (a0g (g7 u5 hr (a8 (a7 0) a9)) (Z6 (a47 b9 (a7 0) (E4 v5))))))),?_⟩;intro n h1 h8;have w:=t8 n;have d1:decide (1<=n)=true:=zR h1;have d2:decide (n<=8)=true:=zR h8
 repeat(first|walk_at "z r" | simp only[w,d1,d2])
abbrev O7:Stmt:=top 11
theorem W6:FnScope ["people","thing"] ["people","thing"] (defScope O7):=by walk_at "c"
def P7 (g:LO):Prop:=∀n i:Int,0<=i->i<n->g [.int n,.int i]=some (.v (.bl true))
theorem a29 {u7:LO}(u5:Fn P w K mg base "is_whole" k u7)(t8:L1 u7)(F:Fun K "is_person" "is_person" O7 f fd)(B:Binds K fd ["people","thing"] [])(hm:mg "is_person"=some (.ref f)):∃g,Fn P w K mg base "is_person" (k+1) g/\P7 g:=by
 have nd:=W6.nd;refine⟨_,t6 F W6 B hm rfl rfl (fun cdv A outer s H E hr=>(c7 (g8 (a0g (g7 u5 hr (a8 (a7 1) a9)) (Z6 (a9n b9 (a7 1) (a7 0))))))),?_⟩;intro n i h0 hn;have w:=t8 i;have d1:decide (0<=i)=true:=zR h0;have d2:decide (i<n)=true:=zR hn
 repeat(first|walk_at "z r" | simp only[w,d1,d2])
abbrev P3:Stmt:=top 12
theorem W8:FnScope ["people","thing","one","other","gain"] ["people","thing"] (defScope P3):=by walk_at "c"
def a0t (g:LO):Prop:=∀(n:Int) (t:Tie),(0<=t.1/\t.1<t.2.1/\t.2.1<n)->1<=t.2.2->t.2.2<=10^12->g [.int n,tieD t]=some (.v (.bl true))
theorem a2Y {J7:LO}{u7:LO}{A8:LO}(K5:Fn P w K mg base "is_row" k J7)(K2:a0S J7)(u5:Fn P w K mg base "is_whole" k u7)(t8:L1 u7)(w9:Fn P w K mg base "is_person" k A8)(w6:P7 A8)(N9:a0C mg K)(F:Fun K "is_triple" "is_triple" P3 f fd)(B:Binds K fd ["people","thing"] [])(hm:mg "is_triple"=some (.ref f)):∃g,Fn P w K mg base "is_triple" (k+1) g/\a0t g:=by
 have nd:=W8.nd
 refine⟨_,t6 F W8 B hm rfl rfl (fun cdv A outer s H E hr=>(b8 (z6 (C7 (z7 (g7 K5 hr (a8 (a7 1) (a8 b9 a9))))) (c7 (g8 X9)) j8)
  (b8 (A5 (a7 1) (t9 rfl (c8 (c6 2 nd) (c8 (c6 3 nd) (c8 (c6 4 nd) l8)))))
  (b8 (z6 (M2 (D2 (C7 (z7 (g7 w9 hr (a8 (a7 0) (a8 (a7 2) a9))))) (D2 (C7 (z7 (g7 w9 hr (a8 (a7 0) (a8 (a7 3) a9))))) (G7 (a2z hr (a7 2) (a7 3)))))) (c7 (g8 X9)) j8)
  (c7 (g8 (a0g (g7 u5 hr (a8 (a7 4) a9)) (Z6 (a47 b9 (a7 4) (E4 N9)))))))))),?_⟩
 intro n t h g1 g2;have er:=K2 [.int t.1,.int t.2.1,.int t.2.2] 3;rw[show(((([D.int t.1,.int t.2.1,.int t.2.2]:List D).length:Nat):Int)==3)=true from rfl] at er;have w:=t8 t.2.2;have p1:=w6 n t.1 h.1 (by walk_at "o")
 have p2:=w6 n t.2.1 (by walk_at "o") h.2.2
 have ne:(t.1==t.2.1)=false:=by simp;walk_at "o"
 have d1:decide (1<=t.2.2)=true:=zR g1;have d2:decide (t.2.2<=10^12)=true:=zR g2;rw[show tieD t= .tup [.int t.1,.int t.2.1,.int t.2.2] from rfl]
 repeat(first|walk_at "z r" | simp only[er,w,p1,p2,ne,d1,d2])
def cut2:D->D
 | .tup [a,b,_]=>.tup [a,b]
 | d=>d
theorem a4z {a b c:D}:cutD [a,b,c] none (some 2)=[a,b]:=rfl
structure WebR (n:Int) (ts:List Tie):Prop where
 ok:WebOk n ts
 g:∀t∈ts,t.2.2<=10^12
 r:(ts.map key2).Pairwise fun a b=>HT.lexLt a b=true
abbrev a1E:Stmt:=top 13
theorem a2a:FnScope ["thing","people","ties"] ["thing"] (defScope a1E):=by walk_at "c"
def a3Z (g:LO):Prop:=∀(n:Int) (ts:List Tie),WebR n ts->g [webD n ts]=some (.v (.bl true))
theorem a5U {B3:LO}{J7:LO}{M9:LO}{P5:LO}(A7:Fn P w K mg base "is_rising" k B3)(A9:N0 B3)(K5:Fn P w K mg base "is_row" k J7)(K2:a0S J7)(M7:Fn P w K mg base "is_people" k M9)(O3:a0y M9)(M6:Fn P w K mg base "is_triple" k P5)(Q2:a0t P5)(m_all:mg "all"=none)(g6:mg "isinstance"=none)(j6:mg "tuple"=none)(F:Fun K "is_web" "is_web" a1E f fd)(B:Binds K fd ["thing"] [])(hm:mg "is_web"=some (.ref f)):∃g,Fn P w K mg base "is_web" (k+1) g/\a3Z g:=by
 have nd:=a2a.nd
 refine⟨_,t6 F a2a B hm rfl rfl (fun cdv A outer s H E hr=>(b8 (z6 (C7 (z7 (g7 K5 hr (a8 (a7 0) (a8 b9 a9))))) (c7 (g8 X9)) j8)
  (b8 (A5 (a7 0) (t9 rfl (c8 (c6 1 nd) (c8 (c6 2 nd) l8))))
  (b8 (z6 (M2 (D2 (C7 (z7 (g7 M7 hr (a8 (a7 1) a9)))) (G7 (C7 (z7 (T4 (T:="tuple") (S6 (by decide)) g6 j6 (a7 2))))))) (c7 (g8 X9)) j8)
  (b8 (z6 (C7 (z7 (qx_b (Q9 rfl) X0 m_all (a8 (m3 (N:=["tie","people"]) (js:=[none,some 1]) (li:=none) rfl (o7 (by exact(.own (.cap rfl rfl rfl rfl .nil))) rfl (by exact⟨rfl,trivial⟩) (by rfl)) (D5 2) (fun _ _ _ _=>(c6 0 (show((["tie","people"]:List Str)++[accN]).Nodup by decide +kernel))) (fun _ _ _ _=>k6) (fun _ _ _ _=>(a0g (g7 M6 hr (a8 (a7 1) (a8 (a7 0) a9))) (Z6 (a7s hr (t5 hr (a7 0) b9) (t5 hr (a7 0) b9)))))) a9)))) (c7 (g8 X9)) j8)
  (c7 (g8 (g7 A7 hr (a8 (m3 (N:=["tie"]) (js:=[none]) (li:=none) rfl (o7 (by exact(.own .nil)) rfl (by exact trivial) (by rfl)) (D5 2) (fun _ _ _ _=>(c6 0 (show((["tie"]:List Str)++[accN]).Nodup by decide +kernel))) (fun _ _ _ _=>k6) (fun _ _ _ _=>(K3 (a7 0) R3 (G6 b9)))) a9))))))))),?_⟩
 intro n ts hw;have er:=K2 [.int n,.tup (ts.map tieD)] 2;rw[show(((([D.int n,.tup (ts.map tieD)]:List D).length:Nat):Int)==2)=true from rfl] at er;have hn:=hw.ok.n1;have hl:=hw.ok.len;have ep:=O3 n hn.1 hn.2;have it:=a1f (d:=.tup (ts.map tieD)) rfl;have em:(ts.map tieD).map cut2=(ts.map key2).map tupI:=by rw[zV,zV];rfl
 have lk:=W3 (ts.map key2)
 have ri:=A9 ((ts.map key2).map tupI) (a20 (R:=fun a b=>HT.lexLt a b=true) (fun a b h=>by
  show(intsOf (a.map D.int)).bind _=_
  rw[A4,bind_some,A4,xP,h]) hw.r) (by rw[zC,zC];walk_at "o") lk
 have lt:(ts.map tieD).length<=1000000:=by rw[zC];walk_at "o"
 rw[show webD n ts= .tup [.int n,.tup (ts.map tieD)] from rfl]
 repeat(first|walk_at "z r" | simp only[er,ep,it,isT])
 rw[j5 (ρ1:=[some (.v (.tup [.int n,.tup (ts.map tieD)])),some (.v (.int n)),some (.v (.tup (ts.map tieD)))]) (xs:=ts.map tieD) (fun B=>∃o1:Option D,B=[o1.map .v,some (.v (.int n))]) (fun _=>true) (fun _=>.bl true)]
 ·rw[c9];have gb:=a1F (r:=fun bs=>bs.all id) (D0 (fun _=>true) (ts.map tieD));rw[F4,show((ts.map tieD).all fun _=>true)=true by simp] at gb
  repeat(first|walk_at "z r" | simp only[gb])
  rw[j5 (ρ1:=[some (.v (.tup [.int n,.tup (ts.map tieD)])),some (.v (.int n)),some (.v (.tup (ts.map tieD)))]) (xs:=ts.map tieD) (fun B=>∃o1:Option D,B=[o1.map .v]) (fun _=>true) cut2]
  ·rw[c9,em]
   repeat(first|walk_at "z r" | simp only[ri,lk])
  ·walk_at "q"
  ·rintro _ ⟨_,rfl⟩;rfl
  ·exact⟨none,rfl⟩
  ·unfold lim;exact lt
  ·rw[c9,em];exact lk
  ·rintro x hx _ zs ⟨o1,rfl⟩;obtain⟨t,ht,rfl⟩:=qA.mp hx;refine⟨[some (.v (tieD t))],.v (.tup [.int t.1,.int t.2.1]),⟨some _,rfl⟩,?_,rfl,fun _=>⟨?_,.inl rfl⟩⟩
   ·walk_at "q"
   ·rw[show tieD t= .tup [.int t.1,.int t.2.1,.int t.2.2] from rfl]
    repeat(first|walk_at "z r" | simp only[a4z])
 ·walk_at "q"
 ·rintro _ ⟨_,rfl⟩;rfl
 ·exact⟨none,rfl⟩
 ·unfold lim;exact lt
 ·exact a1v _ _
 ·rintro x hx _ zs ⟨o1,rfl⟩;obtain⟨t,ht,rfl⟩:=qA.mp hx;have h:=hw.ok.t t ht;have e:=Q2 n t ⟨h.1,h.2.1,h.2.2.1⟩ h.2.2.2.1 (hw.g t ht);have d1:decide (t.1<t.2.1)=true:=zR h.2.1;refine⟨[some (.v (tieD t)),some (.v (.int n))],.v (.bl true),⟨some _,rfl⟩,?_,rfl,fun _=>⟨?_,.inl rfl⟩⟩
  ·walk_at "q"
  ·rw[show tieD t= .tup [.int t.1,.int t.2.1,.int t.2.2] from rfl] at e ⊢
   repeat(first|walk_at "z r" | simp only[e,d1])
theorem a6B (x:Str):Txt.join (Str.ofString "") [x]=x:=by
 show Builtin.Str.glued _ _=_;rw[qT];rfl
theorem joinOk {y:Str}{ws:List Str}{B n:Nat}(hy:y.length<=1)(h:∀w∈ws,w.length<=B)(hn:ws.length<=n)(hB:n*(B+1)<=16777216):JoinOk y ws=true:=by
 unfold JoinOk;rw[Bool.not_eq_true',PySem.StrLaws.joinFits h];refine zG ?_ hB;rw[<-Nat.mul_add];exact Nat.mul_le_mul hn (by walk_at "o")
theorem a4b {c:FT}{b:FS}{ρ ρ':Ev}(h:c ρ=some (false,ρ')):whileV c b ρ=some (.nx ρ'):=a6b (n:=1) (by rw[whileF,h];rfl)
theorem C2:∀ws:List Str,lfL (ws.map D.str)=true
 | []=>rfl
 | w::ws=>by rw[zJ];exact C2 ws
abbrev G8:Stmt:=top 20
theorem P2:FnScope ["number","left","pieces"] ["number"] (defScope G8):=by walk_at "c"
def C8 (g:LO):Prop:=∀n:Int,n.natAbs<10^60->g [.int n]=some (.v (.str (numS n)))
theorem a1r (m_abs:mg "abs"=none)(m_str:mg "str"=none)(a0P:a5A mg K)(F:Fun K "number_text" "number_text" G8 f fd)(B:Binds K fd ["number"] [])(hm:mg "number_text"=some (.ref f)):∃g,Fn P w K mg base "number_text" (k+1) g/\C8 g:=by
 have nd:=P2.nd
 refine⟨_,t6 F P2 B hm rfl rfl (fun cdv A outer s H E hr=>(b8 (a9M 1 2 rfl nd (qx_b a8M b1J m_abs (a8 (a7 0) a9)) b1E rfl)
  (b8 (a71 qX (b0k (a7 1) (E4 a0P)) (b8 Y3
  (c7 (m8 1 nd (a4s (a7 1) (E4 a0P))))))
  (b8 (G0 (Q6 (a7 2) (a8 (qx_t (R1 hr) a0M m_str (a8 (a7 1) a9)) a9)))
  (c7 (g8 (a0R (a3N (a4r hr (a7 0) b9) m6 m6) (L5 m6 (a8 (a9c (a7 2)) a9))))))))),?_⟩
 intro n hn;have ea:(if n<0 then -n else n)=(n.natAbs:Int):=by split<;>walk_at "o"
 have pc:decide ((10:Int)^60<=(n.natAbs:Int))=false:=zT (by
  have:((10:Int)^60)=((10^60:Nat):Int):=by norm_cast
  walk_at "o")
 have hs:gStrD (.int (n.natAbs:Int))=some (.v (.str (numS (n.natAbs:Int)))):=by
  show(if _ then _ else _)=_;rw[if_pos];rw[Int.natAbs_natCast];exact zF hn (zG (by decide:(10:Nat)^60<=2^200) (qU (by decide) (by decide)))
 have so:strsOf [D.str (numS (n.natAbs:Int))]=some [numS (n.natAbs:Int)]:=rfl;have lw:(numS (n.natAbs:Int)).length<=60:=V4 (by simpa using hn)
 have jo:JoinOk (Str.ofString "") [numS (n.natAbs:Int)]=true:=joinOk (B:=60) (n:=1) (by decide) (by simpa using lw) (by simp) (by decide)
 have mj:mJoin (Str.ofString "") [.lst [D.str (numS (n.natAbs:Int))]]=some (.v (.str (numS (n.natAbs:Int)))):=by
  simp only[mJoin,so,bind_some];rw[if_pos jo,a6B]
 have fn0:∀ρ,fpNil ρ=some (.o (.lst [])):=fun _=>rfl;have l0:(Str.ofString "").length=0:=rfl;have ml:((0:Nat)<1000000)=True:=eq_true (by decide)
 have l1:(Str.ofString "-").length=1:=rfl;have b0:(0+(numS (n.natAbs:Int)).length<=1000000)=True:=eq_true (by walk_at "o")
 have b1:(1+(numS (n.natAbs:Int)).length<=1000000)=True:=eq_true (by walk_at "o")
 have en:Str.ofString "" ++ numS (n.natAbs:Int)=numS (n.natAbs:Int):=Str.empty_append _
 repeat(first|walk_at "z r" | simp only[ea,fn0])
 rw[a4b (ρ':=[some (.v (.int n)),some (.v (.int (n.natAbs:Int))),some (.o (.lst []))]) (by repeat(first|walk_at "z r" | simp only[pc]))]
 by_cases h:n<0
 ·have d1:decide (n<0)=true:=zR h;have e1:Str.ofString "-" ++ numS (n.natAbs:Int)=numS n:=by
   rcases J2 n with ⟨m,rfl⟩|⟨m,rfl⟩
   ·walk_at "o"
   ·rw[a9l,show(((-((m+1:Nat):Int)).natAbs:Nat):Int)=((m+1:Nat):Int) by walk_at "o"]
  repeat(first|walk_at "z r" | simp only[hs,ml,d1,mj,l1,b1,e1])
 ·have d1:decide (n<0)=false:=zT h;have e1:numS (n.natAbs:Int)=numS n:=by rw[show((n.natAbs:Nat):Int)=n by walk_at "o"]
  repeat(first|walk_at "z r" | simp only[hs,ml,d1,mj,l0,b0,en])
  rw[e1]
def rowS (ws:List Str):Str:=if ws=[] then Str.ofString "." else Txt.join (Str.ofString " ") ws
abbrev S8:Stmt:=top 24
theorem a0p:FnScope ["words"] ["words"] (defScope S8):=by walk_at "c"
def a04 (g:LO):Prop:=∀ws:List Str,ws.length<=100->(∀w∈ws,w.length<=123)->g [.lst (ws.map .str)]=some (.v (.str (rowS ws)))
theorem a3o (Y8:a4x mg K)(F:Fun K "row_text" "row_text" S8 f fd)(B:Binds K fd ["words"] [])(hm:mg "row_text"=some (.ref f)):∃g,Fn P w K mg base "row_text" (k+1) g/\a04 g:=by
 have nd:=a0p.nd;refine⟨_,t6 F a0p B hm rfl rfl (fun cdv A outer s H E hr=>(c7 (g8 (a3N (z7 (a7 0)) (L5 m6 (a8 (a7 0) a9)) (a1h Y8))))),?_⟩;intro ws hl hw;cases ws with
 | nil=>
  walk_at "q";rfl
 | cons w ws=>
  have jo:JoinOk (Str.ofString " ") (w::ws)=true:=joinOk (B:=123) (n:=100) (by decide) hw hl (by decide)
  have mj:mJoin (Str.ofString " ") [.lst (D.str w::ws.map D.str)]=some (.v (.str (rowS (w::ws)))):=by
   have so:=U7 (w::ws);rw[zJ] at so;simp only[mJoin,so,bind_some];rw[if_pos jo,rowS,if_neg (by simp)]
  have ne:(!(D.str w::ws.map D.str).isEmpty)=true:=rfl;rw[zJ]
  repeat(first|walk_at "z r" | simp only[ne,mj])
theorem j4 {α β:Type}{f:α->β}{xs:List α}{y:β}(h:y∈xs.map f):∃x,x∈xs/\f x=y:=qA.mp h
theorem X2 {y:Str}{ws:List Str}(hy:y.length<=1)(hl:ws.length<=100)(hw:∀w∈ws,w.length<=200):mJoin y [.lst (ws.map .str)]=some (.v (.str (Txt.join y ws))):=by
 have so:=U7 ws;simp only[mJoin,so,bind_some];rw[if_pos (joinOk (B:=200) (n:=100) hy hw hl (by decide))]
structure PkOk (k:List Int):Prop where
 one:(∃a,k=[a])\/∃a b,k=[a,b]/\a<b
 r:∀i∈k,0<=i/\i<8
def pS (k:List Int):Str:=Txt.join (Str.ofString "-") (k.map numS)
theorem a2O {k:List Int}(h:PkOk k):1<=k.length/\k.length<=2:=by
 rcases h.one with ⟨a,rfl⟩|⟨a,b,rfl,_⟩<;>simp
theorem a1d {k:List Int}(h:PkOk k){i:Int}(hi:i∈k):i.natAbs<10^60:=by
 have:=h.r i hi
 walk_at "o"
theorem R0 {i:Int}(h:0<=i)(hn:i.natAbs<10^60):(numS i).length<=60:=by
 obtain⟨m,rfl⟩:=Int.eq_ofNat_of_zero_le h;exact V4 hn
theorem pk_w {k:List Int}(h:PkOk k):∀w∈k.map numS,w.length<=60:=fun w hw=>by
 obtain⟨i,hi,rfl⟩:=j4 hw;exact R0 (h.r i hi).1 (a1d h hi)
theorem a52:Str.ofString "-"=⟨#[45]⟩:=by decide +kernel
theorem a5l {k:List Int}:pS k=Str.join ⟨#[45]⟩ (k.map numS):=by
 unfold pS;rw[a52];exact qT _ _
theorem T2 {k:List Int}(h:PkOk k):(pS k).length<=122:=by
 have hw:=pk_w h;rw[a5l];rcases h.one with ⟨a,rfl⟩|⟨a,b,rfl,_⟩
 ·have:=hw (numS a) (by simp)
  show(numS a).length<=122;walk_at "o"
 ·have h1:=hw (numS a) (by simp)
  have h2:=hw (numS b) (by simp)
  show(numS a++⟨#[45]⟩++numS b).length<=122;rw[jA,jA];show(numS a).length+1+(numS b).length<=122;walk_at "o"
theorem a0f {i:Int}(h:0<=i){c:Nat}(hc:c∈(numS i).cps.toList):48<=c/\c<=57:=by
 obtain⟨m,rfl⟩:=Int.eq_ofNat_of_zero_le h;rw[E1] at hc;exact V3 m c hc
theorem Y1 {k:List Int}(h:PkOk k){c:Nat}(hc:c∈(pS k).cps.toList):c=45\/(48<=c/\c<=57):=by
 rw[a5l] at hc;rcases h.one with ⟨a,rfl⟩|⟨a,b,rfl,_⟩
 ·exact .inr (a0f (h.r a (by simp)).1 hc)
 ·have hc:c∈(Str.join ⟨#[45]⟩ (numS a::numS b::[])).cps.toList:=hc;rw[D3,qY,zN] at hc;rcases hc with hc|hc|hc
  ·exact .inr (a0f (h.r a (by simp)).1 hc)
  ·exact .inl hc
  ·exact .inr (a0f (h.r b (by simp)).1 hc)
def numD:D->D
 | .int i=>.str (numS i)
 | d=>d
abbrev L4:Stmt:=top 21
theorem R8:FnScope ["party"] ["party"] (defScope L4):=by walk_at "c"
def K8 (g:LO):Prop:=∀k:List Int,PkOk k->g [tupI k]=some (.v (.str (pS k)))
theorem a1R {k7:LO}(k5:Fn P w K mg base "number_text" k k7)(j9:C8 k7)(F:Fun K "party_text" "party_text" L4 f fd)(B:Binds K fd ["party"] [])(hm:mg "party_text"=some (.ref f)):∃g,Fn P w K mg base "party_text" (k+1) g/\K8 g:=by
 have nd:=R8.nd;refine⟨_,t6 F R8 B hm rfl rfl (fun cdv A outer s H E hr=>(c7 (g8 (L5 m6 (a8 (m3 (N:=["person"]) (js:=[none]) (li:=none) rfl (o7 (by exact(.own .nil)) rfl (by exact trivial) (by rfl)) (D5 0) (fun _ _ _ _=>(c6 0 (show((["person"]:List Str)++[accN]).Nodup by decide +kernel))) (fun _ _ _ _=>k6) (fun _ _ _ _=>(g7 k5 hr (a8 (a7 0) a9)))) a9))))),?_⟩
 intro k hk;have hl:=a2O hk;have em:(k.map D.int).map numD=(k.map numS).map D.str:=by rw[zV,zV];rfl
 have mj:=X2 (y:=Str.ofString "-") (ws:=k.map numS) (by decide) (by rw[zC];walk_at "o") (fun w hw=>zG (pk_w hk w hw) (by decide))
 rw[show Txt.join (Str.ofString "-") (k.map numS)=pS k from rfl] at mj;rw[show tupI k= .tup (k.map .int) from rfl];walk_at "q";rw[j5 (ρ1:=[some (.v (.tup (k.map .int)))]) (xs:=k.map .int) (fun B=>∃o1:Option D,B=[o1.map .v]) (fun _=>true) numD]
 ·rw[c9,em]
  repeat(first|walk_at "z r" | simp only[mj])
 ·walk_at "q"
 ·rintro _ ⟨_,rfl⟩;rfl
 ·exact⟨none,rfl⟩
 ·rw[zC];unfold lim;walk_at "o"
 ·rw[c9,em];exact C2 _
 ·rintro x hx _ zs ⟨o1,rfl⟩;obtain⟨i,hi,rfl⟩:=j4 hx;have e:=j9 i (a1d hk hi);refine⟨[some (.v (.int i))],.v (.str (numS i)),⟨some _,rfl⟩,?_,rfl,fun _=>⟨?_,.inl rfl⟩⟩
  ·walk_at "q"
  ·repeat(first|walk_at "z r" | simp only[e])
abbrev N5:Stmt:=top 40
theorem X4:FnScope ["party"] ["party"] (defScope N5):=by walk_at "c"
def a0A (g:LO):Prop:=∀k:List Int,PkOk k->g [tupI k]=some (.v (.str (pS k)))
theorem a2W (m_str:mg "str"=none)(F:Fun K "_law_word" "_law_word" N5 f fd)(B:Binds K fd ["party"] [])(hm:mg "_law_word"=some (.ref f)):∃g,Fn P w K mg base "_law_word" (k+1) g/\a0A g:=by
 have nd:=X4.nd;refine⟨_,t6 F X4 B hm rfl rfl (fun cdv A outer s H E hr=>(c7 (g8 (L5 m6 (a8 (m3 (N:=["person"]) (js:=[none]) (li:=none) rfl (o7 (by exact(.own .nil)) rfl (by exact trivial) (by rfl)) (D5 0) (fun _ _ _ _=>(c6 0 (show((["person"]:List Str)++[accN]).Nodup by decide +kernel))) (fun _ _ _ _=>k6) (fun _ _ _ _=>(qx_t (R1 hr) a0M m_str (a8 (a7 0) a9)))) a9))))),?_⟩
 intro k hk;have hl:=a2O hk;have em:(k.map D.int).map numD=(k.map numS).map D.str:=by rw[zV,zV];rfl
 have mj:=X2 (y:=Str.ofString "-") (ws:=k.map numS) (by decide) (by rw[zC];walk_at "o") (fun w hw=>zG (pk_w hk w hw) (by decide))
 rw[show Txt.join (Str.ofString "-") (k.map numS)=pS k from rfl] at mj;rw[show tupI k= .tup (k.map .int) from rfl];walk_at "q";rw[j5 (ρ1:=[some (.v (.tup (k.map .int)))]) (xs:=k.map .int) (fun B=>∃o1:Option D,B=[o1.map .v]) (fun _=>true) numD]
 ·rw[c9,em]
  repeat(first|walk_at "z r" | simp only[mj])
 ·walk_at "q"
 ·rintro _ ⟨_,rfl⟩;rfl
 ·exact⟨none,rfl⟩
 ·rw[zC];unfold lim;walk_at "o"
 ·rw[c9,em];exact C2 _
 ·rintro x hx _ zs ⟨o1,rfl⟩;obtain⟨i,hi,rfl⟩:=j4 hx;have hs:gStrD (.int i)=some (.v (.str (numS i))):=by
   show(if _ then _ else _)=_;rw[if_pos];exact zF (a1d hk hi) (zG (by decide:(10:Nat)^60<=2^200) (qU (by decide) (by decide)))
  refine⟨[some (.v (.int i))],.v (.str (numS i)),⟨some _,rfl⟩,?_,rfl,fun _=>⟨?_,.inl rfl⟩⟩
  ·walk_at "q"
  ·repeat(first|walk_at "z r" | simp only[hs])
structure TOk (t:Tie):Prop where
 k:PkOk (key2 t)
 g:1<=t.2.2/\t.2.2<=10^12
theorem TOk.num {t:Tie}(h:TOk t):t.2.2.natAbs<10^60:=by have:=h.g;walk_at "o"
def tS (t:Tie):Str:=pS (key2 t)++Str.ofString ":" ++ numS t.2.2
theorem a7y {t:Tie}(h:TOk t):(tS t).length<=183:=by
 have h1:=T2 h.k;have h2:=R0 (by have:=h.g;walk_at "o") h.num
 unfold tS;rw[jA,jA];show(pS (key2 t)).length+1+(numS t.2.2).length<=183;walk_at "o"
abbrev U6:Stmt:=top 22
theorem a0x:FnScope ["tie"] ["tie"] (defScope U6):=by walk_at "c"
def a1e (g:LO):Prop:=∀t:Tie,TOk t->g [tieD t]=some (.v (.str (tS t)))
theorem a3X {z5:LO}{k7:LO}(z4:Fn P w K mg base "party_text" k z5)(u6:K8 z5)(k5:Fn P w K mg base "number_text" k k7)(j9:C8 k7)(F:Fun K "tie_text" "tie_text" U6 f fd)(B:Binds K fd ["tie"] [])(hm:mg "tie_text"=some (.ref f)):∃g,Fn P w K mg base "tie_text" (k+1) g/\a1e g:=by
 have nd:=a0x.nd;refine⟨_,t6 F a0x B hm rfl rfl (fun cdv A outer s H E hr=>(c7 (g8 (a9h (g7 z4 hr (a8 (K3 (a7 0) R3 (G6 b9)) a9)) (g7 k5 hr (a8 (t5 hr (a7 0) b9) a9)))))),?_⟩;intro t ht;have e1:=u6 (key2 t) ht.k;have e2:=j9 t.2.2 ht.num;have h1:=T2 ht.k;have h2:=R0 (by have:=ht.g;walk_at "o") ht.num
 have ls:(Str.ofString ":").length=1:=rfl;have b0:((pS (key2 t)).length+1<=1000000)=True:=eq_true (by walk_at "o")
 have b1:((pS (key2 t)).length+1+(numS t.2.2).length<=1000000)=True:=eq_true (by walk_at "o")
 have e3:pS (key2 t)++Str.ofString ":" ++ numS t.2.2=tS t:=rfl;rw[show tupI (key2 t)= .tup [.int t.1,.int t.2.1] from rfl] at e1;rw[show tieD t= .tup [.int t.1,.int t.2.1,.int t.2.2] from rfl]
 repeat(first|walk_at "z r" | simp only[a4z,e1,e2,ls,b0,b1,e3])
def tsD:D->D
 | .tup [.int a,.int b,.int g]=>.str (tS (a,b,g))
 | d=>d
def wS (n:Int) (ts:List Tie):Str:=Txt.join (Str.ofString " ") (Str.ofString "web" :: numS n::ts.map tS)
structure WkOk (n:Int) (ts:List Tie):Prop where
 n:1<=n/\n<=8
 t:∀t∈ts,TOk t
 len:ts.length<=55
theorem wk_w {n:Int}{ts:List Tie}(h:WkOk n ts):∀w∈Str.ofString "web" :: numS n::ts.map tS,w.length<=200:=fun w hw=>by
 rcases zN.mp hw with rfl|hw
 ·decide
 rcases zN.mp hw with rfl|hw
 ·exact zG (R0 (by have:=h.n;walk_at "o") (by have:=h.n;walk_at "o")) (by decide)
 obtain⟨t,ht,rfl⟩:=j4 hw;exact zG (a7y (h.t t ht)) (by decide)
abbrev S0:Stmt:=top 23
theorem a0o:FnScope ["web"] ["web"] (defScope S0):=by walk_at "c"
def a1l (g:LO):Prop:=∀(n:Int) (ts:List Tie),WkOk n ts->g [webD n ts]=some (.v (.str (wS n ts)))
theorem a3G {k7:LO}{U9:LO}(k5:Fn P w K mg base "number_text" k k7)(j9:C8 k7)(U0:Fn P w K mg base "tie_text" k U9)(U2:a1e U9)(F:Fun K "web_text" "web_text" S0 f fd)(B:Binds K fd ["web"] [])(hm:mg "web_text"=some (.ref f)):∃g,Fn P w K mg base "web_text" (k+1) g/\a1l g:=by
 have nd:=a0o.nd;refine⟨_,t6 F a0o B hm rfl rfl (fun cdv A outer s H E hr=>(c7 (g8 (L5 m6 (a8 (u9 (D1 (a8 m6 (a8 (g7 k5 hr (a8 (t5 hr (a7 0) b9) a9)) a9))) (m3 (N:=["tie"]) (js:=[none]) (li:=none) rfl (o7 (by exact(.own .nil)) rfl (by exact trivial) (by rfl)) (B9 (J0 (t5 hr (a7 0) b9))) (fun _ _ _ _=>(c6 0 (show((["tie"]:List Str)++[accN]).Nodup by decide +kernel))) (fun _ _ _ _=>k6) (fun _ _ _ _=>(g7 U0 hr (a8 (a7 0) a9))))) a9))))),?_⟩
 intro n ts hw;have hl:=hw.len;have en:=j9 n (by have:=hw.n;walk_at "o")
 have em:(ts.map tieD).map tsD=(ts.map tS).map D.str:=by rw[zV,zV];rfl
 have mj:=X2 (y:=Str.ofString " ") (ws:=Str.ofString "web" :: numS n::ts.map tS) (by decide) (by simp;walk_at "o") (wk_w hw)
 rw[show Txt.join (Str.ofString " ") (Str.ofString "web" :: numS n::ts.map tS)=wS n ts from rfl,zJ,zJ] at mj;have ll:2+((ts.map tS).map D.str).length<=1000000:=by rw[zC,zC];walk_at "o"
 rw[show webD n ts= .tup [.int n,.tup (ts.map tieD)] from rfl]
 repeat(first|walk_at "z r" | simp only[en])
 rw[j5 (ρ1:=[some (.v (.tup [.int n,.tup (ts.map tieD)]))]) (xs:=ts.map tieD) (fun B=>∃o1:Option D,B=[o1.map .v]) (fun _=>true) tsD]
 ·rw[c9,em]
  repeat(first|walk_at "z r" | simp only[mj,ll,zZ,length_nil])
 ·walk_at "q"
 ·rintro _ ⟨_,rfl⟩;rfl
 ·exact⟨none,rfl⟩
 ·rw[zC];unfold lim;walk_at "o"
 ·rw[c9,em];exact C2 _
 ·rintro x hx _ zs ⟨o1,rfl⟩;obtain⟨t,ht,rfl⟩:=j4 hx;have e:=U2 t (hw.t t ht);refine⟨[some (.v (tieD t))],.v (.str (tS t)),⟨some _,rfl⟩,?_,rfl,fun _=>⟨?_,.inl rfl⟩⟩
  ·walk_at "q"
  ·repeat(first|walk_at "z r" | simp only[e])
def ptD:D->D
 | .tup xs=>match intsOf xs with
  | some k=>.str (pS k)
  | none=>.non
 | d=>d
abbrev F5:Stmt:=top 25
theorem M4:FnScope ["some"] ["some"] (defScope F5):=by walk_at "c"
def P8 (g:LO):Prop:=∀ks:List (List Int),ks.length<=100->(∀k∈ks,PkOk k)->g [.lst (ks.map tupI)]=some (.v (.str (rowS (ks.map pS))))/\g [.tup (ks.map tupI)]=some (.v (.str (rowS (ks.map pS))))
theorem a0F {S1:LO}{z5:LO}(T0:Fn P w K mg base "row_text" k S1)(U4:a04 S1)(z4:Fn P w K mg base "party_text" k z5)(u6:K8 z5)(F:Fun K "parties_text" "parties_text" F5 f fd)(B:Binds K fd ["some"] [])(hm:mg "parties_text"=some (.ref f)):∃g,Fn P w K mg base "parties_text" (k+1) g/\P8 g:=by
 have nd:=M4.nd;refine⟨_,t6 F M4 B hm rfl rfl (fun cdv A outer s H E hr=>(c7 (g8 (g7 T0 hr (a8 (m3 (N:=["party"]) (js:=[none]) (li:=none) rfl (o7 (by exact(.own .nil)) rfl (by exact trivial) (by rfl)) (D5 0) (fun _ _ _ _=>(c6 0 (show((["party"]:List Str)++[accN]).Nodup by decide +kernel))) (fun _ _ _ _=>k6) (fun _ _ _ _=>(g7 z4 hr (a8 (a7 0) a9)))) a9))))),?_⟩
 intro ks hl hp
 have er:=U4 (ks.map pS) (by simpa using hl) (fun w hw=>by
  obtain⟨p,h,rfl⟩:=j4 hw
  exact zG (T2 (hp p h)) (by decide))
 have lm:(ks.map tupI).length<=1000000:=by rw[zC];walk_at "o"
 have ep:∀k:List Int,ptD (tupI k)= .str (pS k):=fun k=>by
  show(match intsOf (k.map D.int) with
   | some k=>D.str (pS k)
   | none=>.non)=_
  rw[A4]
 have em:(ks.map tupI).map ptD=(ks.map pS).map D.str:=by
  rw[zV,zV];exact qM fun k _=>ep k
 constructor
 ·walk_at "q";rw[j5 (ρ1:=[some (.v (.lst (ks.map tupI)))]) (xs:=ks.map tupI) (fun B=>∃o1:Option D,B=[o1.map .v]) (fun _=>true) ptD]
  ·rw[c9,em]
   repeat(first|walk_at "z r" | simp only[er])
  ·walk_at "q"
  ·rintro _ ⟨_,rfl⟩;rfl
  ·exact⟨none,rfl⟩
  ·unfold lim;exact lm
  ·rw[c9,em];exact C2 _
  ·rintro x hx _ zs ⟨o1,rfl⟩;obtain⟨k,h,rfl⟩:=j4 hx;have e:=u6 k (hp k h);refine⟨[some (.v (tupI k))],.v (.str (pS k)),⟨some _,rfl⟩,?_,rfl,fun _=>⟨?_,.inl (qN W.v (ep k).symm)⟩⟩
   ·walk_at "q"
   ·repeat(first|walk_at "z r" | simp only[e])
 ·walk_at "q";rw[j5 (ρ1:=[some (.v (.tup (ks.map tupI)))]) (xs:=ks.map tupI) (fun B=>∃o1:Option D,B=[o1.map .v]) (fun _=>true) ptD]
  ·rw[c9,em]
   repeat(first|walk_at "z r" | simp only[er])
  ·walk_at "q"
  ·rintro _ ⟨_,rfl⟩;rfl
  ·exact⟨none,rfl⟩
  ·unfold lim;exact lm
  ·rw[c9,em];exact C2 _
  ·rintro x hx _ zs ⟨o1,rfl⟩;obtain⟨k,h,rfl⟩:=j4 hx;have e:=u6 k (hp k h);refine⟨[some (.v (tupI k))],.v (.str (pS k)),⟨some _,rfl⟩,?_,rfl,fun _=>⟨?_,.inl (qN W.v (ep k).symm)⟩⟩
   ·walk_at "q"
   ·repeat(first|walk_at "z r" | simp only[e])
theorem a9J {n:Int}(h:¬n<0):numS (n.natAbs:Int)=numS n:=by rw[show((n.natAbs:Nat):Int)=n by walk_at "o"]
theorem a1s:Str.ofString "-"=⟨#[45]⟩:=by decide +kernel
theorem J3:Str.ofString " "=⟨#[32]⟩:=by decide +kernel
theorem a32:Str.ofString "0"=⟨#[48]⟩:=by decide +kernel
theorem a9k:Str.ofString "."=⟨#[46]⟩:=by decide +kernel
theorem a5C {c:Nat}(h:48<=c/\c<=57):inS ⟨#[c]⟩ (Str.ofString "0123456789")=true:=by
 rw[b1C,decide_eq_true_eq];have e:(Str.ofString "0123456789").cps.toList=[48,49,50,51,52,53,54,55,56,57]:=by decide +kernel
 rw[e];simp only[zN,xC,or_false];walk_at "o"
theorem a4g (n:Int):Txt.startswith (numS n) (Str.ofString "-")=decide (n<0):=by
 rw[a1s,a4f];rcases J2 n with ⟨m,rfl⟩|⟨m,rfl⟩
 ·rw[E1,show decide ((m:Int)<0)=false from zT (by walk_at "o")]
  cases q:dgs m with
  | nil=>rfl
  | cons c r=>
   have:=V3 m c (by rw[q];exact zI)
   show(some c==some 45)=false;rw[jP];intro e;cases e;walk_at "o"
 ·rw[Z0,show decide (-((m+1:Nat):Int)<0)=true from zR (by walk_at "o")];rfl
theorem a5M {n:Int}(h:n<0):Txt.slice (numS n) (some 1) none=numS (n.natAbs:Int):=by
 rcases J2 n with ⟨m,rfl⟩|⟨m,rfl⟩
 ·walk_at "o"
 ·have e:=PySem.StrLaws.sliceText_from (x:=numS (-((m+1:Nat):Int))) (i:=1) ⟨by walk_at "o",by rw[Z0,zZ];walk_at "o"⟩
  refine Eq.trans e (Q5 ?_);rw[show(((-((m+1:Nat):Int)).natAbs:Nat):Int)=((m+1:Nat):Int) by walk_at "o",E1,Z0]
  simp
theorem a6G (x:Str):(signs x).length=x.length:=by unfold signs;rw[zC,qW];rfl
theorem a7z (m:Nat)(hl:(numS (m:Int)).length<=lim):∃c,strAt (numS (m:Int)) 0=some (.v (.str ⟨#[c]⟩))/\(c=48->m=0):=by
 cases q:dgs m with
 | nil=>exact absurd q (a1M m)
 | cons c r=>
  refine⟨c,?_,fun e=>by subst e;exact a7c m q⟩
  have e1:(numS (m:Int)).cps.toList=c::r:=(E1 m).trans q;unfold strAt atI;rw[if_pos hl,e1,zZ,ix_0];rfl
abbrev P0:Stmt:=top 26
theorem V1:FnScope ["text","figures"] ["text"] (defScope P0):=by walk_at "c"
def G4 (g:LO):Prop:=∀n:Int,n.natAbs<10^60->g [.str (numS n)]=some (.v (.int n))
theorem a2V (m_int:mg "int"=none)(m_len:mg "len"=none)(m_all:mg "all"=none)(D8:Q1 mg K)(Z2:a2o mg K)(F:Fun K "number_in" "number_in" P0 f fd)(B:Binds K fd ["text"] [])(hm:mg "number_in"=some (.ref f)):∃g,Fn P w K mg base "number_in" (k+1) g/\G4 g:=by
 have nd:=V1.nd
 refine⟨_,t6 F V1 B hm rfl rfl (fun cdv A outer s H E hr=>(b8 (m8 1 nd (a3N (z7 (a1S (a7 0) (a8 m6 a9))) (a6t (a7 0) (G6 b9) R3) (a7 0)))
  (b8 (z6 (M2 (D2 (a2z hr (a7 1) m6) (D2 (a44 (qx_b B0 G2 m_len (a8 (a7 1) a9)) (E4 D8)) (G7 (C7 (z7 (qx_b (Q9 rfl) X0 m_all (a8 (m3 (N:=["sign"]) (js:=[none]) (li:=none) rfl (o7 (by exact(.own .nil)) rfl (by exact trivial) (by rfl)) (B9 (b1p (a7 1))) (fun _ _ _ _=>(c6 0 (show((["sign"]:List Str)++[accN]).Nodup by decide +kernel))) (fun _ _ _ _=>k6) (fun _ _ _ _=>(b1h (a7 0) (a1h Z2)))) a9)))))))) (c7 (g8 L3)) j8)
  (b8 (z6 (M2 (a63 (a2z hr (t5 hr (a7 1) b9) m6) (a5p (M0 hr (a7 0) m6)))) (c7 (g8 L3)) j8)
  (c7 (g8 (qx_t a2F a4G m_int (a8 (a7 0) a9)))))))),?_⟩
 intro n hn;have ln:=a1A hn;have lb:(numS n).length<=1000000:=by walk_at "o"
 have l6:(numS n).length<=640:=by walk_at "o"
 have lf:=V4 (m:=n.natAbs) hn;have lfb:(numS (n.natAbs:Int)).length<=1000000:=by walk_at "o"
 have s1:=a4g n;have fz:(numS (n.natAbs:Int)==Str.ofString "")=false:=by
  rw[jP];intro e
  have:=(E1 n.natAbs).symm.trans (qN (fun s:Str=>s.cps.toList) e)
  exact a1M _ this
 have fl:decide ((60:Int)<((numS (n.natAbs:Int)).length:Int))=false:=zT (by walk_at "o")
 have fa:=a53 (n.natAbs:Int);obtain⟨c,at0,hc⟩:=a7z n.natAbs (by unfold lim;walk_at "o")
 have it:(PySem.intText? (numS n)).map (fun n=>W.v (.int n))=some (.v (.int n)):=by rw[a9u hn];rfl
 have c0:((⟨#[c]⟩:Str)==Str.ofString "0")=false\/((⟨#[c]⟩:Str)==Str.ofString "0")=true/\(numS n==Str.ofString "0")=true:=by
  by_cases q:c=48
  ·have h0:=hc q
   have:n=0:=by walk_at "o"
   subst this;subst q;exact .inr ⟨by rw[a32];rfl,by decide +kernel⟩
  ·left;rw[a32,jP];intro e
   have:=qN (fun s:Str=>s.cps.toList) e
   exact q (by simpa using this)
 have fd:∀c∈(numS (n.natAbs:Int)).cps.toList,48<=c/\c<=57:=by rw[E1];exact V3 _
 by_cases h:n<0
 ·have d1:decide (n<0)=true:=zR h;have sl:=a5M h
  repeat(first|walk_at "z r" | simp only[s1,d1,lb,sl,fz,fl,lfb])
  rw[j5 (ρ1:=[some (.v (.str (numS n))),some (.v (.str (numS (n.natAbs:Int))))]) (xs:=signs (numS (n.natAbs:Int))) (fun B=>∃o1:Option D,B=[o1.map .v]) (fun _=>true) (fun _=>.bl true)]
  ·rw[c9];have gb:=a1F (r:=fun bs=>bs.all id) (D0 (fun _=>true) (signs (numS (n.natAbs:Int))));rw[F4,show(signs (numS (n.natAbs:Int))).all (fun _=>true)=true from xB.mpr fun _ _=>rfl] at gb;rcases c0 with c0|⟨c0,c1⟩
   ·repeat(first|walk_at "z r" | simp only[gb,at0,c0,l6,it])
   ·repeat(first|walk_at "z r" | simp only[gb,at0,c0,c1,l6,it])
  ·repeat(first|walk_at "z r" | simp only[fa])
  ·rintro _ ⟨_,rfl⟩;rfl
  ·exact⟨none,rfl⟩
  ·unfold lim;rw[a6G];exact lfb
  ·exact a1v _ _
  ·rintro x hx _ zs ⟨o1,rfl⟩;obtain⟨c,hm,rfl⟩:=qA.mp hx;have hi:=a5C (fd c hm);refine⟨[some (.v (.str ⟨#[c]⟩))],.v (.bl true),⟨some _,rfl⟩,?_,rfl,fun _=>⟨?_,.inl rfl⟩⟩
   ·walk_at "q"
   ·repeat(first|walk_at "z r" | simp only[hi])
 ·have d1:decide (n<0)=false:=zT h;rw[a9J h] at fz fl fa at0 lfb fd
  repeat(first|walk_at "z r" | simp only[s1,d1,lb,fz,fl,lfb])
  rw[j5 (ρ1:=[some (.v (.str (numS n))),some (.v (.str (numS n)))]) (xs:=signs (numS n)) (fun B=>∃o1:Option D,B=[o1.map .v]) (fun _=>true) (fun _=>.bl true)]
  ·rw[c9];have gb:=a1F (r:=fun bs=>bs.all id) (D0 (fun _=>true) (signs (numS n)));rw[F4,show(signs (numS n)).all (fun _=>true)=true from xB.mpr fun _ _=>rfl] at gb;rcases c0 with c0|⟨c0,c1⟩
   ·repeat(first|walk_at "z r" | simp only[gb,at0,c0,l6,it])
   ·repeat(first|walk_at "z r" | simp only[gb,at0,c0,c1,l6,it])
  ·repeat(first|walk_at "z r" | simp only[fa])
  ·rintro _ ⟨_,rfl⟩;rfl
  ·exact⟨none,rfl⟩
  ·unfold lim;rw[a6G];exact lfb
  ·exact a1v _ _
  ·rintro x hx _ zs ⟨o1,rfl⟩;obtain⟨c,hm,rfl⟩:=qA.mp hx;have hi:=a5C (fd c hm);refine⟨[some (.v (.str ⟨#[c]⟩))],.v (.bl true),⟨some _,rfl⟩,?_,rfl,fun _=>⟨?_,.inl rfl⟩⟩
   ·walk_at "q"
   ·repeat(first|walk_at "z r" | simp only[hi])
theorem a2A:Str.ofString ":"=⟨#[58]⟩:=by decide +kernel
def readF (g:LO) (d:D):D:=match g [d] with
 | some (.v e)=>e
 | _=>d
theorem a8s {k:List Int}(h:PkOk k):Txt.split (pS k) (Str.ofString "-")=k.map numS:=by
 unfold pS;rw[a1s];refine U1 ?_ fun w hw hc=>?_
 ·intro e
  have:=a2O h
  rw[List.map_eq_nil_iff.mp e] at this;simp at this
 ·obtain⟨i,hi,rfl⟩:=j4 hw
  have:=a0f (h.r i hi).1 hc
  walk_at "o"
theorem a6k {k:List Int}(h:PkOk k):RiseD (k.map D.int):=by
 refine a20 (R:=fun a b=>a<b) (fun a b hab=>?_) ?_
 ·show some (W.v (.bl (decide (a<b))))=_;rw[zR hab]
 ·rcases h.one with ⟨a,rfl⟩|⟨a,b,rfl,hab⟩
  ·exact List.pairwise_singleton _ _
  ·exact pairwise_cons.mpr ⟨fun c hc=>by rw[qB.mp hc];exact hab,List.pairwise_singleton _ _⟩
abbrev S2:Stmt:=top 27
theorem a0D:FnScope ["text","people"] ["text"] (defScope S2):=by walk_at "c"
def S4 (g:LO):Prop:=∀k:List Int,PkOk k->g [.str (pS k)]=some (.v (tupI k))
theorem a35 {j7:LO}{B3:LO}{A8:LO}(n9:Fn P w K mg base "number_in" k j7)(m4:G4 j7)(A7:Fn P w K mg base "is_rising" k B3)(A9:N0 B3)(w9:Fn P w K mg base "is_person" k A8)(w6:P7 A8)(j6:mg "tuple"=none)(m_len:mg "len"=none)(m_all:mg "all"=none)(v5:G9 mg K)(F:Fun K "party_in" "party_in" S2 f fd)(B:Binds K fd ["text"] [])(hm:mg "party_in"=some (.ref f)):∃g,Fn P w K mg base "party_in" (k+1) g/\S4 g:=by
 have nd:=a0D.nd
 refine⟨_,t6 F a0D B hm rfl rfl (fun cdv A outer s H E hr=>(b8 (a5D 1 nd (a3p (N:=["word"]) (js:=[none]) (li:=none) rfl (o7 (by exact(.own .nil)) rfl (by exact trivial) (by rfl)) (B9 (J0 (a1x (a7 0) (a8 m6 a9)))) (fun _ _ _ _=>(c6 0 (show((["word"]:List Str)++[accN]).Nodup by decide +kernel))) (fun _ _ _ _=>k6) (fun _ _ _ _=>(g7 n9 hr (a8 (a7 0) a9)))))
  (b8 (z6 (M2 (D2 (a44 (qx_b B0 G2 m_len (a8 (a7 1) a9)) b9) (D2 (C7 (z7 (qx_b (Q9 rfl) X0 m_all (a8 (m3 (N:=["person"]) (js:=[none]) (li:=none) rfl (o7 (by exact(.own .nil)) rfl (by exact trivial) (by rfl)) (D5 1) (fun _ _ _ _=>(c6 0 (show((["person"]:List Str)++[accN]).Nodup by decide +kernel))) (fun _ _ _ _=>k6) (fun _ _ _ _=>(g7 w9 hr (a8 (E4 v5) (a8 (a7 0) a9))))) a9)))) (G7 (C7 (z7 (g7 A7 hr (a8 (a7 1) a9)))))))) (c7 (g8 L3)) j8)
  (c7 (g8 (qx_t v6 K4 j6 (a8 (a7 1) a9))))))),?_⟩
 intro k hk;have hl:=a2O hk;have lp:=T2 hk;have es:mSplit (pS k) [.str (Str.ofString "-")]=some (.o (.lst ((k.map numS).map .str))):=by
  simp only[mSplit];have sl:=Z7 (pS k) 45;rw[a8s hk,if_pos];rw[a1s];exact⟨rfl,by unfold lim;walk_at "o",by unfold lim;walk_at "o"⟩
 rw[zV] at es;have er:∀i∈k,readF j7 (.str (numS i))= .int i:=fun i hi=>by
  unfold readF;rw[m4 i (a1d hk hi)]
 have em:(k.map (D.str∘numS)).map (readF j7)=k.map D.int:=by
  rw[zV];exact qM er
 have lw:lfL (k.map (D.str∘numS))=true:=B6 fun y hy=>by obtain⟨p,_,rfl⟩:=j4 hy;rfl
 have l1:=a3r k;have n2:decide ((2:Int)<(k.length:Int))=false:=zT (by walk_at "o")
 have ri:=A9 (k.map .int) (a6k hk) (by rw[zC];walk_at "o") l1
 have lk:k.length<=1000000:=by walk_at "o"
 have et:D.tup (k.map .int)=tupI k:=rfl;walk_at "q";rw[j5 (ρ1:=[some (.v (.str (pS k))),none]) (xs:=k.map (D.str∘numS)) (fun B=>∃o1:Option D,B=[o1.map .v]) (fun _=>true) (readF j7)]
 ·rw[c9,em]
  repeat(first|walk_at "z r" | simp only[l1,zC,lk,n2])
  rw[j5 (ρ1:=[some (.v (.str (pS k))),some (.o (.lst (k.map .int)))]) (xs:=k.map .int) (fun B=>∃o1:Option D,B=[o1.map .v]) (fun _=>true) (fun _=>.bl true)]
  ·rw[c9];have gb:=a1F (r:=fun bs=>bs.all id) (D0 (fun _=>true) (k.map D.int));rw[F4,show((k.map D.int).all fun _=>true)=true by simp] at gb
   repeat(first|walk_at "z r" | simp only[gb,l1,ri,et])
  ·repeat(first|walk_at "z r" | simp only[l1])
  ·rintro _ ⟨_,rfl⟩;rfl
  ·exact⟨none,rfl⟩
  ·rw[zC];unfold lim;exact lk
  ·exact a1v _ _
  ·rintro x hx _ zs ⟨o1,rfl⟩;obtain⟨i,hi,rfl⟩:=j4 hx;have e:=w6 8 i (hk.r i hi).1 (hk.r i hi).2;refine⟨[some (.v (.int i))],.v (.bl true),⟨some _,rfl⟩,?_,rfl,fun _=>⟨?_,.inl rfl⟩⟩
   ·walk_at "q"
   ·repeat(first|walk_at "z r" | simp only[e])
 ·repeat(first|walk_at "z r" | simp only[es,lw])
 ·rintro _ ⟨_,rfl⟩;rfl
 ·exact⟨none,rfl⟩
 ·rw[zC];unfold lim;exact lk
 ·rw[c9,em];exact l1
 ·rintro x hx _ zs ⟨o1,rfl⟩;obtain⟨i,hi,rfl⟩:=j4 hx;have e:=m4 i (a1d hk hi);refine⟨[some (.v (.str (numS i)))],.v (.int i),⟨some _,rfl⟩,?_,rfl,fun _=>⟨?_,.inl (qN W.v (er i hi).symm)⟩⟩
  ·walk_at "q";rfl
  ·repeat(first|walk_at "z r" | simp only[e])
abbrev a1k:Stmt:=top 28
theorem a2h:FnScope ["text","written","colon","figures","party","gain"] ["text"] (defScope a1k):=by walk_at "c"
def a3k (g:LO):Prop:=∀t:Tie,TOk t->g [.str (tS t)]=some (.v (tieD t))
theorem a5P {v3:LO}{j7:LO}(C5:Fn P w K mg base "party_in" k v3)(A3:S4 v3)(n9:Fn P w K mg base "number_in" k j7)(m4:G4 j7)(m_len:mg "len"=none)(F:Fun K "tie_in" "tie_in" a1k f fd)(B:Binds K fd ["text"] [])(hm:mg "tie_in"=some (.ref f)):∃g,Fn P w K mg base "tie_in" (k+1) g/\a3k g:=by
 have nd:=a2h.nd
 refine⟨_,t6 F a2h B hm rfl rfl (fun cdv A outer s H E hr=>(b8 (A5 (a2T (a7 0) (a8 m6 a9)) (t9 rfl (c8 (c6 1 nd) (c8 (c6 2 nd) (c8 (c6 3 nd) l8)))))
  (b8 (b1n 4 5 rfl nd (a8 (g7 C5 hr (a8 (a7 1) a9)) (a8 (g7 n9 hr (a8 (a7 3) a9)) a9)) rfl)
  (b8 (z6 (M2 (D2 (a76 (a7 4) L3) (D2 (M0 hr (qx_b B0 G2 m_len (a8 (a7 4) a9)) b9) (G7 (a76 (a7 5) L3))))) (c7 (g8 L3)) j8)
  (c7 (g8 (a9y (a7 4) (C0 (a8 (a7 5) a9))))))))),?_⟩
 intro t ht;have e1:=A3 (key2 t) ht.k;have e2:=m4 t.2.2 ht.num;have lt:=a7y ht;have e4:mPart (tS t) [.str (Str.ofString ":")]=some (.v (.tup [.str (pS (key2 t)),.str (Str.ofString ":"),.str (numS t.2.2)])):=by
  simp only[mPart];rw[if_pos ⟨rfl,by unfold lim;walk_at "o"⟩,show tS t=pS (key2 t)++Str.ofString ":" ++ numS t.2.2 from rfl,a2A,a6N fun hc=>by have:=Y1 ht.k hc;walk_at "o"]
  rfl
 rw[show tupI (key2 t)= .tup [.int t.1,.int t.2.1] from rfl] at e1;rw[show tieD t= .tup [.int t.1,.int t.2.1,.int t.2.2] from rfl];have z2:(((2:Nat):Int)==2)=true:=rfl
 repeat(first|walk_at "z r" | simp only[e1,e2,e4,z2])
abbrev D6:Stmt:=top 30
theorem M5:FnScope ["thing"] ["thing"] (defScope D6):=by walk_at "c"
def F7 (g:LO):Prop:=∀x:Str,g [.str x]=some (.v .non)
theorem a0H (g6:mg "isinstance"=none)(m_str:mg "str"=none)(F:Fun K "must_be_text" "must_be_text" D6 f fd)(B:Binds K fd ["thing"] [])(hm:mg "must_be_text"=some (.ref f)):∃g,Fn P w K mg base "must_be_text" (k+1) g/\F7 g:=by
 have nd:=M5.nd;refine⟨_,t6 F M5 B hm rfl rfl (fun cdv A outer s H E hr=>(c7 (z6 (C7 (z7 (T4 (T:="str") (S6 (by decide)) g6 m_str (a7 0)))) (c7 Y3) j8))),?_⟩
 intro x;have i1:=a6S (d:=.str x) rfl
 repeat(first|walk_at "z r" | simp only[i1,isS])
abbrev F9:Stmt:=top 31
theorem M3:FnScope ["thing"] ["thing"] (defScope F9):=by walk_at "c"
def F2 (g:LO):Prop:=∀xs:List D,g [.tup xs]=some (.v .non)
theorem a0I (F:Fun K "must_be_read" "must_be_read" F9 f fd)(B:Binds K fd ["thing"] [])(hm:mg "must_be_read"=some (.ref f)):∃g,Fn P w K mg base "must_be_read" (k+1) g/\F2 g:=by
 have nd:=M3.nd;refine⟨_,t6 F M3 B hm rfl rfl (fun cdv A outer s H E hr=>(c7 (z6 (a76 (a7 0) L3) (c7 Y3) j8))),?_⟩;intro xs;walk_at "q"
theorem a01 {c:Nat}(h:c≠32):∀{ws:List Str},ws≠[]->(∀w∈ws,c∉w.cps.toList)->c∉(Str.join ⟨#[32]⟩ ws).cps.toList
 | [],h0,_=>absurd rfl h0
 | [w],_,hw=>hw w zI
 | w::z::r,_,hw=>by
  rw[D3,qY,zN];rintro(q|q|q)
  ·exact hw w zI q
  ·exact h q
  ·exact a01 h (by simp) (fun y hy=>hw y (zH _ hy)) q
theorem a1a:∀{ws:List Str} {B:Nat},(∀w∈ws,w.length<=B)->(Str.join ⟨#[32]⟩ ws).length<=ws.length*(B+1)
 | [],B,_=>qV _
 | [w],B,h=>by
  have:=h w zI
  show w.length<=_;simp;walk_at "o"
 | w::z::r,B,h=>by
  have h1:=h w zI;have h2:=a1a (ws:=z::r) (B:=B) fun y hy=>h y (zH _ hy);rw[a2x,jA,jA,zZ,Nat.succ_mul];show w.length+1+_<=_;walk_at "o"
structure WsOk (ws:List Str):Prop where
 len:ws.length<=100
 w:∀w∈ws,w.length<=123
 b:∀w∈ws,32∉w.cps.toList
 d:∀w∈ws,46∉w.cps.toList
abbrev O1:Stmt:=top 32
theorem X5:FnScope ["thing","words"] ["thing"] (defScope O1):=by walk_at "c"
def a0q (g:LO):Prop:=∀ws:List Str,WsOk ws->g [.str (rowS ws)]=some (.o (.lst (ws.map .str)))
theorem a3b {t3:LO}(s0:Fn P w K mg base "must_be_text" k t3)(r0:F7 t3)(m_len:mg "len"=none)(I0:R9 mg K)(Y8:a4x mg K)(F:Fun K "row_words" "row_words" O1 f fd)(B:Binds K fd ["thing"] [])(hm:mg "row_words"=some (.ref f)):∃g,Fn P w K mg base "row_words" (k+1) g/\a0q g:=by
 have nd:=X5.nd
 refine⟨_,t6 F X5 B hm rfl rfl (fun cdv A outer s H E hr=>(b8 (G0 (g7 s0 hr (a8 (a7 0) a9)))
  (b8 (m8 1 nd (a3N (M0 hr (a7 0) (a1h Y8)) (a1x (a7 0) (a8 m6 a9)) (D1 a9)))
  (b8 (z6 (a44 (qx_b B0 G2 m_len (a8 (a7 1) a9)) (E4 I0)) (c7 Y3) j8)
  (c7 (g8 (a7 1))))))),?_⟩
 intro ws hw;have et:=r0 (rowS ws);have n1:decide ((100:Int)<(ws.length:Int))=false:=zT (by have:=hw.len;walk_at "o")
 have ll:lfL (ws.map D.str)=true:=C2 ws;cases hs:ws with
 | nil=>
  have e0:(rowS []==Str.ofString ".")=true:=by decide +kernel
  have n0:decide ((100:Int)<((0:Nat):Int))=false:=by decide
  rw[hs] at et
  repeat(first|walk_at "z r" | simp only[et,e0,n0])
 | cons w r=>
  rw[<-hs];have h0:ws≠[]:=by rw[hs];simp
  have er:rowS ws=Txt.join ⟨#[32]⟩ ws:=by unfold rowS;rw[if_neg h0,J3]
  have ej:Txt.join ⟨#[32]⟩ ws=Str.join ⟨#[32]⟩ ws:=qT _ _;have lj:=a1a hw.w;have lj2:(rowS ws).length<=12400:=by rw[er,ej];exact zG lj (Nat.mul_le_mul_right _ hw.len)
  have e0:(rowS ws==Str.ofString ".")=false:=by
   rw[jP];intro e;have hc:=a01 (c:=46) (by decide) h0 hw.d
   rw[<-ej,<-er,e,a9k] at hc;exact hc (by simp)
  have e4:mSplit (rowS ws) [.str (Str.ofString " ")]=some (.o (.lst (ws.map .str))):=by
   simp only[mSplit];have sl:=Z7 (rowS ws) 32;rw[J3,if_pos ⟨rfl,by unfold lim;walk_at "o",by unfold lim;walk_at "o"⟩]
   rw[er,U1 h0 hw.b]
  repeat(first|walk_at "z r" | simp only[et,e0,e4,ll,zC,n1])
theorem a73 {t:Tie}(h:TOk t){c:Nat}(hc:c∈(tS t).cps.toList):c=45\/c=58\/(48<=c/\c<=57):=by
 unfold tS at hc;rw[a2A,xE,xE,jC,jC,qY,qY] at hc;rcases hc with (hc|hc)|hc
 ·rcases Y1 h.k hc with z|z
  ·exact .inl z
  ·exact .inr (.inr z)
 ·exact .inr (.inl (by simpa using hc))
 ·exact .inr (.inr (a0f (by have:=h.g;walk_at "o") hc))
theorem a8A {c:Nat}(h:c<90):c∉(Str.ofString "web").cps.toList:=by
 have e:(Str.ofString "web").cps.toList=[119,101,98]:=by decide +kernel
 rw[e];simp only[zN,xC,or_false];walk_at "o"
theorem a8y {n:Int}{ts:List Tie}(h:WkOk n ts):Txt.split (wS n ts) (Str.ofString " ")=Str.ofString "web" :: numS n::ts.map tS:=by
 unfold wS;rw[J3];refine U1 (by simp) fun w hw hc=>?_
 rcases zN.mp hw with rfl|hw
 ·exact a8A (by decide) hc
 rcases zN.mp hw with rfl|hw
 ·have:=a0f (by have:=h.n;walk_at "o") hc
  walk_at "o"
 obtain⟨t,ht,rfl⟩:=j4 hw
 have:=a73 (h.t t ht) hc
 walk_at "o"
theorem b1B {n:Int}{ts:List Tie}(h:WkOk n ts):(wS n ts).length<=20000:=by
 have e:wS n ts=Str.join ⟨#[32]⟩ (Str.ofString "web" :: numS n::ts.map tS):=by
  unfold wS;rw[J3];exact qT _ _
 rw[e];refine zG (a1a (wk_w h)) ?_
 have:=h.len
 simp;walk_at "o"
theorem a9g (a b:D)(xs:List D):cutD (a::b::xs) (some 2) none=xs:=by
 unfold cutD;rw[show(2:Int)=((2:Nat):Int) from rfl,HT.sIx_nat,HT.sIx_none];simp
theorem WebR.wk {n:Int}{ts:List Tie}(h:WebR n ts):WkOk n ts where
 n:=h.ok.n1
 t:=fun t ht=>by
  have b:=h.ok.t t ht;have g:=h.g t ht;have hn:=h.ok.n1;refine⟨⟨.inr ⟨t.1,t.2.1,rfl,b.2.1⟩,fun i hi=>?_⟩,b.2.2.2.1,g⟩;have hi:i∈[t.1,t.2.1]:=hi;simp only[zN,xC,or_false] at hi;walk_at "o"
 len:=h.ok.len
abbrev a1b:Stmt:=top 29
theorem a12:FnScope ["text","words","told"] ["text"] (defScope a1b):=by walk_at "c"
def a3M (g:LO):Prop:=∀(n:Int) (ts:List Tie),WebR n ts->g [.str (wS n ts)]=some (.v (webD n ts))
theorem a5L {j7:LO}{a1L:LO}{J4:LO}(n9:Fn P w K mg base "number_in" k j7)(m4:G4 j7)(a0V:Fn P w K mg base "is_web" k a1L)(a1g:a3Z a1L)(a0X:Fn P w K mg base "tie_in" k J4)(X7:a3k J4)(j6:mg "tuple"=none)(m_len:mg "len"=none)(F:Fun K "web_in" "web_in" a1b f fd)(B:Binds K fd ["text"] [])(hm:mg "web_in"=some (.ref f)):∃g,Fn P w K mg base "web_in" (k+1) g/\a3M g:=by
 have nd:=a12.nd
 refine⟨_,t6 F a12 B hm rfl rfl (fun cdv A outer s H E hr=>(b8 (m8 1 nd (a1x (a7 0) (a8 m6 a9)))
  (b8 (z6 (M2 (D2 (M0 hr (t5 hr (a7 1) b9) m6) (G7 (a4r hr (qx_b B0 G2 m_len (a8 (a7 1) a9)) b9)))) (c7 (g8 L3)) j8)
  (b8 (m8 2 nd (C0 (a8 (g7 n9 hr (a8 (t5 hr (a7 1) b9) a9)) (a8 (qx_t v6 K4 j6 (a8 (m3 (N:=["word"]) (js:=[none]) (li:=none) rfl (o7 (by exact(.own .nil)) rfl (by exact trivial) (by rfl)) (B9 (J0 (K3 (a7 1) (G6 b9) R3))) (fun _ _ _ _=>(c6 0 (show((["word"]:List Str)++[accN]).Nodup by decide +kernel))) (fun _ _ _ _=>k6) (fun _ _ _ _=>(g7 a0X hr (a8 (a7 0) a9)))) a9)) a9))))
  (c7 (g8 (a3N (z7 (g7 a0V hr (a8 (a7 2) a9))) (a7 2) L3))))))),?_⟩
 intro n ts hr;have hw:=hr.wk;have hl:=hw.len;have en:=m4 n (by have:=hw.n;walk_at "o")
 have ew:=a1g n ts hr;have lp:=b1B hw;have es:mSplit (wS n ts) [.str (Str.ofString " ")]=some (.o (.lst (.str (Str.ofString "web") :: .str (numS n)::ts.map (D.str∘tS)))):=by
  simp only[mSplit];have sl:=Z7 (wS n ts) 32;rw[a8y hw,if_pos,zJ,zJ,zV];rw[J3];exact⟨rfl,by unfold lim;walk_at "o",by unfold lim;walk_at "o"⟩
 have er:∀t∈ts,readF J4 (.str (tS t))=tieD t:=fun t ht=>by
  unfold readF;rw[X7 t (hw.t t ht)]
 have em:(ts.map (D.str∘tS)).map (readF J4)=ts.map tieD:=by
  rw[zV];exact qM er
 have lw:lfL (.str (Str.ofString "web") :: .str (numS n)::ts.map (D.str∘tS))=true:=B6 fun y hy=>by
  rcases zN.mp hy with rfl|hy
  ·rfl
  rcases zN.mp hy with rfl|hy
  ·rfl
  obtain⟨p,_,rfl⟩:=j4 hy;rfl
 have lw2:lfL (ts.map (D.str∘tS))=true:=B6 fun y hy=>by obtain⟨p,_,rfl⟩:=j4 hy;rfl
 have lt:lfL (ts.map tieD)=true:=a4K ts;have ll:(.str (Str.ofString "web") :: .str (numS n)::ts.map (D.str∘tS):List D).length<=1000000:=by simp;walk_at "o"
 have lm:(ts.map (D.str∘tS)).length<=1000000:=by rw[zC];walk_at "o"
 have n2:decide (((((ts.map (D.str∘tS)).length+1+1:Nat)):Int)<2)=false:=zT (by rw[zC];walk_at "o")
 have we:(Str.ofString "web" == Str.ofString "web")=true:=by simp
 rw[show webD n ts= .tup [.int n,.tup (ts.map tieD)] from rfl] at ew ⊢;have ct:=a9g (.str (Str.ofString "web")) (.str (numS n)) (ts.map (D.str∘tS))
 repeat(first|walk_at "z r" | simp only[es,lw,we,ll,n2,en])
 rw[j5 (ρ1:=[some (.v (.str (wS n ts))),some (.o (.lst (.str (Str.ofString "web") :: .str (numS n)::ts.map (D.str∘tS)))),none]) (xs:=ts.map (D.str∘tS)) (fun B=>∃o1:Option D,B=[o1.map .v]) (fun _=>true) (readF J4)]
 ·rw[c9,em]
  repeat(first|walk_at "z r" | simp only[lt,ew,lw])
  trace_state
 ·repeat(first|walk_at "z r" | simp only[lw,lw2,ct])
 ·rintro _ ⟨_,rfl⟩;rfl
 ·exact⟨none,rfl⟩
 ·unfold lim;exact lm
 ·rw[c9,em];exact lt
 ·rintro x hx _ zs ⟨o1,rfl⟩;obtain⟨t,ht,rfl⟩:=j4 hx;have e:=X7 t (hw.t t ht);have lk:lf (tieD t)=true:=a0L lt (qA.mpr ⟨t,ht,rfl⟩);refine⟨[some (.v (.str (tS t)))],.v (tieD t),⟨some _,rfl⟩,?_,rfl,fun _=>⟨?_,.inl (qN W.v (er t ht).symm)⟩⟩
  ·walk_at "q";rfl
  ·repeat(first|walk_at "z r" | simp only[e,lk])
abbrev S3:Stmt:=top 33
theorem a0w:FnScope ["thing","told"] ["thing"] (defScope S3):=by walk_at "c"
def a09 (g:LO):Prop:=∀(n:Int) (ts:List Tie),WebR n ts->g [.str (wS n ts)]=some (.v (webD n ts))
theorem a36 {t3:LO}{a1u:LO}{p0:LO}(s0:Fn P w K mg base "must_be_text" k t3)(r0:F7 t3)(a02:Fn P w K mg base "web_in" k a1u)(a1i:a3M a1u)(p9:Fn P w K mg base "must_be_read" k p0)(p8:F2 p0)(F:Fun K "read_web" "read_web" S3 f fd)(B:Binds K fd ["thing"] [])(hm:mg "read_web"=some (.ref f)):∃g,Fn P w K mg base "read_web" (k+1) g/\a09 g:=by
 have nd:=a0w.nd
 refine⟨_,t6 F a0w B hm rfl rfl (fun cdv A outer s H E hr=>(b8 (G0 (g7 s0 hr (a8 (a7 0) a9)))
  (b8 (m8 1 nd (g7 a02 hr (a8 (a7 0) a9)))
  (b8 (G0 (g7 p9 hr (a8 (a7 1) a9)))
  (c7 (g8 (a7 1))))))),?_⟩
 intro n ts hr;have e1:=r0 (wS n ts);have e2:=a1i n ts hr;rw[show webD n ts= .tup [.int n,.tup (ts.map tieD)] from rfl] at e2 ⊢;have e3:=p8 [.int n,.tup (ts.map tieD)]
 repeat(first|walk_at "z r" | simp only[e1,e2,e3])
abbrev E8:Stmt:=top 34
theorem L9:FnScope ["thing","told","party"] ["thing"] (defScope E8):=by walk_at "c"
def P1 (g:LO):Prop:=∀ks:List (List Int),ks.length<=100->(∀k∈ks,PkOk k)->g [.str (rowS (ks.map pS))]=some (.v (.tup (ks.map tupI)))
theorem a0G {v3:LO}{p0:LO}{N8:LO}(C5:Fn P w K mg base "party_in" k v3)(A3:S4 v3)(p9:Fn P w K mg base "must_be_read" k p0)(p8:F2 p0)(N7:Fn P w K mg base "row_words" k N8)(O6:a0q N8)(j6:mg "tuple"=none)(F:Fun K "read_parties" "read_parties" E8 f fd)(B:Binds K fd ["thing"] [])(hm:mg "read_parties"=some (.ref f)):∃g,Fn P w K mg base "read_parties" (k+1) g/\P1 g:=by
 have nd:=L9.nd
 refine⟨_,t6 F L9 B hm rfl rfl (fun cdv A outer s H E hr=>(b8 (a5D 1 nd (a3p (N:=["word"]) (js:=[none]) (li:=none) rfl (o7 (by exact(.own .nil)) rfl (by exact trivial) (by rfl)) (B9 (J0 (g7 N7 hr (a8 (a7 0) a9)))) (fun _ _ _ _=>(c6 0 (show((["word"]:List Str)++[accN]).Nodup by decide +kernel))) (fun _ _ _ _=>k6) (fun _ _ _ _=>(g7 C5 hr (a8 (a7 0) a9)))))
  (b8 (a0i qX rfl (J0 (a7 1)) (c6 2 nd) (c7 (G0 (g7 p9 hr (a8 (a7 2) a9)))))
  (c7 (g8 (qx_t v6 K4 j6 (a8 (a7 1) a9))))))),?_⟩
 intro ks hl hp;have ew:=O6 (ks.map pS) ⟨by rw[zC];exact hl,fun w hw=>by obtain⟨p,h,rfl⟩:=j4 hw;exact zG (T2 (hp p h)) (by decide),fun w hw hc=>by obtain⟨p,h,rfl⟩:=j4 hw;have:=Y1 (hp p h) hc;walk_at "o",fun w hw hc=>by obtain⟨p,h,rfl⟩:=j4 hw;have:=Y1 (hp p h) hc;walk_at "o"⟩
 rw[zV] at ew;have l1:=W3 ks;have er:∀k∈ks,readF v3 (.str (pS k))=tupI k:=fun k hk=>by
  unfold readF;rw[A3 k (hp k hk)]
 have em:(ks.map (D.str∘pS)).map (readF v3)=ks.map tupI:=by
  rw[zV];exact qM er
 have lw:lfL (ks.map (D.str∘pS))=true:=B6 fun y hy=>by obtain⟨p,_,rfl⟩:=j4 hy;rfl
 have lm:(ks.map (D.str∘pS)).length<=1000000:=by rw[zC];walk_at "o"
 walk_at "q";rw[j5 (ρ1:=[some (.v (.str (rowS (ks.map pS)))),none,none]) (xs:=ks.map (D.str∘pS)) (fun B=>∃o1:Option D,B=[o1.map .v]) (fun _=>true) (readF v3)]
 ·rw[c9,em]
  repeat(first|walk_at "z r" | simp only[l1])
  generalize el:loopF _ _ _=r;refine a2g el (fun _ ρ=>∃o:Option D,ρ=[some (.v (.str (rowS (ks.map pS)))),some (.v (.lst (ks.map tupI))),o.map .v]) ⟨none,rfl⟩ ?_ ?_
  ·rintro d x _ hx _ ⟨o,rfl⟩;obtain⟨k,hk,rfl⟩:=j4 hx;have e:=p8 (k.map .int);rw[show D.tup (k.map .int)=tupI k from rfl] at e;refine⟨_,?_,some (tupI k),rfl⟩
   repeat(first|walk_at "z r" | simp only[e])
  ·rintro _ rfl ⟨o,rfl⟩;walk_at "q"
 ·repeat(first|walk_at "z r" | simp only[ew,lw])
 ·rintro _ ⟨_,rfl⟩;rfl
 ·exact⟨none,rfl⟩
 ·unfold lim;exact lm
 ·rw[c9,em];exact l1
 ·rintro x hx _ zs ⟨o1,rfl⟩;obtain⟨k,hk,rfl⟩:=j4 hx;have e:=A3 k (hp k hk);have lk:lf (tupI k)=true:=a0L l1 (qA.mpr ⟨k,hk,rfl⟩);refine⟨[some (.v (.str (pS k)))],.v (tupI k),⟨some _,rfl⟩,?_,rfl,fun _=>⟨?_,.inl (qN W.v (er k hk).symm)⟩⟩
  ·walk_at "q";rfl
  ·repeat(first|walk_at "z r" | simp only[e,lk])
abbrev N2:Stmt:=top 36
theorem W0:FnScope ["script","k"] ["script","k"] (defScope N2):=by walk_at "c"
def a0B (g:LO):Prop:=∀(ns:List Int) (k:Nat),ns.length<=63->k<=63->∃m:Int,g [.lst (ns.map D.int),.int k]=some (.v (.int m))
theorem a24 (m_len:mg "len"=none)(F:Fun K "_law_cell" "_law_cell" N2 f fd)(B:Binds K fd ["script","k"] [])(hm:mg "_law_cell"=some (.ref f)):∃g,Fn P w K mg base "_law_cell" (k+1) g/\a0B g:=by
 have nd:=W0.nd
 refine⟨_,t6 F W0 B hm rfl rfl (fun cdv A outer s H E hr=>(b8 (z6 (a4r hr (a7 1) (qx_b B0 G2 m_len (a8 (a7 0) a9))) (c7 (g8 (t5 hr (a7 0) (a7 1)))) j8)
  (c7 (g8 b9)))),?_⟩
 intro ns k hl hk
 by_cases h:k<ns.length
 ·have h':decide ((k:Int)<(ns.length:Int))=true:=zR (by walk_at "o")
  have ha:atI (ns.map D.int) (k:Int)=some (.int ns[k]):=by
   unfold atI ixN;rw[zC];simp[h]
  refine⟨ns[k],?_⟩
  repeat(first|walk_at "z r" | simp only[zC,h',ha])
 ·have h':decide ((k:Int)<(ns.length:Int))=false:=zT (by walk_at "o")
  refine⟨0,?_⟩
  repeat(first|walk_at "z r" | simp only[zC,h'])
abbrev P6:Stmt:=top 37
theorem W4:FnScope ["cell","salt","one","number","j"] ["cell","salt"] (defScope P6):=by walk_at "c"
def a0n (g:LO):Prop:=∀(c:Int),∃m:Int,g [.int c,.int 1]=some (.v (.int m))
theorem a26 (o9:mg "range"=none)(F:Fun K "_law_deal" "_law_deal" P6 f fd)(B:Binds K fd ["cell","salt"] [])(hm:mg "_law_deal"=some (.ref f)):∃g,Fn P w K mg base "_law_deal" (k+1) g/\a0n g:=by
 have nd:=W4.nd
 refine⟨_,t6 F W4 B hm rfl rfl (fun cdv A outer s H E hr=>(b8 (z6 (b0k (a7 0) (Z9 b9 b9)) (c7 (g8 (a2P (a7 0) (Z9 b9 b9)))) j8)
  (b8 (m8 2 nd (S9 (a7 0) b9))
  (b8 (m8 3 nd b9)
  (b8 (a0i qX rfl (a1q o9 (a8 b9 a9)) (c6 4 nd) (b8 (m8 2 nd (S9 (K9 (u9 (u9 (u9 (a7 2) (K9 (K9 b9 (a7 4)) (a7 4))) (K9 b9 (a7 1))) b9) b9) b9))
  (b8 (m8 2 nd (S9 (K9 (a7 2) (a7 2)) b9))
  (c7 (m8 3 nd (u9 (K9 (a7 3) b9) (a4s (S9 (K9 (a7 2) b9) b9) b9)))))))
  (c7 (g8 (a7 3)))))))),?_⟩
 intro c;have pw:CPow 10 18:=by decide
 by_cases h:(10:Int)^(18:Int).toNat<=c
 ·have h':decide ((10:Int)^(18:Int).toNat<=c)=true:=zR h;refine⟨c-10^(18:Int).toNat,?_⟩
  repeat(first|walk_at "z r" | simp only[pw,h'])
 ·have h':decide ((10:Int)^(18:Int).toNat<=c)=false:=zT h;have c0:(0:Int)<2147483629:=by decide
  have c1:(0:Int)<2147483647:=by decide
  have c2:(0:Int)<2147483587:=by decide
  have c3:dOk 7:=o8 (by decide) (by decide)
  have d0:dOk 2147483629:=o8 (by decide) (by decide)
  have r1:(-(2^62:Int)<=30/\(30:Int)<2^62):=by walk_at "o"
  repeat(first|walk_at "z r" | simp only[pw,h',c0,c1,c2,c3,d0,r1])
  generalize el:loopF _ _ _=r;refine a0N el (fun i ρ=>∃(a b:Int) (o:Option D),ρ=[some (.v (.int c)),some (.v (.int 1)),some (.v (.int a)),some (.v (.int b)),o.map .v]) ⟨_,0,none,rfl⟩ ?_ ?_
  ·rintro i x _ hx ⟨a,b,o,rfl⟩;obtain⟨rfl,hi⟩:=a21 hx;have p1:mOk 17 (0+(i:Int)):=.inl (by decide)
   have p2:mOk (17*(0+(i:Int))) (0+(i:Int)):=.inr (.inl (by walk_at "o"))
   have p3:∀a:Int,mOk a 48271:=fun a=>.inr (.inl (by decide))
   have p4:∀a:Int,mOk (a%2147483647) (a%2147483647):=fun a=>.inl (by
    have:=qS a (b:=2147483647) (by decide)
    have:=qJ a (b:=2147483647) (by decide)
    walk_at "o")
   have p5:∀a:Int,mOk a 998244353:=fun a=>.inr (.inl (by decide))
   have p6:∀a:Int,mOk a 69621:=fun a=>.inr (.inl (by decide))
   have p7:mOk 29 1:=.inl (by decide)
   refine⟨?_,?_,?_⟩
   rotate_left
   ·repeat(first|walk_at "z r" | simp only[c0,c1,c2,c3,p1,p2,p3,p4,p5,p6,p7])
    rfl
   ·exact⟨_,_,some (.int (0+(i:Int))),rfl⟩
  ·rintro _ rfl ⟨a,b,o,rfl⟩;refine⟨b,?_⟩;walk_at "q"
theorem a7k {ks:List (List Int)}{x:D}(h:x∈ks.map tupI):∃k∈ks,x=tupI k:=by obtain⟨k,hk,rfl⟩:=qA.mp h;exact⟨k,hk,rfl⟩
def PsOk (n:Int) (ps:List (Int×Int)):Prop:=∀p∈ps,0<=p.1/\p.1<n/\0<=p.2/\p.2<n
def TkOk (n:Int) (ts:List Tie):Prop:=(∀t∈ts,0<=t.1/\t.1<t.2.1/\t.2.1<n/\1<=t.2.2/\t.2.2<=10^12)/\(ts.map fun t=>(t.1,t.2.1)).Nodup
theorem PsOk.add {n:Int}{ps:List (Int×Int)}{a b:Int}(h:PsOk n ps)(ha:0<=a/\a<n/\0<=b/\b<n):PsOk n (ps++[(a,b)]):=fun p hp=>by
 rcases qY.mp hp with hp|hp
 ·exact h p hp
 ·rw[qB.mp hp];exact ha
theorem a3P {α β γ δ:Type}(f:β->γ->δ)(g:α->β)(h:α->γ):∀l:List α,List.zipWith f (l.map g) (l.map h)=l.map fun x=>f (g x) (h x)
 | []=>rfl
 | x::l=>by rw[zJ,zJ,xV,a3P f g h l,zJ]
theorem b1X {n:Int}{ts:List Tie}{a b g:Int}(h:TkOk n ts)(ha:0<=a/\a<b/\b<n/\1<=g/\g<=10^12):∃ts',TkOk n ts'/\ts'.length<=ts.length+1/\putKs (ts.map tkK) [Sum.inl a,Sum.inl b]=ts'.map tkK/\putX (ts.map tkK) (ts.map fun t=>D.int t.2.2) [Sum.inl a,Sum.inl b] (.int g)=ts'.map fun t=>D.int t.2.2:=by
 by_cases hm:[Sum.inl a,Sum.inl b]∈ts.map tkK
 ·refine⟨ts.map fun t=>if tkK t=[Sum.inl a,Sum.inl b] then(t.1,t.2.1,g) else t,⟨fun t ht=>?_,?_⟩,by rw[zC];walk_at "o",?_,?_⟩
  ·obtain⟨t,ht',rfl⟩:=qA.mp ht
   have:=h.1 t ht'
   split
   ·exact⟨this.1,this.2.1,this.2.2.1,ha.2.2.2⟩
   ·exact this
  ·rw[zV];rw[show((fun t:Tie=>(t.1,t.2.1))∘fun t=>if tkK t=[Sum.inl a,Sum.inl b] then(t.1,t.2.1,g) else t)=fun t=>(t.1,t.2.1) from funext fun t=>by dsimp only[Function.comp];split<;>rfl]
   exact h.2
  ·unfold putKs;rw[if_pos hm,zV];refine qM fun t _=>?_;dsimp only[Function.comp]
   split<;>rfl
  ·unfold putX;rw[if_pos hm,a3P,zV];refine qM fun t _=>?_;dsimp only[Function.comp]
   split<;>rfl
 ·obtain⟨q1,q2⟩:=a9X (kl:=ts.map tkK) (xs:=ts.map fun t=>D.int t.2.2) (d:=.int g) hm;refine⟨ts++[(a,b,g)],⟨fun t ht=>?_,?_⟩,by rw[qE,jG];walk_at "o",by rw[q1,jJ];rfl,by rw[q2,jJ];rfl⟩
  ·rcases qY.mp ht with ht|ht
   ·exact h.1 t ht
   ·rw[qB.mp ht];exact ha
  ·rw[jJ,List.nodup_append];refine⟨h.2,by simp,fun x hx y hy e=>?_⟩
   rw[zJ,xD,qB] at hy;subst hy;obtain⟨t,ht,rfl⟩:=qA.mp hx;have e1:t.1=a:=qN Prod.fst e;have e2:t.2.1=b:=qN Prod.snd e;refine hm (qA.mpr ⟨t,ht,?_⟩);unfold tkK;rw[e1,e2]
def gT (ts:List Tie):D:=.dT (ts.map tkK) (ts.map fun t=>D.int t.2.2)
theorem b1W (ts:List Tie):ts.map tkK=(ts.map key2).map fun k=>k.map Sum.inl:=by rw[zV];rfl
theorem a9Y {ts:List Tie}(hl:ts.length<64):gSort (gT ts)=some (.o (.lst ((sortK (ts.map key2)).map tupI))):=by
 show gSortT (gT ts)=_;have e:keysOf (gT ts)=some (ts.map key2):=by
  show inlKs (ts.map tkK)=_;rw[b1W,a1Y]
 unfold gSortT;rw[e];exact if_pos ⟨by rw[zC];exact hl,fun k hk=>by obtain⟨t,_,rfl⟩:=qA.mp hk;exact nofun⟩
def tieH (ts:List Tie):D->D
 | .tup ds=>match intsOf ds with
  | some k=>tieD (tieOf ts k)
  | none=>.non
 | _=>.non
theorem a3D (ts:List Tie)(k:List Int):tieH ts (tupI k)=tieD (tieOf ts k):=by unfold tieH tupI;simp only[A4]
theorem a3y (ts:List Tie):(((sortK (ts.map key2)).map tupI).filter fun _=>true).map (tieH ts)=(resort ts).map tieD:=by
 rw[c9,zV];unfold resort;rw[zV];apply qM;intro k _;exact a3D ts k
abbrev T7:Stmt:=top 38
theorem a0s:FnScope ["number","most","people","way","kind","base","count","pairs","k","one","other","gains","more","gain"," h0"," h1"," h2"," h3"," h4"," h5"] ["number","most"] (defScope T7):=by walk_at "c"
theorem a4j {ts:List Tie}(nd:(ts.map key2).Nodup):(resort ts).map key2=sortK (ts.map key2):=by
 unfold resort;rw[zV]
 conv=>rhs;rw[<-map_id (sortK (ts.map key2))]
 refine qM fun k hk=>?_;obtain⟨t,ht,rfl⟩:=qA.mp ((w8 _).mem_iff.mp hk);show key2 (tieOf ts (key2 t))=key2 t;rfl
theorem a8U {ts:List Tie}(nd:(ts.map key2).Nodup):((resort ts).map key2).Pairwise fun a b=>HT.lexLt a b=true:=by
 rw[a4j nd];have h:=Y4 (ts.map key2);have h2:=List.pairwise_and_iff.mpr ⟨h,(w8 _).nodup_iff.mpr nd⟩;refine h2.imp fun{a b} ⟨h1,h3⟩=>?_;cases e:HT.lexLt a b with
 | true=>rfl
 | false=>exact absurd (a0K a b e h1) h3
def a1O (g:LO):Prop:=∀(number M:Int),1<=M->M<=8->∃(n m:Int) (ts:List Tie),WebR n ts/\n<=M/\g [.int number,.int M]=some (.v (.tup [webD n ts,.int m]))
theorem a3g (m5:mg "divmod"=none)(o9:mg "range"=none)(j6:mg "tuple"=none)(m_min:mg "min"=none)(m_max:mg "max"=none)(K6:mg "sorted"=none)(F:Fun K "_law_web" "_law_web" T7 f fd)(B:Binds K fd ["number","most"] [])(hm:mg "_law_web"=some (.ref f)):∃g,Fn P w K mg base "_law_web" (k+1) g/\a1O g:=by
 have nd:=a0s.nd
 refine⟨_,t6 F a0s B hm rfl rfl (fun cdv A outer s H E hr=>(b8 (A5 (q8 m5 (a8 (a7 0) (a8 (a7 1) a9))) (t9 rfl (c8 (c6 0 nd) (c8 (c6 2 nd) l8))))
  (b8 (m8 2 nd (u9 (a7 2) b9))
  (b8 (A5 (q8 m5 (a8 (a7 0) (a8 b9 a9))) (t9 rfl (c8 (c6 0 nd) (c8 (c6 3 nd) l8))))
  (b8 (A5 (q8 m5 (a8 (a7 0) (a8 b9 a9))) (t9 rfl (c8 (c6 0 nd) (c8 (c6 4 nd) l8))))
  (b8 (A5 (q8 m5 (a8 (a7 0) (a8 (Z9 b9 b9) a9))) (t9 rfl (c8 (c6 0 nd) (c8 (c6 5 nd) l8))))
  (b8 (A5 (q8 m5 (a8 (a7 0) (a8 (t5 hr (D1 (a8 (u9 (K9 b9 (a7 2)) b9) (a8 b9 (a8 b9 (a8 (K9 b9 (a7 2)) (a8 b9 (a8 b9 a9))))))) (a7 3)) a9))) (t9 rfl (c8 (c6 0 nd) (c8 (c6 6 nd) l8))))
  (b8 (m8 7 nd (a8Y 3 (Q8 (a0d (k:=14) (by rfl)) (D1 a9) (Q8 (a0d (k:=15) (by rfl)) (m3 (N:=["k","people"]) (js:=[none,some 2]) (li:=none) rfl (o7 (by exact(.own (.cap rfl rfl rfl rfl .nil))) rfl (by exact⟨rfl,trivial⟩) (by rfl)) (B9 (a1q o9 (a8 (a7 2) a9))) (fun _ _ _ _=>(c6 0 (show((["k","people"]:List Str)++[accN]).Nodup by decide +kernel))) (fun _ _ _ _=>k6) (fun _ _ _ _=>(C0 (a8 (a7 0) (a8 (S9 (u9 (a7 0) b9) (a7 1)) a9))))) (Q8 (a0d (k:=16) (by rfl)) (m3 (N:=["k"]) (js:=[none]) (li:=none) rfl (o7 (by exact(.own .nil)) rfl (by exact trivial) (by rfl)) (B9 (a1q o9 (a8 (a2P (a7 2) b9) a9))) (fun _ _ _ _=>(c6 0 (show((["k"]:List Str)++[accN]).Nodup by decide +kernel))) (fun _ _ _ _=>k6) (fun _ _ _ _=>(C0 (a8 (a7 0) (a8 (u9 (a7 0) b9) a9))))) (Q8 (a0d (k:=17) (by rfl)) (D1 a9) (Q8 (a0d (k:=18) (by rfl)) (m3 (N:=["k"]) (js:=[none]) (li:=none) rfl (o7 (by exact(.own .nil)) rfl (by exact trivial) (by rfl)) (B9 (qi_r2 o9 (a8 b9 (a8 (a7 2) a9)))) (fun _ _ _ _=>(c6 0 (show((["k"]:List Str)++[accN]).Nodup by decide +kernel))) (fun _ _ _ _=>k6) (fun _ _ _ _=>(C0 (a8 b9 (a8 (a7 0) a9))))) (Q8 (a0d (k:=19) (by rfl)) (m3 (N:=["k"]) (js:=[none]) (li:=none) rfl (o7 (by exact(.own .nil)) rfl (by exact trivial) (by rfl)) (B9 (a1q o9 (a8 (a2P (a7 2) b9) a9))) (fun _ _ _ _=>(c6 0 (show((["k"]:List Str)++[accN]).Nodup by decide +kernel))) (fun _ _ _ _=>k6) (fun _ _ _ _=>(C0 (a8 (a4s (a7 0) b9) (a8 (u9 (a7 0) b9) a9))))) b1Y))))))))
  (b8 (z6 (M2 (a63 (a2z hr (a7 3) b9) (a5p (a44 (a7 2) b9)))) (c7 (G0 (Q6 (a7 7) (a8 (C0 (a8 b9 (a8 b9 a9))) a9)))) j8)
  (b8 (a0i qX rfl (a1q o9 (a8 (a7 6) a9)) (c6 8 nd) (b8 (A5 (q8 m5 (a8 (a7 0) (a8 (a7 2) a9))) (t9 rfl (c8 (c6 0 nd) (c8 (c6 9 nd) l8))))
  (b8 (A5 (q8 m5 (a8 (a7 0) (a8 (a7 2) a9))) (t9 rfl (c8 (c6 0 nd) (c8 (c6 10 nd) l8))))
  (c7 (z6 (M2 (D2 (M0 hr (a7 3) b9) (G7 (a2z hr (S9 (u9 (a7 9) (a7 10)) b9) b9)))) (c7 (G0 (Q6 (a7 7) (a8 (C0 (a8 (a7 9) (a8 (a7 10) a9))) a9)))) j8)))))
  (b8 (m8 11 nd a8R)
  (b8 (a0i qX rfl (J0 (a7 7)) (t9 rfl (c8 (c6 9 nd) (c8 (c6 10 nd) l8))) (c7 (z6 (M0 hr (a7 9) (a7 10)) (b8 (A5 (q8 m5 (a8 (a7 0) (a8 (t5 hr (D1 (a8 b9 (a8 b9 (a8 b9 (a8 (Z9 b9 b9) (a8 b9 a9)))))) (a7 4)) a9))) (t9 rfl (c8 (c6 0 nd) (c8 (c6 12 nd) l8))))
  (b8 (m8 13 nd (t5 hr (D1 (a8 (u9 b9 (a7 12)) (a8 (u9 b9 (S9 (a7 5) b9)) (a8 (qx_b (a2n rfl) a7i m_min (a8 (Z9 b9 b9) (a8 (u9 (u9 b9 (a7 5)) (a7 12)) a9))) (a8 (u9 b9 (a7 12)) (a8 (a2P (Z9 b9 b9) (a7 12)) a9)))))) (a7 4)))
  (c7 (a75 hr (a7 11) (a8 (qx_b (a2n rfl) a7i m_min (a8 (a7 9) (a8 (a7 10) a9))) (a8 (qx_b (a6f rfl) b2e m_max (a8 (a7 9) (a8 (a7 10) a9))) a9)) (a7 13))))) j8)))
  (c7 (g8 (C0 (a8 (C0 (a8 (a7 2) (a8 (qx_t v6 K4 j6 (a8 (m3 (N:=["a","b","gains"]) (js:=[none,none,some 11]) (li:=none) rfl (o7 (by exact(.own (.own (.cap rfl rfl rfl rfl .nil)))) rfl (by exact⟨rfl,trivial⟩) (by rfl)) (B9 (J0 (a2t hr rfl K6 (a8 (a7 11) a9)))) (fun _ _ _ _=>(t9 rfl (c8 (c6 0 (show((["a","b","gains"]:List Str)++[accN]).Nodup by decide +kernel)) (c8 (c6 1 (show((["a","b","gains"]:List Str)++[accN]).Nodup by decide +kernel)) l8)))) (fun _ _ _ _=>k6) (fun _ _ _ _=>(C0 (a8 (a7 0) (a8 (a7 1) (a8 (t5 hr (a7 2) (C0 (a8 (a7 0) (a8 (a7 1) a9)))) a9)))))) a9)) a9))) (a8 (a7 0) a9))))))))))))))))),?_⟩
 intro number M hM1 hM8;have d8:dOk M:=o8 (by walk_at "o") (by walk_at "o")
 have d6:dOk 6:=o8 (by decide) (by decide)
 have d5:dOk 5:=o8 (by decide) (by decide)
 have pw:CPow 10 12:=by decide
 have dp:dOk ((10:Int)^(12:Int).toNat):=o8 (by decide) (by decide)
 obtain⟨n,en,hn⟩:∃n:Int,number%M+1=n/\1<=n/\n<=M:=⟨_,rfl,by have:=qS number (b:=M) (by walk_at "o");walk_at "o",by have:=qJ number (b:=M) (by walk_at "o");walk_at "o"⟩
 have hn8:n<=M:=hn.2;have hn:1<=n/\n<=8:=by walk_at "o"
 obtain⟨y,ey,hy⟩:∃y:Int,number/M%6=y/\0<=y/\y<6:=⟨_,rfl,qS _ (by decide),qJ _ (by decide)⟩
 obtain⟨q,eq,hq⟩:∃q:Int,number/M/6%5=q/\0<=q/\q<5:=⟨_,rfl,qS _ (by decide),qJ _ (by decide)⟩
 obtain⟨z,ez,hz⟩:∃z:Int,number/M/6/5%(10:Int)^(12:Int).toNat=z/\0<=z/\z<10^12:=⟨_,rfl,qS _ (by decide),qJ _ (by decide)⟩
 obtain⟨c,ec,hc⟩:∃c:Int,atI [D.int (2*n+2),.int 3,.int 3,.int (2*n),.int 3,.int 3] y=some (.int c)/\1<=c/\c<=18:=by
  have:y=0\/y=1\/y=2\/y=3\/y=4\/y=5:=by walk_at "o"
  rcases this with rfl|rfl|rfl|rfl|rfl|rfl
  ·exact⟨_,a_0,by walk_at "o",by walk_at "o"⟩
  ·exact⟨_,a_1,by walk_at "o",by walk_at "o"⟩
  ·exact⟨_,a_2,by walk_at "o",by walk_at "o"⟩
  ·exact⟨_,a_3,by walk_at "o",by walk_at "o"⟩
  ·exact⟨_,a_4,by walk_at "o",by walk_at "o"⟩
  ·exact⟨_,a_5,by walk_at "o",by walk_at "o"⟩
 have dc:dOk c:=o8 (by walk_at "o") (by walk_at "o")
 have m1:mOk 2 n:=.inl (by decide)
 repeat(first|walk_at "z r" | simp only[r_dm d8,r_dm d6,r_dm d5,r_dm dp,r_dm dc,pw,en,ey,eq,ez,ec,m1,Int.reduceMul])
 obtain⟨ps,hps,hpl,ed⟩:∃ps:List (Int×Int),PsOk n ps/\ps.length<=8/\atI [D.lst [],.lst ((rngP (fun i=>i) (fun i=>(i+1)%n) 0 n.toNat).map pD),.lst ((rngP (fun i=>i) (fun i=>i+1) 0 (n-1).toNat).map pD),.lst [],.lst ((rngP (fun _=>0) (fun i=>i) 1 (n-1).toNat).map pD),.lst ((rngP (fun i=>i/2) (fun i=>i+1) 0 (n-1).toNat).map pD)] y=some (.lst (ps.map pD)):=by
  have:y=0\/y=1\/y=2\/y=3\/y=4\/y=5:=by walk_at "o"
  rcases this with rfl|rfl|rfl|rfl|rfl|rfl
  ·exact⟨[],(fun _ h=>by cases h),qV _,a_0⟩
  ·refine⟨_,fun p hp=>?_,?_,a_1⟩
   ·obtain⟨i,h1,h2,rfl⟩:=W2 hp
    have:=qS (i+1) (b:=n) (by walk_at "o")
    have:=qJ (i+1) (b:=n) (by walk_at "o")
    exact⟨by walk_at "o",by show i<n;walk_at "o",by walk_at "o",by walk_at "o"⟩
   ·rw[Y0];walk_at "o"
  ·refine⟨_,fun p hp=>?_,?_,a_2⟩
   ·obtain⟨i,h1,h2,rfl⟩:=W2 hp;exact⟨by walk_at "o",by show i<n;walk_at "o",by show 0<=i+1;walk_at "o",by show i+1<n;walk_at "o"⟩
   ·rw[Y0];walk_at "o"
  ·exact⟨[],(fun _ h=>by cases h),qV _,a_3⟩
  ·refine⟨_,fun p hp=>?_,?_,a_4⟩
   ·obtain⟨i,h1,h2,rfl⟩:=W2 hp;exact⟨by show(0:Int)<=0;walk_at "o",by show 0<n;walk_at "o",by show 0<=i;walk_at "o",by show i<n;walk_at "o"⟩
   ·rw[Y0];walk_at "o"
  ·refine⟨_,fun p hp=>?_,?_,a_5⟩
   ·obtain⟨i,h1,h2,rfl⟩:=W2 hp;exact⟨by show 0<=i/2;walk_at "o",by show i/2<n;walk_at "o",by show 0<=i+1;walk_at "o",by show i+1<n;walk_at "o"⟩
   ·rw[Y0];walk_at "o"
 obtain⟨e,ee,he⟩:∃e:Int,number/M/6/5/10^Int.toNat 12%c=e/\0<=e/\e<18:=⟨_,rfl,qS _ (by walk_at "o"),Int.lt_of_lt_of_le (qJ _ (by walk_at "o")) hc.2⟩
 rw[ee];generalize number/M/6/5/10^Int.toNat 12/c=num
 rw[a9o (ds:=[D.lst [],.lst ((rngP (fun i=>i) (fun i=>(i+1)%n) 0 n.toNat).map pD),.lst ((rngP (fun i=>i) (fun i=>i+1) 0 (n-1).toNat).map pD),.lst [],.lst ((rngP (fun _=>0) (fun i=>i) 1 (n-1).toNat).map pD),.lst ((rngP (fun i=>i/2) (fun i=>i+1) 0 (n-1).toNat).map pD)])
  (ρ':=[some (.v (.int num)),some (.v (.int M)),some (.v (.int n)),some (.v (.int y)),some (.v (.int q)),some (.v (.int z)),some (.v (.int e)),none,none,none,none,none,none,none,some (.o (.lst [])),some (.o (.lst ((rngP (fun i=>i) (fun i=>(i+1)%n) 0 n.toNat).map pD))),some (.o (.lst ((rngP (fun i=>i) (fun i=>i+1) 0 (n-1).toNat).map pD))),some (.o (.lst [])),some (.o (.lst ((rngP (fun _=>0) (fun i=>i) 1 (n-1).toNat).map pD))),some (.o (.lst ((rngP (fun i=>i/2) (fun i=>i+1) 0 (n-1).toNat).map pD)))]) ?_ rfl ⟨show(6:Nat)<=lim by decide,by decide,rfl⟩ ed]
 ·have dn:dOk n:=o8 (by walk_at "o") (by walk_at "o")
  have re:(-(2^62:Int)<=e/\e<2^62):=by walk_at "o"
  have q2:(0:Int)<2:=by decide
  repeat(first|walk_at "z i" | simp only[offN])
  generalize ei:fIfS _ _ _ _=r1;obtain⟨ps1,hp1,hl1,rfl⟩:∃ps1:List (Int×Int),PsOk n ps1/\ps1.length<=9/\r1=some (.nx [some (.v (.int num)),some (.v (.int M)),some (.v (.int n)),some (.v (.int y)),some (.v (.int q)),some (.v (.int z)),some (.v (.int e)),some (.o (.lst (ps1.map pD))),none,none,none,none,none,none,none,none,none,none,none,none]):=by
   rw[<-ei];have hlt:ps.length<1000000:=by walk_at "o"
   by_cases h5:y=5/\2<n
   ·obtain⟨rfl,h2⟩:=h5;have h2':decide (2<n)=true:=zR h2;refine⟨ps++[(1,2)],fun p hp=>?_,by rw[qE,jG];walk_at "o",?_⟩
    ·rcases qY.mp hp with hp|hp
     ·exact hps p hp
     ·rw[qB.mp hp];exact⟨by decide,by show(1:Int)<n;walk_at "o",by decide,by show(2:Int)<n;walk_at "o"⟩
    ·repeat(first|walk_at "z r" | simp only[h2',hlt,zC,jJ,pD])
   ·refine⟨ps,hps,by walk_at "o",?_⟩
    by_cases hy5:y=5
    ·have h2':decide (2<n)=false:=zT fun h=>h5 ⟨hy5,h⟩;subst hy5
     repeat(first|walk_at "z r" | simp only[h2'])
    ·have h5':(y==5)=false:=by simpa using hy5
     repeat(first|walk_at "z r" | simp only[h5'])
  repeat(first|walk_at "z i" | simp only[re])
  generalize el:loopF _ _ _=r;refine a0N el (fun i ρ=>∃(num:Int) (ps:List (Int×Int)) (o1 o2 o3:Option D),ρ=[some (.v (.int num)),some (.v (.int M)),some (.v (.int n)),some (.v (.int y)),some (.v (.int q)),some (.v (.int z)),some (.v (.int e)),some (.o (.lst (ps.map pD))),o1.map .v,o2.map .v,o3.map .v,none,none,none,none,none,none,none,none,none]/\PsOk n ps/\ps.length<=9+i) ⟨num,ps1,none,none,none,rfl,hp1,by walk_at "o"⟩ ?_ ?_
  ·rintro i x _ hx ⟨num,ps,o1,o2,o3,rfl,hps,hpl⟩;obtain⟨rfl,hi⟩:=a21 hx;have hlt:ps.length<1000000:=by walk_at "o"
   have b1:=qS num (b:=n) (by walk_at "o")
   have b2:=qJ num (b:=n) (by walk_at "o")
   have b3:=qS (num/n) (b:=n) (by walk_at "o")
   have b4:=qJ (num/n) (b:=n) (by walk_at "o")
   generalize ea:num%n=a at *;generalize eb:num/n%n=b at *
   repeat(first|walk_at "z i" | simp only[r_dm dn,ea,eb])
   cases h3:(y==3) with
   | false=>
    refine⟨_,?_,num/n/n,ps++[(a,b)],some (.int (0+(i:Int))),some (.int a),some (.int b),rfl,hps.add ⟨b1,b2,b3,b4⟩,by rw[qE,jG];walk_at "o"⟩
    repeat(first|walk_at "z r" | simp only[h3,hlt,zC,jJ,pD])
   | true=>
    cases h4:((a+b)%2==1) with
    | true=>
     refine⟨_,?_,num/n/n,ps++[(a,b)],some (.int (0+(i:Int))),some (.int a),some (.int b),rfl,hps.add ⟨b1,b2,b3,b4⟩,by rw[qE,jG];walk_at "o"⟩
     repeat(first|walk_at "z r" | simp only[h3,h4,q2,hlt,zC,jJ,pD])
    | false=>
     refine⟨_,?_,num/n/n,ps,some (.int (0+(i:Int))),some (.int a),some (.int b),rfl,hps,by walk_at "o"⟩
     repeat(first|walk_at "z r" | simp only[h3,h4,q2])
  ·rintro _ rfl ⟨num,ps,o1,o2,o3,rfl,hps,hpl⟩;rw[Y7] at hpl
   repeat(first|walk_at "z i")
   generalize el2:loopF _ _ _=r2;refine a0N el2 (fun i ρ=>∃(num:Int) (ts:List Tie) (o1 o2 o3 o4 o5:Option D),ρ=[some (.v (.int num)),some (.v (.int M)),some (.v (.int n)),some (.v (.int y)),some (.v (.int q)),some (.v (.int z)),some (.v (.int e)),some (.v (.lst (ps.map pD))),o1.map .v,o2.map .v,o3.map .v,some (.o (.dT (ts.map tkK) (ts.map fun t=>D.int t.2.2))),o4.map .v,o5.map .v,none,none,none,none,none,none]/\TkOk n ts/\ts.length<=i) ⟨num,[],o1,o2,o3,none,none,rfl,⟨(fun _ h=>by cases h),List.nodup_nil⟩,zE _⟩ ?_ ?_
   ·rintro i x _ hx ⟨num,ts,o1,o2,o3,o4,o5,rfl,hts,htl⟩;rw[qF] at hx;cases hp:ps[i]? with
    | none=>rw[hp] at hx;cases hx
    | some p=>
     rw[hp] at hx;cases hx;obtain⟨a,b⟩:=p;have hab:=hps _ (jW hp);have hil:=(zM.mp hp).1;rw[show pD (a,b)= .tup [.int a,.int b] from rfl];cases hne:(a==b) with
     | true=>
      refine⟨_,?_,num,ts,o1,some (.int a),some (.int b),o4,o5,rfl,hts,by walk_at "o"⟩
      repeat(first|walk_at "z r" | simp only[hne])
     | false=>
      have hab2:a≠b:=by simpa using hne
      obtain⟨md,em,hmd⟩:∃md:Int,atI [D.int 4,.int 1,.int 3,.int ((10:Int)^(12:Int).toNat),.int 2] q=some (.int md)/\dOk md/\∀m:Int,∃g:Int,atI [D.int (1+m%md),.int (1+z%7),.int (if 1+z+m%md<(10:Int)^(12:Int).toNat then 1+z+m%md else(10:Int)^(12:Int).toNat),.int (1+m%md),.int ((10:Int)^(12:Int).toNat-m%md)] q=some (.int g)/\1<=g/\g<=10^12:=by
       have p12:(10:Int)^(12:Int).toNat=10^12:=rfl;have hq5:q=0\/q=1\/q=2\/q=3\/q=4:=by walk_at "o"
       rcases hq5 with rfl|rfl|rfl|rfl|rfl
       ·exact⟨_,a_0,o8 (by decide) (by decide),fun m=>⟨_,a_0,by walk_at "o",by walk_at "o"⟩⟩
       ·exact⟨_,a_1,o8 (by decide) (by decide),fun m=>⟨_,a_1,by walk_at "o",by walk_at "o"⟩⟩
       ·exact⟨_,a_2,o8 (by decide) (by decide),fun m=>⟨_,a_2,by split<;>walk_at "o",by split<;>walk_at "o"⟩⟩
       ·exact⟨_,a_3,dp,fun m=>⟨_,a_3,by walk_at "o",by walk_at "o"⟩⟩
       ·exact⟨_,a_4,o8 (by decide) (by decide),fun m=>⟨_,a_4,by walk_at "o",by walk_at "o"⟩⟩
      obtain⟨g,eg,hg⟩:=hmd.2 num;have p7:(0:Int)<7:=by decide
      obtain⟨ts',ht',hl',ek,ex⟩:=b1X (a:=if b<a then b else a) (b:=if b>a then b else a) hts ⟨by split<;>walk_at "o",by split<;>split<;>walk_at "o",by split<;>walk_at "o",hg⟩
      have klt:(ts.map tkK).length<1000000:=by rw[zC];walk_at "o"
      refine⟨_,?_,num/md,ts',o1,some (.int a),some (.int b),some (.int (num%md)),some (.int g),rfl,ht',by walk_at "o"⟩
      repeat(first|walk_at "z r" | simp only[hne,em,r_dm hmd.1,pw,p7,eg,klt,ek,ex])
   ·rintro _ rfl ⟨num,ts,o1,o2,o3,o4,o5,rfl,hts,htl⟩;rw[zC] at htl;have sg:=a9Y (ts:=ts) (by walk_at "o")
    have ltk:=W3 (sortK (ts.map key2));have hw:WebOk n ts:=⟨hn,fun t ht=>by have:=hts.1 t ht;exact⟨this.1,this.2.1,this.2.2.1,this.2.2.2.1,by walk_at "o"⟩,hts.2,by walk_at "o"⟩
    refine⟨n,num,resort ts,⟨hw.perm (a0z hw.nk),fun t ht=>(hts.1 t ((a0z hw.nk).mem_iff.mp ht)).2.2.2.2,a8U hw.nk⟩,hn8,?_⟩;rw[show D.dT (ts.map tkK) (ts.map fun t=>D.int t.2.2)=gT ts from rfl]
    repeat(first|walk_at "z i")
    rw[j5 (ρ1:=[some (.v (.int num)),some (.v (.int M)),some (.v (.int n)),some (.v (.int y)),some (.v (.int q)),some (.v (.int z)),some (.v (.int e)),some (.v (.lst (ps.map pD))),o1.map .v,o2.map .v,o3.map .v,some (.o (gT ts)),o4.map .v,o5.map .v,none,none,none,none,none,none]) (xs:=(sortK (ts.map key2)).map tupI) (fun B=>∃o1 o2:Option D,B=[o1.map .v,o2.map .v,some (.v (gT ts))]) (fun _=>true) (tieH ts)]
    ·rw[a3y]
     repeat(first|walk_at "z i")
     rfl
    ·repeat(first|walk_at "z r" | simp only[sg,ltk])
    ·rintro _ ⟨_,_,rfl⟩;rfl
    ·exact⟨none,none,rfl⟩
    ·rw[zC,(w8 _).length_eq,zC];unfold lim;walk_at "o"
    ·rw[a3y];exact a4K _
    ·rintro x hx _ zs ⟨o1,o2,rfl⟩;obtain⟨k,hk,rfl⟩:=a7k hx;obtain⟨t,ht,rfl⟩:=qA.mp ((w8 _).mem_iff.mp hk);have lk:oIxG (gT ts) (tupI (key2 t))=some (.v (.int (gainOf ts (key2 t)))):=b1A (a9a (key2 t)) (R7 (qA.mpr ⟨t,ht,rfl⟩));rw[a3D];have tk:tupI (key2 t)= .tup [.int t.1,.int t.2.1]:=rfl;rw[tk] at lk ⊢;refine⟨[some (.v (.int t.1)),some (.v (.int t.2.1)),some (.v (gT ts))],.v (tieD (tieOf ts (key2 t))),⟨some _,some _,rfl⟩,?_,rfl,fun _=>⟨?_,.inl rfl⟩⟩
     ·walk_at "q"
     ·repeat(first|walk_at "z r" | simp only[lk])
      rfl
 ·have r1:(-(2^62:Int)<=n/\n<2^62):=by walk_at "o"
  have r2:(-(2^62:Int)<=n-1/\n-1<2^62):=by walk_at "o"
  have r3:((-(2^62:Int)<=1/\(1:Int)<2^62)/\-(2^62:Int)<=n/\n<2^62):=by walk_at "o"
  have hn0:0<n:=by walk_at "o"
  have d2:dOk 2:=o8 (by decide) (by decide)
  refine a2E (by walk_at "q") rfl (a2E (L7 _ _ (fun B=>∃o1:Option D,B=[o1.map .v,some (.v (.int n))]) ?_ (by walk_at "o") ?_ ⟨none,rfl⟩ ?_) rfl (a2E (L7 _ _ (fun B=>∃o1:Option D,B=[o1.map .v]) ?_ (by walk_at "o") ?_ ⟨none,rfl⟩ ?_) rfl (a2E (by walk_at "q") rfl (a2E (L7 _ _ (fun B=>∃o1:Option D,B=[o1.map .v]) ?_ (by walk_at "o") ?_ ⟨none,rfl⟩ ?_) rfl (a2E (L7 _ _ (fun B=>∃o1:Option D,B=[o1.map .v]) ?_ (by walk_at "o") ?_ ⟨none,rfl⟩ ?_) rfl rfl rfl) rfl) rfl) rfl) rfl) rfl
  all_goals first
   | (rintro _ ⟨_,rfl⟩;rfl)
   | (rintro i h1 h2 _ zs ⟨o1,rfl⟩;refine⟨[some (.v (.int i)),some (.v (.int n))],⟨some _,rfl⟩,?_,rfl,?_⟩<;>(repeat(first|walk_at "z r" | simp only[hn0]));done)
   | (rintro i h1 h2 _ zs ⟨o1,rfl⟩;refine⟨[some (.v (.int i))],⟨some _,rfl⟩,?_,rfl,?_⟩<;>(repeat(first|walk_at "z r" | simp only[d2]));done)
   | ((repeat(first|walk_at "z r" | simp only[r1]));done)
   | ((repeat(first|walk_at "z r" | simp only[r2]));done)
   | ((repeat(first|walk_at "z r" | simp only[r3]));done)
def one1:D->D
 | .int i=>.tup [.int i]
 | d=>d
theorem a8V (n:Int)(ts:List Tie):((rngD 0 n.toNat).filter fun _=>true).map one1++((ts.map tieD).filter fun _=>true).map cut2=(parK n ts).map tupI:=by
 rw[c9,c9];unfold parK rngD;rw[jJ,zV,zV,zV,zV];congr 1;apply qM;intro i _;show D.tup [.int (0+(i:Int))]=D.tup [.int (i:Int)];rw[Int.zero_add]
abbrev D9:Stmt:=top 39
theorem M1:FnScope ["web"] ["web"] (defScope D9):=by walk_at "c"
def N4 (g:LO):Prop:=∀(n:Int) (ts:List Tie),WebOk n ts->g [webD n ts]=some (.o (.lst ((sortK (parK n ts)).map tupI)))
theorem a0E (K6:mg "sorted"=none)(o9:mg "range"=none)(F:Fun K "_law_parties" "_law_parties" D9 f fd)(B:Binds K fd ["web"] [])(hm:mg "_law_parties"=some (.ref f)):∃g,Fn P w K mg base "_law_parties" (k+1) g/\N4 g:=by
 have nd:=M1.nd;refine⟨_,t6 F M1 B hm rfl rfl (fun cdv A outer s H E hr=>(c7 (g8 (a2t hr rfl K6 (a8 (u9 (m3 (N:=["person"]) (js:=[none]) (li:=none) rfl (o7 (by exact(.own .nil)) rfl (by exact trivial) (by rfl)) (B9 (a1q o9 (a8 (t5 hr (a7 0) b9) a9))) (fun _ _ _ _=>(c6 0 (show((["person"]:List Str)++[accN]).Nodup by decide +kernel))) (fun _ _ _ _=>k6) (fun _ _ _ _=>(C0 (a8 (a7 0) a9)))) (m3 (N:=["a","b","gain"]) (js:=[none,none,none]) (li:=none) rfl (o7 (by exact(.own (.own (.own .nil)))) rfl (by exact trivial) (by rfl)) (B9 (J0 (t5 hr (a7 0) b9))) (fun _ _ _ _=>(t9 rfl (c8 (c6 0 (show((["a","b","gain"]:List Str)++[accN]).Nodup by decide +kernel)) (c8 (c6 1 (show((["a","b","gain"]:List Str)++[accN]).Nodup by decide +kernel)) (c8 (c6 2 (show((["a","b","gain"]:List Str)++[accN]).Nodup by decide +kernel)) l8))))) (fun _ _ _ _=>k6) (fun _ _ _ _=>(C0 (a8 (a7 0) (a8 (a7 1) a9)))))) a9))))),?_⟩
 intro n ts hw;have hn:=hw.n1;have hl:=hw.len;obtain⟨pl,pne⟩:=a3l hw;have r1:(-(2^62:Int)<=n/\n<2^62):=by walk_at "o"
 have so:=a3J (ks:=parK n ts) (by walk_at "o") pne
 have pq:=a8V n ts;have ll:(((rngD 0 n.toNat).filter fun _=>true).map one1).length+(((ts.map tieD).filter fun _=>true).map cut2).length<=1000000:=by
  rw[c9,c9,zC,zC,zC,Y7];walk_at "o"
 unfold webD;walk_at "q";rw[j5 (ρ1:=[some (.v (.tup [.int n,.tup (ts.map tieD)]))]) (xs:=rngD 0 n.toNat) (fun B=>∃o1:Option D,B=[o1.map .v]) (fun _=>true) one1]
 ·walk_at "q";rw[j5 (ρ1:=[some (.v (.tup [.int n,.tup (ts.map tieD)]))]) (xs:=ts.map tieD) (fun B=>∃o1 o2 o3:Option D,B=[o1.map .v,o2.map .v,o3.map .v]) (fun _=>true) cut2]
  ·repeat(first|walk_at "z r" | simp only[ll,pq,so])
  ·walk_at "q"
  ·rintro _ ⟨_,_,_,rfl⟩;rfl
  ·exact⟨none,none,none,rfl⟩
  ·rw[zC];unfold lim;walk_at "o"
  ·refine B6 fun y hy=>?_;obtain⟨x,hx,rfl⟩:=qA.mp hy;obtain⟨t,_,rfl⟩:=qA.mp (mem_filter.mp hx).1;rfl
  ·rintro x hx _ zs ⟨o1,o2,o3,rfl⟩;obtain⟨⟨a,b,c⟩,ha,rfl⟩:=qA.mp hx;refine⟨[some (.v (.int a)),some (.v (.int b)),some (.v (.int c))],.v (.tup [.int a,.int b]),⟨some _,some _,some _,rfl⟩,?_,rfl,fun _=>⟨?_,.inl rfl⟩⟩
   ·unfold tieD;walk_at "q"
   ·walk_at "q"
 ·repeat(first|walk_at "z r" | simp only[r1])
 ·rintro _ ⟨_,rfl⟩;rfl
 ·exact⟨none,rfl⟩
 ·rw[Y7];unfold lim;walk_at "o"
 ·refine B6 fun y hy=>?_;obtain⟨x,hx,rfl⟩:=qA.mp hy;obtain⟨i,rfl,_⟩:=a40 (mem_filter.mp hx).1;rfl
 ·rintro x hx _ zs ⟨o1,rfl⟩;obtain⟨i,rfl,_⟩:=a40 hx;refine⟨[some (.v (.int i))],.v (.tup [.int i]),⟨some _,rfl⟩,?_,rfl,fun _=>⟨?_,.inl rfl⟩⟩
  ·walk_at "q"
  ·walk_at "q"
theorem a4Y (n:Nat)(i:Int):deq n (.int i) (.int i)=some true:=by
 cases n with
 | zero=>show some (i==i)=some true;simp
 | succ n=>show some (i==i)=some true;simp
theorem a1Q (n:Nat):∀k:List Int,deqL (deq n) (k.map D.int) (k.map D.int)=some true
 | []=>rfl
 | i::k=>by rw[zJ,deqL,a4Y,bind_some,a1Q n k];rfl
theorem a3Y (n:Nat):∀ks:List (List Int),deqL (deq (n+1)) (ks.map tupI) (ks.map tupI)=some true
 | []=>rfl
 | k::ks=>by
  rw[zJ,deqL,show deq (n+1) (tupI k) (tupI k)=some true from a1Q n k,bind_some,a3Y n ks];rfl
theorem a3v (n:Nat):∀ts:List Tie,deqL (deq (n+1)) (ts.map tieD) (ts.map tieD)=some true
 | []=>rfl
 | t::ts=>by
  rw[zJ,deqL,show deq (n+1) (tieD t) (tieD t)=some true from a1Q n [t.1,t.2.1,t.2.2],bind_some,a3v n ts];rfl
theorem b1j {n:Int}{ts:List Tie}(h:WebR n ts){k:List Int}(hk:k∈parK n ts):PkOk k:=by
 have hn:=h.ok.n1;unfold parK at hk;rcases qY.mp hk with z|z
 ·obtain⟨i,hi,rfl⟩:=qA.mp z
  have:=mem_range.mp hi
  exact⟨.inl ⟨_,rfl⟩,fun j hj=>by rw[qB.mp hj];walk_at "o"⟩
 ·obtain⟨t,ht,rfl⟩:=qA.mp z;exact(h.wk.t t ht).k
theorem a6V (n:Int)(r:List Str):Txt.join (Str.ofString " ") ((Str.ofString "web " ++ numS n)::r)=Txt.join (Str.ofString " ") (Str.ofString "web" :: numS n::r):=by
 have e:∀ws,Txt.join (Str.ofString " ") ws=Str.join (Str.ofString " ") ws:=fun ws=>qT _ _;rw[e,e,show Str.ofString "web "=Str.ofString "web" ++ Str.ofString " " from by decide +kernel]
 exact PySem.StrLaws.join_shift _ _ _ _
theorem a4C (k:List Int):ptD (tupI k)= .str (pS k):=by
 show(match intsOf (k.map D.int) with
  | some k=>D.str (pS k)
  | none=>.non)=_
 rw[A4]
abbrev V8:Stmt:=top 41
theorem a7r:FnScope ["script","cell","web","number","due","known","size","count","row","k","at","handed","found"] ["script"] (defScope V8):=by walk_at "c"
theorem b15 {T3:LO}{E6:LO}{E7:LO}{M8:LO}{O9:LO}{U3:LO}{S5:LO}{O4:LO}{E5:LO}(U8:Fn P w K mg base "_law_web" k T3)(T1:a1O T3)(E3:Fn P w K mg base "_law_parties" k E6)(F8:N4 E6)(D7:Fn P w K mg base "read_parties" k E7)(E9:P1 E7)(O2:Fn P w K mg base "_law_cell" k M8)(O5:a0B M8)(O8:Fn P w K mg base "_law_deal" k O9)(N6:a0n O9)(T9:Fn P w K mg base "web_text" k U3)(U5:a1l U3)(L6:Fn P w K mg base "read_web" k S5)(S7:a09 S5)(G5:Fn P w K mg base "_law_word" k O4)(G1:a0A O4)(B7:Fn P w K mg base "parties_text" k E5)(F1:P8 E5)(m5:mg "divmod"=none)(o9:mg "range"=none)(a4h:mg "list"=none)(g6:mg "isinstance"=none)(j6:mg "tuple"=none)(m_int:mg "int"=none)(m_len:mg "len"=none)(m_str:mg "str"=none)(F:Fun K "law" "law" V8 f fd):FnOk P w K mg base CX0 (k+1) f fd ["script"] (spLaw K):=by
 have nd:=a7r.nd
 refine b1l F a7r rfl rfl (fun cdv A outer s H E hr=>(b8 (a0i qX rfl (J0 (u9 (D1 (a8 (g7 O2 hr (a8 (a7 0) (a8 b9 a9))) a9)) (K3 (a7 0) (G6 b9) (G6 b9)))) (c6 1 nd) (b8 (A5 (g7 U8 hr (a8 (g7 O8 hr (a8 (a7 1) (a8 b9 a9))) (a8 b9 a9))) (t9 rfl (c8 (c6 2 nd) (c8 (c6 3 nd) l8))))
  (b8 (m8 4 nd (L5 m6 (a8 (u9 (D1 (a8 (a0R m6 (qx_t (R1 hr) a0M m_str (a8 (t5 hr (a7 2) b9) a9))) a9)) (m3 (N:=["tie"]) (js:=[none]) (li:=none) rfl (o7 (by exact(.own .nil)) rfl (by exact trivial) (by rfl)) (B9 (J0 (t5 hr (a7 2) b9))) (fun _ _ _ _=>(c6 0 (show((["tie"]:List Str)++[accN]).Nodup by decide +kernel))) (fun _ _ _ _=>k6) (fun _ _ _ _=>(a0R (a0R (g7 G5 hr (a8 (K3 (a7 0) R3 (G6 b9)) a9)) m6) (qx_t (R1 hr) a0M m_str (a8 (t5 hr (a7 0) b9) a9)))))) a9)))
  (b8 (z6 (M2 (D2 (M0 hr (g7 T9 hr (a8 (a7 2) a9)) (a7 4)) (D2 (M0 hr (g7 L6 hr (a8 (a7 4) a9)) (a7 2)) (G7 (C7 (z7 (T4 (T:="tuple") (S6 (by decide)) g6 j6 (g7 L6 hr (a8 (a7 4) a9))))))))) (c7 (g8 X9)) j8)
  (b8 (m8 5 nd (g7 E3 hr (a8 (a7 2) a9)))
  (b8 (A5 (q8 m5 (a8 (a7 3) (a8 b9 a9))) (t9 rfl (c8 (c6 3 nd) (c8 (c6 6 nd) l8))))
  (b8 (A5 (q8 m5 (a8 (a7 3) (a8 (t5 hr (D1 (a8 b9 (a8 b9 a9))) (qx_t a2F a4G m_int (a8 (b04 hr (a7 6) b9) a9))) a9))) (t9 rfl (c8 (c6 3 nd) (c8 (c6 7 nd) l8))))
  (b8 (m8 8 nd (D1 a9))
  (b8 (a0i qX rfl (a1q o9 (a8 (a7 7) a9)) (c6 9 nd) (b8 (A5 (q8 m5 (a8 (a7 3) (a8 (qx_b B0 G2 m_len (a8 (a7 5) a9)) a9))) (t9 rfl (c8 (c6 3 nd) (c8 (c6 10 nd) l8))))
  (c7 (G0 (Q6 (a7 8) (a8 (t5 hr (a7 5) (a7 10)) a9))))))
  (b8 (m8 4 nd (L5 m6 (a8 (m3 (N:=["party"]) (js:=[none]) (li:=none) rfl (o7 (by exact(.own .nil)) rfl (by exact trivial) (by rfl)) (D5 8) (fun _ _ _ _=>(c6 0 (show((["party"]:List Str)++[accN]).Nodup by decide +kernel))) (fun _ _ _ _=>k6) (fun _ _ _ _=>(g7 G5 hr (a8 (a7 0) a9)))) a9)))
  (b8 (z6 (a2z hr (a7 8) (D1 a9)) (c7 (m8 4 nd m6)) j8)
  (b8 (m8 11 nd (a6Y rfl a4h (a8 (a7 8) a9)))
  (b8 (z6 (M2 (D2 (M0 hr (g7 B7 hr (a8 (a7 11) a9)) (a7 4)) (D2 (M0 hr (g7 B7 hr (a8 (qx_t v6 K4 j6 (a8 (a7 8) a9)) a9)) (a7 4)) (G7 (M0 hr (a7 11) (a7 8)))))) (c7 (g8 X9)) j8)
  (b8 (m8 12 nd (g7 D7 hr (a8 (a7 4) a9)))
  (c7 (z6 (M2 (D2 (C7 (z7 (T4 (T:="tuple") (S6 (by decide)) g6 j6 (a7 12)))) (G7 (M0 hr (a7 12) (qx_t v6 K4 j6 (a8 (a7 8) a9)))))) (c7 (g8 X9)) j8))))))))))))))))
  (c7 (g8 X9)))) ?_
 intro ns hl;obtain⟨c0,e0⟩:=O5 ns 0 hl (by walk_at "o")
 rw[show((0:Nat):Int)=0 from rfl] at e0;obtain⟨ms,cd,ml⟩:∃ms:List Int,cutD (ns.map D.int) (some 1) (some 21)=ms.map .int/\ms.length<=ns.length:=by
  unfold cutD;rw[<-List.map_drop,<-List.map_take];exact⟨_,rfl,zG (List.length_take_le' _ _) (by rw[length_drop];walk_at "o")⟩
 have ll:1+ms.length<=1000000:=by walk_at "o"
 repeat(first|walk_at "z r" | simp only[e0,cd,zC,ll,jG])
 generalize el:loopF _ _ _=r;refine a2g el (fun _ ρ=>∃x1 x2 x3 x4 x5 x6 x7 x8 x9 x10 x11 x12:Option W,ρ=[some (.v (.lst (ns.map .int))),x1,x2,x3,x4,x5,x6,x7,x8,x9,x10,x11,x12]/\freeO x1=true/\freeO x2=true/\freeO x3=true/\freeO x4=true/\freeO x5=true/\freeO x6=true/\freeO x7=true/\freeO x8=true/\freeO x9=true/\freeO x10=true/\freeO x11=true/\freeO x12=true) ⟨none,none,none,none,none,none,none,none,none,none,none,none,rfl,rfl,rfl,rfl,rfl,rfl,rfl,rfl,rfl,rfl,rfl,rfl,rfl⟩ ?_ ?_
 ·rintro d x _ hx _ ⟨x1,x2,x3,x4,x5,x6,x7,x8,x9,x10,x11,x12,rfl,f1,f2,f3,f4,f5,f6,f7,f8,f9,f10,f11,f12⟩;obtain⟨c,rfl⟩:∃c:Int,x= .int c:=by
   rcases zN.mp hx with rfl|hx
   ·exact⟨_,rfl⟩
   ·obtain⟨c,_,rfl⟩:=a7D hx;exact⟨c,rfl⟩
  obtain⟨m0,e1⟩:=N6 c;obtain⟨n,m1,ts,hr,_,e2⟩:=T1 m0 8 (by decide) (by decide)
  have hw:=hr.wk;have hl55:=hw.len;have hn8:=hw.n;have e3:=U5 n ts hw;have e4:=S7 n ts hr;have e5:=F8 n ts hr.ok;have hs:gStrD (.int n)=some (.v (.str (numS n))):=by
   show(if _ then _ else _)=_;rw[if_pos];exact zF (show n.natAbs<2^200 from Nat.lt_of_le_of_lt (show n.natAbs<=8 by walk_at "o") (by decide)) (qU (by decide) (by decide))
  have ln:=R0 (i:=n) (by walk_at "o") (by walk_at "o")
  have l4:(Str.ofString "web ").length=4:=rfl;have b4:(4+(numS n).length<=1000000)=True:=eq_true (by walk_at "o")
  have em:(ts.map tieD).map tsD=(ts.map tS).map D.str:=by rw[zV,zV];rfl
  have mj:=X2 (y:=Str.ofString " ") (ws:=(Str.ofString "web " ++ numS n)::ts.map tS) (by decide) (by simp;walk_at "o") (fun w hw'=>by
   rcases zN.mp hw' with rfl|hw'
   ·rw[jA];show 4+(numS n).length<=200;walk_at "o"
   ·exact wk_w hw w (zH _ (zH _ hw')))
  rw[a6V,show Txt.join (Str.ofString " ") (Str.ofString "web" :: numS n::ts.map tS)=wS n ts from rfl,zJ] at mj;have l1:1+((ts.map tS).map D.str).length<=1000000:=by rw[zC,zC];walk_at "o"
  have is1:∀x:Str,oIsi "str" (.str x)=some (.v (.bl true)):=fun x=>a6S (d:=.str x) rfl;have it1:∀xs:List D,oIsi "tuple" (.tup xs)=some (.v (.bl true)):=fun xs=>a1f (d:=.tup xs) rfl;have bs:∀x:Str,(x==x)=true:=fun x=>by simp
  have dt:=a3v 17 ts;have di:=a4Y 19 n;have dm:=r_dm (m:=m1) (n:=8) (o8 (by decide) (by decide))
  obtain⟨T,hT0,hT1,aT⟩:∃T:Int,0<T/\T<=101/\atI [D.int 10,.int 101] (if(m1%8==3)=true then 1 else 0)=some (.int T):=by
   cases(m1%8==3) with
   | true=>exact⟨101,by decide,by decide,rfl⟩
   | false=>exact⟨10,by decide,by decide,rfl⟩
  have dT:=r_dm (m:=m1/8) (n:=T) (o8 hT0 (by walk_at "o"))
  have t0:=qS (m1/8) (b:=T) (by walk_at "o")
  have t1:=qJ (m1/8) hT0;have rT:(-(2^62:Int)<=m1/8%T/\m1/8%T<2^62):=by walk_at "o"
  obtain⟨pl,pne⟩:=a3l hr.ok;obtain⟨K0,eK⟩:∃K0,sortK (parK n ts)=K0:=⟨_,rfl⟩;have hK:∀k∈K0,PkOk k:=fun k hk=>b1j hr ((w8 _).mem_iff.mp (eK▸hk));have hKl:0<K0.length/\K0.length<=63:=by
   have e:=(w8 (parK n ts)).length_eq;rw[eK] at e;have h1:[0]∈parK n ts:=List.mem_append_left _ (qA.mpr ⟨0,mem_range.mpr (by walk_at "o"),rfl⟩)
   have:=List.length_pos_of_mem h1
   walk_at "o"
  rw[eK] at e5;have lK:=W3 K0;rw[show webD n ts= .tup [.int n,.tup (ts.map tieD)] from rfl] at e2 e3 e4 e5
  repeat(first|walk_at "z r" | simp only[f1,f2,f3,f4,f5,f6,f7,f8,f9,f10,f11,f12,e1,e2,hs,l4,b4])
  rw[j5 (ρ1:=[some (.v (.lst (ns.map .int))),some (.v (.int c)),some (.v (.tup [.int n,.tup (ts.map tieD)])),some (.v (.int m1)),x4,x5,x6,x7,x8,x9,x10,x11,x12]) (xs:=ts.map tieD) (fun B=>∃o1:Option D,B=[o1.map .v]) (fun _=>true) tsD]
  ·rw[c9,em]
   repeat(first|walk_at "z r" | simp only[f1,f2,f3,f4,f5,f6,f7,f8,f9,f10,f11,f12,mj,l1,e3,e4,e5,is1,it1,bs,dt,di,dm,aT,dT,rT,lK])
   generalize el2:loopF _ _ _=r2;refine a0N el2 (fun i ρ=>∃(rs:List (List Int)) (num:Int) (o1 o2:Option W),(rs.length=i/\(∀k∈rs,PkOk k)/\freeO o1=true/\freeO o2=true)/\ρ=[some (.v (.lst (ns.map .int))),some (.v (.int c)),some (.v (.tup [.int n,.tup (ts.map tieD)])),some (.v (.int num)),some (.v (.str (wS n ts))),some (.o (.lst (K0.map tupI))),some (.v (.int (m1%8))),some (.v (.int (m1/8%T))),some (.o (.lst (rs.map tupI))),o1,o2,x11,x12]) ⟨[],_,x9,x10,⟨rfl,(fun _ h=>nomatch h),f9,f10⟩,rfl⟩ ?_ ?_
   ·rintro i x _ hx ⟨rs,num,o1,o2,⟨hl2,hp,g1,g2⟩,rfl⟩;obtain⟨rfl,hi⟩:=a21 hx;have dk:=r_dm (m:=num) (n:=(K0.length:Int)) (o8 (by walk_at "o") (by walk_at "o"))
    have j0:=qS num (b:=(K0.length:Int)) (by walk_at "o")
    have j1:=qJ num (b:=(K0.length:Int)) (by walk_at "o")
    obtain⟨k,ek,hk⟩:∃k,atI (K0.map tupI) (num%(K0.length:Int))=some (tupI k)/\PkOk k:=by
     obtain⟨j,ej⟩:=Int.eq_ofNat_of_zero_le j0;have hj:j<K0.length:=by walk_at "o"
     refine⟨K0[j],?_,hK _ (List.getElem_mem hj)⟩;rw[ej];exact u4 (by rw[qF,List.getElem?_eq_getElem hj];rfl)
    have lb:(rs.map tupI).length<1000000:=by rw[zC];walk_at "o"
    have lb2:rs.length<1000000:=by walk_at "o"
    have kb:K0.length<=1000000:=by walk_at "o"
    refine⟨_,?_,rs++[k],num/(K0.length:Int),some (.v (.int (0+(i:Int)))),some (.v (.int (num%(K0.length:Int)))),⟨by simp[hl2],fun q hm=>?_,rfl,rfl⟩,rfl⟩
    ·repeat(first|walk_at "z r" | simp only[g1,g2,dk,ek,lb,lb2,kb,zC,jJ])
    ·rcases qY.mp hm with hm|hm
     ·exact hp q hm
     ·rw[qB.mp hm];exact hk
   ·rintro _ rfl ⟨rs,num,o1,o2,⟨hl2,hp,g1,g2⟩,rfl⟩;rw[Y7] at hl2;have hrl:rs.length<=100:=by walk_at "o"
    obtain⟨er1,er2⟩:=F1 rs hrl hp;have e6:=E9 rs hrl hp;have em2:(rs.map tupI).map ptD=(rs.map pS).map D.str:=by
     rw[zV,zV];exact qM fun k _=>a4C k
    have mj2:=X2 (y:=Str.ofString " ") (ws:=rs.map pS) (by decide) (by rw[zC];exact hrl) (fun w hw=>by obtain⟨p,h,rfl⟩:=j4 hw;exact zG (T2 (hp p h)) (by decide))
    have dq2:deqL (deq 19) (rs.map tupI) (rs.map tupI)=some true:=a3Y 18 rs;have lr:=W3 rs;have lm:(rs.map tupI).length<=1000000:=by rw[zC];walk_at "o"
    repeat(first|walk_at "z r" | simp only[g1,g2])
    rw[j5 (ρ1:=[some (.v (.lst (ns.map .int))),some (.v (.int c)),some (.v (.tup [.int n,.tup (ts.map tieD)])),some (.v (.int num)),some (.v (.str (wS n ts))),some (.o (.lst (K0.map tupI))),some (.v (.int (m1%8))),some (.v (.int (m1/8%T))),some (.o (.lst (rs.map tupI))),o1,o2,x11,x12]) (xs:=rs.map tupI) (fun B=>∃o1:Option D,B=[o1.map .v]) (fun _=>true) ptD]
    ·rw[c9,em2]
     by_cases hz:rs=[]
     ·have d0:deqL (deq 19) (rs.map tupI) []=some true:=by rw[hz];rfl
      have er:rowS (rs.map pS)=Str.ofString ".":=by rw[hz];rfl
      rw[er] at er1 er2 e6;refine⟨?_,?_,?_⟩
      rotate_left
      ·repeat(first|walk_at "z r" | simp only[f11,f12,mj2,d0,er1,er2,e6,dq2,lr,lm,bs,it1])
       rfl
      ·exact⟨_,_,_,_,_,_,_,_,_,_,_,_,rfl,rfl,rfl,rfl,rfl,rfl,rfl,rfl,rfl,g1,g2,rfl,rfl⟩
     ·have d0:deqL (deq 19) (rs.map tupI) []=some false:=by
       cases rs with
       | nil=>exact absurd rfl hz
       | cons p ps=>rfl
      have er:Txt.join (Str.ofString " ") (rs.map pS)=rowS (rs.map pS):=(if_neg fun z=>hz (List.map_eq_nil_iff.mp z)).symm;rw[er] at mj2;refine⟨?_,?_,?_⟩
      rotate_left
      ·repeat(first|walk_at "z r" | simp only[f11,f12,mj2,d0,er1,er2,e6,dq2,lr,lm,bs,it1])
       rfl
      ·exact⟨_,_,_,_,_,_,_,_,_,_,_,_,rfl,rfl,rfl,rfl,rfl,rfl,rfl,rfl,rfl,g1,g2,rfl,rfl⟩
    ·repeat(first|walk_at "z r" | simp only[lr])
    ·rintro _ ⟨_,rfl⟩;rfl
    ·exact⟨none,rfl⟩
    ·unfold lim;exact lm
    ·rw[c9,em2];exact C2 _
    ·rintro x hx _ zs ⟨o1,rfl⟩;obtain⟨k,h,rfl⟩:=j4 hx;have e:=G1 k (hp k h);refine⟨[some (.v (tupI k))],.v (.str (pS k)),⟨some _,rfl⟩,?_,rfl,fun _=>⟨?_,.inl (qN W.v (a4C k).symm)⟩⟩
     ·walk_at "q"
     ·repeat(first|walk_at "z r" | simp only[e])
  ·walk_at "q"
  ·rintro _ ⟨_,rfl⟩;rfl
  ·exact⟨none,rfl⟩
  ·rw[zC];unfold lim;walk_at "o"
  ·rw[c9,em];exact C2 _
  ·rintro x hx _ zs ⟨o1,rfl⟩;obtain⟨t,ht,rfl⟩:=j4 hx;have hto:=hw.t t ht;have e:=G1 (key2 t) hto.k;have hs:gStrD (.int t.2.2)=some (.v (.str (numS t.2.2))):=by
    show(if _ then _ else _)=_;rw[if_pos];exact zF hto.num (zG (by decide:(10:Nat)^60<=2^200) (qU (by decide) (by decide)))
   have h1:=T2 hto.k;have h2:=R0 (by have:=hto.g;walk_at "o") hto.num
   have ls:(Str.ofString ":").length=1:=rfl;have lq:(pS (key2 t)++Str.ofString ":").length=(pS (key2 t)).length+1:=jA _ _;have b0:((pS (key2 t)).length+1<=1000000)=True:=eq_true (by walk_at "o")
   have b1:((pS (key2 t)).length+1+(numS t.2.2).length<=1000000)=True:=eq_true (by walk_at "o")
   have e3:pS (key2 t)++Str.ofString ":" ++ numS t.2.2=tS t:=rfl;rw[show tupI (key2 t)= .tup [.int t.1,.int t.2.1] from rfl] at e;refine⟨[some (.v (tieD t))],.v (.str (tS t)),⟨some _,rfl⟩,?_,rfl,fun _=>⟨?_,.inl rfl⟩⟩
   ·walk_at "q"
   ·rw[show tieD t= .tup [.int t.1,.int t.2.1,.int t.2.2] from rfl]
    repeat(first|walk_at "z r" | simp only[a4z,e,hs,ls,lq,b0,b1,e3])
 ·rintro _ rfl ⟨x1,x2,x3,x4,x5,x6,x7,x8,x9,x10,x11,x12,rfl,_⟩;walk_at "q"
end
end Q78
namespace Q78
open PySem PySem.Spec PyProof.Rows L2 Z
structure DI (K:PySem.W.Frag) (x:Str) (st:Stmt) (f:Addr) (fd:FuncData):Prop where
 a:PySem.W.nsIn K mainGlobals x=some (some (.ref f))
 F:Fun K x x st f fd
theorem DI.mk2 {K:PySem.W.Frag}{x:Str}{st:Stmt}{f:Addr}{od an:Option Addr}{sl:Array (Option Value)}{oc kV dc pm cd ct:Value}(a:PySem.W.nsIn K mainGlobals x=some (some (.ref f)))(l:K.lookup f=some ⟨oc,od,.func (PySem.W.fnOf x x (defArgs st) (defBody st) (defScope st) .none kV dc pm an cd ct),sl⟩)(c:PySem.W.codeIn K cd x=true)(k:PySem.W.keepIn K (.ref f)=true):DI K x st f (PySem.W.fnOf x x (defArgs st) (defBody st) (defScope st) .none kV dc pm an cd ct):=⟨a,a6H l c k⟩
section
variable {P:Program}{w:World}{K:PySem.W.Frag}{mg:Str->Option Value}{base:Heap}{x:Str}{j k:Nat}
theorem _root_.Z.FnS.up {sp:Sp}(F:FnS P w K mg base x j sp)(h:j<=k:=by decide):FnS P w K mg base x k sp:=F.mono h
end
theorem b16 {l:PySem.W.OpenLaw}{w:World}{K:PySem.W.Frag}{h:Heap}{mg:Str->Option Value}{fa f1 f2 f3 f4 f5 f6 f7 f8 f9 f10 f11 f12 f13 f14 f15 f16 f17 f18 f19 f20 f21 f22 f23 f24 f25 f26 f27 f28:Addr}{d1 d2 d3 d4 d5 d6 d7 d8 d9 d10 d11 d12 d13 d14 d15 d16 d17 d18 d19 d20 d21 d22 d23 d24 d25 d26 d27:FuncData}(X:K.In h)(G:h.Ns mainGlobals mg)(hfa:mg "law"=some (.ref fa))
  {od an:Option Addr} {sl:Array (Option Value)} {oc kV dc pm cd ct:Value}
  (i1:DI K "_law_web" T7 f1 d1) (i2:DI K "_law_parties" D9 f2 d2) (i3:DI K "number_in" P0 f3 d3) (i4:DI K "is_rising" Q0 f4 d4) (i5:DI K "is_whole" T6 f5 d5) (i6:DI K "is_person" O7 f6 d6) (i7:DI K "party_in" S2 f7 d7) (i8:DI K "must_be_read" F9 f8 d8) (i9:DI K "must_be_text" D6 f9 d9) (i10:DI K "row_words" O1 f10 d10) (i11:DI K "read_parties" E8 f11 d11) (i12:DI K "_law_cell" N2 f12 d12) (i13:DI K "_law_deal" P6 f13 d13) (i14:DI K "number_text" G8 f14 d14) (i15:DI K "party_text" L4 f15 d15) (i16:DI K "tie_text" U6 f16 d16) (i17:DI K "web_text" S0 f17 d17) (i18:DI K "is_row" a1H f18 d18) (i19:DI K "is_people" P4 f19 d19) (i20:DI K "is_triple" P3 f20 d20) (i21:DI K "is_web" a1E f21 d21) (i22:DI K "tie_in" a1k f22 d22) (i23:DI K "web_in" a1b f23 d23) (i24:DI K "read_web" S3 f24 d24) (i25:DI K "_law_word" N5 f25 d25) (i26:DI K "row_text" S8 f26 d26) (i27:DI K "parties_text" F5 f27 d27)
  (a:PySem.W.nsIn K mainGlobals "law"=some (some (.ref f28))) (ll:K.lookup f28=some ⟨oc,od,.func (PySem.W.fnOf "law" "law" (defArgs V8) (defBody V8) (defScope V8) .none kV dc pm an cd ct),sl⟩) (c:PySem.W.codeIn K cd "law"=true) (k:PySem.W.keepIn K (.ref f28)=true)
  (y1:PySem.W.nsIn K mainGlobals "divmod"=some none) (y2:PySem.W.nsIn K mainGlobals "range"=some none) (y3:PySem.W.nsIn K mainGlobals "tuple"=some none) (y4:PySem.W.nsIn K mainGlobals "min"=some none) (y5:PySem.W.nsIn K mainGlobals "max"=some none) (y6:PySem.W.nsIn K mainGlobals "sorted"=some none) (y7:PySem.W.nsIn K mainGlobals "int"=some none) (y8:PySem.W.nsIn K mainGlobals "len"=some none) (y9:PySem.W.nsIn K mainGlobals "all"=some none) (y10:PySem.W.nsIn K mainGlobals "zip"=some none) (y11:PySem.W.nsIn K mainGlobals "isinstance"=some none) (y12:PySem.W.nsIn K mainGlobals "bool"=some none) (y13:PySem.W.nsIn K mainGlobals "str"=some none) (y14:PySem.W.nsIn K mainGlobals "abs"=some none) (y15:PySem.W.nsIn K mainGlobals "list"=some none) {gt1:Tok} (n1:PySem.W.nsIn K mainGlobals "MOST_FIGURES"=some (some (.int (60) gt1))) {gt2:Tok} (n2:PySem.W.nsIn K mainGlobals "FIGURES"=some (some (.str (Str.ofString "0123456789") gt2))) {gt3:Tok} (n3:PySem.W.nsIn K mainGlobals "MOST_PEOPLE"=some (some (.int (8) gt3))) {gt4:Tok} (n4:PySem.W.nsIn K mainGlobals "MOST_THINGS"=some (some (.int (100) gt4))) {gt5:Tok} (n5:PySem.W.nsIn K mainGlobals "NONE"=some (some (.str (Str.ofString ".") gt5))) {gt6:Tok} (n6:PySem.W.nsIn K mainGlobals "PIECE"=some (some (.int (1000000000000000000000000000000000000000000000000000000000000) gt6))) {gt7:Tok} (n7:PySem.W.nsIn K mainGlobals "MOST_GAIN"=some (some (.int (1000000000000) gt7))):
  ∃fd:FuncData,(∀(s:Shared) (v:Value),BindsTo s fd ⟨[v],[]⟩ [("script",v)])/\∀base:Heap,K.In base->base.Ns mainGlobals mg->FnOk l.prog w K mg base CX0 60 fa fd ["script"] (spLaw K):=by
 cases hfa.symm.trans (zK X G a);have m5:=zX X G y1;have o9:=zX X G y2;have j6:=zX X G y3;have m_min:=zX X G y4;have m_max:=zX X G y5;have K6:=zX X G y6;have m_int:=zX X G y7;have m_len:=zX X G y8;have m_all:=zX X G y9;have m_zip:=zX X G y10;have g6:=zX X G y11;have a4p:=zX X G y12;have m_str:=zX X G y13;have m_abs:=zX X G y14;have a4h:=zX X G y15;have D8:Q1 mg K:=⟨_,zK X G n1⟩;have Z2:a2o mg K:=⟨_,zK X G n2⟩;have v5:G9 mg K:=⟨_,zK X G n3⟩;have I0:R9 mg K:=⟨_,zK X G n4⟩;have Y8:a4x mg K:=⟨_,zK X G n5⟩;have a0P:a5A mg K:=⟨_,zK X G n6⟩;have N9:a0C mg K:=⟨_,zK X G n7⟩;refine⟨PySem.W.fnOf "law" "law" (defArgs V8) (defBody V8) (defScope V8) .none kV dc pm an cd ct,fun s v=>.of_eq rfl,fun base _ _=>?_⟩;obtain⟨T3,U8,T1⟩:=a3g (P:=l.prog) (w:=w) (base:=base) (k:=0) m5 o9 j6 m_min m_max K6 i1.F (i1.F.binds (ps:=["number","most"]) fun _ _ _ _ _ _ us hl=>us2 hl fun _ _=>rfl) (zK X G i1.a);obtain⟨E6,E3,F8⟩:=a0E (P:=l.prog) (w:=w) (base:=base) (k:=0) K6 o9 i2.F (i2.F.binds (ps:=["web"]) fun _ _ _ _ _ _ us hl=>us1 hl fun _=>rfl) (zK X G i2.a);obtain⟨j7,n9,m4⟩:=a2V (P:=l.prog) (w:=w) (base:=base) (k:=0) m_int m_len m_all D8 Z2 i3.F (i3.F.binds (ps:=["text"]) fun _ _ _ _ _ _ us hl=>us1 hl fun _=>rfl) (zK X G i3.a);obtain⟨B3,A7,A9⟩:=a2K (P:=l.prog) (w:=w) (base:=base) (k:=0) m_all m_zip i4.F (i4.F.binds (ps:=["row"]) fun _ _ _ _ _ _ us hl=>us1 hl fun _=>rfl) (zK X G i4.a);obtain⟨u7,u5,t8⟩:=a31 (P:=l.prog) (w:=w) (base:=base) (k:=0) g6 m_int a4p i5.F (i5.F.binds (ps:=["thing"]) fun _ _ _ _ _ _ us hl=>us1 hl fun _=>rfl) (zK X G i5.a);obtain⟨A8,w9,w6⟩:=a29 (P:=l.prog) (w:=w) (base:=base) (k:=1) u5.up t8 i6.F (i6.F.binds (ps:=["people","thing"]) fun _ _ _ _ _ _ us hl=>us2 hl fun _ _=>rfl) (zK X G i6.a);obtain⟨v3,C5,A3⟩:=a35 (P:=l.prog) (w:=w) (base:=base) (k:=2) n9.up m4 A7.up A9 w9.up w6 j6 m_len m_all v5 i7.F (i7.F.binds (ps:=["text"]) fun _ _ _ _ _ _ us hl=>us1 hl fun _=>rfl) (zK X G i7.a);obtain⟨p0,p9,p8⟩:=a0I (P:=l.prog) (w:=w) (base:=base) (k:=0) i8.F (i8.F.binds (ps:=["thing"]) fun _ _ _ _ _ _ us hl=>us1 hl fun _=>rfl) (zK X G i8.a);obtain⟨t3,s0,r0⟩:=a0H (P:=l.prog) (w:=w) (base:=base) (k:=0) g6 m_str i9.F (i9.F.binds (ps:=["thing"]) fun _ _ _ _ _ _ us hl=>us1 hl fun _=>rfl) (zK X G i9.a);obtain⟨N8,N7,O6⟩:=a3b (P:=l.prog) (w:=w) (base:=base) (k:=1) s0.up r0 m_len I0 Y8 i10.F (i10.F.binds (ps:=["thing"]) fun _ _ _ _ _ _ us hl=>us1 hl fun _=>rfl) (zK X G i10.a);obtain⟨E7,D7,E9⟩:=a0G (P:=l.prog) (w:=w) (base:=base) (k:=3) C5.up A3 p9.up p8 N7.up O6 j6 i11.F (i11.F.binds (ps:=["thing"]) fun _ _ _ _ _ _ us hl=>us1 hl fun _=>rfl) (zK X G i11.a);obtain⟨M8,O2,O5⟩:=a24 (P:=l.prog) (w:=w) (base:=base) (k:=0) m_len i12.F (i12.F.binds (ps:=["script","k"]) fun _ _ _ _ _ _ us hl=>us2 hl fun _ _=>rfl) (zK X G i12.a);obtain⟨O9,O8,N6⟩:=a26 (P:=l.prog) (w:=w) (base:=base) (k:=0) o9 i13.F (i13.F.binds (ps:=["cell","salt"]) fun _ _ _ _ _ _ us hl=>us2 hl fun _ _=>rfl) (zK X G i13.a);obtain⟨k7,k5,j9⟩:=a1r (P:=l.prog) (w:=w) (base:=base) (k:=0) m_abs m_str a0P i14.F (i14.F.binds (ps:=["number"]) fun _ _ _ _ _ _ us hl=>us1 hl fun _=>rfl) (zK X G i14.a);obtain⟨z5,z4,u6⟩:=a1R (P:=l.prog) (w:=w) (base:=base) (k:=1) k5.up j9 i15.F (i15.F.binds (ps:=["party"]) fun _ _ _ _ _ _ us hl=>us1 hl fun _=>rfl) (zK X G i15.a);obtain⟨U9,U0,U2⟩:=a3X (P:=l.prog) (w:=w) (base:=base) (k:=2) z4.up u6 k5.up j9 i16.F (i16.F.binds (ps:=["tie"]) fun _ _ _ _ _ _ us hl=>us1 hl fun _=>rfl) (zK X G i16.a);obtain⟨U3,T9,U5⟩:=a3G (P:=l.prog) (w:=w) (base:=base) (k:=3) k5.up j9 U0.up U2 i17.F (i17.F.binds (ps:=["web"]) fun _ _ _ _ _ _ us hl=>us1 hl fun _=>rfl) (zK X G i17.a);obtain⟨J7,K5,K2⟩:=a6v (P:=l.prog) (w:=w) (base:=base) (k:=0) g6 j6 m_len i18.F (i18.F.binds (ps:=["thing","count"]) fun _ _ _ _ _ _ us hl=>us2 hl fun _ _=>rfl) (zK X G i18.a);obtain⟨M9,M7,O3⟩:=a2J (P:=l.prog) (w:=w) (base:=base) (k:=1) u5.up t8 v5 i19.F (i19.F.binds (ps:=["thing"]) fun _ _ _ _ _ _ us hl=>us1 hl fun _=>rfl) (zK X G i19.a);obtain⟨P5,M6,Q2⟩:=a2Y (P:=l.prog) (w:=w) (base:=base) (k:=2) K5.up K2 u5.up t8 w9.up w6 N9 i20.F (i20.F.binds (ps:=["people","thing"]) fun _ _ _ _ _ _ us hl=>us2 hl fun _ _=>rfl) (zK X G i20.a);obtain⟨a1L,a0V,a1g⟩:=a5U (P:=l.prog) (w:=w) (base:=base) (k:=3) A7.up A9 K5.up K2 M7.up O3 M6.up Q2 m_all g6 j6 i21.F (i21.F.binds (ps:=["thing"]) fun _ _ _ _ _ _ us hl=>us1 hl fun _=>rfl) (zK X G i21.a);obtain⟨J4,a0X,X7⟩:=a5P (P:=l.prog) (w:=w) (base:=base) (k:=3) C5.up A3 n9.up m4 m_len i22.F (i22.F.binds (ps:=["text"]) fun _ _ _ _ _ _ us hl=>us1 hl fun _=>rfl) (zK X G i22.a);obtain⟨a1u,a02,a1i⟩:=a5L (P:=l.prog) (w:=w) (base:=base) (k:=4) n9.up m4 a0V.up a1g a0X.up X7 j6 m_len i23.F (i23.F.binds (ps:=["text"]) fun _ _ _ _ _ _ us hl=>us1 hl fun _=>rfl) (zK X G i23.a);obtain⟨S5,L6,S7⟩:=a36 (P:=l.prog) (w:=w) (base:=base) (k:=5) s0.up r0 a02.up a1i p9.up p8 i24.F (i24.F.binds (ps:=["thing"]) fun _ _ _ _ _ _ us hl=>us1 hl fun _=>rfl) (zK X G i24.a);obtain⟨O4,G5,G1⟩:=a2W (P:=l.prog) (w:=w) (base:=base) (k:=0) m_str i25.F (i25.F.binds (ps:=["party"]) fun _ _ _ _ _ _ us hl=>us1 hl fun _=>rfl) (zK X G i25.a);obtain⟨S1,T0,U4⟩:=a3o (P:=l.prog) (w:=w) (base:=base) (k:=0) Y8 i26.F (i26.F.binds (ps:=["words"]) fun _ _ _ _ _ _ us hl=>us1 hl fun _=>rfl) (zK X G i26.a);obtain⟨E5,B7,F1⟩:=a0F (P:=l.prog) (w:=w) (base:=base) (k:=2) T0.up U4 z4.up u6 i27.F (i27.F.binds (ps:=["some"]) fun _ _ _ _ _ _ us hl=>us1 hl fun _=>rfl) (zK X G i27.a);exact b15 (P:=l.prog) (w:=w) (base:=base) (k:=59) U8.up T1 E3.up F8 D7.up E9 O2.up O5 O8.up N6 T9.up U5 L6.up S7 G5.up G1 B7.up F1 m5 o9 a4h g6 j6 m_int m_len m_str (a6H (st:=V8) ll c k)
end Q78
open PySem PySem.W PyProof.Rows
set_option maxRecDepth 100000 in
set_option maxHeartbeats 0 in
theorem PySem.Challenge.cw_twainhoard_k78_parties_and_webs_written_holds : PySem.Challenge.rw_twainhoard_k78_parties_and_webs_written.Holds := by
 w_on;o_law;k_head;(case hw=>w_witness2)
 k_fill
 refine Z.walk (l:=PySem.Challenge.rw_twainhoard_k78_parties_and_webs_written) rfl rfl (fun w h Y=>PySem.W.kIn_of Y) ?F
 case F=>
  intro w mg fa h KX G hmg
  refine' Q78.b16 KX G hmg (Q78.DI.mk2 ?_ ?_ ?_ ?_) (Q78.DI.mk2 ?_ ?_ ?_ ?_) (Q78.DI.mk2 ?_ ?_ ?_ ?_) (Q78.DI.mk2 ?_ ?_ ?_ ?_) (Q78.DI.mk2 ?_ ?_ ?_ ?_) (Q78.DI.mk2 ?_ ?_ ?_ ?_) (Q78.DI.mk2 ?_ ?_ ?_ ?_) (Q78.DI.mk2 ?_ ?_ ?_ ?_) (Q78.DI.mk2 ?_ ?_ ?_ ?_) (Q78.DI.mk2 ?_ ?_ ?_ ?_) (Q78.DI.mk2 ?_ ?_ ?_ ?_) (Q78.DI.mk2 ?_ ?_ ?_ ?_) (Q78.DI.mk2 ?_ ?_ ?_ ?_) (Q78.DI.mk2 ?_ ?_ ?_ ?_) (Q78.DI.mk2 ?_ ?_ ?_ ?_) (Q78.DI.mk2 ?_ ?_ ?_ ?_) (Q78.DI.mk2 ?_ ?_ ?_ ?_) (Q78.DI.mk2 ?_ ?_ ?_ ?_) (Q78.DI.mk2 ?_ ?_ ?_ ?_) (Q78.DI.mk2 ?_ ?_ ?_ ?_) (Q78.DI.mk2 ?_ ?_ ?_ ?_) (Q78.DI.mk2 ?_ ?_ ?_ ?_) (Q78.DI.mk2 ?_ ?_ ?_ ?_) (Q78.DI.mk2 ?_ ?_ ?_ ?_) (Q78.DI.mk2 ?_ ?_ ?_ ?_) (Q78.DI.mk2 ?_ ?_ ?_ ?_) (Q78.DI.mk2 ?_ ?_ ?_ ?_) ?_ ?_ ?_ ?_ ?_ ?_ ?_ ?_ ?_ ?_ ?_ ?_ ?_ ?_ ?_ ?_ ?_ ?_ ?_ ?_ ?_ ?_ ?_ ?_ ?_ ?_
  all_goals try k_is
