import PyProof.Rows.All
import Wide.All
import OpenK.AllK
import Wide.FinOn
import Lean
import PyProof.EqAt
import PyProof.EqKinds
import PyProof.TupleCall
import PyProof.CompUse
import PyProof.SumWalkG
import KE.KSort
import PyProof.EnumMake
import PyProof.Rows.ZipGen
import PyProof.Rows.RuleDivmod
import PyProof.ListRange
import KE.KDictSum
import KE.KSortTup
import PyProof.DictCompW
import PyProof.ListMulAny
import PyProof.ReprRoads
import PyProof.FitsInt
import PySem.Challenge.RW_twainhoard_k13_sharings_known
set_option Elab.async false
set_option compiler.extract_closed false
set_option genSizeOf false
set_option genInjectivity false
set_option bootstrap.genMatcherCode false
set_option linter.all false
set_option maxRecDepth 100000
theorem ex5 {α β:Type}{A B C:α->β->Prop}{G:Prop}(h:∃x y,A x y/\B x y/\C x y)(k:∀x y,A x y->B x y->C x y->G):G:=by
 obtain ⟨x,y,a,b,c⟩:=h
 exact k x y a b c
noncomputable section
local macro_rules | `(tactic| walk_at "o") => `(tactic| first | lia | omega)
namespace L2
open PySem PySem.Spec PyProof.Rows
abbrev Key:=Sum Int Str
def keyIs:Key->Value->Bool
 | .inl k,v=>Value.isInt k v
 | .inr x,v=>Value.isStrOf x v
def keyH (w:World):Key->Int
 | .inl k=>hashInt k
 | .inr x=>hashStr w x
theorem v7:∀{k:Key} {v:Value},keyIs k v=true->(∃i t,k=Sum.inl i/\v=Value.int i t)\/(∃x t,k=Sum.inr x/\v=Value.str x t)
 | .inl i,v,h=>by
  obtain ⟨t,e⟩:=Value.isInt_shape (k:=i) (v:=v) h
  exact .inl ⟨i,t,rfl,e⟩
 | .inr x,v,h=>by
  obtain ⟨t,e⟩:=Value.isStrOf_shape (x:=x) (v:=v) h
  exact .inr ⟨x,t,rfl,e⟩
theorem a8h (i:Int)(t:Tok):keyIs (.inl i) (.int i t)=true:=by simp [keyIs,Value.isInt]
theorem a8F (x:Str)(t:Tok):keyIs (.inr x) (.str x t)=true:=by simp [keyIs,Value.isStrOf]
theorem b29 (a b:Int):decide ((Sum.inl a:Key)=Sum.inl b)=(a == b):=by
 by_cases e:a=b
 ·subst e;simp
 ·have h:¬(Sum.inl a:Key)=Sum.inl b:=fun q=>e (Sum.inl.inj q)
  rw [decide_eq_false h]
  exact (beq_eq_false_iff_ne.mpr e).symm
theorem b33 (a b:Str):decide ((Sum.inr a:Key)=Sum.inr b)=decide (a=b):=by
 by_cases e:a=b
 ·subst e;simp
 ·have h:¬(Sum.inr a:Key)=Sum.inr b:=fun q=>e (Sum.inr.inj q)
  rw [decide_eq_false h,decide_eq_false e]
theorem b4e (a:Int)(b:Str):decide ((Sum.inl a:Key)=Sum.inr b)=false:=decide_eq_false (fun q=>nomatch q)
theorem b3z (a:Str)(b:Int):decide ((Sum.inr a:Key)=Sum.inl b)=false:=decide_eq_false (fun q=>nomatch q)
def mixKind (prog:Program) (w:World):PySem.KeyKind prog w Key where
 is:=keyIs
 hash:=keyH w
 inj:=fun v a b ha hb=>by
  rcases v7 ha with ⟨i,t,rfl,rfl⟩ | ⟨x,t,rfl,rfl⟩
  ·rcases v7 hb with ⟨j,u,rfl,e⟩ | ⟨y,u,rfl,e⟩
   ·injection e with e1 _;rw [e1]
   ·exact nomatch e
  ·rcases v7 hb with ⟨j,u,rfl,e⟩ | ⟨y,u,rfl,e⟩
   ·exact nomatch e
   ·injection e with e1 _;rw [e1]
 byValue:=fun k v h=>by
  rcases v7 h with ⟨i,t,rfl,rfl⟩ | ⟨x,t,rfl,rfl⟩ <;> rfl
 pyHash:=fun hv h=>by
  rcases v7 hv with ⟨i,t,rfl,rfl⟩ | ⟨x,t,rfl,rfl⟩
  ·exact wpAny_pyHash_int h
  ·exact wpAny_pyHash_str h
 eqBool:=fun hu hv h=>by
  rcases v7 hu with ⟨i,t,rfl,rfl⟩ | ⟨x,t,rfl,rfl⟩
  ·rcases v7 hv with ⟨j,u,rfl,rfl⟩ | ⟨y,u,rfl,rfl⟩
   ·rw [b29] at h;exact wpAny_eqBool_int h
   ·rw [b4e] at h;exact SeqAt.EqAt.int_str i t y u _ _ _ _ h
  ·rcases v7 hv with ⟨j,u,rfl,rfl⟩ | ⟨y,u,rfl,rfl⟩
   ·rw [b3z] at h;exact SeqAt.EqAt.str_int x t j u _ _ _ _ h
   ·rw [b33] at h;exact wpAny_eqBool_str h
 «strs»:=fun k x t v h=>by
  rcases v7 h with ⟨i,u,rfl,e⟩ | ⟨y,u,rfl,e⟩
  ·exact nomatch e
  ·injection e with e1 _
   subst e1
   cases v <;> rfl
theorem a5D (prog:Program)(w:World)(i:Int)(t:Tok):(mixKind prog w).is (.inl i) (.int i t)=true:=a8h i t
theorem a6a (prog:Program)(w:World)(x:Str)(t:Tok):(mixKind prog w).is (.inr x) (.str x t)=true:=a8F x t
inductive V where
 | non | bl (b:Bool) | int (i:Int) | str (x:Str) | byt (b:Array UInt8) | flt (b:UInt64) | ref (a:Addr) | ty (n:String)
def RelV:V->Value->Prop
 | .non,u=>u=Value.none
 | .bl b,u=>u=Value.bool b
 | .int i,u=>∃t,u=Value.int i t
 | .str x,u=>∃t,u=Value.str x t
 | .byt b,u=>∃t,u=Value.bytes b t
 | .flt b,u=>∃t,u=Value.float b t
 | .ref a,u=>u=Value.ref a
 | .ty n,u=>u=Value.type n
abbrev Vals:List V->List Value->Prop:=Paired RelV
theorem Vals.length {xs:List V}{us:List Value}(r:Vals xs us):xs.length=us.length:=Paired.length r
theorem Vals.get:∀{xs:List V} {us:List Value} {i:Nat} {x:V},Vals xs us->xs[i]? =some x->∃u,us[i]? =some u/\RelV x u
 | _,_,_,_,.nil,e=>by simp at e
 | _,_,0,_,.cons r _,e=>by simp at e;subst e;exact ⟨_,rfl,r⟩
 | _,_,i + 1,x,.cons _ t,e=>by
  obtain ⟨u,h1,h2⟩:=Vals.get (i:=i) (x:=x) t (by simpa using e)
  exact ⟨u,by simpa using h1,h2⟩
theorem Vals.set {x:V}{u:Value}(r:RelV x u):∀{xs:List V} {us:List Value} (i:Nat),Vals xs us->Vals (xs.set i x) (us.set i u)
 | _,_,_,.nil=>.nil
 | _,_,0,.cons _ t=>.cons r t
 | _,_,i + 1,.cons q t=>.cons q (Vals.set r i t)
theorem Vals.append:∀{xs ys:List V} {us ws:List Value},Vals xs us->Vals ys ws->Vals (xs ++ ys) (us ++ ws)
 | _,_,_,_,.nil,s=>s
 | _,_,_,_,.cons r t,s=>.cons r (Vals.append t s)
theorem Vals.take:∀{xs:List V} {us:List Value} (n:Nat),Vals xs us->Vals (xs.take n) (us.take n)
 | _,_,0,_=>.nil
 | _,_,_ + 1,.nil=>.nil
 | _,_,n + 1,.cons r t=>.cons r (Vals.take n t)
theorem Vals.drop:∀{xs:List V} {us:List Value} (n:Nat),Vals xs us->Vals (xs.drop n) (us.drop n)
 | _,_,0,r=>r
 | _,_,_ + 1,.nil=>.nil
 | _,_,n + 1,.cons _ t=>Vals.drop n t
def RelO:Option V->Option Value->Prop
 | some v,some u=>RelV v u
 | none,none=>True
 | _,_=>False
def KV {κ:Type}:List (κ×V)->List (κ×Value)->Prop:=Paired fun (p:κ×V) (q:κ×Value)=>p.1=q.1/\RelV p.2 q.2
def kV:Key->V
 | .inl i=>.int i
 | .inr x=>.str x
inductive HO where
 | lst (xs:List V)
 | tup (xs:List V)
 | dK (kvs:List (Key×V)) | dT (kvs:List (List Key×V))
 | set (S:Int->Bool) (n:Nat)
 | ins (C dx:Addr) (fs:List (Str×V))
 | own (x:Addr)
 | xd (fs:List (Str×V))
 | met (f x:Addr)
 | rng (lo hi:Int)
 | frz (o:Obj) (u:HO)
 | tbl (ps:Array Value)
 | ext (φ:Heap->Prop)
abbrev Hp:=Addr->Option HO
def upd (H:Hp) (a:Addr) (o:HO):Hp:=fun b=>if b=a then some o else H b
theorem m5 {H:Hp}{a:Addr}{o:HO}:upd H a o a=some o:=by unfold upd;rw [if_pos rfl]
theorem g7 {H:Hp}{a b:Addr}{o:HO}(h:b≠a):upd H a o b=H b:=by unfold upd;rw [if_neg h]
theorem b2o {H:Hp}{a b:Addr}{o u:HO}(h:H a=some o)(h':H b=some u)(d:o≠u):a≠b:=by
 intro e;subst e;rw [h] at h';exact d (Option.some.inj h')
theorem l6 {H:Hp}{a b:Addr}{o:HO}(h:H a=some o)(h':H b=none):a≠b:=by
 intro e;subst e;rw [h] at h';cases h'
def TupN (h:Heap) (a:Addr) (its:Array Value):Prop:=∃o,h.get? a=some o/\o.cls= .type "tuple"/\(∃n,o.data= .seq its n)/\o.dict=none
theorem TupN.is {h:Heap}{a:Addr}{its:Array Value}(x:TupN h a its):IsTup h a its:=let ⟨o,e,c,d,_⟩:=x;⟨o,e,c,d⟩
theorem TupN.new (h:Heap)(its:Array Value):TupN (h.push {cls:=.type "tuple",data:=.seq its}) h.objs.size its:=⟨_,Heap.get?_push_size _ rfl,rfl,⟨_,rfl⟩,rfl⟩
section
variable (P:Program)(w:World)
def ObjOk (H:Hp) (h:Heap) (a:Addr):HO->Prop
 | .lst xs=>xs.length<=sizeLine/\∃(its:List Value) (n:Nat),Vals xs its/\h.get? a=some {cls:=.type "list",data:=.seq its.toArray n}
 | .tup xs=>xs.length<=sizeLine/\∃its:List Value,Vals xs its/\TupN h a its.toArray
 | .dK kvs=>kvs.length<=sizeLine/\(a == sysModules)=false/\∃vs,KV kvs vs/\h.DictOf (mixKind P w) a vs
 | .dT kvs=>kvs.length<=sizeLine/\(a == sysModules)=false/\∃xs:List (List Key×Addr×Value),
   Paired (fun (p:List Key×V) (q:List Key×Addr×Value)=>p.1=q.1/\H q.2.1=some (.tup (p.1.map kV))/\RelV p.2 q.2.2) kvs xs/\
   ∃o es ep,h.get? a=some o/\o.ExactDict/\o.data= .dict es ep/\es.toList=xs.map (entryOfKey (tupleKind (mixKind P w)))/\(xs.map (·.1)).Nodup
 | .set S n=>h.SetOf (intKind P w) a S n
 | .ins C dx fs=>H dx=some (.own a)/\fs.length<=1000/\dx≠a/\h.get? a=some (PySem.W.instObj C dx)/\
   ∃mA,h.Ns1 dx mA/\(∀f,RelO (fs.lookup f) (mA f))/\PySem.Within mA (fs.map (·.1))
 | .own _=>∃o,h.get? a=some o
 | .xd fs=>∃mA,h.Ns1 a mA/\∀f,RelO (fs.lookup f) (mA f)
 | .rng lo hi=>∃t u v,h.get? a=some {cls:=.type "range",data:=.fields #[.int lo t,.int hi u,.int 1 v]}
 | .frz o u=>h.get? a=some o/\ObjOk H h a u
 | .tbl ps=>h.get? a=some {cls:=.none,data:=.fields ps}
 | .met f x=>h.get? a=some (PySem.W.methodObj (.ref f) (.ref x))
 | .ext φ=>φ h/\(∃o,h.get? a=some o)/\∀h1 h2:Heap,φ h1->(∀o,h1.get? a=some o->h2.get? a=some o)->φ h2
def HOk (H:Hp) (h:Heap):Prop:=∀a o,H a=some o->ObjOk P w H h a o
end
section
variable {P:Program}{w:World}{H H':Hp}{h h':Heap}{a:Addr}{o:HO}
theorem ObjOk.lt (x:ObjOk P w H h a o):a < h.objs.size:=by
 cases o with
 | lst xs=>obtain ⟨_,_,_,_,e⟩:=x;exact Heap.lt_size e
 | tup xs=>obtain ⟨_,_,_,p⟩:=x;exact p.is.lt
 | dK kvs=>obtain ⟨_,_,_,_,o,_,_,e,_⟩:=x;exact Heap.lt_size e
 | dT kvs=>obtain ⟨_,_,_,_,o,_,_,e,_⟩:=x;exact Heap.lt_size e
 | set S n=>obtain ⟨o,_,_,_,e,_⟩:=x;exact Heap.lt_size e
 | ins C dx fs=>obtain ⟨_,_,_,e,_⟩:=x;exact Heap.lt_size e
 | own y=>obtain ⟨_,e⟩:=x;exact Heap.lt_size e
 | xd fs=>obtain ⟨_,⟨_,_,_,e,_⟩,_⟩:=x;exact Heap.lt_size e
 | rng lo hi=>obtain ⟨_,_,_,e⟩:=x;exact Heap.lt_size e
 | frz ob u=>obtain ⟨e,_⟩:=x;exact Heap.lt_size e
 | tbl ps=>exact Heap.lt_size (show h.get? a=some _ from x)
 | met f y=>exact Heap.lt_size (show h.get? a=some _ from x)
 | ext φ=>obtain ⟨_,⟨_,e⟩,_⟩:=x;exact Heap.lt_size e
theorem Paired.mapP {α β:Type}{F G:α->β->Prop}:∀{l₁:List α} {l₂:List β},Paired F l₁ l₂->(∀a b,F a b->G a b)->Paired G l₁ l₂
 | _,_,.nil,_=>.nil
 | _,_,.cons r t,f=>.cons (f _ _ r) (Paired.mapP t f)
theorem ObjOk.stay (x:ObjOk P w H h a o)(k:∀b u,(b=a\/H b=some (.own a))->h.get? b=some u->h'.get? b=some u)
  (ho:∀b,H b=some (.own a)->H' b=some (.own a)) (ht:∀b xs,H b=some (.tup xs)->H' b=some (.tup xs)):ObjOk P w H' h' a o:=by
 induction o with
 | lst xs=>obtain ⟨z,its,n,r,e⟩:=x;exact ⟨z,its,n,r,k _ _ (.inl rfl) e⟩
 | tup xs=>obtain ⟨z,its,r,ob,e,c⟩:=x;exact ⟨z,its,r,ob,k _ _ (.inl rfl) e,c⟩
 | dK kvs=>obtain ⟨z,y,vs,r,ob,es,ep,e,c⟩:=x;exact ⟨z,y,vs,r,ob,es,ep,k _ _ (.inl rfl) e,c⟩
 | dT kvs=>
  obtain ⟨z,y,xs,r,ob,es,ep,e,c⟩:=x
  exact ⟨z,y,xs,Paired.mapP r fun p q z=>⟨z.1,ht _ _ z.2.1,z.2.2⟩,ob,es,ep,k _ _ (.inl rfl) e,c⟩
 | set S n=>obtain ⟨ob,es,ep,t,e,c⟩:=x;exact ⟨ob,es,ep,t,k _ _ (.inl rfl) e,c⟩
 | ins C dx fs=>
  obtain ⟨d,z,ne,e,mA,⟨od,es,ep,e2,c⟩,r⟩:=x
  exact ⟨ho _ d,z,ne,k _ _ (.inl rfl) e,mA,⟨od,es,ep,k _ _ (.inr d) e2,c⟩,r⟩
 | own y=>obtain ⟨ob,e⟩:=x;exact ⟨ob,k _ _ (.inl rfl) e⟩
 | xd fs=>obtain ⟨mA,⟨od,es,ep,e,c⟩,r⟩:=x;exact ⟨mA,⟨od,es,ep,k _ _ (.inl rfl) e,c⟩,r⟩
 | rng lo hi=>obtain ⟨t,u,v,e⟩:=x;exact ⟨t,u,v,k _ _ (.inl rfl) e⟩
 | frz ob u ih=>obtain ⟨e,q⟩:=x;exact ⟨k _ _ (.inl rfl) e,ih q⟩
 | tbl ps=>
  have e:h.get? a=some {cls:=.none,data:=.fields ps}:=x
  show h'.get? a=some {cls:=.none,data:=.fields ps}
  exact k a _ (.inl rfl) e
 | met f y=>
  have e:h.get? a=some (PySem.W.methodObj (.ref f) (.ref y)):=x
  show h'.get? a=some (PySem.W.methodObj (.ref f) (.ref y))
  exact k a _ (.inl rfl) e
 | ext φ=>obtain ⟨p,⟨o,e⟩,st⟩:=x;exact ⟨st _ _ p fun o q=>k _ _ (.inl rfl) q,⟨o,k _ _ (.inl rfl) e⟩,st⟩
theorem HOk.lt (x:HOk P w H h)(e:H a=some o):a < h.objs.size:=(x a o e).lt
theorem HOk.fresh (x:HOk P w H h)(e:h.objs.size<=a):H a=none:=by
 cases q:H a with
 | none=>rfl
 | some u=>exact absurd (Nat.lt_of_lt_of_le (x.lt q) e) (Nat.lt_irrefl _)
theorem HOk.kept (x:HOk P w H h)(k:∀b u,h.get? b=some u->h'.get? b=some u):HOk P w H h':=fun a o e=>
 (x a o e).stay (fun b u _ q=>k b u q) (fun _ q=>q) fun _ _ q=>q
theorem HOk.laid (x:HOk P w H h)(k:∀b u,h.get? b=some u->h'.get? b=some u)(hp:h.objs.size<=a)(new:ObjOk P w (upd H a o) h' a o):HOk P w (upd H a o) h':=fun b u e=>by
 have hn:=x.fresh hp
 by_cases hb:b=a
 ·subst hb;rw [m5] at e;cases e;exact new
 ·rw [g7 hb] at e
  exact (x b u e).stay (fun c v _ q=>k c v q) (fun c q=>by rw [g7 (l6 q hn)];exact q) fun c xs q=>by rw [g7 (l6 q hn)];exact q
end
def Rd (H:Hp) (a:Addr) (u:HO):Prop:=H a=some u\/∃o,H a=some (.frz o u)
theorem Rd.ok {P:Program}{w:World}{H:Hp}{h:Heap}{a:Addr}{u:HO}(r:Rd H a u)(x:HOk P w H h):ObjOk P w H h a u:=by
 rcases r with r | ⟨o,r⟩
 ·exact x a u r
 ·obtain ⟨_,q⟩:=x a _ r
  exact q
def Mut:Option HO->Prop
 | some (.lst _)=>True
 | some (.dK _)=>True
 | some (.dT _)=>True
 | some (.set _ _)=>True
 | some (.ins _ _ _)=>True
 | some (.ext _)=>True
 | _=>False
section
variable {P:Program}{w:World}{H:Hp}{h h':Heap}{x e:Addr}{o':HO}
theorem HOk.write (ok:HOk P w H h)(mu:Mut (H x))(he:e=x\/H e=some (.own x))(k:∀b u,b≠e->h.get? b=some u->h'.get? b=some u)(heo:∃u,h'.get? e=some u)
  (new:ObjOk P w (upd H x o') h' x o'):HOk P w (upd H x o') h':=fun b u q=>by
 have nown:∀c y,H c=some (.own y)->c≠x:=fun c y r z=>by subst z;rw [r] at mu;exact mu
 have ntup:∀c xs,H c=some (.tup xs)->c≠x:=fun c xs r z=>by subst z;rw [r] at mu;exact mu
 by_cases hb:b=x
 ·subst hb;rw [m5] at q;cases q;exact new
 ·rw [g7 hb] at q
  by_cases hbe:b=e
  ·have q':H b=some (.own x):=by
    rcases he with z | z
    ·exact absurd (hbe.trans z) hb
    ·rw [hbe];exact z
   rw [q] at q';cases q'
   obtain ⟨v,hv⟩:=heo
   exact ⟨v,by rw [hbe];exact hv⟩
  ·refine (ok b u q).stay (fun c v hc r=>k c v ?_ r) (fun c r=>by rw [g7 (nown c b r)];exact r) fun c xs r=>by rw [g7 (ntup c xs r)];exact r
   rcases hc with rfl | hc
   ·exact hbe
   ·rintro rfl
    rcases he with z | z
    ·exact nown c b hc z
    ·rw [hc] at z;cases z;exact hb rfl
end
structure Un (fs ex:List Addr) (H H':Hp) (h h':Heap):Prop where
 keep:∀b o,h.get? b=some o->H b=none->b∉fs->b∉ex->h'.get? b=some o
 slot:∀b o,h.get? b=some o->H b=none->b∈fs->b∉ex->∃sl,h'.get? b=some {o with slots:=sl}
 free:∀b o,h.get? b=some o->H b=none->b∉ex->H' b=none
 there:∀b o,h.get? b=some o->b∉ex->∃o',h'.get? b=some o'
 tups:∀b xs,H b=some (.tup xs)->H' b=some (.tup xs)
 frzs:∀b o u,H b=some (.frz o u)->H' b=some (.frz o u)
 tbls:∀b ps,H b=some (.tbl ps)->∃more,H' b=some (.tbl (ps ++ more))
section
variable {fs fs' ex ex':List Addr}{H H1 H2:Hp}{h h1 h2 h':Heap}{a x e:Addr}{o:HO}
theorem Un.any (u:Un fs ex H H1 h h1){b:Addr}{ob:Obj}(q:h.get? b=some ob)(n:H b=none)(hx:b∉ex):∃sl,h1.get? b=some {ob with slots:=sl}:=by
 by_cases hb:b∈fs
 ·exact u.slot b ob q n hb hx
 ·exact ⟨ob.slots,u.keep b ob q n hb hx⟩
theorem Un.kept (k:∀b u,h.get? b=some u->h'.get? b=some u):Un fs ex H H h h':=
 ⟨fun b ob q _ _ _=>k b ob q,fun b ob q _ _ _=>⟨ob.slots,k b ob q⟩,fun _ _ _ n _=>n,fun b ob q _=>⟨ob,k b ob q⟩,fun _ _ q=>q,fun _ _ _ q=>q,fun _ ps q=>⟨#[],by rw [q];simp⟩⟩
theorem Un.refl:Un fs ex H H h h:=Un.kept fun _ _ q=>q
theorem Un.laid (k:∀b u,h.get? b=some u->h'.get? b=some u)(hp:h.objs.size<=a)(hn:H a=none):Un fs ex H (upd H a o) h h' where
 keep:=fun b u q _ _ _=>k b u q
 slot:=fun b u q _ _ _=>⟨u.slots,k b u q⟩
 free:=fun b u q n _=>by rw [g7 (Nat.ne_of_lt (Nat.lt_of_lt_of_le (Heap.lt_size q) hp))];exact n
 there:=fun b u q _=>⟨u,k b u q⟩
 tups:=fun b xs q=>by rw [g7 (l6 q hn)];exact q
 frzs:=fun b u xs q=>by rw [g7 (l6 q hn)];exact q
 tbls:=fun b ps q=>⟨#[],by rw [g7 (l6 q hn),q];simp⟩
theorem Un.write (mu:Mut (H x))(he:e=x\/H e=some (.own x))(k:∀b u,b≠e->h.get? b=some u->h'.get? b=some u)(heo:∃u,h'.get? e=some u):Un fs ex H (upd H x o) h h':=by
 have hx:∀b,H b=none->b≠x:=fun b n z=>by subst z;rw [n] at mu;exact mu
 have hb:∀b,H b=none->b≠e:=fun b n z=>by
  subst z
  rcases he with r | r
  ·exact hx b n r
  ·rw [n] at r;cases r
 have hm:∀b u,H b=some u->¬Mut (some u)->b≠x:=fun b u q nm z=>by subst z;rw [q] at mu;exact nm mu
 refine ⟨fun b u q n _ _=>k b u (hb b n) q,fun b u q n _ _=>⟨u.slots,k b u (hb b n) q⟩,fun b u q n _=>by rw [g7 (hx b n)];exact n,fun b u q _=>?_,
  fun b xs q=>by rw [g7 (hm b _ q fun z=>z)];exact q,fun b u xs q=>by rw [g7 (hm b _ q fun z=>z)];exact q,fun b ps q=>⟨#[],by rw [g7 (hm b _ q fun z=>z),q];simp⟩⟩
 by_cases hbe:b=e
 ·subst hbe;exact heo
 ·exact ⟨u,k b u hbe q⟩
end
def trk (h:Heap) (H:Hp):List Addr:=(List.range h.objs.size).filter fun a=>(H a).isSome
def hidT (h:Heap) (H:Hp):Heap:=PySem.W.hideAll h (trk h H)
theorem a8Q (h:Heap)(H:Hp):(hidT h H).objs.size=h.objs.size:=PySem.W.hideAll_size _ _
theorem b0H {h:Heap}{H:Hp}{b:Addr}{o:Obj}(e:h.get? b=some o)(n:H b=none):(hidT h H).get? b=some o:=
 PySem.W.hideAll_get _ e fun hm=>by
  have q:(H b).isSome=true:=(List.mem_filter.mp hm).2
  rw [n] at q;simp at q
theorem b1B {h:Heap}{H:Hp}{b:Addr}{o:Obj}(e:(hidT h H).get? b=some o):h.get? b=some o/\H b=none:=by
 have e':h.get? b=some o:=PySem.W.of_hideAll (trk h H) e
 refine ⟨e',?_⟩
 cases q:H b with
 | none=>rfl
 | some x=>
  have hm:b∈trk h H:=List.mem_filter.mpr ⟨List.mem_range.mpr (Heap.lt_size e'),by simp [q]⟩
  have z:(hidT h H).get? b=none:=PySem.W.hideAll_none (trk h H) hm
  rw [z] at e;cases e
def allNews (g h:Heap) (L:Addr):List (Addr×Obj):=(List.range h.objs.size).filterMap fun a=>if a=L\/(g.get? a).isSome=true then none else (h.get? a).map fun o=>(a,o)
theorem a5I {g h:Heap}{L a:Addr}{o:Obj}(h1:a≠L)(h2:g.get? a=none)(h3:h.get? a=some o):(a,o)∈allNews g h L:=
 List.mem_filterMap.mpr ⟨a,List.mem_range.mpr (Heap.lt_size h3),by simp [h1,h2,h3]⟩
theorem a22 {g h:Heap}{L:Addr}{p:Addr×Obj}(hp:p∈allNews g h L):p.1≠L/\g.get? p.1=none/\h.get? p.1=some p.2:=by
 obtain ⟨b,_,e⟩:=List.mem_filterMap.mp hp
 split at e
 ·cases e
 ·rename_i hn
  cases q:h.get? b with
  | none=>rw [q] at e;simp at e
  | some u=>
   rw [q] at e
   simp only [Option.map_some,Option.some.injEq] at e
   subst e
   refine ⟨fun z=>hn (.inl z),?_,q⟩
   show g.get? b=none
   cases r:g.get? b with
   | none=>rfl
   | some v=>exact (hn (.inr (by simp [r]))).elim
def rest (g h:Heap) (L d:Addr):List (Addr×Obj):=(allNews g h L).filter fun p=>decide (p.1≠d)
theorem a7e {g h:Heap}{L d:Addr}:∀p∈rest g h L d,p.1≠d:=fun p hp=>of_decide_eq_true (List.mem_filter.mp hp).2
theorem b0I {g h:Heap}{L d a:Addr}{o:Obj}(h1:a≠L)(h2:g.get? a=none)(h3:h.get? a=some o)(h4:a≠d):(a,o)∈rest g h L d:=
 List.mem_filter.mpr ⟨a5I h1 h2 h3,decide_eq_true h4⟩
theorem a9X {g h:Heap}{L:Addr}:News g L h (allNews g h L):=fun p hp=>let ⟨a,b,c⟩:=a22 hp;⟨c,a,b⟩
theorem b11 {g h:Heap}{L d:Addr}{o:Obj}(h1:d≠L)(h2:g.get? d=none)(h3:h.get? d=some o):News g L h ((d,o) :: rest g h L d):=fun p hp=>by
 rcases List.mem_cons.mp hp with rfl | hp
 ·exact ⟨h3,h1,h2⟩
 ·exact a9X p (List.mem_filter.mp hp).1
theorem a4S {g h h':Heap}{L d:Addr}{m:Str->Option Value}(k:∀b o,g.get? b=some o->h.get? b=some o)(F:Fr g L h' m)(N:News g L h' (rest g h L d)):
  ∀b o,b≠L->b≠d->h.get? b=some o->h'.get? b=some o:=fun b o h1 h2 e=>by
 cases q:g.get? b with
 | some u=>
  have:=k b u q
  rw [e] at this;cases this
  exact F.keep b _ q
 | none=>exact (N (b,o) (b0I h1 q e h2)).1
structure Mod (K:PySem.W.Frag) (mg:Str->Option Value) (base:Heap):Prop where
 kin:K.In base
 glob:base.Ns mainGlobals mg
 blt:∃mb,base.Ns builtinsNs mb/\∀x:Str,x≠"__name__"->mb x=bootBuiltins x
 nolimit:base.NoLimit
structure Cx where
 prog:Program
 w:World
 K:PySem.W.Frag
 mg:Str->Option Value
 base:Heap
 A:Around
 N:List Str
 s₀:Shared
 H₀:Hp
 env:Env
 outer:List Env
 stack:List Env
 ex:List Addr
 fn:Str->Bool
 calm:Bool
 pn:List (Addr×Obj)
 xe:Value->Shared->Prop
def frs (l:List Env):List Addr:=l.filterMap (·.frame)
abbrev Cx.fs (X:Cx):List Addr:=frs X.outer
def Vis (sc:Scope) (x:Str):Prop:=sc.names.lookup x=some .local\/sc.names.lookup x=some .cell\/sc.names.lookup x=some .free
def Loc (sc:Scope) (x:Str):Prop:=sc.names.lookup x=some .local\/sc.names.lookup x=some .cell
def Look (env:Env) (h:Heap) (m:Str->Option Value) (x:Str) (u:Value):Prop:=
 (env.kindOf x=some .local/\m x=some u)\/((env.kindOf x=some .cell\/env.kindOf x=some .free)/\∃c,env.cells.lookup x=some c/\h.IsCell c (some u))
structure Cx.Ok (X:Cx):Prop where
 mod:Mod X.K X.mg X.base
 kind:X.env.scope.kind= .function
 glob:X.env.globals=mainGlobals
 blt:X.env.builtins=builtinsNs
 above:X.s₀.heap.objs.size<=X.env.locals
 inj:∀x y c,X.env.cells.lookup x=some c->X.env.cells.lookup y=some c->x=y
 has:∀x,(X.env.kindOf x=some .cell\/X.env.kindOf x=some .free)->∃c,X.env.cells.lookup x=some c
 cab:∀x c,X.fn x=true->X.env.cells.lookup x=some c->X.s₀.heap.objs.size<=c
 hd:X.calm=true->X.A.handled=none
 frames:X.A.frames=some X.stack
 stk:X.stack=X.outer\/(X.stack=X.env :: X.outer/\X.env.frame=some X.env.locals)
 exf:∀b∈X.ex,b≠X.env.locals/\∀x c,X.env.cells.lookup x=some c->c≠b
 bs:∀b o,X.base.get? b=some o->X.s₀.heap.get? b=some o/\X.H₀ b=none
 bsz:X.base.objs.size<=X.s₀.heap.objs.size
 noex:∀b o,X.base.get? b=some o->b∉X.ex
 exfs:∀b∈X.ex,b∉X.fs
 funs:X.s₀.heap.FunFrames X.base X.outer
 frf:∀b∈X.fs,X.H₀ b=none
structure Inv (X:Cx) (pins:List (Addr×Obj)) (σ:List (Option V)) (H:Hp) (s:Shared):Prop where
 ok:X.Ok
 os:s.os=X.s₀.os
 bare:AllBare s.gens
 base:Un X.fs X.ex X.H₀ H X.s₀.heap s.heap
 loc:∃m,s.heap.Ns X.env.locals m/\∀(i:Nat) (x:Str) (v:V),X.N[i]? =some x->σ[i]? =some (some v)->Vis X.env.scope x->∃u,RelV v u/\Look X.env s.heap m x u
 cell:∀x c,X.env.cells.lookup x=some c->∃v,s.heap.IsCell c v
 free:H X.env.locals=none
 freeC:∀x c,X.env.cells.lookup x=some c->H c=none
 pin:∀p∈X.pn ++ pins,s.heap.get? p.1=some p.2/\H p.1=none/\p.1≠X.env.locals/\p.1∉X.fs/\∀v,p.2.data≠.cell v
 hok:HOk X.prog X.w H s.heap
 len:σ.length=X.N.length
section
variable {X:Cx}{pins:List (Addr×Obj)}{σ:List (Option V)}{H H':Hp}{s:Shared}{h':Heap}
theorem Cx.Ok.nofr (ok:X.Ok){b:Addr}{o:Obj}(e:X.base.get? b=some o):b∉X.fs:=fun hb=>by
 have:=(ok.funs.mem hb).1
 rw [e] at this;cases this
theorem Inv.bs (I:Inv X pins σ H s):∀b o,X.base.get? b=some o->s.heap.get? b=some o/\H b=none:=fun b o e=>
 ⟨I.base.keep b o (I.ok.bs b o e).1 (I.ok.bs b o e).2 (I.ok.nofr e) (I.ok.noex b o e),I.base.free b o (I.ok.bs b o e).1 (I.ok.bs b o e).2 (I.ok.noex b o e)⟩
theorem Inv.bk (I:Inv X pins σ H s):∀b o,X.base.get? b=some o->s.heap.get? b=some o:=fun b o e=>(I.bs b o e).1
theorem Inv.mod (I:Inv X pins σ H s):Mod X.K X.mg X.base:=I.ok.mod
theorem Inv.kIn (I:Inv X pins σ H s):X.K.In s.heap:=I.ok.mod.kin.keeps I.bk
theorem Inv.fr (I:Inv X pins σ H s):∃m,Fr X.base X.env.locals s.heap m:=
 let ⟨m,hn,_⟩:=I.loc
 ⟨m,hn,I.bk,Nat.le_trans I.ok.bsz I.ok.above⟩
theorem Inv.lt (I:Inv X pins σ H s):X.env.locals < s.heap.objs.size:=let ⟨_,hn,_⟩:=I.loc;hn.lt
theorem Inv.sz (I:Inv X pins σ H s):X.s₀.heap.objs.size<=s.heap.objs.size:=Nat.le_trans I.ok.above (Nat.le_of_lt I.lt)
theorem Inv.nofs (I:Inv X pins σ H s){a:Addr}(h:s.heap.objs.size<=a):a∉X.fs:=fun hb=>by
 obtain ⟨_,o,ho,_⟩:=I.ok.funs.mem hb
 exact absurd (Nat.lt_of_lt_of_le (Heap.lt_size ho) (Nat.le_trans I.sz h)) (Nat.lt_irrefl _)
theorem Inv.cne (I:Inv X pins σ H s):∀x c,X.env.cells.lookup x=some c->c≠X.env.locals:=fun x c e z=>by
 obtain ⟨v,o,ho,hd⟩:=I.cell x c e
 obtain ⟨m,⟨o',es,ep,ho',hd',_⟩,_⟩:=I.loc
 rw [z,ho'] at ho;cases ho;rw [hd'] at hd;cases hd
theorem Inv.funs (I:Inv X pins σ H s):s.heap.FunFrames X.base X.outer:=by
 have all:∀(l:List Env),(∀b∈frs l,b∈X.fs)->X.s₀.heap.FunFrames X.base l->s.heap.FunFrames X.base l:=by
  intro l
  induction l with
  | nil=>intro _ _;trivial
  | cons env r ih=>
   intro hs hl
   obtain ⟨hk,⟨L,o,hf,hn,ho,hd⟩,hr⟩:=hl
   have hL:L∈X.fs:=hs L (by unfold frs;rw [List.filterMap_cons,hf];exact List.mem_cons_self)
   obtain ⟨sl,e⟩:=I.base.slot L o ho (I.ok.frf L hL) hL fun z=>I.ok.exfs L z hL
   exact ⟨hk,⟨L,_,hf,hn,e,hd⟩,ih (fun b hb=>hs b (by unfold frs;rw [List.filterMap_cons,hf];exact List.mem_cons_of_mem _ hb)) hr⟩
 exact all X.outer (fun _ hb=>hb) I.ok.funs
theorem Inv.stack (I:Inv X pins σ H s):s.heap.FunFrames X.base X.stack:=by
 rcases I.ok.stk with e | ⟨e,hf⟩
 ·rw [e];exact I.funs
 ·rw [e]
  obtain ⟨m,hn,_⟩:=I.loc
  refine .cons (by rw [I.ok.kind];decide) hf hn ?_ I.funs
  exact Heap.get?_none_of_le (Nat.le_trans I.ok.bsz I.ok.above)
theorem Inv.stkSub (I:Inv X pins σ H s):∀b∈frs X.stack,b∈X.env.locals :: X.fs:=fun b hb=>by
 rcases I.ok.stk with e | ⟨e,hf⟩
 ·rw [e] at hb;exact List.mem_cons_of_mem _ hb
 ·rw [e] at hb
  unfold frs at hb
  rw [List.filterMap_cons,hf] at hb
  exact hb
theorem Inv.stkFree (I:Inv X pins σ H s):∀b∈frs X.stack,H b=none:=fun b hb=>by
 rcases List.mem_cons.mp (I.stkSub b hb) with e | hb
 ·rw [e];exact I.free
 ·obtain ⟨_,o,ho,_⟩:=I.ok.funs.mem hb
  exact I.base.free b o ho (I.ok.frf b hb) fun z=>I.ok.exfs b z hb
theorem Inv.step {g':Array GenState}{t':Nat}{d':Drawn}{ch:List Addr}(I:Inv X pins σ H s)
  (hch:∀b∈ch,(b∈X.ex\/X.s₀.heap.objs.size<=b)/\b≠X.env.locals/\(∀x c,X.env.cells.lookup x=some c->c≠b)/\∀p∈X.pn ++ pins,p.1≠b)
  (keep:∀b o,b≠X.env.locals->b∉X.fs->b∉ch->s.heap.get? b=some o->H b=none->h'.get? b=some o)
  (slot:∀b o,b≠X.env.locals->b∈X.fs->b∉ch->s.heap.get? b=some o->H b=none->∃sl,h'.get? b=some {o with slots:=sl}) (free:∀b o,b∉ch->s.heap.get? b=some o->H b=none->H' b=none)
  (there:∀b o,b∉ch->s.heap.get? b=some o->∃o',h'.get? b=some o')
  (tups:∀b xs,H b=some (.tup xs)->H' b=some (.tup xs)) (frzs:∀b o u,H b=some (.frz o u)->H' b=some (.frz o u)) (tbls:∀b ps,H b=some (.tbl ps)->∃more,H' b=some (.tbl (ps ++ more)))
  (ns:∀m,s.heap.Ns X.env.locals m->h'.Ns X.env.locals m) (hok:HOk X.prog X.w H' h') (hg:AllBare g'):
  Inv X pins σ H' {s with heap:=h',gens:=g',drawn:=d',toks:=t'}:=by
 have neL:∀b o,X.s₀.heap.get? b=some o->b≠X.env.locals:=fun b o e=>Nat.ne_of_lt (Nat.lt_of_lt_of_le (Heap.lt_size e) I.ok.above)
 have neC:∀b o,X.s₀.heap.get? b=some o->b∉X.ex->b∉ch:=fun b o e hx hb=>by
  rcases (hch b hb).1 with z | z
  ·exact hx z
  ·exact absurd (Nat.lt_of_lt_of_le (Heap.lt_size e) z) (Nat.lt_irrefl _)
 have cellK:∀x c,X.env.cells.lookup x=some c->∀v,s.heap.IsCell c v->h'.IsCell c v:=fun x c e v ⟨o,ho,hd⟩=>by
  have nch:c∉ch:=fun z=>(hch c z).2.2.1 x c e rfl
  by_cases hc:c∈X.fs
  ·obtain ⟨sl,q⟩:=slot c o (I.cne x c e) hc nch ho (I.freeC x c e)
   exact ⟨_,q,hd⟩
  ·exact ⟨o,keep c o (I.cne x c e) hc nch ho (I.freeC x c e),hd⟩
 refine ⟨I.ok,I.os,hg,⟨fun b o e n hb hx=>?_,fun b o e n hb hx=>?_,fun b o e n hx=>?_,fun b o e hx=>?_,fun b xs e=>tups b xs (I.base.tups b xs e),fun b o xs e=>frzs b o xs (I.base.frzs b o xs e),fun b ps e=>?_⟩,?_,fun x c e=>?_,?_,fun x c e=>?_,fun p hp=>?_,hok,I.len⟩
 ·exact keep b o (neL b o e) hb (neC b o e hx) (I.base.keep b o e n hb hx) (I.base.free b o e n hx)
 ·obtain ⟨sl,e1⟩:=I.base.slot b o e n hb hx
  obtain ⟨sl',e2⟩:=slot b _ (neL b o e) hb (neC b o e hx) e1 (I.base.free b o e n hx)
  exact ⟨sl',e2⟩
 ·obtain ⟨o',e1⟩:=I.base.there b o e hx
  exact free b o' (neC b o e hx) e1 (I.base.free b o e n hx)
 ·obtain ⟨o',e1⟩:=I.base.there b o e hx
  exact there b o' (neC b o e hx) e1
 ·obtain ⟨m1,e1⟩:=I.base.tbls b ps e
  obtain ⟨m2,e2⟩:=tbls b _ e1
  exact ⟨m1 ++ m2,by rw [e2,Array.append_assoc]⟩
 ·obtain ⟨m,hn,hl⟩:=I.loc
  refine ⟨m,ns m hn,fun i x v e1 e2 e3=>?_⟩
  obtain ⟨u,r,l⟩:=hl i x v e1 e2 e3
  refine ⟨u,r,?_⟩
  rcases l with l | ⟨k,c,e,z⟩
  ·exact .inl l
  ·exact .inr ⟨k,c,e,cellK x c e _ z⟩
 ·obtain ⟨v,z⟩:=I.cell x c e
  exact ⟨v,cellK x c e v z⟩
 ·obtain ⟨m,⟨o,_,_,ho,_⟩,_⟩:=I.loc
  exact free _ o (fun z=>(hch _ z).2.1 rfl) ho I.free
 ·obtain ⟨v,o,ho,hd⟩:=I.cell x c e
  exact free c o (fun z=>(hch c z).2.2.1 x c e rfl) ho (I.freeC x c e)
 ·obtain ⟨e,n,ne,nf,d⟩:=I.pin p hp
  have nch:p.1∉ch:=fun z=>(hch p.1 z).2.2.2 p hp rfl
  exact ⟨keep p.1 p.2 ne nf nch e n,free p.1 p.2 nch e n,ne,nf,d⟩
theorem Inv.un {t':Nat}(I:Inv X pins σ H s)(u:Un X.fs [] H H' s.heap h')(hok:HOk X.prog X.w H' h'):Inv X pins σ H' {s with heap:=h',toks:=t'}:=by
 obtain ⟨m,⟨o,es,ep,ho,r⟩,_⟩:=id I.loc
 obtain ⟨sl,hL⟩:=u.any ho I.free (by simp)
 exact I.step (g':=s.gens) (d':=s.drawn) (ch:=[]) (fun _ z=>nomatch z) (fun b o _ hb _ e n=>u.keep b o e n hb (by simp)) (fun b o _ hb _ e n=>u.slot b o e n hb (by simp)) (fun b o _ e n=>u.free b o e n (by simp)) (fun b o _ e=>u.there b o e (by simp)) u.tups u.frzs u.tbls (fun m' hm=>by
  obtain ⟨o',es',ep',ho',r'⟩:=hm
  rw [ho] at ho';cases ho'
  exact ⟨_,es',ep',hL,r'⟩) hok I.bare
theorem Inv.call {g':Array GenState}{t':Nat}{d':Drawn}{ch:List Addr}(I:Inv X pins σ H s)(u:Un (frs X.stack) ch H H' s.heap h')(hok:HOk X.prog X.w H' h')(hg:AllBare g')
  (hch:∀b∈ch,(b∈X.ex\/X.s₀.heap.objs.size<=b)/\b≠X.env.locals/\(∀x c,X.env.cells.lookup x=some c->c≠b)/\∀p∈X.pn ++ pins,p.1≠b):
  Inv X pins σ H' {s with heap:=h',gens:=g',drawn:=d',toks:=t'}:=by
 obtain ⟨m,⟨o,es,ep,ho,r⟩,_⟩:=id I.loc
 obtain ⟨sl,hL⟩:=u.any ho I.free fun z=>(hch _ z).2.1 rfl
 exact I.step (ch:=ch) hch (fun b o hL hb hc e n=>u.keep b o e n (fun z=>(List.mem_cons.mp (I.stkSub b z)).elim hL hb) hc) (fun b o _ _ hc e n=>u.any e n hc) (fun b o hc e n=>u.free b o e n hc) (fun b o hc e=>u.there b o e hc) u.tups u.frzs u.tbls (fun m' hm=>by
  obtain ⟨o',es',ep',ho',r'⟩:=hm
  rw [ho] at ho';cases ho'
  exact ⟨_,es',ep',hL,r'⟩) hok hg
theorem Inv.turned {t':Nat}{it:Addr}(I:Inv X pins σ H s)(k:∀b o,b≠it->s.heap.get? b=some o->h'.get? b=some o)(hn:H it=none)(hL:it≠X.env.locals)
  (h1:it∈X.ex\/X.s₀.heap.objs.size<=it) (h2:∀x c,X.env.cells.lookup x=some c->c≠it) (h3:∀p∈X.pn ++ pins,p.1≠it):Inv X pins σ H {s with heap:=h',toks:=t'}:=by
 have nit:∀b u,H b=some u->b≠it:=fun b u e z=>by rw [z,hn] at e;cases e
 refine I.step (g':=s.gens) (d':=s.drawn) (ch:=[it]) (fun b hb=>?_) (fun b o _ _ hc e _=>k b o (fun z=>hc (by simp [z])) e) (fun b o _ _ hc e _=>⟨o.slots,k b o (fun z=>hc (by simp [z])) e⟩) (fun _ _ _ _ n=>n)
  (fun b o hc e=>⟨o,k b o (fun z=>hc (by simp [z])) e⟩) (fun _ _ e=>e) (fun _ _ _ e=>e) (fun b ps e=>⟨#[],by rw [e];simp⟩) (fun m hm=>?_) (fun b u e=>?_) I.bare
 ·have e:b=it:=by simpa using hb
  subst e
  exact ⟨h1,hL,h2,h3⟩
 ·obtain ⟨o,es,ep,ho,r⟩:=hm
  exact ⟨o,es,ep,k _ o (Ne.symm hL) ho,r⟩
 ·refine (I.hok b u e).stay (fun c v hc q=>k c v ?_ q) (fun _ q=>q) fun _ _ q=>q
  rcases hc with z | z
  ·rw [z];exact nit b u e
  ·exact nit c _ z
theorem Inv.tok (I:Inv X pins σ H s)(t:Nat):Inv X pins σ H {s with toks:=t}:=I.un (h':=s.heap) (t':=t) Un.refl I.hok
theorem Inv.kept {t':Nat}(I:Inv X pins σ H s)(k:∀b u,s.heap.get? b=some u->h'.get? b=some u):Inv X pins σ H {s with heap:=h',toks:=t'}:=I.un (Un.kept k) (I.hok.kept k)
theorem Inv.laid {a:Addr}{o:HO}{t':Nat}(I:Inv X pins σ H s)(k:∀b u,s.heap.get? b=some u->h'.get? b=some u)(hp:s.heap.objs.size<=a)(new:ObjOk X.prog X.w (upd H a o) h' a o):
  Inv X pins σ (upd H a o) {s with heap:=h',toks:=t'}:=I.un (Un.laid k hp (I.hok.fresh hp)) (I.hok.laid k hp new)
theorem Inv.write {x e:Addr}{o:HO}{t':Nat}(I:Inv X pins σ H s)(mu:Mut (H x))(he:e=x\/H e=some (.own x))(k:∀b u,b≠e->s.heap.get? b=some u->h'.get? b=some u)(heo:∃u,h'.get? e=some u)
  (new:ObjOk X.prog X.w (upd H x o) h' x o):Inv X pins σ (upd H x o) {s with heap:=h',toks:=t'}:=I.un (Un.write mu he k heo) (I.hok.write mu he k heo new)
theorem Inv.pins_of {pins':List (Addr×Obj)}(I:Inv X pins σ H s)(h:∀p∈pins',s.heap.get? p.1=some p.2/\H p.1=none/\p.1≠X.env.locals/\p.1∉X.fs/\∀v,p.2.data≠.cell v):Inv X pins' σ H s:=
 ⟨I.ok,I.os,I.bare,I.base,I.loc,I.cell,I.free,I.freeC,fun p hp=>(List.mem_append.mp hp).elim (fun z=>I.pin p (List.mem_append_left _ z)) (h p),I.hok,I.len⟩
theorem a5E {N:List Str}(hN:N.Nodup){i j:Nat}{x:Str}(a:N[i]? =some x)(b:N[j]? =some x):i=j:=by
 obtain ⟨h1,e1⟩:=List.getElem?_eq_some_iff.mp a
 obtain ⟨h2,e2⟩:=List.getElem?_eq_some_iff.mp b
 exact (List.getElem_inj hN).mp (e1.trans e2.symm)
theorem a8c {M:Model}{A:Around}{E:Value->Shared->Prop}{i:Nat}{x:Str}{v:V}{u:Value}{Q:Unit->Shared->Prop}(I:Inv X pins σ H s)(hN:X.N.Nodup)(hi:X.N[i]? =some x)(hx:Loc X.env.scope x)(r:RelV v u)
  (h:∀s',Inv X pins (σ.set i (some v)) H s'->(∃a,Heap.SameBut a s.heap s'.heap/\(a=X.env.locals\/X.env.cells.lookup x=some a))->Q () s') (hf:X.fn x=true\/X.env.scope.names.lookup x=some .local:=by first | exact .inl rfl | exact .inr rfl | assumption):wpAny M A (storeName X.env x u) Q E s:=by
 obtain ⟨m,hn,hl⟩:=id I.loc
 have hcls:(X.env.scope.kind == .class || (X.env.scope.kind == .module && X.env.locals != X.env.globals))=false:=by rw [I.ok.kind];rfl
 have hiσ:i < σ.length:=by rw [I.len];exact (List.getElem?_eq_some_iff.mp hi).1
 have cne:=I.cne
 have tracked:∀{a:Addr} {h':Heap},(∃o,s.heap.get? a=some o/\H a=none)->Heap.SameBut a s.heap h'->HOk X.prog X.w H h':=fun {a h'} ha hs b ob e=>by
  obtain ⟨_,_,hfree⟩:=ha
  refine (I.hok b ob e).stay (fun c w' hc q=>(hs.2 c ?_).trans q) (fun _ q=>q) fun _ _ q=>q
  rintro rfl
  rcases hc with rfl | hc
  ·rw [hfree] at e;cases e
  ·rw [hfree] at hc;cases hc
 rcases hx with hk | hk
 ·refine wpAny_storeName_local hk hn (fun h' hn' hs=>?_) hcls
  obtain ⟨oL,_,_,hoL,_⟩:=id hn
  refine h _ ⟨I.ok,I.os,I.bare,⟨fun b o e n hb hx=>?_,fun b o e n hb hx=>?_,I.base.free,fun b o e hx=>?_,I.base.tups,I.base.frzs,I.base.tbls⟩,⟨_,hn',fun j y v' e1 e2 e3=>?_⟩,fun y c e=>?_,I.free,I.freeC,fun p hp=>?_,tracked ⟨oL,hoL,I.free⟩ hs,by simpa using I.len⟩ ⟨_,hs,.inl rfl⟩
  ·exact (hs.2 b (Nat.ne_of_lt (Nat.lt_of_lt_of_le (Heap.lt_size e) I.ok.above))).trans (I.base.keep b o e n hb hx)
  ·obtain ⟨sl,e1⟩:=I.base.slot b o e n hb hx
   exact ⟨sl,(hs.2 b (Nat.ne_of_lt (Nat.lt_of_lt_of_le (Heap.lt_size e) I.ok.above))).trans e1⟩
  ·obtain ⟨o',e1⟩:=I.base.there b o e hx
   exact ⟨o',(hs.2 b (Nat.ne_of_lt (Nat.lt_of_lt_of_le (Heap.lt_size e) I.ok.above))).trans e1⟩
  ·by_cases hj:j=i
   ·subst hj
    rw [hi] at e1;cases e1
    rw [List.getElem?_set_self hiσ] at e2
    cases e2
    exact ⟨u,r,.inl ⟨hk,by simp⟩⟩
   ·rw [List.getElem?_set_ne (Ne.symm hj)] at e2
    obtain ⟨u',r',q⟩:=hl j y v' e1 e2 e3
    refine ⟨u',r',?_⟩
    rcases q with ⟨k,e⟩ | ⟨k,c,e,z⟩
    ·refine .inl ⟨k,?_⟩
     have:y≠x:=fun e=>hj (a5E hN e1 (e▸hi))
     simp [this,e]
    ·exact .inr ⟨k,c,e,z.sameBut hs (cne y c e)⟩
  ·obtain ⟨w',z⟩:=I.cell y c e
   exact ⟨w',z.sameBut hs (cne y c e)⟩
  ·obtain ⟨e,n,ne,nf,d⟩:=I.pin p hp
   exact ⟨(hs.2 p.1 ne).trans e,n,ne,nf,d⟩
 ·have hfn:X.fn x=true:=by
   rcases hf with z | z
   ·exact z
   ·rw [z] at hk;cases hk
  obtain ⟨c,hc⟩:=I.ok.has x (.inl hk)
  obtain ⟨w',z⟩:=I.cell x c hc
  refine wpAny_storeName_cell I.ok.kind hk hc z (fun h' hc' hs=>?_)
  obtain ⟨oc,hoc,hocd⟩:=id z
  refine h {s with heap:=h'} ⟨I.ok,I.os,I.bare,⟨fun b o e n hb hx=>?_,fun b o e n hb hx=>?_,I.base.free,fun b o e hx=>?_,I.base.tups,I.base.frzs,I.base.tbls⟩,⟨m,hn.sameBut hs (Ne.symm (cne x c hc)),fun j y v' e1 e2 e3=>?_⟩,fun y c' e=>?_,I.free,I.freeC,fun p hp=>?_,tracked ⟨oc,hoc,I.freeC x c hc⟩ hs,by simpa using I.len⟩ ⟨c,hs,.inr hc⟩
  ·exact (hs.2 b (Nat.ne_of_lt (Nat.lt_of_lt_of_le (Heap.lt_size e) (I.ok.cab x c hfn hc)))).trans (I.base.keep b o e n hb hx)
  ·obtain ⟨sl,e1⟩:=I.base.slot b o e n hb hx
   exact ⟨sl,(hs.2 b (Nat.ne_of_lt (Nat.lt_of_lt_of_le (Heap.lt_size e) (I.ok.cab x c hfn hc)))).trans e1⟩
  ·obtain ⟨o',e1⟩:=I.base.there b o e hx
   exact ⟨o',(hs.2 b (Nat.ne_of_lt (Nat.lt_of_lt_of_le (Heap.lt_size e) (I.ok.cab x c hfn hc)))).trans e1⟩
  ·by_cases hj:j=i
   ·subst hj
    rw [hi] at e1;cases e1
    rw [List.getElem?_set_self hiσ] at e2
    cases e2
    exact ⟨u,r,.inr ⟨.inl hk,c,hc,hc'⟩⟩
   ·rw [List.getElem?_set_ne (Ne.symm hj)] at e2
    obtain ⟨u',r',q⟩:=hl j y v' e1 e2 e3
    refine ⟨u',r',?_⟩
    rcases q with q | ⟨k,c',e,z'⟩
    ·exact .inl q
    ·refine .inr ⟨k,c',e,z'.sameBut hs ?_⟩
     rintro rfl
     exact hj (a5E hN e1 (I.ok.inj _ _ _ e hc▸hi))
  ·by_cases hcc:c'=c
   ·subst hcc;exact ⟨_,hc'⟩
   ·obtain ⟨w2,z2⟩:=I.cell y c' e
    exact ⟨w2,z2.sameBut hs hcc⟩
  ·obtain ⟨e,n,ne,nf,d⟩:=I.pin p hp
   refine ⟨(hs.2 p.1 ?_).trans e,n,ne,nf,d⟩
   intro q
   rw [q,hoc] at e
   have q':oc=p.2:=Option.some.inj e
   exact d w' (by rw [<-q'];exact hocd)
theorem a1B {M:Model}{A:Around}{E:Value->Shared->Prop}{i:Nat}{x:Str}{v:V}{u:Value}{Q:Unit->Shared->Prop}(I:Inv X pins σ H s)(hN:X.N.Nodup)(hi:X.N[i]? =some x)(hx:Loc X.env.scope x)(r:RelV v u)
  (h:∀s',Inv X pins (σ.set i (some v)) H s'->Q () s') (hf:X.fn x=true\/X.env.scope.names.lookup x=some .local:=by first | exact .inl rfl | exact .inr rfl | assumption):wpAny M A (storeName X.env x u) Q E s:=
 a8c I hN hi hx r (fun s' I' _=>h s' I') hf
theorem Inv.call' {s':Shared}{ch:List Addr}(I:Inv X pins σ H s)(ho:s'.os=s.os)(u:Un (frs X.stack) ch H H' s.heap s'.heap)(hok:HOk X.prog X.w H' s'.heap)(hg:AllBare s'.gens)
  (hch:∀b∈ch,(b∈X.ex\/X.s₀.heap.objs.size<=b)/\b≠X.env.locals/\(∀x c,X.env.cells.lookup x=some c->c≠b)/\∀p∈X.pn ++ pins,p.1≠b):Inv X pins σ H' s':=by
 obtain ⟨h',g',d',t',o'⟩:=s'
 have e:o'=s.os:=ho
 subst e
 exact I.call (g':=g') (t':=t') (d':=d') u hok hg hch
end
abbrev XK:=Value->Option Addr->Hp->Prop
abbrev St:=List (Option V)
abbrev VK:=V->Hp->Prop
abbrev TE:=St->Hp->VK->Prop
abbrev TT:=St->Hp->(Bool->Hp->Prop)->Prop
abbrev TA:=St->Hp->(List V->Hp->Prop)->Prop
structure Ends where
 nx:St->Hp->Prop
 rt:VK
 bk:St->Hp->Prop:=fun _ _=>False
 ct:St->Hp->Prop:=fun _ _=>False
abbrev TS:=Ends->St->Hp->Prop
def EP (X:Cx) (pins:List (Addr×Obj)) (σ:St) (Q:VK) (u:Value) (s':Shared):Prop:=∃v H',Inv X pins σ H' s'/\RelV v u/\Q v H'
def TP (X:Cx) (pins:List (Addr×Obj)) (σ:St) (Q:Bool->Hp->Prop) (b:Bool) (s':Shared):Prop:=∃H',Inv X pins σ H' s'/\Q b H'
def AP (X:Cx) (pins:List (Addr×Obj)) (σ:St) (Q:List V->Hp->Prop) (us:List Value) (s':Shared):Prop:=∃vs H',Inv X pins σ H' s'/\Vals vs us/\Q vs H'
def SP (X:Cx) (pins:List (Addr×Obj)) (D:Ends) (f:Flow) (s':Shared):Prop:=
 match f with
 | .next=>∃σ' H',Inv X pins σ' H' s'/\D.nx σ' H'
 | .brk=>∃σ' H',Inv X pins σ' H' s'/\D.bk σ' H'
 | .cont=>∃σ' H',Inv X pins σ' H' s'/\D.ct σ' H'
 | .ret u=>∃v σ' H',Inv X pins σ' H' s'/\RelV v u/\D.rt v H'
def PE (X:Cx) (e:Expr) (t:TE):Prop:=
 ∀(pins:List (Addr×Obj)) (s:Shared) (σ:St) (H:Hp) (Q:VK),Inv X pins σ H s->t σ H Q->wpAny (model X.prog X.w) X.A (eval e X.env) (EP X pins σ Q) X.xe s
def PT (X:Cx) (e:Expr) (t:TT):Prop:=
 ∀(pins:List (Addr×Obj)) (s:Shared) (σ:St) (H:Hp) (Q:Bool->Hp->Prop),Inv X pins σ H s->t σ H Q->wpAny (model X.prog X.w) X.A (isTrue e X.env (eval e X.env)) (TP X pins σ Q) X.xe s
def PW (X:Cx) (e:Expr) (t:TT):Prop:=
 ∀(whole:Sem Value) (pins:List (Addr×Obj)) (s:Shared) (σ:St) (H:Hp) (Q:Bool->Hp->Prop),Inv X pins σ H s->t σ H Q->wpAny (model X.prog X.w) X.A (isTrue e X.env whole) (TP X pins σ Q) X.xe s
theorem PW.pt {X:Cx}{e:Expr}{t:TT}(h:PW X e t):PT X e t:=h _
def PA (X:Cx) (es:List Expr) (t:TA):Prop:=
 ∀(pos:Pos) (pins:List (Addr×Obj)) (s:Shared) (σ:St) (H:Hp) (Q:List V->Hp->Prop),Inv X pins σ H s->t σ H Q->wpAny (model X.prog X.w) X.A (spliced (backTo pos (starEach es X.env))) (AP X pins σ Q) X.xe s
def PS (X:Cx) (st:Stmt) (t:TS):Prop:=
 ∀(pins:List (Addr×Obj)) (s:Shared) (σ:St) (H:Hp) (D:Ends),Inv X pins σ H s->t D σ H->wpAny (model X.prog X.w) X.A (exec st X.env) (SP X pins D) X.xe s
def PSs (X:Cx) (st:List Stmt) (t:TS):Prop:=
 ∀(pins:List (Addr×Obj)) (s:Shared) (σ:St) (H:Hp) (D:Ends),Inv X pins σ H s->t D σ H->wpAny (model X.prog X.w) X.A (execs st X.env) (SP X pins D) X.xe s
theorem thn {α:Type}{t:Sem α}{Q Q':α->Shared->Prop}{M:Model}{A:Around}{E:Value->Shared->Prop}{s:Shared}(h:wpAny M A t Q E s)(hQ:∀a s,Q a s->Q' a s):wpAny M A t Q' E s:=wpAny_mono h hQ fun _ _ x=>x
section
variable {X:Cx}
def tVar (i:Nat):TE:=fun σ H Q=>∃v,σ[i]? =some (some v)/\Q v H
def tC (v:V):TE:=fun _ H Q=>Q v H
theorem a6y {i:Nat}{x:Str}{pos:Pos}(hN:X.N[i]? =some x)(hv:Vis X.env.scope x)(hd:(x == ("__debug__":Str))=false:=by decide)(hcd:(x == ("__classdict__":Str))=false:=by decide):PE X (.Name x pos) (tVar i):=by
 intro pins s σ H Q I h
 obtain ⟨v,e,h⟩:=h
 obtain ⟨m,hn,hl⟩:=I.loc
 obtain ⟨u,r,l⟩:=hl i x v hN e hv
 have fin:EP X pins σ Q u s:=⟨v,H,I,r,h⟩
 rcases l with ⟨hk,hm⟩ | ⟨hk,c,hc,hcell⟩
 ·exact wpAny_Name (wpAny_loadName_local I.ok.kind hk hn hm fin) hd
 ·rcases hk with hk | hk
  ·exact wpAny_Name (wpAny_loadName_cell I.ok.kind hk hc hcell fin) hd
  ·exact wpAny_Name (wpAny_loadName_free I.ok.kind hk hc hcell fin hcd) hd
theorem b3L {i j pos}:PE X (.Constant (.int i) j pos) (tC (.int i)):=fun _ _ _ H _ I h=>wpAny_Constant_int ⟨.int i,H,I.tok _,⟨_,rfl⟩,h⟩
theorem pe_bl {b j pos}:PE X (.Constant (.bool b) j pos) (tC (.bl b)):=fun _ _ _ H _ I h=>Constant_bool ⟨.bl b,H,I,rfl,h⟩
theorem b2L {j pos}:PE X (.Constant .none j pos) (tC .non):=fun _ _ _ H _ I h=>Constant_none ⟨.non,H,I,rfl,h⟩
theorem b4i {x j pos}:PE X (.Constant (.str x) j pos) (tC (.str x)):=fun _ _ _ H _ I h=>Calls.Constant_str ⟨.str x,H,I.tok _,⟨_,rfl⟩,h⟩
def Gl (X:Cx) (x:Str):Prop:=X.env.kindOf x=some .globalImplicit
theorem a7R {E:Value->Shared->Prop}{pins:List (Addr×Obj)}{s:Shared}{σ:St}{H:Hp}{x:Str}{u:Value}{pos:Pos}{Q:Value->Shared->Prop}(I:Inv X pins σ H s)(hg:Gl X x)(hm:X.mg x=some u)(h:Q u s)
  (hd:(x == ("__debug__":Str))=false:=by decide):wpAny (model X.prog X.w) X.A (eval (.Name x pos) X.env) Q E s:=
 Calls.Name_function_global I.ok.kind hg (Calls.loadGlobal_global (by rw [I.ok.glob];exact I.mod.glob.keeps I.bk) hm h) hd
theorem U5 {E:Value->Shared->Prop}{pins:List (Addr×Obj)}{s:Shared}{σ:St}{H:Hp}{x:Str}{u:Value}{pos:Pos}{Q:Value->Shared->Prop}(I:Inv X pins σ H s)(hg:Gl X x)(hm:X.mg x=none)(hv:bootBuiltins x=some u)(h:Q u s)
  (hn:x≠"__name__":=by decide) (hd:(x == ("__debug__":Str))=false:=by decide):wpAny (model X.prog X.w) X.A (eval (.Name x pos) X.env) Q E s:=by
 obtain ⟨mb,h1,h2⟩:=I.mod.blt
 exact Calls.Name_function_global I.ok.kind hg (Calls.loadGlobal_builtin (by rw [I.ok.glob];exact I.mod.glob.keeps I.bk) hm (by rw [I.ok.blt];exact h1.keeps I.bk) ((h2 x hn).trans hv) h) hd
theorem b1w {x:Str}{v:V}{u:Value}{pos:Pos}(hg:Gl X x)(hm:X.mg x=some u)(r:RelV v u)(hd:(x == ("__debug__":Str))=false:=by decide):PE X (.Name x pos) (tC v):=
 fun _ _ _ H _ I h=>a7R I hg hm ⟨v,H,I,r,h⟩ hd
theorem b17 {x:Str}{v:V}{u:Value}{pos:Pos}(hg:Gl X x)(hm:X.mg x=none)(hv:bootBuiltins x=some u)(r:RelV v u)(hn:x≠"__name__":=by decide)(hd:(x == ("__debug__":Str))=false:=by decide):PE X (.Name x pos) (tC v):=
 fun _ _ _ H _ I h=>U5 I hg hm hv ⟨v,H,I,r,h⟩ hn hd
variable {a b:Expr}{ta tb:TE}{pos:Pos}
variable {tA tB':TT}{rest:List Expr}
def tAnd (t u:TT):TT:=fun σ H Q=>t σ H fun c H1=>if c=true then u σ H1 Q else Q false H1
def tOr (t u:TT):TT:=fun σ H Q=>t σ H fun c H1=>if c=true then Q true H1 else u σ H1 Q
def tNot (t:TT):TT:=fun σ H Q=>t σ H fun c H1=>Q (!c) H1
theorem pw_and1 (ha:PT X a tA):PW X (.BoolOp .And [a] pos) tA:=by
 intro wh pins s σ H Q I h
 refine isTrue_and (thn (ha pins s σ H Q I h) fun c s1 e=>?_)
 cases c with
 | true=>exact isTrue_and_nil e
 | false=>exact e
theorem pw_or1 (ha:PT X a tA):PW X (.BoolOp .Or [a] pos) tA:=by
 intro wh pins s σ H Q I h
 refine isTrue_or (thn (ha pins s σ H Q I h) fun c s1 e=>?_)
 cases c with
 | false=>exact isTrue_or_nil e
 | true=>exact e
theorem pw_and (ha:PT X a tA)(hb:PW X (.BoolOp .And (b :: rest) pos) tB'):PW X (.BoolOp .And (a :: b :: rest) pos) (tAnd tA tB'):=by
 intro wh pins s σ H Q I h
 refine isTrue_and (thn (ha pins s σ H _ I h) fun c s1 ⟨H1,I1,q1⟩=>?_)
 cases c with
 | true=>exact hb wh pins s1 σ H1 Q I1 q1
 | false=>exact ⟨H1,I1,q1⟩
theorem pw_or (ha:PT X a tA)(hb:PW X (.BoolOp .Or (b :: rest) pos) tB'):PW X (.BoolOp .Or (a :: b :: rest) pos) (tOr tA tB'):=by
 intro wh pins s σ H Q I h
 refine isTrue_or (thn (ha pins s σ H _ I h) fun c s1 ⟨H1,I1,q1⟩=>?_)
 cases c with
 | true=>exact ⟨H1,I1,q1⟩
 | false=>exact hb wh pins s1 σ H1 Q I1 q1
theorem b3g (ha:PT X a tA):PT X (.UnaryOp .Not a pos) (tNot tA):=by
 intro pins s σ H Q I h
 exact isTrue_not (ha pins s σ H (fun c H1=>Q (!c) H1) I h)
def tAndV (ta tb:TE):TE:=fun σ H Q=>ta σ H fun x H1=>∃c,x= .bl c/\if c=true then tb σ H1 Q else Q (.bl false) H1
def tOrV (ta tb:TE):TE:=fun σ H Q=>ta σ H fun x H1=>∃c,x= .bl c/\if c=true then Q (.bl true) H1 else tb σ H1 Q
theorem b4m {op}{t:TE}(h:PE X a t):PE X (.BoolOp op [a] pos) t:=fun pins s σ H Q I hw=>BoolOp_one (h pins s σ H Q I hw)
theorem b4h (ha:PE X a ta)(hb:PE X (.BoolOp .And (b :: rest) pos) tb):PE X (.BoolOp .And (a :: b :: rest) pos) (tAndV ta tb):=by
 intro pins s σ H Q I h
 refine BoolOp_and (thn (ha pins s σ H _ I h) fun v s1 h0=>ex5 h0 fun x H1 I1 r1 q1=>?_)
 obtain ⟨c,rfl,q1⟩:=q1
 cases r1
 refine wpAny_truthy_bool ?_
 cases c with
 | true=>exact hb pins s1 σ H1 Q I1 q1
 | false=>exact ⟨.bl false,H1,I1,rfl,q1⟩
theorem pe_or (ha:PE X a ta)(hb:PE X (.BoolOp .Or (b :: rest) pos) tb):PE X (.BoolOp .Or (a :: b :: rest) pos) (tOrV ta tb):=by
 intro pins s σ H Q I h
 refine BoolOp_or (thn (ha pins s σ H _ I h) fun v s1 h0=>ex5 h0 fun x H1 I1 r1 q1=>?_)
 obtain ⟨c,rfl,q1⟩:=q1
 cases r1
 refine wpAny_truthy_bool ?_
 cases c with
 | false=>exact hb pins s1 σ H1 Q I1 q1
 | true=>exact ⟨.bl true,H1,I1,rfl,q1⟩
end
def SqL (K:PySem.W.Frag) (H:Hp) (a:Addr) (xs:List V):Prop:=
 Rd H a (.lst xs)\/
  ∃(o:Obj) (its:Array Value) (n:Nat),K.lookup a=some o/\o.cls= .type "list"/\o.dict=none/\o.data= .seq its n/\its.size<=sizeLine/\Vals xs its.toList
def SqT (K:PySem.W.Frag) (H:Hp) (a:Addr) (xs:List V):Prop:=
 Rd H a (.tup xs)\/
  ∃(o:Obj) (its:Array Value) (n:Nat),K.lookup a=some o/\o.cls= .type "tuple"/\o.dict=none/\o.data= .seq its n/\its.size<=sizeLine/\Vals xs its.toList
def absV:Value->Option V
 | .none=>some .non
 | .bool b=>some (.bl b)
 | .int i _=>some (.int i)
 | .str x _=>some (.str x)
 | .bytes b _=>some (.byt b)
 | .float b _=>some (.flt b)
 | .ref a=>some (.ref a)
 | .type n=>some (.ty n)
 | _=>none
theorem RelV.abs {x:V}{u:Value}(r:RelV x u):absV u=some x:=by
 cases x with
 | non=>cases r;rfl
 | bl _=>cases r;rfl
 | int _=>obtain ⟨t,rfl⟩:=r;rfl
 | str _=>obtain ⟨t,rfl⟩:=r;rfl
 | byt _=>obtain ⟨t,rfl⟩:=r;rfl
 | flt _=>obtain ⟨t,rfl⟩:=r;rfl
 | ref _=>cases r;rfl
 | ty _=>cases r;rfl
theorem RelV.inj {x y:V}{u:Value}(r:RelV x u)(q:RelV y u):x=y:=Option.some.inj (r.abs.symm.trans q.abs)
theorem Vals.inj:∀{xs ys:List V} {us:List Value},Vals xs us->Vals ys us->xs=ys
 | _,_,_,.nil,.nil=>rfl
 | _,_,_,.cons r t,.cons r' t'=>by rw [r.inj r',Vals.inj t t']
section
variable {X:Cx}{pins:List (Addr×Obj)}{σ:St}{H:Hp}{s:Shared}{a:Addr}{xs ys:List V}
theorem Inv.list (I:Inv X pins σ H s)(h:SqL X.K H a xs):∃its:List Value,Vals xs its/\PlainL s.heap a its.toArray/\xs.length<=sizeLine:=by
 rcases h with h | ⟨o,its,n,hk,hc,hd,hs,hz,r⟩
 ·obtain ⟨z,its,n,r,e⟩:=h.ok I.hok
  exact ⟨its,r,⟨_,n,e,rfl,rfl,rfl⟩,z⟩
 ·refine ⟨its.toList,r,⟨o,n,I.kIn a o hk,hc,hd,by simpa using hs⟩,?_⟩
  have e:=r.length
  simp only [Array.length_toList] at e
  walk_at "o"
theorem Inv.tupN (I:Inv X pins σ H s)(h:SqT X.K H a xs):∃its:List Value,Vals xs its/\TupN s.heap a its.toArray/\xs.length<=sizeLine:=by
 rcases h with h | ⟨o,its,n,hk,hc,hd,hs,hz,r⟩
 ·obtain ⟨z,its,r,p⟩:=h.ok I.hok
  exact ⟨its,r,p,z⟩
 ·refine ⟨its.toList,r,⟨o,I.kIn a o hk,hc,⟨n,by simpa using hs⟩,hd⟩,?_⟩
  have e:=r.length
  simp only [Array.length_toList] at e
  walk_at "o"
theorem Inv.tuple (I:Inv X pins σ H s)(h:SqT X.K H a xs):∃its:List Value,Vals xs its/\IsTup s.heap a its.toArray/\xs.length<=sizeLine:=let ⟨its,r,p,z⟩:=I.tupN h;⟨its,r,p.is,z⟩
theorem Inv.list_inj (I:Inv X pins σ H s)(h:SqL X.K H a xs)(h':SqL X.K H a ys):xs=ys:=by
 obtain ⟨its,r,⟨o,n,e,_,_,d⟩,_⟩:=I.list h
 obtain ⟨its',r',⟨o',n',e',_,_,d'⟩,_⟩:=I.list h'
 rw [e] at e';cases e'
 rw [d] at d'
 injection d' with d1 _
 have:its=its':=by simpa using congrArg Array.toList d1
 subst this
 exact r.inj r'
theorem Inv.tuple_inj (I:Inv X pins σ H s)(h:SqT X.K H a xs)(h':SqT X.K H a ys):xs=ys:=by
 obtain ⟨its,r,⟨o,e,_,n,d⟩,_⟩:=I.tuple h
 obtain ⟨its',r',⟨o',e',_,n',d'⟩,_⟩:=I.tuple h'
 rw [e] at e';cases e'
 rw [d] at d'
 injection d' with d1 _
 have:its=its':=by simpa using congrArg Array.toList d1
 subst this
 exact r.inj r'
end
abbrev Cx.wish (X:Cx) (E:Value->Shared->Prop):Cx:={X with xe:=E}
abbrev Cx.nox (X:Cx):Cx:=X.wish fun _ _=>False
theorem Cx.Ok.wish {X:Cx}(ok:X.Ok)(E:Value->Shared->Prop):(X.wish E).Ok:=
 ⟨ok.mod,ok.kind,ok.glob,ok.blt,ok.above,ok.inj,ok.has,ok.cab,ok.hd,ok.frames,ok.stk,ok.exf,ok.bs,ok.bsz,ok.noex,ok.exfs,ok.funs,ok.frf⟩
theorem Cx.Ok.unwish {X:Cx}{E:Value->Shared->Prop}(ok:(X.wish E).Ok):X.Ok:=
 ⟨ok.mod,ok.kind,ok.glob,ok.blt,ok.above,ok.inj,ok.has,ok.cab,ok.hd,ok.frames,ok.stk,ok.exf,ok.bs,ok.bsz,ok.noex,ok.exfs,ok.funs,ok.frf⟩
section
variable {X:Cx}{pins:List (Addr×Obj)}{σ:St}{H:Hp}{s:Shared}{E:Value->Shared->Prop}
theorem Inv.wish (I:Inv X pins σ H s)(E:Value->Shared->Prop):Inv (X.wish E) pins σ H s:=⟨I.ok.wish E,I.os,I.bare,I.base,I.loc,I.cell,I.free,I.freeC,I.pin,I.hok,I.len⟩
theorem Inv.unwish (I:Inv (X.wish E) pins σ H s):Inv X pins σ H s:=⟨I.ok.unwish,I.os,I.bare,I.base,I.loc,I.cell,I.free,I.freeC,I.pin,I.hok,I.len⟩
theorem SP.unwish {D:Ends}{f:Flow}{s':Shared}(h:SP (X.wish E) pins D f s'):SP X pins D f s':=by
 cases f with
 | next=>obtain ⟨σ',H',I,q⟩:=h;exact ⟨σ',H',I.unwish,q⟩
 | brk=>obtain ⟨σ',H',I,q⟩:=h;exact ⟨σ',H',I.unwish,q⟩
 | cont=>obtain ⟨σ',H',I,q⟩:=h;exact ⟨σ',H',I.unwish,q⟩
 | ret u=>obtain ⟨v,σ',H',I,r,q⟩:=h;exact ⟨v,σ',H',I.unwish,r,q⟩
theorem PSs.nox {st:List Stmt}{t:TS}(h:PSs X.nox st t):PSs X st t:=fun pins s σ H D I hw=>
 wpAny_mono (h pins s σ H D (I.wish _) hw) (fun _ _ q=>q.unwish) fun _ _ z=>False.elim z
end
section
variable {X:Cx}{st:Stmt}{rest:List Stmt}{t u:TS}{e:Expr}{te:TE}{pos:Pos}
def tNext:TS:=fun D σ H=>D.nx σ H
def tSeq (t u:TS):TS:=fun D σ H=>t {D with nx:=u D} σ H
theorem b1l:PSs X [] tNext:=fun _ _ σ H _ I h=>wpAny_execs_nil ⟨σ,H,I,h⟩
theorem b0J (h1:PS X st t)(h2:PSs X rest u):PSs X (st :: rest) (tSeq t u):=by
 intro pins s σ H D I h
 refine wpAny_execs_cons (thn (h1 pins s σ H {D with nx:=u D} I h) fun f s1 q=>?_)
 cases f with
 | next=>
  obtain ⟨σ',H',I',q⟩:=q
  exact h2 pins s1 σ' H' D I' q
 | ret v=>exact q
 | brk=>exact q
 | cont=>exact q
theorem b1p (h1:PS X st t):PSs X [st] t:=by
 intro pins s σ H D I h
 refine wpAny_execs_cons (thn (h1 pins s σ H D I h) fun f s1 q=>?_)
 cases f with
 | next=>exact wpAny_execs_nil q
 | ret v=>exact q
 | brk=>exact q
 | cont=>exact q
theorem Inv.quiet {pins:List (Addr×Obj)}{σ:St}{H:Hp}{s:Shared}(I:Inv X pins σ H s):interactive X.env=false:=by simp [interactive,I.ok.kind]
def tDrop (te:TE):TS:=fun D σ H=>te σ H fun _ H1=>D.nx σ H1
theorem b2b (he:PE X e te)(hs:swapsWith e none pos.line X.env=pure false:=by rfl):PS X (.Expr e pos) (tDrop te):=by
 intro pins s σ H D I h
 exact wpAny_Expr_any (thn (he pins s σ H _ I h) fun v s1 h0=>ex5 h0 fun x H1 I1 r1 q1=>⟨σ,H1,I1,q1⟩) I.quiet hs
def tRet (te:TE):TS:=fun D σ H=>te σ H D.rt
theorem b3h (he:PE X e te):PS X (.Return (some e) pos) (tRet te):=by
 intro pins s σ H D I h
 exact wpAny_Return_some (thn (he pins s σ H _ I h) fun v s1 h0=>ex5 h0 fun x H1 I1 r1 q1=>⟨x,σ,H1,I1,r1,q1⟩)
def tIfS (c:TT) (t u:TS):TS:=fun D σ H=>c σ H fun b H1=>if b=true then t D σ H1 else u D σ H1
theorem ps_if {c:Expr}{a b:List Stmt}{tc:TT}(hc:PT X c tc)(ha:PSs X a t)(hb:PSs X b u):PS X (.If c a b pos) (tIfS tc t u):=by
 intro pins s σ H D I h
 refine wpAny_If (thn (hc pins s σ H _ I h) fun d s1 ⟨H1,I1,q1⟩=>?_)
 cases d with
 | true=>exact ha pins s1 σ H1 D I1 q1
 | false=>exact hb pins s1 σ H1 D I1 q1
def tNever:TS:=fun _ _ _=>False
theorem a9T:PS X st tNever:=fun _ _ _ _ _ _ h=>h.elim
end
abbrev TG:=V->St->Hp->(St->Hp->Prop)->Prop
abbrev TGs:=List V->St->Hp->(St->Hp->Prop)->Prop
def PG (X:Cx) (target:Expr) (t:TG):Prop:=
 ∀(pins:List (Addr×Obj)) (s:Shared) (σ:St) (H:Hp) (v:V) (u:Value) (Q:St->Hp->Prop),Inv X pins σ H s->RelV v u->t v σ H Q->
  wpAny (model X.prog X.w) X.A (assign target X.env u) (fun _ s'=>∃σ' H',Inv X pins σ' H' s'/\Q σ' H') X.xe s
def PGs (X:Cx) (ts:List Expr) (t:TGs):Prop:=
 ∀(pins:List (Addr×Obj)) (s:Shared) (σ:St) (H:Hp) (vs:List V) (us:List Value) (Q:St->Hp->Prop),Inv X pins σ H s->Vals vs us->t vs σ H Q->
  wpAny (model X.prog X.w) X.A (assignInOrder ((assignEach ts X.env).map (·.2)) us) (fun _ s'=>∃σ' H',Inv X pins σ' H' s'/\Q σ' H') X.xe s
abbrev TSet:=V->V->V->Hp->(Hp->Prop)->Prop
def PSet (X:Cx) (t:TSet):Prop:=
 ∀(pins:List (Addr×Obj)) (s:Shared) (σ:St) (H:Hp) (o i v:V) (ov iv u:Value) (Q:Hp->Prop),Inv X pins σ H s->RelV o ov->RelV i iv->RelV v u->t o i v H Q->
  wpAny (model X.prog X.w) X.A (setItem ov iv u) (fun _ s'=>∃H',Inv X pins σ H' s'/\Q H') X.xe s
section
variable {X:Cx}{pos:Pos}
def gName (i:Nat):TG:=fun v σ H Q=>Q (σ.set i (some v)) H
theorem a7k {i:Nat}{x:Str}(hN:X.N.Nodup)(hi:X.N[i]? =some x)(hx:Loc X.env.scope x)(hf:X.fn x=true\/X.env.scope.names.lookup x=some .local:=by first | exact .inl rfl | exact .inr rfl | assumption):PG X (.Name x pos) (gName i):=by
 intro pins s σ H v u Q I r h
 exact wpAny_assign_Name (a1B I hN hi hx r (fun s' I'=>⟨_,H,I',h⟩) hf)
def gNil:TGs:=fun vs σ H Q=>vs=[]/\Q σ H
def gCons (t:TG) (u:TGs):TGs:=fun vs σ H Q=>∃v r,vs=v :: r/\t v σ H fun σ' H'=>u r σ' H' Q
theorem b1c:PGs X [] gNil:=by
 intro pins s σ H vs us Q I r h
 obtain ⟨e,h⟩:=h
 subst e
 cases r
 exact assignInOrder_nil ⟨σ,H,I,h⟩
theorem a9o {e:Expr}{es:List Expr}{t:TG}{u:TGs}(h1:PG X e t)(h2:PGs X es u)
  (hs:(assignEach (e :: es) X.env).map (·.2)=assign e X.env :: (assignEach es X.env).map (·.2):=by rfl):PGs X (e :: es) (gCons t u):=by
 intro pins s σ H vs us Q I r h
 obtain ⟨v,vr,e1,h⟩:=h
 subst e1
 cases r with
 | cons r rr=>
  rw [hs]
  refine assignInOrder_cons (thn (h1 pins s σ H _ _ _ I r h) fun _ s1 ⟨σ1,H1,I1,q1⟩=>?_)
  exact h2 pins s1 σ1 H1 _ _ Q I1 rr q1
def gTup (K:PySem.W.Frag) (n:Nat) (t:TGs):TG:=fun v σ H Q=>∃a xs,v= .ref a/\SqT K H a xs/\xs.length=n/\t xs σ H Q
theorem b3F {es:List Expr}{k:Nat}{t:TGs}{n:Nat}(hc:X.calm=true)(h:PGs X es t)
  (hn:(assignEach es X.env).length=n:=by rfl) (hst:(assignEach es X.env).findIdx? (·.1)=none:=by rfl):PG X (.Tuple es k pos) (gTup X.K n t):=by
 intro pins s σ H v u Q I r hw
 obtain ⟨a,xs,e1,hq,hl,hw⟩:=hw
 subst e1
 cases r
 obtain ⟨its,rv,ht,hz⟩:=I.tuple hq
 refine assign_Tuple_tuple (I.ok.hd hc) ht (by simp [hn,<-hl,rv.length]) hst fun h' hx=>?_
 have I1:Inv X pins σ H {s with heap:=h'}:=I.kept (t':=s.toks) fun b o e=>hx b o (Nat.ne_of_lt (Heap.lt_size e)) e
 exact h pins _ σ H xs _ Q I1 (by simpa using rv) hw
def gSub (to ti:TE) (t:TSet):TG:=fun v σ H Q=>to σ H fun o H1=>ti σ H1 fun i H2=>t o i v H2 fun H3=>Q σ H3
theorem b4o {o i:Expr}{to ti:TE}{t:TSet}(ho:PE X o to)(hi:PE X i ti)(hs:PSet X t)
  (ha:∀v,assign (.Subscript o i pos) X.env v=(do
   let ov <-holding [v] (eval o X.env)
   let iv <-holding [v,ov] (eval i X.env)
   standAt pos
   holding [v,ov,iv] (setItem ov iv v)
   release [v,ov,iv] []):=by intro _;rfl):PG X (.Subscript o i pos) (gSub to ti t):=by
 intro pins s σ H v u Q I r h
 rw [ha]
 refine wpAny_bind (wpAny_holding (thn (ho pins s σ H _ I h) fun ov s1 h0=>ex5 h0 fun x H1 I1 r1 q1=>?_))
 refine wpAny_bind (wpAny_holding (thn (hi pins s1 σ H1 _ I1 q1) fun iv s2 h0=>ex5 h0 fun y H2 I2 r2 q2=>?_))
 refine wpAny_bind (wpAny_standAt (wpAny_bind (wpAny_holding (thn (hs pins s2 σ H2 x y v ov iv u _ I2 r1 r2 r q2) fun _ s3 ⟨H3,I3,q3⟩=>?_))))
 exact wpAny_release ⟨σ,H3,I3,q3⟩
def tAsg (te:TE) (g:TG):TS:=fun D σ H=>te σ H fun x H1=>g x σ H1 D.nx
theorem b4k {tg e:Expr}{te:TE}{g:TG}(he:PE X e te)(hg:PG X tg g)(hs:swapsWithSole [tg] e pos.line X.env=pure false:=by rfl)(hw:swappedStores [tg] e X.env=pure none:=by rfl)
  (h1:(assignEach [tg] X.env).map (·.2)=[assign tg X.env]:=by rfl):PS X (.Assign [tg] e pos) (tAsg te g):=by
 intro pins s σ H D I h
 refine wpAny_Assign_stores (thn (he pins s σ H _ I h) fun v s1 h0=>ex5 h0 fun x H1 I1 r1 q1=>?_) hs hw
 rw [h1]
 exact thn (hg pins s1 σ H1 x v _ I1 r1 q1) fun _ s2 q=>q
theorem b24 {i:Nat}{x:Str}{e:Expr}{te:TE}{pos':Pos}(hN:X.N.Nodup)(hi:X.N[i]? =some x)(hx:Loc X.env.scope x)(he:PE X e te)(hs:swapsWith e (some (.Name x pos')) pos.line X.env=pure false:=by rfl)(hf:X.fn x=true\/X.env.scope.names.lookup x=some .local:=by first | exact .inl rfl | exact .inr rfl | assumption):
  PS X (.Assign [.Name x pos'] e pos) (tAsg te (gName i)):=by
 intro pins s σ H D I h
 refine wpAny_Assign_Name (thn (he pins s σ H _ I h) fun v s1 h0=>ex5 h0 fun y H1 I1 r1 q1=>?_) hs
 exact a1B I1 hN hi hx r1 (fun s2 I2=>⟨_,H1,I2,q1⟩) hf
def tPar (i j:Nat) (ta:TA):TS:=fun D σ H=>ta σ H fun vs H1=>∃v w,vs=[v,w]/\D.nx ((σ.set i (some v)).set j (some w)) H1
theorem b4c {i j:Nat}{x y:Str}{a b:Expr}{ta:TA}{px py pt:Pos}{kt k2 pt2}(hc:X.calm=true)(hN:X.N.Nodup)(hi:X.N[i]? =some x)(hj:X.N[j]? =some y)(hij:i≠j)
  (hx:X.env.scope.names.lookup x=some .local) (hy:X.env.scope.names.lookup y=some .local) (ha:PA X [a,b] ta)
  (hw:swappedStores [.Tuple [.Name x px,.Name y py] kt pt] (.Tuple [a,b] k2 pt2) X.env=pure (some [x,y]))
  (hs:swapsWithSole [.Tuple [.Name x px,.Name y py] kt pt] (.Tuple [a,b] k2 pt2) pos.line X.env=pure false:=by rfl):
  PS X (.Assign [.Tuple [.Name x px,.Name y py] kt pt] (.Tuple [a,b] k2 pt2) pos) (tPar i j ta):=by
 intro pins s σ H D I h
 rw [exec_Assign_arm]
 refine wpAny_bind (wpAny_standAt ?_)
 rw [hs]
 refine wpAny_bind (wpAny_pure ?_)
 rw [if_neg (by decide)]
 refine wpAny_bind (Tuple_ (thn (ha _ pins s σ H _ I h) fun us s1 h0=>ex5 h0 fun vs H1 I1 r1 q1=>?_))
 obtain ⟨v,w,e1,q1⟩:=q1
 subst e1
 obtain ⟨u1,u2,rfl,rv,rw'⟩:∃u1 u2,us=[u1,u2]/\RelV v u1/\RelV w u2:=by
  cases r1 with
  | cons p q=>
   cases q with
   | cons p' q'=>
    cases q'
    exact ⟨_,_,rfl,p,p'⟩
 refine wpAny_newObj_type ?_ (by show 2<=sizeLine;decide)
 have I2:Inv X pins σ H1 {s1 with heap:=s1.heap.push {cls:=.type "tuple",data:=.seq [u1,u2].toArray}}:=I1.kept (t':=s1.toks) fun b o e=>Heap.get?_push_of_some _ e
 rw [hw]
 refine wpAny_bind (wpAny_pure ?_)
 show wpAny (model X.prog X.w) X.A (do rule "assign.swapped-stores";let items <-unpackItems (.ref s1.heap.objs.size) 2 none;assignInOrder [fun v=>bindName X.env y v,fun v=>bindName X.env x v] items.reverse;pure Flow.next) _ _ _
 refine wpAny_bind (wpAny_rule (wpAny_bind (unpackItems_tuple (items:= #[u1,u2]) (I.ok.hd hc) (IsTup.new s1.heap _) fun h' hx'=>?_)))
 have I3:=I2.kept (h':=h') (t':=s1.toks) fun b o e=>hx' b o (Nat.ne_of_lt (Heap.lt_size e)) e
 show wpAny _ _ (assignInOrder [fun v=>bindName X.env y v,fun v=>bindName X.env x v] [u2,u1] >>=fun _=>pure Flow.next) _ _ _
 refine wpAny_bind (assignInOrder_cons (wpAny_bindName (a1B I3 hN hj (.inl hy) rw' (fun s2 I4=>?_) (.inr hy))))
 refine assignInOrder_cons (wpAny_bindName (a1B I4 hN hi (.inl hx) rv (fun s3 I5=>assignInOrder_nil (wpAny_pure ?_)) (.inr hx)))
 rw [List.set_comm _ _ (Ne.symm hij)] at I5
 exact ⟨_,H1,I5,q1⟩
end
section
variable {X:Cx}{pos:Pos}
def tWhile (c:TT) (tb:TS):TS:=fun D σ H=>∃W:Nat->St->Hp->Prop,(∃m,W m σ H)/\∀m σ H,W m σ H->
 c σ H fun b H1=>if b=true then ∃N:St->Hp->Prop,(∀σ' H',N σ' H'->∃m',m' < m/\W m' σ' H')/\tb {D with nx:=N,ct:=N,bk:=D.nx} σ H1 else D.nx σ H1
theorem a9n {c:Expr}{body:List Stmt}{tc:TT}{tb:TS}(hp:PassesOwn (model X.prog X.w) X.A X.env X.xe)(hc:PT X c tc)(hb:PSs X body tb):PS X (.While c body [] pos) (tWhile tc tb):=by
 intro pins s σ H D I h
 obtain ⟨W,⟨m0,w0⟩,turn⟩:=h
 refine wpAny_While (codeAny_whileLoop (fun n s'=>∃σ' H',Inv X pins σ' H' s'/\W n σ' H') ?_ m0 ⟨σ,H,I,w0⟩)
 rintro n s1 ⟨σ1,H1,I1,w1⟩
 refine wpAny_passesOwn hp (thn (hc pins s1 σ1 H1 _ I1 (turn n σ1 H1 w1)) fun b s2 ⟨H2,I2,q2⟩=>?_)
 cases b with
 | true=>
  obtain ⟨N,hN,q2⟩:=q2
  rw [if_pos rfl]
  refine wpAny_passesOwn hp (thn (hb pins s2 σ1 H2 _ I2 q2) fun f s3 q3=>?_)
  cases f with
  | next=>
   obtain ⟨σ3,H3,I3,n3⟩:=q3
   obtain ⟨m',hm,w3⟩:=hN σ3 H3 n3
   exact ⟨m',hm,σ3,H3,I3,w3⟩
  | cont=>
   obtain ⟨σ3,H3,I3,n3⟩:=q3
   obtain ⟨m',hm,w3⟩:=hN σ3 H3 n3
   exact ⟨m',hm,σ3,H3,I3,w3⟩
  | brk=>exact q3
  | ret v=>exact q3
 | false=>
  rw [if_neg Bool.false_ne_true]
  exact wpAny_execs_nil ⟨σ1,H2,I2,q2⟩
end
structure It where
 go:Nat->Hp->Prop
 yld:Nat->Hp->V->Hp->Prop
 stop:Nat->Hp->Prop
def FpOk (X:Cx) (pins:List (Addr×Obj)) (H:Hp) (b:Addr):Prop:=
 H b=none/\b≠X.env.locals/\b∉X.fs/\(b∈X.ex\/X.s₀.heap.objs.size<=b)/\(∀x c,X.env.cells.lookup x=some c->c≠b)/\∀p∈X.pn ++ pins,p.1≠b
theorem Inv.fpOk {X:Cx}{pins:List (Addr×Obj)}{σ:St}{H H':Hp}{s:Shared}{b:Addr}(I:Inv X pins σ H s)(hb:s.heap.objs.size<=b)(hn:H' b=none):FpOk X pins H' b:=by
 refine ⟨hn,Nat.ne_of_gt (Nat.lt_of_lt_of_le I.lt hb),I.nofs hb,.inr (Nat.le_trans I.sz hb),fun x c e z=>?_,fun p hp z=>?_⟩
 ·obtain ⟨v,q⟩:=I.cell x c e
  exact absurd (Nat.lt_of_lt_of_le q.lt (by rw [z];exact hb)) (Nat.lt_irrefl _)
 ·exact absurd (Nat.lt_of_lt_of_le (Heap.lt_size (I.pin p hp).1) (by rw [z];exact hb)) (Nat.lt_irrefl _)
structure Turn (P:Program) (w:World) (K:PySem.W.Frag) (tg:Expr) (J:It) (fp:List Addr) (it:Addr) (tn:Nat->Heap->Prop):Prop where
 mem:it∈fp
 obj:∀i h,tn i h->∀b∈fp,∃o,h.get? b=some o/\∀v,o.data≠.cell v
 keep:∀i h h',tn i h->(∀b∈fp,∀o,h.get? b=some o->h'.get? b=some o)->tn i h'
 item:∀(X:Cx),X.prog=P->X.w=w->X.K=K->X.calm=true->∀(i:Nat) (pins:List (Addr×Obj)) (s:Shared) (σ:St) (H:Hp) (E:Value->Shared->Prop),Inv X pins σ H s->(∀b∈fp,FpOk X pins H b)->tn i s.heap->J.go i H->
  wpAny (model P w) X.A (pyNext (.ref it)) (fun r s1=>∃u,r=some u/\
   wpAny (model P w) X.A (letOwnedTupleGo tg (.ref it) u) (fun _ s2=>∃x H',Inv X pins σ H' s2/\RelV x u/\J.yld i H x H'/\tn (i + 1) s2.heap/\∀b∈fp,H' b=none) E s1) E s
 done:∀(X:Cx),X.prog=P->X.w=w->X.K=K->X.calm=true->∀(i:Nat) (pins:List (Addr×Obj)) (s:Shared) (σ:St) (H:Hp) (E:Value->Shared->Prop),Inv X pins σ H s->(∀b∈fp,FpOk X pins H b)->tn i s.heap->J.stop i H->
  wpAny (model P w) X.A (pyNext (.ref it)) (fun r s1=>r=none/\Inv X pins σ H s1) E s
 self:∀(A:Around) (i:Nat) (s:Shared) (Q:Value->Shared->Prop) (E:Value->Shared->Prop),tn i s.heap->Q (.ref it) s->wpAny (model P w) A (pyIter (.ref it)) Q E s
abbrev TI:=St->Hp->(It->Hp->Prop)->Prop
def PIE (X:Cx) (pins:List (Addr×Obj)) (σ:St) (tg:Expr) (R:It->Hp->Prop) (itv:Value) (s2:Shared):Prop:=
 ∃(it:Addr) (fp:List Addr) (tn:Nat->Heap->Prop) (J:It) (H':Hp),itv= .ref it/\Inv X pins σ H' s2/\Turn X.prog X.w X.K tg J fp it tn/\tn 0 s2.heap/\(∀b∈fp,FpOk X pins H' b)/\R J H'
def PI (X:Cx) (tg iter:Expr) (wi:TI):Prop:=
 ∀(pins:List (Addr×Obj)) (s:Shared) (σ:St) (H:Hp) (R:It->Hp->Prop),Inv X pins σ H s->wi σ H R->
  wpAny (model X.prog X.w) X.A (eval iter X.env) (fun v s1=>wpAny (model X.prog X.w) X.A (pyIter v) (PIE X pins σ tg R) X.xe s1) X.xe s
theorem a9b {M:Model}{A:Around}{E:Value->Shared->Prop}{s:Shared}{tg:Expr}{it:Addr}{u:Value}{o:Obj}{n:String}{vs:Array Value}{Q:Unit->Shared->Prop}(ho:s.heap.get? it=some o)(hc:o.cls= .type n)(hd:o.data= .fields vs)
  (hn:["enumerate","zip","dict_itemiterator","dict_reverseitemiterator","odict_iterator","itertools.zip_longest","itertools.pairwise"].contains n=false) (hQ:Q () s):wpAny M A (letOwnedTupleGo tg (.ref it) u) Q E s:=by
 unfold letOwnedTupleGo
 cases tg <;> first
  | exact wpAny_pure hQ
  | (cases u <;> first
    | exact wpAny_pure hQ
    | (refine wpAny_bind (wpAny_load ho ?_)
       rw [hc,hd]
       show wpAny M A (if (["enumerate","zip","dict_itemiterator","dict_reverseitemiterator","odict_iterator","itertools.zip_longest","itertools.pairwise"].contains n && vs[0]? == some (rawInt _))=true then _ else _) Q E s
       rw [if_neg (by intro h;rw [hn,Bool.false_and] at h;cases h)]
       exact wpAny_pure hQ))
def Itl (K:PySem.W.Frag) (a:Addr):It:=
 ⟨fun i H=>∃xs x,SqL K H a xs/\xs[i]? =some x,fun i H x H'=>H'=H/\∀xs,SqL K H a xs->xs[i]? =some x,fun i H=>∃xs,SqL K H a xs/\xs.length<=i⟩
def Itt (K:PySem.W.Frag) (a:Addr):It:=
 ⟨fun i H=>∃xs x,SqT K H a xs/\xs[i]? =some x,fun i H x H'=>H'=H/\∀xs,SqT K H a xs->xs[i]? =some x,fun i H=>∃xs,SqT K H a xs/\xs.length<=i⟩
def Itr (lo:Int) (n:Nat):It:=⟨fun i _=>i < n,fun i H x H'=>H'=H/\x= .int (lo + i),fun i _=>n<=i⟩
theorem a78 {P:Program}{w:World}{K:PySem.W.Frag}{tg:Expr}(a it:Addr):Turn P w K tg (Itl K a) [it] it (fun i h=>h.IsListIter it a i) where
 mem:=by simp
 obj:=fun i h st b hb=>by
  have e:b=it:=by simpa using hb
  subst e
  obtain ⟨o,e,c,d⟩:=st
  exact ⟨o,e,fun v z=>by rw [d] at z;cases z⟩
 keep:=fun i h h' st k=>st.at fun o e=>k it (by simp) o e
 item:=by
  intro X hP hw hK hc i pins s σ H E I hf st hg
  subst hP hw hK
  obtain ⟨xs,x,hq,hx⟩:=hg
  obtain ⟨its,rv,p,hz⟩:=I.list hq
  obtain ⟨u,hu,ru⟩:=rv.get hx
  obtain ⟨f0,f1,f2,f3,f4,f5⟩:=hf it (by simp)
  refine wpAny_pyNext_list_item st p.isList (x:=u) (by simpa using hu) fun h' st' sb=>?_
  have I1:Inv X pins σ H {s with heap:=h'}:=I.turned (t':=s.toks) (fun b o hb e=>(sb.2 b hb).trans e) f0 f1 f3 f4 f5
  obtain ⟨o,e,c,d⟩:=id st'
  exact ⟨u,rfl,a9b (s:={s with heap:=h'}) e c d (by decide) ⟨x,H,I1,ru,⟨rfl,fun ys hy=>by rw [I.list_inj hy hq];exact hx⟩,st',fun b hb=>(hf b hb).1⟩⟩
 done:=by
  intro X hP hw hK hc i pins s σ H E I hf st hg
  subst hP hw hK
  obtain ⟨xs,hq,hx⟩:=hg
  obtain ⟨its,rv,p,hz⟩:=I.list hq
  obtain ⟨f0,f1,f2,f3,f4,f5⟩:=hf it (by simp)
  have hl:=rv.length
  exact wpAny_pyNext_list_end (I.ok.hd hc) st p.isList (by simp;walk_at "o") fun h' eb=>⟨rfl,I.turned (t':=s.toks) (fun b o hb e=>eb b o hb e) f0 f1 f3 f4 f5⟩
 self:=fun _ _ _ _ _ st h=>wpAny_pyIter_listiter st h
theorem a7b {P:Program}{w:World}{K:PySem.W.Frag}{tg:Expr}(a it:Addr):Turn P w K tg (Itt K a) [it] it (fun i h=>h.IsTupleIter it a i) where
 mem:=by simp
 obj:=fun i h st b hb=>by
  have e:b=it:=by simpa using hb
  subst e
  obtain ⟨o,e,c,d⟩:=st
  exact ⟨o,e,fun v z=>by rw [d] at z;cases z⟩
 keep:=fun i h h' st k=>st.at fun o e=>k it (by simp) o e
 item:=by
  intro X hP hw hK hc i pins s σ H E I hf st hg
  subst hP hw hK
  obtain ⟨xs,x,hq,hx⟩:=hg
  obtain ⟨its,rv,p,hz⟩:=I.tuple hq
  obtain ⟨u,hu,ru⟩:=rv.get hx
  obtain ⟨f0,f1,f2,f3,f4,f5⟩:=hf it (by simp)
  refine wpAny_pyNext_tuple_item st (show s.heap.IsTuple a its.toArray from p) (x:=u) (by simpa using hu) fun h' st' sb=>?_
  have I1:Inv X pins σ H {s with heap:=h'}:=I.turned (t':=s.toks) (fun b o hb e=>(sb.2 b hb).trans e) f0 f1 f3 f4 f5
  obtain ⟨o,e,c,d⟩:=id st'
  exact ⟨u,rfl,a9b (s:={s with heap:=h'}) e c d (by decide) ⟨x,H,I1,ru,⟨rfl,fun ys hy=>by rw [I.tuple_inj hy hq];exact hx⟩,st',fun b hb=>(hf b hb).1⟩⟩
 done:=by
  intro X hP hw hK hc i pins s σ H E I hf st hg
  subst hP hw hK
  obtain ⟨xs,hq,hx⟩:=hg
  obtain ⟨its,rv,p,hz⟩:=I.tuple hq
  obtain ⟨f0,f1,f2,f3,f4,f5⟩:=hf it (by simp)
  have hl:=rv.length
  exact wpAny_pyNext_tuple_end (I.ok.hd hc) st (show s.heap.IsTuple a its.toArray from p) (by simp;walk_at "o") fun h' eb=>⟨rfl,I.turned (t':=s.toks) (fun b o hb e=>eb b o hb e) f0 f1 f3 f4 f5⟩
 self:=fun _ _ _ _ _ st h=>wpAny_pyIter_tupleiter st h
theorem a6t {P:Program}{w:World}{K:PySem.W.Frag}{tg:Expr}(it:Addr)(lo:Int)(n:Nat):Turn P w K tg (Itr lo n) [it] it (fun i h=>IsRangeIter h it (lo + (i:Nat) * 1) ((n:Int) - (i:Nat)) 1) where
 mem:=by simp
 obj:=fun i h st b hb=>by
  have e:b=it:=by simpa using hb
  subst e
  exact ⟨_,st,fun v z=>by
   have z':Data.fields _=Data.cell v:=z
   cases z'⟩
 keep:=fun i h h' st k=>k it (by simp) _ st
 item:=by
  intro X hP hw hK hc i pins s σ H E I hf st hg
  subst hP hw hK
  obtain ⟨f0,f1,f2,f3,f4,f5⟩:=hf it (by simp)
  have W:=Walks.range (prog:=X.prog) (w:=X.w) (I.ok.hd hc) it lo 1 n
  refine W.item i s _ _ hg st fun v h' tk hv st' kk=>?_
  obtain ⟨t,rfl⟩:=hv
  have I1:Inv X pins σ H {s with heap:=h',toks:=tk}:=I.turned (fun b o hb e=>kk b o (by simpa using hb) e) f0 f1 f3 f4 f5
  refine ⟨_,rfl,a9b (s:={s with heap:=h',toks:=tk}) (n:="range_iterator") st' rfl rfl (by decide) ⟨.int (lo + i),H,I1,⟨t,?_⟩,⟨rfl,rfl⟩,st',fun b hb=>(hf b hb).1⟩⟩
  rw [Int.mul_one]
 done:=by
  intro X hP hw hK hc i pins s σ H E I hf st hg
  subst hP hw hK
  obtain ⟨f0,f1,f2,f3,f4,f5⟩:=hf it (by simp)
  exact wpAny_pyNext_range_end (I.ok.hd hc) st (by have:n<=i:=hg;walk_at "o") fun h' eb=>⟨rfl,I.turned (t':=s.toks) (fun b o hb e=>eb b o hb e) f0 f1 f3 f4 f5⟩
 self:=fun _ _ _ _ _ st h=>wpAny_pyIter_rangeiter st h
section
variable {X:Cx}{tg:Expr}
theorem a5R {pins:List (Addr×Obj)}{σ:St}{H:Hp}{s:Shared}{R:It->Hp->Prop}{E:Value->Shared->Prop}{lo hi:Int}{t u v:Tok}{tk:Nat}(I:Inv X pins σ H s)(h1:-(2 ^ 62)<=lo)(h2:lo < 2 ^ 62)(h3:-(2 ^ 62)<=hi)(h4:hi < 2 ^ 62)
  (q:R (Itr lo (hi - lo).toNat) H):wpAny (model X.prog X.w) X.A (pyIter (.ref s.heap.objs.size)) (PIE X pins σ tg R) E {s with heap:=s.heap.push {cls:=.type "range",data:=.fields #[.int lo t,.int hi u,.int 1 v]},toks:=tk}:=by
 refine wpAny_pyIter_range (IsRange.new ..) (small_one h1 h2 h3 h4) ?_
 have I1:Inv X pins σ H {s with heap:=s.heap.push {cls:=.type "range",data:=.fields #[.int lo t,.int hi u,.int 1 v]},toks:=tk}:=I.kept fun b o e=>Heap.get?_push_of_some _ e
 refine ⟨(s.heap.push {cls:=.type "range",data:=.fields #[.int lo t,.int hi u,.int 1 v]}).objs.size,[(s.heap.push {cls:=.type "range",data:=.fields #[.int lo t,.int hi u,.int 1 v]}).objs.size],_,_,H,rfl,
  I1.kept (t':=tk) fun b o e=>Heap.get?_push_of_some _ e,a6t _ lo (hi - lo).toNat,?_,fun b hb=>?_,q⟩
 ·have e1:lo + ((0:Nat):Int) * 1=lo:=by simp
  have e2:(((hi - lo).toNat:Nat):Int) - ((0:Nat):Int)=Builtin.Range.rangeSize lo hi 1:=by rw [rangeSize_one];split <;> walk_at "o"
  show IsRangeIter _ _ (lo + ((0:Nat):Int) * 1) ((((hi - lo).toNat:Nat):Int) - ((0:Nat):Int)) 1
  rw [e1,e2]
  exact Heap.get?_push_size _ rfl
 ·have e:b=(s.heap.push {cls:=.type "range",data:=.fields #[.int lo t,.int hi u,.int 1 v]}).objs.size:=by simpa using hb
  subst e
  exact I1.fpOk (Nat.le_refl _) (I1.hok.fresh (Nat.le_refl _))
def iRng1 (ta:TA):TI:=fun σ H R=>ta σ H fun vs H1=>∃j:Int,vs=[.int j]/\-(2 ^ 62)<=j/\j < 2 ^ 62/\R (Itr 0 j.toNat) H1
def iRng2 (ta:TA):TI:=fun σ H R=>ta σ H fun vs H1=>∃i j:Int,vs=[.int i,.int j]/\(-(2 ^ 62)<=i/\i < 2 ^ 62/\-(2 ^ 62)<=j/\j < 2 ^ 62)/\R (Itr i (j - i).toNat) H1
theorem a7V {a:Expr}{ta:TA}{p pos:Pos}(hg:Gl X "range")(hm:X.mg "range"=none)(ha:PA X [a] ta)(hs:starEach [a] X.env=[(false,eval a X.env)]:=by rfl):PI X tg (.Call (.Name "range" p) [a] [] pos) (iRng1 ta):=by
 intro pins s σ H R I h
 refine Call_ (U5 I hg hm boot_range (PyProof.Rows.callWith_type1 (thn (ha pos pins s σ H _ I h) fun us s1 h0=>ex5 h0 fun vs H1 I1 r1 q1=>?_) hs rfl))
 obtain ⟨j,e,q1,q2,q⟩:=q1
 subst e
 cases r1 with
 | cons r rr=>
  cases rr
  obtain ⟨t,rfl⟩:=r
  exact call_range_1 (a5R I1 (by walk_at "o") (by walk_at "o") q1 q2 (by simpa using q))
theorem a8E {a b:Expr}{ta:TA}{p pos:Pos}(hg:Gl X "range")(hm:X.mg "range"=none)(ha:PA X [a,b] ta)(hs:starEach [a,b] X.env=[(false,eval a X.env),(false,eval b X.env)]:=by rfl)(hs2:starEach [b] X.env=[(false,eval b X.env)]:=by rfl):
  PI X tg (.Call (.Name "range" p) [a,b] [] pos) (iRng2 ta):=by
 intro pins s σ H R I h
 refine Call_ (U5 I hg hm boot_range (PyProof.Rows.callWith_type1 (thn (ha pos pins s σ H _ I h) fun us s1 h0=>ex5 h0 fun vs H1 I1 r1 q1=>?_) (by rw [hs,hs2]) (by rw [hs2];rfl)))
 obtain ⟨i,j,e,⟨q1,q2,q3,q4⟩,q⟩:=q1
 subst e
 cases r1 with
 | cons r rr=>
  cases rr with
  | cons r' rr=>
   cases rr
   obtain ⟨t,rfl⟩:=r
   obtain ⟨t',rfl⟩:=r'
   exact call_range_2 (a5R I1 q1 q2 q3 q4 q)
def tFor (wi:TI) (g:TG) (tb:TS):TS:=fun D σ H=>wi σ H fun J H1=>∃W:Nat->Nat->St->Hp->Prop,(∃m,W 0 m σ H1)/\∀i m σ H,W i m σ H->
 (J.stop i H/\D.nx σ H)\/(J.go i H/\∃N:St->Hp->Prop,(∀σ' H',N σ' H'->∃m',m' < m/\W (i + 1) m' σ' H')/\∀x H',J.yld i H x H'->g x σ H' fun σ2 H2=>tb {D with nx:=N,ct:=N,bk:=D.nx} σ2 H2)
def pinsAt (fp:List Addr) (h:Heap):List (Addr×Obj):=fp.filterMap fun b=>(h.get? b).map fun o=>(b,o)
theorem w4 {fp:List Addr}{h:Heap}{b:Addr}{o:Obj}(hb:b∈fp)(e:h.get? b=some o):(b,o)∈pinsAt fp h:=List.mem_filterMap.mpr ⟨b,hb,by rw [e];rfl⟩
theorem a8O {fp:List Addr}{h:Heap}{p:Addr×Obj}(hp:p∈pinsAt fp h):p.1∈fp/\h.get? p.1=some p.2:=by
 obtain ⟨b,hb,e⟩:=List.mem_filterMap.mp hp
 cases q:h.get? b with
 | none=>rw [q] at e;cases e
 | some o=>
  rw [q] at e
  have e':(b,o)=p:=Option.some.inj e
  subst e'
  exact ⟨hb,q⟩
theorem Inv.pinned {pins:List (Addr×Obj)}{σ:St}{H:Hp}{s:Shared}{fp:List Addr}(I:Inv X pins σ H s)(hf:∀b∈fp,FpOk X pins H b)(ho:∀b∈fp,∃o,s.heap.get? b=some o/\∀v,o.data≠.cell v):Inv X (pins ++ pinsAt fp s.heap) σ H s:=
 I.pins_of fun p hp=>(List.mem_append.mp hp).elim (fun z=>I.pin p (List.mem_append_right _ z)) fun z=>by
  obtain ⟨hb,e⟩:=a8O z
  obtain ⟨f0,f1,f2,_⟩:=hf p.1 hb
  obtain ⟨o,e',d⟩:=ho p.1 hb
  rw [e] at e';cases e'
  exact ⟨e,f0,f1,f2,d⟩
theorem Inv.unpinned {pins pl:List (Addr×Obj)}{σ:St}{H:Hp}{s:Shared}(I:Inv X (pins ++ pl) σ H s):Inv X pins σ H s:=I.pins_of fun p hp=>I.pin p (List.mem_append_right _ (List.mem_append_left _ hp))
theorem b2X {iter:Expr}{body:List Stmt}{wi:TI}{g:TG}{tb:TS}{pos:Pos}(hp:PassesOwn (model X.prog X.w) X.A X.env X.xe)(hc:X.calm=true)(hi:PI X tg iter wi)(hg:PG X tg g)(hb:PSs X body tb)
  (hs:∀x,foldedSetIterable iter X.env x=pure x:=by intro _;rfl):PS X (.For tg iter body [] pos) (tFor wi g tb):=by
 intro pins s σ H D I h
 refine wpAny_For (thn (hi pins s σ H _ I h) fun v s1 h1=>thn h1 fun itv s2 h2=>?_) hs
 obtain ⟨it,fp,tn,J,H2,e,I2,T,st2,f2,W,⟨m0,w0⟩,turn⟩:=h2
 subst e
 have stat:∀{H':Hp},(∀b∈fp,H' b=none)->∀b∈fp,FpOk X pins H' b:=fun hn b hb=>⟨hn b hb,(f2 b hb).2⟩
 refine codeAny_forLoop_any (fun n s'=>∃i σ' H',Inv X pins σ' H' s'/\tn i s'.heap/\(∀b∈fp,H' b=none)/\W i n σ' H') ?_ m0 ⟨0,σ,H2,I2,st2,fun b hb=>(f2 b hb).1,w0⟩
 rintro n s3 ⟨i,σ3,H3,I3,st3,fr3,w3⟩
 rcases turn i n σ3 H3 w3 with ⟨stop,qn⟩ | ⟨go,N,hN,step⟩
 ·refine wpAny_passesOwn hp (thn (T.done X rfl rfl rfl hc i pins s3 σ3 H3 X.xe I3 (stat fr3) st3 stop) fun r s4 ⟨hr,I4⟩=>?_)
  subst hr
  exact wpAny_execs_nil ⟨σ3,H3,I4,qn⟩
 ·refine wpAny_passesOwn hp (thn (T.item X rfl rfl rfl hc i pins s3 σ3 H3 X.xe I3 (stat fr3) st3 go) fun r s4 ⟨u,hr,h4⟩=>?_)
  subst hr
  refine wpAny_passesOwn hp (thn h4 fun _ s5 ⟨x,H5,I5,r5,y5,st5,fr5⟩=>?_)
  have I5':=I5.pinned (stat fr5) (T.obj _ _ st5)
  refine wpAny_passesOwn hp (thn (hg _ s5 σ3 H5 x u _ I5' r5 (step x H5 y5)) fun _ s6 ⟨σ6,H6,I6,q6⟩=>?_)
  refine wpAny_passesOwn hp (thn (hb _ s6 σ6 H6 _ I6 q6) fun f s7 q7=>?_)
  have again:∀{σ7:St} {H7:Hp},Inv X (pins ++ pinsAt fp s5.heap) σ7 H7 s7->N σ7 H7->∃m,m < n/\∃i σ' H',Inv X pins σ' H' s7/\tn i s7.heap/\(∀b∈fp,H' b=none)/\W i m σ' H':=fun {σ7 H7} I7 n7=>by
   obtain ⟨m',hm,w7⟩:=hN σ7 H7 n7
   refine ⟨m',hm,i + 1,σ7,H7,I7.unpinned,T.keep _ _ _ st5 fun b hb o e=>(I7.pin (b,o) (List.mem_append_right _ (List.mem_append_right _ (w4 hb e)))).1,fun b hb=>?_,w7⟩
   obtain ⟨o,e,d⟩:=T.obj _ _ st5 b hb
   exact (I7.pin (b,o) (List.mem_append_right _ (List.mem_append_right _ (w4 hb e)))).2.1
  cases f with
  | next=>obtain ⟨σ7,H7,I7,n7⟩:=q7;exact again I7 n7
  | cont=>obtain ⟨σ7,H7,I7,n7⟩:=q7;exact again I7 n7
  | brk=>obtain ⟨σ7,H7,I7,q7⟩:=q7;exact ⟨σ7,H7,I7.unpinned,q7⟩
  | ret v=>obtain ⟨x7,σ7,H7,I7,r7,q7⟩:=q7;exact ⟨x7,σ7,H7,I7.unpinned,r7,q7⟩
end
abbrev R2:=V->V->Hp->VK->Prop
def OpR (X:Cx) (f:Value->Value->Sem Value) (r:R2):Prop:=
 ∀(pins:List (Addr×Obj)) (s:Shared) (σ:St) (H:Hp) (x y:V) (v u:Value) (Q:VK),Inv X pins σ H s->RelV x v->RelV y u->r x y H Q->
  wpAny (model X.prog X.w) X.A (f v u) (EP X pins σ Q) X.xe s
def UnR (X:Cx) (f:Value->Sem Value) (r:V->Hp->VK->Prop):Prop:=
 ∀(pins:List (Addr×Obj)) (s:Shared) (σ:St) (H:Hp) (x:V) (v:Value) (Q:VK),Inv X pins σ H s->RelV x v->r x H Q->
  wpAny (model X.prog X.w) X.A (f v) (EP X pins σ Q) X.xe s
def CallR (X:Cx) (f:Value) (r:List V->Hp->VK->Prop):Prop:=
 ∀(pins:List (Addr×Obj)) (s:Shared) (σ:St) (H:Hp) (xs:List V) (us:List Value) (Q:VK),Inv X pins σ H s->Vals xs us->r xs H Q->
  wpAny (model X.prog X.w) X.A (call f us) (EP X pins σ Q) X.xe s
def TruR (X:Cx) (r:V->Hp->(Bool->Hp->Prop)->Prop):Prop:=
 ∀(pins:List (Addr×Obj)) (s:Shared) (σ:St) (H:Hp) (x:V) (v:Value) (Q:Bool->Hp->Prop),Inv X pins σ H s->RelV x v->r x H Q->
  wpAny (model X.prog X.w) X.A (truthy v) (TP X pins σ Q) X.xe s
def tOp (r:R2) (ta tb:TE):TE:=fun σ H Q=>ta σ H fun x H1=>tb σ H1 fun y H2=>r x y H2 Q
def tUn (r:V->Hp->VK->Prop) (ta:TE):TE:=fun σ H Q=>ta σ H fun x H1=>r x H1 Q
def rI (C:Int->Int->Prop) (g:Int->Int->V):R2:=fun x y H Q=>∃i j,x= .int i/\y= .int j/\C i j/\Q (g i j) H
def rI0 (g:Int->Int->V):R2:=fun x y H Q=>∃i j,x= .int i/\y= .int j/\Q (g i j) H
def rU (g:Int->V):V->Hp->VK->Prop:=fun x H Q=>∃i,x= .int i/\Q (g i) H
section
variable {X:Cx}{a b c:Expr}{ta tb tc:TE}{pos:Pos}
theorem binT (ha:PE X a ta)(hb:PE X b tb){pins:List (Addr×Obj)}{s:Shared}{σ:St}{H:Hp}{R:V->V->Hp->Prop}(I:Inv X pins σ H s)
  (h:ta σ H fun x H1=>tb σ H1 fun y H2=>R x y H2) {Q:Value->Shared->Prop} {f:Value->Value->Sem Value}
  (hf:∀v u s2 x y H2,Inv X pins σ H2 s2->RelV x v->RelV y u->R x y H2->wpAny (model X.prog X.w) X.A (f v u) Q X.xe s2):
  wpAny (model X.prog X.w) X.A (eval a X.env) (fun v s₁=>wpAny (model X.prog X.w) X.A (eval b X.env) (fun u s₂=>wpAny (model X.prog X.w) X.A (f v u) Q X.xe s₂) X.xe s₁) X.xe s:=by
 refine thn (ha pins s σ H _ I h) fun v s1 h0=>ex5 h0 fun x H1 I1 r1 q1=>?_
 refine thn (hb pins s1 σ H1 _ I1 q1) fun u s2 h0=>ex5 h0 fun y H2 I2 r2 q2=>?_
 exact hf v u s2 x y H2 I2 r1 r2 q2
theorem pe_op {op:Operator}{r:R2}(ho:OpR X (binaryOp op) r)(ha:PE X a ta)(hb:PE X b tb):PE X (.BinOp a op b pos) (tOp r ta tb):=by
 intro pins s σ H Q I h
 exact wpAny_BinOp (binT ha hb I h fun v u s2 x y H2 I2 rx ry q=>ho pins s2 σ H2 x y v u Q I2 rx ry q)
theorem pe_un {op:UnaryOp}{r:V->Hp->VK->Prop}(ho:UnR X (unaryOp op) r)(ha:PE X a ta):PE X (.UnaryOp op a pos) (tUn r ta):=by
 intro pins s σ H Q I h
 exact UnaryOp_ (thn (ha pins s σ H _ I h) fun v s1 h0=>ex5 h0 fun x H1 I1 r1 q1=>ho pins s1 σ H1 x v Q I1 r1 q1)
theorem opI {f:Value->Value->Sem Value}{C:Int->Int->Prop}{g:Int->Int->Int}
  (rule:∀(i j:Int) (t u:Tok) (s:Shared) (Q:Value->Shared->Prop) (E:Value->Shared->Prop),C i j->Q (.int (g i j) s.toks) {s with toks:=s.toks + 1}->wpAny (model X.prog X.w) X.A (f (.int i t) (.int j u)) Q E s):
  OpR X f (rI C fun i j=>.int (g i j)):=by
 intro pins s σ H x y v u Q I rx ry h
 obtain ⟨i,j,rfl,rfl,hc,q⟩:=h
 obtain ⟨t,rfl⟩:=rx
 obtain ⟨t',rfl⟩:=ry
 exact rule i j t t' s _ _ hc ⟨.int (g i j),H,I.tok _,⟨_,rfl⟩,q⟩
theorem opI0 {f:Value->Value->Sem Value}{g:Int->Int->Int}
  (rule:∀(i j:Int) (t u:Tok) (s:Shared) (Q:Value->Shared->Prop) (E:Value->Shared->Prop),Q (.int (g i j) s.toks) {s with toks:=s.toks + 1}->wpAny (model X.prog X.w) X.A (f (.int i t) (.int j u)) Q E s):
  OpR X f (rI0 fun i j=>.int (g i j)):=by
 intro pins s σ H x y v u Q I rx ry h
 obtain ⟨i,j,rfl,rfl,q⟩:=h
 obtain ⟨t,rfl⟩:=rx
 obtain ⟨t',rfl⟩:=ry
 exact rule i j t t' s _ _ ⟨.int (g i j),H,I.tok _,⟨_,rfl⟩,q⟩
theorem opB0 {f:Value->Value->Sem Value}{g:Int->Int->Bool}
  (rule:∀(i j:Int) (t u:Tok) (s:Shared) (Q:Value->Shared->Prop) (E:Value->Shared->Prop),Q (.bool (g i j)) s->wpAny (model X.prog X.w) X.A (f (.int i t) (.int j u)) Q E s):
  OpR X f (rI0 fun i j=>.bl (g i j)):=by
 intro pins s σ H x y v u Q I rx ry h
 obtain ⟨i,j,rfl,rfl,q⟩:=h
 obtain ⟨t,rfl⟩:=rx
 obtain ⟨t',rfl⟩:=ry
 exact rule i j t t' s _ _ ⟨.bl (g i j),H,I,rfl,q⟩
def CPow (i j:Int):Prop:=0<=j/\j<=1000000/\i.natAbs < 2 ^ 64
theorem b3O:OpR X (binaryOp .Add) (rI0 fun i j=>.int (i + j)):=opI0 fun _ _ _ _ _ _ _ q=>add_int q
theorem b3m:OpR X (binaryOp .Sub) (rI0 fun i j=>.int (i - j)):=opI0 fun _ _ _ _ _ _ _ q=>sub_int q
theorem b3H:OpR X (binaryOp .Mod) (rI (fun _ j=>0 < j) fun i j=>.int (i % j)):=opI fun i j _ _ _ _ _ hc q=>by
 have h1:(0:Int) < j:=hc
 exact mod_int' (by walk_at "o") (by rw [Int.fmod_eq_emod_of_nonneg i (by walk_at "o")];exact q)
theorem b26:OpR X (binaryOp .Pow) (rI CPow fun i j=>.int (i ^ j.toNat)):=opI fun _ _ _ _ _ _ _ hc q=>pow_int_small hc.1 hc.2.1 hc.2.2 q
theorem unI {f:Value->Sem Value}{g:Int->Int}
  (rule:∀(i:Int) (t:Tok) (s:Shared) (Q:Value->Shared->Prop) (E:Value->Shared->Prop),Q (.int (g i) s.toks) {s with toks:=s.toks + 1}->wpAny (model X.prog X.w) X.A (f (.int i t)) Q E s):
  UnR X f (rU fun i=>.int (g i)):=by
 intro pins s σ H x v Q I rx h
 obtain ⟨i,rfl,q⟩:=h
 obtain ⟨t,rfl⟩:=rx
 exact rule i t s _ _ ⟨.int (g i),H,I.tok _,⟨_,rfl⟩,q⟩
theorem b4g:UnR X (unaryOp .USub) (rU fun i=>.int (-i)):=unI fun _ _ _ _ _ q=>neg_int q
end
section
variable {X:Cx}{a b c:Expr}{ta tb tc:TE}{pos:Pos}
theorem b2w:OpR X (compareOp .Lt) (rI0 fun i j=>.bl (decide (i < j))):=opB0 fun _ _ _ _ _ _ _ q=>lt_int q
theorem b2m:OpR X (compareOp .Gt) (rI0 fun i j=>.bl (decide (j < i))):=opB0 fun _ _ _ _ _ _ _ q=>gt_int q
theorem b2q:OpR X (compareOp .GtE) (rI0 fun i j=>.bl (decide (j<=i))):=opB0 fun _ _ _ _ _ _ _ q=>ge_int q
theorem OpR.or {f:Value->Value->Sem Value}{r r':R2}(h:OpR X f r)(h':OpR X f r'):OpR X f (fun x y H Q=>r x y H Q\/r' x y H Q):=by
 intro pins s σ H x y v u Q I rx ry q
 rcases q with q | q
 ·exact h pins s σ H x y v u Q I rx ry q
 ·exact h' pins s σ H x y v u Q I rx ry q
theorem nomark (b:Expr){op:CmpOp}(h:op≠.In:=by decide)(h2:op≠.NotIn:=by decide):behindInMarks op b=false:=by
 have e1:(op == CmpOp.In)=false:=by cases op <;> first | rfl | exact absurd rfl h
 have e2:(op == CmpOp.NotIn)=false:=by cases op <;> first | rfl | exact absurd rfl h2
 cases b <;> simp [behindInMarks,e1,e2]
theorem b03 {op:CmpOp}{r:R2}(ho:OpR X (compareOp op) r)(ha:PE X a ta)(hb:PE X b tb)(hm:behindInMarks op b=false):PE X (.Compare a [op] [b] pos) (tOp r ta tb):=by
 intro pins s σ H Q I h
 exact wpAny_Compare1 (binT ha hb I h fun v u s2 x y H2 I2 rx ry q=>ho pins s2 σ H2 x y v u Q I2 rx ry q) hm
def tTest (t:TE):TT:=fun σ H Q=>t σ H fun x H'=>∃k,x= .bl k/\Q k H'
theorem b1I {op:CmpOp}{r:R2}(ho:OpR X (compareOp op) r)(ha:PE X a ta)(hb:PE X b tb)(hm:behindInMarks op b=false):PT X (.Compare a [op] [b] pos) (tTest (tOp r ta tb)):=by
 intro pins s σ H Q I h
 refine wpAny_isTrue_Compare1 (thn (ha pins s σ H _ I h) fun v s1 h0=>ex5 h0 fun x H1 I1 r1 q1=>thn (hb pins s1 σ H1 _ I1 q1) fun u s2 h0=>ex5 h0 fun y H2 I2 r2 q2=>
  thn (ho pins s2 σ H2 x y v u _ I2 r1 r2 q2) fun c s3 ⟨z,H3,I3,r3,k,e,q3⟩=>?_) hm
 subst e
 cases r3
 exact wpAny_truthy_bool ⟨H3,I3,q3⟩
def TruV (K:PySem.W.Frag) (x:V) (H:Hp) (k:Bool):Prop:=
 match x with
 | .non=>k=false
 | .bl b=>k=b
 | .int i=>k=(i != 0)
 | .str y=>y.length<=sizeLine/\k=((y.length:Int) != 0)
 | .byt y=>y.size<=sizeLine/\k=((y.size:Int) != 0)
 | .ref p=>(∃xs,SqL K H p xs/\k= !xs.isEmpty)\/(∃xs,SqT K H p xs/\k= !xs.isEmpty)\/∃kvs,H p=some (.dK kvs)/\k= !kvs.isEmpty
 | _=>False
theorem a6O {κ:Type}{kvs:List (κ×V)}{vs:List (κ×Value)}(r:KV kvs vs):(!vs.isEmpty)= !kvs.isEmpty:=by
 cases r <;> rfl
theorem a21 {xs:List V}{its:List Value}(r:Vals xs its):(!its.toArray.isEmpty)= !xs.isEmpty:=by
 cases r <;> simp
theorem line63:(sizeLine:Nat) < 2 ^ 63:=by rw [sizeLine_eq];decide
theorem a9E:TruR X (fun x H Q=>∃k,TruV X.K x H k/\Q k H):=by
 intro pins s σ H x v Q I rx h
 obtain ⟨k,e,q⟩:=h
 have hl:=line63
 have hs:sizeLine=16777216:=sizeLine_eq
 cases x with
 | non=>
  cases rx
  have e':k=false:=e
  subst e'
  exact truthy_none ⟨H,I,q⟩
 | bl b=>
  cases rx
  have e':k=b:=e
  subst e'
  exact wpAny_truthy_bool ⟨H,I,q⟩
 | int i=>
  obtain ⟨t,rfl⟩:=rx
  have e':k=(i != 0):=e
  subst e'
  exact PySem.P.truthy_int ⟨H,I,q⟩
 | str y=>
  obtain ⟨t,rfl⟩:=rx
  obtain ⟨hy,e'⟩:y.length<=sizeLine/\k=((y.length:Int) != 0):=e
  subst e'
  exact PySem.P.truthy_str (by walk_at "o") ⟨H,I.tok _,q⟩
 | byt y=>
  obtain ⟨t,rfl⟩:=rx
  obtain ⟨hy,e'⟩:y.size<=sizeLine/\k=((y.size:Int) != 0):=e
  subst e'
  exact PySem.W.truthy_bytes (by walk_at "o") ⟨H,I.tok _,q⟩
 | ref p=>
  cases rx
  have e':(∃xs,SqL X.K H p xs/\k= !xs.isEmpty)\/(∃xs,SqT X.K H p xs/\k= !xs.isEmpty)\/∃kvs,H p=some (.dK kvs)/\k= !kvs.isEmpty:=e
  rcases e' with ⟨xs,hx,e'⟩ | ⟨xs,hx,e'⟩ | ⟨kvs,hx,e'⟩
  ·subst e'
   obtain ⟨its,r,pl,hz⟩:=I.list hx
   have hlen:=r.length
   exact wpAny_truthy_list pl.isList (by simp only [List.size_toArray];walk_at "o") ⟨H,I.tok _,by rw [a21 r];exact q⟩
  ·subst e'
   obtain ⟨its,r,pl,hz⟩:=I.tuple hx
   have hlen:=r.length
   exact truthy_tuple pl (by simp only [List.size_toArray];walk_at "o") ⟨H,I.tok _,by rw [a21 r];exact q⟩
  ·subst e'
   obtain ⟨hz,hS,vs,r,m⟩:kvs.length<=sizeLine/\(p == sysModules)=false/\∃vs,KV kvs vs/\s.heap.DictOf (mixKind X.prog X.w) p vs:=I.hok p _ hx
   have hlen:kvs.length=vs.length:=Paired.length r
   exact wpAny_truthy_dict hS m (by walk_at "o") ⟨H,I.tok _,by rw [a6O r];exact q⟩
 | _=>exact (show False from e).elim
theorem a9r (ha:PE X a ta)(he:∀whole,isTrue a X.env whole=(do let v <-whole;standAt a.pos;holding [v] (truthy v))):
  PT X a (fun σ H Q=>ta σ H fun x H'=>∃k,TruV X.K x H' k/\Q k H'):=by
 intro pins s σ H Q I h
 exact isTrue_plain (thn (ha pins s σ H _ I h) fun v s1 h0=>ex5 h0 fun x H1 I1 r1 q1=>a9E pins s1 σ H1 x v Q I1 r1 q1) (he _)
theorem vals1 {x:V}{us:List Value}(r:Vals [x] us):∃u,us=[u]/\RelV x u:=by
 cases r with
 | cons r1 r2=>cases r2;exact ⟨_,rfl,r1⟩
theorem vals2 {x y:V}{us:List Value}(r:Vals [x,y] us):∃u w',us=[u,w']/\RelV x u/\RelV y w':=by
 cases r with
 | cons r1 r2=>
  cases r2 with
  | cons r3 r4=>cases r4;exact ⟨_,_,rfl,r1,r3⟩
theorem a0v:CallR X (.builtin "abs") (fun xs H Q=>∃i,xs=[.int i]/\Q (.int (if i < 0 then -i else i)) H):=by
 intro pins s σ H xs us Q I r h
 obtain ⟨i,rfl,q⟩:=h
 obtain ⟨u,rfl,t,rfl⟩:=vals1 r
 exact call_abs_int fun u tk=>⟨.int (if i < 0 then -i else i),H,I.tok _,⟨_,rfl⟩,q⟩
theorem a8T (hc:X.calm=true):CallR X (.builtin "max") (fun xs H Q=>∃i j,xs=[.int i,.int j]/\Q (.int (if j > i then j else i)) H):=by
 intro pins s σ H xs us Q I r h
 obtain ⟨i,j,rfl,q⟩:=h
 obtain ⟨u,w',rfl,⟨t,rfl⟩,⟨t',rfl⟩⟩:=vals2 r
 refine max_two_ints (I.ok.hd hc) fun h' tk k=>⟨_,H,I.kept k,?_,q⟩
 by_cases hj:j > i
 ·rw [if_pos hj,if_pos hj];exact ⟨_,rfl⟩
 ·rw [if_neg hj,if_neg hj];exact ⟨_,rfl⟩
theorem a8l (hc:X.calm=true):CallR X (.builtin "min") (fun xs H Q=>∃i j,xs=[.int i,.int j]/\Q (.int (if j < i then j else i)) H):=by
 intro pins s σ H xs us Q I r h
 obtain ⟨i,j,rfl,q⟩:=h
 obtain ⟨u,w',rfl,⟨t,rfl⟩,⟨t',rfl⟩⟩:=vals2 r
 refine min_two_ints (I.ok.hd hc) fun h' tk k=>⟨_,H,I.kept k,?_,q⟩
 by_cases hj:j < i
 ·rw [if_pos hj,if_pos hj];exact ⟨_,rfl⟩
 ·rw [if_neg hj,if_neg hj];exact ⟨_,rfl⟩
theorem a4L:CallR X (.type "str") (fun xs H Q=>∃i,xs=[.int i]/\i.natAbs.log2 < 1920/\Q (.str (toString i)) H):=by
 intro pins s σ H xs us Q I r h
 obtain ⟨i,rfl,hz,q⟩:=h
 obtain ⟨u,rfl,t,rfl⟩:=vals1 r
 exact PySem.P.str_of_int hz ⟨.str _,H,I.tok _,⟨_,rfl⟩,q⟩
end
section
variable {prog:Program}{w:World}{A:Around}{E:Value->Shared->Prop}{s:Shared}{K:PySem.W.Frag}{x dx C f:Addr}{mA:Str->Option Value}{name:Str}{v:Value}
end
theorem RelO.some_of {v:V}{o:Option Value}(r:RelO (some v) o):∃u,o=some u/\RelV v u:=by
 cases o with
 | none=>exact (show False from r).elim
 | some u=>exact ⟨u,rfl,r⟩
section
variable {P:Program}{w:World}{H H':Hp}{h h':Heap}{a C dx:Addr}{fs fs':List (Str×V)}
end
structure Cls (K:PySem.W.Frag) (C:Addr):Prop where
 pg:PySem.W.plainGet K C Str.empty=true
 hd:PySem.W.hasDictIn K C=true
 po:PySem.W.plainOver K C=true
 sa:PySem.W.findIn K (.ref C) "__setattr__"=some (some (.builtin "object.__setattr__"))
section
variable {X:Cx}{pins:List (Addr×Obj)}{σ:St}{H:Hp}{s:Shared}{a C dx:Addr}{fs:List (Str×V)}{f:Str}{v:V}{A:Around}{E:Value->Shared->Prop}
end
section
variable {X:Cx}{o e value:Expr}{f:Str}{pos pos' tpos:Pos}{ta tv:TE}
end
section
variable {X:Cx}{pins:List (Addr×Obj)}{σ:St}{H:Hp}{s:Shared}{A:Around}{E:Value->Shared->Prop}{Q:Value->Shared->Prop}{c:Value}{b:Bool}
inductive TyOf (K:PySem.W.Frag) (H:Hp):V->Value->Prop where
 | non:TyOf K H .non (.type "NoneType")
 | bl (x:Bool):TyOf K H (.bl x) (.type "bool")
 | int (i:Int):TyOf K H (.int i) (.type "int")
 | str (x:Str):TyOf K H (.str x) (.type "str")
 | flt (x:UInt64):TyOf K H (.flt x) (.type "float")
 | lst {a:Addr} {xs:List V} (e:H a=some (.lst xs)):TyOf K H (.ref a) (.type "list")
 | frz {a:Addr} {o:Obj} {xs:List V} (e:H a=some (.frz o (.lst xs))):TyOf K H (.ref a) (.type "list")
 | tup {a:Addr} {xs:List V} (e:H a=some (.tup xs)):TyOf K H (.ref a) (.type "tuple")
 | dK {a:Addr} {kvs:List (Key×V)} (e:H a=some (.dK kvs)):TyOf K H (.ref a) (.type "dict")
 | dT {a:Addr} {kvs:List (List Key×V)} (e:H a=some (.dT kvs)):TyOf K H (.ref a) (.type "dict")
 | ins {a C dx:Addr} {fs:List (Str×V)} (e:H a=some (.ins C dx fs)) (cl:Cls K C) (ha:PySem.W.findIn K (.ref C) "__class__"=some (some (.builtin "object.__class__")))
   (hn:PySem.W.specialIn K (.builtin "object.__class__") "__get__"=some (some (.builtin "getset_descriptor.__get__"))) (htk:PySem.W.takesIn K (.builtin "object.__class__")=some true)
   (hm:PySem.W.mroIn K C (.type "object")=some true):TyOf K H (.ref a) (.ref C)
end
structure Room (k:Nat) (A:Around):Prop where
 hd:A.handled=none
 dp:A.depth + 3 * k + 5 < recursionLimit
 un:A.units + 16 * k + 200 < cLine
 gd:A.guards=some []
theorem Room.mono {j k:Nat}{A:Around}(r:Room k A)(h:j<=k):Room j A:=⟨r.hd,by have:=r.dp;walk_at "o",by have:=r.un;walk_at "o",r.gd⟩
theorem Room.deeper {k:Nat}{A:Around}(r:Room (k + 1) A)(env:Env):Room k (A.deeper env):=
 ⟨r.hd,by have:=r.dp;show A.depth + 1 + 3 * k + 5 < _;walk_at "o",by have:=r.un;show A.units + 3 + 16 * k + 200 < _;walk_at "o",r.gd⟩
theorem Room.depth {k:Nat}{A:Around}(r:Room k A):A.depth < recursionLimit:=by have:=r.dp;walk_at "o"
theorem Room.units {k:Nat}{A:Around}(r:Room k A):A.units + 64 < cLine:=by have:=r.un;walk_at "o"
def tNil:TA:=fun _ H Q=>Q [] H
def tCons (ta:TE) (tr:TA):TA:=fun σ H Q=>ta σ H fun x H1=>tr σ H1 fun xs H2=>Q (x :: xs) H2
section
variable {X:Cx}{e:Expr}{es:List Expr}{te:TE}{t:TA}{pos:Pos}
theorem a9p:PA X [] tNil:=fun _ _ _ _ H Q I h=>Calls.spliced_nil ⟨[],H,I,.nil,h⟩
theorem a5s (ha:PE X e te)(hr:PA X es t)(hs:starEach (e :: es) X.env=(false,eval e X.env) :: starEach es X.env:=by rfl):PA X (e :: es) (tCons te t):=by
 intro pos pins s σ H Q I h
 rw [hs]
 show wpAny _ _ (spliced ((false,eval e X.env) :: backTo pos (starEach es X.env))) _ _ s
 refine Calls.spliced_cons (thn (ha pins s σ H _ I h) fun u s1 h0=>ex5 h0 fun x H1 I1 r1 q1=>?_)
 exact thn (hr pos pins s1 σ H1 _ I1 q1) fun us s2 h0=>ex5 h0 fun xs H2 I2 r2 q2=>⟨x :: xs,H2,I2,.cons r1 r2,q2⟩
def tTup (t:TA):TE:=fun σ H Q=>t σ H fun xs H1=>xs.length<=sizeLine/\∀p,H1 p=none->Q (.ref p) (upd H1 p (.tup xs))
def tLst (t:TA):TE:=fun σ H Q=>t σ H fun xs H1=>xs.length<=sizeLine/\∀p,H1 p=none->Q (.ref p) (upd H1 p (.lst xs))
theorem a6M {x1}(h:PA X es t):PE X (.Tuple es x1 pos) (tTup t):=by
 intro pins s σ H Q I hq
 refine wpAny_Tuple_spliced (thn (h pos pins s σ H _ I hq) fun us s1 ⟨xs,H1,I1,r,z,q⟩=>⟨by rw [<-r.length];exact z,?_⟩)
 have hf:H1 s1.heap.objs.size=none:=I1.hok.fresh (Nat.le_refl _)
 refine ⟨.ref s1.heap.objs.size,upd H1 s1.heap.objs.size (.tup xs),I1.laid (t':=s1.toks) (fun b u e=>Heap.get?_push_of_some _ e) (Nat.le_refl _) ?_,rfl,q _ hf⟩
 exact ⟨z,us,r,TupN.new _ _⟩
theorem b3x (h:PA X es t):PE X (.List es pos) (tLst t):=by
 intro pins s σ H Q I hq
 refine wpAny_List_spliced (thn (h pos pins s σ H _ I hq) fun us s1 ⟨xs,H1,I1,r,z,q⟩=>⟨by rw [<-r.length];exact z,?_⟩)
 have hf:H1 s1.heap.objs.size=none:=I1.hok.fresh (Nat.le_refl _)
 refine ⟨.ref s1.heap.objs.size,upd H1 s1.heap.objs.size (.lst xs),I1.laid (t':=s1.toks) (fun b u e=>Heap.get?_push_of_some _ e) (Nat.le_refl _) ?_,rfl,q _ hf⟩
 exact ⟨z,us,0,r,Heap.get?_push_size _ rfl⟩
end
abbrev Sp:=List V->Hp->VK->XK->Prop
abbrev CXT:=List Env->Hp->Shared->XK->Value->Shared->Prop
structure Env0 (P:Program) (w:World) (K:PySem.W.Frag) (mg:Str->Option Value) (base:Heap) (A:Around) (outer:List Env) (s:Shared) (H:Hp):Prop where
 frames:A.frames=some outer
 mod:Mod K mg base
 bs:∀b o,base.get? b=some o->s.heap.get? b=some o/\H b=none
 bsz:base.objs.size<=s.heap.objs.size
 funs:s.heap.FunFrames base outer
 frf:∀b∈frs outer,H b=none
 hok:HOk P w H s.heap
 bare:AllBare s.gens
def CE (outer:List Env) (P:Program) (w:World) (H:Hp) (s:Shared) (Q:VK) (u:Value) (s':Shared):Prop:=
 ∃v H',s'.os=s.os/\AllBare s'.gens/\Un (frs outer) [] H H' s.heap s'.heap/\HOk P w H' s'.heap/\RelV v u/\Q v H'
def CR (CX:CXT) (outer:List Env) (P:Program) (w:World) (H:Hp) (s:Shared) (Q:VK) (E:XK) (r:Result) (s':Shared):Prop:=
 match r with
 | .ok (.ret u)=>CE outer P w H s Q u s'
 | .ok _=>False
 | .error e=>CX outer H s E e s'
structure FnOk (P:Program) (w:World) (K:PySem.W.Frag) (mg:Str->Option Value) (base:Heap) (CX:CXT) (k:Nat) (f:Addr) (fd:FuncData) (ps:List Str) (sp:Sp):Prop where
 len:∀vs H Q E,sp vs H Q E->vs.length=ps.length
 run:∀(A:Around) (outer:List Env) (s:Shared) (H:Hp) (args:Args) (us:List Value) (vs:List V) (Q:VK) (E:XK),Room k A->Env0 P w K mg base A outer s H->BindsTo s fd args (ps.zip us)->Vals vs us->sp vs H Q E->
  codeAny (model P w) A (.call (.ref f) args) (CR CX outer P w H s Q E) s
theorem FnOk.mono {P:Program}{w:World}{K:PySem.W.Frag}{mg:Str->Option Value}{base:Heap}{CX:CXT}{j k:Nat}{f:Addr}{fd:FuncData}{ps:List Str}{sp:Sp}(F:FnOk P w K mg base CX j f fd ps sp)(h:j<=k):
  FnOk P w K mg base CX k f fd ps sp:=⟨F.len,fun A outer s H args us vs Q E hr=>F.run A outer s H args us vs Q E (hr.mono h)⟩
section
variable {X:Cx}{pins:List (Addr×Obj)}{σ:St}{H:Hp}{s s':Shared}
theorem Inv.env0 (I:Inv X pins σ H s):Env0 X.prog X.w X.K X.mg X.base X.A X.stack s H:=
 ⟨I.ok.frames,I.ok.mod,I.bs,Nat.le_trans I.ok.bsz I.sz,I.stack,I.stkFree,I.hok,I.bare⟩
theorem Inv.after {Q:VK}{u:Value}(I:Inv X pins σ H s)(h:CE X.stack X.prog X.w H s Q u s'):EP X pins σ Q u s':=by
 obtain ⟨v,H',os,bare,un,hok,r,q⟩:=h
 obtain ⟨hh,g,d,t,os'⟩:=s'
 obtain rfl:os'=s.os:=os
 exact ⟨v,H',I.call (h':=hh) (g':=g) (d':=d) (t':=t) (ch:=[]) un hok bare (fun b z=>absurd z (by simp)),r,q⟩
end
def tCall (sp:Sp) (dvs:List V) (E:XK) (t:TA):TE:=fun σ H Q=>t σ H fun vs H1=>sp (vs ++ dvs) H1 Q E
def Binds (K:PySem.W.Frag) (fd:FuncData) (ps:List Str) (ds:List Value):Prop:=
 ∀(s:Shared) (us:List Value),K.In s.heap->(us ++ ds).length=ps.length->BindsTo s fd ⟨us,[]⟩ (ps.zip (us ++ ds))
theorem Binds.all {K:PySem.W.Frag}{fd:FuncData}{ps:List Str}(h:∀us:List Value,us.length=ps.length->bindArgs fd ⟨us,[]⟩=pure (ps.zip us)):Binds K fd ps []:=fun s us _ hl=>by
 rw [List.append_nil] at hl ⊢
 exact .of_eq (h us hl)
def Passes (CX:CXT) (X:Cx) (E:XK):Prop:=∀(pins:List (Addr×Obj)) (σ:St) (H:Hp) (s:Shared) (e:Value) (s':Shared),Inv X pins σ H s->CX X.stack H s E e s'->X.xe e s'
section
variable {X:Cx}{CX:CXT}{k:Nat}{f C:Addr}{fd:FuncData}{ps:List Str}{sp:Sp}{dvs:List V}{ds:List Value}{E:XK}{x m:Str}{p pos apos:Pos}{e o:Expr}{es:List Expr}{ta:TE}{t:TA}
theorem b3X {pins:List (Addr×Obj)}{σ:St}{H:Hp}{s:Shared}{Q:VK}{us:List Value}{vs:List V}(F:FnOk X.prog X.w X.K X.mg X.base CX k f fd ps sp)(hr:Room k X.A)(hb:Binds X.K fd ps ds)(hd:Vals dvs ds)(hx:Passes CX X E)
  (I:Inv X pins σ H s) (r:Vals vs us) (h:sp (vs ++ dvs) H Q E):wpAny (model X.prog X.w) X.A (call (.ref f) us) (EP X pins σ Q) X.xe s:=by
 have r2:Vals (vs ++ dvs) (us ++ ds):=r.append hd
 have hl:(us ++ ds).length=ps.length:=by rw [<-r2.length];exact F.len _ _ _ _ h
 refine wpAny_call (codeAny_mono (F.run X.A X.stack s H ⟨us,[]⟩ (us ++ ds) (vs ++ dvs) Q E hr I.env0 (hb s us I.kIn hl) r2 h) fun r s' hq=>?_)
 cases r with
 | error e=>exact hx pins σ H s e s' I hq
 | ok fl=>
  cases fl with
  | ret u=>exact I.after hq
  | next=>exact False.elim hq
  | brk=>exact False.elim hq
  | cont=>exact False.elim hq
theorem a7m (F:FnOk X.prog X.w X.K X.mg X.base CX k f fd ps sp)(hr:Room k X.A)(hg:Gl X x)(hm:X.mg x=some (.ref f))(hk:PySem.W.keepIn X.K (.ref f)=true)(hb:Binds X.K fd ps ds)(hd:Vals dvs ds)(hx:Passes CX X E)
  (ha:PA X (e :: es) t) (hdb:(x == ("__debug__":Str))=false:=by decide) (he:starEach (e :: es) X.env=(false,eval e X.env) :: starEach es X.env:=by rfl) (hpl:(backTo pos (starEach es X.env)).any (·.1)=false:=by rfl):
  PE X (.Call (.Name x p) (e :: es) [] pos) (tCall sp dvs E t):=by
 intro pins s σ H Q I h
 refine wpAny_Call_Name_kw (a7R I hg hm ?_ hdb)
 refine PySem.W.callWith_K (h₀:=X.base) I.ok.mod.kin hk (thn (ha pos pins s σ H _ I h) fun us s1 h0=>ex5 h0 fun vs H1 I1 r q=>⟨I1.kIn,?_⟩) he hpl
 exact b3X F hr hb hd hx I1 r q
end
section
variable {X:Cx}{CX:CXT}{k:Nat}{f C:Addr}{fd:FuncData}{ps ks:List Str}{sp:Sp}{E:XK}{x m:Str}{p pos apos kpos:Pos}{e o:Expr}{es:List Expr}{kws:List Keyword}{te ta:TE}{t tk:TA}{nm:Option Str}
variable {g:List Value->List Value->List Value}{gV:List V->List V->List V}
end
structure FnScope (N P:List Str) (sc:Scope):Prop where
 kind:sc.kind= .function
 co:sc.isCoroutine=false
 gen:sc.isGenerator=false
 nd:N.Nodup
 pre:N.take P.length=P
 par:∀x∈P,sc.names.lookup x=some .local\/sc.names.lookup x=some .cell
 nofree:∀y∈sc.names,y.2≠.free
theorem a35 {kindOf:Str->Option NameKind}{x:Str}:∀{binds:List (Str×Value)} {m:Str->Option Value},(∀v,(x,v)∉binds)->bindL kindOf binds m x=m x
 | [],_,_=>rfl
 | (n,v) :: r,m,h=>by
  unfold bindL
  rw [a35 fun w hw=>h w (List.mem_cons_of_mem _ hw)]
  split
  ·have:x≠n:=by rintro rfl;exact h v List.mem_cons_self
   simp [this]
  ·rfl
theorem a4b {kindOf:Str->Option NameKind}{x:Str}:∀{binds:List (Str×Value)} {m:Str->Option Value},(∀v,(x,v)∉binds)->bindC kindOf binds m x=m x
 | [],_,_=>rfl
 | (n,v) :: r,m,h=>by
  unfold bindC
  rw [a4b fun w hw=>h w (List.mem_cons_of_mem _ hw)]
  split
  ·rfl
  ·have:x≠n:=by rintro rfl;exact h v List.mem_cons_self
   simp [this]
theorem a3Y {kindOf:Str->Option NameKind}{x:Str}{v:Value}:∀{P:List Str} {vs:List Value} {i:Nat} {m:Str->Option Value},P.Nodup->P[i]? =some x->vs[i]? =some v->kindOf x=some .local->
  bindL kindOf (P.zip vs) m x=some v
 | [],_,_,_,_,h,_,_=>by simp at h
 | _ :: _,[],_,_,_,_,h,_=>by simp at h
 | p :: P,w :: vs,0,m,nd,h1,h2,hk=>by
  simp at h1 h2;subst h1;subst h2
  show bindL kindOf ((p,w) :: P.zip vs) m p=_
  unfold bindL
  rw [a35 fun v hv=>(List.nodup_cons.mp nd).1 (List.of_mem_zip hv).1,if_pos hk]
  simp
 | p :: P,w :: vs,i + 1,m,nd,h1,h2,hk=>by
  show bindL kindOf ((p,w) :: P.zip vs) m x=_
  unfold bindL
  exact a3Y (i:=i) (List.nodup_cons.mp nd).2 (by simpa using h1) (by simpa using h2) hk
theorem a4m {kindOf:Str->Option NameKind}{x:Str}{v:Value}:∀{P:List Str} {vs:List Value} {i:Nat} {m:Str->Option Value},P.Nodup->P[i]? =some x->vs[i]? =some v->kindOf x≠some .local->
  bindC kindOf (P.zip vs) m x=some v
 | [],_,_,_,_,h,_,_=>by simp at h
 | _ :: _,[],_,_,_,_,h,_=>by simp at h
 | p :: P,w :: vs,0,m,nd,h1,h2,hk=>by
  simp at h1 h2;subst h1;subst h2
  show bindC kindOf ((p,w) :: P.zip vs) m p=_
  unfold bindC
  rw [a4b fun v hv=>(List.nodup_cons.mp nd).1 (List.of_mem_zip hv).1,if_neg hk]
  simp
 | p :: P,w :: vs,i + 1,m,nd,h1,h2,hk=>by
  show bindC kindOf ((p,w) :: P.zip vs) m x=_
  unfold bindC
  exact a4m (i:=i) (List.nodup_cons.mp nd).2 (by simpa using h1) (by simpa using h2) hk
def start (N:List Str) (vs:List V):St:=vs.map some ++ List.replicate (N.length - vs.length) none
def cxOf (CX:CXT) (P:Program) (w:World) (K:PySem.W.Frag) (mg:Str->Option Value) (base:Heap) (N:List Str) (qual:Str) (scope:Scope) (f:Addr) (cd:Value) (A:Around) (outer:List Env) (s:Shared) (H:Hp) (E:XK):Cx where
 prog:=P
 w:=w
 K:=K
 mg:=mg
 base:=base
 A:=A.deeper (envOfC qual scope s.heap.objs.size f cd)
 N:=N
 s₀:=s
 H₀:=H
 env:=envOfC qual scope s.heap.objs.size f cd
 outer:=outer
 stack:=envOfC qual scope s.heap.objs.size f cd :: outer
 ex:=[]
 calm:=true
 fn:=fun _=>true
 pn:=[]
 xe:=fun e s'=>wpAny (model P w) (A.deeper (envOfC qual scope s.heap.objs.size f cd)) (leaving (envOfC qual scope s.heap.objs.size f cd) e) (fun _ s''=>CX outer H s E e s'') (fun e' s''=>CX outer H s E e' s'') s'
theorem a6c {sc:Scope}{n:Nat}{x:Str}(h:sc.names.lookup x=some .cell):∃c,(cellsFrom n sc.names []).lookup x=some c:=by
 have q:=PySem.W.cellsFrom_some sc.names n [] (.inl h)
 exact Option.isSome_iff_exists.mp q
theorem a8o {CX:CXT}{P:Program}{w:World}{K:PySem.W.Frag}{mg:Str->Option Value}{base:Heap}{N ps:List Str}{qual:Str}{scope:Scope}{f:Addr}{cd:Value}{A:Around}{outer:List Env}{s s1:Shared}{H:Hp}{E:XK}{us:List Value}{vs:List V}
  (S:FnScope N ps scope) (hd:A.handled=none) (e0:Env0 P w K mg base A outer s H) (hl:vs.length=ps.length) (r:Vals vs us)
  (x:InCallC s s.heap.objs.size (bindL (envOfC qual scope s.heap.objs.size f cd).kindOf (ps.zip us) fun _=>none) (cellsFrom (s.heap.objs.size + 1) scope.names []) (bindC (envOfC qual scope s.heap.objs.size f cd).kindOf (ps.zip us) fun _=>none) s1):
  Inv (cxOf CX P w K mg base N qual scope f cd A outer s H E) [] (start N vs) H s1:=by
 have hpl:ps.length<=N.length:=by have:=congrArg List.length S.pre;rw [List.length_take] at this;walk_at "o"
 obtain ⟨h1,tk,rfl,hk⟩:=x.done
 have noA:∀b:Addr,b∉(cxOf CX P w K mg base N qual scope f cd A outer s H E).ex:=fun b z=>absurd (show b∈([]:List Addr) from z) (by simp)
 refine ⟨⟨e0.mod,S.kind,rfl,rfl,Nat.le_refl _,fun y z c h1 h2=>?_,fun y hy=>?_,fun y c _ h=>?_,fun _=>hd,Around.frames_deeper e0.frames,.inr ⟨rfl,rfl⟩,fun b z=>absurd z (noA b),e0.bs,e0.bsz,fun b _ _=>noA b,fun b z=>absurd z (noA b),e0.funs,e0.frf⟩,
  rfl,e0.bare,Un.kept hk,⟨_,x.toInCall.ns,fun i y v h1 h2 h3=>?_⟩,fun y c h=>⟨_,x.cell y c h⟩,e0.hok.fresh (Nat.le_refl _),fun y c h=>?_,fun p hp=>absurd (show p∈([]:List (Addr×Obj)) from hp) (by simp),e0.hok.kept hk,?_⟩
 ·exact name_of_addr x.apart (PySem.mem_of_lookup h1) (PySem.mem_of_lookup h2)
 ·have hy:scope.names.lookup y=some .cell\/scope.names.lookup y=some .free:=hy
  rcases hy with hy | hy
  ·exact a6c hy
  ·exact absurd rfl (S.nofree _ (PySem.mem_of_lookup hy))
 ·exact Nat.le_of_lt (x.above y c (PySem.mem_of_lookup h))
 ·have hi:i < vs.length:=by
   unfold start at h2
   by_cases hi:i < vs.length
   ·exact hi
   ·rw [List.getElem?_append_right (by simpa using hi)] at h2
    rw [List.getElem?_replicate] at h2
    split at h2 <;> cases h2
  have ha:vs[i]? =some v:=by
   unfold start at h2
   rw [List.getElem?_append_left (by simpa using hi),List.getElem?_map] at h2
   cases e:vs[i]? with
   | none=>rw [e] at h2;cases h2
   | some a=>rw [e] at h2;cases h2;rfl
  obtain ⟨u,hu,rv⟩:=r.get ha
  have hp:ps[i]? =some y:=by
   rw [<-S.pre,List.getElem?_take_of_lt (by walk_at "o")];exact h1
  have ndP:ps.Nodup:=by rw [<-S.pre];exact S.nd.sublist (List.take_sublist _ _)
  refine ⟨u,rv,?_⟩
  rcases S.par y (List.mem_of_getElem? hp) with k | k
  ·exact .inl ⟨k,a3Y ndP hp hu k⟩
  ·obtain ⟨c,e⟩:=a6c (n:=s.heap.objs.size + 1) k
   refine .inr ⟨.inl k,c,e,?_⟩
   have q:=x.cell y c e
   rw [a4m ndP hp hu (by show scope.names.lookup y≠_;rw [k];decide)] at q
   exact q
 ·exact e0.hok.fresh (Nat.le_of_lt (x.above y c (PySem.mem_of_lookup h)))
 ·unfold start
  show _=N.length
  rw [List.length_append,List.length_map,List.length_replicate]
  walk_at "o"
theorem fn_of {CX:CXT}{P:Program}{w:World}{K:PySem.W.Frag}{mg:Str->Option Value}{base:Heap}{k:Nat}{f:Addr}{name qual:Str}{params:Arguments}{body:List Stmt}{scope:Scope}{dV kV doc pm cdv ct oc:Value}{an od:Option Addr}
  {osl:Array (Option Value)} {N ps:List Str} {sp:Sp} (lk:K.lookup f=some ⟨oc,od,.func (PySem.W.fnOf name qual params body scope dV kV doc pm an cdv ct),osl⟩) (hcd:PySem.W.codeIn K cdv qual=true) (S:FnScope N ps scope)
  (len:∀vs H Q E,sp vs H Q E->vs.length=ps.length)
  (hbody:∀(A:Around) (outer:List Env) (s:Shared) (H:Hp) (vs:List V) (Q:VK) (E:XK),Room k (A.deeper (envOfC qual scope s.heap.objs.size f cdv))->sp vs H Q E->
   ∃t,PSs (cxOf CX P w K mg base N qual scope f cdv A outer s H E) body t/\t {nx:=fun _ H'=>Q .non H',rt:=Q} (start N vs) H):
  FnOk P w K mg base CX (k + 1) f (PySem.W.fnOf name qual params body scope dV kV doc pm an cdv ct) ps sp:=by
 refine ⟨len,fun A outer s H args us vs Q E hr e0 hb r hsp=>?_⟩
 have hl:=len _ _ _ _ hsp
 have KX:K.In s.heap:=e0.mod.kin.keeps fun b o e=>(e0.bs b o e).1
 have lim:s.heap.NoLimit:=e0.mod.nolimit.keeps fun b o e=>(e0.bs b o e).1
 have hkind:∀y∈ps.zip us,scope.names.lookup y.1=some .local\/(scope.names.lookup y.1=some .cell/\((cellsFrom (s.heap.objs.size + 1) scope.names []).lookup y.1).isSome=true):=fun ⟨n,v⟩ hy=>by
  rcases S.par n (List.of_mem_zip hy).1 with q | q
  ·exact .inl q
  ·exact .inr ⟨q,PySem.W.cellsFrom_some _ _ _ (.inl q)⟩
 refine codeAny_call_function hr.depth (KX _ _ lk) rfl S.co S.gen rfl (PySem.W.codeRec_of KX hcd) (hb _ _ _ _ ?_)
 refine wpAny_newFunctionEnv_cells S.kind hkind fun env he s1 x=>?_
 subst he
 refine ⟨lim.keeps x.toInCall.keep,codeAny_func ?_⟩
 obtain ⟨t,ht,hq⟩:=hbody A outer s H vs Q E (hr.deeper _) hsp
 have I:Inv (cxOf CX P w K mg base N qual scope f cdv A outer s H E) [] (start N vs) H s1:=a8o S hr.hd e0 hl r x
 refine wpAny_mono (ht [] s1 (start N vs) H _ I hq) (fun fl s' hs=>?_) fun e s' hs=>hs
 have fin:∀{σ':St} {H':Hp} {v:V} {u:Value},Inv (cxOf CX P w K mg base N qual scope f cdv A outer s H E) [] σ' H' s'->RelV v u->Q v H'->CE outer P w H s Q u s':=
  fun {σ' H' v u} J rv q=>⟨v,H',J.os,J.bare,J.base,J.hok,rv,q⟩
 cases fl with
 | ret u=>
  obtain ⟨v,σ',H',J,rv,q⟩:=hs
  exact fin J rv q
 | next=>
  obtain ⟨σ',H',J,q⟩:=hs
  exact fin (v:=V.non) (u:=Value.none) J rfl q
 | brk=>
  obtain ⟨_,_,_,q⟩:=hs
  exact False.elim q
 | cont=>
  obtain ⟨_,_,_,q⟩:=hs
  exact False.elim q
section
variable {X:Cx}{x:Str}{p pos:Pos}{e:Expr}{es:List Expr}{t:TA}{id T:String}{r:List V->Hp->VK->Prop}
def tCB (r:List V->Hp->VK->Prop) (t:TA):TE:=fun σ H Q=>t σ H fun vs H1=>r vs H1 Q
theorem a5P (hc:CallR X (.builtin id) r)(hg:Gl X x)(hm:X.mg x=none)(hv:bootBuiltins x=some (.builtin id))(ha:PA X (e :: es) t)(hn:x≠"__name__":=by decide)(hdb:(x == ("__debug__":Str))=false:=by decide)
  (he:starEach (e :: es) X.env=(false,eval e X.env) :: starEach es X.env:=by rfl) (hpl:(backTo pos (starEach es X.env)).any (·.1)=false:=by rfl):PE X (.Call (.Name x p) (e :: es) [] pos) (tCB r t):=by
 intro pins s σ H Q I h
 refine wpAny_Call_Name_kw (U5 I hg hm hv ?_ hn hdb)
 exact PyProof.Rows.callWith_builtin1 (thn (ha pos pins s σ H _ I h) fun us s1 h0=>ex5 h0 fun vs H1 I1 r1 q1=>hc pins s1 σ H1 vs us Q I1 r1 q1) he hpl
theorem a8v (hc:CallR X (.type T) r)(hg:Gl X x)(hm:X.mg x=none)(hv:bootBuiltins x=some (.type T))(ha:PA X (e :: es) t)(hn:x≠"__name__":=by decide)(hdb:(x == ("__debug__":Str))=false:=by decide)
  (he:starEach (e :: es) X.env=(false,eval e X.env) :: starEach es X.env:=by rfl) (hpl:(backTo pos (starEach es X.env)).any (·.1)=false:=by rfl):PE X (.Call (.Name x p) (e :: es) [] pos) (tCB r t):=by
 intro pins s σ H Q I h
 refine wpAny_Call_Name_kw (U5 I hg hm hv ?_ hn hdb)
 exact PyProof.Rows.callWith_type1 (thn (ha pos pins s σ H _ I h) fun us s1 h0=>ex5 h0 fun vs H1 I1 r1 q1=>hc pins s1 σ H1 vs us Q I1 r1 q1) he hpl
end
end L2
namespace HT
open PySem PyProof.Rows
def lexLt:List Int->List Int->Bool
 | [],[]=>false
 | [],_ :: _=>true
 | _ :: _,[]=>false
 | x :: xs,y :: ys=>if x=y then lexLt xs ys else decide (x < y)
theorem lexLt_cons (x y:Int)(xs ys:List Int):lexLt (x :: xs) (y :: ys)=if x=y then lexLt xs ys else decide (x < y):=rfl
theorem a3A:lexLt [] []=false:=rfl
theorem a29 (y:Int)(ys:List Int):lexLt [] (y :: ys)=true:=rfl
theorem a3j (x:Int)(xs:List Int):lexLt (x :: xs) []=false:=rfl
theorem a9t (A:Around)(s:Shared)(a:Int)(t:Tok)(c:Int)(u:Tok):∃e,SeqAt.EqAt A s (.int a t) (.int c u) e/\(e=true↔a=c):=
 ⟨(a == c),SeqAt.EqAt.int_int a t c u,by simp⟩
theorem b0g (A:Around)(s:Shared)(a:Int)(t:Tok)(c:Int)(u:Tok)(prog:Program)(w:World)(E:Value->Shared->Prop)(Q:Value->Shared->Prop)(h:Q (.bool (decide (a < c))) s):
  wpAny (model prog w) A (richCompare .Lt (.int a t) (.int c u)) Q E s:=
 (PyProof.Rows.lt_int h:wpAny (model prog w) A (compareOp .Lt (.int a t) (.int c u)) Q E s)
section
open PySem.SeqAt
open PySem.AutoSeq1 (wpAny_loadPart')
open PySem.MeetsSeq PySem.MeetsSeq2 PySem.MeetsSeq3
theorem a3I (l b:Addr)(items items2:Array Value)(n n2:Nat)(dd dd2:Option Addr)(sl sl2:Array (Option Value))(ns ms:List Int)(hi:IntsAre items.toList ns)(hj:IntsAre items2.toList ms):
  Meets (Builtin.«tuple.__lt__» ⟨[.ref l,.ref b],[]⟩)
   (fun _ R s=>s.heap.get? l=some {cls:=.type "tuple",dict:=dd,data:=.seq items n,slots:=sl}/\s.heap.get? b=some {cls:=.type "tuple",dict:=dd2,data:=.seq items2 n2,slots:=sl2}/\
    R (.ok (.ret (.bool (lexLt ns ms)))) s):=
 .of_wp fun prog w A R s h=>by
  obtain ⟨hp,g,d,tk,os⟩:=s;obtain ⟨hl,hb,h⟩:=h
  have f2:=AutoSeq1.sub_tuple_tuple
  have z1:items.size=ns.length:=by rw [<-hi.length];simp
  have z2:items2.size=ms.length:=by rw [<-hj.length];simp
  wp_walk using wpAny_loadPart' hl,wpAny_loadPart' hb,wpAny_forIn_list _ (fun rest b s'=>b.1=none/\s'=⟨hp,g,d,tk,os⟩/\∃(vs ws:List Value) (ns' ms':List Int),rest=vs.zip ws/\
   IntsAre vs ns'/\IntsAre ws ms'/\ns'.length + items2.size=ms'.length + items.size/\R (.ok (.ret (.bool (lexLt ns' ms')))) ⟨hp,g,d,tk,os⟩) _
  case turn=>
   rintro ⟨y,x⟩ rest b s' ⟨hb',rfl,vs,ws,ns',ms',hz,hvi,hwi,hlen,hR⟩
   cases hvi with
   | nil=>rw [List.zip_nil_left] at hz;cases hz
   | cons a t hvi'=>
    cases hwi with
    | nil=>rw [List.zip_nil_right] at hz;cases hz
    | cons c u hwi'=>
     rw [List.zip_cons_cons] at hz
     injection hz with hyx hrest
     injection hyx with hy hx
     subst hy hx
     rw [lexLt_cons] at hR
     simp only [List.length_cons] at hlen
     obtain ⟨e,he,hiff⟩:=a9t A.in1 ⟨hp,g,d,tk,os⟩ a t c u
     refine wpAny_bind (he prog w _ _ ?_)
     cases e with
     | true=>
      rw [if_pos (hiff.mp rfl)] at hR
      wp_walk
      exact ⟨rfl,rfl,_,_,_,_,hrest,hvi',hwi',by walk_at "o",hR⟩
     | false=>
      rw [if_neg (fun q=>absurd (hiff.mpr q) Bool.false_ne_true)] at hR
      have hri:=b0g A.in1 ⟨hp,g,d,tk,os⟩ a t c u prog w
      wp_walk using hri
      exact ⟨_,rfl,by simpa using hR⟩
  case fin=>
   rintro ⟨b1,b2⟩ s' ⟨hb',rfl,vs,ws,ns',ms',hz,hvi,hwi,hlen,hR⟩
   simp only at hb'
   subst hb'
   have hv:lexLt ns' ms'=decide (items.size < items2.size):=by
    cases hvi with
    | nil=>
     cases hwi with
     | nil=>
      simp only [List.length_nil] at hlen
      rw [a3A]
      exact (decide_eq_false (by walk_at "o")).symm
     | cons c u hw=>
      simp only [List.length_nil,List.length_cons] at hlen
      rw [a29]
      exact (decide_eq_true (by walk_at "o")).symm
    | cons a t hv=>
     cases hwi with
     | nil=>
      simp only [List.length_nil,List.length_cons] at hlen
      rw [a3j]
      exact (decide_eq_false (by walk_at "o")).symm
     | cons c u hw=>
      rw [List.zip_cons_cons] at hz
      cases hz
   rw [hv] at hR
   wp_walk
   exact ⟨_,rfl,by simpa [Builtin.Tuple.tupleCompareSizes] using hR⟩
  case h=>
   exact ⟨rfl,rfl,items.toList,items2.toList,ns,ms,rfl,hi,hj,by walk_at "o",h⟩
end
section
variable {prog:Program}{w:World}{A:Around}{E:Value->Shared->Prop}{s:Shared}
theorem lt_tupInts {l b:Addr}{items items2:Array Value}{ns ms:List Int}{Q:Value->Shared->Prop}(hl:IsTup s.heap l items)(hb:IsTup s.heap b items2)(hi:IntsAre items.toList ns)(hj:IntsAre items2.toList ms)
  (hu:A.units < cLine) (h:Q (.bool (lexLt ns ms)) s):wpAny (model prog w) A (compareOp .Lt (.ref l) (.ref b)) Q E s:=by
 obtain ⟨⟨cls,dd,data,sl⟩,ho,hc,n,hd⟩:=id hl
 obtain ⟨⟨cls2,dd2,data2,sl2⟩,ho2,hc2,n2,hd2⟩:=id hb
 simp only at hc hd hc2 hd2
 subst hc hd hc2 hd2
 exact richCompare_meets_room (op:=.Lt) ⟨_,ho,rfl⟩ ⟨_,ho2,rfl⟩ PySem.F.slot_tuple_lt PySem.F.entry_tuple_lt (PySem.F.args_tuple_lt_2 _ _) (a3I l b items items2 n n2 dd dd2 sl sl2 ns ms hi hj)
  ⟨ho,ho2,show Value.bool (lexLt ns ms)≠Value.notImplemented/\Q (.bool (lexLt ns ms)) s from ⟨(fun x=>nomatch x),h⟩⟩ hu
theorem cat_tup {t b:Addr}{vs ws:List Value}{Q:Value->Shared->Prop}(ht:IsTup s.heap t vs.toArray)(hb:IsTup s.heap b ws.toArray)(hv:vs≠[])
  (h1:ws=[]->Q (.ref t) s) (h2:ws≠[]->Q (.ref s.heap.objs.size) {s with heap:=s.heap.push {cls:=.type "tuple",data:=.seq (vs ++ ws).toArray}})
  (hsz:vs.length + ws.length<=sizeLine):wpAny (model prog w) A (binaryOp .Add (.ref t) (.ref b)) Q E s:=by
 obtain ⟨⟨cls,dd,data,sl⟩,ho,hc,n,hd⟩:=id ht
 obtain ⟨⟨cls2,dd2,data2,sl2⟩,ho2,hc2,n2,hd2⟩:=id hb
 simp only at hc hd hc2 hd2
 subst hc hd hc2 hd2
 have e:vs.toArray ++ ws.toArray=(vs ++ ws).toArray:=by simp
 by_cases hw:ws=[]
 ·exact concat_meets ⟨_,ho,rfl⟩ ⟨_,ho2,rfl⟩ noFill_tuple_add seq_tuple_add PySem.F.slot_tuple_add PySem.F.entry_tuple_add (PySem.F.args_tuple_add_2 _ _)
   (tuple_addW1 t b vs.toArray ws.toArray n n2 dd dd2 sl sl2 (by simpa using hv) (by simp [hw])) ⟨ho,ho2,h1 hw⟩
 ·refine concat_meets ⟨_,ho,rfl⟩ ⟨_,ho2,rfl⟩ noFill_tuple_add seq_tuple_add PySem.F.slot_tuple_add PySem.F.entry_tuple_add (PySem.F.args_tuple_add_2 _ _)
   (tuple_addW2 t b vs.toArray ws.toArray n n2 dd dd2 sl sl2 (by simpa using hv) (by simpa using hw) (by rw [List.size_toArray,List.size_toArray];exact hsz)) ⟨ho,ho2,?_⟩
  rw [e]
  exact h2 hw
def sIx (n d:Nat):Option Int->Nat
 | none=>d
 | some v=>if v < 0 then (v + (n:Int)).toNat else min v.toNat n
theorem sIx_none (n d:Nat):sIx n d none=d:=rfl
theorem sIx_nat (n d k:Nat):sIx n d (some (k:Int))=min k n:=by
 show (if (k:Int) < 0 then ((k:Int) + (n:Int)).toNat else min (k:Int).toNat n)=min k n
 rw [if_neg (by walk_at "o"),Int.toNat_natCast]
theorem b2R (n d:Nat)(hd:d<=n)(o:Option Int):sIx n d o<=n:=by
 cases o with
 | none=>exact hd
 | some v=>
  show (if v < 0 then (v + (n:Int)).toNat else min v.toNat n)<=n
  by_cases hv:v < 0
  ·rw [if_pos hv];walk_at "o"
  ·rw [if_neg hv];exact Nat.min_le_right _ _
theorem a7B (v:Int)(n d:Nat):(if v < 0 then max (v + (n:Int)) 0 else min v (n:Int))=((sIx n d (some v):Nat):Int):=by
 show (if v < 0 then max (v + (n:Int)) 0 else min v (n:Int))=(((if v < 0 then (v + (n:Int)).toNat else min v.toNat n):Nat):Int)
 by_cases hv:v < 0
 ·simp only [if_pos hv];walk_at "o"
 ·simp only [if_neg hv];walk_at "o"
theorem a6A (lo hi:Option Int)(n:Nat):Builtin.Slice.sliceAdjust lo hi 1 (n:Int)=(((sIx n 0 lo:Nat):Int),((sIx n n hi:Nat):Int)):=by
 have h1:¬((1:Int) < 0):=by walk_at "o"
 unfold Builtin.Slice.sliceAdjust
 simp only [h1,if_false]
 refine Prod.ext ?_ ?_
 ·cases lo with
  | none=>rfl
  | some v=>exact a7B v n 0
 ·cases hi with
  | none=>rfl
  | some v=>exact a7B v n n
theorem a64 (i j:Nat):Builtin.Slice.slicePlaces (i:Int) (j:Int) 1=j - i:=by
 unfold Builtin.Slice.slicePlaces
 have h1:(1:Int) > 0:=by walk_at "o"
 simp only [h1,if_true,Int.ediv_one]
 split <;> walk_at "o"
theorem a2U {v:Value}{o:Option Int}{Q:Option Int->Shared->Prop}(p:IsPart v o)(h:Q o s):wpAny (model prog w) A (Builtin.Slice.slicePartIndex v) Q E s:=by
 cases p with
 | none=>exact slicePart_none h
 | int i t=>exact slicePart_int h
theorem sliceApplied_gen {sl:Addr}{vl vu:Value}{lo hi:Option Int}{n:Nat}{Q:Int×Int×Nat->Shared->Prop}(hs:s.heap.IsSliceOf sl vl vu .none)(pl:IsPart vl lo)(pu:IsPart vu hi)
  (h:Q (((sIx n 0 lo:Nat):Int),1,sIx n n hi - sIx n 0 lo) s):wpAny (model prog w) A (Builtin.Slice.sliceApplied (.ref sl) (pure (n:Int))) Q E s:=by
 obtain ⟨os,hos,hcs,hds⟩:=id hs
 unfold Builtin.Slice.sliceApplied Builtin.Slice.sliceFields
 refine wpAny_bind (wpAny_bind (wpAny_field hos hds (x:=vl) rfl (wpAny_bind (wpAny_field hos hds (x:=vu) rfl (wpAny_bind (wpAny_field hos hds (x:=.none) rfl (wpAny_pure ?_)))))))
 refine wpAny_bind (slicePart_none ?_)
 show wpAny _ _ (if ((1:Int) == 0)=true then _ else _) _ _ s
 rw [if_neg (by decide)]
 refine wpAny_bind (a2U pl (wpAny_bind (a2U pu (wpAny_bind (wpAny_pure ?_)))))
 show wpAny _ _ (match Builtin.Slice.sliceAdjust lo hi 1 (n:Int) with | (lo,hi)=>pure (lo,(1:Int),Builtin.Slice.slicePlaces lo hi 1)) _ _ s
 rw [a6A lo hi n]
 show wpAny _ _ (pure (((sIx n 0 lo:Nat):Int),(1:Int),Builtin.Slice.slicePlaces ((sIx n 0 lo:Nat):Int) ((sIx n n hi:Nat):Int) 1)) _ _ s
 rw [a64]
 exact wpAny_pure h
theorem b0k (xs:Array Value)(i k:Nat):((List.range k).filterMap fun (m:Nat)=>xs[((i:Int) + (m:Int) * 1).toNat]?).toArray=((xs.toList.drop i).take k).toArray:=by
 have e:(fun (m:Nat)=>xs[((i:Int) + (m:Int) * 1).toNat]?)=fun m=>xs[i + m]?:=by
  funext m
  have:((i:Int) + (m:Int) * 1).toNat=i + m:=by walk_at "o"
  rw [this]
 rw [e]
 have:=pick_run xs i k
 rw [List.filterMap_map] at this
 have e2:((fun x=>xs[x]?) ∘ fun x=>i + x)=fun m=>xs[i + m]?:=rfl
 rw [e2] at this
 rw [this]
theorem getItem_tuple_cut {t sl:Addr}{items:Array Value}{vl vu:Value}{lo hi:Option Int}{Q:Value->Shared->Prop}(ht:IsTup s.heap t items)(hs:s.heap.IsSliceOf sl vl vu .none)(pl:IsPart vl lo)(pu:IsPart vu hi)
  (hw:¬(sIx items.size 0 lo=0/\sIx items.size items.size hi=items.size))
  (h:Q (.ref s.heap.objs.size) {s with heap:=s.heap.push {cls:=.type "tuple",data:=.seq ((items.toList.drop (sIx items.size 0 lo)).take (sIx items.size items.size hi - sIx items.size 0 lo)).toArray}})
  (hsz:items.size<=sizeLine):wpAny (model prog w) A (getItem (.ref t) (.ref sl)) Q E s:=by
 have htake:sizeOk (.seq ((items.toList.drop (sIx items.size 0 lo)).take (sIx items.size items.size hi - sIx items.size 0 lo)).toArray):=by
  show ((items.toList.drop (sIx items.size 0 lo)).take (sIx items.size items.size hi - sIx items.size 0 lo)).toArray.size<=sizeLine
  rw [List.size_toArray,List.length_take,List.length_drop,Array.length_toList]
  omega
 have hj:sIx items.size items.size hi<=items.size:=b2R _ _ (Nat.le_refl _) hi
 obtain ⟨os,hos,hcs,hds⟩:=id hs
 have hTs:s.TypeIs (.ref sl) "slice":=⟨os,hos,hcs⟩
 unfold getItem
 try with_reducible refine wpAny_holding ?_
 first | refine wpAny_bind (wpAny_pure ?_) | skip
 refine wpAny_bind (wpAny_sequenceKey ht.typeIs (by decide) ?_)
 refine wpAny_bind (wpAny_callSpecial?_slot (name:=Str.ofString "__getitem__") ht.typeIs PyProof.Rows.slot_tuple_getitem
  (wpAny_call_entry PyProof.Rows.slot_tuple_getitem ht.typeIs entry_tuple_getitem ?_ (args_tuple_getitem _ _)))
 show wpAny _ _ (Builtin.Tuple.tupleItemsOf (.ref t) >>=_) _ _ s
 refine wpAny_bind (tupleItemsOf_ ht ?_)
 refine wpAny_bind (wpAny_typeOf hTs ?_)
 rw [if_pos (by decide)]
 refine wpAny_bind (sliceApplied_gen hs pl pu ?_)
 have hno:¬((((sIx items.size 0 lo:Nat):Int) == 0 && (1:Int) == 1 && (sIx items.size items.size hi - sIx items.size 0 lo) == items.size)=true):=by
  intro q
  rw [Bool.and_eq_true,Bool.and_eq_true] at q
  have q1:((sIx items.size 0 lo:Nat):Int)=0:=eq_of_beq q.1.1
  have q2:sIx items.size items.size hi - sIx items.size 0 lo=items.size:=eq_of_beq q.2
  exact hw ⟨by omega,by omega⟩
 show wpAny _ _ (if (((sIx items.size 0 lo:Nat):Int) == 0 && (1:Int) == 1 && (sIx items.size items.size hi - sIx items.size 0 lo) == items.size)=true then _ else _) _ _ s
 rw [if_neg hno,b0k]
 first
  | exact wpAny_bind (m:=Builtin.Tuple.tupleExact _) (wpAny_newObj_type (wpAny_pure ⟨_,rfl,wpAny_pure h⟩) htake)
  | exact wpAny_bind (m:=Builtin.Tuple.tupleExact _) (wpAny_newObj_type (wpAny_bind (wpAny_pure (wpAny_pure ⟨_,rfl,wpAny_pure h⟩))) htake)
  | exact wpAny_bind (wpAny_bind (m:=Builtin.Tuple.tupleExact _) (wpAny_newObj_type (wpAny_pure (wpAny_pure ⟨_,rfl,wpAny_pure h⟩)) htake))
  | exact wpAny_bind (wpAny_bind (m:=Builtin.Tuple.tupleExact _) (wpAny_newObj_type (wpAny_pure ⟨_,rfl,wpAny_pure h⟩) htake))
end
end HT
namespace L2
open PySem PySem.Spec PyProof.Rows
abbrev TO:=St->Hp->(Option Int->Hp->Prop)->Prop
def PO (X:Cx) (e:Option Expr) (t:TO):Prop:=
 ∀(pins:List (Addr×Obj)) (s:Shared) (σ:St) (H:Hp) (Q:Option Int->Hp->Prop),Inv X pins σ H s->t σ H Q->
  wpAny (model X.prog X.w) X.A (evalPart e X.env) (fun u s'=>∃o H',Inv X pins σ H' s'/\IsPart u o/\Q o H') X.xe s
def tNoPart:TO:=fun _ H Q=>Q none H
def tPart (t:TE):TO:=fun σ H Q=>t σ H fun x H1=>∃i,x= .int i/\Q (some i) H1
theorem P5 {ns:List Int}:∀{us:List Value},Vals (ns.map V.int) us->IntsAre us ns:=by
 induction ns with
 | nil=>intro us r;rw [List.map_nil] at r;cases r;exact .nil
 | cons n ns ih=>
  intro us r
  rw [List.map_cons] at r
  cases r with
  | cons r1 r2=>
   obtain ⟨t,e⟩:=r1
   subst e
   exact .cons n t (ih r2)
section
variable {X:Cx}{e:Expr}{te:TE}{lo hi:Option Expr}{tl th:TO}{pos p2:Pos}
theorem b2e:PO X none tNoPart:=by
 intro pins s σ H Q I h
 rw [evalPart_none]
 exact wpAny_pure ⟨none,H,I,.none,h⟩
theorem b0N (h:PE X e te):PO X (some e) (tPart te):=by
 intro pins s σ H Q I hw
 rw [evalPart_some]
 refine thn (h pins s σ H _ I hw) fun u s1 h0=>ex5 h0 fun x H1 I1 r1 q1=>?_
 obtain ⟨i,rfl,q⟩:=q1
 obtain ⟨t,rfl⟩:=r1
 exact ⟨some i,H1,I1,.int i t,q⟩
def SlR (X:Cx) (r:V->Option Int->Option Int->Hp->VK->Prop):Prop:=
 ∀(pins:List (Addr×Obj)) (s:Shared) (σ:St) (H:Hp) (x:V) (v vl vu:Value) (lo hi:Option Int) (sl:Addr) (Q:VK),Inv X pins σ H s->RelV x v->s.heap.IsSliceOf sl vl vu .none->IsPart vl lo->IsPart vu hi->r x lo hi H Q->
  ∃T id,typeLookup (.type T) "__getitem__"=pure (some (.builtin id))/\s.TypeIs v T/\wpAny (model X.prog X.w) X.A (getItem v (.ref sl)) (EP X pins σ Q) X.xe s
theorem SlR.or {r r':V->Option Int->Option Int->Hp->VK->Prop}(h:SlR X r)(h':SlR X r'):SlR X (fun x lo hi H Q=>r x lo hi H Q\/r' x lo hi H Q):=by
 intro pins s σ H x v vl vu lo hi sl Q I rx hs pl pu q
 rcases q with q | q
 ·exact h pins s σ H x v vl vu lo hi sl Q I rx hs pl pu q
 ·exact h' pins s σ H x v vl vu lo hi sl Q I rx hs pl pu q
def tSl (r:V->Option Int->Option Int->Hp->VK->Prop) (te:TE) (tl th:TO):TE:=fun σ H Q=>te σ H fun x H1=>tl σ H1 fun l H2=>th σ H2 fun u H3=>r x l u H3 Q
theorem a9B {r:V->Option Int->Option Int->Hp->VK->Prop}(hr:SlR X r)(he:PE X e te)(hl:PO X lo tl)(hu:PO X hi th):PE X (.Subscript e (.Slice lo hi none p2) pos) (tSl r te tl th):=by
 intro pins s σ H Q I h
 refine Subscript_ (thn (he pins s σ H _ I h) fun v s1 h0=>ex5 h0 fun x H1 I1 r1 q1=>?_)
 refine wpAny_Slice (thn (hl pins s1 σ H1 _ I1 q1) fun vl s2 ⟨l,H2,I2,pl,q2⟩=>thn (hu pins s2 σ H2 _ I2 q2) fun vu s3 ⟨u,H3,I3,pu,q3⟩=>?_)
 rw [evalPart_none]
 refine wpAny_pure ?_
 have I4:Inv X pins σ H3 {s3 with heap:=s3.heap.push {cls:=.type "slice",data:=.fields #[vl,vu,.none]}}:=I3.kept (t':=s3.toks) fun b ob q=>Heap.get?_push_of_some _ q
 obtain ⟨T,id,hT,ht,hg⟩:=hr pins {s3 with heap:=s3.heap.push {cls:=.type "slice",data:=.fields #[vl,vu,.none]}} σ H3 x v vl vu l u s3.heap.objs.size Q I4 r1 (Heap.IsSliceOf.new ..) pl pu q3
 show wpAny (model X.prog X.w) X.A (subscriptTail e (.Slice lo hi none p2) v (.ref s3.heap.objs.size)) (EP X pins σ Q) X.xe {s3 with heap:=s3.heap.push {cls:=.type "slice",data:=.fields #[vl,vu,.none]}}
 exact tail_any (ops:=[.ref s3.heap.objs.size,v]) ht hT hg (by with_unfolding_all rfl)
def cutV (xs:List V) (lo hi:Option Int):List V:=(xs.drop (HT.sIx xs.length 0 lo)).take (HT.sIx xs.length xs.length hi - HT.sIx xs.length 0 lo)
theorem a2D (xs:List V)(lo hi:Option Int):(cutV xs lo hi).length<=xs.length:=by
 unfold cutV
 rw [List.length_take,List.length_drop]
 walk_at "o"
def rSlT (K:PySem.W.Frag):V->Option Int->Option Int->Hp->VK->Prop:=fun x lo hi H Q=>∃a xs,x= .ref a/\SqT K H a xs/\
 ¬(HT.sIx xs.length 0 lo=0/\HT.sIx xs.length xs.length hi=xs.length)/\∀p,H p=none->Q (.ref p) (upd H p (.tup (cutV xs lo hi)))
theorem b22:SlR X (rSlT X.K):=by
 intro pins s σ H x v vl vu lo hi sl Q I rx hs pl pu h
 obtain ⟨a,xs,rfl,hx,hw,q⟩:=h
 cases rx
 obtain ⟨its,r,ht,hz⟩:=I.tuple hx
 have hlen:its.toArray.size=xs.length:=by rw [List.size_toArray];exact r.length.symm
 refine ⟨"tuple",_,PyProof.Rows.slot_tuple_getitem.lookup,ht.typeIs,?_⟩
 refine HT.getItem_tuple_cut ht hs pl pu (by rw [hlen];exact hw) ?_ (by rw [hlen];exact hz)
 rw [hlen]
 refine ⟨.ref s.heap.objs.size,_,I.laid (t':=s.toks) (o:=.tup (cutV xs lo hi)) (fun b ob q=>Heap.get?_push_of_some _ q) (Nat.le_refl _) ?_,rfl,q _ (I.hok.fresh (Nat.le_refl _))⟩
 exact ⟨Nat.le_trans (a2D xs lo hi) hz,_,(r.drop (HT.sIx xs.length 0 lo)).take (HT.sIx xs.length xs.length hi - HT.sIx xs.length 0 lo),TupN.new _ _⟩
def rLtT (K:PySem.W.Frag):R2:=fun x y H Q=>∃a b ns ms,x= .ref a/\y= .ref b/\SqT K H a (ns.map V.int)/\SqT K H b (ms.map V.int)/\Q (.bl (HT.lexLt ns ms)) H
theorem a9u (hu:X.A.units < cLine):OpR X (compareOp .Lt) (rLtT X.K):=by
 intro pins s σ H x y v u Q I rx ry h
 obtain ⟨a,b,ns,ms,rfl,rfl,ha,hb,q⟩:=h
 cases rx
 cases ry
 obtain ⟨its,r1,p1,_⟩:=I.tuple ha
 obtain ⟨its2,r2,p2,_⟩:=I.tuple hb
 have i1:IntsAre its.toArray.toList ns:=P5 r1
 have i2:IntsAre its2.toArray.toList ms:=P5 r2
 exact HT.lt_tupInts p1 p2 i1 i2 hu ⟨.bl (HT.lexLt ns ms),H,I,rfl,q⟩
def rCatT (K:PySem.W.Frag):R2:=fun x y H Q=>∃a b xs ys,x= .ref a/\y= .ref b/\SqT K H a xs/\SqT K H b ys/\xs≠[]/\xs.length + ys.length<=sizeLine/\
 (ys=[]->Q (.ref a) H)/\(ys≠[]->∀p,H p=none->Q (.ref p) (upd H p (.tup (xs ++ ys))))
theorem Vals.nil_iff {xs:List V}{us:List Value}(r:Vals xs us):us=[]↔xs=[]:=by
 cases r with
 | nil=>simp
 | cons _ _=>simp
theorem b1d:OpR X (binaryOp .Add) (rCatT X.K):=by
 intro pins s σ H x y v u Q I rx ry h
 obtain ⟨a,b,xs,ys,rfl,rfl,ha,hb,hx,hz,q1,q2⟩:=h
 cases rx
 cases ry
 obtain ⟨its,r1,p1,_⟩:=I.tuple ha
 obtain ⟨its2,r2,p2,_⟩:=I.tuple hb
 refine HT.cat_tup p1 p2 (fun z=>hx (r1.nil_iff.mp z)) (fun z=>⟨.ref a,H,I,rfl,q1 (r2.nil_iff.mp z)⟩) (fun z=>?_) (by rw [<-r1.length,<-r2.length];exact hz)
 refine ⟨.ref s.heap.objs.size,_,I.laid (t':=s.toks) (o:=.tup (xs ++ ys)) (fun b ob q=>Heap.get?_push_of_some _ q) (Nat.le_refl _) ?_,rfl,q2 (fun w=>z (r2.nil_iff.mpr w)) _ (I.hok.fresh (Nat.le_refl _))⟩
 exact ⟨by rw [List.length_append];exact hz,_,r1.append r2,TupN.new _ _⟩
end
def ixN (n:Nat) (i:Int):Option Nat:=if 0<=i then (if i < n then some i.toNat else none) else if -(n:Int)<=i then some (i + n).toNat else none
def atI {α:Type} (xs:List α) (i:Int):Option α:=(ixN xs.length i).bind fun j=>xs[j]?
theorem a7A {n:Nat}{i:Int}{j:Nat}(h:ixN n i=some j):seqIndex? i n=some j/\j < n/\-(n:Int)<=i/\i < n:=by
 unfold ixN at h
 by_cases h0:0<=i
 ·rw [if_pos h0] at h
  by_cases h1:i < n
  ·rw [if_pos h1] at h
   have e:i.toNat=j:=Option.some.inj h
   exact ⟨by rw [seqIndex_of h0 h1,e],by walk_at "o",by walk_at "o",h1⟩
  ·rw [if_neg h1] at h;cases h
 ·rw [if_neg h0] at h
  by_cases h1:-(n:Int)<=i
  ·rw [if_pos h1] at h
   have e:(i + n).toNat=j:=Option.some.inj h
   exact ⟨by rw [seqIndex_neg (by walk_at "o") h1,e],by walk_at "o",h1,by walk_at "o"⟩
  ·rw [if_neg h1] at h;cases h
theorem a4P {α:Type}{xs:List α}{i:Int}{v:α}(h:atI xs i=some v):∃j,seqIndex? i xs.length=some j/\xs[j]? =some v/\j < xs.length/\-(xs.length:Int)<=i/\i < xs.length:=by
 unfold atI at h
 cases e:ixN xs.length i with
 | none=>rw [e] at h;cases h
 | some j=>
  rw [e] at h
  obtain ⟨h1,h2,h3,h4⟩:=a7A e
  exact ⟨j,h1,h,h2,h3,h4⟩
theorem A7 {α:Type}{xs:List α}{j:Nat}{v:α}(h:xs[j]? =some v):atI xs (j:Int)=some v:=by
 have hj:j < xs.length:=(List.getElem?_eq_some_iff.mp h).1
 have e:ixN xs.length (j:Int)=some j:=by
  unfold ixN
  rw [if_pos (by walk_at "o"),if_pos (by walk_at "o")];simp
 unfold atI;rw [e];exact h
def PlainIx (b:Expr):Prop:=∀o i,subscripted b false o i=operate [o,i] (getItem o i)
def IxR (X:Cx) (r:R2):Prop:=
 ∀(value slice:Expr) (pins:List (Addr×Obj)) (s:Shared) (σ:St) (H:Hp) (x y:V) (v u:Value) (Q:VK),Inv X pins σ H s->RelV x v->RelV y u->r x y H Q->
  subscripted slice false v u=operate [v,u] (getItem v u)->wpAny (model X.prog X.w) X.A (subscriptTail value slice v u) (EP X pins σ Q) X.xe s
def MtR (X:Cx) (id:String) (r:V->List V->Hp->VK->Prop):Prop:=
 ∀(pins:List (Addr×Obj)) (s:Shared) (σ:St) (H:Hp) (x:V) (xs:List V) (v:Value) (us:List Value) (Q:VK),Inv X pins σ H s->RelV x v->Vals xs us->r x xs H Q->
  wpAny (model X.prog X.w) X.A (call (.builtin id) (v :: us)) (EP X pins σ Q) X.xe s
section
variable {X:Cx}{a b:Expr}{ta tb:TE}{pos:Pos}
theorem IxR.or {r r':R2}(h:IxR X r)(h':IxR X r'):IxR X (fun x y H Q=>r x y H Q\/r' x y H Q):=by
 intro value slice pins s σ H x y v u Q I rx ry q hs
 rcases q with q | q
 ·exact h value slice pins s σ H x y v u Q I rx ry q hs
 ·exact h' value slice pins s σ H x y v u Q I rx ry q hs
theorem pe_ix {r:R2}(hr:IxR X r)(ha:PE X a ta)(hb:PE X b tb)(hs:PlainIx b):PE X (.Subscript a b pos) (tOp r ta tb):=by
 intro pins s σ H Q I h
 exact Subscript_ (binT ha hb I h fun v u s2 x y H2 I2 rx ry q=>hr a b pins s2 σ H2 x y v u Q I2 rx ry q (hs _ _))
def rIxL (K:PySem.W.Frag):R2:=fun x y H Q=>∃p xs i v,x= .ref p/\y= .int i/\SqL K H p xs/\atI xs i=some v/\Q v H
def rIxT (K:PySem.W.Frag):R2:=fun x y H Q=>∃p xs i v,x= .ref p/\y= .int i/\SqT K H p xs/\atI xs i=some v/\Q v H
def rIxS:R2:=fun x y H Q=>∃z i c,x= .str z/\y= .int i/\z.length<=sizeLine/\atI z.cps.toList i=some c/\Q (.str ⟨#[c]⟩) H
theorem b2i:IxR X (rIxL X.K):=by
 intro value slice pins s σ H x y v u Q I rx ry h hs
 obtain ⟨p,xs,i,z,rfl,rfl,hq,he,q⟩:=h
 cases rx
 obtain ⟨t,rfl⟩:=ry
 obtain ⟨its,r,pl,hz⟩:=I.list hq
 obtain ⟨j,h1,h2,h3,h4,h5⟩:=a4P he
 obtain ⟨w,ew,rw'⟩:=r.get h2
 have hl:=r.length
 have hn:=line63
 have fin:EP X pins σ Q w s:=⟨z,H,I,rw',q⟩
 by_cases h0:0<=i
 ·have hj:i.toNat=j:=by
   rw [seqIndex_of h0 h5] at h1
   exact Option.some.inj h1
  exact item_listR pl.isList h0 (by walk_at "o") (by rw [hj];simpa using ew) fin hs
 ·have hj:(i + (its.toArray.size:Int)).toNat=j:=by
   rw [seqIndex_neg (by walk_at "o") h4] at h1
   rw [List.size_toArray,<-hl]
   exact Option.some.inj h1
  exact subscriptTail_builtinR (x:=w) pl.isList.typeIs slot_list_getitem.lookup
   (wpAny_getItem_list_neg (Q:=fun r s'=>r=w/\EP X pins σ Q r s') pl.isList (by walk_at "o") (by rw [List.size_toArray] <;> walk_at "o") (by walk_at "o") (by rw [hj];simpa using ew) ⟨rfl,fin⟩) hs
theorem b2Q:IxR X (rIxT X.K):=by
 intro value slice pins s σ H x y v u Q I rx ry h hs
 obtain ⟨p,xs,i,z,rfl,rfl,hq,he,q⟩:=h
 cases rx
 obtain ⟨t,rfl⟩:=ry
 obtain ⟨its,r,pl,hz⟩:=I.tuple hq
 obtain ⟨j,h1,h2,h3,h4,h5⟩:=a4P he
 obtain ⟨w,ew,rw'⟩:=r.get h2
 have hl:=r.length
 have hn:=line63
 have fin:EP X pins σ Q w s:=⟨z,H,I,rw',q⟩
 exact subscriptTail_builtinR (x:=w) pl.typeIs slot_tuple_getitem.lookup
  (getItem_tuple (j:=j) (Q:=fun r s'=>r=w/\EP X pins σ Q r s') pl (by walk_at "o") (by walk_at "o") (by rw [List.size_toArray,<-hl];exact h1) (by simpa using ew) ⟨rfl,fin⟩) hs
theorem b2I:IxR X rIxS:=by
 intro value slice pins s σ H x y v u Q I rx ry h hs
 obtain ⟨z,i,c,rfl,rfl,hz,he,q⟩:=h
 obtain ⟨t,rfl⟩:=rx
 obtain ⟨t',rfl⟩:=ry
 obtain ⟨j,h1,h2,h3,h4,h5⟩:=a4P he
 have hl:z.cps.toList.length=z.length:=by simp [Str.length]
 rw [hl] at h1 h4 h5
 have hn:=line63
 exact tail_any (typeIs_str s z t) slot_str_getitem.lookup (getItem_str (c:=c) (by
  have e1:decide (i < -(2 ^ 63:Int))=false:=decide_eq_false (by walk_at "o")
  have e2:decide (i≥2 ^ 63)=false:=decide_eq_false (by walk_at "o")
  rw [e1,e2,Bool.or_false]) (by rw [h1];simpa using h2) ⟨.str ⟨#[c]⟩,H,I.tok _,⟨_,rfl⟩,q⟩) hs
def rIx (K:PySem.W.Frag):R2:=fun x y H Q=>rIxL K x y H Q\/rIxT K x y H Q\/rIxS x y H Q
theorem b3k:IxR X (rIx X.K):=b2i.or (b2Q.or b2I)
theorem a6T (its:List Value)(n j:Nat)(u:Value):Obj.mapSeq (·.setIfInBounds j u) {cls:=.type "list",data:=.seq its.toArray n}={cls:=.type "list",data:=.seq (its.set j u).toArray n}:=by
 simp [Obj.mapSeq]
theorem Inv.lst {pins:List (Addr×Obj)}{σ:St}{H:Hp}{s:Shared}{p:Addr}{xs:List V}(I:Inv X pins σ H s)(h:H p=some (.lst xs)):
  ∃(its:List Value) (n:Nat),Vals xs its/\s.heap.get? p=some {cls:=.type "list",data:=.seq its.toArray n}/\xs.length<=sizeLine:=by
 obtain ⟨z,its,n,r,e⟩:=I.hok p _ h
 exact ⟨its,n,r,e,z⟩
theorem Inv.lstUpd {pins:List (Addr×Obj)}{σ:St}{H:Hp}{s:Shared}{p:Addr}{xs ys:List V}{its its':List Value}{n n':Nat}{f:Obj->Obj}(I:Inv X pins σ H s)(h:H p=some (.lst xs))
  (ho:s.heap.get? p=some {cls:=.type "list",data:=.seq its.toArray n}) (hf:f {cls:=.type "list",data:=.seq its.toArray n}={cls:=.type "list",data:=.seq its'.toArray n'}) (r:Vals ys its') (hz:ys.length<=sizeLine) (t:Nat):
  Inv X pins σ (upd H p (.lst ys)) {s with heap:=s.heap.update p f,toks:=t}:=by
 have e:(s.heap.update p f).get? p=some {cls:=.type "list",data:=.seq its'.toArray n'}:=by
  rw [Heap.get?_update_self f ho (by rw [hf] <;> rfl),hf]
 refine I.write (x:=p) (e:=p) (by rw [h];trivial) (.inl rfl) (fun b u hb q=>(Heap.get?_update_other _ _ (Ne.symm hb)).trans q) ⟨_,e⟩ ?_
 exact ⟨hz,its',n',r,e⟩
def rSetL:V->V->V->Hp->(Hp->Prop)->Prop:=fun o i v H Q=>∃p xs k j,o= .ref p/\i= .int k/\H p=some (.lst xs)/\ixN xs.length k=some j/\Q (upd H p (.lst (xs.set j v)))
theorem b0D:PSet X rSetL:=by
 intro pins s σ H o i v ov iv u Q I ro ri rv h
 obtain ⟨p,xs,k,j,rfl,rfl,hp,hj,q⟩:=h
 cases ro
 obtain ⟨t,rfl⟩:=ri
 obtain ⟨its,n,r,ho,hz⟩:=I.lst hp
 obtain ⟨h1,h2,h3,h4⟩:=a7A hj
 have hl:=r.length
 have hn:=line63
 have I':Inv X pins σ (upd H p (.lst (xs.set j v))) {s with heap:=s.heap.update p (Obj.mapSeq (·.setIfInBounds j u))}:=
  I.lstUpd hp ho (a6T its n j u) (r.set rv j) (by rw [List.length_set];exact hz) s.toks
 by_cases h0:0<=k
 ·have hk:k.toNat=j:=by
   rw [seqIndex_of h0 h4] at h1
   exact Option.some.inj h1
  exact PySem.W.ki_setAt ho h0 (by walk_at "o") (by rw [List.size_toArray,<-hl];exact h4) (by rw [hk];exact ⟨_,I',q⟩)
 ·have hk:(k + (its.toArray.size:Int)).toNat=j:=by
   rw [seqIndex_neg (by walk_at "o") h3] at h1
   rw [List.size_toArray,<-hl]
   exact Option.some.inj h1
  exact PySem.W.ki_setBack ho (by walk_at "o") (by rw [List.size_toArray,<-hl];exact h3) (by walk_at "o") (by rw [hk];exact ⟨_,I',q⟩)
theorem a4r (lo hi:Option Int)(n:Nat):(sliceBounds lo hi none n).1=((HT.sIx n 0 lo:Nat):Int)/\(sliceBounds lo hi none n).2.1=((HT.sIx n n hi:Nat):Int)/\(sliceBounds lo hi none n).2.2=1:=by
 refine ⟨?_,?_,rfl⟩
 ·cases lo with
  | none=>simp [sliceBounds,HT.sIx]
  | some i=>
   simp only [sliceBounds,HT.sIx,Option.getD_none,show (1:Int) > 0 by decide,if_true]
   by_cases h:i < 0
   ·simp only [h,if_true] <;> walk_at "o"
   ·simp only [h,if_false] <;> walk_at "o"
 ·cases hi with
  | none=>simp [sliceBounds,HT.sIx]
  | some i=>
   simp only [sliceBounds,HT.sIx,Option.getD_none,show (1:Int) > 0 by decide,if_true]
   by_cases h:i < 0
   ·simp only [h,if_true] <;> walk_at "o"
   ·simp only [h,if_false] <;> walk_at "o"
theorem a3C (its:List Value)(lo hi:Option Int):slicePick its.toArray lo hi none=((its.drop (HT.sIx its.length 0 lo)).take (HT.sIx its.length its.length hi - HT.sIx its.length 0 lo)).toArray:=by
 obtain ⟨h1,h2,h3⟩:=a4r lo hi its.toArray.size
 unfold slicePick
 rw [h1,h2,h3]
 simp only [sliceRange_one,pick_run,List.size_toArray] <;> rfl
def rSlL (K:PySem.W.Frag):V->Option Int->Option Int->Hp->VK->Prop:=fun x lo hi H Q=>∃a xs,x= .ref a/\SqL K H a xs/\∀p,H p=none->Q (.ref p) (upd H p (.lst (cutV xs lo hi)))
theorem b1Y:SlR X (rSlL X.K):=by
 intro pins s σ H x v vl vu lo hi sl Q I rx hs pl pu h
 obtain ⟨a,xs,rfl,hx,q⟩:=h
 cases rx
 obtain ⟨its,r,ht,hz⟩:=I.list hx
 have hlen:=r.length
 refine ⟨"list",_,slot_list_getitem.lookup,ht.isList.typeIs,?_⟩
 refine wpAny_getItem_list_slice ht.isList hs pl pu .none (by simp) ?_ (by rw [List.size_toArray] <;> walk_at "o")
 rw [a3C,<-hlen]
 refine ⟨.ref s.heap.objs.size,_,I.laid (t':=s.toks) (o:=.lst (cutV xs lo hi)) (fun b ob q=>Heap.get?_push_of_some _ q) (Nat.le_refl _) ?_,rfl,q _ (I.hok.fresh (Nat.le_refl _))⟩
 exact ⟨Nat.le_trans (a2D xs lo hi) hz,_,0,(r.drop (HT.sIx xs.length 0 lo)).take (HT.sIx xs.length xs.length hi - HT.sIx xs.length 0 lo),Heap.get?_push_size _ rfl⟩
def flatV:V->Bool
 | .non=>true
 | .bl _=>true
 | .int _=>true
 | .str _=>true
 | _=>false
def eqV:V->V->Bool
 | .non,.non=>true
 | .bl a,.bl b=>a == b
 | .bl a,.int b=>(if a then 1 else 0) == b
 | .int a,.bl b=>a == (if b then 1 else 0)
 | .int a,.int b=>a == b
 | .str a,.str b=>a == b
 | _,_=>false
theorem b3q {A:Around}{s:Shared}{y x:V}{u v:Value}(ry:RelV y u)(rx:RelV x v)(fy:flatV y=true)(fx:flatV x=true):SeqAt.EqAt A s u v (eqV y x):=by
 cases y with
 | non=>
  cases ry
  cases x with
  | non=>cases rx;exact SeqAt.EqAt.same _
  | bl b=>cases rx;exact SeqAt.EqAt.none_bool b
  | int b=>obtain ⟨t,rfl⟩:=rx;exact SeqAt.EqAt.none_int b t
  | str b=>obtain ⟨t,rfl⟩:=rx;exact SeqAt.EqAt.none_str b t
  | _=>exact absurd (show false=true from fx) Bool.false_ne_true
 | bl a=>
  cases ry
  cases x with
  | non=>cases rx;exact SeqAt.EqAt.bool_none a
  | bl b=>cases rx;exact SeqAt.EqAt.bool_bool a b
  | int b=>obtain ⟨t,rfl⟩:=rx;exact SeqAt.EqAt.bool_int a b t
  | str b=>obtain ⟨t,rfl⟩:=rx;exact SeqAt.EqAt.bool_str a b t
  | _=>exact absurd (show false=true from fx) Bool.false_ne_true
 | int a=>
  obtain ⟨t',rfl⟩:=ry
  cases x with
  | non=>cases rx;exact SeqAt.EqAt.int_none a t'
  | bl b=>cases rx;exact SeqAt.EqAt.int_bool a t' b
  | int b=>obtain ⟨t,rfl⟩:=rx;exact SeqAt.EqAt.int_int a t' b t
  | str b=>obtain ⟨t,rfl⟩:=rx;exact SeqAt.EqAt.int_str a t' b t
  | _=>exact absurd (show false=true from fx) Bool.false_ne_true
 | str a=>
  obtain ⟨t',rfl⟩:=ry
  cases x with
  | non=>cases rx;exact SeqAt.EqAt.str_none a t'
  | bl b=>cases rx;exact SeqAt.EqAt.str_bool a t' b
  | int b=>obtain ⟨t,rfl⟩:=rx;exact SeqAt.EqAt.str_int a t' b t
  | str b=>obtain ⟨t,rfl⟩:=rx;exact SeqAt.EqAt.str_str a t' b t
  | _=>exact absurd (show false=true from fx) Bool.false_ne_true
 | _=>exact absurd (show false=true from fy) Bool.false_ne_true
def eqU (x:V) (u:Value):Bool:=match u with
 | .none=>eqV .non x
 | .bool b=>eqV (.bl b) x
 | .int i _=>eqV (.int i) x
 | .str z _=>eqV (.str z) x
 | _=>false
theorem b0y {x y:V}{u:Value}(r:RelV y u)(f:flatV y=true):eqU x u=eqV y x:=by
 cases y with
 | non=>cases r;rfl
 | bl b=>cases r;rfl
 | int i=>obtain ⟨t,rfl⟩:=r;rfl
 | str z=>obtain ⟨t,rfl⟩:=r;rfl
 | _=>exact absurd (show false=true from f) Bool.false_ne_true
theorem a1W {x:V}:∀{xs:List V} {us:List Value},Vals xs us->xs.all flatV=true->us.any (eqU x)=xs.any fun y=>eqV y x
 | _,_,.nil,_=>rfl
 | y :: xs,u :: us,.cons r t,f=>by
  rw [List.all_cons,Bool.and_eq_true] at f
  rw [List.any_cons,List.any_cons,b0y r f.1,a1W t f.2]
theorem Y9 {A:Around}{s:Shared}{x:V}{v:Value}(rx:RelV x v)(fx:flatV x=true):∀{xs:List V} {us:List Value},Vals xs us->xs.all flatV=true->∀u∈us,SeqAt.EqAt A s u v (eqU x u)
 | _,_,.nil,_=>fun u hu=>by cases hu
 | y :: xs,u :: us,.cons r t,f=>fun u' hu=>by
  rw [List.all_cons,Bool.and_eq_true] at f
  rcases List.mem_cons.mp hu with rfl | hu
  ·rw [b0y r f.1];exact b3q r rx f.1 fx
  ·exact Y9 rx fx t f.2 u' hu
def inV (x:V) (xs:List V):Bool:=xs.any fun y=>eqV y x
def rIn (K:PySem.W.Frag) (neg:Bool):R2:=fun x y H Q=>∃p xs,y= .ref p/\(SqL K H p xs\/SqT K H p xs)/\flatV x=true/\xs.all flatV=true/\Q (.bl (if neg then !inV x xs else inV x xs)) H
theorem a3R:OpR X (compareOp .In) (rIn X.K false):=by
 intro pins s σ H x y v u Q I rx ry h
 obtain ⟨p,xs,rfl,hq,fx,fs,q⟩:=h
 cases ry
 rcases hq with hq | hq
 ·obtain ⟨its,r,pl,hz⟩:=I.list hq
  refine SeqAt.in_listAt (eqU x) pl.isList (fun w hw=>Y9 rx fx r fs w (by simpa using hw)) ⟨.bl _,H,I,rfl,?_⟩
  rw [show its.toArray.any (eqU x)=its.any (eqU x) by simp,a1W r fs]
  exact q
 ·obtain ⟨its,r,pl,hz⟩:=I.tuple hq
  refine SeqAt.in_tupleAt (eqU x) pl (fun w hw=>Y9 rx fx r fs w (by simpa using hw)) ⟨.bl _,H,I,rfl,?_⟩
  rw [show its.toArray.any (eqU x)=its.any (eqU x) by simp,a1W r fs]
  exact q
theorem a5b:OpR X (compareOp .NotIn) (rIn X.K true):=by
 intro pins s σ H x y v u Q I rx ry h
 obtain ⟨p,xs,rfl,hq,fx,fs,q⟩:=h
 cases ry
 rcases hq with hq | hq
 ·obtain ⟨its,r,pl,hz⟩:=I.list hq
  refine SeqAt.notIn_listAt (eqU x) pl.isList (fun w hw=>Y9 rx fx r fs w (by simpa using hw)) ⟨.bl _,H,I,rfl,?_⟩
  rw [show its.toArray.any (eqU x)=its.any (eqU x) by simp,a1W r fs]
  exact q
 ·obtain ⟨its,r,pl,hz⟩:=I.tuple hq
  refine SeqAt.notIn_tupleAt (eqU x) pl (fun w hw=>Y9 rx fx r fs w (by simpa using hw)) ⟨.bl _,H,I,rfl,?_⟩
  rw [show its.toArray.any (eqU x)=its.any (eqU x) by simp,a1W r fs]
  exact q
theorem k6:CallR X (.builtin "len") (fun xs H Q=>∃p ys,xs=[.ref p]/\(SqL X.K H p ys\/SqT X.K H p ys)/\Q (.int ys.length) H):=by
 intro pins s σ H xs us Q I r h
 obtain ⟨p,ys,rfl,hq,q⟩:=h
 obtain ⟨u,rfl,rx⟩:=vals1 r
 cases rx
 have hn:=line63
 rcases hq with hq | hq
 ·obtain ⟨its,r',pl,hz⟩:=I.list hq
  have hlen:=r'.length
  exact Calls.call_len_list pl.isList (by simp only [List.size_toArray] <;> walk_at "o") ⟨.int ys.length,H,I.tok _,⟨s.toks + 1,by rw [List.size_toArray,hlen]⟩,q⟩
 ·obtain ⟨its,r',pl,hz⟩:=I.tuple hq
  have hlen:=r'.length
  exact len_tuple pl (by simp only [List.size_toArray] <;> walk_at "o") ⟨.int ys.length,H,I.tok _,⟨s.toks + 1,by rw [List.size_toArray,hlen]⟩,q⟩
theorem CallR.or {f:Value}{r r':List V->Hp->VK->Prop}(h:CallR X f r)(h':CallR X f r'):CallR X f (fun xs H Q=>r xs H Q\/r' xs H Q):=by
 intro pins s σ H xs us Q I rs q
 rcases q with q | q
 ·exact h pins s σ H xs us Q I rs q
 ·exact h' pins s σ H xs us Q I rs q
theorem a5j:CallR X (.type "list") (fun xs H Q=>∃p ys,xs=[.ref p]/\(SqL X.K H p ys\/SqT X.K H p ys)/\∀l,H l=none->Q (.ref l) (upd H l (.lst ys))):=by
 intro pins s σ H xs us Q I r h
 obtain ⟨p,ys,rfl,hq,q⟩:=h
 obtain ⟨u,rfl,rx⟩:=vals1 r
 cases rx
 have fin:∀(its:List Value),Vals ys its->ys.length<=sizeLine->∀(h':Heap) (c':Nat),(∀b o',s.heap.get? b=some o'->h'.get? b=some o')->
   h'.get? s.heap.objs.size=some {cls:=.type "list",dict:=none,data:=.seq its.toArray c',slots:= #[]}->EP X pins σ Q (.ref s.heap.objs.size) {s with heap:=h'}:=fun its r' hz h' c' kp e=>
  ⟨.ref s.heap.objs.size,_,I.laid (t':=s.toks) kp (Nat.le_refl _) (show ObjOk X.prog X.w _ h' _ (.lst ys) from ⟨hz,its,c',r',e⟩),rfl,q _ (I.hok.fresh (Nat.le_refl _))⟩
 rcases hq with hq | hq
 ·obtain ⟨its,r',pl,hz⟩:=I.list hq
  have hlen:=r'.length
  obtain ⟨o,ho,hc,n,hd⟩:=pl.isList
  exact call_list_seq p (.inl rfl) ho hc hd (fun h' c' kp e=>fin its r' hz h' c' kp e) (by simp only [List.size_toArray] <;> walk_at "o")
 ·obtain ⟨its,r',pl,hz⟩:=I.tuple hq
  have hlen:=r'.length
  obtain ⟨o,ho,hc,n,hd⟩:=pl
  exact call_list_seq p (.inr rfl) ho hc hd (fun h' c' kp e=>fin its r' hz h' c' kp e) (by simp only [List.size_toArray] <;> walk_at "o")
theorem t8:CallR X (.type "tuple") (fun xs H Q=>∃p ys,xs=[.ref p]/\((SqL X.K H p ys/\∀l,H l=none->Q (.ref l) (upd H l (.tup ys)))\/(SqT X.K H p ys/\Q (.ref p) H))):=by
 intro pins s σ H xs us Q I r h
 obtain ⟨p,ys,rfl,h⟩:=h
 obtain ⟨u,rfl,rx⟩:=vals1 r
 cases rx
 rcases h with ⟨hq,q⟩ | ⟨hq,q⟩
 ·obtain ⟨its,r',pl,hz⟩:=I.list hq
  have hlen:=r'.length
  refine call_tuple_list pl.isList (fun h' kp=>?_) (by simp only [List.size_toArray] <;> walk_at "o")
  have I1:Inv X pins σ H {s with heap:=h'}:=I.kept (t':=s.toks) kp
  have I2:Inv X pins σ (upd H h'.objs.size (.tup ys)) {s with heap:=h'.push {cls:=.type "tuple",data:=.seq its.toArray}}:=
   I1.laid (t':=s.toks) (fun b o e=>Heap.get?_push_of_some _ e) (Nat.le_refl _) (show ObjOk X.prog X.w _ _ _ (.tup ys) from ⟨hz,its,r',TupN.new _ _⟩)
  exact ⟨.ref h'.objs.size,_,I2,rfl,q _ (I1.hok.fresh (Nat.le_refl _))⟩
 ·obtain ⟨its,r',pl,hz⟩:=I.tuple hq
  exact call_tuple_same pl ⟨.ref p,H,I,rfl,q⟩
def tyV (K:PySem.W.Frag) (T:String) (x:V) (H:Hp):Prop:=match x with
 | .str _=>T="str"
 | .int _=>T="int"
 | .ref p=>(T="list"/\∃xs,SqL K H p xs)\/(T="tuple"/\∃o,K.lookup p=some o/\o.cls= .type "tuple"/\o.dict=none)\/
   (T="dict"/\((∃kvs,H p=some (.dK kvs))\/∃kvs,H p=some (.dT kvs)))\/(T="set"/\∃S n,H p=some (.set S n))
 | _=>False
theorem b0d {pins:List (Addr×Obj)}{σ:St}{H:Hp}{s:Shared}{T:String}{x:V}{v:Value}(I:Inv X pins σ H s)(r:RelV x v)(ty:tyV X.K T x H):
  s.TypeIs v T/\∀a,v= .ref a->∃ob,s.heap.get? a=some ob/\ob.dict=none:=by
 cases x with
 | str z=>
  obtain ⟨t,rfl⟩:=r
  cases (show T="str" from ty)
  exact ⟨typeIs_str s z t,fun _ e=>nomatch e⟩
 | int i=>
  obtain ⟨t,rfl⟩:=r
  cases (show T="int" from ty)
  exact ⟨typeIs_int s i t,fun _ e=>nomatch e⟩
 | ref p=>
  cases r
  rcases ty with ⟨rfl,xs,hq⟩ | ⟨rfl,o,hk,hc,hd⟩ | ⟨rfl,hk⟩ | ⟨rfl,S,n,hk⟩
  ·obtain ⟨its,_,pl,_⟩:=I.list hq
   refine ⟨pl.isList.typeIs,fun a e=>?_⟩
   cases e
   obtain ⟨o,n,e,c,hd,_⟩:=pl
   exact ⟨o,e,hd⟩
  ·refine ⟨⟨o,I.kIn p o hk,hc⟩,fun a e=>?_⟩
   cases e
   exact ⟨o,I.kIn _ o hk,hd⟩
  ·have z:∃o,s.heap.get? p=some o/\o.ExactDict:=by
    rcases hk with ⟨kvs,hk⟩ | ⟨kvs,hk⟩
    ·obtain ⟨_,_,_,_,o,_,_,e,ex,_⟩:=I.hok p _ hk
     exact ⟨o,e,ex⟩
    ·obtain ⟨_,_,_,_,o,_,_,e,ex,_⟩:=I.hok p _ hk
     exact ⟨o,e,ex⟩
   obtain ⟨o,e,ex⟩:=z
   refine ⟨⟨o,e,ex.1⟩,fun a e2=>?_⟩
   cases e2
   exact ⟨o,e,ex.2.1⟩
  ·obtain ⟨o,_,_,_,e,ex,_⟩:=I.hok p _ hk
   refine ⟨⟨o,e,ex.1⟩,fun a e2=>?_⟩
   cases e2
   exact ⟨o,e,ex.2.1⟩
 | _=>exact False.elim ty
def tBM0 (K:PySem.W.Frag) (T:String) (r:V->List V->Hp->VK->Prop) (to:TE):TE:=fun σ H Q=>to σ H fun x H1=>tyV K T x H1/\r x [] H1 Q
def tBM (K:PySem.W.Frag) (T:String) (r:V->List V->Hp->VK->Prop) (to:TE) (t:TA):TE:=fun σ H Q=>to σ H fun x H1=>tyV K T x H1/\t σ H1 fun xs H2=>r x xs H2 Q
variable {o e:Expr}{es:List Expr}{to:TE}{t:TA}{name:Str}{apos cpos:Pos}{T id:String}{r:V->List V->Hp->VK->Prop}
theorem a9d (pa:PlainAttrs T)(slot:Slot T name id)(hty:typeOf (.builtin id)=pure (.type "method_descriptor"))(hm:MtR X id r)(ho:PE X o to)
  (hbase:attributeBase o name X.env (eval o X.env)=eval o X.env:=by rfl) (hline:(apos.endLine == cpos.line)=true:=by rfl):PE X (.Call (.Attribute o name apos) [] [] cpos) (tBM0 X.K T r to):=by
 intro pins s σ H Q I h
 refine wpAny_Call_method0_late hbase hline (thn (ho pins s σ H _ I h) fun v s1 ⟨x,H1,I1,r1,ty,q1⟩=>?_)
 obtain ⟨h1,h2⟩:=b0d I1 r1 ty
 exact ⟨T,id,pa,slot,hty,h1,h2,Calls.callWith_builtin rfl (PySem.evalArgs_none (hm pins s1 σ H1 x [] v [] Q I1 r1 .nil q1))⟩
theorem a9J (pa:PlainAttrs T)(slot:Slot T name id)(hty:typeOf (.builtin id)=pure (.type "method_descriptor"))(hm:MtR X id r)(ho:PE X o to)(ha:PA X (e :: es) t)
  (hbase:attributeBase o name X.env (eval o X.env)=eval o X.env:=by rfl)
  (hfew:((backTo cpos (starEach (e :: es) X.env)).all (fun x=>!x.1) && (backToKw cpos (keywordEach [] X.env)).all (fun x=>x.1.isSome)
   && decide ((e :: es).length + ([]:List Keyword).length + (if ([]:List Keyword).isEmpty then 0 else 1) < 30))=true:=by rfl)
  (hline:(apos.endLine == cpos.line)=true:=by rfl) (hs:starEach (e :: es) X.env=(false,eval e X.env) :: starEach es X.env:=by rfl) (hplain:(backTo cpos (starEach es X.env)).any (·.1)=false:=by rfl):
  PE X (.Call (.Attribute o name apos) (e :: es) [] cpos) (tBM X.K T r to t):=by
 intro pins s σ H Q I h
 refine wpAny_Call_method_late hbase hfew hline rfl (thn (ho pins s σ H _ I h) fun v s1 ⟨x,H1,I1,r1,ty,q1⟩=>?_)
 obtain ⟨h1,h2⟩:=b0d I1 r1 ty
 refine ⟨T,id,pa,slot,hty,h1,h2,?_⟩
 have hA:=ha cpos pins s1 σ H1 _ I1 q1
 rw [hs] at hA ⊢
 refine Calls.callWith_builtin (by show (false || (backTo cpos (starEach es X.env)).any (·.1))=false;rw [hplain] <;> rfl) (Calls.evalArgs_plain ?_)
 exact thn hA fun us s2 h0=>ex5 h0 fun vs H2 I2 r2 q2=>hm pins s2 σ H2 x vs v us Q I2 r1 r2 q2
end
def MtM (X:Cx) (id:String) (r:V->List V->Hp->VK->Prop):Prop:=
 ∀(pins:List (Addr×Obj)) (s:Shared) (σ:St) (H:Hp) (x:V) (xs:List V) (v:Value) (us:List Value) (Q:VK),Inv X pins σ H s->RelV x v->Vals xs us->r x xs H Q->
  wpAny (model X.prog X.w) X.A (call (.builtin id) (v :: us)) (EP X pins σ Q) X.xe s
theorem Vals.one:∀{x:V} {us:List Value},Vals [x] us->∃u,us=[u]/\RelV x u
 | _,_,.cons r .nil=>⟨_,rfl,r⟩
theorem Vals.zero:∀{us:List Value},Vals [] us->us=[]
 | _,.nil=>rfl
theorem Vals.eraseIdx:∀{xs:List V} {us:List Value} (i:Nat),Vals xs us->Vals (xs.eraseIdx i) (us.eraseIdx i)
 | _,_,_,.nil=>.nil
 | _,_,0,.cons _ t=>t
 | _,_,i + 1,.cons r t=>.cons r (Vals.eraseIdx i t)
theorem Vals.reverse {xs:List V}{us:List Value}(h:Vals xs us):Vals xs.reverse us.reverse:=by
 induction h with
 | nil=>exact .nil
 | cons r t ih=>rw [List.reverse_cons,List.reverse_cons];exact Vals.append ih (.cons r .nil)
theorem Vals.rep {xs:List V}{us:List Value}(h:Vals xs us):∀k:Nat,Vals (List.replicate k xs).flatten (List.replicate k us).flatten
 | 0=>.nil
 | k + 1=>by
  rw [List.replicate_succ,List.replicate_succ,List.flatten_cons,List.flatten_cons]
  exact Vals.append h (Vals.rep h k)
theorem a3S {α:Type}:∀(l:List α) (i:Nat),(l.eraseIdx i).length<=l.length
 | [],_=>Nat.le_refl _
 | _ :: _,0=>Nat.le_succ _
 | _ :: r,i + 1=>Nat.succ_le_succ (a3S r i)
theorem a3Z (its:List Value):∀(k:Nat) (acc:List Value),
  List.foldl (fun x1 x2=>x1 ++ x2) acc.toArray (List.replicate k its.toArray)=(acc ++ (List.replicate k its).flatten).toArray
 | 0,acc=>by simp
 | k + 1,acc=>by
  have e:acc.toArray ++ its.toArray=(acc ++ its).toArray:=by simp
  have e2:(acc ++ its) ++ (List.replicate k its).flatten=acc ++ (List.replicate (k + 1) its).flatten:=by
   rw [List.replicate_succ,List.flatten_cons,List.append_assoc]
  rw [<-e2,<-a3Z its k (acc ++ its),<-e,List.replicate_succ,List.foldl_cons]
section
variable {X:Cx}{pins:List (Addr×Obj)}{σ:St}{H:Hp}{s:Shared}{l b:Addr}{xs ys zs:List V}
theorem Inv.lset {its its':List Value}{n:Nat}{f:Array Value->Array Value}{t':Nat}(I:Inv X pins σ H s)(hH:H l=some (.lst xs))
  (e:s.heap.get? l=some {cls:=.type "list",data:=.seq its.toArray n}) (hf:f its.toArray=its'.toArray) (hv:Vals ys its') (hz:ys.length<=sizeLine):
  Inv X pins σ (upd H l (.lst ys)) {s with heap:=s.heap.update l (Obj.mapSeq f),toks:=t'}:=by
 have q:=PySem.IsL.update e f
 rw [hf] at q
 refine I.write (x:=l) (e:=l) (by rw [hH];exact trivial) (.inl rfl) (fun b' u hb hu=>(Heap.get?_update_other s.heap (Obj.mapSeq f) (Ne.symm hb)).trans hu) ⟨_,q⟩ ?_
 exact ⟨hz,its',_,hv,q⟩
theorem Inv.lnew {its:List Value}{t':Nat}(I:Inv X pins σ H s)(hv:Vals ys its)(hz:ys.length<=sizeLine):
  Inv X pins σ (upd H s.heap.objs.size (.lst ys)) {s with heap:=s.heap.push {cls:=.type "list",data:=.seq its.toArray},toks:=t'}:=
 I.laid (fun _ _ q=>Heap.get?_push_of_some _ q) (Nat.le_refl _) ⟨hz,its,0,hv,Heap.get?_push_size _ rfl⟩
theorem Inv.fresh (I:Inv X pins σ H s):H s.heap.objs.size=none:=I.hok.fresh (Nat.le_refl _)
theorem Inv.lstM (I:Inv X pins σ H s)(hH:H l=some (.lst xs)):xs.length<=sizeLine/\∃(its:List Value) (n:Nat),Vals xs its/\xs.length=its.length/\s.heap.get? l=some {cls:=.type "list",data:=.seq its.toArray n}:=by
 obtain ⟨z,its,n,r,e⟩:=I.hok l _ hH
 exact ⟨z,its,n,r,r.length,e⟩
theorem notLongL {n:Nat}(h:n<=sizeLine):Builtin.List.listTooLong n=false:=by
 unfold Builtin.List.listTooLong
 exact decide_eq_false (by walk_at "o")
end
section
variable {X:Cx}
def rAppend:V->List V->Hp->VK->Prop:=fun x vs H Q=>∃l xs y,x= .ref l/\vs=[y]/\H l=some (.lst xs)/\xs.length < sizeLine/\Q .non (upd H l (.lst (xs ++ [y])))
theorem a2k:MtM X "list.append" rAppend:=by
 intro pins s σ H x vs v us Q I rx rv h
 obtain ⟨l,xs,y,rfl,rfl,hH,hz,q⟩:=h
 cases rx
 obtain ⟨u,rfl,ru⟩:=rv.one
 obtain ⟨z,its,n,r,hl,e⟩:=I.lstM hH
 refine call_meets F.slot_list_append ⟨_,e,rfl⟩ F.entry_list_append (F.args_list_append_2 _ _) (PySem.list_append l its.toArray n u (by rw [List.size_toArray];walk_at "o")) ⟨e,?_⟩
 refine ⟨.non,_,I.lset (its':=its ++ [u]) hH e (by simp) (r.append (.cons ru .nil)) ?_,rfl,q⟩
 rw [List.length_append,List.length_singleton]
 walk_at "o"
def rPopAt:V->List V->Hp->VK->Prop:=fun x vs H Q=>∃l xs i k y,x= .ref l/\vs=[.int i]/\H l=some (.lst xs)/\-(2 ^ 63)<=i/\i < 2 ^ 63/\seqIndex? i xs.length=some k/\xs[k]? =some y/\Q y (upd H l (.lst (xs.eraseIdx k)))
theorem b0B:MtM X "list.pop" rPopAt:=by
 intro pins s σ H x vs v us Q I rx rv h
 obtain ⟨l,xs,i,k,y,rfl,rfl,hH,h1,h2,hk,hy,q⟩:=h
 cases rx
 obtain ⟨u,rfl,ru⟩:=rv.one
 obtain ⟨t,rfl⟩:=ru
 obtain ⟨z,its,n,r,hl,e⟩:=I.lstM hH
 obtain ⟨w,hw,rw'⟩:=r.get hy
 refine call_meets F.slot_list_pop ⟨_,e,rfl⟩ F.entry_list_pop (F.args_list_pop_2 _ _)
  (MeetsSeq.list_pop_at l its.toArray n i t k w (fitsIndex_both h1 h2) (by rw [List.size_toArray,<-hl];exact hk) (by rw [<-Array.getElem?_toList];exact hw) (by rw [List.size_toArray];walk_at "o")) ⟨e,?_⟩
 refine ⟨y,_,I.lset (its':=its.eraseIdx k) hH e ?_ (r.eraseIdx k) ?_,rw',q⟩
 ·show its.toArray.eraseIdxIfInBounds k=(its.eraseIdx k).toArray
  rw [List.eraseIdxIfInBounds_toArray]
 ·have:=a3S xs k
  walk_at "o"
def rReverse:V->List V->Hp->VK->Prop:=fun x vs H Q=>∃l xs,x= .ref l/\vs=[]/\H l=some (.lst xs)/\Q .non (upd H l (.lst xs.reverse))
theorem a6Y:MtM X "list.reverse" rReverse:=by
 intro pins s σ H x vs v us Q I rx rv h
 obtain ⟨l,xs,rfl,rfl,hH,q⟩:=h
 cases rx
 have hus:=rv.zero
 subst hus
 obtain ⟨z,its,n,r,hl,e⟩:=I.lstM hH
 refine call_meets F.slot_list_reverse ⟨_,e,rfl⟩ F.entry_list_reverse (F.args_list_reverse_1 _) (AutoSeq1.list_reverse_list_0 l its.toArray n (by rw [List.size_toArray];walk_at "o")) ⟨e,?_⟩
 refine ⟨.non,_,I.lset (its':=its.reverse) hH e (by simp) r.reverse ?_,rfl,q⟩
 rw [List.length_reverse]
 walk_at "o"
theorem b1m {α:Type}(xs:List α)(k:Nat):(List.replicate k xs).flatten.length=k * xs.length:=by
 induction k with
 | zero=>simp
 | succ k ih=>rw [List.replicate_succ,List.flatten_cons,List.length_append,ih,Nat.succ_mul,Nat.add_comm]
end
section
variable {prog:Program}{w:World}{A:Around}{E:Value->Shared->Prop}{s:Shared}
set_option maxRecDepth 100000 in
end
section
variable {X:Cx}
end
end L2
namespace Att
open PySem PySem.W PySem.Calls PyProof.Rows
theorem a2F {P:Params}{h:Heap}:∀(ns:List Int) (vs:List Value),WellAll P h vs (ns.map WData.int)->IntsAre vs ns:=by
 intro ns
 induction ns with
 | nil=>
  intro vs w
  rw [List.map_nil] at w
  cases w
  exact .nil
 | cons n ns ih=>
  intro vs w
  rw [List.map_cons] at w
  cases w with
  | cons a b=>
   cases a
   exact .cons _ _ (ih _ b)
theorem a8J {l:OpenLaw}{n:Nat}(hn:l.most=some n){P:Params}{h:Heap}{args:List WData}{vals:List Value}
  (hpre:l.row.toRowW.claim.pre args=true) (hwl:WellAll P h vals args):
  ∃a vs ns,vals=[Value.ref a]/\args=[WData.list (ns.map WData.int)]/\h.get? a=some {cls:=.type "list",data:=.seq vs.toArray}/\IntsAre vs ns/\ns.length<=n:=by
 have hsh:WShape.hasAll [] args [.list .int]=true:=(pre_splitW hpre).1
 have hc:l.pre.holds [] {args:=args}=true:=(pre_splitW hpre).2
 obtain ⟨d,r,rfl,h1,h2⟩:=hasAllW_cons hsh
 obtain rfl:=hasAllW_nil h2
 obtain ⟨xs,rfl,h3⟩:=hasW_list h1
 obtain ⟨ns,rfl⟩:=items_int h3
 have hlen:ns.length<=n:=by
  unfold OpenLaw.pre at hc
  have h4:(WTm.not (.lt (.lit (.int (n:Int))) (.len (.arg 0)))).holds [] {args:=[.list (ns.map .int)]}=true:=by
   have h4:=(holds_andW hc).1
   rw [hn] at h4
   exact h4
  have h5:=condW_of h4 (w_not (w_lt w_lit (w_len_list (w_arg rfl))))
  rw [List.length_map] at h5
  refine Nat.le_of_not_lt fun q=>?_
  have q':(n:Int) < ((ns.length:Nat):Int):=by walk_at "o"
  first
   | (rw [decide_eq_true q'] at h5;exact absurd h5 (by decide))
   | (simp at h5;walk_at "o")
 cases hwl with
 | cons w1 w2=>
  cases w2
  cases w1 with
  | list ho hall=>exact ⟨_,_,ns,rfl,rfl,ho,a2F ns _ hall,hlen⟩
theorem a8L (l:OpenLaw)(args:List WData):l.row.toRowW.claim.post args (.bool true) args=true:=
 postW_of (r:=l.row.toRowW) (X:=(true == true))
  (show WShape.has [] (.bool true) .bool=true by first | rfl | decide | simp [WShape.has,WShape.arms,WShape.armsAll])
  (show (WTm.eq .res (.lit (.bool true))).value [] {args:=args,res:=some (.bool true),after:=args}=some (.bool (true == true)) from w_eq_bool (w_res rfl) w_lit) rfl
theorem attach_call {l:OpenLaw}{n:Nat}{q:Program}{loose:List Str}{XP:(Str->Option Value)->Heap->Prop}{YP:World->Heap->Prop}{d:DefRec}
  (hn:l.most=some n) (hdf:d.params.defaults=[])
  (call:∀(w:World) (s₀ s₁:Shared) (mg mb:Str->Option Value) (fa:Addr) (o:Obj) (pm cd doc:Value) (a:Addr) (vs:List Value) (ns:List Int),
   Ground q loose [] XP w s₀ mg mb s₁.heap->YP w s₁.heap->
   s₁.heap.get? fa=some o->o.data= .func (docDef d.name d.params d.body d.scope pm cd doc)->s₁.heap.CodeRec cd d.name->mg d.name=some (.ref fa)->
   s₁.heap.get? a=some {cls:=.type "list",data:=.seq vs.toArray}->IntsAre vs ns->ns.length<=n->s₁.gens= #[]->
   codeAny (model l.prog w) callerA (.call (.ref fa) ⟨[.ref a],[]⟩) (fun r s'=>r= .ok (.ret (.bool true))/\OldK s₁.heap s'.heap/\s'.os=s₁.os/\AllBare s'.gens) s₁):
  WalkO q loose XP YP l.row.toRowW d [] (fun f vs=>PySem.call f vs):=by
 intro w s₀ s₁ mg mb G Y fa o pm cd doc dV kV ho hd hcd hD hmg hg args vals as hpre hlay hrd hwl hlo
 obtain rfl:dV= .none:=Dflts.none hD hdf
 obtain rfl:kV= .none:=Dflts.noKw hD
 obtain ⟨a,vs,ns,rfl,rfl,hobj,hints,hlen⟩:=a8J hn hpre hwl
 refine enter_call (codeAny_mono (call w s₀ s₁ mg mb fa o pm cd doc a vs ns G Y ho (fd_plain hd) hcd hmg hobj hints hlen hg) fun r s' hq=>?_)
 obtain ⟨rfl,h2,h3,h4⟩:=hq
 exact ⟨.inl ⟨.bool true,.bool true,[],rfl,fun _=>rfl,.bool true,a8L l _,fun _=>⟨List.Pairwise.nil,fun _ hm=>(nomatch hm)⟩⟩,h2,h3,h4⟩
section
variable {prog:Program}{w:World}{A:Around}{E:Value->Shared->Prop}{s:Shared}{K:Frag}
def ledger (h:Heap) (L d:Addr):List (Addr×Obj):=(List.range h.objs.size).filterMap fun a=>if a=L\/a=d then none else (h.get? a).map fun o=>(a,o)
end
end Att
namespace L2
open PySem PySem.Spec PyProof.Rows
theorem a4f:∀{vs:List Value} {ns:List Int},IntsAre vs ns->Vals (ns.map V.int) vs
 | _,_,.nil=>.nil
 | _,_,.cons n t h=>.cons ⟨t,rfl⟩ (a4f h)
def Only (H:Hp):Prop:=∀b,H b=none\/∃o xs,H b=some (.frz o (.lst xs))
theorem a9x {P:Program}{w:World}{K:PySem.W.Frag}{mg mb:Str->Option Value}{CX:CXT}{k:Nat}{fa a:Addr}{fd:FuncData}{x:Str}{sp:Sp}{s₁:Shared}{vs:List Value}{ns:List Int}
  (KX:K.In s₁.heap) (hns:s₁.heap.Ns mainGlobals mg) (hb:s₁.heap.Ns builtinsNs mb) (hbb:∀x:Str,x≠"__name__"->mb x=bootBuiltins x) (hlim:s₁.heap.NoLimit) (hg:s₁.gens= #[])
  (ha:s₁.heap.get? a=some {cls:=.type "list",data:=.seq vs.toArray}) (hi:IntsAre vs ns) (hl:ns.length<=sizeLine) (hr:Room k callerA)
  (F:∀base:Heap,K.In base->base.Ns mainGlobals mg->FnOk P w K mg base CX k fa fd [x] sp) (hbind:∀(s:Shared) (u:Value),BindsTo s fd ⟨[u],[]⟩ [(x,u)])
  (hsp:∀H:Hp,Only H->SqL K H a (ns.map V.int)->sp [.ref a] H (fun v _=>v= .bl true) fun _ _ _=>False)
  (hCX:∀H e s',CX [] H s₁ (fun _ _ _=>False) e s'->False):
  codeAny (model P w) callerA (.call (.ref fa) ⟨[.ref a],[]⟩) (fun r s'=>r= .ok (.ret (.bool true))/\OldK s₁.heap s'.heap/\s'.os=s₁.os/\AllBare s'.gens) s₁:=by
 have rv:=a4f hi
 have lenV:=hi.length
 have core:∀H:Hp,Only H->SqL K H a (ns.map V.int)->HOk P w H s₁.heap->(∀b,H b≠none->b=a)->(H a≠none->K.lookup a=none)->
   codeAny (model P w) callerA (.call (.ref fa) ⟨[.ref a],[]⟩) (fun r s'=>r= .ok (.ret (.bool true))/\OldK s₁.heap s'.heap/\s'.os=s₁.os/\AllBare s'.gens) s₁:=by
  intro H hO hS hok hA hK
  have base_of:∀{b:Addr} {o:Obj},s₁.heap.get? b=some o->H b=none->(hidT s₁.heap H).get? b=some o:=fun e n=>b0H e n
  have noA:∀{b:Addr} {o:Obj} {es:Array DictEntry} {ep:Nat},s₁.heap.get? b=some o->o.data= .dict es ep->H b=none:=fun {b o es ep} e d=>by
   cases q:H b with
   | none=>rfl
   | some u=>
    have e':b=a:=hA b (by rw [q];simp)
    subst e'
    rw [ha] at e;cases e
    have d':Data.seq vs.toArray _=Data.dict es ep:=d
    cases d'
  have nsK:∀{b:Addr} {m:Str->Option Value},s₁.heap.Ns b m->(hidT s₁.heap H).Ns b m:=fun {b m} ⟨o,es,ep,e,d,r⟩=>⟨o,es,ep,base_of e (noA e d),d,r⟩
  have hKb:K.In (hidT s₁.heap H):=fun b o e=>base_of (KX b o e) (by
   cases q:H b with
   | none=>rfl
   | some u=>
    have e':b=a:=hA b (by rw [q];simp)
    subst e'
    rw [hK (by rw [q];simp)] at e;cases e)
  have hM:Mod K mg (hidT s₁.heap H):=⟨hKb,nsK hns,⟨mb,nsK hb,hbb⟩,let ⟨mc,h1,h2⟩:=hlim;⟨mc,nsK h1,h2⟩⟩
  have e0:Env0 P w K mg (hidT s₁.heap H) callerA [] s₁ H:=⟨rfl,hM,fun b o e=>b1B e,Nat.le_of_eq (a8Q _ _),trivial,fun b hb=>absurd (show b∈([]:List Addr) from hb) (by simp),hok,.of_eq hg⟩
  refine codeAny_mono ((F _ hKb (nsK hns)).run callerA [] s₁ H ⟨[.ref a],[]⟩ [.ref a] [.ref a] _ _ hr e0 (hbind s₁ (.ref a)) (.cons rfl .nil) (hsp H hO hS)) fun r s' h=>?_
  cases r with
  | error e=>exact (hCX H e s' h).elim
  | ok fl=>
   cases fl with
   | next=>exact False.elim h
   | brk=>exact False.elim h
   | cont=>exact False.elim h
   | ret u=>
    obtain ⟨v,H',os,bare,un,hok',r',q⟩:=h
    have q':v= .bl true:=q
    subst q'
    obtain rfl:u=Value.bool true:=r'
    refine ⟨rfl,OldK.of_keep fun b o e=>?_,os,bare⟩
    cases q:H b with
    | none=>exact un.keep b o e q (by intro z;exact absurd (show b∈([]:List Addr) from z) (by simp)) (by simp)
    | some u=>
     rcases hO b with z | ⟨ob,xs,z⟩
     ·rw [q] at z;cases z
     ·have z2:=un.frzs b ob _ z
      obtain ⟨e1,_⟩:=hok b _ z
      obtain ⟨e2,_⟩:=hok' b _ z2
      rw [e] at e1;cases e1
      exact e2
 cases hk:K.lookup a with
 | some o=>
  have e:=KX a o hk
  rw [ha] at e
  cases e
  refine core (fun _=>none) (fun _=>.inl rfl) (.inr ⟨_,vs.toArray,_,hk,rfl,rfl,rfl,by rw [List.size_toArray,lenV];exact hl,by simpa using rv⟩) (fun b u z=>by have z':(none:Option HO)=some u:=z;cases z') (fun b z=>absurd rfl z) fun z=>absurd rfl z
 | none=>
  refine core (fun b=>if b=a then some (.frz {cls:=.type "list",data:=.seq vs.toArray} (.lst (ns.map V.int))) else none) (fun b=>?_) (.inl (.inr ⟨{cls:=.type "list",data:=.seq vs.toArray},if_pos rfl⟩)) (fun b u z=>?_) (fun b z=>?_) fun _=>hk
  ·by_cases hb:b=a
   ·exact .inr ⟨_,_,if_pos hb⟩
   ·exact .inl (if_neg hb)
  ·by_cases hb:b=a
   ·have z':=(if_pos hb).symm.trans z
    cases z'
    subst hb
    exact ⟨ha,by rw [List.length_map];exact hl,vs,_,rv,ha⟩
   ·have z':=(if_neg hb).symm.trans z
    cases z'
  ·by_cases hb:b=a
   ·exact hb
   ·exact absurd (if_neg hb) z
abbrev KOf {K:PySem.W.Frag} {h:Heap} (_:K.In h):PySem.W.Frag:=K
theorem b2a {l:PySem.W.OpenLaw}{n k:Nat}{q:Program}{loose:List Str}{XP:(Str->Option Value)->Heap->Prop}{YP:World->Heap->Prop}{d:DefRec}{K:Params->PySem.W.Frag}{CX:World->CXT}{sp:World->Sp}{x:Str}
  (hn:l.most=some n) (hn2:n<=sizeLine) (hdf:d.params.defaults=[]) (hr:Room k callerA)
  (hY:∀(w:World) (h:Heap),YP w h->(K w.params).In h)
  (F:∀(w:World) (mg:Str->Option Value) (fa:Addr) (h:Heap),(K w.params).In h->h.Ns mainGlobals mg->mg d.name=some (.ref fa)->
   ∃fd:FuncData,(∀(s:Shared) (u:Value),BindsTo s fd ⟨[u],[]⟩ [(x,u)])/\
    ∀base:Heap,(K w.params).In base->base.Ns mainGlobals mg->FnOk l.prog w (K w.params) mg base (CX w) k fa fd [x] (sp w))
  (hsp:∀(w:World) (H:Hp) (a:Addr) (ns:List Int),ns.length<=n->Only H->SqL (K w.params) H a (ns.map V.int)->sp w [.ref a] H (fun v _=>v= .bl true) fun _ _ _=>False)
  (hCX:∀(w:World) (H:Hp) (s:Shared) (e:Value) (s':Shared),CX w [] H s (fun _ _ _=>False) e s'->False):
  PySem.W.WalkO q loose XP YP l.row.toRowW d [] (fun f vs=>PySem.call f vs):=by
 refine Att.attach_call hn hdf fun w s₀ s₁ mg mb fa o pm cd doc a vs ns G Y ho hd hcd hmg hobj hints hlen hg=>?_
 have KX:=hY w _ Y
 obtain ⟨fd,hb,hF⟩:=F w mg fa _ KX G.T.g hmg
 exact a9x KX G.T.g G.T.b G.T.builtins G.T.nolimit hg hobj hints (Nat.le_trans hlen hn2) hr hF hb (fun H hO hS=>hsp w H a ns hlen hO hS) fun H e s'=>hCX w H s₁ e s'
def defArgs (s:Stmt):Arguments:=match s with
 | .FunctionDef _ a _ _ _ _ _ _ _ _=>a
 | _=>{posonlyargs:=[],args:=[],vararg:=none,kwonlyargs:=[],kw_defaults:=[],kwarg:=none,defaults:=[]}
def defBody (s:Stmt):List Stmt:=match s with
 | .FunctionDef _ _ b _ _ _ _ _ _ _=>b
 | _=>[]
def defScope (s:Stmt):Scope:=match s with
 | .FunctionDef _ _ _ _ _ _ sc _ _ _=>sc
 | _=>{kind:=.function,names:=[],isGenerator:=false,isCoroutine:=false}
abbrev CX0:CXT:=fun _ _ _ _ _ _=>False
abbrev E0:XK:=fun _ _ _=>False
theorem pass0 {X:Cx}:Passes CX0 X E0:=fun _ _ _ _ _ _ _ h=>h.elim
structure Fun (K:PySem.W.Frag) (x qual:Str) (st:Stmt) (f:Addr) (fd:FuncData):Prop where
 ex:∃(oc:Value) (od:Option Addr) (kV doc pm:Value) (an:Option Addr) (cdv ct:Value) (osl:Array (Option Value)),
  fd=PySem.W.fnOf x qual (defArgs st) (defBody st) (defScope st) .none kV doc pm an cdv ct/\K.lookup f=some ⟨oc,od,.func fd,osl⟩/\PySem.W.codeIn K cdv qual=true
 kp:PySem.W.keepIn K (.ref f)=true
section
variable {P:Program}{w:World}{K:PySem.W.Frag}{mg:Str->Option Value}{base:Heap}
theorem Fun.ok {x qual:Str}{st:Stmt}{f:Addr}{fd:FuncData}{N ps:List Str}{k:Nat}{sp:Sp}(F:Fun K x qual st f fd)(S:FnScope N ps (defScope st))(len:∀vs H Q E,sp vs H Q E->vs.length=ps.length)
  (hbody:∀(cdv:Value) (A:Around) (outer:List Env) (s:Shared) (H:Hp) (vs:List V) (Q:VK) (E:XK),Room k (A.deeper (envOfC qual (defScope st) s.heap.objs.size f cdv))->sp vs H Q E->
   ∃t,PSs (cxOf CX0 P w K mg base N qual (defScope st) f cdv A outer s H E).nox (defBody st) t/\t {nx:=fun _ H'=>Q .non H',rt:=Q} (start N vs) H):FnOk P w K mg base CX0 (k + 1) f fd ps sp:=by
 obtain ⟨oc,od,kV,doc,pm,an,cdv,ct,osl,rfl,lk,hcd⟩:=F.ex
 refine fn_of lk hcd S len fun A outer s H vs Q E hr hsp=>?_
 obtain ⟨t,h,q⟩:=hbody cdv A outer s H vs Q E hr hsp
 exact ⟨t,h.nox,q⟩
theorem Fun.binds {x qual:Str}{st:Stmt}{f:Addr}{fd:FuncData}{ps:List Str}(F:Fun K x qual st f fd)
  (h:∀(kV doc pm:Value) (an:Option Addr) (cdv ct:Value) (us:List Value),us.length=ps.length->bindArgs (PySem.W.fnOf x qual (defArgs st) (defBody st) (defScope st) .none kV doc pm an cdv ct) ⟨us,[]⟩=pure (ps.zip us)):Binds K fd ps []:=by
 obtain ⟨oc,od,kV,doc,pm,an,cdv,ct,osl,rfl,lk,hcd⟩:=F.ex
 exact .all (h kV doc pm an cdv ct)
theorem b0l {x qual:Str}{st:Stmt}{f:Addr}{oc:Value}{od an:Option Addr}{osl:Array (Option Value)}{kV doc pm cdv ct:Value}(l:K.lookup f=some ⟨oc,od,.func (PySem.W.fnOf x qual (defArgs st) (defBody st) (defScope st) .none kV doc pm an cdv ct),osl⟩)
  (c:PySem.W.codeIn K cdv qual=true) (k:PySem.W.keepIn K (.ref f)=true):Fun K x qual st f (PySem.W.fnOf x qual (defArgs st) (defBody st) (defScope st) .none kV doc pm an cdv ct):=⟨⟨oc,od,kV,doc,pm,an,cdv,ct,osl,rfl,l,c⟩,k⟩
end
theorem a31 {A:Around}{k:Nat}(hr:Room k A):A.units + 1 < cLine:=Nat.lt_of_le_of_lt (Nat.add_le_add_left (by decide:1<=64) _) hr.units
section
variable {X:Cx}
end
def Same (H H':Hp):Prop:=∀b o,H b=some o->H' b=some o
theorem Same.refl (H:Hp):Same H H:=fun _ _ h=>h
theorem Same.trans {H H1 H2:Hp}(a:Same H H1)(b:Same H1 H2):Same H H2:=fun c o h=>b c o (a c o h)
section
variable {κ:Type} [DecidableEq κ]
def valV (kvs:List (κ×V)) (k:κ):Option V:=(kvs.find? fun kv=>decide (kv.1=k)).map (·.2)
def putK (kvs:List (κ×V)) (k:κ) (v:V):List (κ×V):=
 if (kvs.any fun kv=>decide (kv.1=k))=true then kvs.map (fun kv=>if kv.1=k then (kv.1,v) else kv) else kvs ++ [(k,v)]
theorem a1N {p:κ×V}{r:List (κ×V)}{k:κ}(e:p.1=k):valV (p :: r) k=some p.2:=by simp [valV,List.find?_cons,e]
theorem a0g {p:κ×V}{r:List (κ×V)}{k:κ}(e:¬p.1=k):valV (p :: r) k=valV r k:=by simp [valV,List.find?_cons,e]
theorem a56 (k:κ):∀kvs:List (κ×V),(kvs.any fun kv=>decide (kv.1=k))=(valV kvs k).isSome
 | []=>rfl
 | p :: r=>by
  rw [List.any_cons]
  by_cases e:p.1=k
  ·simp only [a1N e,decide_eq_true e,Bool.true_or,Option.isSome_some]
  ·rw [a0g e,decide_eq_false e,Bool.false_or];exact a56 k r
theorem a0n (kvs:List (κ×V))(k:κ)(v:V):(putK kvs k v).length<=kvs.length + 1:=by
 unfold putK
 split
 ·rw [List.length_map];walk_at "o"
 ·rw [List.length_append,List.length_cons,List.length_nil];walk_at "o"
theorem RelO.isSome_eq {o:Option V}{u:Option Value}(r:RelO o u):o.isSome=u.isSome:=by
 cases o with
 | none=>cases u with
  | none=>rfl
  | some _=>exact (show False from r).elim
 | some _=>cases u with
  | none=>exact (show False from r).elim
  | some _=>rfl
theorem RelO.getD {o:Option V}{u:Option Value}{d:V}{d':Value}(r:RelO o u)(rd:RelV d d'):RelV (o.getD d) (u.getD d'):=by
 cases o with
 | none=>cases u with
  | none=>exact rd
  | some _=>exact (show False from r).elim
 | some _=>cases u with
  | none=>exact (show False from r).elim
  | some _=>exact r
theorem KV.val {kvs:List (κ×V)}{vs:List (κ×Value)}(r:KV kvs vs)(k:κ):RelO (valV kvs k) (valueAt vs k):=by
 unfold KV at r
 induction r with
 | nil=>exact True.intro
 | @cons p q ps qs h t ih=>
  obtain ⟨h1,h2⟩:=h
  by_cases e:p.1=k
  ·have e':q.1=k:=h1.symm.trans e
   have b:valueAt (q :: qs) k=some q.2:=by simp [valueAt,List.find?_cons,e']
   rw [a1N e,b];exact h2
  ·have e':¬q.1=k:=fun z=>e (h1.trans z)
   have b:valueAt (q :: qs) k=valueAt qs k:=by simp [valueAt,List.find?_cons,e']
   rw [a0g e,b];exact ih
theorem KV.any {kvs:List (κ×V)}{vs:List (κ×Value)}(r:KV kvs vs)(k:κ):(kvs.any fun kv=>decide (kv.1=k))=vs.any fun kv=>decide (kv.1=k):=by
 unfold KV at r
 induction r with
 | nil=>rfl
 | cons h t ih=>rw [List.any_cons,List.any_cons,ih,h.1]
theorem KV.repl {kvs:List (κ×V)}{vs:List (κ×Value)}(r:KV kvs vs)(k:κ){y:V}{u:Value}(ry:RelV y u):
  KV (kvs.map fun kv=>if kv.1=k then (kv.1,y) else kv) (vs.map fun kv=>if kv.1=k then (kv.1,u) else kv):=by
 unfold KV at r ⊢
 induction r with
 | nil=>exact .nil
 | @cons p q ps qs h t ih=>
  rw [List.map_cons,List.map_cons]
  refine .cons ?_ ih
  obtain ⟨h1,h2⟩:=h
  by_cases e:p.1=k
  ·rw [if_pos e,if_pos (h1.symm.trans e)];exact ⟨h1,ry⟩
  ·rw [if_neg e,if_neg (fun z=>e (h1.trans z))];exact ⟨h1,h2⟩
theorem KV.put {kvs:List (κ×V)}{vs:List (κ×Value)}(r:KV kvs vs)(k:κ){y:V}{u:Value}(ry:RelV y u):KV (putK kvs k y) (stored vs k u):=by
 unfold putK stored
 rw [r.any k]
 by_cases e:(vs.any fun kv=>decide (kv.1=k))=true
 ·rw [if_pos e,if_pos e];exact r.repl k ry
 ·rw [if_neg e,if_neg e];exact Paired.snoc r ⟨rfl,ry⟩
theorem KV.length {kvs:List (κ×V)}{vs:List (κ×Value)}(r:KV kvs vs):kvs.length=vs.length:=Paired.length r
end
theorem a3Q {P:Program}{w:World}{k:Key}{u:Value}(r:RelV (kV k) u):(mixKind P w).is k u=true:=by
 cases k with
 | inl i=>obtain ⟨t,e⟩:=(show ∃t,u=Value.int i t from r);subst e;exact a5D P w i t
 | inr x=>obtain ⟨t,e⟩:=(show ∃t,u=Value.str x t from r);subst e;exact a6a P w x t
theorem a10 {P:Program}{w:World}:∀{ks:List Key} {us:List Value},Vals (ks.map kV) us->ItemsAre (mixKind P w) ks us
 | [],_,r=>by rw [List.map_nil] at r;cases r;exact .nil
 | k :: ks,_,r=>by
  rw [List.map_cons] at r
  cases r with
  | cons h t=>exact .cons (a3Q h) (a10 t)
abbrev KT (H:Hp):List (List Key×V)->List (List Key×Addr×Value)->Prop:=Paired fun p q=>p.1=q.1/\H q.2.1=some (.tup (p.1.map kV))/\RelV p.2 q.2.2
theorem KT.val {H:Hp}{kvs:List (List Key×V)}{xs:List (List Key×Addr×Value)}(r:KT H kvs xs)(k:List Key):RelO (valV kvs k) ((atKey xs k).map (·.2)):=by
 induction r with
 | nil=>exact True.intro
 | @cons p q ps qs h t ih=>
  obtain ⟨h1,_,h2⟩:=h
  by_cases e:p.1=k
  ·have e':q.1=k:=h1.symm.trans e
   have b:atKey (q :: qs) k=some q.2:=by simp [atKey,List.find?_cons,e']
   rw [a1N e,b];exact h2
  ·have e':¬q.1=k:=fun z=>e (h1.trans z)
   have b:atKey (q :: qs) k=atKey qs k:=by simp [atKey,List.find?_cons,e']
   rw [a0g e,b];exact ih
theorem KT.repl {H:Hp}{kvs:List (List Key×V)}{xs:List (List Key×Addr×Value)}(r:KT H kvs xs)(k:List Key){y:V}{u:Value}(ry:RelV y u):
  KT H (kvs.map fun kv=>if kv.1=k then (kv.1,y) else kv) (xs.map (putAt k u)):=by
 induction r with
 | nil=>exact .nil
 | @cons p q ps qs h t ih=>
  rw [List.map_cons,List.map_cons]
  refine .cons ?_ ih
  obtain ⟨h1,h2,h3⟩:=h
  unfold putAt
  by_cases e:p.1=k
  ·rw [if_pos e,if_pos (h1.symm.trans e)];exact ⟨h1,h2,ry⟩
  ·rw [if_neg e,if_neg (fun z=>e (h1.trans z))];exact ⟨h1,h2,h3⟩
theorem KT.put {H:Hp}{kvs:List (List Key×V)}{xs:List (List Key×Addr×Value)}(r:KT H kvs xs)(k:List Key){b:Addr}{y:V}{u:Value}(hb:H b=some (.tup (k.map kV)))(ry:RelV y u):
  KT H (putK kvs k y) (storedH xs k b u):=by
 have e:(kvs.any fun kv=>decide (kv.1=k))=(atKey xs k).isSome:=by
  rw [a56,(r.val k).isSome_eq,Option.isSome_map]
 unfold putK storedH
 rw [e]
 by_cases q:(atKey xs k).isSome=true
 ·rw [if_pos q,if_pos q];exact r.repl k ry
 ·rw [if_neg q,if_neg q];exact Paired.snoc r ⟨rfl,hb,ry⟩
theorem KT.keeps {H H':Hp}{kvs:List (List Key×V)}{xs:List (List Key×Addr×Value)}(r:KT H kvs xs)(ht:∀b ys,H b=some (.tup ys)->H' b=some (.tup ys)):KT H' kvs xs:=
 Paired.mapP r fun _ _ z=>⟨z.1,ht _ _ z.2.1,z.2.2⟩
section
variable {P:Program}{w:World}{H:Hp}{h:Heap}{a:Addr}
theorem b2u {u:HO}(ok:HOk P w H h)(e:Rd H a u):ObjOk P w H h a u:=e.ok ok
theorem dk_rd {kvs:List (Key×V)}(ok:HOk P w H h)(e:Rd H a (.dK kvs)):kvs.length<=sizeLine/\(a == sysModules)=false/\∃vs,KV kvs vs/\h.DictOf (mixKind P w) a vs:=
 show ObjOk P w H h a (.dK kvs) from b2u ok e
theorem a4n {kvs:List (Key×V)}(ok:HOk P w H h)(e:H a=some (.dK kvs)):kvs.length<=sizeLine/\(a == sysModules)=false/\∃vs,KV kvs vs/\h.DictOf (mixKind P w) a vs:=dk_rd ok (.inl e)
theorem a60 {ks:List Key}(ok:HOk P w H h)(e:H a=some (.tup (ks.map kV))):(tupleKind (mixKind P w)).is h ks a:=by
 obtain ⟨_,its,r,o,h1,h2,⟨n,h3⟩,_⟩:=(show ObjOk P w H h a (.tup (ks.map kV)) from ok a _ e)
 exact ⟨o,its.toArray,n,h1,h2,h3,by simpa using a10 r⟩
theorem dt_rd {kvs:List (List Key×V)}(ok:HOk P w H h)(e:Rd H a (.dT kvs)):kvs.length<=sizeLine/\(a == sysModules)=false/\
  ∃xs,KT H kvs xs/\h.DictOfH (tupleKind (mixKind P w)) a xs:=by
 obtain ⟨z,y,xs,r,o,es,ep,h1,h2,h3,h4,h5⟩:=(show ObjOk P w H h a (.dT kvs) from b2u ok e)
 refine ⟨z,y,xs,r,o,es,ep,h1,h2,h3,h4,fun x hx=>?_,h5⟩
 have all:∀{l:List (List Key×V)} {m:List (List Key×Addr×Value)},KT H l m->∀x∈m,(tupleKind (mixKind P w)).is h x.1 x.2.1:=by
  intro l m q
  induction q with
  | nil=>intro x hx;exact nomatch hx
  | @cons p q ps qs hq t ih=>
   intro x hx
   rcases List.mem_cons.mp hx with e | hx
   ·subst e
    exact a60 ok (by rw [<-hq.1];exact hq.2.1)
   ·exact ih x hx
 exact all r x hx
theorem a3P {kvs:List (List Key×V)}(ok:HOk P w H h)(e:H a=some (.dT kvs)):kvs.length<=sizeLine/\(a == sysModules)=false/\
  ∃xs,KT H kvs xs/\h.DictOfH (tupleKind (mixKind P w)) a xs:=dt_rd ok (.inl e)
end
def DPut (H:Hp) (a:Addr) (y v:V) (H':Hp):Prop:=
 (∃kvs k,H a=some (.dK kvs)/\y=kV k/\kvs.length < sizeLine/\H'=upd H a (.dK (putK kvs k v)))\/
 ∃kvs k b,H a=some (.dT kvs)/\y= .ref b/\H b=some (.tup (k.map kV))/\kvs.length < sizeLine/\H'=upd H a (.dT (putK kvs k v))
theorem DPut.t {H:Hp}{a b:Addr}{kvs:List (List Key×V)}{k:List Key}{v:V}(e:H a=some (.dT kvs))(eb:H b=some (.tup (k.map kV)))(hl:kvs.length < sizeLine):
  DPut H a (.ref b) v (upd H a (.dT (putK kvs k v))):=.inr ⟨kvs,k,b,e,rfl,eb,hl,rfl⟩
section
variable {X:Cx}{pins:List (Addr×Obj)}{σ:St}{H:Hp}{s:Shared}{a:Addr}{y v:V}{u r:Value}{o:Option V}{A:Around}{E:Value->Shared->Prop}
theorem Inv.big (I:Inv X pins σ H s):sysModules < s.heap.objs.size:=by
 have h:mainGlobals < s.heap.objs.size:=(I.mod.glob.keeps I.bk).lt
 exact Nat.lt_trans (by decide) h
theorem a5r {h':Heap}{t':Nat}{ob:HO}(I:Inv X pins σ H s)(mu:Mut (H a))(hs:Heap.SameBut a s.heap h')(he:∃q,h'.get? a=some q)(new:ObjOk X.prog X.w (upd H a ob) h' a ob):
  Inv X pins σ (upd H a ob) {s with heap:=h',toks:=t'}:=
 I.write (x:=a) (e:=a) mu (.inl rfl) (fun b q hb z=>(hs.2 b hb).trans z) he new
theorem b3C {P:Program}{w:World}{H':Hp}{h':Heap}{kvs:List (Key×V)}{vs:List (Key×Value)}(z:kvs.length<=sizeLine)(hd:(a == sysModules)=false)(rel:KV kvs vs)(dd:h'.DictOf (mixKind P w) a vs):
  ObjOk P w H' h' a (.dK kvs):=⟨z,hd,vs,rel,dd⟩
theorem a8r {H':Hp}{Q:Unit->Shared->Prop}(hu:A.units + 1 < cLine)(I:Inv X pins σ H s)(g:DPut H a y v H')(ry:RelV y u)(rv:RelV v r)(h:∀s',Inv X pins σ H' s'->Q () s'):
  wpAny (model X.prog X.w) A (setItem (.ref a) u r) Q E s:=by
 rcases g with ⟨kvs,k,e,ey,l,eH⟩ | ⟨kvs,k,b,e,ey,eb,l,eH⟩
 ·subst ey eH
  obtain ⟨z,hd,vs,rel,dd⟩:=a4n I.hok e
  have hz:vs.length<=sizeLine:=by rw [<-rel.length];exact z
  have hl:(putK kvs k v).length<=sizeLine:=by have:=a0n kvs k v;walk_at "o"
  refine wpAny_setItem_pairs (hsz:=hz) (a3Q ry) dd fun h' dd' hs=>h _ ?_
  have he:∃q,h'.get? a=some q:=let ⟨q,_,_,hq,_⟩:=dd';⟨q,hq⟩
  exact a5r I (by rw [e];exact True.intro) hs he (b3C hl hd (rel.put k rv) dd')
 ·subst ey eH
  cases (show u=Value.ref b from ry)
  obtain ⟨z,hd,xs,rel,dd⟩:=a3P I.hok e
  have hz:xs.length<=sizeLine:=by rw [<-Paired.length rel];exact z
  have hl:(putK kvs k v).length<=sizeLine:=by have:=a0n kvs k v;walk_at "o"
  refine wpAny_setItem_heap (hsz:=hz) (tupleKind_room_in1 hu) (a60 I.hok eb) dd fun h' dd' hs=>h _ ?_
  obtain ⟨q,es,ep,hq,h2,h3,h4,_,h5⟩:=dd'
  refine a5r I (by rw [e];exact True.intro) hs ⟨q,hq⟩ ⟨hl,hd,_,(rel.put k eb rv).keeps fun c ys ec=>?_,q,es,ep,hq,h2,h3,h4,h5⟩
  rw [g7 (b2o ec e (fun z=>nomatch z))]
  exact ec
end
section
variable {X:Cx}{pins:List (Addr×Obj)}{σ:St}{H:Hp}{s:Shared}{a:Addr}{kvs:List (Key×V)}{k:Key}{u:Value}{A:Around}{E:Value->Shared->Prop}
end
def sDPut (td ty tv:TE):TS:=fun D σ H=>tv σ H fun v H1=>td σ H1 fun x H2=>ty σ H2 fun y H3=>∃a H4,x= .ref a/\DPut H3 a y v H4/\D.nx σ H4
section
variable {X:Cx}{o i e value:Expr}{pos pos' tpos:Pos}{td ty tv:TE}
theorem b18 (hu:X.A.units + 1 < cLine)(ho:PE X o td)(hi:PE X i ty)(hv:PE X value tv)(hs:swapsWith value (some (.Subscript o i pos')) pos.line X.env=pure false):
  PS X (.Assign [.Subscript o i pos'] value pos) (sDPut td ty tv):=by
 intro pins s σ H D I h
 refine wpAny_Assign_Subscript (thn (hv pins s σ H _ I h) fun r s1 ⟨v,H1,I1,rv,q1⟩=>thn (ho pins s1 σ H1 _ I1 q1) fun u s2 ⟨x,H2,I2,rx,q2⟩=>thn (hi pins s2 σ H2 _ I2 q2) fun iv s3 ⟨y,H3,I3,ry,a,H4,ex,g,q3⟩=>?_) hs
 subst ex
 obtain rfl:u=Value.ref a:=rx
 exact a8r hu I3 g ry rv fun s4 I4=>⟨σ,H4,I4,q3⟩
end
theorem b0s {P:Program}{w:World}{H:Hp}(h:Heap)(hb:sysModules < h.objs.size):ObjOk P w H (h.push {cls:=.type "dict",data:=.dict #[]}) h.objs.size (.dK []):=
 ⟨Nat.zero_le _,beq_eq_false_iff_ne.mpr (Ne.symm (Nat.ne_of_lt hb)),[],.nil,Heap.DictOf.new h⟩
theorem a5M {P:Program}{w:World}{H:Hp}(h:Heap)(hb:sysModules < h.objs.size):ObjOk P w H (h.push {cls:=.type "dict",data:=.dict #[]}) h.objs.size (.dT []):=
 ⟨Nat.zero_le _,beq_eq_false_iff_ne.mpr (Ne.symm (Nat.ne_of_lt hb)),[],.nil,_, #[],0,Heap.get?_push_size _ rfl,⟨rfl,rfl,rfl⟩,rfl,rfl,List.nodup_nil⟩
def tDNewK:TE:=fun _ H Q=>∀p,H p=none->Q (.ref p) (upd H p (.dK []))
def tDNewT:TE:=fun _ H Q=>∀p,H p=none->Q (.ref p) (upd H p (.dT []))
section
variable {X:Cx}{pos:Pos}
theorem b0m:PE X (.Dict [] [] pos) tDNewK:=fun pins s σ H Q I h=>
 wpAny_Dict_empty ⟨.ref s.heap.objs.size,_,I.laid (a:=s.heap.objs.size) (o:=.dK []) (t':=s.toks) (fun _ _ q=>Heap.get?_push_of_some _ q) (Nat.le_refl _) (b0s s.heap I.big),rfl,h _ (I.hok.fresh (Nat.le_refl _))⟩
theorem b0L:PE X (.Dict [] [] pos) tDNewT:=fun pins s σ H Q I h=>
 wpAny_Dict_empty ⟨.ref s.heap.objs.size,_,I.laid (a:=s.heap.objs.size) (o:=.dT []) (t':=s.toks) (fun _ _ q=>Heap.get?_push_of_some _ q) (Nat.le_refl _) (a5M s.heap I.big),rfl,h _ (I.hok.fresh (Nat.le_refl _))⟩
end
end L2
set_option maxHeartbeats 1000000
namespace Z
open PySem PySem.Spec PyProof.Rows L2
theorem obs {α β:Type}{o:Option α}{k:α->Option β}{y:β}(h:o.bind k=some y):∃a,o=some a/\k a=some y:=Option.bind_eq_some_iff.mp h
theorem oms {α β:Type}{o:Option α}{k:α->β}{y:β}(h:o.map k=some y):∃a,o=some a/\k a=y:=Option.map_eq_some_iff.mp h
set_option genInjectivity true in
inductive D where
 | non | bl (b:Bool) | int (i:Int) | str (x:Str) | tup (xs:List D) | lst (xs:List D) | dT (ks:List (List Key)) (xs:List D) | dK (ks:List Key) (xs:List D) | exn (C:Addr)
set_option genInjectivity true in
inductive W where
 | v (d:D) | o (d:D) | l (d:D) | r (i:Nat)
abbrev Ev:=List (Option W)
abbrev Av:=Addr->Prop
def ExcAt (a C:Addr) (h:Heap):Prop:=∃o vs,h.get? a=some o/\o.cls= .ref C/\o.data= .fields vs
def Mu:HO->Prop
 | .lst _=>True
 | .dT _=>True
 | .dK _=>True
 | _=>False
abbrev Emp:Hp:=fun _=>none
mutual
def Den (K:PySem.W.Frag) (A:Av) (H:Hp):D->V->Prop
 | .non,v=>v= .non
 | .bl b,v=>v= .bl b
 | .int i,v=>v= .int i
 | .str x,v=>v= .str x
 | .tup xs,v=>∃a vs,v= .ref a/\SqT K H a vs/\DenL K A H xs vs
 | .lst xs,v=>∃a vs,v= .ref a/\((H a=some (.lst vs)/\¬A a)\/(∃o,H a=some (.frz o (.lst vs)))\/SqL K Emp a vs)/\DenL K A H xs vs
 | .dT ks xs,v=>∃a vs,v= .ref a/\(H a=some (.dT (ks.zip vs))/\¬A a)/\ks.length=xs.length/\DenL K A H xs vs
 | .dK ks xs,v=>∃a vs,v= .ref a/\(H a=some (.dK (ks.zip vs))/\¬A a)/\ks.length=xs.length/\DenL K A H xs vs
 | .exn C,v=>∃a,v= .ref a/\H a=some (.ext (ExcAt a C))
def DenL (K:PySem.W.Frag) (A:Av) (H:Hp):List D->List V->Prop
 | [],vs=>vs=[]
 | d :: ds,vs=>∃v r,vs=v :: r/\Den K A H d v/\DenL K A H ds r
end
section
variable {K:PySem.W.Frag}{A A' M:Av}{H H':Hp}
structure Go (A A' M:Av) (H H':Hp):Prop where
 k:∀b o,H b=some o->¬M b->H' b=some o
 m:∀b,M b->A b/\∃u,H b=some u/\Mu u
 n:∀b,A' b->A b\/H b=none
theorem Go.not (g:Go A A' M H H'){b:Addr}{u:HO}(e:H b=some u)(n:¬Mu u):H' b=some u:=g.k b u e fun z=>by
 obtain ⟨_,u',e',m⟩:=g.m b z;rw [e] at e';cases e';exact n m
theorem Go.lone (g:Go A A' M H H'){b:Addr}{u:HO}(h:H b=some u/\¬A b):H' b=some u/\¬A' b:=
 ⟨g.k b u h.1 fun z=>h.2 (g.m b z).1,fun z=>(g.n b z).elim h.2 fun z=>by rw [h.1] at z;cases z⟩
mutual
theorem s0 (g:Go A A' M H H'):∀(d:D) (v:V),Den K A H d v->Den K A' H' d v
 | .non,v,h=>by rw [Den] at h ⊢;exact h
 | .bl b,v,h=>by rw [Den] at h ⊢;exact h
 | .int i,v,h=>by rw [Den] at h ⊢;exact h
 | .str x,v,h=>by rw [Den] at h ⊢;exact h
 | .tup xs,v,h=>by
  rw [Den] at h ⊢
  obtain ⟨a,vs,e,q,l⟩:=h
  refine ⟨a,vs,e,?_,u9 g xs vs l⟩
  rcases q with (q | ⟨o,q⟩) | q
  ·exact .inl (.inl (g.not q id))
  ·exact .inl (.inr ⟨o,g.not q id⟩)
  ·exact .inr q
 | .lst xs,v,h=>by
  rw [Den] at h ⊢
  obtain ⟨a,vs,e,q,l⟩:=h
  refine ⟨a,vs,e,?_,u9 g xs vs l⟩
  rcases q with q | ⟨o,q⟩ | q
  ·exact .inl (g.lone q)
  ·exact .inr (.inl ⟨o,g.not q id⟩)
  ·exact .inr (.inr q)
 | .dT ks xs,v,h=>by
  rw [Den] at h ⊢
  obtain ⟨a,vs,e,q,hl,l⟩:=h
  exact ⟨a,vs,e,g.lone q,hl,u9 g xs vs l⟩
 | .dK ks xs,v,h=>by
  rw [Den] at h ⊢
  obtain ⟨a,vs,e,q,hl,l⟩:=h
  exact ⟨a,vs,e,g.lone q,hl,u9 g xs vs l⟩
 | .exn C,v,h=>by
  rw [Den] at h ⊢
  obtain ⟨a,e,q⟩:=h
  exact ⟨a,e,g.not q id⟩
theorem u9 (g:Go A A' M H H'):∀(ds:List D) (vs:List V),DenL K A H ds vs->DenL K A' H' ds vs
 | [],vs,h=>by rw [DenL] at h ⊢;exact h
 | d :: ds,vs,h=>by
  rw [DenL] at h ⊢
  obtain ⟨v,r,e,q,l⟩:=h
  exact ⟨v,r,e,s0 g d v q,u9 g ds r l⟩
end
theorem a4M (s:Same H H'):Go A A (fun _=>False) H H':=⟨fun b o e _=>s b o e,fun _ z=>z.elim,fun _ z=>.inl z⟩
theorem A1 (h:∀b,A' b->A b):Go A A' (fun _=>False) H H:=⟨fun _ _ e _=>e,fun _ z=>z.elim,fun b z=>.inl (h b z)⟩
theorem a0s (s:Same H H'){d:D}{v:V}(h:Den K A H d v):Den K A H' d v:=s0 (a4M s) d v h
theorem a8m (s:Same H H'){d:List D}{v:List V}(h:DenL K A H d v):DenL K A H' d v:=u9 (a4M s) d v h
theorem j8 {d:D}{ds:List D}{v:V}{vs:List V}(h:Den K A H d v)(t:DenL K A H ds vs):DenL K A H (d :: ds) (v :: vs):=by rw [DenL];exact ⟨v,vs,rfl,h,t⟩
theorem j9:DenL K A H [] []:=by rw [DenL]
theorem t7:∀{ds es:List D} {vs ws:List V},DenL K A H ds vs->DenL K A H es ws->DenL K A H (ds ++ es) (vs ++ ws)
 | [],_,_,_,h,t=>by rw [DenL] at h;subst h;exact t
 | d :: ds,_,_,_,h,t=>by
  rw [DenL] at h
  obtain ⟨v,r,rfl,q,l⟩:=h
  exact j8 q (t7 l t)
theorem c7:∀{ds:List D} {vs:List V},DenL K A H ds vs->ds.length=vs.length
 | [],_,h=>by rw [DenL] at h;subst h;rfl
 | d :: ds,_,h=>by
  rw [DenL] at h
  obtain ⟨v,r,rfl,q,l⟩:=h
  rw [List.length_cons,List.length_cons,c7 l]
theorem w9:∀{ds:List D} {vs:List V} {i:Nat} {d:D},DenL K A H ds vs->ds[i]? =some d->∃v,vs[i]? =some v/\Den K A H d v
 | [],_,_,_,_,e=>by simp at e
 | d :: ds,_,0,_,h,e=>by
  rw [DenL] at h
  obtain ⟨v,r,rfl,q,l⟩:=h
  simp at e;subst e
  exact ⟨v,rfl,q⟩
 | d :: ds,_,i + 1,x,h,e=>by
  rw [DenL] at h
  obtain ⟨v,r,rfl,q,l⟩:=h
  obtain ⟨u,h1,h2⟩:=w9 (i:=i) (d:=x) l (by simpa using e)
  exact ⟨u,by simpa using h1,h2⟩
theorem a6b {d:D}{v:V}(hd:Den K A H d v):∀{ds:List D} {vs:List V} (i:Nat),DenL K A H ds vs->DenL K A H (ds.set i d) (vs.set i v)
 | [],_,_,h=>by rw [DenL] at h;subst h;exact j9
 | _ :: _,_,0,h=>by
  rw [DenL] at h
  obtain ⟨v,r,rfl,q,l⟩:=h
  exact j8 hd l
 | _ :: _,_,i + 1,h=>by
  rw [DenL] at h
  obtain ⟨v,r,rfl,q,l⟩:=h
  exact j8 q (a6b hd i l)
theorem a3X:∀{ds:List D} {vs:List V} (n:Nat),DenL K A H ds vs->DenL K A H (ds.take n) (vs.take n)
 | [],_,n,h=>by rw [DenL] at h;subst h;simp;exact j9
 | d :: ds,_,0,h=>by simp;exact j9
 | d :: ds,_,n + 1,h=>by
  rw [DenL] at h
  obtain ⟨v,r,rfl,q,l⟩:=h
  exact j8 q (a3X n l)
theorem a4q:∀{ds:List D} {vs:List V} (n:Nat),DenL K A H ds vs->DenL K A H (ds.drop n) (vs.drop n)
 | [],_,n,h=>by rw [DenL] at h;subst h;simp;exact j9
 | d :: ds,_,0,h=>h
 | d :: ds,_,n + 1,h=>by
  rw [DenL] at h
  obtain ⟨v,r,rfl,q,l⟩:=h
  exact a4q n l
theorem F5 {i:Int}{v:V}:Den K A H (.int i) v↔v= .int i:=by rw [Den]
theorem a2s {i:Bool}{v:V}:Den K A H (.bl i) v↔v= .bl i:=by rw [Den]
theorem a4I {v:V}:Den K A H .non v↔v= .non:=by rw [Den]
theorem a1F {i:Str}{v:V}:Den K A H (.str i) v↔v= .str i:=by rw [Den]
theorem denL1 {d:D}{vs:List V}(l:DenL K A H [d] vs):∃v,vs=[v]/\Den K A H d v:=by
 rw [DenL] at l;obtain ⟨v,r,rfl,h,l⟩:=l;rw [DenL] at l;subst l;exact ⟨v,rfl,h⟩
theorem denL2 {d e:D}{vs:List V}(l:DenL K A H [d,e] vs):∃v u,vs=[v,u]/\Den K A H d v/\Den K A H e u:=by
 rw [DenL] at l;obtain ⟨v,r,rfl,h,l⟩:=l;obtain ⟨u,rfl,h'⟩:=denL1 l;exact ⟨v,u,rfl,h,h'⟩
end
mutual
def lf:D->Bool
 | .tup xs=>lfL xs
 | .lst _=>false
 | .dT _ _=>false
 | .dK _ _=>false
 | _=>true
def lfL:List D->Bool
 | []=>true
 | d :: ds=>lf d && lfL ds
end
section
variable {K:PySem.W.Frag}{A A':Av}{H H':Hp}
mutual
theorem a6S (g:∀b o,H b=some o->¬Mu o->H' b=some o):∀(d:D) (v:V),lf d=true->Den K A H d v->Den K A' H' d v
 | .non,v,_,h=>by rw [Den] at h ⊢;exact h
 | .bl b,v,_,h=>by rw [Den] at h ⊢;exact h
 | .int i,v,_,h=>by rw [Den] at h ⊢;exact h
 | .str x,v,_,h=>by rw [Den] at h ⊢;exact h
 | .tup xs,v,f,h=>by
  rw [Den] at h ⊢
  obtain ⟨a,vs,e,q,l⟩:=h
  refine ⟨a,vs,e,?_,a1x g xs vs (by rw [lf] at f;exact f) l⟩
  rcases q with (q | ⟨o,q⟩) | q
  ·exact .inl (.inl (g _ _ q id))
  ·exact .inl (.inr ⟨o,g _ _ q id⟩)
  ·exact .inr q
 | .lst xs,v,f,h=>by rw [lf] at f;cases f
 | .dT _ xs,v,f,h=>by rw [lf] at f;cases f
 | .dK _ xs,v,f,h=>by rw [lf] at f;cases f
 | .exn _,v,_,h=>by rw [Den] at h ⊢;obtain ⟨a,e,q⟩:=h;exact ⟨a,e,g _ _ q id⟩
theorem a1x (g:∀b o,H b=some o->¬Mu o->H' b=some o):∀(d:List D) (v:List V),lfL d=true->DenL K A H d v->DenL K A' H' d v
 | [],v,_,h=>by rw [DenL] at h ⊢;exact h
 | d :: ds,v,f,h=>by
  rw [lfL,Bool.and_eq_true] at f
  rw [DenL] at h ⊢
  obtain ⟨u,r,e,q,l⟩:=h
  exact ⟨u,r,e,a6S g d u f.1 q,a1x g ds r f.2 l⟩
end
end
def Obj (K:PySem.W.Frag) (A:Av) (H:Hp) (a:Addr):D->Prop
 | .lst xs=>∃vs,H a=some (.lst vs)/\DenL K A H xs vs
 | .dT ks xs=>∃vs,H a=some (.dT (ks.zip vs))/\ks.length=xs.length/\DenL K A H xs vs
 | .dK ks xs=>∃vs,H a=some (.dK (ks.zip vs))/\ks.length=xs.length/\DenL K A H xs vs
 | _=>False
def DenR (K:PySem.W.Frag) (A:Av) (H:Hp):D->V->Prop
 | .lst xs,v=>∃a vs,v= .ref a/\SqL K H a vs/\DenL K A H xs vs
 | .dT ks xs,v=>∃a vs,v= .ref a/\H a=some (.dT (ks.zip vs))/\ks.length=xs.length/\DenL K A H xs vs
 | .dK ks xs,v=>∃a vs,v= .ref a/\H a=some (.dK (ks.zip vs))/\ks.length=xs.length/\DenL K A H xs vs
 | d,v=>Den K A H d v
section
variable {K:PySem.W.Frag}{A A' M:Av}{H H':Hp}{d:D}{v:V}{a:Addr}
theorem u6 (g:Go A A' M H H')(hk:H' a=H a)(h:Obj K A H a d):Obj K A' H' a d:=by
 cases d with
 | lst xs=>obtain ⟨vs,e,l⟩:=h;exact ⟨vs,hk.trans e,u9 g _ _ l⟩
 | dT ks xs=>obtain ⟨vs,e,hl,l⟩:=h;exact ⟨vs,hk.trans e,hl,u9 g _ _ l⟩
 | dK ks xs=>obtain ⟨vs,e,hl,l⟩:=h;exact ⟨vs,hk.trans e,hl,u9 g _ _ l⟩
 | _=>exact h
theorem C7 (h:Obj K A H a d):∃u,H a=some u/\Mu u:=by
 cases d with
 | lst xs=>obtain ⟨vs,e,l⟩:=h;exact ⟨_,e,trivial⟩
 | dT ks xs=>obtain ⟨vs,e,hl,l⟩:=h;exact ⟨_,e,trivial⟩
 | dK ks xs=>obtain ⟨vs,e,hl,l⟩:=h;exact ⟨_,e,trivial⟩
 | _=>exact h.elim
theorem X6 (h:Obj K A H a d)(n:¬A a):Den K A H d (.ref a):=by
 cases d with
 | lst xs=>obtain ⟨vs,e,l⟩:=h;rw [Den];exact ⟨a,vs,rfl,.inl ⟨e,n⟩,l⟩
 | dT ks xs=>obtain ⟨vs,e,hl,l⟩:=h;rw [Den];exact ⟨a,vs,rfl,⟨e,n⟩,hl,l⟩
 | dK ks xs=>obtain ⟨vs,e,hl,l⟩:=h;rw [Den];exact ⟨a,vs,rfl,⟨e,n⟩,hl,l⟩
 | _=>exact h.elim
theorem obj_r (h:Obj K A H a d):DenR K A H d (.ref a):=by
 cases d with
 | lst xs=>obtain ⟨vs,e,l⟩:=h;exact ⟨a,vs,rfl,.inl (.inl e),l⟩
 | dT ks xs=>obtain ⟨vs,e,hl,l⟩:=h;exact ⟨a,vs,rfl,e,hl,l⟩
 | dK ks xs=>obtain ⟨vs,e,hl,l⟩:=h;exact ⟨a,vs,rfl,e,hl,l⟩
 | _=>exact h.elim
theorem M6 (h:Den K A H d v):DenR K A H d v:=by
 cases d with
 | lst xs=>
  rw [Den] at h
  obtain ⟨a,vs,e,q,l⟩:=h
  refine ⟨a,vs,e,?_,l⟩
  rcases q with q | ⟨o,q⟩ | (q | ⟨o,q⟩) | q
  ·exact .inl (.inl q.1)
  ·exact .inl (.inr ⟨o,q⟩)
  ·cases q
  ·cases q
  ·exact .inr q
 | dT ks xs=>rw [Den] at h;obtain ⟨a,vs,e,q,l⟩:=h;exact ⟨a,vs,e,q.1,l⟩
 | dK ks xs=>rw [Den] at h;obtain ⟨a,vs,e,q,l⟩:=h;exact ⟨a,vs,e,q.1,l⟩
 | _=>exact h
end
def W.own:W->Option D
 | .o d=>some d
 | .l d=>some d
 | _=>none
def Ow (ρ:Ev) (σ:L2.St):Av:=fun b=>∃(i:Nat) (w:W) (d:D),ρ[i]? =some (some w)/\w.own=some d/\σ[i]? =some (some (V.ref b))
abbrev AvO (O:Av) (ρ:Ev) (σ:L2.St):Av:=fun b=>O b\/Ow ρ σ b
def SlotOk (K:PySem.W.Frag) (A:Av) (H:Hp):W->V->Prop
 | .v d,v=>Den K A H d v
 | .o d,v=>∃a,v= .ref a/\Obj K A H a d
 | .l d,v=>∃a,v= .ref a/\Obj K A H a d
 | .r _,_=>False
structure Rep (X:Cx) (P:List (D×V)) (O:Av) (L:List (Nat×Addr)) (ρ:Ev) (σ:L2.St) (H:Hp):Prop where
 same:∀b o,X.H₀ b=some o->(∀i,(i,b)∉L)->H b=some o
 amb:∀b,O b->(∃o,X.H₀ b=some o)/\∀i,(i,b)∉L
 len:ρ.length=σ.length
 slot:∀(i:Nat) (w:W),ρ[i]? =some (some w)->∃v,σ[i]? =some (some v)/\SlotOk X.K (AvO O ρ σ) H w v
 inj:∀(i j:Nat) (w w':W) (d d':D) (b:Addr),ρ[i]? =some (some w)->w.own=some d->σ[i]? =some (some (.ref b))->ρ[j]? =some (some w')->w'.own=some d'->σ[j]? =some (some (.ref b))->i=j
 new:∀(i:Nat) (d:D) (b:Addr),ρ[i]? =some (some (.o d))->σ[i]? =some (some (.ref b))->X.H₀ b=none
 lnt:∀(i:Nat) (d:D),ρ[i]? =some (some (.l d))->∃b,σ[i]? =some (some (.ref b))/\(i,b)∈L
 lnd:∀(i:Nat) (b:Addr),(i,b)∈L->∃d,ρ[i]? =some (some (.l d))/\σ[i]? =some (some (.ref b))
 prot:∀p∈P,Den X.K (AvO O ρ σ) H p.1 p.2
section
variable {X:Cx}{P:List (D×V)}{O:Av}{L:List (Nat×Addr)}{ρ:Ev}{σ:L2.St}{H H':Hp}
theorem a6Q {K:PySem.W.Frag}{A:Av}{H:Hp}{w:W}{d:D}{v:V}(h:SlotOk K A H w v)(e:w.own=some d):∃a,v= .ref a/\Obj K A H a d:=by
 cases w <;> simp only [W.own] at e <;> first | (cases e;exact h) | cases e
theorem Rep.obj (r:Rep X P O L ρ σ H){i:Nat}{w:W}{d:D}(e:ρ[i]? =some (some w))(ew:w.own=some d):∃a,σ[i]? =some (some (.ref a))/\Obj X.K (AvO O ρ σ) H a d:=by
 obtain ⟨v,h1,h2⟩:=r.slot i w e
 obtain ⟨a,rfl,h3⟩:=a6Q h2 ew
 exact ⟨a,h1,h3⟩
theorem Rep.owMu (r:Rep X P O L ρ σ H){b:Addr}(z:Ow ρ σ b):∃u,H b=some u/\Mu u:=by
 obtain ⟨i,w,d,e1,e2,e3⟩:=z
 obtain ⟨a,h1,h2⟩:=r.obj e1 e2
 rw [e3] at h1;cases h1
 exact C7 h2
theorem Rep.ambN (r:Rep X P O L ρ σ H){b:Addr}(z:O b):¬Ow ρ σ b:=fun ⟨i,w,d,e1,e2,e3⟩=>by
 obtain ⟨⟨o,h0⟩,hl⟩:=r.amb b z
 cases w with
 | o d'=>have:=r.new i d' b e1 e3;rw [h0] at this;cases this
 | l d'=>obtain ⟨c,h1,h2⟩:=r.lnt i d' e1;rw [e3] at h1;cases h1;exact hl i h2
 | _=>cases e2
theorem Rep.there (r:Rep X P O L ρ σ H){b:Addr}(z:AvO O ρ σ b):∃o,H b=some o:=by
 rcases z with z | z
 ·obtain ⟨⟨o,h0⟩,hl⟩:=r.amb b z;exact ⟨o,r.same b o h0 hl⟩
 ·obtain ⟨u,e,_⟩:=r.owMu z;exact ⟨u,e⟩
theorem Rep.fresh (r:Rep X P O L ρ σ H){b:Addr}(n:H b=none):¬AvO O ρ σ b:=fun z=>by obtain ⟨o,e⟩:=r.there z;rw [n] at e;cases e
theorem Rep.fresh0 (r:Rep X P O L ρ σ H){b:Addr}(n:H b=none):X.H₀ b=none:=by
 cases q:X.H₀ b with
 | none=>rfl
 | some o=>
  have:H b=some o:=r.same b o q fun i e=>by
   obtain ⟨d,h1,h2⟩:=r.lnd i b e
   obtain ⟨a,h3,h4⟩:=r.obj h1 rfl
   rw [h2] at h3;cases h3
   obtain ⟨u,e,_⟩:=C7 h4
   rw [n] at e;cases e
  rw [n] at this;cases this
theorem U1 {K:PySem.W.Frag}{A A' M:Av}{H H':Hp}(g:Go A A' M H H'){w:W}{v:V}(hk:∀a d,w.own=some d->v= .ref a->H' a=H a)(h:SlotOk K A H w v):SlotOk K A' H' w v:=by
 cases w with
 | v d=>exact s0 g _ _ h
 | o d=>obtain ⟨a,e,q⟩:=h;exact ⟨a,e,u6 g (hk a d rfl e) q⟩
 | l d=>obtain ⟨a,e,q⟩:=h;exact ⟨a,e,u6 g (hk a d rfl e) q⟩
 | r i=>exact h
theorem Rep.grow (r:Rep X P O L ρ σ H)(s:Same H H'):Rep X P O L ρ σ H' where
 same:=fun b o e hl=>s b o (r.same b o e hl)
 amb:=r.amb
 len:=r.len
 slot:=fun i w e=>by
  obtain ⟨v,h1,h2⟩:=r.slot i w e
  refine ⟨v,h1,U1 (a4M s) (fun a d ew ev=>?_) h2⟩
  subst ev
  obtain ⟨b,h3,h4⟩:=r.obj e ew
  rw [h1] at h3;cases h3
  obtain ⟨u,eu,_⟩:=C7 h4
  rw [eu,s _ _ eu]
 inj:=r.inj
 new:=r.new
 lnt:=r.lnt
 lnd:=r.lnd
 prot:=fun p hp=>a0s s (r.prot p hp)
theorem Rep.more {p:D×V}(r:Rep X P O L ρ σ H)(h:Den X.K (AvO O ρ σ) H p.1 p.2):Rep X (p :: P) O L ρ σ H:=
 ⟨r.same,r.amb,r.len,r.slot,r.inj,r.new,r.lnt,r.lnd,fun q hq=>(List.mem_cons.mp hq).elim (fun e=>by rw [e];exact h) (r.prot q)⟩
theorem Rep.less {p:D×V}(r:Rep X (p :: P) O L ρ σ H):Rep X P O L ρ σ H:=
 ⟨r.same,r.amb,r.len,r.slot,r.inj,r.new,r.lnt,r.lnd,fun q hq=>r.prot q (List.mem_cons_of_mem _ hq)⟩
theorem Rep.head {p:D×V}(r:Rep X (p :: P) O L ρ σ H):Den X.K (AvO O ρ σ) H p.1 p.2:=r.prot p List.mem_cons_self
theorem u5 {α:Type}{l:List α}{i j:Nat}{x y:α}(e:(l.set i x)[j]? =some y):(j=i/\y=x/\i < l.length)\/(j≠i/\l[j]? =some y):=by
 by_cases q:i=j
 ·subst q
  rw [List.getElem?_set,if_pos rfl] at e
  split at e
  ·cases e;rename_i h;exact .inl ⟨rfl,rfl,h⟩
  ·cases e
 ·rw [List.getElem?_set_ne q] at e;exact .inr ⟨Ne.symm q,e⟩
theorem w6 {α:Type}{l:List α}{i:Nat}{x:α}(h:i < l.length):(l.set i x)[i]? =some x:=by rw [List.getElem?_set,if_pos rfl,if_pos h]
def freeSlot (ρ:Ev) (i:Nat):Bool:=match ρ[i]? with
 | some (some (.l _))=>false
 | _=>true
theorem Rep.put (r:Rep X P O L ρ σ H){i:Nat}{d:D}{v:V}(hf:freeSlot ρ i=true)(h:Den X.K (AvO O ρ σ) H d v):Rep X P O L (ρ.set i (some (.v d))) (σ.set i (some v)) H:=by
 have sub:∀b,AvO O (ρ.set i (some (.v d))) (σ.set i (some v)) b->AvO O ρ σ b:=fun b z=>by
  rcases z with z | ⟨j,w,c,e1,e2,e3⟩
  ·exact .inl z
  ·rcases u5 e1 with ⟨rfl,z,_⟩ | ⟨n,e1⟩
   ·cases z;cases e2
   ·rw [List.getElem?_set_ne (Ne.symm n)] at e3;exact .inr ⟨j,w,c,e1,e2,e3⟩
 have g:=A1 (H:=H) sub
 have st:∀{j:Nat} {w:W} {c:D},(ρ.set i (some (.v d)))[j]? =some (some w)->w.own=some c->j≠i/\ρ[j]? =some (some w):=fun {j w c} e1 e2=>by
  rcases u5 e1 with ⟨rfl,z,_⟩ | z
  ·cases z;cases e2
  ·exact z
 refine ⟨r.same,r.amb,by rw [List.length_set,List.length_set];exact r.len,fun j w e=>?_,fun j k w w' c c' b e1 e2 e3 e4 e5 e6=>?_,fun j c b e1 e2=>?_,fun j c e=>?_,fun j b e=>?_,fun p hp=>s0 g _ _ (r.prot p hp)⟩
 ·rcases u5 e with ⟨rfl,z,hl⟩ | ⟨n,e⟩
  ·cases z;exact ⟨v,w6 (by rw [<-r.len];exact hl),s0 g _ _ h⟩
  ·obtain ⟨u,h1,h2⟩:=r.slot j w e
   exact ⟨u,by rw [List.getElem?_set_ne (Ne.symm n)];exact h1,U1 g (fun _ _ _ _=>rfl) h2⟩
 ·obtain ⟨n1,e1⟩:=st e1 e2
  obtain ⟨n2,e4⟩:=st e4 e5
  rw [List.getElem?_set_ne (Ne.symm n1)] at e3
  rw [List.getElem?_set_ne (Ne.symm n2)] at e6
  exact r.inj j k w w' c c' b e1 e2 e3 e4 e5 e6
 ·obtain ⟨n1,e1⟩:=st (c:=c) e1 rfl
  rw [List.getElem?_set_ne (Ne.symm n1)] at e2
  exact r.new j c b e1 e2
 ·obtain ⟨n1,e1⟩:=st (c:=c) e rfl
  rw [List.getElem?_set_ne (Ne.symm n1)]
  exact r.lnt j c e1
 ·obtain ⟨c,h1,h2⟩:=r.lnd j b e
  have n:i≠j:=fun z=>by subst z;unfold freeSlot at hf;rw [h1] at hf;cases hf
  exact ⟨c,by rw [List.getElem?_set_ne n];exact h1,by rw [List.getElem?_set_ne n];exact h2⟩
theorem Rep.putO (r:Rep X P O L ρ σ H)(s:Same H H'){i:Nat}{d:D}{a:Addr}(hf:freeSlot ρ i=true)(hn:H a=none)(h:Obj X.K (fun b=>AvO O ρ σ b\/b=a) H' a d):Rep X P O L (ρ.set i (some (.o d))) (σ.set i (some (.ref a))) H':=by
 have nA:=r.fresh hn
 have sub:∀b,AvO O (ρ.set i (some (.o d))) (σ.set i (some (.ref a))) b->AvO O ρ σ b\/b=a:=fun b z=>by
  rcases z with z | ⟨j,w,c,e1,e2,e3⟩
  ·exact .inl (.inl z)
  ·rcases u5 e1 with ⟨rfl,z,hl⟩ | ⟨n,e1⟩
   ·rw [w6 (by rw [<-r.len];exact hl)] at e3;cases e3;exact .inr rfl
   ·rw [List.getElem?_set_ne (Ne.symm n)] at e3;exact .inl (.inr ⟨j,w,c,e1,e2,e3⟩)
 have g:Go (AvO O ρ σ) (AvO O (ρ.set i (some (.o d))) (σ.set i (some (.ref a)))) (fun _=>False) H H':=⟨fun b o e _=>s b o e,fun _ z=>z.elim,fun b z=>(sub b z).imp id fun z=>by rw [z];exact hn⟩
 have old:∀{j:Nat} {w:W} {b:Addr},ρ[j]? =some (some w)->σ[j]? =some (some (.ref b))->w.own≠none->b≠a:=fun {j w b} e1 e2 e3 z=>by
  cases q:w.own with
  | none=>exact e3 q
  | some c=>exact nA (.inr ⟨j,w,c,e1,q,by rw [<-z];exact e2⟩)
 refine ⟨fun b o e hl=>s b o (r.same b o e hl),r.amb,by rw [List.length_set,List.length_set];exact r.len,fun j w e=>?_,fun j k w w' c c' b e1 e2 e3 e4 e5 e6=>?_,fun j c b e1 e2=>?_,fun j c e=>?_,fun j b e=>?_,fun p hp=>s0 g _ _ (r.prot p hp)⟩
 ·rcases u5 e with ⟨rfl,z,hl⟩ | ⟨n,e⟩
  ·cases z;exact ⟨.ref a,w6 (by rw [<-r.len];exact hl),a,rfl,u6 (A1 sub) rfl h⟩
  ·obtain ⟨u,h1,h2⟩:=r.slot j w e
   refine ⟨u,by rw [List.getElem?_set_ne (Ne.symm n)];exact h1,U1 g (fun b c ec eb=>?_) h2⟩
   subst eb
   obtain ⟨o,eo,_⟩:=r.owMu ⟨j,w,c,e,ec,h1⟩
   rw [eo,s _ _ eo]
 ·rcases u5 e1 with ⟨rfl,z,hl⟩ | ⟨n1,e1⟩
  ·rw [w6 (by rw [<-r.len];exact hl)] at e3;cases e3
   rcases u5 e4 with ⟨rfl,_,_⟩ | ⟨n2,e4⟩
   ·rfl
   ·rw [List.getElem?_set_ne (Ne.symm n2)] at e6
    exact absurd rfl (old e4 e6 (by rw [e5];exact nofun))
  ·rw [List.getElem?_set_ne (Ne.symm n1)] at e3
   have f1:=old e1 e3 (by rw [e2];exact nofun)
   rcases u5 e4 with ⟨rfl,_,hl⟩ | ⟨n2,e4⟩
   ·rw [w6 (by rw [<-r.len];exact hl)] at e6;cases e6
    exact absurd rfl f1
   ·rw [List.getElem?_set_ne (Ne.symm n2)] at e6
    exact r.inj j k w w' c c' b e1 e2 e3 e4 e5 e6
 ·rcases u5 e1 with ⟨rfl,z,hl⟩ | ⟨n1,e1⟩
  ·rw [w6 (by rw [<-r.len];exact hl)] at e2;cases e2;exact r.fresh0 hn
  ·rw [List.getElem?_set_ne (Ne.symm n1)] at e2;exact r.new j c b e1 e2
 ·rcases u5 e with ⟨rfl,z,hl⟩ | ⟨n1,e⟩
  ·cases z
  ·rw [List.getElem?_set_ne (Ne.symm n1)];exact r.lnt j c e
 ·obtain ⟨c,h1,h2⟩:=r.lnd j b e
  have n:i≠j:=fun z=>by subst z;unfold freeSlot at hf;rw [h1] at hf;cases hf
  exact ⟨c,by rw [List.getElem?_set_ne n];exact h1,by rw [List.getElem?_set_ne n];exact h2⟩
def setOwn (ρ:Ev) (i:Nat) (d:D):Ev:=match ρ[i]? with
 | some (some (.l _))=>ρ.set i (some (.l d))
 | _=>ρ.set i (some (.o d))
def ownAt (ρ:Ev) (i:Nat):Option D:=match ρ[i]? with
 | some (some w)=>w.own
 | _=>none
theorem t3 {ρ:Ev}{i:Nat}{c:D}(e:ownAt ρ i=some c):∃w,ρ[i]? =some (some w)/\w.own=some c:=by
 unfold ownAt at e
 split at e
 ·rename_i w q;exact ⟨w,q,e⟩
 ·cases e
theorem a08 {ρ:Ev}{i:Nat}{c d:D}(e:ownAt ρ i=some c):∃w,w.own=some d/\setOwn ρ i d=ρ.set i (some w)/\((∃x,w= .l x)↔∃x,ρ[i]? =some (some (.l x))):=by
 obtain ⟨w,q,e⟩:=t3 e
 unfold setOwn
 cases w with
 | v d=>cases e
 | r d=>cases e
 | o x=>rw [q];exact ⟨.o d,rfl,rfl,by simp⟩
 | l x=>rw [q];exact ⟨.l d,rfl,rfl,by simp⟩
theorem a0G {ρ:Ev}{σ:L2.St}{i:Nat}{c d:D}(e:ownAt ρ i=some c)(b:Addr):Ow (setOwn ρ i d) σ b↔Ow ρ σ b:=by
 obtain ⟨w,h1,h2,_⟩:=a08 (d:=d) e
 obtain ⟨w0,q,e0⟩:=t3 e
 rw [h2]
 constructor
 ·rintro ⟨j,w',c',e1,e2,e3⟩
  rcases u5 e1 with ⟨rfl,z,_⟩ | ⟨n,e1⟩
  ·exact ⟨j,w0,c,q,e0,e3⟩
  ·exact ⟨j,w',c',e1,e2,e3⟩
 ·rintro ⟨j,w',c',e1,e2,e3⟩
  by_cases n:j=i
  ·subst n
   exact ⟨j,w,d,w6 (List.getElem?_eq_some_iff.mp q).1,h1,e3⟩
  ·exact ⟨j,w',c',by rw [List.getElem?_set_ne (Ne.symm n)];exact e1,e2,e3⟩
theorem Rep.mut (r:Rep X P O L ρ σ H){i:Nat}{a:Addr}{c d:D}(e:ownAt ρ i=some c)(ea:σ[i]? =some (some (.ref a)))(hk:∀b o,H b=some o->b≠a->H' b=some o)(h:Obj X.K (AvO O ρ σ) H' a d):
  Rep X P O L (setOwn ρ i d) σ H':=by
 obtain ⟨w,h1,h2,h3⟩:=a08 (d:=d) e
 obtain ⟨w0,q,e0⟩:=t3 e
 have av:AvO O (setOwn ρ i d) σ=AvO O ρ σ:=funext fun b=>propext (or_congr Iff.rfl (a0G e b))
 have ma:Ow ρ σ a:=⟨i,w0,c,q,e0,ea⟩
 have g:Go (AvO O ρ σ) (AvO O ρ σ) (fun b=>b=a) H H':=⟨hk,fun b z=>by rw [z];exact ⟨.inr ma,r.owMu ma⟩,fun b z=>.inl z⟩
 have st:∀{j:Nat} {w':W} {c':D},(setOwn ρ i d)[j]? =some (some w')->w'.own=some c'->∃w'' c'',ρ[j]? =some (some w'')/\w''.own=some c'':=fun {j w' c'} e1 e2=>by
  rw [h2] at e1
  rcases u5 e1 with ⟨rfl,_,_⟩ | ⟨_,e1⟩
  ·exact ⟨w0,c,q,e0⟩
  ·exact ⟨w',c',e1,e2⟩
 refine ⟨fun b o eb hl=>hk b o (r.same b o eb hl) fun z=>?_,r.amb,by rw [h2,List.length_set];exact r.len,fun j w' e'=>?_,fun j k w1 w2 c1 c2 b e1 e2 e3 e4 e5 e6=>?_,fun j c' b e1 e2=>?_,fun j c' e'=>?_,fun j b e'=>?_,fun p hp=>by rw [av];exact s0 g _ _ (r.prot p hp)⟩
 ·subst z
  cases w0 with
  | o x=>have:=r.new i x b q ea;rw [eb] at this;cases this
  | l x=>obtain ⟨c',q1,q2⟩:=r.lnt i x q;rw [ea] at q1;cases q1;exact hl i q2
  | _=>cases e0
 ·rw [av]
  rw [h2] at e'
  rcases u5 e' with ⟨rfl,z,_⟩ | ⟨n,e'⟩
  ·cases z
   refine ⟨.ref a,ea,?_⟩
   cases w with
   | o x=>cases h1;exact ⟨a,rfl,h⟩
   | l x=>cases h1;exact ⟨a,rfl,h⟩
   | _=>cases h1
  ·obtain ⟨u,q1,q2⟩:=r.slot j w' e'
   refine ⟨u,q1,U1 g (fun b c' ec eb=>?_) q2⟩
   subst eb
   have nb:b≠a:=fun z=>n (r.inj j i w' w0 c' c a e' ec (by rw [<-z];exact q1) q e0 ea)
   obtain ⟨o,eo,_⟩:=r.owMu ⟨j,w',c',e',ec,q1⟩
   rw [eo,hk _ _ eo nb]
 ·obtain ⟨u1,v1,q1,q2⟩:=st e1 e2
  obtain ⟨u2,v2,q3,q4⟩:=st e4 e5
  exact r.inj j k u1 u2 v1 v2 b q1 q2 e3 q3 q4 e6
 ·rw [h2] at e1
  rcases u5 e1 with ⟨rfl,z,_⟩ | ⟨n,e1⟩
  ·cases z
   cases w0 with
   | o x=>exact r.new j x b q e2
   | l x=>exact absurd (h3.mpr ⟨x,q⟩) (by simp)
   | _=>cases e0
  ·exact r.new j c' b e1 e2
 ·rw [h2] at e'
  rcases u5 e' with ⟨rfl,z,_⟩ | ⟨n,e'⟩
  ·cases z
   obtain ⟨x,qx⟩:=h3.mp ⟨_,rfl⟩
   exact r.lnt j x qx
  ·exact r.lnt j c' e'
 ·obtain ⟨c',q1,q2⟩:=r.lnd j b e'
  by_cases n:j=i
  ·subst n
   obtain ⟨x,rfl⟩:=h3.mpr ⟨c',q1⟩
   exact ⟨x,by rw [h2];exact w6 (List.getElem?_eq_some_iff.mp q).1,q2⟩
  ·exact ⟨c',by rw [h2,List.getElem?_set_ne (Ne.symm n)];exact q1,q2⟩
def frzAt (ρ:Ev) (i:Nat):Option Ev:=match ρ[i]? with
 | some (some (.o d))=>some (ρ.set i (some (.v d)))
 | some (some (.v _))=>some ρ
 | _=>none
theorem Rep.frz (r:Rep X P O L ρ σ H){i:Nat}{ρ':Ev}(e:frzAt ρ i=some ρ'):Rep X P O L ρ' σ H/\∀(j:Nat) (w:W) (d:D),ρ'[j]? =some (some w)->w.own=some d->ρ[j]? =some (some w)/\j≠i:=by
 unfold frzAt at e
 split at e
 ·rename_i d q
  cases e
  obtain ⟨a,h1,h2⟩:=r.obj q rfl
  have hl:i < σ.length:=by rw [<-r.len];exact (List.getElem?_eq_some_iff.mp q).1
  have es:σ.set i (some (.ref a))=σ:=by
   apply List.ext_getElem?
   intro j
   by_cases z:i=j
   ·subst z;rw [w6 hl,h1]
   ·rw [List.getElem?_set_ne z]
  have hw:¬AvO O (ρ.set i (some (.v d))) σ a:=fun z=>by
   rcases z with z | ⟨j,w,c,e1,e2,e3⟩
   ·exact r.ambN z ⟨i,_,d,q,rfl,h1⟩
   ·rcases u5 e1 with ⟨rfl,z,_⟩ | ⟨n,e1⟩
    ·cases z;cases e2
    ·exact n (r.inj j i w (.o d) c d a e1 e2 e3 q rfl h1)
  have sub:∀b,AvO O (ρ.set i (some (.v d))) σ b->AvO O ρ σ b:=fun b z=>by
   rcases z with z | ⟨j,w,c,e1,e2,e3⟩
   ·exact .inl z
   ·rcases u5 e1 with ⟨rfl,z,_⟩ | ⟨n,e1⟩
    ·cases z;cases e2
    ·exact .inr ⟨j,w,c,e1,e2,e3⟩
  have g:=A1 (H:=H) sub
  refine ⟨⟨r.same,r.amb,by rw [List.length_set];exact r.len,fun j w e=>?_,fun j k w w' c c' b e1 e2 e3 e4 e5 e6=>?_,fun j c b e1 e2=>?_,fun j c e=>?_,fun j b e=>?_,fun p hp=>s0 g _ _ (r.prot p hp)⟩,fun j w c e1 e2=>?_⟩
  ·rcases u5 e with ⟨rfl,z,_⟩ | ⟨n,e⟩
   ·cases z;exact ⟨.ref a,h1,X6 (u6 g rfl h2) hw⟩
   ·obtain ⟨u,q1,q2⟩:=r.slot j w e
    exact ⟨u,q1,U1 g (fun _ _ _ _=>rfl) q2⟩
  ·rcases u5 e1 with ⟨rfl,z,_⟩ | ⟨n1,e1⟩
   ·cases z;cases e2
   ·rcases u5 e4 with ⟨rfl,z,_⟩ | ⟨n2,e4⟩
    ·cases z;cases e5
    ·exact r.inj j k w w' c c' b e1 e2 e3 e4 e5 e6
  ·rcases u5 e1 with ⟨rfl,z,_⟩ | ⟨n1,e1⟩
   ·cases z
   ·exact r.new j c b e1 e2
  ·rcases u5 e with ⟨rfl,z,_⟩ | ⟨n1,e⟩
   ·cases z
   ·exact r.lnt j c e
  ·obtain ⟨c,q1,q2⟩:=r.lnd j b e
   have n:i≠j:=fun z=>by subst z;rw [q] at q1;cases q1
   exact ⟨c,by rw [List.getElem?_set_ne n];exact q1,q2⟩
  ·rcases u5 e1 with ⟨rfl,z,_⟩ | ⟨n,e1⟩
   ·cases z;cases e2
   ·exact ⟨e1,n⟩
 ·rename_i d q
  cases e
  exact ⟨r,fun j w c e1 e2=>⟨e1,fun z=>by subst z;rw [q] at e1;cases e1;cases e2⟩⟩
 ·cases e
end
abbrev FX:=Ev->Option (W×Ev)
abbrev FT:=Ev->Option (Bool×Ev)
abbrev FA:=Ev->Option (List W×Ev)
def DenW (K:PySem.W.Frag) (A:Av) (σ:L2.St) (H1 H':Hp):W->V->Prop
 | .v d,v=>Den K A H' d v
 | .o d,v=>∃a,v= .ref a/\H1 a=none/\Obj K (fun b=>A b\/b=a) H' a d
 | .r i,v=>σ[i]? =some (some v)
 | .l _,_=>False
def DenP (K:PySem.W.Frag) (A:Av) (σ:L2.St) (H:Hp):W->V->Prop
 | .v d,v=>Den K A H d v
 | .r i,v=>σ[i]? =some (some v)
 | _,_=>False
def DenA (K:PySem.W.Frag) (A:Av) (σ:L2.St) (H:Hp):List W->List V->Prop
 | [],vs=>vs=[]
 | w :: ws,vs=>∃v r,vs=v :: r/\DenP K A σ H w v/\DenA K A σ H ws r
def W.fz:W->W
 | .o d=>.v d
 | w=>w
def tX (X:Cx) (f:FX):TE:=fun σ H Q=>∃P O L ρ w ρ',Rep X P O L ρ σ H/\f ρ=some (w,ρ')/\∀v H1 H',Rep X P O L ρ' σ H1->Same H1 H'->DenW X.K (AvO O ρ' σ) σ H1 H' w v->Q v H'
def tT (X:Cx) (f:FT):TT:=fun σ H Q=>∃P O L ρ b ρ',Rep X P O L ρ σ H/\f ρ=some (b,ρ')/\∀H',Rep X P O L ρ' σ H'->Q b H'
def tA (X:Cx) (f:FA):TA:=fun σ H Q=>∃P O L ρ ws ρ',Rep X P O L ρ σ H/\f ρ=some (ws,ρ')/\∀vs H',Rep X P O L ρ' σ H'->DenA X.K (AvO O ρ' σ) σ H' ws vs->Q vs H'
theorem tXe {X:Cx}{f:FX}{σ:L2.St}{H:Hp}{Q:VK}{C:Prop}(h:tX X f σ H Q)(k:∀P O L ρ w ρ',Rep X P O L ρ σ H->f ρ=some (w,ρ')->(∀v H1 H',Rep X P O L ρ' σ H1->Same H1 H'->DenW X.K (AvO O ρ' σ) σ H1 H' w v->Q v H')->C):C:=by
 obtain ⟨P,O,L,ρ,w,ρ',r,e,q⟩:=h
 exact k P O L ρ w ρ' r e q
theorem tTe {X:Cx}{f:FT}{σ:L2.St}{H:Hp}{Q:Bool->Hp->Prop}{C:Prop}(h:tT X f σ H Q)(k:∀P O L ρ b ρ',Rep X P O L ρ σ H->f ρ=some (b,ρ')->(∀H',Rep X P O L ρ' σ H'->Q b H')->C):C:=by
 obtain ⟨P,O,L,ρ,w,ρ',r,e,q⟩:=h
 exact k P O L ρ w ρ' r e q
theorem tAe {X:Cx}{f:FA}{σ:L2.St}{H:Hp}{Q:List V->Hp->Prop}{C:Prop}(h:tA X f σ H Q)(k:∀P O L ρ ws ρ',Rep X P O L ρ σ H->f ρ=some (ws,ρ')->(∀vs H',Rep X P O L ρ' σ H'->DenA X.K (AvO O ρ' σ) σ H' ws vs->Q vs H')->C):C:=by
 obtain ⟨P,O,L,ρ,w,ρ',r,e,q⟩:=h
 exact k P O L ρ w ρ' r e q
structure QX (X:Cx) (e:Expr) (f:FX):Prop where
 to:PE X e (tX X f)
structure QT (X:Cx) (e:Expr) (f:FT):Prop where
 to:PT X e (tT X f)
structure QW (X:Cx) (e:Expr) (f:FT):Prop where
 to:PW X e (tT X f)
structure QA (X:Cx) (e:List Expr) (f:FA):Prop where
 to:PA X e (tA X f)
theorem PE.weak {X:Cx}{e:Expr}{t u:TE}(h:PE X e t)(w:∀σ H Q,u σ H Q->t σ H Q):PE X e u:=fun pins s σ H Q I q=>h pins s σ H Q I (w σ H Q q)
theorem PT.weak {X:Cx}{e:Expr}{t u:TT}(h:PT X e t)(w:∀σ H Q,u σ H Q->t σ H Q):PT X e u:=fun pins s σ H Q I q=>h pins s σ H Q I (w σ H Q q)
theorem PW.weak {X:Cx}{e:Expr}{t u:TT}(h:PW X e t)(w:∀σ H Q,u σ H Q->t σ H Q):PW X e u:=fun wh pins s σ H Q I q=>h wh pins s σ H Q I (w σ H Q q)
theorem PA.weak {X:Cx}{e:List Expr}{t u:TA}(h:PA X e t)(w:∀σ H Q,u σ H Q->t σ H Q):PA X e u:=fun pos pins s σ H Q I q=>h pos pins s σ H Q I (w σ H Q q)
def dr (ρ:Ev):W->Option D
 | .v d=>some d
 | .r i=>match ρ[i]? with
  | some (some (.v d))=>some d
  | some (some w)=>w.own
  | _=>none
 | _=>none
def drs (ρ:Ev):List W->Option (List D)
 | []=>some []
 | w :: ws=>(dr ρ w).bind fun d=>(drs ρ ws).map fun ds=>d :: ds
section
variable {X:Cx}{P:List (D×V)}{O:Av}{L:List (Nat×Addr)}{ρ ρ':Ev}{σ:L2.St}{H H1 H':Hp}{w:W}{d:D}{v:V}
theorem DenW.fz (r:Rep X P O L ρ σ H1)(s:Same H1 H')(h:DenW X.K (AvO O ρ σ) σ H1 H' w v):DenP X.K (AvO O ρ σ) σ H' w.fz v:=by
 cases w with
 | v d=>exact h
 | o d=>
  obtain ⟨a,rfl,n,ob⟩:=h
  exact X6 (u6 (A1 fun b z=>.inl z) rfl ob) (r.fresh n)
 | r i=>exact h
 | l d=>exact h.elim
theorem hold (r:Rep X P O L ρ σ H)(h:DenP X.K (AvO O ρ σ) σ H w v):∃P',Rep X P' O L ρ σ H/\∀ρ2 H2,Rep X P' O L ρ2 σ H2->Rep X P O L ρ2 σ H2/\DenP X.K (AvO O ρ2 σ) σ H2 w v:=by
 cases w with
 | v d=>exact ⟨(d,v) :: P,r.more h,fun ρ2 H2 r2=>⟨r2.less,r2.head⟩⟩
 | r i=>exact ⟨P,r,fun ρ2 H2 r2=>⟨r2,h⟩⟩
 | _=>exact h.elim
theorem S9 (r:Rep X P O L ρ σ H)(e:dr ρ w=some d)(h:DenP X.K (AvO O ρ σ) σ H w v):DenR X.K (AvO O ρ σ) H d v:=by
 cases w with
 | v c=>cases e;exact M6 h
 | r i=>
  rw [dr] at e
  have h:σ[i]? =some (some v):=h
  cases q:ρ[i]? with
  | none=>rw [q] at e;cases e
  | some o=>
   rw [q] at e
   cases o with
   | none=>cases e
   | some w'=>
    cases w' with
    | v c=>
     cases e
     obtain ⟨u,h1,h2⟩:=r.slot i _ q
     rw [h1] at h;cases h
     exact M6 h2
    | _=>
     obtain ⟨a,h1,h2⟩:=r.obj q e
     rw [h1] at h;cases h
     exact obj_r h2
 | _=>cases e
def DenRL (K:PySem.W.Frag) (A:Av) (H:Hp):List D->List V->Prop
 | [],vs=>vs=[]
 | d :: ds,vs=>∃v r,vs=v :: r/\DenR K A H d v/\DenRL K A H ds r
theorem a7y (r:Rep X P O L ρ σ H):∀{ws:List W} {ds:List D} {vs:List V},drs ρ ws=some ds->DenA X.K (AvO O ρ σ) σ H ws vs->DenRL X.K (AvO O ρ σ) H ds vs
 | [],ds,vs,e,h=>by cases e;exact h
 | w :: ws,ds,vs,e,h=>by
  obtain ⟨v,rs,rfl,h1,h2⟩:=h
  rw [drs] at e
  cases e1:dr ρ w with
  | none=>rw [e1] at e;cases e
  | some d=>
   cases e2:drs ρ ws with
   | none=>rw [e1,e2] at e;cases e
   | some dd=>
    rw [e1,e2] at e;cases e
    exact ⟨v,rs,rfl,S9 r e1 h1,a7y r e2 h2⟩
end
section
variable {K:PySem.W.Frag}{A:Av}{σ:L2.St}{H H':Hp}
theorem G7 {i:Int}:DenW K A σ H H' (.v (.int i)) (.int i):=by show Den _ _ _ _ _;rw [Den]
theorem F4 {i:Bool}:DenW K A σ H H' (.v (.bl i)) (.bl i):=by show Den _ _ _ _ _;rw [Den]
theorem M8 {i:Str}:DenW K A σ H H' (.v (.str i)) (.str i):=by show Den _ _ _ _ _;rw [Den]
theorem a0k:DenW K A σ H H' (.v .non) .non:=by show Den _ _ _ _ _;rw [Den]
end
def fVar (i:Nat):FX:=fun ρ=>match ρ[i]? with
 | some (some (.v d))=>some (.v d,ρ)
 | some (some (.r _))=>none
 | some (some _)=>some (.r i,ρ)
 | _=>none
def fC (d:D):FX:=fun ρ=>some (.v d,ρ)
section
variable {X:Cx}{a b c e:Expr}{pos:Pos}{f g h:FX}{t u:FT}{fa:FA}{es rest:List Expr}
theorem a7 (i:Nat){x:Str}(hN:X.N[i]? =some x:=by rfl)(hv:Vis X.env.scope x:=by first | exact Or.inl rfl | exact Or.inr (Or.inl rfl) | exact Or.inr (Or.inr rfl))(hd:(x == ("__debug__":Str))=false:=by decide)(hcd:(x == ("__classdict__":Str))=false:=by decide):QX X (.Name x pos) (fVar i):=by
 refine ⟨PE.weak (a6y hN hv hd hcd) fun σ H Q h0=>tXe h0 fun P O L ρ w ρ' r e q=>?_⟩
 unfold fVar at e
 split at e
 ·rename_i d0 e0
  cases e
  obtain ⟨v,h1,h2⟩:=r.slot i _ e0
  exact ⟨v,h1,q v H H r (Same.refl H) h2⟩
 ·cases e
 ·rename_i w' _ _ e0
  cases e
  obtain ⟨v,h1,h2⟩:=r.slot i _ e0
  exact ⟨v,h1,q v H H r (Same.refl H) h1⟩
 ·cases e
theorem a5S {d:D}{v:V}(hd:∀A H,Den X.K A H d v):∀σ H Q,tX X (fC d) σ H Q->tC v σ H Q:=fun σ H Q h0=>tXe h0 fun P O L ρ w ρ' r e q=>by cases e;exact q v H H r (Same.refl H) (hd _ H)
theorem b0 {i:Int}{j:Nat}:QX X (.Constant (.int i) j pos) (fC (.int i)):=⟨PE.weak b3L (a5S fun A H=>F5.mpr rfl)⟩
theorem J4 {i:Bool}{j:Nat}:QX X (.Constant (.bool i) j pos) (fC (.bl i)):=⟨PE.weak pe_bl (a5S fun A H=>a2s.mpr rfl)⟩
theorem a9K {j:Nat}:QX X (.Constant .none j pos) (fC .non):=⟨PE.weak b2L (a5S fun A H=>a4I.mpr rfl)⟩
theorem b3a {i:Str}{j:Nat}:QX X (.Constant (.str i) j pos) (fC (.str i)):=⟨PE.weak b4i (a5S fun A H=>a1F.mpr rfl)⟩
def fBin (op:D->D->Option W) (f g:FX):FX:=fun ρ=>(f ρ).bind fun p=>(g p.2).bind fun q=>(dr q.2 p.1.fz).bind fun x=>(dr q.2 q.1.fz).bind fun y=>(op x y).map fun w=>(w,q.2)
def Pr2 (X:Cx) (op:D->D->Option W) (r:R2):Prop:=∀(A:Av) (x y:D) (w:W) (v u:V) (H:Hp) (Q:VK),(∀b,A b->∃o,H b=some o)->op x y=some w->DenR X.K A H x v->DenR X.K A H y u->(∀z H',Same H H'->DenW X.K A [] H H' w z->Q z H')->r v u H Q
theorem DenW.st {K:PySem.W.Frag}{A:Av}{σ:L2.St}{H1 H':Hp}{w:W}{v:V}(h:DenW K A [] H1 H' w v):DenW K A σ H1 H' w v:=by
 cases w with
 | r i=>exact absurd h (by simp [DenW])
 | _=>exact h
theorem a1p {r:R2}{op:D->D->Option W}(k:Pr2 X op r):∀σ H Q,tX X (fBin op f g) σ H Q->tOp r (tX X f) (tX X g) σ H Q:=fun σ H Q h0=>tXe h0 fun P O L ρ w ρ' r e q=>by
 unfold fBin at e
 obtain ⟨⟨w1,ρ1⟩,e1,e⟩:=obs e
 dsimp only at e
 refine ⟨P,O,L,ρ,w1,ρ1,r,e1,fun v H1 H1' r1 s1 d1=>?_⟩
 obtain ⟨P',r1',k1⟩:=hold (r1.grow s1) (d1.fz r1 s1)
 obtain ⟨⟨w2,ρ2⟩,e2,e⟩:=obs e
 dsimp only at e
 refine ⟨P',O,L,ρ1,w2,ρ2,r1',e2,fun u H2 H2' r2 s2 d2=>?_⟩
 have d2':=d2.fz r2 s2
 obtain ⟨r3,d1'⟩:=k1 ρ2 H2' (r2.grow s2)
 cases e3:dr ρ2 w1.fz with
 | none=>rw [e3] at e;cases e
 | some x=>
  cases e4:dr ρ2 w2.fz with
  | none=>rw [e3,e4] at e;cases e
  | some y=>
   rw [e3,e4] at e
   simp only [Option.bind_some] at e
   cases e5:op x y with
   | none=>rw [e5] at e;cases e
   | some w'=>
    rw [e5] at e;cases e
    exact k _ x y w v u H2' Q (fun b z=>r3.there z) e5 (S9 r3 e3 d1') (S9 r3 e4 d2') fun z H' s d=>q z H2' H' r3 s d.st
theorem a1d {op:Operator}{r:R2}{o:D->D->Option W}(ho:OpR X (binaryOp op) r)(k:Pr2 X o r)(ha:QX X a f)(hb:QX X b g):QX X (.BinOp a op b pos) (fBin o f g):=⟨PE.weak (pe_op ho ha.to hb.to) (a1p k)⟩
theorem a3o {op:CmpOp}{r:R2}{o:D->D->Option W}(ho:OpR X (compareOp op) r)(k:Pr2 X o r)(ha:QX X a f)(hb:QX X b g)(hm:behindInMarks op b=false:=by first | exact nomark _ | rfl):QX X (.Compare a [op] [b] pos) (fBin o f g):=⟨PE.weak (b03 ho ha.to hb.to hm) (a1p k)⟩
def fTest (f:FX):FT:=fun ρ=>(f ρ).bind fun p=>match p.1 with | .v (.bl k)=>some (k,p.2) | _=>none
theorem a1k {f:FX}{ρ ρ':Ev}{k:Bool}(e:fTest f ρ=some (k,ρ')):f ρ=some (.v (.bl k),ρ'):=by
 unfold fTest at e
 cases q:f ρ with
 | none=>rw [q] at e;cases e
 | some p=>
  rw [q] at e
  obtain ⟨w,ρ1⟩:=p
  simp only [Option.bind_some] at e
  split at e
  ·cases e;rfl
  ·cases e
theorem a0b {op:CmpOp}{r:R2}{o:D->D->Option W}(ho:OpR X (compareOp op) r)(k:Pr2 X o r)(ha:QX X a f)(hb:QX X b g)(hm:behindInMarks op b=false:=by first | exact nomark _ | rfl):QT X (.Compare a [op] [b] pos) (fTest (fBin o f g)):=by
 refine ⟨PT.weak (b1I ho ha.to hb.to hm) fun σ H Q h0=>tTe h0 fun P O L ρ t ρ' r e q=>?_⟩
 refine a1p k σ H _ ⟨P,O,L,ρ,_,ρ',r,a1k e,fun v H1 H' r1 s1 d1=>⟨t,?_,q H' (r1.grow s1)⟩⟩
 have d1':Den X.K (AvO O ρ' σ) H' (.bl t) v:=d1
 exact a2s.mp d1'
def big:Nat:=2 ^ 8000
def mOk (i j:Int):Prop:=i.natAbs < 2 ^ 64\/j.natAbs < 2 ^ 64\/(i.natAbs < big/\j.natAbs < big)
instance (i j:Int):Decidable (mOk i j):=by unfold mOk;infer_instance
theorem mOk.ok {i j:Int}(m:mOk i j):IntMulOk i j:=by
 rcases m with m | m | ⟨m,n⟩
 ·exact .of_left (KE_bits m)
 ·exact .of_right (KE_bits m)
 ·exact .of_bits (Nat.le_trans (KE_bits m) (by decide)) (Nat.le_trans (KE_bits n) (by decide))
where KE_bits {x:Int} {m:Nat} (h:x.natAbs < 2 ^ m):Builtin.Int.intBits x<=m:=intBits_le_iff.mpr h
theorem b1W:OpR X (binaryOp .Mult) (rI mOk fun i j=>.int (i * j)):=opI fun _ _ _ _ _ _ _ hc q=>mul_int q hc.ok
def dOk (j:Int):Prop:=0 < j/\j.natAbs < big
instance (j:Int):Decidable (dOk j):=by unfold dOk;infer_instance
theorem b1y:OpR X (binaryOp .FloorDiv) (rI (fun _ j=>dOk j) fun i j=>.int (i / j)):=opI fun i j _ _ _ _ _ hc q=>by
 have e:i.fdiv j=i / j:=Int.fdiv_eq_ediv_of_nonneg i (Int.le_of_lt hc.1)
 refine floordiv_int (Int.ne_of_gt hc.1) (by rw [e];exact q) (.inl (PyProof.noPylong_of_log2 ?_))
 by_cases z:j.natAbs=0
 ·rw [z];decide
 ·exact Nat.lt_of_lt_of_le ((Nat.log2_lt z).mpr (show j.natAbs < 2 ^ 8000 from hc.2)) (by decide)
def oI (C:Int->Int->Prop) [∀i j,Decidable (C i j)] (g:Int->Int->D):D->D->Option W
 | .int i,.int j=>if C i j then some (.v (g i j)) else none
 | _,_=>none
def oI0 (g:Int->Int->D):D->D->Option W
 | .int i,.int j=>some (.v (g i j))
 | _,_=>none
theorem k7 {K:PySem.W.Frag}{A:Av}{H:Hp}{i:Int}{v:V}(h:DenR K A H (.int i) v):v= .int i:=by
 have h:Den K A H (.int i) v:=h
 exact F5.mp h
theorem kI {C:Int->Int->Prop} [∀i j,Decidable (C i j)] {g:Int->Int->Int}:Pr2 X (oI C fun i j=>.int (g i j)) (rI C fun i j=>.int (g i j)):=by
 intro A x y w v u H Q _ e hx hy q
 cases x <;> cases y <;> simp only [oI] at e <;> try cases e
 rename_i i j
 split at e
 ·rename_i hc
  cases e
  exact ⟨i,j,k7 hx,k7 hy,hc,q _ H (Same.refl H) G7⟩
 ·cases e
theorem kI0 {g:Int->Int->Int}:Pr2 X (oI0 fun i j=>.int (g i j)) (rI0 fun i j=>.int (g i j)):=by
 intro A x y w v u H Q _ e hx hy q
 cases x <;> cases y <;> simp only [oI0] at e <;> cases e
 rename_i i j
 exact ⟨i,j,k7 hx,k7 hy,q _ H (Same.refl H) G7⟩
theorem kB0 {g:Int->Int->Bool}:Pr2 X (oI0 fun i j=>.bl (g i j)) (rI0 fun i j=>.bl (g i j)):=by
 intro A x y w v u H Q _ e hx hy q
 cases x <;> cases y <;> simp only [oI0] at e <;> cases e
 rename_i i j
 exact ⟨i,j,k7 hx,k7 hy,q _ H (Same.refl H) F4⟩
abbrev fSub:=fBin (oI0 fun i j=>.int (i - j))
abbrev fMul:=fBin (oI mOk fun i j=>.int (i * j))
abbrev fDiv:=fBin (oI (fun _ j=>dOk j) fun i j=>.int (i / j))
abbrev fMod:=fBin (oI (fun _ j=>0 < j) fun i j=>.int (i % j))
instance (i j:Int):Decidable (CPow i j):=by unfold CPow;infer_instance
abbrev fPow:=fBin (oI CPow fun i j=>.int (i ^ j.toNat))
theorem a11 (ha:QX X a f)(hb:QX X b g):QX X (.BinOp a .Sub b pos) (fSub f g):=a1d b3m kI0 ha hb
theorem t6 (ha:QX X a f)(hb:QX X b g):QX X (.BinOp a .Mult b pos) (fMul f g):=a1d b1W kI ha hb
theorem a03 (ha:QX X a f)(hb:QX X b g):QX X (.BinOp a .FloorDiv b pos) (fDiv f g):=a1d b1y kI ha hb
theorem O5 (ha:QX X a f)(hb:QX X b g):QX X (.BinOp a .Mod b pos) (fMod f g):=a1d b3H kI ha hb
theorem a2u (ha:QX X a f)(hb:QX X b g):QX X (.BinOp a .Pow b pos) (fPow f g):=a1d b26 kI ha hb
abbrev oGt:=oI0 fun i j=>.bl (decide (j < i))
abbrev oGe:=oI0 fun i j=>.bl (decide (j<=i))
theorem b2l (ha:QX X a f)(hb:QX X b g):QX X (.Compare a [.Gt] [b] pos) (fBin oGt f g):=a3o b2m kB0 ha hb
theorem qx_ge (ha:QX X a f)(hb:QX X b g):QX X (.Compare a [.GtE] [b] pos) (fBin oGe f g):=a3o b2q kB0 ha hb
theorem a5x (ha:QX X a f)(hb:QX X b g):QT X (.Compare a [.Gt] [b] pos) (fTest (fBin oGt f g)):=a0b b2m kB0 ha hb
theorem qt_ge (ha:QX X a f)(hb:QX X b g):QT X (.Compare a [.GtE] [b] pos) (fTest (fBin oGe f g)):=a0b b2q kB0 ha hb
def lim:Nat:=1000000
theorem z8:lim<=sizeLine:=by unfold lim;rw [sizeLine_eq];decide
theorem k5 {H:Hp}{p:Addr}(h:H p=none)(o:HO):Same H (upd H p o):=fun b u q=>by rw [g7 (l6 q h)];exact q
theorem C3 {K:PySem.W.Frag}{A:Av}{σ:L2.St}{H:Hp}{p:Addr}{xs:List D}{vs:List V}(hp:H p=none)(l:DenL K A H xs vs):DenW K A σ H (upd H p (.lst vs)) (.o (.lst xs)) (.ref p):=
 ⟨p,rfl,hp,vs,m5,u9 (M:=fun _=>False) ⟨fun b o q _=>k5 hp _ b o q,fun _ z=>z.elim,fun b z=>z.imp id fun z=>by rw [z];exact hp⟩ _ _ l⟩
theorem a1Q {K:PySem.W.Frag}{A:Av}{σ:L2.St}{H H0:Hp}{p:Addr}{xs:List D}{vs:List V}(hp:H p=none)(l:DenL K A H xs vs):DenW K A σ H0 (upd H p (.tup vs)) (.v (.tup xs)) (.ref p):=by
 show Den _ _ _ _ _;rw [Den]
 exact ⟨p,vs,rfl,.inl (.inl m5),a8m (k5 hp _) l⟩
theorem b1q:OpR X (binaryOp .Add) (fun x y H Q=>∃l b xs zs,x= .ref l/\y= .ref b/\SqL X.K H l xs/\SqL X.K H b zs/\xs.length + zs.length<=sizeLine/\∀p,H p=none->Q (.ref p) (upd H p (.lst (xs ++ zs)))):=by
 intro pins s σ H x y v u Q I rx ry h
 obtain ⟨l,b,xs,zs,rfl,rfl,hH,hB,hz,q⟩:=h
 cases rx
 cases ry
 obtain ⟨its,r,⟨⟨c1,d1,e1,s1⟩,n1,g1,k1,_,w1⟩,_⟩:=I.list hH
 obtain ⟨its2,r2,⟨⟨c2,d2,e2,s2⟩,n2,g2,k2,_,w2⟩,_⟩:=I.list hB
 simp only at k1 w1 k2 w2
 subst k1 w1 k2 w2
 have l1:=r.length
 have l2:=r2.length
 refine concat_meets ⟨_,g1,rfl⟩ ⟨_,g2,rfl⟩ noFill_list_add seq_list_add PySem.F.slot_list_add PySem.F.entry_list_add (PySem.F.args_list_add_2 _ _) (list_addW l b its.toArray its2.toArray n1 n2 d1 d2 s1 s2 (by rw [List.size_toArray,List.size_toArray];walk_at "o")) ⟨g1,g2,?_⟩
 have ea:its.toArray ++ its2.toArray=(its ++ its2).toArray:=by simp
 rw [ea]
 exact ⟨.ref _,_,I.lnew (t':=s.toks) (r.append r2) (by rw [List.length_append];walk_at "o"),rfl,q _ I.fresh⟩
def oCat (xs ys:List D):Option W:=if xs.length + ys.length<=lim then some (.o (.lst (xs ++ ys))) else none
def oAdd:D->D->Option W
 | .int i,.int j=>some (.v (.int (i + j)))
 | .lst xs,.lst ys=>oCat xs ys
 | .tup xs,.tup ys=>if xs≠[]/\xs.length + ys.length<=lim then some (.v (.tup (xs ++ ys))) else none
 | _,_=>none
instance (xs:List D):Decidable (xs≠[]):=match xs with
 | []=>.isFalse fun h=>h rfl
 | _ :: _=>.isTrue nofun
theorem m6 (ha:QX X a f)(hb:QX X b g):QX X (.BinOp a .Add b pos) (fBin oAdd f g):=a1d (b3O.or (b1q.or b1d)) (by
 intro A x y w v u H Q _ e hx hy q
 cases x <;> cases y <;> simp only [oAdd] at e <;> try cases e
 ·rename_i i j
  exact .inl ⟨i,j,k7 hx,k7 hy,q _ H (Same.refl H) G7⟩
 ·rename_i xs ys
  split at e
  ·rename_i hl
   cases e
   have hx:Den X.K A H (.tup xs) v:=hx
   have hy:Den X.K A H (.tup ys) u:=hy
   rw [Den] at hx hy
   obtain ⟨a,vs,ev,ha,la⟩:=hx
   obtain ⟨b,us,eu,hb,lb⟩:=hy
   refine .inr (.inr ⟨a,b,vs,us,ev,eu,ha,hb,fun z=>?_,?_,fun z=>?_,fun _ p hp=>q _ _ (k5 hp _) (a1Q hp (t7 la lb))⟩)
   rotate_left 2
   ·subst z
    have z:ys=[]:=List.length_eq_zero_iff.mp (c7 lb)
    subst z
    refine q _ H (Same.refl H) ?_
    show Den _ _ _ _ _
    rw [List.append_nil,Den]
    exact ⟨a,vs,rfl,ha,la⟩
   ·subst z;exact hl.1 (List.length_eq_zero_iff.mp (c7 la))
   ·rw [<-c7 la,<-c7 lb];exact Nat.le_trans hl.2 z8
  ·cases e
 ·rename_i xs ys
  unfold oCat at e
  split at e
  ·rename_i hl
   cases e
   obtain ⟨a,vs,ev,ha,la⟩:=hx
   obtain ⟨b,us,eu,hb,lb⟩:=hy
   refine .inr (.inl ⟨a,b,vs,us,ev,eu,ha,hb,?_,fun p hp=>q _ _ (k5 hp _) (C3 hp (t7 la lb))⟩)
   rw [<-c7 la,<-c7 lb];exact Nat.le_trans hl z8
  ·cases e) ha hb
def fUn (op:D->Option W) (f:FX):FX:=fun ρ=>(f ρ).bind fun p=>(dr p.2 p.1.fz).bind fun x=>(op x).map fun w=>(w,p.2)
def Pr1 (X:Cx) (op:D->Option W) (r:V->Hp->VK->Prop):Prop:=∀(A:Av) (x:D) (w:W) (v:V) (H:Hp) (Q:VK),(∀b,A b->∃o,H b=some o)->op x=some w->DenR X.K A H x v->(∀z H',Same H H'->DenW X.K A [] H H' w z->Q z H')->r v H Q
theorem a5a {r:V->Hp->VK->Prop}{op:D->Option W}(k:Pr1 X op r):∀σ H Q,tX X (fUn op f) σ H Q->tUn r (tX X f) σ H Q:=fun σ H Q h0=>tXe h0 fun P O L ρ w ρ' r e q=>by
 unfold fUn at e
 obtain ⟨⟨w1,ρ1⟩,e1,e⟩:=obs e
 dsimp only at e
 refine ⟨P,O,L,ρ,w1,ρ1,r,e1,fun v H1 H1' r1 s1 d1=>?_⟩
 have r3:=r1.grow s1
 cases e3:dr ρ1 w1.fz with
 | none=>rw [e3] at e;cases e
 | some x=>
  rw [e3] at e
  simp only [Option.bind_some] at e
  cases e5:op x with
  | none=>rw [e5] at e;cases e
  | some w'=>
   rw [e5] at e;cases e
   exact k _ x w v H1' Q (fun b z=>r3.there z) e5 (S9 r3 e3 (d1.fz r1 s1)) fun z H' s d=>q z H1' H' r3 s d.st
def oNeg:D->Option W
 | .int i=>some (.v (.int (-i)))
 | _=>none
theorem a6L (ha:QX X a f):QX X (.UnaryOp .USub a pos) (fUn oNeg f):=⟨PE.weak (pe_un b4g ha.to) (a5a fun A x w v H Q _ e hx q=>by
 cases x <;> simp only [oNeg] at e <;> cases e
 rename_i i
 exact ⟨i,k7 hx,q _ H (Same.refl H) G7⟩)⟩
end
section
variable {X:Cx}{a b c e:Expr}{pos:Pos}{f g h:FX}{t u:FT}{fa:FA}{es rest:List Expr}
def truth:D->Option Bool
 | .non=>some false
 | .bl b=>some b
 | .int i=>some (!decide (i=0))
 | .tup xs=>some (!xs.isEmpty)
 | .lst xs=>some (!xs.isEmpty)
 | .dK ks _=>some (!ks.isEmpty)
 | _=>none
def fTru (f:FX):FT:=fun ρ=>(f ρ).bind fun p=>(dr p.2 p.1.fz).bind fun d=>(truth d).map fun k=>(k,p.2)
theorem a3q {K:PySem.W.Frag}{A:Av}{H:Hp}{xs:List D}{vs:List V}(l:DenL K A H xs vs):(!xs.isEmpty)= !vs.isEmpty:=by
 have:=c7 l
 cases xs <;> cases vs <;> simp_all
theorem a7u {K:PySem.W.Frag}{A:Av}{H:Hp}{d:D}{v:V}{k:Bool}(e:truth d=some k)(h:DenR K A H d v):TruV K v H k:=by
 cases d with
 | non=>cases e;have h:Den K A H .non v:=h;rw [Den] at h;subst h;rfl
 | bl b=>cases e;have h:Den K A H (.bl k) v:=h;rw [Den] at h;subst h;rfl
 | int i=>cases e;have h:Den K A H (.int i) v:=h;rw [Den] at h;subst h;rfl
 | tup xs=>cases e;have h:Den K A H (.tup xs) v:=h;rw [Den] at h;obtain ⟨a,vs,rfl,hq,l⟩:=h;exact .inr (.inl ⟨vs,hq,a3q l⟩)
 | lst xs=>cases e;obtain ⟨a,vs,rfl,hq,l⟩:=h;exact .inl ⟨vs,hq,a3q l⟩
 | dK ks xs=>
  cases e;obtain ⟨a,vs,rfl,hq,hl,l⟩:=h
  refine .inr (.inr ⟨_,hq,?_⟩)
  have:=c7 l
  cases ks <;> cases vs <;> cases xs <;> simp_all
 | _=>cases e
theorem z5 (ha:QX X a f)(he:∀whole,isTrue a X.env whole=(do let v <-whole;standAt a.pos;holding [v] (truthy v)):=by intro _;rfl):QT X a (fTru f):=⟨PT.weak (a9r ha.to he) fun σ H Q h0=>tTe h0 fun P O L ρ k ρ' r e q=>by
 unfold fTru at e
 obtain ⟨⟨w,ρ1⟩,e1,e⟩:=obs e
 dsimp only at e
 cases e2:dr ρ1 w.fz with
 | none=>rw [e2] at e;cases e
 | some d=>
  rw [e2] at e
  simp only [Option.bind_some] at e
  cases e3:truth d with
  | none=>rw [e3] at e;cases e
  | some k'=>
   rw [e3] at e;cases e
   exact ⟨P,O,L,ρ,w,_,r,e1,fun v H1 H' r1 s1 d1=>⟨k,a7u e3 (S9 (r1.grow s1) e2 (d1.fz r1 s1)),q H' (r1.grow s1)⟩⟩⟩
def fNot (t:FT):FT:=fun ρ=>(t ρ).map fun p=>(!p.1,p.2)
theorem A5 (ha:QT X a t):QT X (.UnaryOp .Not a pos) (fNot t):=⟨PT.weak (L2.b3g ha.to) fun σ H Q h0=>tTe h0 fun P O L ρ k ρ' r e q=>by
 unfold fNot at e
 cases e1:t ρ with
 | none=>rw [e1] at e;cases e
 | some p=>rw [e1] at e;obtain ⟨k1,ρ1⟩:=p;cases e;exact ⟨P,O,L,ρ,k1,_,r,e1,q⟩⟩
def fAnd (t u:FT):FT:=fun ρ=>(t ρ).bind fun p=>if p.1=true then u p.2 else some (false,p.2)
def fOr (t u:FT):FT:=fun ρ=>(t ρ).bind fun p=>if p.1=true then some (true,p.2) else u p.2
theorem a5k (ha:QT X a t):QW X (.BoolOp .And [a] pos) t:=⟨pw_and1 ha.to⟩
theorem V8 (ha:QT X a t):QW X (.BoolOp .Or [a] pos) t:=⟨pw_or1 ha.to⟩
theorem a6E (ha:QT X a t)(hb:QW X (.BoolOp .And (b :: rest) pos) u):QW X (.BoolOp .And (a :: b :: rest) pos) (fAnd t u):=⟨PW.weak (pw_and ha.to hb.to) fun σ H Q h0=>tTe h0 fun P O L ρ k ρ' r e q=>by
 unfold fAnd at e
 obtain ⟨⟨k1,ρ1⟩,e1,e⟩:=obs e
 dsimp only at e
 refine ⟨P,O,L,ρ,k1,ρ1,r,e1,fun H' r'=>?_⟩
 cases k1 with
 | true=>rw [if_pos rfl] at e ⊢;exact ⟨P,O,L,ρ1,k,ρ',r',e,q⟩
 | false=>rw [if_neg Bool.false_ne_true] at e ⊢;cases e;exact q H' r'⟩
theorem Q7 (ha:QT X a t)(hb:QW X (.BoolOp .Or (b :: rest) pos) u):QW X (.BoolOp .Or (a :: b :: rest) pos) (fOr t u):=⟨PW.weak (pw_or ha.to hb.to) fun σ H Q h0=>tTe h0 fun P O L ρ k ρ' r e q=>by
 unfold fOr at e
 obtain ⟨⟨k1,ρ1⟩,e1,e⟩:=obs e
 dsimp only at e
 refine ⟨P,O,L,ρ,k1,ρ1,r,e1,fun H' r'=>?_⟩
 cases k1 with
 | true=>rw [if_pos rfl] at e ⊢;cases e;exact q H' r'
 | false=>rw [if_neg Bool.false_ne_true] at e ⊢;exact ⟨P,O,L,ρ1,k,ρ',r',e,q⟩⟩
theorem Y0 (ha:QW X a t):QT X a t:=⟨PW.pt ha.to⟩
theorem L7 {op}(ha:QX X a f):QX X (.BoolOp op [a] pos) f:=⟨b4m ha.to⟩
def fAndV (f g:FX):FX:=fun ρ=>(fTest f ρ).bind fun p=>if p.1=true then g p.2 else some (.v (.bl false),p.2)
def fOrV (f g:FX):FX:=fun ρ=>(fTest f ρ).bind fun p=>if p.1=true then some (.v (.bl true),p.2) else g p.2
def fNotV (f:FX):FX:=fun ρ=>(fTest f ρ).map fun p=>(.v (.bl (!p.1)),p.2)
theorem a1m {K:PySem.W.Frag}{A:Av}{σ:L2.St}{H H':Hp}{k:Bool}{v:V}(h:DenW K A σ H H' (.v (.bl k)) v):v= .bl k:=by
 have h:Den K A H' (.bl k) v:=h
 exact a2s.mp h
theorem K1 (ha:QX X a f)(hb:QX X (.BoolOp .And (b :: rest) pos) g):QX X (.BoolOp .And (a :: b :: rest) pos) (fAndV f g):=⟨PE.weak (b4h ha.to hb.to) fun σ H Q h0=>tXe h0 fun P O L ρ w ρ' r e q=>by
 unfold fAndV at e
 obtain ⟨⟨k,ρ1⟩,e1,e⟩:=obs e
 dsimp only at e
 refine ⟨P,O,L,ρ,_,ρ1,r,a1k e1,fun v H1 H' r1 s1 d1=>⟨k,a1m d1,?_⟩⟩
 cases k with
 | true=>rw [if_pos rfl] at e ⊢;exact ⟨P,O,L,ρ1,w,ρ',r1.grow s1,e,q⟩
 | false=>rw [if_neg Bool.false_ne_true] at e ⊢;cases e;exact q _ H' H' (r1.grow s1) (Same.refl _) F4⟩
theorem qx_or (ha:QX X a f)(hb:QX X (.BoolOp .Or (b :: rest) pos) g):QX X (.BoolOp .Or (a :: b :: rest) pos) (fOrV f g):=⟨PE.weak (pe_or ha.to hb.to) fun σ H Q h0=>tXe h0 fun P O L ρ w ρ' r e q=>by
 unfold fOrV at e
 obtain ⟨⟨k,ρ1⟩,e1,e⟩:=obs e
 dsimp only at e
 refine ⟨P,O,L,ρ,_,ρ1,r,a1k e1,fun v H1 H' r1 s1 d1=>⟨k,a1m d1,?_⟩⟩
 cases k with
 | true=>rw [if_pos rfl] at e ⊢;cases e;exact q _ H' H' (r1.grow s1) (Same.refl _) F4
 | false=>rw [if_neg Bool.false_ne_true] at e ⊢;exact ⟨P,O,L,ρ1,w,ρ',r1.grow s1,e,q⟩⟩
def fIf (t:FT) (f g:FX):FX:=fun ρ=>(t ρ).bind fun p=>if p.1=true then f p.2 else g p.2
def fNil:FA:=fun ρ=>some ([],ρ)
def fCons (f:FX) (fa:FA):FA:=fun ρ=>(f ρ).bind fun p=>(fa p.2).map fun q=>(p.1.fz :: q.1,q.2)
theorem a9:QA X [] fNil:=⟨PA.weak a9p fun σ H Q h0=>tAe h0 fun P O L ρ ws ρ' r e q=>by cases e;exact q [] H r rfl⟩
theorem a8 (ha:QX X e f)(hr:QA X es fa)(hs:starEach (e :: es) X.env=(false,eval e X.env) :: starEach es X.env:=by rfl):QA X (e :: es) (fCons f fa):=⟨PA.weak (a5s ha.to hr.to hs) fun σ H Q h0=>tAe h0 fun P O L ρ ws ρ' r e q=>by
 unfold fCons at e
 obtain ⟨⟨w,ρ1⟩,e1,e⟩:=obs e
 dsimp only at e
 obtain ⟨⟨ws2,ρ2⟩,e2,e⟩:=oms e
 cases e
 refine ⟨P,O,L,ρ,w,ρ1,r,e1,fun v H1 H' r1 s1 d1=>?_⟩
 obtain ⟨P',r1',k1⟩:=hold (r1.grow s1) (d1.fz r1 s1)
 refine ⟨P',O,L,ρ1,ws2,_,r1',e2,fun vs H2 r2 l2=>?_⟩
 obtain ⟨r3,d3⟩:=k1 _ H2 r2
 exact q _ H2 r3 ⟨v,vs,rfl,d3,l2⟩⟩
def takeAll:Ev->List W->Option (List D×Ev)
 | ρ,[]=>some ([],ρ)
 | ρ,.v d :: ws=>(takeAll ρ ws).map fun p=>(d :: p.1,p.2)
 | ρ,.r i :: ws=>(frzAt ρ i).bind fun ρ1=>match ρ1[i]? with
  | some (some (.v d))=>(takeAll ρ1 ws).map fun p=>(d :: p.1,p.2)
  | _=>none
 | _,_=>none
theorem a68 {ρ ρ':Ev}{σ:L2.St}{O:Av}(h:∀(j:Nat) (w:W) (d:D),ρ'[j]? =some (some w)->w.own=some d->ρ[j]? =some (some w)):∀b,AvO O ρ' σ b->AvO O ρ σ b:=fun b z=>z.imp id fun ⟨j,w,d,e1,e2,e3⟩=>⟨j,w,d,h j w d e1 e2,e2,e3⟩
theorem o8 {P:List (D×V)}{O:Av}{L:List (Nat×Addr)}{σ:L2.St}{H:Hp}:∀{ws:List W} {ds:List D} {vs:List V} {ρ ρ':Ev},Rep X P O L ρ σ H->takeAll ρ ws=some (ds,ρ')->DenA X.K (AvO O ρ σ) σ H ws vs->
  Rep X P O L ρ' σ H/\DenL X.K (AvO O ρ' σ) H ds vs/\∀(j:Nat) (w:W) (d:D),ρ'[j]? =some (some w)->w.own=some d->ρ[j]? =some (some w)
 | [],ds,vs,ρ,ρ',r,e,h=>by cases e;have h:vs=[]:=h;subst h;exact ⟨r,j9,fun j w d e _=>e⟩
 | .v d :: ws,ds,vs,ρ,ρ',r,e,h=>by
  obtain ⟨v,rs,rfl,h1,h2⟩:=h
  rw [takeAll] at e
  obtain ⟨⟨ds1,ρ1⟩,e1,e⟩:=oms e
  cases e
  obtain ⟨r1,l1,k1⟩:=o8 r e1 h2
  exact ⟨r1,j8 (s0 (A1 (a68 k1)) _ _ h1) l1,k1⟩
 | .r i :: ws,ds,vs,ρ,ρ',r,e,h=>by
  obtain ⟨v,rs,rfl,h1,h2⟩:=h
  have h1:σ[i]? =some (some v):=h1
  rw [takeAll] at e
  cases e0:frzAt ρ i with
  | none=>rw [e0] at e;cases e
  | some ρ1=>
   rw [e0] at e
   simp only [Option.bind_some] at e
   obtain ⟨r1,k1⟩:=r.frz e0
   split at e
   ·rename_i d q
    obtain ⟨⟨ds1,ρ2⟩,e1,e⟩:=oms e
    cases e
    have go1:∀{ws:List W} {vs:List V},DenA X.K (AvO O ρ σ) σ H ws vs->DenA X.K (AvO O ρ1 σ) σ H ws vs:=fun {ws}=>by
     induction ws with
     | nil=>exact fun h=>h
     | cons w ws ih=>
      intro vs h
      obtain ⟨v,rs,rfl,h1,h2⟩:=h
      refine ⟨v,rs,rfl,?_,ih h2⟩
      cases w with
      | v d=>exact s0 (A1 (a68 fun j w d e1 e2=>(k1 j w d e1 e2).1)) _ _ h1
      | _=>exact h1
    obtain ⟨r2,l2,k2⟩:=o8 r1 e1 (go1 h2)
    obtain ⟨u,q1,q2⟩:=r1.slot i _ q
    rw [h1] at q1;cases q1
    have q2:Den X.K (AvO O ρ1 σ) H d v:=q2
    exact ⟨r2,j8 (s0 (A1 (a68 k2)) _ _ q2) l2,fun j w d e1 e2=>(k1 j w d (k2 j w d e1 e2) e2).1⟩
   ·cases e
 | .o _ :: ws,ds,vs,ρ,ρ',r,e,h=>by rw [takeAll] at e <;> first | cases e | (intros;nofun)
 | .l _ :: ws,ds,vs,ρ,ρ',r,e,h=>by rw [takeAll] at e <;> first | cases e | (intros;nofun)
def fTup (fa:FA):FX:=fun ρ=>(fa ρ).bind fun p=>(takeAll p.2 p.1).bind fun q=>if q.1.length<=lim then some (.v (.tup q.1),q.2) else none
def fLst (fa:FA):FX:=fun ρ=>(fa ρ).bind fun p=>(takeAll p.2 p.1).bind fun q=>if q.1.length<=lim then some (.o (.lst q.1),q.2) else none
theorem a4c {mk:List D->W}{σ:L2.St}{H:Hp}{Q:VK}{R:List V->Hp->Prop}(hq:∀(A:Av) (ds:List D) (vs:List V) (H:Hp),(∀v H',Same H H'->DenW X.K A σ H H' (mk ds) v->Q v H')->vs.length<=sizeLine->DenL X.K A H ds vs->R vs H)
  (h:tX X (fun ρ=>(fa ρ).bind fun p=>(takeAll p.2 p.1).bind fun q=>if q.1.length<=lim then some (mk q.1,q.2) else none) σ H Q):tA X fa σ H R:=by
 obtain ⟨P,O,L,ρ,w,ρ',r,e,q⟩:=h
 dsimp only at e
 obtain ⟨⟨ws,ρ1⟩,e1,e⟩:=obs e
 dsimp only at e
 obtain ⟨⟨ds,ρ2⟩,e2,e⟩:=obs e
 dsimp only at e
 split at e
 ·rename_i hl
  cases e
  refine ⟨P,O,L,ρ,ws,ρ1,r,e1,fun vs H1 r1 l1=>?_⟩
  obtain ⟨r2,l2,_⟩:=o8 r1 e2 l1
  exact hq _ ds vs H1 (fun v H' s d=>q v H1 H' r2 s d) (by rw [<-c7 l2];exact Nat.le_trans hl z8) l2
 ·cases e
theorem m4 {k:Nat}(ha:QA X es fa):QX X (.Tuple es k pos) (fTup fa):=⟨PE.weak (a6M ha.to) fun σ H Q h=>a4c (mk:=fun ds=>.v (.tup ds)) (fun A ds vs H q hl l=>⟨hl,fun p hp=>q _ _ (k5 hp _) (a1Q hp l)⟩) h⟩
theorem w5 (ha:QA X es fa):QX X (.List es pos) (fLst fa):=⟨PE.weak (b3x ha.to) fun σ H Q h=>a4c (mk:=fun ds=>.o (.lst ds)) (fun A ds vs H q hl l=>⟨hl,fun p hp=>q _ _ (k5 hp _) (C3 hp l)⟩) h⟩
def items:D->Option (List D)
 | .tup xs=>some xs
 | .lst xs=>some xs
 | _=>none
theorem P3 {K:PySem.W.Frag}{A:Av}{H:Hp}{d:D}{xs:List D}{v:V}(e:items d=some xs)(h:DenR K A H d v):∃a vs,v= .ref a/\(SqL K H a vs\/SqT K H a vs)/\DenL K A H xs vs:=by
 cases d <;> simp only [items] at e <;> cases e
 ·have h:Den K A H (.tup xs) v:=h
  rw [Den] at h;obtain ⟨a,vs,e,hq,l⟩:=h;exact ⟨a,vs,e,.inr hq,l⟩
 ·obtain ⟨a,vs,e,hq,l⟩:=h;exact ⟨a,vs,e,.inl hq,l⟩
def strAt (x:Str) (i:Int):Option W:=if x.length<=lim then (atI x.cps.toList i).map fun c=>.v (.str ⟨#[c]⟩) else none
def oIx (x y:D):Option W:=match x,y with
 | .str x,.int i=>strAt x i
 | x,.int i=>(items x).bind fun xs=>(atI xs i).map .v
 | _,_=>none
theorem b1V {K:PySem.W.Frag}{A:Av}{H:Hp}{xs:List D}{vs:List V}{i:Int}{d:D}(l:DenL K A H xs vs)(e:atI xs i=some d):∃v,atI vs i=some v/\Den K A H d v:=by
 unfold atI at e ⊢
 rw [<-c7 l]
 cases q:ixN xs.length i with
 | none=>rw [q] at e;cases e
 | some j=>rw [q] at e;exact w9 l e
theorem k_ix:Pr2 X oIx (rIx X.K):=by
 intro A x y w v u H Q _ e hx hy q
 unfold oIx at e
 split at e
 ·rename_i z i
  unfold strAt at e
  split at e
  ·rename_i hl
   obtain ⟨ch,e1,e⟩:=oms e
   cases e
   have hx:Den X.K A H (.str z) v:=hx
   exact .inr (.inr ⟨z,i,ch,a1F.mp hx,k7 hy,Nat.le_trans hl z8,e1,q _ H (Same.refl H) M8⟩)
  ·cases e
 ·rename_i i _
  cases e1:items x with
  | none=>rw [e1] at e;cases e
  | some xs=>
   rw [e1] at e
   simp only [Option.bind_some] at e
   obtain ⟨d,e2,e⟩:=oms e
   cases e
   obtain ⟨a,vs,rfl,hq,l⟩:=P3 e1 hx
   obtain ⟨v',h1,h2⟩:=b1V l e2
   rcases hq with hq | hq
   ·exact .inl ⟨a,vs,i,v',rfl,k7 hy,hq,h1,q _ H (Same.refl H) h2⟩
   ·exact .inr (.inl ⟨a,vs,i,v',rfl,k7 hy,hq,h1,q _ H (Same.refl H) h2⟩)
 ·cases e
def fCall (k:List D->Option W) (fa:FA):FX:=fun ρ=>(fa ρ).bind fun p=>(drs p.2 p.1).bind fun ds=>(k ds).map fun w=>(w,p.2)
def PrA (X:Cx) (k:List D->Option W) (r:List V->Hp->VK->Prop):Prop:=∀(A:Av) (ds:List D) (w:W) (vs:List V) (H:Hp) (Q:VK),(∀b,A b->∃o,H b=some o)->k ds=some w->DenRL X.K A H ds vs->(∀z H',Same H H'->DenW X.K A [] H H' w z->Q z H')->r vs H Q
theorem a4d {r:List V->Hp->VK->Prop}{k:List D->Option W}(hk:PrA X k r):∀σ H Q,tX X (fCall k fa) σ H Q->tCB r (tA X fa) σ H Q:=fun σ H Q h0=>tXe h0 fun P O L ρ w ρ' r e q=>by
 unfold fCall at e
 obtain ⟨⟨ws,ρ1⟩,e1,e⟩:=obs e
 dsimp only at e
 cases e2:drs ρ1 ws with
 | none=>rw [e2] at e;cases e
 | some ds=>
  rw [e2] at e
  simp only [Option.bind_some] at e
  cases e3:k ds with
  | none=>rw [e3] at e;cases e
  | some w'=>
   rw [e3] at e;cases e
   exact ⟨P,O,L,ρ,ws,ρ',r,e1,fun vs H1 r1 l1=>hk _ ds w vs H1 Q (fun b z=>r1.there z) e3 (a7y r1 e2 l1) fun z H2 s2 d2=>q z H1 H2 r1 s2 d2.st⟩
theorem a3r {x:Str}{p:Pos}{id:String}{r:List V->Hp->VK->Prop}{k:List D->Option W}(hc:CallR X (.builtin id) r)(hk:PrA X k r)(hv:bootBuiltins x=some (.builtin id))(hm:X.mg x=none)(ha:QA X (e :: es) fa)(hg:Gl X x)(hn:x≠"__name__")(hdb:(x == ("__debug__":Str))=false)
  (he:starEach (e :: es) X.env=(false,eval e X.env) :: starEach es X.env) (hpl:(backTo pos (starEach es X.env)).any (·.1)=false):QX X (.Call (.Name x p) (e :: es) [] pos) (fCall k fa):=⟨PE.weak (a5P hc hg hm hv ha.to hn hdb he hpl) (a4d hk)⟩
theorem a5A {x:Str}{p:Pos}{T:String}{r:List V->Hp->VK->Prop}{k:List D->Option W}(hc:CallR X (.type T) r)(hk:PrA X k r)(hv:bootBuiltins x=some (.type T))(hm:X.mg x=none)(ha:QA X (e :: es) fa)(hg:Gl X x)(hn:x≠"__name__")(hdb:(x == ("__debug__":Str))=false)
  (he:starEach (e :: es) X.env=(false,eval e X.env) :: starEach es X.env) (hpl:(backTo pos (starEach es X.env)).any (·.1)=false):QX X (.Call (.Name x p) (e :: es) [] pos) (fCall k fa):=⟨PE.weak (a8v hc hg hm hv ha.to hn hdb he hpl) (a4d hk)⟩
theorem denRL1 {K:PySem.W.Frag}{A:Av}{H:Hp}{d:D}{vs:List V}(l:DenRL K A H [d] vs):∃v,vs=[v]/\DenR K A H d v:=by
 obtain ⟨v,r,rfl,h,l⟩:=l
 have l:r=[]:=l
 subst l;exact ⟨v,rfl,h⟩
theorem denRL2 {K:PySem.W.Frag}{A:Av}{H:Hp}{d d':D}{vs:List V}(l:DenRL K A H [d,d'] vs):∃v v',vs=[v,v']/\DenR K A H d v/\DenR K A H d' v':=by
 obtain ⟨v,r,rfl,h,l⟩:=l
 obtain ⟨v',rfl,h'⟩:=denRL1 l
 exact ⟨v,v',rfl,h,h'⟩
end
inductive R where
 | nx (ρ:Ev) | bk (ρ:Ev) | ct (ρ:Ev) | rt (w:W) (ρ:Ev)
abbrev FS:=Ev->Option R
abbrev A0 (O:Av) (L:List (Nat×Addr)):Av:=fun b=>O b\/∃i,(i,b)∈L
def EndsOk (X:Cx) (P:List (D×V)) (O:Av) (L:List (Nat×Addr)) (E:Ends):R->Prop
 | .nx ρ=>∀σ H,Rep X P O L ρ σ H->E.nx σ H
 | .bk ρ=>∀σ H,Rep X P O L ρ σ H->E.bk σ H
 | .ct ρ=>∀σ H,Rep X P O L ρ σ H->E.ct σ H
 | .rt w ρ=>∀v H,(∀b o,X.H₀ b=some o->(∀i,(i,b)∉L)->H b=some o)->(∀i b,(i,b)∈L->∃c,ownAt ρ i=some c/\Obj X.K (A0 O L) H b c)->DenW X.K (A0 O L) [] X.H₀ H w v->E.rt v H
def tS (X:Cx) (F:FS):TS:=fun E σ H=>∃P O L ρ r,Rep X P O L ρ σ H/\F ρ=some r/\EndsOk X P O L E r
theorem tSe {X:Cx}{F:FS}{E:Ends}{σ:L2.St}{H:Hp}{C:Prop}(h:tS X F E σ H)(k:∀P O L ρ r,Rep X P O L ρ σ H->F ρ=some r->EndsOk X P O L E r->C):C:=by
 obtain ⟨P,O,L,ρ,r,rp,e,q⟩:=h
 exact k P O L ρ r rp e q
structure QS (X:Cx) (st:Stmt) (F:FS):Prop where
 to:PS X st (tS X F)
structure QSs (X:Cx) (st:List Stmt) (F:FS):Prop where
 to:PSs X st (tS X F)
theorem PS.weak {X:Cx}{e:Stmt}{t u:TS}(h:PS X e t)(w:∀E σ H,u E σ H->t E σ H):PS X e u:=fun pins s σ H E I q=>h pins s σ H E I (w E σ H q)
theorem PSs.weak {X:Cx}{e:List Stmt}{t u:TS}(h:PSs X e t)(w:∀E σ H,u E σ H->t E σ H):PSs X e u:=fun pins s σ H E I q=>h pins s σ H E I (w E σ H q)
def fThen (F G:FS):FS:=fun ρ=>(F ρ).bind fun r=>match r with
 | .nx ρ'=>G ρ'
 | r=>some r
section
variable {X:Cx}{P:List (D×V)}{O:Av}{L:List (Nat×Addr)}{ρ ρ':Ev}{σ:L2.St}{H H1 H':Hp}{w:W}{d:D}{v:V}
theorem Rep.a0 (r:Rep X P O L ρ σ H){b:Addr}(z:A0 O L b):AvO O ρ σ b:=z.imp id fun ⟨i,z⟩=>by
 obtain ⟨d,h1,h2⟩:=r.lnd i b z
 exact ⟨i,_,d,h1,rfl,h2⟩
theorem Rep.lents (r:Rep X P O L ρ σ H):∀i b,(i,b)∈L->∃c,ownAt ρ i=some c/\Obj X.K (A0 O L) H b c:=fun i b z=>by
 obtain ⟨d,h1,h2⟩:=r.lnd i b z
 obtain ⟨a,h3,h4⟩:=r.obj h1 rfl
 rw [h2] at h3;cases h3
 exact ⟨d,by unfold ownAt;rw [h1];rfl,u6 (A1 fun b z=>r.a0 z) rfl h4⟩
def bindW (ρ:Ev) (i:Nat):W->Option Ev
 | .v d=>if freeSlot ρ i=true then some (ρ.set i (some (.v d))) else none
 | .o d=>if freeSlot ρ i=true then some (ρ.set i (some (.o d))) else none
 | .r j=>(frzAt ρ j).bind fun ρ1=>match ρ1[j]? with
  | some (some (.v d))=>if freeSlot ρ1 i=true then some (ρ1.set i (some (.v d))) else none
  | _=>none
 | .l _=>none
theorem a7j {i:Nat}(r:Rep X P O L ρ σ H1)(s:Same H1 H')(h:DenW X.K (AvO O ρ σ) σ H1 H' w v)(e:bindW ρ i w=some ρ'):Rep X P O L ρ' (σ.set i (some v)) H':=by
 cases w with
 | v d=>
  rw [bindW] at e
  split at e
  ·rename_i hf;cases e;exact (r.grow s).put hf h
  ·cases e
 | o d=>
  rw [bindW] at e
  split at e
  ·rename_i hf;cases e;obtain ⟨a,rfl,hn,ob⟩:=h;exact r.putO s hf hn ob
  ·cases e
 | r j=>
  rw [bindW] at e
  cases e1:frzAt ρ j with
  | none=>rw [e1] at e;cases e
  | some ρ1=>
   rw [e1] at e
   simp only [Option.bind_some] at e
   obtain ⟨r1,_⟩:=(r.grow s).frz e1
   split at e
   ·rename_i d q
    split at e
    ·rename_i hf
     cases e
     obtain ⟨u,q1,q2⟩:=r1.slot j _ q
     have h:σ[j]? =some (some v):=h
     rw [h] at q1;cases q1
     exact r1.put hf q2
    ·cases e
   ·cases e
 | l d=>cases e
def retW (ρ:Ev):W->Option R
 | .v d=>some (.rt (.v d) ρ)
 | .o d=>some (.rt (.o d) ρ)
 | .r i=>match ρ[i]? with
  | some (some (.o d))=>some (.rt (.o d) ρ)
  | some (some (.v d))=>some (.rt (.v d) ρ)
  | _=>none
 | .l _=>none
theorem b3v {E:Ends}{q:R}(r:Rep X P O L ρ σ H1)(s:Same H1 H')(h:DenW X.K (AvO O ρ σ) σ H1 H' w v)(e:retW ρ w=some q)(hq:EndsOk X P O L E q):E.rt v H':=by
 have r':=r.grow s
 cases w with
 | v d=>cases e;exact hq v H' r'.same r'.lents (s0 (A1 fun b z=>r.a0 z) _ _ h)
 | o d=>
  cases e
  obtain ⟨a,rfl,hn,ob⟩:=h
  exact hq _ H' r'.same r'.lents ⟨a,rfl,r.fresh0 hn,u6 (A1 fun b z=>z.imp (fun z=>r.a0 z) id) rfl ob⟩
 | r i=>
  rw [retW] at e
  have h:σ[i]? =some (some v):=h
  split at e
  ·rename_i d q
   cases e
   obtain ⟨a,h1,h2⟩:=r'.obj q rfl
   rw [h] at h1;cases h1
   refine hq _ H' r'.same r'.lents ⟨a,rfl,r'.new i d a q h,u6 (A1 fun b z=>?_) rfl h2⟩
   rcases z with z | z
   ·exact r.a0 z
   ·rw [z];exact .inr ⟨i,_,d,q,rfl,h⟩
  ·rename_i d q
   cases e
   obtain ⟨u,q1,q2⟩:=r'.slot i _ q
   rw [h] at q1;cases q1
   exact hq v H' r'.same r'.lents (s0 (A1 fun b z=>r.a0 z) _ _ q2)
  ·cases e
 | l d=>cases e
end
section
variable {X:Cx}{a b c e:Expr}{es:List Expr}{st:Stmt}{rest bd els:List Stmt}{pos:Pos}{f g:FX}{t:FT}{fa:FA}{F G:FS}
theorem j7:QSs X [] (fun ρ=>some (.nx ρ)):=⟨PSs.weak b1l fun E σ H h0=>tSe h0 fun P O L ρ r rp e q=>by cases e;exact q σ H rp⟩
theorem b8 (h1:QS X st F)(h2:QSs X rest G):QSs X (st :: rest) (fThen F G):=⟨PSs.weak (b0J h1.to h2.to) fun E σ H h0=>tSe h0 fun P O L ρ r rp e q=>by
 unfold fThen at e
 obtain ⟨r1,e1,e⟩:=obs e
 refine ⟨P,O,L,ρ,r1,rp,e1,?_⟩
 cases r1 with
 | nx ρ'=>exact fun σ' H' rp'=>⟨P,O,L,ρ',r,rp',e,q⟩
 | bk ρ'=>cases e;exact q
 | ct ρ'=>cases e;exact q
 | rt d ρ'=>cases e;exact q⟩
theorem b9 (h1:QS X st F):QSs X [st] F:=⟨b1p h1.to⟩
theorem a99:QS X st (fun _=>none):=⟨PS.weak a9T fun E σ H h0=>tSe h0 fun P O L ρ r rp e q=>by cases e⟩
theorem a5u {e c:Option Expr}:QS X (.Raise e c pos) (fun _=>none):=a99
def fRet (f:FX):FS:=fun ρ=>(f ρ).bind fun p=>retW p.2 p.1
theorem g8 (ha:QX X e f):QS X (.Return (some e) pos) (fRet f):=⟨PS.weak (b3h ha.to) fun E σ H h0=>tSe h0 fun P O L ρ r rp e q=>by
 unfold fRet at e
 obtain ⟨⟨w,ρ1⟩,e1,e⟩:=obs e
 exact ⟨P,O,L,ρ,w,ρ1,rp,e1,fun v H1 H' r1 s1 d1=>b3v r1 s1 d1 e q⟩⟩
def fIfS (t:FT) (F G:FS):FS:=fun ρ=>(t ρ).bind fun p=>if p.1=true then F p.2 else G p.2
theorem o9 (hc:QT X c t)(ha:QSs X bd F)(hb:QSs X els G):QS X (.If c bd els pos) (fIfS t F G):=⟨PS.weak (ps_if hc.to ha.to hb.to) fun E σ H h0=>tSe h0 fun P O L ρ r rp e q=>by
 unfold fIfS at e
 obtain ⟨⟨k,ρ1⟩,e1,e⟩:=obs e
 dsimp only at e
 refine ⟨P,O,L,ρ,k,ρ1,rp,e1,fun H1 r1=>?_⟩
 cases k with
 | true=>rw [if_pos rfl] at e ⊢;exact ⟨P,O,L,ρ1,r,r1,e,q⟩
 | false=>rw [if_neg Bool.false_ne_true] at e ⊢;exact ⟨P,O,L,ρ1,r,r1,e,q⟩⟩
def fAsg (i:Nat) (f:FX):FS:=fun ρ=>(f ρ).bind fun p=>(bindW p.2 i p.1).map .nx
theorem j0 (i:Nat){x:Str}{pos':Pos}(hN:X.N.Nodup)(ha:QX X e f)(hi:X.N[i]? =some x:=by rfl)(hx:Loc X.env.scope x:=by first | exact Or.inl rfl | exact Or.inr rfl)(hs:swapsWith e (some (.Name x pos')) pos.line X.env=pure false:=by rfl)(hf:X.fn x=true\/X.env.scope.names.lookup x=some .local:=by first | exact .inl rfl | exact .inr rfl):
  QS X (.Assign [.Name x pos'] e pos) (fAsg i f):=⟨PS.weak (b24 hN hi hx ha.to hs hf) fun E σ H h0=>tSe h0 fun P O L ρ r rp e q=>by
 unfold fAsg at e
 obtain ⟨⟨w,ρ1⟩,e1,e⟩:=obs e
 dsimp only at e
 obtain ⟨ρ2,e2,e⟩:=oms e
 cases e
 exact ⟨P,O,L,ρ,w,ρ1,rp,e1,fun v H1 H' r1 s1 d1=>q _ H' (a7j r1 s1 d1 e2)⟩⟩
abbrev FG:=D->Ev->Option Ev
def GOk (X:Cx) (g:TG) (gf:FG):Prop:=∀(P:List (D×V)) (O:Av) (L:List (Nat×Addr)) (d:D) (v:V) (ρ ρ':Ev) (σ:L2.St) (H:Hp) (Q:L2.St->Hp->Prop),Rep X P O L ρ σ H->Den X.K (AvO O ρ σ) H d v->gf d ρ=some ρ'->(∀σ' H',Rep X P O L ρ' σ' H'->Q σ' H')->g v σ H Q
structure QG (X:Cx) (tg:Expr) (gf:FG):Prop where
 to:∃g,PG X tg g/\GOk X g gf
abbrev FGs:=List D->Ev->Option Ev
structure QGs (X:Cx) (tgs:List Expr) (n:Nat) (gf:FGs):Prop where
 to:∃g,PGs X tgs g/\∀(P:List (D×V)) (O:Av) (L:List (Nat×Addr)) (ds:List D) (vs:List V) (ρ ρ':Ev) (σ:L2.St) (H:Hp) (Q:L2.St->Hp->Prop),Rep X P O L ρ σ H->DenL X.K (AvO O ρ σ) H ds vs->gf ds ρ=some ρ'->(∀σ' H',Rep X P O L ρ' σ' H'->Q σ' H')->g vs σ H Q
 len:∀ds ρ ρ',gf ds ρ=some ρ'->ds.length=n
def gfName (i:Nat):FG:=fun d ρ=>if freeSlot ρ i=true then some (ρ.set i (some (.v d))) else none
theorem g9 (i:Nat){x:Str}(hN:X.N.Nodup)(hi:X.N[i]? =some x:=by rfl)(hx:Loc X.env.scope x:=by first | exact Or.inl rfl | exact Or.inr rfl)(hf:X.fn x=true\/X.env.scope.names.lookup x=some .local:=by first | exact .inl rfl | exact .inr rfl):QG X (.Name x pos) (gfName i):=
 ⟨gName i,a7k hN hi hx hf,fun P O L d v ρ ρ' σ H Q r h e q=>by
  unfold gfName at e
  split at e
  ·rename_i hf;cases e;exact q _ H (r.put hf h)
  ·cases e⟩
def gfNil:FGs:=fun ds ρ=>match ds with
 | []=>some ρ
 | _=>none
def gfCons (gf:FG) (gs:FGs):FGs:=fun ds ρ=>match ds with
 | d :: ds=>(gf d ρ).bind (gs ds)
 | _=>none
def gfTup (gs:FGs):FG:=fun d ρ=>match d with
 | .tup ds=>gs ds ρ
 | _=>none
theorem M4:QGs X [] 0 gfNil:=⟨⟨gNil,b1c,fun P O L ds vs ρ ρ' σ H Q r l e q=>by
 cases ds with
 | nil=>cases e;rw [DenL] at l;exact ⟨l,q σ H r⟩
 | cons d ds=>cases e⟩,fun ds ρ ρ' e=>by cases ds with | nil=>rfl | cons d ds=>cases e⟩
theorem holdL {P:List (D×V)}{O:Av}{L:List (Nat×Addr)}{σ:L2.St}:∀{ds:List D} {vs:List V} {ρ:Ev} {H:Hp},Rep X P O L ρ σ H->DenL X.K (AvO O ρ σ) H ds vs->∃P',Rep X P' O L ρ σ H/\∀ρ2 σ2 H2,Rep X P' O L ρ2 σ2 H2->Rep X P O L ρ2 σ2 H2/\DenL X.K (AvO O ρ2 σ2) H2 ds vs
 | [],vs,ρ,H,r,l=>⟨P,r,fun ρ2 σ2 H2 r2=>⟨r2,by rw [DenL] at l ⊢;exact l⟩⟩
 | d :: ds,vs,ρ,H,r,l=>by
  rw [DenL] at l
  obtain ⟨v,rs,rfl,h,l⟩:=l
  obtain ⟨P',r1,k1⟩:=holdL r l
  exact ⟨(d,v) :: P',r1.more h,fun ρ2 σ2 H2 r2=>by
   obtain ⟨r3,l3⟩:=k1 ρ2 σ2 H2 r2.less
   exact ⟨r3,j8 r2.head l3⟩⟩
theorem l7 {n:Nat}{tgs:List Expr}{tg:Expr}{gf:FG}{gs:FGs}(h:QG X tg gf)(t:QGs X tgs n gs)(hs:(assignEach (tg :: tgs) X.env).map (·.2)=assign tg X.env :: (assignEach tgs X.env).map (·.2):=by rfl):QGs X (tg :: tgs) (n + 1) (gfCons gf gs):=by
 obtain ⟨g,p,k⟩:=h.to
 obtain ⟨gg,pp,kk⟩:=t.to
 refine ⟨⟨gCons g gg,a9o p pp hs,fun P O L ds vs ρ ρ' σ H Q r l e q=>?_⟩,fun ds ρ ρ' e=>?_⟩
 ·cases ds with
  | nil=>cases e
  | cons d ds=>
   rw [DenL] at l
   obtain ⟨v,rs,rfl,hd,l⟩:=l
   simp only [gfCons] at e
   obtain ⟨ρ1,e1,e⟩:=obs e
   obtain ⟨P',r1,k1⟩:=holdL r l
   refine ⟨v,rs,rfl,k P' O L d v ρ ρ1 σ H _ r1 hd e1 fun σ' H' r2=>?_⟩
   obtain ⟨r3,l3⟩:=k1 _ _ _ r2
   exact kk P O L ds rs ρ1 ρ' σ' H' Q r3 l3 e q
 ·cases ds with
  | nil=>cases e
  | cons d ds=>
   simp only [gfCons] at e
   cases e1:gf d ρ with
   | none=>rw [e1] at e;cases e
   | some ρ1=>rw [e1] at e;rw [List.length_cons,t.len ds ρ1 ρ' e]
theorem R5 {tgs:List Expr}{n k:Nat}{gs:FGs}(hc:X.calm=true)(h:QGs X tgs n gs)(hn:(assignEach tgs X.env).length=n:=by rfl)(hst:(assignEach tgs X.env).findIdx? (·.1)=none:=by rfl):QG X (.Tuple tgs k pos) (gfTup gs):=by
 obtain ⟨gg,pp,kk⟩:=h.to
 refine ⟨gTup X.K n gg,b3F hc pp hn hst,fun P O L d v ρ ρ' σ H Q r hd e q=>?_⟩
 cases d with
 | tup ds=>
  rw [Den] at hd
  obtain ⟨a,vs,ev,hq,l⟩:=hd
  exact ⟨a,vs,ev,hq,by rw [<-c7 l];exact h.len ds ρ ρ' e,kk P O L ds vs ρ ρ' σ H Q r l e q⟩
 | _=>cases e
def gfSub (f g:FX):FG:=fun d ρ=>(f ρ).bind fun p=>match p.1 with
 | .r j=>(g p.2).bind fun q=>(dr q.2 q.1.fz).bind fun k=>match k,ownAt q.2 j with
  | .int k,some (.lst xs)=>(ixN xs.length k).map fun n=>setOwn q.2 j (.lst (xs.set n d))
  | _,_=>none
 | _=>none
theorem W1 (ha:QX X a f)(hb:QX X b g)(hs:∀v,assign (.Subscript a b pos) X.env v=(do
   let ov <-holding [v] (eval a X.env)
   let iv <-holding [v,ov] (eval b X.env)
   standAt pos
   holding [v,ov,iv] (setItem ov iv v)
   release [v,ov,iv] []):=by intro _;rfl):QG X (.Subscript a b pos) (gfSub f g):=by
 refine ⟨_,b4o ha.to hb.to b0D hs,fun P O L d v ρ ρ' σ H Q r hd e q=>?_⟩
 unfold gfSub at e
 obtain ⟨⟨w1,ρ1⟩,e1,e⟩:=obs e
 dsimp only at e
 split at e
 ·rename_i w1 j
  obtain ⟨⟨w2,ρ2⟩,e2,e⟩:=obs e
  dsimp only at e
  cases e3:dr ρ2 w2.fz with
  | none=>rw [e3] at e;cases e
  | some k=>
   rw [e3] at e
   simp only [Option.bind_some] at e
   split at e
   ·rename_i _ _ i xs e4
    obtain ⟨n,e5,e⟩:=oms e
    cases e
    have r0:Rep X ((d,v) :: P) O L ρ σ H:=r.more hd
    refine ⟨(d,v) :: P,O,L,ρ,_,ρ1,r0,e1,fun o H1 H1' r1 s1 d1=>?_⟩
    have d1:σ[j]? =some (some o):=d1
    refine ⟨(d,v) :: P,O,L,ρ1,w2,ρ2,r1.grow s1,e2,fun u H2 H2' r2 s2 d2=>?_⟩
    have r3:=r2.grow s2
    have ki:=k7 (S9 r3 e3 (d2.fz r2 s2))
    obtain ⟨w0,q0,ow⟩:=t3 e4
    obtain ⟨pa,h1,vs,h2,l⟩:=r3.obj q0 ow
    rw [d1] at h1;cases h1
    have av:∀b,AvO O (setOwn ρ2 j (.lst (xs.set n d))) σ b->AvO O ρ2 σ b:=fun b z=>z.imp id fun z=>(a0G e4 b).mp z
    refine ⟨pa,vs,i,n,rfl,ki,h2,by rw [<-c7 l];exact e5,q σ _ ((r3.less).mut e4 d1 (fun b o eb nb=>by rw [g7 nb];exact eb) ⟨_,m5,?_⟩)⟩
    have g0:Go (AvO O ρ2 σ) (AvO O ρ2 σ) (fun b=>b=pa) H2' (upd H2' pa (.lst (vs.set n v))):=⟨fun b o eb nb=>by rw [g7 nb];exact eb,fun b z=>by rw [z];exact ⟨.inr ⟨j,w0,_,q0,ow,d1⟩,_,h2,trivial⟩,fun b z=>.inl z⟩
    exact u9 g0 _ _ (a6b r3.head n l)
   ·cases e
 ·cases e
def fAsgG (f:FX) (gf:FG):FS:=fun ρ=>(f ρ).bind fun p=>(takeAll p.2 [p.1.fz]).bind fun q=>match q.1 with
 | [d]=>(gf d q.2).map .nx
 | _=>none
theorem F9 {tg:Expr}{gf:FG}(ha:QX X e f)(hg:QG X tg gf)(hs:swapsWithSole [tg] e pos.line X.env=pure false:=by rfl)(hw:swappedStores [tg] e X.env=pure none:=by rfl)(h1:(assignEach [tg] X.env).map (·.2)=[assign tg X.env]:=by rfl):QS X (.Assign [tg] e pos) (fAsgG f gf):=by
 obtain ⟨g,p,k⟩:=hg.to
 refine ⟨PS.weak (b4k ha.to p hs hw h1) fun E σ H h0=>tSe h0 fun P O L ρ r rp e q=>?_⟩
 unfold fAsgG at e
 obtain ⟨⟨w,ρ1⟩,e1,e⟩:=obs e
 dsimp only at e
 obtain ⟨⟨ds,ρ2⟩,e2,e⟩:=obs e
 dsimp only at e
 split at e
 ·rename_i d
  obtain ⟨ρ3,e3,e⟩:=oms e
  cases e
  refine ⟨P,O,L,ρ,w,ρ1,rp,e1,fun v H1 H' r1 s1 d1=>?_⟩
  obtain ⟨r2,l2,_⟩:=o8 (vs:=[v]) (r1.grow s1) e2 ⟨v,[],rfl,d1.fz r1 s1,rfl⟩
  obtain ⟨v',ev,h'⟩:=denL1 l2
  cases ev
  exact k P O L d v ρ2 ρ3 σ H' _ r2 h' e3 fun σ' H' r'=>q σ' H' r'
 ·cases e
def fDrop (f:FX):FS:=fun ρ=>(f ρ).map fun p=>.nx p.2
theorem Q6 (ha:QX X e f)(hs:swapsWith e none pos.line X.env=pure false:=by rfl):QS X (.Expr e pos) (fDrop f):=⟨PS.weak (b2b ha.to hs) fun E σ H h0=>tSe h0 fun P O L ρ r rp e q=>by
 unfold fDrop at e
 obtain ⟨p,e1,e⟩:=oms e
 cases e
 exact ⟨P,O,L,ρ,p.1,p.2,rp,e1,fun v H1 H' r1 s1 d1=>q σ H' (r1.grow s1)⟩⟩
def fPar (i j:Nat) (fa:FA):FS:=fun ρ=>(fa ρ).bind fun p=>(takeAll p.2 p.1).bind fun q=>match q.1 with
 | [d,d']=>if freeSlot q.2 i=true/\freeSlot (q.2.set i (some (.v d))) j=true then some (.nx ((q.2.set i (some (.v d))).set j (some (.v d')))) else none
 | _=>none
theorem a6w (i j:Nat){x y:Str}{px py pt:Pos}{kt k2 pt2}(hc:X.calm=true)(hN:X.N.Nodup)(ha:QA X [a,b] fa)(hw:swappedStores [.Tuple [.Name x px,.Name y py] kt pt] (.Tuple [a,b] k2 pt2) X.env=pure (some [x,y]))(hi:X.N[i]? =some x:=by rfl)(hj:X.N[j]? =some y:=by rfl)(hij:i≠j:=by decide)
  (hx:X.env.scope.names.lookup x=some .local:=by rfl) (hy:X.env.scope.names.lookup y=some .local:=by rfl)
  (hs:swapsWithSole [.Tuple [.Name x px,.Name y py] kt pt] (.Tuple [a,b] k2 pt2) pos.line X.env=pure false:=by rfl):
  QS X (.Assign [.Tuple [.Name x px,.Name y py] kt pt] (.Tuple [a,b] k2 pt2) pos) (fPar i j fa):=⟨PS.weak (b4c hc hN hi hj hij hx hy ha.to hw hs) fun E σ H h0=>tSe h0 fun P O L ρ r rp e q=>by
 unfold fPar at e
 obtain ⟨⟨ws,ρ1⟩,e1,e⟩:=obs e
 dsimp only at e
 obtain ⟨⟨ds,ρ2⟩,e2,e⟩:=obs e
 dsimp only at e
 split at e
 ·rename_i d d'
  split at e
  ·rename_i hf
   cases e
   refine ⟨P,O,L,ρ,ws,ρ1,rp,e1,fun vs H1 r1 l1=>?_⟩
   obtain ⟨r2,l2,_⟩:=o8 r1 e2 l1
   obtain ⟨v,v',rfl,h,h'⟩:=denL2 l2
   have r3:=(r2.more (p:=(d',v')) h').put (i:=i) hf.1 h
   exact ⟨v,v',rfl,q _ H1 (r3.less.put (i:=j) hf.2 r3.head)⟩
  ·cases e
 ·cases e⟩
end
def whileF (c:FT) (b:FS):Nat->Ev->Option R
 | 0,_=>none
 | n + 1,ρ=>(c ρ).bind fun k=>if k.1=true then (b k.2).bind (fun r=>match r with
   | .nx ρ'=>whileF c b n ρ'
   | .ct ρ'=>whileF c b n ρ'
   | .bk ρ'=>some (.nx ρ')
   | .rt d ρ'=>some (.rt d ρ')) else some (.nx k.2)
theorem Z3 {c:FT}{b:FS}:∀{n:Nat} {ρ:Ev} {r:R},whileF c b n ρ=some r->whileF c b (n + 1) ρ=some r
 | 0,ρ,r,h=>by cases h
 | n + 1,ρ,r,h=>by
  rw [whileF] at h ⊢
  cases e:c ρ with
  | none=>rw [e] at h;cases h
  | some k=>
   rw [e] at h
   obtain ⟨k,ρ1⟩:=k
   cases k with
   | false=>exact h
   | true=>
    simp only [Option.bind_some,if_true] at h ⊢
    cases e2:b ρ1 with
    | none=>rw [e2] at h;cases h
    | some r2=>
     rw [e2] at h
     cases r2 with
     | nx ρ'=>exact Z3 (n:=n) h
     | ct ρ'=>exact Z3 (n:=n) h
     | bk ρ'=>exact h
     | rt d ρ'=>exact h
theorem a3N {c:FT}{b:FS}{n m:Nat}{ρ:Ev}{r:R}(h:whileF c b n ρ=some r)(hm:n<=m):whileF c b m ρ=some r:=by
 induction hm with
 | refl=>exact h
 | step _ ih=>exact Z3 ih
open Classical in
def whileV (c:FT) (b:FS):FS:=fun ρ=>if h:∃r,∃n,whileF c b n ρ=some r then some h.choose else none
theorem a8a {c:FT}{b:FS}{n:Nat}{ρ:Ev}{r:R}(h:whileF c b n ρ=some r):whileV c b ρ=some r:=by
 have z:∃r,∃n,whileF c b n ρ=some r:=⟨r,n,h⟩
 unfold whileV
 rw [dif_pos z]
 obtain ⟨m,hm⟩:=z.choose_spec
 have h1:=a3N h (Nat.le_max_left n m)
 have h2:=a3N hm (Nat.le_max_right n m)
 rw [h1] at h2
 exact h2.symm
theorem a8N {c:FT}{b:FS}{ρ:Ev}{r:R}(h:whileV c b ρ=some r):∃n,whileF c b n ρ=some r:=by
 unfold whileV at h
 split at h
 ·rename_i z
  cases h
  exact z.choose_spec
 ·cases h
section
variable {X:Cx}{a b c e:Expr}{es:List Expr}{st:Stmt}{rest bd els body:List Stmt}{pos:Pos}{f g:FX}{t:FT}{fa:FA}{F G:FS}
theorem a6l (hp:PassesOwn (model X.prog X.w) X.A X.env X.xe)(hc:QT X c t)(hb:QSs X body F):QS X (.While c body [] pos) (whileV t F):=⟨PS.weak (a9n hp hc.to hb.to) fun E σ H h0=>tSe h0 fun P O L ρ r rp e q=>by
 obtain ⟨n,e⟩:=a8N e
 refine ⟨fun m σ H=>∃ρ,Rep X P O L ρ σ H/\whileF t F m ρ=some r,⟨n,ρ,rp,e⟩,fun m σ H ⟨ρ,rp,e⟩=>?_⟩
 cases m with
 | zero=>cases e
 | succ m=>
  rw [whileF] at e
  obtain ⟨⟨k,ρ1⟩,e1,e⟩:=obs e
  refine ⟨P,O,L,ρ,k,ρ1,rp,e1,fun H1 r1=>?_⟩
  cases k with
  | false=>
   rw [if_neg Bool.false_ne_true]
   cases e
   exact q σ H1 r1
  | true=>
   rw [if_pos rfl]
   simp only [Option.bind_some,if_true] at e
   obtain ⟨r2,e2,e⟩:=obs e
   refine ⟨fun σ' H'=>∃ρ,Rep X P O L ρ σ' H'/\whileF t F m ρ=some r,fun σ' H' h=>⟨m,Nat.lt_succ_self m,h⟩,P,O,L,ρ1,r2,r1,e2,?_⟩
   cases r2 with
   | nx ρ'=>exact fun σ' H' rp'=>⟨ρ',rp',e⟩
   | ct ρ'=>exact fun σ' H' rp'=>⟨ρ',rp',e⟩
   | bk ρ'=>cases e;exact fun σ' H' rp'=>q σ' H' rp'
   | rt d ρ'=>cases e;exact q⟩
abbrev FI:=Ev->Option (List D×Ev)
def Wks (K:PySem.W.Frag) (P:List (D×V)) (xs:List D) (J:It):Prop:=∀(Y:Cx) (O:Av) (L:List (Nat×Addr)) (ρ:Ev) (σ:L2.St) (H:Hp),Y.K=K->Rep Y P O L ρ σ H->
 (∀(i:Nat) (x:D),xs[i]? =some x->J.go i H/\∀v H',J.yld i H v H'->Same H H'/\Den K (AvO O ρ σ) H' x v)/\J.stop xs.length H
def Holds (P P':List (D×V)):Prop:=∀p∈P',p∈P
theorem Rep.holds {P P':List (D×V)}{O:Av}{L:List (Nat×Addr)}{ρ:Ev}{σ:L2.St}{H:Hp}(r:Rep X P O L ρ σ H)(h:Holds P P'):Rep X P' O L ρ σ H:=⟨r.same,r.amb,r.len,r.slot,r.inj,r.new,r.lnt,r.lnd,fun p hp=>r.prot p (h p hp)⟩
def tI (X:Cx) (fi:FI):TI:=fun σ H R=>∃P O L ρ xs ρ',Rep X P O L ρ σ H/\fi ρ=some (xs,ρ')/\∀J H1 P',Rep X P' O L ρ' σ H1->Holds P' P->Wks X.K P' xs J->R J H1
theorem tIe {X:Cx}{fi:FI}{σ:L2.St}{H:Hp}{R:It->Hp->Prop}{C:Prop}(h:tI X fi σ H R)(k:∀P O L ρ xs ρ',Rep X P O L ρ σ H->fi ρ=some (xs,ρ')->(∀J H1 P',Rep X P' O L ρ' σ H1->Holds P' P->Wks X.K P' xs J->R J H1)->C):C:=by
 obtain ⟨P,O,L,ρ,w,ρ',r,e,q⟩:=h
 exact k P O L ρ w ρ' r e q
structure QI (X:Cx) (tg iter:Expr) (fi:FI):Prop where
 to:PI X tg iter (tI X fi)
theorem PI.weak {tg e:Expr}{t u:TI}(h:PI X tg e t)(w:∀σ H Q,u σ H Q->t σ H Q):PI X tg e u:=fun pins s σ H Q I q=>h pins s σ H Q I (w σ H Q q)
def iSeq (K:PySem.W.Frag) (tl:TE):TI:=fun σ H R=>tl σ H fun x H1=>(∃a,x= .ref a/\(∃xs,SqL K H1 a xs)/\R (Itl K a) H1)\/∃a,x= .ref a/\(∃xs,SqT K H1 a xs)/\R (Itt K a) H1
theorem b0K {tg l:Expr}{tl:TE}(hl:PE X l tl):PI X tg l (iSeq X.K tl):=by
 intro pins s σ H R I h
 refine thn (hl pins s σ H _ I h) fun v s1 ⟨x,H1,I1,r1,q1⟩=>?_
 rcases q1 with ⟨a,e,⟨xs,hq⟩,q⟩ | ⟨a,e,⟨xs,hq⟩,q⟩
 ·subst e
  cases r1
  obtain ⟨its,rv,p,hz⟩:=I1.list hq
  refine wpAny_pyIter_list p.isList ?_
  refine ⟨s1.heap.objs.size,[s1.heap.objs.size],_,_,H1,rfl,I1.kept (t':=s1.toks) fun b o e=>Heap.get?_push_of_some _ e,a78 a _,⟨_,Heap.get?_push_size _ rfl,rfl,rfl⟩,fun b hb=>?_,q⟩
  have e:b=s1.heap.objs.size:=by simpa using hb
  subst e
  exact I1.fpOk (Nat.le_refl _) (I1.hok.fresh (Nat.le_refl _))
 ·subst e
  cases r1
  obtain ⟨its,rv,p,hz⟩:=I1.tuple hq
  refine wpAny_pyIter_tuple (show s1.heap.IsTuple a its.toArray from p) ?_
  refine ⟨s1.heap.objs.size,[s1.heap.objs.size],_,_,H1,rfl,I1.kept (t':=s1.toks) fun b o e=>Heap.get?_push_of_some _ e,a7b a _,⟨_,Heap.get?_push_size _ rfl,rfl,rfl⟩,fun b hb=>?_,q⟩
  have e:b=s1.heap.objs.size:=by simpa using hb
  subst e
  exact I1.fpOk (Nat.le_refl _) (I1.hok.fresh (Nat.le_refl _))
def fiSeq (f:FX):FI:=fun ρ=>(f ρ).bind fun p=>(takeAll p.2 [p.1.fz]).bind fun q=>match q.1 with
 | [d]=>(items d).map fun xs=>(xs,q.2)
 | _=>none
theorem O1 {tg l:Expr}(hl:QX X l f):QI X tg l (fiSeq f):=⟨PI.weak (b0K hl.to) fun σ H R h0=>tIe h0 fun P O L ρ xs ρ' r e q=>by
 unfold fiSeq at e
 obtain ⟨⟨w,ρ1⟩,e1,e⟩:=obs e
 dsimp only at e
 obtain ⟨⟨ds,ρ2⟩,e2,e⟩:=obs e
 dsimp only at e
 split at e
 ·rename_i d
  obtain ⟨ys,e3,e⟩:=oms e
  cases e
  refine ⟨P,O,L,ρ,w,ρ1,r,e1,fun v H1 H' r1 s1 d1=>?_⟩
  obtain ⟨r2,l2,_⟩:=o8 (vs:=[v]) (r1.grow s1) e2 ⟨v,[],rfl,d1.fz r1 s1,rfl⟩
  obtain ⟨v',ev,h'⟩:=denL1 l2
  cases ev
  have r3:=r2.more (p:=(d,v)) h'
  have hh:Holds ((d,v) :: P) P:=fun p hp=>List.mem_cons_of_mem _ hp
  cases d with
  | tup zs=>
   cases e3
   have z:=h'
   rw [Den] at z
   obtain ⟨a,vs,rfl,hq,l⟩:=z
   refine .inr ⟨a,rfl,⟨vs,hq⟩,q _ H' _ r3 hh fun Y O' L' ρ' σ' Hh hY rr=>?_⟩
   have z:=rr.head
   rw [hY] at z
   rw [Den] at z
   obtain ⟨a',vs,ea,hq,l⟩:=z
   cases ea
   refine ⟨fun i x ex=>?_,vs,hq,by rw [<-c7 l];exact Nat.le_refl _⟩
   obtain ⟨v0,hv,dv⟩:=w9 l ex
   exact ⟨⟨vs,v0,hq,hv⟩,fun w H' ⟨y1,y2⟩=>by subst y1;have:=y2 vs hq;rw [hv] at this;cases this;exact ⟨Same.refl _,dv⟩⟩
  | lst zs=>
   cases e3
   obtain ⟨a,vs,rfl,hq,l⟩:=M6 h'
   refine .inl ⟨a,rfl,⟨vs,hq⟩,q _ H' _ r3 hh fun Y O' L' ρ' σ' Hh hY rr=>?_⟩
   have z:=rr.head
   rw [hY] at z
   obtain ⟨a',vs,ea,hq,l⟩:=M6 z
   cases ea
   refine ⟨fun i x ex=>?_,vs,hq,by rw [<-c7 l];exact Nat.le_refl _⟩
   obtain ⟨v0,hv,dv⟩:=w9 l ex
   exact ⟨⟨vs,v0,hq,hv⟩,fun w H' ⟨y1,y2⟩=>by subst y1;have:=y2 vs hq;rw [hv] at this;cases this;exact ⟨Same.refl _,dv⟩⟩
  | _=>cases e3
 ·cases e⟩
def rngD (lo:Int) (n:Nat):List D:=(List.range n).map fun (i:Nat)=>D.int (lo + i)
theorem a4h {K:PySem.W.Frag}{P:List (D×V)}(lo:Int)(n:Nat):Wks K P (rngD lo n) (Itr lo n):=fun Y O L ρ σ H _ _=>by
 unfold rngD
 refine ⟨fun i x ex=>?_,by show (List.length _)≥n;simp⟩
 rw [List.getElem?_map] at ex
 by_cases hi:i < n
 ·rw [List.getElem?_range hi] at ex
  cases ex
  exact ⟨hi,fun v H' ⟨y1,y2⟩=>by subst y1;exact ⟨Same.refl _,F5.mpr y2⟩⟩
 ·rw [List.getElem?_eq_none (by simpa using hi)] at ex;cases ex
def fiR1 (fa:FA):FI:=fun ρ=>(fa ρ).bind fun p=>match p.1 with
 | [.v (.int n)]=>if -(2 ^ 62)<=n/\n < 2 ^ 62 then some (rngD 0 n.toNat,p.2) else none
 | _=>none
theorem a3k {tg:Expr}{p:Pos}(hm:X.mg "range"=none)(ha:QA X [a] fa)(hg:Gl X "range":=by rfl)(hs:starEach [a] X.env=[(false,eval a X.env)]:=by rfl):QI X tg (.Call (.Name "range" p) [a] [] pos) (fiR1 fa):=⟨PI.weak (a7V hg hm ha.to hs) fun σ H R h0=>tIe h0 fun P O L ρ xs ρ' r e q=>by
 unfold fiR1 at e
 obtain ⟨⟨ws,ρ1⟩,e1,e⟩:=obs e
 dsimp only at e
 split at e
 ·rename_i n
  split at e
  ·rename_i hn
   cases e
   refine ⟨P,O,L,ρ,_,_,r,e1,fun vs H1 r1 l1=>?_⟩
   obtain ⟨v,rs,rfl,h1,l1⟩:=l1
   have l1:rs=[]:=l1
   have h1:Den X.K (AvO O ρ' σ) H1 (.int n) v:=h1
   subst l1
   exact ⟨n,by rw [F5.mp h1],hn.1,hn.2,q _ H1 P r1 (fun p hp=>hp) (a4h 0 _)⟩
  ·cases e
 ·cases e⟩
def fiR2 (fa:FA):FI:=fun ρ=>(fa ρ).bind fun p=>match p.1 with
 | [.v (.int m),.v (.int n)]=>if (-(2 ^ 62)<=m/\m < 2 ^ 62)/\-(2 ^ 62)<=n/\n < 2 ^ 62 then some (rngD m (n - m).toNat,p.2) else none
 | _=>none
theorem b2r {tg:Expr}{p:Pos}(hm:X.mg "range"=none)(ha:QA X [a,b] fa)(hg:Gl X "range":=by rfl)(hs:starEach [a,b] X.env=[(false,eval a X.env),(false,eval b X.env)]:=by rfl)(hs2:starEach [b] X.env=[(false,eval b X.env)]:=by rfl):QI X tg (.Call (.Name "range" p) [a,b] [] pos) (fiR2 fa):=⟨PI.weak (a8E hg hm ha.to hs hs2) fun σ H R h0=>tIe h0 fun P O L ρ xs ρ' r e q=>by
 unfold fiR2 at e
 obtain ⟨⟨ws,ρ1⟩,e1,e⟩:=obs e
 dsimp only at e
 split at e
 ·rename_i m n
  split at e
  ·rename_i hn
   cases e
   refine ⟨P,O,L,ρ,_,_,r,e1,fun vs H1 r1 l1=>?_⟩
   obtain ⟨v,rs,rfl,h1,u,rs',rfl,h2,l1⟩:=l1
   have l1:rs'=[]:=l1
   have h1:Den X.K (AvO O ρ' σ) H1 (.int m) v:=h1
   have h2:Den X.K (AvO O ρ' σ) H1 (.int n) u:=h2
   subst l1
   exact ⟨m,n,by rw [F5.mp h1,F5.mp h2],⟨hn.1.1,hn.1.2,hn.2.1,hn.2.2⟩,q _ H1 P r1 (fun p hp=>hp) (a4h m _)⟩
  ·cases e
 ·cases e⟩
def loopF (b:D->FS):List D->Ev->Option R
 | [],ρ=>some (.nx ρ)
 | x :: xs,ρ=>(b x ρ).bind fun r=>match r with
  | .nx ρ'=>loopF b xs ρ'
  | .ct ρ'=>loopF b xs ρ'
  | .bk ρ'=>some (.nx ρ')
  | .rt d ρ'=>some (.rt d ρ')
def turnF (gf:FG) (b:FS):D->FS:=fun x ρ=>(gf x ρ).bind b
def fFor (fi:FI) (gf:FG) (b:FS):FS:=fun ρ=>(fi ρ).bind fun p=>loopF (turnF gf b) p.1 p.2
theorem F6 {tg iter:Expr}{fi:FI}{gf:FG}(hp:PassesOwn (model X.prog X.w) X.A X.env X.xe)(hc:X.calm=true)(hi:QI X tg iter fi)(hg:QG X tg gf)(hb:QSs X body F)(hs:∀x,foldedSetIterable iter X.env x=pure x:=by intro _;rfl):
  QS X (.For tg iter body [] pos) (fFor fi gf F):=by
 obtain ⟨g,pg,kg⟩:=hg.to
 refine ⟨PS.weak (b2X hp hc hi.to pg hb.to hs) fun E σ H h0=>tSe h0 fun P O L ρ r rp e q=>?_⟩
 unfold fFor at e
 obtain ⟨⟨xs,ρ1⟩,e1,e⟩:=obs e
 dsimp only at e
 refine ⟨P,O,L,ρ,xs,ρ1,rp,e1,fun J H1 P' r1 hh wk=>?_⟩
 refine ⟨fun i m σ H=>m=xs.length - i/\i<=xs.length/\∃ρ,Rep X P' O L ρ σ H/\loopF (turnF gf F) (xs.drop i) ρ=some r,⟨xs.length,by simp,Nat.zero_le _,ρ1,r1,by simpa using e⟩,?_⟩
 rintro i m σ H ⟨rfl,hi,ρ,rp,e⟩
 obtain ⟨wi,ws⟩:=wk X O L ρ σ H rfl rp
 by_cases hlt:i < xs.length
 ·obtain ⟨go,yl⟩:=wi i xs[i] (by simp [hlt])
  refine .inr ⟨go,fun σ' H'=>∃ρ,Rep X P' O L ρ σ' H'/\loopF (turnF gf F) (xs.drop (i + 1)) ρ=some r,fun σ' H' h=>⟨xs.length - (i + 1),by omega,rfl,hlt,h⟩,fun v H' y=>?_⟩
  obtain ⟨sm,dv⟩:=yl v H' y
  rw [List.drop_eq_getElem_cons hlt,loopF] at e
  cases e1:turnF gf F xs[i] ρ with
  | none=>rw [e1] at e;cases e
  | some r1=>
   rw [e1] at e
   simp only [Option.bind_some] at e
   unfold turnF at e1
   obtain ⟨ρ1,e2,e1⟩:=obs e1
   refine kg P' O L xs[i] v ρ ρ1 σ _ _ (rp.grow sm) dv e2 fun σ' H2 rp'=>⟨P',O,L,ρ1,r1,rp',e1,?_⟩
   cases r1 with
   | nx ρ2=>exact fun σ2 H2 rp2=>⟨ρ2,rp2,e⟩
   | ct ρ2=>exact fun σ2 H2 rp2=>⟨ρ2,rp2,e⟩
   | bk ρ2=>cases e;exact fun σ2 H2 rp2=>q σ2 H2 (rp2.holds hh)
   | rt d ρ2=>cases e;exact q
 ·have ei:i=xs.length:=by omega
  subst ei
  rw [List.drop_length,loopF] at e
  cases e
  exact .inl ⟨ws,q σ H (rp.holds hh)⟩
end
def spF (K:PySem.W.Frag) (g:List D->Option W):Sp:=fun vs H Q _=>∃(A:Av) (ds:List D) (w:W),(∀b,A b->∃o,H b=some o)/\DenL K A H ds vs/\g ds=some w/\∀v H',Same H H'->DenW K A [] H H' w v->Q v H'
def spL (K:PySem.W.Frag) (g:D->List D->Option (W×D)):Sp:=fun vs H Q _=>∃(A:Av) (a:Addr) (c:D) (ds:List D) (us:List V) (w:W) (c':D),vs= .ref a :: us/\(∀b,A b->∃o,H b=some o)/\¬A a/\Obj K (fun b=>A b\/b=a) H a c/\DenL K (fun b=>A b\/b=a) H ds us/\g c ds=some (w,c')/\
 ∀v H',(∀b o,H b=some o->b≠a->H' b=some o)->Obj K (fun b=>A b\/b=a) H' a c'->DenW K (fun b=>A b\/b=a) [] H H' w v->Q v H'
structure FnS (P:Program) (w:World) (K:PySem.W.Frag) (mg:Str->Option Value) (base:Heap) (x:Str) (k:Nat) (sp:Sp):Prop where
 ex:∃(f:Addr) (fd:FuncData) (ps:List Str),FnOk P w K mg base CX0 k f fd ps sp/\Binds K fd ps []/\PySem.W.keepIn K (.ref f)=true/\mg x=some (.ref f)
abbrev Fn (P:Program) (w:World) (K:PySem.W.Frag) (mg:Str->Option Value) (base:Heap) (x:Str) (k:Nat) (g:List D->Option W):Prop:=FnS P w K mg base x k (spF K g)
abbrev FnL (P:Program) (w:World) (K:PySem.W.Frag) (mg:Str->Option Value) (base:Heap) (x:Str) (k:Nat) (g:D->List D->Option (W×D)):Prop:=FnS P w K mg base x k (spL K g)
section
variable {P:Program}{w:World}{K:PySem.W.Frag}{mg:Str->Option Value}{base:Heap}{x:Str}{j k:Nat}
theorem FnS.mono {sp:Sp}(F:FnS P w K mg base x j sp)(h:j<=k):FnS P w K mg base x k sp:=by
 obtain ⟨f,fd,ps,a,b,c,d⟩:=F.ex
 exact ⟨f,fd,ps,a.mono h,b,c,d⟩
end
def lfC:D->Bool
 | .lst xs=>lfL xs
 | .dT _ xs=>lfL xs
 | .dK _ xs=>lfL xs
 | _=>false
def lfW:W->Bool
 | .v d=>lf d
 | .o d=>lfC d
 | _=>false
def frzL:List W->Ev->Option Ev
 | [],ρ=>some ρ
 | .r i :: ws,ρ=>(frzAt ρ i).bind (frzL ws)
 | _ :: ws,ρ=>frzL ws ρ
def fDef (g:List D->Option W) (fa:FA):FX:=fun ρ=>(fa ρ).bind fun p=>(drs p.2 p.1).bind fun ds=>(g ds).bind fun w=>if lfW w=true then some (w,p.2) else (frzL p.1 p.2).map fun ρ2=>(w,ρ2)
def noR (i:Nat):List W->Bool
 | []=>true
 | .r j :: ws=>i != j && noR i ws
 | _ :: ws=>noR i ws
def fDefL (g:D->List D->Option (W×D)) (fa:FA):FX:=fun ρ=>(fa ρ).bind fun p=>match p.1 with
 | .r i :: ws=>(ownAt p.2 i).bind fun c=>(drs p.2 ws).bind fun ds=>(g c ds).bind fun z=>if noR i ws=true/\lfC z.2=true then (if lfW z.1=true then some (z.1,setOwn p.2 i z.2) else (frzL ws (setOwn p.2 i z.2)).map fun ρ2=>(z.1,ρ2)) else none
 | _=>none
section
variable {K:PySem.W.Frag}{A A':Av}{H H' H0 H1:Hp}
theorem S2 (g:∀b o,H b=some o->¬Mu o->H' b=some o){a:Addr}{d:D}(f:lfC d=true)(hk:H' a=H a)(h:Obj K A H a d):Obj K A' H' a d:=by
 cases d with
 | lst xs=>obtain ⟨vs,e,l⟩:=h;exact ⟨vs,hk.trans e,a1x g _ _ f l⟩
 | dT ks xs=>obtain ⟨vs,e,hl,l⟩:=h;exact ⟨vs,hk.trans e,hl,a1x g _ _ f l⟩
 | dK ks xs=>obtain ⟨vs,e,hl,l⟩:=h;exact ⟨vs,hk.trans e,hl,a1x g _ _ f l⟩
 | _=>exact h.elim
end
section
variable {X:Cx}{P:List (D×V)}{O:Av}{L:List (Nat×Addr)}{ρ ρ':Ev}{σ:L2.St}{H H1 H':Hp}
theorem Q2:∀{ws:List W} {ρ ρ':Ev},Rep X P O L ρ σ H->frzL ws ρ=some ρ'->Rep X P O L ρ' σ H/\∀(j:Nat) (w:W) (d:D),ρ'[j]? =some (some w)->w.own=some d->ρ[j]? =some (some w)/\W.r j∉ws
 | [],ρ,ρ',r,e=>by cases e;exact ⟨r,fun j w d e1 _=>⟨e1,by simp⟩⟩
 | .r i :: ws,ρ,ρ',r,e=>by
  rw [frzL] at e
  obtain ⟨ρ1,e1,e⟩:=obs e
  obtain ⟨r1,k1⟩:=r.frz e1
  obtain ⟨r2,k2⟩:=Q2 r1 e
  refine ⟨r2,fun j w d e1 e2=>?_⟩
  obtain ⟨a1,a2⟩:=k2 j w d e1 e2
  obtain ⟨b1,b2⟩:=k1 j w d a1 e2
  exact ⟨b1,fun z=>(List.mem_cons.mp z).elim (fun z=>by cases z;exact b2 rfl) a2⟩
 | .v _ :: ws,ρ,ρ',r,e=>by
  obtain ⟨r2,k2⟩:=Q2 (ws:=ws) r e
  exact ⟨r2,fun j w d e1 e2=>⟨(k2 j w d e1 e2).1,fun z=>(List.mem_cons.mp z).elim (fun z=>by cases z) (k2 j w d e1 e2).2⟩⟩
 | .o _ :: ws,ρ,ρ',r,e=>by
  obtain ⟨r2,k2⟩:=Q2 (ws:=ws) r e
  exact ⟨r2,fun j w d e1 e2=>⟨(k2 j w d e1 e2).1,fun z=>(List.mem_cons.mp z).elim (fun z=>by cases z) (k2 j w d e1 e2).2⟩⟩
 | .l _ :: ws,ρ,ρ',r,e=>by
  obtain ⟨r2,k2⟩:=Q2 (ws:=ws) r e
  exact ⟨r2,fun j w d e1 e2=>⟨(k2 j w d e1 e2).1,fun z=>(List.mem_cons.mp z).elim (fun z=>by cases z) (k2 j w d e1 e2).2⟩⟩
def Handed (ρ:Ev) (σ:L2.St) (ws:List W) (b:Addr):Prop:=∃(i:Nat) (w:W) (d:D),W.r i∈ws/\ρ[i]? =some (some w)/\w.own=some d/\σ[i]? =some (some (V.ref b))
theorem a2o {B:Av}(r:Rep X P O L ρ σ H)(hB:∀b,B b->AvO O ρ σ b):∀{ws:List W} {ds:List D} {vs:List V},(∀b,B b->¬Handed ρ σ ws b)->drs ρ ws=some ds->DenA X.K (AvO O ρ σ) σ H ws vs->DenL X.K B H ds vs
 | [],ds,vs,n,e,h=>by cases e;have h:vs=[]:=h;subst h;exact j9
 | w :: ws,ds,vs,n,e,h=>by
  obtain ⟨v,rs,rfl,h1,h2⟩:=h
  rw [drs] at e
  cases e1:dr ρ w with
  | none=>rw [e1] at e;cases e
  | some d=>
   cases e2:drs ρ ws with
   | none=>rw [e1,e2] at e;cases e
   | some dd=>
    rw [e1,e2] at e;cases e
    refine j8 ?_ (a2o r hB (fun b z y=>n b z (let ⟨i,w,d,m,q⟩:=y;⟨i,w,d,List.mem_cons_of_mem _ m,q⟩)) e2 h2)
    cases w with
    | v c=>cases e1;exact s0 (A1 hB) _ _ h1
    | r i=>
     have h1:σ[i]? =some (some v):=h1
     rw [dr] at e1
     cases q:ρ[i]? with
     | none=>rw [q] at e1;cases e1
     | some o=>
      rw [q] at e1
      cases o with
      | none=>cases e1
      | some w'=>
       cases w' with
       | v c=>
        cases e1
        obtain ⟨u,q1,q2⟩:=r.slot i _ q
        rw [h1] at q1;cases q1
        exact s0 (A1 hB) _ _ q2
       | _=>
        obtain ⟨a,q1,q2⟩:=r.obj q e1
        rw [h1] at q1;cases q1
        exact X6 (u6 (A1 hB) rfl q2) fun z=>n a z ⟨i,_,d,List.mem_cons_self,q,e1,h1⟩
    | _=>cases e1
theorem X8 {ws:List W}(r:Rep X P O L ρ σ H)(k:∀(j:Nat) (w:W) (d:D),ρ'[j]? =some (some w)->w.own=some d->ρ[j]? =some (some w)/\W.r j∉ws){b:Addr}(z:AvO O ρ' σ b):AvO O ρ σ b/\¬Handed ρ σ ws b:=by
 refine ⟨z.imp id fun ⟨j,w,d,e1,e2,e3⟩=>⟨j,w,d,(k j w d e1 e2).1,e2,e3⟩,fun ⟨i,w,d,m,q1,q2,q3⟩=>?_⟩
 rcases z with z | ⟨j,w',d',e1,e2,e3⟩
 ·exact r.ambN z ⟨i,w,d,q1,q2,q3⟩
 ·obtain ⟨a1,a2⟩:=k j w' d' e1 e2
  have:=r.inj i j w w' d d' b q1 q2 q3 a1 e2 e3
  subst this;exact a2 m
end
section
variable {X:Cx}{e:Expr}{es:List Expr}{pos p:Pos}{fa:FA}{x:Str}{k:Nat}
theorem j6 {g:List D->Option W}(F:Fn X.prog X.w X.K X.mg X.base x k g)(hr:Room k X.A)(ha:QA X (e :: es) fa)(hg:Gl X x:=by rfl)(hdb:(x == ("__debug__":Str))=false:=by decide)
  (he:starEach (e :: es) X.env=(false,eval e X.env) :: starEach es X.env:=by rfl) (hpl:(backTo pos (starEach es X.env)).any (·.1)=false:=by rfl):QX X (.Call (.Name x p) (e :: es) [] pos) (fDef g fa):=by
 obtain ⟨f,fd,ps,F,b,kp,hm⟩:=F.ex
 refine ⟨PE.weak (a7m F hr hg hm kp b .nil pass0 ha.to hdb he hpl) fun σ H Q h0=>tXe h0 fun P O L ρ w ρ' r e q=>?_⟩
 unfold fDef at e
 obtain ⟨⟨ws,ρ1⟩,e1,e⟩:=obs e
 dsimp only at e
 cases e2:drs ρ1 ws with
 | none=>rw [e2] at e;cases e
 | some ds=>
  rw [e2] at e
  simp only [Option.bind_some] at e
  cases e3:g ds with
  | none=>rw [e3] at e;cases e
  | some w1=>
   rw [e3] at e
   simp only [Option.bind_some] at e
   refine ⟨P,O,L,ρ,ws,ρ1,r,e1,fun vs H1 r1 l1=>?_⟩
   refine ⟨fun b=>AvO O ρ1 σ b/\¬Handed ρ1 σ ws b,ds,w1,fun b z=>r1.there z.1,by rw [List.append_nil];exact a2o r1 (fun b z=>z.1) (fun b z=>z.2) e2 l1,e3,fun v H2 s2 d2=>?_⟩
   split at e
   ·rename_i hl
    cases e
    refine q v H1 H2 r1 s2 ?_
    cases w with
    | v d=>exact a6S (fun _ _ e _=>e) _ _ hl d2
    | o d=>obtain ⟨a,ev,hn,ob⟩:=d2;exact ⟨a,ev,hn,S2 (fun _ _ e _=>e) hl rfl ob⟩
    | _=>cases hl
   ·obtain ⟨ρ2,e4,e⟩:=oms e
    cases e
    obtain ⟨r2,k2⟩:=Q2 r1 e4
    refine q v H1 H2 r2 s2 ?_
    have sub:=fun b (z:AvO O ρ' σ b)=>X8 r1 k2 z
    cases w with
    | v d=>exact s0 (A1 sub) _ _ d2
    | o d=>obtain ⟨a,ev,hn,ob⟩:=d2;exact ⟨a,ev,hn,u6 (A1 fun b z=>z.imp (sub b) id) rfl ob⟩
    | r i=>exact absurd d2 (by simp [DenW])
    | l d=>exact d2.elim
theorem a0H {i:Nat}:∀{ws:List W},noR i ws=true->W.r i∉ws
 | [],_=>by simp
 | .r j :: ws,h=>by
  rw [noR,Bool.and_eq_true] at h
  exact fun z=>(List.mem_cons.mp z).elim (fun z=>by cases z;simp at h) (a0H h.2)
 | .v _ :: ws,h=>fun z=>(List.mem_cons.mp z).elim (fun z=>by cases z) (a0H (ws:=ws) h)
 | .o _ :: ws,h=>fun z=>(List.mem_cons.mp z).elim (fun z=>by cases z) (a0H (ws:=ws) h)
 | .l _ :: ws,h=>fun z=>(List.mem_cons.mp z).elim (fun z=>by cases z) (a0H (ws:=ws) h)
theorem j5 {g:D->List D->Option (W×D)}(F:FnL X.prog X.w X.K X.mg X.base x k g)(hr:Room k X.A)(ha:QA X (e :: es) fa)(hg:Gl X x:=by rfl)(hdb:(x == ("__debug__":Str))=false:=by decide)
  (he:starEach (e :: es) X.env=(false,eval e X.env) :: starEach es X.env:=by rfl) (hpl:(backTo pos (starEach es X.env)).any (·.1)=false:=by rfl):QX X (.Call (.Name x p) (e :: es) [] pos) (fDefL g fa):=by
 obtain ⟨f,fd,ps,F,b,kp,hm⟩:=F.ex
 refine ⟨PE.weak (a7m F hr hg hm kp b .nil pass0 ha.to hdb he hpl) fun σ H Q h0=>tXe h0 fun P O L ρ w ρ' r e q=>?_⟩
 unfold fDefL at e
 obtain ⟨⟨ws0,ρ1⟩,e1,e⟩:=obs e
 dsimp only at e
 split at e
 ·rename_i i ws
  cases e0:ownAt ρ1 i with
  | none=>rw [e0] at e;cases e
  | some c=>
   rw [e0] at e
   simp only [Option.bind_some] at e
   cases e2:drs ρ1 ws with
   | none=>rw [e2] at e;cases e
   | some ds=>
    rw [e2] at e
    simp only [Option.bind_some] at e
    obtain ⟨⟨w1,c'⟩,e3,e⟩:=obs e
    dsimp only at e
    split at e
    ·rename_i hc
     refine ⟨P,O,L,ρ,_,ρ1,r,e1,fun vs H1 r1 l1=>?_⟩
     obtain ⟨v0,us,rfl,h0,l1⟩:=l1
     have h0:σ[i]? =some (some v0):=h0
     obtain ⟨w0,q0,ow⟩:=t3 e0
     obtain ⟨a,h1,ob⟩:=r1.obj q0 ow
     rw [h0] at h1;cases h1
     have ia:Ow ρ1 σ a:=⟨i,w0,c,q0,ow,h0⟩
     have nh:¬Handed ρ1 σ ws a:=fun ⟨j,w',d',m,q1,q2,q3⟩=>by
      have:=r1.inj i j w0 w' c d' a q0 ow h0 q1 q2 q3
      subst this;exact a0H hc.1 m
     have sub:∀b,((AvO O ρ1 σ b/\b≠a/\¬Handed ρ1 σ ws b)\/b=a)->AvO O ρ1 σ b:=fun b z=>z.elim (·.1) fun z=>by rw [z];exact .inr ia
     refine ⟨fun b=>AvO O ρ1 σ b/\b≠a/\¬Handed ρ1 σ ws b,a,c,ds,us,w1,c',by rw [List.append_nil],fun b z=>r1.there z.1,fun z=>z.2.1 rfl,u6 (A1 sub) rfl ob,
      a2o r1 sub (fun b z=>z.elim (·.2.2) fun z=>by rw [z];exact nh) e2 l1,e3,fun v H2 k2 o2 d2=>?_⟩
     have main:∃Hx,Same Hx H2/\Rep X P O L (setOwn ρ1 i c') σ Hx/\∀A':Av,((∀b,A' b->((AvO O ρ1 σ b/\b≠a/\¬Handed ρ1 σ ws b)\/b=a))\/lfW w1=true)->DenW X.K A' σ Hx H2 w1 v:=by
      cases w1 with
      | v d=>
       refine ⟨H2,Same.refl _,r1.mut e0 h0 k2 (S2 (fun _ _ e _=>e) hc.2 rfl o2),fun A' h=>?_⟩
       rcases h with h | h
       ·exact s0 (A1 h) _ _ d2
       ·exact a6S (fun _ _ e _=>e) _ _ h d2
      | o d=>
       obtain ⟨ar,ev,hn,obr⟩:=d2
       obtain ⟨u0,eu0,_⟩:=C7 ob
       obtain ⟨ur,eur,mur⟩:=C7 obr
       have na:a≠ar:=fun z=>by rw [z,hn] at eu0;cases eu0
       refine ⟨fun b=>if b=ar then none else H2 b,fun b o eb=>?_,r1.mut e0 h0 (fun b o eb nb=>?_) (S2 (fun b o eb nm=>?_) hc.2 (if_neg na) o2),fun A' h=>⟨ar,ev,if_pos rfl,?_⟩⟩
       ·dsimp only at eb;split at eb
        ·cases eb
        ·exact eb
       ·have:b≠ar:=fun z=>by rw [z,hn] at eb;cases eb
        show (if b=ar then none else H2 b)=some o
        rw [if_neg this];exact k2 b o eb nb
       ·have:b≠ar:=fun z=>by rw [z,eur] at eb;cases eb;exact nm mur
        show (if b=ar then none else H2 b)=some o
        rw [if_neg this];exact eb
       ·rcases h with h | h
        ·exact u6 (A1 fun b z=>z.imp (h b) id) rfl obr
        ·exact S2 (fun _ _ e _=>e) h rfl obr
      | r i=>exact absurd d2 (by simp [DenW])
      | l d=>exact d2.elim
     obtain ⟨Hx,sx,rx,dx⟩:=main
     split at e
     ·rename_i hl
      cases e
      exact q v Hx H2 rx sx (dx _ (.inr hl))
     ·obtain ⟨ρ2,e4,e⟩:=oms e
      cases e
      obtain ⟨r2,k3⟩:=Q2 rx e4
      refine q v Hx H2 r2 sx (dx _ (.inl fun b z=>?_))
      obtain ⟨z1,z2⟩:=X8 rx k3 z
      by_cases hb:b=a
      ·exact .inr hb
      ·refine .inl ⟨z1.imp id fun z=>(a0G e0 b).mp z,hb,fun ⟨j,w',d',m,q1,q2,q3⟩=>z2 ?_⟩
       have hj:i≠j:=fun z=>by subst z;exact a0H hc.1 m
       obtain ⟨w2,_,es,_⟩:=a08 (d:=c') e0
       exact ⟨j,w',d',m,by rw [es,List.getElem?_set_ne hj];exact q1,q2,q3⟩
    ·cases e
 ·cases e
end
def start0 (n:Nat) (ds:List D):Ev:=ds.map (fun d=>some (.v d)) ++ List.replicate (n - ds.length) none
def runD (np n:Nat) (G:FS):List D->Option W:=fun ds=>if ds.length=np then match G (start0 n ds) with
 | some (.rt w _)=>some w
 | some (.nx _)=>some (.v .non)
 | _=>none else none
def runL (np n:Nat) (G:FS):D->List D->Option (W×D):=fun c ds=>if ds.length + 1=np then match G (some (.l c) :: start0 (n - 1) ds) with
 | some (.rt w ρ)=>(ownAt ρ 0).map fun c'=>(w,c')
 | some (.nx ρ)=>(ownAt ρ 0).map fun c'=>(.v .non,c')
 | _=>none else none
section
variable {P:Program}{w:World}{K:PySem.W.Frag}{mg:Str->Option Value}{base:Heap}
theorem C4 {n i:Nat}{ds:List D}{w:W}(e:(start0 n ds)[i]? =some (some w)):∃d,ds[i]? =some d/\w= .v d:=by
 unfold start0 at e
 by_cases hi:i < ds.length
 ·rw [List.getElem?_append_left (by simpa using hi),List.getElem?_map] at e
  cases q:ds[i]? with
  | none=>rw [q] at e;cases e
  | some d0=>rw [q] at e;cases e;exact ⟨d0,rfl,rfl⟩
 ·rw [List.getElem?_append_right (by simpa using hi),List.getElem?_replicate] at e
  split at e <;> cases e
theorem a3O {X:Cx}{ds:List D}{vs:List V}{n:Nat}{N:List Str}{H:Hp}{A:Av}(hH:X.H₀=H)(hN:N.length=n)(hA:∀b,A b->∃o,H b=some o)(l:DenL X.K A H ds vs):Rep X [] A [] (start0 n ds) (start N vs) H where
 same:=fun b o e _=>by rw [<-hH];exact e
 amb:=fun b z=>by rw [hH];exact ⟨hA b z,fun i=>by simp⟩
 len:=by unfold start0 L2.start;simp [c7 l,hN]
 slot:=fun i w e=>by
  obtain ⟨d,q,rfl⟩:=C4 e
  obtain ⟨v,h1,h2⟩:=w9 l q
  refine ⟨v,?_,s0 (A1 fun b z=>?_) _ _ h2⟩
  ·unfold L2.start
   rw [List.getElem?_append_left (by have:=(List.getElem?_eq_some_iff.mp h1).1;simpa using this),List.getElem?_map,h1];rfl
  ·rcases z with z | ⟨j,w,c,e1,e2,e3⟩
   ·exact z
   ·obtain ⟨d',q',rfl⟩:=C4 e1;cases e2
 inj:=fun i j w w' d d' b e1 e2=>by obtain ⟨_,_,rfl⟩:=C4 e1;cases e2
 new:=fun i d b e=>by obtain ⟨_,_,z⟩:=C4 e;cases z
 lnt:=fun i d e=>by obtain ⟨_,_,z⟩:=C4 e;cases z
 lnd:=fun i b e=>by simp at e
 prot:=fun p hp=>by cases hp
theorem a62 {X:Cx}{c:D}{a:Addr}{ds:List D}{vs:List V}{n:Nat}{N:List Str}{H:Hp}{A:Av}(hH:X.H₀=H)(hN:N.length=n + 1)(hA:∀b,A b->∃o,H b=some o)(hn:¬A a)(ob:Obj X.K (fun b=>A b\/b=a) H a c)(l:DenL X.K (fun b=>A b\/b=a) H ds vs):
  Rep X [] A [(0,a)] (some (.l c) :: start0 n ds) (start N (.ref a :: vs)) H:=by
 have es:start N (.ref a :: vs)=some (.ref a) :: (vs.map some ++ List.replicate (n - vs.length) none):=by unfold L2.start;simp [hN]
 have own:∀{i:Nat} {w:W} {d:D},(some (.l c) :: start0 n ds)[i]? =some (some w)->w.own=some d->i=0:=fun {i w d} e1 e2=>by
  cases i with
  | zero=>rfl
  | succ i=>rw [List.getElem?_cons_succ] at e1;obtain ⟨_,_,rfl⟩:=C4 e1;cases e2
 have av:∀b,AvO A (some (.l c) :: start0 n ds) (start N (.ref a :: vs)) b->A b\/b=a:=fun b z=>z.imp id fun ⟨i,w,d,e1,e2,e3⟩=>by
  have:=own e1 e2
  subst this
  rw [es] at e3;cases e3;rfl
 refine ⟨fun b o e _=>by rw [<-hH];exact e,fun b z=>⟨by rw [hH];exact hA b z,fun i m=>?_⟩,by rw [es];unfold start0;simp [c7 l],fun i w e=>?_,fun i j w w' d d' b e1 e2 _ e3 e4 _=>(own e1 e2).trans (own e3 e4).symm,fun i d b e=>?_,fun i d e=>?_,fun i b e=>?_,fun p hp=>by cases hp⟩
 ·rw [List.mem_singleton] at m;cases m;exact hn z
 ·cases i with
  | zero=>cases e;exact ⟨.ref a,by rw [es];rfl,a,rfl,u6 (A1 av) rfl ob⟩
  | succ i=>
   rw [List.getElem?_cons_succ] at e
   obtain ⟨d,q,rfl⟩:=C4 e
   obtain ⟨v,h1,h2⟩:=w9 l q
   refine ⟨v,?_,s0 (A1 av) _ _ h2⟩
   rw [es,List.getElem?_cons_succ,List.getElem?_append_left (by have:=(List.getElem?_eq_some_iff.mp h1).1;simpa using this),List.getElem?_map,h1];rfl
 ·cases i with
  | zero=>cases e
  | succ i=>rw [List.getElem?_cons_succ] at e;obtain ⟨_,_,z⟩:=C4 e;cases z
 ·have:=own e rfl
  subst this
  exact ⟨a,by rw [es];rfl,by simp⟩
 ·rw [List.mem_singleton] at e;cases e;exact ⟨c,rfl,by rw [es];rfl⟩
theorem u7 {x:Str}{st:Stmt}{f:Addr}{fd:FuncData}{N ps:List Str}{k np n:Nat}{G:FS}(F:Fun K x x st f fd)(S:FnScope N ps (defScope st))(B:Binds K fd ps [])(hm:mg x=some (.ref f))(hp:ps.length=np)(hn:N.length=n)
  (body:∀(cdv:Value) (A:Around) (outer:List Env) (s:Shared) (H:Hp) (E:XK),Room k (A.deeper (envOfC x (defScope st) s.heap.objs.size f cdv))->
   QSs (cxOf CX0 P w K mg base N x (defScope st) f cdv A outer s H E).nox (defBody st) G):Fn P w K mg base x (k + 1) (runD np n G):=by
 refine ⟨f,fd,ps,F.ok S (fun vs H Q E h0=>?_) (fun cdv A outer s H vs Q E hr h0=>⟨_,(body cdv A outer s H E hr).to,?_⟩),B,F.kp,hm⟩
 ·obtain ⟨A,ds,d,hA,l,e,q⟩:=h0
  unfold runD at e
  split at e
  ·rename_i hl;rw [<-c7 l,hl,hp]
  ·cases e
 ·obtain ⟨A',ds,d,hA,l,e,q⟩:=h0
  unfold runD at e
  split at e
  ·rename_i hl
   cases e1:G (start0 n ds) with
   | none=>rw [e1] at e;cases e
   | some r=>
    rw [e1] at e
    refine ⟨[],A',[],_,r,a3O rfl hn hA l,e1,?_⟩
    have hz:∀{w:W} {v:V} {H':Hp},DenW K (A0 A' []) [] H H' w v->DenW K A' [] H H' w v:=fun {w v H'} h=>by
     have e0:A0 A' []=A':=funext fun b=>propext ⟨fun z=>z.elim id fun ⟨i,z⟩=>by simp at z,.inl⟩
     rw [e0] at h;exact h
    cases r with
    | rt w ρ'=>cases e;exact fun v H' s' _ d1=>q v H' (fun b o eb=>s' b o eb fun i=>by simp) (hz d1)
    | nx ρ'=>cases e;exact fun σ' H' rp'=>q .non H' (fun b o eb=>rp'.same b o eb fun i=>by simp) a0k
    | bk ρ'=>cases e
    | ct ρ'=>cases e
  ·cases e
theorem L1 {x:Str}{st:Stmt}{f:Addr}{fd:FuncData}{N ps:List Str}{k np n:Nat}{G:FS}(F:Fun K x x st f fd)(S:FnScope N ps (defScope st))(B:Binds K fd ps [])(hm:mg x=some (.ref f))(hp:ps.length=np)(hn:N.length=n + 1)
  (body:∀(cdv:Value) (A:Around) (outer:List Env) (s:Shared) (H:Hp) (E:XK),Room k (A.deeper (envOfC x (defScope st) s.heap.objs.size f cdv))->
   QSs (cxOf CX0 P w K mg base N x (defScope st) f cdv A outer s H E).nox (defBody st) G):FnL P w K mg base x (k + 1) (runL np (n + 1) G):=by
 refine ⟨f,fd,ps,F.ok S (fun vs H Q E h0=>?_) (fun cdv A outer s H vs Q E hr h0=>⟨_,(body cdv A outer s H E hr).to,?_⟩),B,F.kp,hm⟩
 ·obtain ⟨A,a,c,ds,us,w,c',e0,hA,hna,ob,l,e,q⟩:=h0
  unfold runL at e
  split at e
  ·rename_i hl;rw [e0,List.length_cons,<-c7 l,hl,hp]
  ·cases e
 ·obtain ⟨A',a,c,ds,us,w,c',e0,hA,hna,ob,l,e,q⟩:=h0
  subst e0
  unfold runL at e
  split at e
  ·rename_i hl
   rw [Nat.add_sub_cancel] at e
   cases e1:G (some (.l c) :: start0 n ds) with
   | none=>rw [e1] at e;cases e
   | some r=>
    rw [e1] at e
    refine ⟨[],A',[(0,a)],_,r,a62 rfl hn hA hna ob l,e1,?_⟩
    have ea:A0 A' [(0,a)]=fun b=>A' b\/b=a:=funext fun b=>propext (or_congr Iff.rfl ⟨fun ⟨i,z⟩=>by rw [List.mem_singleton] at z;cases z;rfl,fun z=>⟨0,by rw [z];exact List.mem_singleton.mpr rfl⟩⟩)
    have nl:∀{b:Addr},b≠a->∀i,(i,b)∉[(0,a)]:=fun n i z=>by rw [List.mem_singleton] at z;cases z;exact n rfl
    cases r with
    | rt w0 ρ'=>
     refine fun v H' s' ln d1=>?_
     obtain ⟨c0,h1,h2⟩:=ln 0 a (List.mem_singleton.mpr rfl)
     simp only [h1,Option.map_some] at e
     cases e
     rw [ea] at h2 d1
     exact q v H' (fun b o eb n=>s' b o eb (nl n)) h2 d1
    | nx ρ'=>
     refine fun σ' H' rp'=>?_
     obtain ⟨c0,h1,h2⟩:=rp'.lents 0 a (List.mem_singleton.mpr rfl)
     simp only [h1,Option.map_some] at e
     cases e
     rw [ea] at h2
     exact q .non H' (fun b o eb n=>rp'.same b o eb (nl n)) h2 a0k
    | bk ρ'=>cases e
    | ct ρ'=>cases e
  ·cases e
end
@[elab_as_elim] theorem us1 {α:Type} {C:List α->Prop} {us:List α} (h:us.length=1) (k:∀a,C [a]):C us:=by
 match us,h with
 | [a],_=>exact k a
@[elab_as_elim] theorem us2 {α:Type} {C:List α->Prop} {us:List α} (h:us.length=2) (k:∀a b,C [a,b]):C us:=by
 match us,h with
 | [a,b],_=>exact k a b
@[elab_as_elim] theorem us3 {α:Type} {C:List α->Prop} {us:List α} (h:us.length=3) (k:∀a b c,C [a,b,c]):C us:=by
 match us,h with
 | [a,b,c],_=>exact k a b c
section
variable {X:Cx}{a b c e:Expr}{es rest:List Expr}{pos:Pos}{f g h:FX}{t u:FT}{fa:FA}
theorem a2G {K:PySem.W.Frag}{A:Av}{H:Hp}{i:Bool}{v:V}(h:DenR K A H (.bl i) v):v= .bl i:=by
 have h:Den K A H (.bl i) v:=h
 exact a2s.mp h
theorem a27 {K:PySem.W.Frag}{A:Av}{H:Hp}{i:Str}{v:V}(h:DenR K A H (.str i) v):v= .str i:=by
 have h:Den K A H (.str i) v:=h
 exact a1F.mp h
theorem a3x {K:PySem.W.Frag}{A:Av}{H:Hp}{v:V}(h:DenR K A H .non v):v= .non:=by
 have h:Den K A H .non v:=h
 exact a4I.mp h
def tyD:D->String
 | .non=>"NoneType"
 | .bl _=>"bool"
 | .int _=>"int"
 | .str _=>"str"
 | .tup _=>"tuple"
 | .dT _ _=>"dict"
 | .dK _ _=>"dict"
 | _=>"list"
def isX:D->Bool
 | .exn _=>true
 | _=>false
def isiB (T:String) (d:D):Bool:=tyD d == T || (tyD d == "bool" && T == "int")
def Kit (K:PySem.W.Frag) (T:String):Prop:=∀d:D,PySem.W.kitOne K (.type (tyD d)) (.type T)=some (isiB T d)
theorem K9 {K:PySem.W.Frag}{T:String}(h:T="int"\/T="bool"\/T="str"\/T="tuple"\/T="list"):Kit K T:=by
 rcases h with h | h | h | h | h <;> subst h <;> intro d <;> cases d <;> rfl
theorem b0A {T:String}(hk:Kit X.K T):CallR X (.builtin "isinstance") (fun xs H Q=>∃x A d,xs=[x,.ty T]/\isX d=false/\DenR X.K A H d x/\Q (.bl (isiB T d)) H):=by
 intro pins s σ H xs us Q I r h
 obtain ⟨x,A,d,rfl,nx,hd,q⟩:=h
 obtain ⟨u,w,rfl,ru,rw'⟩:=vals2 r
 cases (show w=Value.type T from rw')
 have e:=hk d
 have fin:∀tk,EP X pins σ Q (.bool (isiB T d)) {s with toks:=tk}:=fun tk=>⟨.bl _,H,I.tok _,rfl,q⟩
 cases d with
 | non=>have hd:=a3x hd;subst hd;cases (show u=Value.none from ru);exact PySem.W.kia_one PySem.W.kitx_none I.kIn True.intro e (fun z=>nomatch z) fin
 | bl y=>have hd:=a2G hd;subst hd;cases (show u=Value.bool y from ru);exact PySem.W.kia_one PySem.W.kitx_bool I.kIn True.intro e (fun z=>nomatch z) fin
 | int i=>have hd:=k7 hd;subst hd;obtain ⟨t,z⟩:=(show ∃t,u=Value.int i t from ru);cases z;exact PySem.W.kia_one PySem.W.kitx_int I.kIn True.intro e (fun z=>nomatch z) fin
 | str y=>have hd:=a27 hd;subst hd;obtain ⟨t,z⟩:=(show ∃t,u=Value.str y t from ru);cases z;exact PySem.W.kia_one PySem.W.kitx_str I.kIn True.intro e (fun z=>nomatch z) fin
 | tup ys=>
  have hd:Den X.K A H (.tup ys) x:=hd
  rw [Den] at hd
  obtain ⟨a,vs,rfl,hq,_⟩:=hd
  cases (show u=Value.ref a from ru)
  obtain ⟨its,_,p,_⟩:=I.tuple hq
  obtain ⟨o,h1,h2,_⟩:=p
  exact PySem.W.kia_one PySem.W.kitx_tuple I.kIn ⟨o,h1,h2⟩ e (fun z=>nomatch z) fin
 | lst ys=>
  obtain ⟨a,vs,rfl,hq,_⟩:=hd
  cases (show u=Value.ref a from ru)
  obtain ⟨its,_,p,_⟩:=I.list hq
  obtain ⟨o,n,h1,h2,_⟩:=p
  exact PySem.W.kia_one PySem.W.kitx_list I.kIn ⟨o,h1,h2⟩ e (fun z=>nomatch z) fin
 | dK ks ys=>
  obtain ⟨a,vs,rfl,hq,_⟩:=hd
  cases (show u=Value.ref a from ru)
  obtain ⟨_,_,vs,_,p⟩:=(show ObjOk X.prog X.w H s.heap a (.dK _) from I.hok a _ hq)
  obtain ⟨o,es,ep,h1,h2,_⟩:=p
  exact PySem.W.kia_one PySem.W.kitx_dict I.kIn ⟨o,h1,h2.1⟩ e (fun z=>nomatch z) fin
 | dT ks ys=>
  obtain ⟨a,vs,rfl,hq,_⟩:=hd
  cases (show u=Value.ref a from ru)
  obtain ⟨_,_,xs,_,o,es,ep,h1,h2,_⟩:=(show ObjOk X.prog X.w H s.heap a (.dT _) from I.hok a _ hq)
  exact PySem.W.kia_one PySem.W.kitx_dict I.kIn ⟨o,h1,h2.1⟩ e (fun z=>nomatch z) fin
 | exn C=>cases nx
def oIsi (T:String) (d:D):Option W:=if isX d=true then none else some (.v (.bl (isiB T d)))
theorem K5 {T:String}{x:Str}{p p2:Pos}(hk:Kit X.K T)(hm:X.mg "isinstance"=none)(hmT:X.mg x=none)(ha:QX X e f)(hT:bootBuiltins x=some (.type T):=by rfl)(hb:bootBuiltins "isinstance"=some (.builtin "isinstance"):=by rfl)(hg:Gl X "isinstance":=by rfl)(hgT:Gl X x:=by rfl)(hn:x≠"__name__":=by decide)(hdb:(x == ("__debug__":Str))=false:=by decide)
  (he:starEach [e,.Name x p2] X.env=(false,eval e X.env) :: starEach [.Name x p2] X.env:=by rfl) (hpl:(backTo pos (starEach [.Name x p2] X.env)).any (·.1)=false:=by rfl) (hs:starEach [.Name x p2] X.env=(false,eval (.Name x p2) X.env) :: starEach [] X.env:=by rfl):QX X (.Call (.Name "isinstance" p) [e,.Name x p2] [] pos) (fUn (oIsi T) f):=
 ⟨PE.weak (a5P (b0A hk) hg hm hb (a5s ha.to (a5s (b17 (v:=.ty T) hgT hmT hT rfl hn hdb) a9p hs) he) (by decide) (by decide) he hpl) fun σ H Q h=>
  a5a (r:=fun v H Q=>∃x A d,[v,V.ty T]=[x,.ty T]/\isX d=false/\DenR X.K A H d x/\Q (.bl (isiB T d)) H) (fun A x w v H Q _ e hx q=>by
   unfold oIsi at e
   split at e
   ·cases e
   ·rename_i nx;cases e;exact ⟨v,A,x,rfl,by simpa using nx,hx,q _ H (Same.refl H) F4⟩) σ H Q h⟩
def isD:D->D->Option Bool
 | .non,.non=>some true
 | d,.non=>some false
 | .bl a,.bl b=>some (a == b)
 | _,.bl _=>some false
 | _,_=>none
theorem a8V {M:Model}{A:Around}{E:Value->Shared->Prop}{s:Shared}{x y:Value}{k:Bool}{Q:Value->Shared->Prop}(h:isSame x y=pure k)(q:Q (.bool (!k)) s):wpAny M A (compareOp .IsNot x y) Q E s:=by
 show wpAny M A (isSame x y >>=fun b=>pure (Value.bool (!b))) Q E s
 rw [h]
 exact wpAny_pure q
theorem a9g {K:PySem.W.Frag}{A:Av}{H:Hp}{x:D}{v:V}{vv:Value}(hx:DenR K A H x v)(rx:RelV v vv):(x= .non/\vv= .none)\/(∃b,x= .bl b/\vv= .bool b)\/(∃i t,x= .int i/\vv= .int i t)\/(∃y t,x= .str y/\vv= .str y t)\/((∀b,x≠.bl b)/\x≠.non/\∃a,v= .ref a/\vv= .ref a):=by
 cases x with
 | non=>have h:=a3x hx;subst h;exact .inl ⟨rfl,rx⟩
 | bl b=>have h:=a2G hx;subst h;exact .inr (.inl ⟨b,rfl,rx⟩)
 | int i=>have h:=k7 hx;subst h;obtain ⟨t,e⟩:=(show ∃t,vv=Value.int i t from rx);exact .inr (.inr (.inl ⟨i,t,rfl,e⟩))
 | str i=>have h:=a27 hx;subst h;obtain ⟨t,e⟩:=(show ∃t,vv=Value.str i t from rx);exact .inr (.inr (.inr (.inl ⟨i,t,rfl,e⟩)))
 | tup xs=>
  have hx:Den K A H (.tup xs) v:=hx
  rw [Den] at hx;obtain ⟨a,vs,rfl,_⟩:=hx;exact .inr (.inr (.inr (.inr ⟨nofun,nofun,a,rfl,rx⟩)))
 | lst xs=>obtain ⟨a,vs,rfl,_⟩:=hx;exact .inr (.inr (.inr (.inr ⟨nofun,nofun,a,rfl,rx⟩)))
 | dT ks xs=>obtain ⟨a,vs,rfl,_⟩:=hx;exact .inr (.inr (.inr (.inr ⟨nofun,nofun,a,rfl,rx⟩)))
 | dK ks xs=>obtain ⟨a,vs,rfl,_⟩:=hx;exact .inr (.inr (.inr (.inr ⟨nofun,nofun,a,rfl,rx⟩)))
 | exn C=>
  have hx:Den K A H (.exn C) v:=hx
  rw [Den] at hx;obtain ⟨a,rfl,_⟩:=hx;exact .inr (.inr (.inr (.inr ⟨nofun,nofun,a,rfl,rx⟩)))
theorem b0U {K:PySem.W.Frag}{A:Av}{H:Hp}{x y:D}{v u:V}{vv uu:Value}{k:Bool}(e:isD x y=some k)(hx:DenR K A H x v)(hy:DenR K A H y u)(rx:RelV v vv)(ry:RelV u uu):isSame vv uu=pure k:=by
 cases y with
 | non=>
  have hy:=a3x hy;subst hy;cases (show uu=Value.none from ry)
  rw [PySem.isSame_none]
  rcases a9g hx rx with ⟨rfl,rfl⟩ | ⟨b,rfl,rfl⟩ | ⟨i,t,rfl,rfl⟩ | ⟨i,t,rfl,rfl⟩ | ⟨n1,n2,a,rfl,rfl⟩
  ·cases e;rfl
  ·cases e;rfl
  ·cases e;rfl
  ·cases e;rfl
  ·cases x <;> simp only [isD] at e <;> first | (cases e;rfl) | exact absurd rfl n2
 | bl q=>
  have hy:=a2G hy;subst hy;cases (show uu=Value.bool q from ry)
  rcases a9g hx rx with ⟨rfl,rfl⟩ | ⟨b,rfl,rfl⟩ | ⟨i,t,rfl,rfl⟩ | ⟨i,t,rfl,rfl⟩ | ⟨n1,n2,a,rfl,rfl⟩
  ·cases e;rfl
  ·cases e;cases b <;> cases q <;> rfl
  ·cases e;rfl
  ·cases e;rfl
  ·cases x <;> simp only [isD] at e <;> first | (cases e;rfl) | exact absurd rfl (n1 _)
 | _=>cases x <;> simp only [isD] at e <;> cases e
def rD2 (K:PySem.W.Frag) (t:D->D->Option Bool) (neg:Bool):R2:=fun v u H Q=>∃A x y k,t x y=some k/\DenR K A H x v/\DenR K A H y u/\Q (.bl (if neg then !k else k)) H
def oD2 (t:D->D->Option Bool) (neg:Bool) (x y:D):Option W:=(t x y).map fun k=>.v (.bl (if neg then !k else k))
theorem kD2 {t:D->D->Option Bool}{neg:Bool}:Pr2 X (oD2 t neg) (rD2 X.K t neg):=by
 intro A x y w v u H Q _ e hx hy q
 unfold oD2 at e
 cases e1:t x y with
 | none=>rw [e1] at e;cases e
 | some k=>rw [e1] at e;cases e;exact ⟨A,x,y,k,e1,hx,hy,q _ H (Same.refl H) F4⟩
theorem a8p:OpR X (compareOp .IsNot) (rD2 X.K isD true):=by
 intro pins s σ H x y v u Q I rx ry ⟨A,dx,dy,k,e,hx,hy,q⟩
 exact a8V (b0U e hx hy rx ry) ⟨.bl (!k),H,I,rfl,q⟩
theorem a88 (ha:QX X a f)(hb:QX X b g):QT X (.Compare a [.IsNot] [b] pos) (fTest (fBin (oD2 isD true) f g)):=a0b a8p kD2 ha hb
def flatE:D->D->Option Bool
 | .non,.non=>some true
 | .non,.int _=>some false
 | .int _,.non=>some false
 | .bl a,.bl b=>some (a == b)
 | .bl a,.int b=>some ((if a then 1 else 0) == b)
 | .int a,.bl b=>some (a == (if b then 1 else 0))
 | .int a,.int b=>some (a == b)
 | .str a,.str b=>some (a == b)
 | _,_=>none
def deqL (eq:D->D->Option Bool):List D->List D->Option Bool
 | [],[]=>some true
 | [],_ :: _=>some false
 | _ :: _,[]=>some false
 | x :: xs,y :: ys=>(eq x y).bind fun p=>(deqL eq xs ys).map fun q=>p && q
def deq:Nat->D->D->Option Bool
 | 0,x,y=>flatE x y
 | n + 1,.tup xs,.tup ys=>deqL (deq n) xs ys
 | n + 1,.lst xs,.lst ys=>deqL (deq n) xs ys
 | _ + 1,x,y=>flatE x y
theorem a7F {K:PySem.W.Frag}{A:Av}{H:Hp}{x y:D}{v u:V}{k:Bool}(e:flatE x y=some k)(hx:DenR K A H x v)(hy:DenR K A H y u):Den K A H x v/\Den K A H y u:=by
 cases x <;> cases y <;> simp only [flatE] at e <;> cases e <;> exact ⟨hx,hy⟩
theorem a3T {K:PySem.W.Frag}{O:Av}{H:Hp}{A:Around}{s:Shared}{x y:D}{v u:V}{vv uu:Value}{k:Bool}(e:flatE x y=some k)(hx:DenR K O H x v)(hy:DenR K O H y u)(rx:RelV v vv)(ry:RelV u uu):SeqAt.EqAt A s vv uu k/\SeqAt.RcAt A s vv uu k/\SeqAt.RcNeAt A s vv uu (!k):=by
 obtain ⟨hx,hy⟩:=a7F e hx hy
 cases x <;> cases y <;> simp only [flatE] at e <;> cases e <;> rw [Den] at hx <;> rw [Den] at hy <;> subst hx <;> subst hy
 ·cases (show vv=Value.none from rx);cases (show uu=Value.none from ry);exact ⟨.same _,.none_none,.none_none⟩
 ·cases (show vv=Value.none from rx);obtain ⟨t,z⟩:=(show ∃t,uu=Value.int _ t from ry);cases z;exact ⟨.none_int _ _,.none_int _ _,.none_int _ _⟩
 ·cases (show vv=Value.bool _ from rx);cases (show uu=Value.bool _ from ry);exact ⟨.bool_bool _ _,.bool_bool _ _,.bool_bool _ _⟩
 ·cases (show vv=Value.bool _ from rx);obtain ⟨t,z⟩:=(show ∃t,uu=Value.int _ t from ry);cases z;exact ⟨.bool_int _ _ _,.bool_int _ _ _,.bool_int _ _ _⟩
 ·cases (show uu=Value.none from ry);obtain ⟨t,z⟩:=(show ∃t,vv=Value.int _ t from rx);cases z;exact ⟨.int_none _ _,.int_none _ _,.int_none _ _⟩
 ·cases (show uu=Value.bool _ from ry);obtain ⟨t,z⟩:=(show ∃t,vv=Value.int _ t from rx);cases z;exact ⟨.int_bool _ _ _,.int_bool _ _ _,.int_bool _ _ _⟩
 ·obtain ⟨t,z⟩:=(show ∃t,vv=Value.int _ t from rx);cases z;obtain ⟨t,z⟩:=(show ∃t,uu=Value.int _ t from ry);cases z;exact ⟨.int_int _ _ _ _,.int_int _ _ _ _,.int_int _ _ _ _⟩
 ·obtain ⟨t,z⟩:=(show ∃t,vv=Value.str _ t from rx);cases z;obtain ⟨t,z⟩:=(show ∃t,uu=Value.str _ t from ry);cases z;exact ⟨.str_str _ _ _ _,.str_str _ _ _ _,.str_str _ _ _ _⟩
theorem a3K {K:PySem.W.Frag}{O:Av}{H:Hp}{x y:D}{v:V}{k:Bool}(e:flatE x y=some k)(hx:DenR K O H x v)(hy:DenR K O H y v):k=true:=by
 obtain ⟨hx,hy⟩:=a7F e hx hy
 cases x <;> cases y <;> simp only [flatE] at e <;> cases e <;> rw [Den] at hx <;> rw [Den] at hy
 all_goals first
  | rfl
  | (rw [hx] at hy;cases hy;simp)
  | (rw [hx] at hy;cases hy)
theorem a5q {K:PySem.W.Frag}{O:Av}{H:Hp}{A:Around}{s:Shared}{eq:D->D->Option Bool}(hq:∀x y v u vv uu k,eq x y=some k->Den K O H x v->Den K O H y u->RelV v vv->RelV u uu->SeqAt.EqAt A s vv uu k):
  ∀{xs ys:List D} {vs us:List V} {its jts:List Value} {k:Bool},deqL eq xs ys=some k->DenL K O H xs vs->DenL K O H ys us->Vals vs its->Vals us jts->
   ∃e:Nat->Bool,(∀j (h1:j < its.toArray.size) (h2:j < jts.toArray.size),SeqAt.EqAt A s its.toArray[j] jts.toArray[j] (e j))/\k=((List.range (min its.toArray.size jts.toArray.size)).all e && its.toArray.size == jts.toArray.size)
 | [],[],vs,us,its,jts,k,e,hx,hy,rx,ry=>by
  rw [DenL] at hx hy;subst hx;subst hy;cases rx;cases ry
  cases e
  exact ⟨fun _=>true,fun j h1 h2=>absurd h1 (by simp),rfl⟩
 | [],y :: ys,vs,us,its,jts,k,e,hx,hy,rx,ry=>by
  rw [DenL] at hx;rw [DenL] at hy;subst hx
  obtain ⟨u,r,rfl,_,_⟩:=hy
  cases rx;cases ry
  cases e
  exact ⟨fun _=>true,fun j h1 h2=>absurd h1 (by simp),by simp⟩
 | x :: xs,[],vs,us,its,jts,k,e,hx,hy,rx,ry=>by
  rw [DenL] at hx;rw [DenL] at hy;subst hy
  obtain ⟨u,r,rfl,_,_⟩:=hx
  cases rx;cases ry
  cases e
  exact ⟨fun _=>true,fun j h1 h2=>absurd h2 (by simp),by simp⟩
 | x :: xs,y :: ys,vs,us,its,jts,k,e,hx,hy,rx,ry=>by
  rw [DenL] at hx hy
  obtain ⟨v,r,rfl,dx,lx⟩:=hx
  obtain ⟨u,q,rfl,dy,ly⟩:=hy
  cases rx with
  | cons r1 rs1=>
   cases ry with
   | cons r2 rs2=>
    rw [deqL] at e
    cases e1:eq x y with
    | none=>rw [e1] at e;cases e
    | some p=>
     cases e2:deqL eq xs ys with
     | none=>rw [e1,e2] at e;cases e
     | some q2=>
      rw [e1,e2] at e;cases e
      obtain ⟨w,h1,h2⟩:=a5q hq e2 lx ly rs1 rs2
      refine ⟨fun j=>if j=0 then p else w (j - 1),fun j g1 g2=>?_,?_⟩
      ·cases j with
       | zero=>simpa using hq x y v u _ _ p e1 dx dy r1 r2
       | succ j=>
        have z:=h1 j (by simpa using g1) (by simpa using g2)
        simp only [List.getElem_toArray] at z ⊢
        simpa using z
      ·rw [h2]
       simp only [List.size_toArray,List.length_cons]
       rw [show min (_ + 1) (_ + 1)=min _ _ + 1 from Nat.succ_min_succ _ _,List.range_succ_eq_map,List.all_cons,List.all_map]
       simp [Function.comp_def,Bool.and_assoc]
theorem a2f {K:PySem.W.Frag}{O:Av}{H:Hp}{eq:D->D->Option Bool}(hq:∀x y v k,eq x y=some k->Den K O H x v->Den K O H y v->k=true):
  ∀{xs ys:List D} {vs:List V} {k:Bool},deqL eq xs ys=some k->DenL K O H xs vs->DenL K O H ys vs->k=true
 | [],[],vs,k,e,hx,hy=>by cases e;rfl
 | [],y :: ys,vs,k,e,hx,hy=>by have:=c7 hx;have:=c7 hy;simp at *;walk_at "o"
 | x :: xs,[],vs,k,e,hx,hy=>by have:=c7 hx;have:=c7 hy;simp at *;walk_at "o"
 | x :: xs,y :: ys,vs,k,e,hx,hy=>by
  rw [DenL] at hx hy
  obtain ⟨v,r,rfl,dx,lx⟩:=hx
  obtain ⟨u,q,e0,dy,ly⟩:=hy
  cases e0
  rw [deqL] at e
  cases e1:eq x y with
  | none=>rw [e1] at e;cases e
  | some p=>
   cases e2:deqL eq xs ys with
   | none=>rw [e1,e2] at e;cases e
   | some q2=>
    rw [e1,e2] at e;cases e
    rw [hq x y v p e1 dx dy,a2f hq e2 lx ly];rfl
theorem a3V {n:Nat}{x y:D}{k:Bool}(e:deq (n + 1) x y=some k):flatE x y=some k\/(∃xs ys,x= .tup xs/\y= .tup ys/\deqL (deq n) xs ys=some k)\/∃xs ys,x= .lst xs/\y= .lst ys/\deqL (deq n) xs ys=some k:=by
 cases x <;> cases y <;> first
  | exact .inl e
  | exact .inr (.inl ⟨_,_,rfl,rfl,e⟩)
  | exact .inr (.inr ⟨_,_,rfl,rfl,e⟩)
theorem G5 {K:PySem.W.Frag}{O:Av}{H:Hp}{xs:List D}{v:V}(h:DenR K O H (.tup xs) v):∃a vs,v= .ref a/\SqT K H a vs/\DenL K O H xs vs:=by
 have h:Den K O H (.tup xs) v:=h
 rw [Den] at h;exact h
theorem a5W {O:Av}{pins:List (Addr×PySem.Obj)}{σ:L2.St}{H:Hp}{s:Shared}(I:Inv X pins σ H s):∀(n:Nat) (x y:D) (v:V) (k:Bool),deq n x y=some k->DenR X.K O H x v->DenR X.K O H y v->k=true
 | 0,x,y,v,k,e,hx,hy=>a3K e hx hy
 | n + 1,x,y,v,k,e,hx,hy=>by
  have hs:∀x y v k,deq n x y=some k->Den X.K O H x v->Den X.K O H y v->k=true:=fun x y v k e hx hy=>a5W I n x y v k e (M6 hx) (M6 hy)
  rcases a3V e with e | ⟨xs,ys,rfl,rfl,e⟩ | ⟨xs,ys,rfl,rfl,e⟩
  ·exact a3K e hx hy
  ·obtain ⟨a,vs,rfl,q1,l1⟩:=G5 hx
   obtain ⟨b,us,z,q2,l2⟩:=G5 hy
   cases z
   rw [I.tuple_inj q2 q1] at l2
   exact a2f hs e l1 l2
  ·obtain ⟨a,vs,rfl,q1,l1⟩:=hx
   obtain ⟨b,us,z,q2,l2⟩:=hy
   cases z
   rw [I.list_inj q2 q1] at l2
   exact a2f hs e l1 l2
theorem a44 {O:Av}{pins:List (Addr×PySem.Obj)}{σ:L2.St}{H:Hp}{s:Shared}(I:Inv X pins σ H s):∀(n:Nat) (A:Around),A.units + n + 1 < cLine->∀(x y:D) (v u:V) (vv uu:Value) (k:Bool),deq n x y=some k->DenR X.K O H x v->DenR X.K O H y u->RelV v vv->RelV u uu->
  SeqAt.EqAt A s vv uu k/\SeqAt.RcAt A s vv uu k/\SeqAt.RcNeAt A s vv uu (!k)
 | 0,A,hA,x,y,v,u,vv,uu,k,e,hx,hy,rx,ry=>a3T e hx hy rx ry
 | n + 1,A,hA,x,y,v,u,vv,uu,k,e,hx,hy,rx,ry=>by
  have hin:∀x y v u vv uu k,deq n x y=some k->Den X.K O H x v->Den X.K O H y u->RelV v vv->RelV u uu->SeqAt.EqAt A.in1 s vv uu k:=fun x y v u vv uu k e hx hy rx ry=>(a44 I n A.in1 (by show A.units + 1 + n + 1 < _;walk_at "o") x y v u vv uu k e (M6 hx) (M6 hy) rx ry).1
  have hu:A.units < cLine:=by walk_at "o"
  have done:∀(p q:Addr),v= .ref p->u= .ref q->SeqAt.RcAt A s (.ref p) (.ref q) k->SeqAt.RcNeAt A s (.ref p) (.ref q) (!k)->SeqAt.EqAt A s vv uu k/\SeqAt.RcAt A s vv uu k/\SeqAt.RcNeAt A s vv uu (!k):=fun p q ev eu rc rn=>by
   subst ev;subst eu
   cases (show vv=Value.ref p from rx);cases (show uu=Value.ref q from ry)
   refine ⟨?_,rc,rn⟩
   by_cases pq:p=q
   ·subst pq
    rw [a5W I (n + 1) x y _ k e hx hy]
    exact .same _
   ·exact .of_refs pq rc
  rcases a3V e with e | ⟨xs,ys,rfl,rfl,e⟩ | ⟨xs,ys,rfl,rfl,e⟩
  ·exact a3T e hx hy rx ry
  ·obtain ⟨p,vs,ev,q1,l1⟩:=G5 hx
   obtain ⟨q,us,eu,q2,l2⟩:=G5 hy
   obtain ⟨its,r1,t1,_⟩:=I.tuple q1
   obtain ⟨jts,r2,t2,_⟩:=I.tuple q2
   obtain ⟨w,h1,h2⟩:=a5q hin e l1 l2 r1 r2
   refine done p q ev eu ?_ ?_
   ·rw [h2]
    exact SeqAt.RcAt.tuples t1 t2 hu h1
   ·rw [h2]
    exact SeqAt.RcNeAt.tuples t1 t2 hu h1
  ·obtain ⟨p,vs,ev,q1,l1⟩:=id hx
   obtain ⟨q,us,eu,q2,l2⟩:=id hy
   obtain ⟨its,r1,t1,_⟩:=I.list q1
   obtain ⟨jts,r2,t2,_⟩:=I.list q2
   obtain ⟨w,h1,h2⟩:=a5q hin e l1 l2 r1 r2
   by_cases sz:its.toArray.size=jts.toArray.size
   ·have r1:=SeqAt.RcAt.lists t1.isList t2.isList sz hu h1
    have r2:=SeqAt.RcNeAt.lists t1.isList t2.isList sz hu h1
    rw [sz,Nat.min_self,show (jts.toArray.size == jts.toArray.size)=true by simp,Bool.and_true] at h2
    rw [sz,<-h2] at r1 r2
    exact done p q ev eu r1 r2
   ·have r1:=SeqAt.RcAt.lists_lengths (A:=A) t1.isList t2.isList (by simpa using sz) hu
    have r2:=SeqAt.RcNeAt.lists_lengths (A:=A) t1.isList t2.isList (by simpa using sz) hu
    rw [show (its.toArray.size == jts.toArray.size)=false by simpa using sz,Bool.and_false] at h2
    subst h2
    exact done p q ev eu r1 r2
theorem b0o {k:Nat}(hr:Room k X.A):OpR X (compareOp .Eq) (rD2 X.K (deq 20) false):=by
 intro pins s σ H x y v u Q I rx ry ⟨A,dx,dy,k,e,hx,hy,q⟩
 have:=(a44 I 20 X.A (by have:=hr.units;walk_at "o") dx dy x y v u k e hx hy rx ry).2.1
 exact this X.prog X.w X.xe _ ⟨.bl k,H,I,rfl,q⟩
theorem b3i {k:Nat}(hr:Room k X.A):OpR X (compareOp .NotEq) (rD2 X.K (deq 20) true):=by
 intro pins s σ H x y v u Q I rx ry ⟨A,dx,dy,k,e,hx,hy,q⟩
 have:=(a44 I 20 X.A (by have:=hr.units;walk_at "o") dx dy x y v u k e hx hy rx ry).2.2
 exact this X.prog X.w X.xe _ ⟨.bl (!k),H,I,rfl,q⟩
theorem T6 {k:Nat}(hr:Room k X.A)(ha:QX X a f)(hb:QX X b g):QX X (.Compare a [.Eq] [b] pos) (fBin (oD2 (deq 20) false) f g):=a3o (b0o hr) kD2 ha hb
theorem M9 {k:Nat}(hr:Room k X.A)(ha:QX X a f)(hb:QX X b g):QT X (.Compare a [.Eq] [b] pos) (fTest (fBin (oD2 (deq 20) false) f g)):=a0b (b0o hr) kD2 ha hb
theorem a2V {k:Nat}(hr:Room k X.A)(ha:QX X a f)(hb:QX X b g):QT X (.Compare a [.NotEq] [b] pos) (fTest (fBin (oD2 (deq 20) true) f g)):=a0b (b3i hr) kD2 ha hb
end
section
variable {prog:Program}{w:World}{A:Around}{R:Result->Shared->Prop}{s:Shared}
abbrev Fa:Value->Shared->Prop:=fun _ _=>False
theorem a79 {elt tg iter:Expr}{ifs:List Expr}{scope:Scope}{pos:Pos}{it acc:Value}{env:Env}(I:Nat->Shared->Prop)
  (turn:∀n s,I n s->wpAny (model prog w) A (pyNext it) (fun r s1=>match r with
   | none=>R (.ok .next) s1
   | some v=>wpAny (model prog w) A (letOwnedTupleGo tg it v) (fun _ s2=>wpAny (model prog w) A (assign tg env v) (fun _ s3=>
     wpAny (model prog w) A (forIn ifs true fun c r=>if r=true then do let ok <-isTrue c env (eval c env);pure (ForInStep.yield ok) else pure (ForInStep.yield r)) (fun ok s4=>
      if ok=true then wpAny (model prog w) A (eval elt env) (fun x s5=>wpAny (model prog w) A (call (.builtin "list.append") [acc,x]) (fun _ s6=>∃m,m < n/\I m s6) Fa s5) Fa s4
      else ∃m,m < n/\I m s4) Fa s3) Fa s2) Fa s1) Fa s)
  (n:Nat) (h:I n s):codeAny (model prog w) A (.compLoop (.ListComp elt [⟨tg,iter,ifs,0⟩] scope pos) 0 it acc env) R s:=by
 refine codeAny_loop rfl I (fun n s hI=>?_) n h
 show wpAny _ A ((compTurn (.ListComp elt [⟨tg,iter,ifs,0⟩] scope pos) 0 it acc env).onRaise (fun x=>do noteFrame x env;theTreesLotGoes x)) _ _ s
 refine wpAny_noted ?_
 rw [compTurn_list]
 refine wpAny_bind (wpAny_standAt (wpAny_bind (wpAny_mono (turn n s hI) (fun r s1 h1=>?_) fun _ _ z=>z.elim)))
 cases r with
 | none=>exact wpAny_pure h1
 | some v=>
  refine wpAny_bind (wpAny_mono h1 (fun _ s2 h2=>wpAny_bind (wpAny_mono h2 (fun _ s3 h3=>wpAny_bind (wpAny_mono h3 (fun ok s4 h4=>?_) fun _ _ z=>z.elim)) fun _ _ z=>z.elim)) fun _ _ z=>z.elim)
  cases ok with
  | true=>
   rw [if_pos rfl] at h4 ⊢
   exact wpAny_bind (wpAny_bind (wpAny_mono h4 (fun x s5 h5=>wpAny_bind (wpAny_mono h5 (fun _ s6 h6=>wpAny_pure (wpAny_pure ⟨rfl,h6⟩)) fun _ _ z=>z.elim)) fun _ _ z=>z.elim))
  | false=>
   rw [if_neg Bool.false_ne_true] at h4 ⊢
   exact wpAny_bind (wpAny_pure (wpAny_pure ⟨rfl,h4⟩))
end
def blk (X:Cx) (scope:Scope) (cl:List (Str×Addr)) (s2:Shared) (H2:Hp) (fp:List Addr) (C:Addr) (N:List Str):Cx where
 prog:=X.prog
 w:=X.w
 K:=X.K
 mg:=X.mg
 base:=X.base
 A:=X.A
 N:=N
 s₀:=s2
 H₀:=H2
 env:=compEnvC scope cl C X.env
 outer:=X.stack
 stack:=X.stack
 ex:=fp
 fn:=fun _=>false
 calm:=X.calm
 pn:=[]
 xe:=fun _ _=>False
abbrev accN:Str:=" acc"
inductive Cap (X:Cx) (sc:Scope) (cl:List (Str×Addr)):List Str->List (Option Nat)->Prop where
 | nil:Cap X sc cl [] []
 | own {n:Str} {N:List Str} {js:List (Option Nat)} (t:Cap X sc cl N js):Cap X sc cl (n :: N) (none :: js)
 | cap {n:Str} {N:List Str} {j:Nat} {js:List (Option Nat)} (hj:X.N[j]? =some n) (hk:X.env.scope.names.lookup n=some .cell) (hl:sc.names.lookup n=some .cell) (hc:cl.lookup n=X.env.cells.lookup n) (t:Cap X sc cl N js):Cap X sc cl (n :: N) (some j :: js)
theorem Cap.len {X:Cx}{sc:Scope}{cl:List (Str×Addr)}{N:List Str}{js:List (Option Nat)}(h:Cap X sc cl N js):js.length=N.length:=by
 induction h with
 | nil=>rfl
 | own t ih=>simp [ih]
 | cap _ _ _ _ t ih=>simp [ih]
theorem Cap.get {X:Cx}{sc:Scope}{cl:List (Str×Addr)}{N:List Str}{js:List (Option Nat)}(h:Cap X sc cl N js):∀{i j:Nat} {n:Str},N[i]? =some n->js[i]? =some (some j)->X.N[j]? =some n/\X.env.scope.names.lookup n=some .cell/\sc.names.lookup n=some .cell/\cl.lookup n=X.env.cells.lookup n:=by
 induction h with
 | nil=>intro i j n e1 _;simp at e1
 | own t ih=>
  intro i j n e1 e2
  cases i with
  | zero=>simp at e2
  | succ i=>exact ih (by simpa using e1) (by simpa using e2)
 | cap hj hk hl hc t ih=>
  intro i j n e1 e2
  cases i with
  | zero=>simp at e1 e2;subst e1;subst e2;exact ⟨hj,hk,hl,hc⟩
  | succ i=>exact ih (by simpa using e1) (by simpa using e2)
def capS (js:List (Option Nat)) (σ:L2.St):L2.St:=js.map fun o=>o.bind fun j=>(σ[j]?).join
structure Blk (X:Cx) (scope:Scope) (cl:List (Str×Addr)) (N:List Str) (js:List (Option Nat)):Prop where
 clos:closureFor scope X.env=pure cl
 kind:scope.kind= .function
 cell:∀y∈scope.names,y.2≠.cell
 nms:∀y∈scope.names,y.2= .local->scope.names.lookup y.1=some .local
 cap:Cap X (relabel scope X.env) cl N js
 sub:∀y c,cl.lookup y=some c->X.env.cells.lookup y=some c
 has:∀y,((relabel scope X.env).names.lookup y=some .cell\/(relabel scope X.env).names.lookup y=some .free)->∃c,cl.lookup y=some c
 acc:∀k,(relabel scope X.env).names.lookup accN≠some k
section
variable {X:Cx}{pins:List (Addr×PySem.Obj)}{σ:L2.St}{H2:Hp}{s2 s4:Shared}{scope:Scope}{cl:List (Str×Addr)}{N:List Str}{js:List (Option Nat)}{fp:List Addr}{Dd C:Addr}{m:Str->Option Value}
theorem b0F (I:Inv X pins σ H2 s2)(b:Blk X scope cl N js)(f2:∀y∈fp,FpOk X pins H2 y)(fl:∀y∈fp,y < s2.heap.objs.size)(hC:s2.heap.objs.size<=C):(blk X scope cl s2 H2 fp C (N ++ [accN])).Ok where
 mod:=I.ok.mod
 kind:=b.kind
 glob:=I.ok.glob
 blt:=I.ok.blt
 above:=hC
 inj:=fun x y c e1 e2=>I.ok.inj x y c (b.sub x c e1) (b.sub y c e2)
 has:=fun x h=>b.has x h
 cab:=fun x c h=>nomatch h
 hd:=I.ok.hd
 frames:=I.ok.frames
 stk:=.inl rfl
 exf:=fun y hy=>⟨Nat.ne_of_lt (Nat.lt_of_lt_of_le (fl y hy) hC),fun x c e=>(f2 y hy).2.2.2.2.1 x c (b.sub x c e)⟩
 bs:=I.bs
 bsz:=Nat.le_trans I.ok.bsz I.sz
 noex:=fun y o e hy=>by
  rcases (f2 y hy).2.2.2.1 with z | z
  ·exact I.ok.noex y o e z
  ·exact absurd (Nat.lt_of_lt_of_le (Heap.lt_size e) (Nat.le_trans I.ok.bsz z)) (Nat.lt_irrefl _)
 exfs:=fun y hy z=>(List.mem_cons.mp (I.stkSub y z)).elim (f2 y hy).2.1 (f2 y hy).2.2.1
 funs:=I.stack
 frf:=I.stkFree
theorem a7N (I:Inv X pins σ H2 s2)(b:Blk X scope cl N js)(f2:∀y∈fp,FpOk X pins H2 y)(fl:∀y∈fp,y < s2.heap.objs.size)(hC:s2.heap.objs.size<=C)(hD:s2.heap.objs.size<=Dd)(ne:Dd≠C)
  (ho:s4.os=s2.os) (hg:AllBare s4.gens) (kp:∀y o,s2.heap.get? y=some o->s4.heap.get? y=some o) (hn:s4.heap.Ns C m) (hk:HOk X.prog X.w (upd H2 Dd (.lst [])) s4.heap):
  Inv (blk X scope cl s2 H2 fp C (N ++ [accN])) [] (capS js σ ++ [some (.ref Dd)]) (upd H2 Dd (.lst [])) s4:=by
 have nD:∀y o,s2.heap.get? y=some o->y≠Dd:=fun y o e=>Nat.ne_of_lt (Nat.lt_of_lt_of_le (Heap.lt_size e) hD)
 have nH:∀y u,H2 y=some u->y≠Dd:=fun y u e=>Nat.ne_of_lt (Nat.lt_of_lt_of_le (I.hok.lt e) hD)
 have cD:∀x c,X.env.cells.lookup x=some c->c≠Dd:=fun x c e=>by
  obtain ⟨v,o,e1,_⟩:=I.cell x c e
  exact nD c o e1
 refine ⟨b0F I b f2 fl hC,ho,hg,⟨fun y o e _ _ _=>kp y o e,fun y o e _ _ _=>⟨o.slots,kp y o e⟩,fun y o e n _=>?_,fun y o e _=>⟨o,kp y o e⟩,fun y xs e=>?_,fun y o u e=>?_,fun y ps e=>?_⟩,⟨m,hn,fun i x v e1 e2 e3=>?_⟩,fun x c e=>?_,?_,fun x c e=>?_,fun p hp=>absurd (show p∈([]:List (Addr×PySem.Obj)) from hp) (by simp),hk,?_⟩
 ·rw [g7 (nD y o e)];exact n
 ·rw [g7 (nH _ _ e)];exact e
 ·rw [g7 (nH _ _ e)];exact e
 ·have e':H2 y=some (.tbl ps):=e
  exact ⟨#[],by rw [g7 (nH _ _ e'),e'];simp⟩
 ·have hl:js.length=N.length:=b.cap.len
  by_cases hi:i < N.length
  ·have e1':N[i]? =some x:=by
    have z:(N ++ [accN])[i]? =some x:=e1
    rw [List.getElem?_append_left hi] at z;exact z
   rw [List.getElem?_append_left (by unfold capS;simp;walk_at "o")] at e2
   unfold capS at e2
   rw [List.getElem?_map] at e2
   cases ej:js[i]? with
   | none=>rw [ej] at e2;cases e2
   | some o=>
    rw [ej] at e2
    cases o with
    | none=>cases e2
    | some j=>
     obtain ⟨c1,c2,c3,c4⟩:=b.cap.get e1' ej
     simp only [Option.map_some,Option.bind_some] at e2
     have e2':σ[j]? =some (some v):=by
      cases q:σ[j]? with
      | none=>rw [q] at e2;cases e2
      | some o=>rw [q] at e2;simp at e2;rw [e2]
     obtain ⟨m2,_,hl2⟩:=I.loc
     obtain ⟨u,r,lk⟩:=hl2 j x v c1 e2' (.inr (.inl c2))
     refine ⟨u,r,.inr ⟨.inl c3,?_⟩⟩
     rcases lk with ⟨k,_⟩ | ⟨_,c,e,z⟩
     ·have k':X.env.scope.names.lookup x=some .local:=k
      rw [c2] at k';cases k'
     ·exact ⟨c,c4.trans e,z.keeps kp⟩
  ·have hx:x=accN:=by
    have z:(N ++ [accN])[i]? =some x:=e1
    rw [List.getElem?_append_right (by walk_at "o")] at z
    cases q:i - N.length with
    | zero=>rw [q] at z;simp at z;exact z.symm
    | succ k=>rw [q] at z;simp at z
   subst hx
   rcases e3 with z | z | z
   ·exact absurd z (b.acc _)
   ·exact absurd z (b.acc _)
   ·exact absurd z (b.acc _)
 ·obtain ⟨v,z⟩:=I.cell x c (b.sub x c e)
  exact ⟨v,z.keeps kp⟩
 ·show upd H2 Dd (.lst []) C=none
  rw [g7 (Ne.symm ne)]
  exact I.hok.fresh hC
 ·rw [g7 (cD x c (b.sub x c e))]
  exact I.freeC x c (b.sub x c e)
 ·show (capS js σ ++ [some (V.ref Dd)]).length=(N ++ [accN]).length
  unfold capS
  simp [b.cap.len]
end
def AllC (X:Cx):List (Str×Addr)->Prop
 | []=>True
 | p :: r=>X.env.cells.lookup p.1=some p.2/\AllC X r
theorem AllC.sub {X:Cx}:∀{cl:List (Str×Addr)},AllC X cl->∀y c,cl.lookup y=some c->X.env.cells.lookup y=some c
 | [],_,y,c,e=>by simp at e
 | (n,c0) :: r,h,y,c,e=>by
  rw [List.lookup_cons] at e
  cases q:y == n with
  | true=>
   rw [q] at e
   cases e
   have:y=n:=by simpa using q
   rw [this];exact h.1
  | false=>rw [q] at e;exact AllC.sub h.2 y c e
theorem a3g {α:Type}:∀{l:List (Str×α)} {y:Str} {k:α},l.lookup y=some k->(y,k)∈l
 | [],y,k,e=>by simp at e
 | (n,a) :: r,y,k,e=>by
  rw [List.lookup_cons] at e
  cases q:y == n with
  | true=>
   rw [q] at e;cases e
   have:y=n:=by simpa using q
   rw [this];exact List.mem_cons_self
  | false=>rw [q] at e;exact List.mem_cons_of_mem _ (a3g e)
section
variable {X:Cx}{scope:Scope}{cl:List (Str×Addr)}{N:List Str}{js:List (Option Nat)}
theorem B4 (cap:Cap X (relabel scope X.env) cl N js)(clos:closureFor scope X.env=pure cl)(sub:AllC X cl)(has:(relabel scope X.env).names.all (fun p=>(p.2 != .cell && p.2 != .free) || (cl.lookup p.1).isSome)=true)(kind:scope.kind= .function:=by rfl)(cell:scope.names.all (fun y=>y.2 != .cell)=true:=by decide +kernel)
  (nms:scope.names.all (fun y=>y.2 != .local || scope.names.lookup y.1 == some .local)=true:=by decide +kernel) (acc:(relabel scope X.env).names.lookup accN=none:=by rfl):Blk X scope cl N js where
 clos:=clos
 kind:=kind
 cell:=fun y hy=>by have:=List.all_eq_true.mp cell y hy;simpa using this
 nms:=fun y hy hl=>by have:=List.all_eq_true.mp nms y hy;rw [hl] at this;simpa using this
 cap:=cap
 sub:=sub.sub
 has:=fun y h=>by
  have key:∀k,(relabel scope X.env).names.lookup y=some k->k= .cell\/k= .free->∃c,cl.lookup y=some c:=fun k e hk=>by
   have:=List.all_eq_true.mp has (y,k) (a3g e)
   rcases hk with rfl | rfl <;> simpa [Option.isSome_iff_exists] using this
  rcases h with h | h
  ·exact key _ h (.inl rfl)
  ·exact key _ h (.inr rfl)
 acc:=fun k e=>by rw [acc] at e;cases e
end
def capW (k:Bool):W->Option W
 | .v d=>some (.v d)
 | .o d=>some (if k then .l d else .v d)
 | .l d=>some (if k then .l d else .v d)
 | .r _=>none
def capE (lj:Option Nat) (js:List (Option Nat)) (ρ:Ev):Ev:=js.map fun o=>o.bind fun j=>((ρ[j]?).join).bind (capW (lj == some j))
def Capd (ρ:Ev) (σ:L2.St) (js:List (Option Nat)) (b:Addr):Prop:=∃(j:Nat) (w:W) (d:D),some j∈js/\ρ[j]? =some (some w)/\w.own=some d/\σ[j]? =some (some (V.ref b))
def lentL (li:Option (Nat×Nat)) (σ:L2.St):List (Nat×Addr):=match li with
 | some (i,j)=>match σ[j]? with
  | some (some (.ref a))=>[(i,a)]
  | _=>[]
 | none=>[]
structure LiOk (li:Option (Nat×Nat)) (js:List (Option Nat)) (ρ:Ev):Prop where
 own:∀i j,li=some (i,j)->∃c,ownAt ρ j=some c
 at':∀i j,li=some (i,j)->js[i]? =some (some j)
 one:∀i j k,li=some (i,j)->js[k]? =some (some j)->k=i
section
variable {X:Cx}{P:List (D×V)}{O:Av}{L:List (Nat×Addr)}{ρ:Ev}{σ:L2.St}{H2:Hp}{s2:Shared}{scope:Scope}{cl:List (Str×Addr)}{N:List Str}{js:List (Option Nat)}{fp:List Addr}{Dd C:Addr}{li:Option (Nat×Nat)}
theorem N7 {lj:Option Nat}{i:Nat}{w:W}(e:(capE lj js ρ)[i]? =some (some w)):∃j w0,js[i]? =some (some j)/\ρ[j]? =some (some w0)/\capW (lj == some j) w0=some w:=by
 unfold capE at e
 rw [List.getElem?_map] at e
 cases ej:js[i]? with
 | none=>rw [ej] at e;cases e
 | some o=>
  rw [ej] at e
  cases o with
  | none=>cases e
  | some j=>
   simp only [Option.map_some,Option.bind_some] at e
   cases q:ρ[j]? with
   | none=>rw [q] at e;cases e
   | some o=>
    rw [q] at e
    cases o with
    | none=>cases e
    | some w0=>exact ⟨j,w0,rfl,q,Option.some.inj e⟩
theorem M7 {i j:Nat}{v:V}(ej:js[i]? =some (some j))(e:σ[j]? =some (some v)):(capS js σ)[i]? =some (some v):=by
 unfold capS
 rw [List.getElem?_map,ej]
 simp only [Option.map_some,Option.bind_some]
 rw [e];rfl
theorem B0 {i:Nat}{b:Addr}:(i,b)∈lentL li σ↔∃j,li=some (i,j)/\σ[j]? =some (some (.ref b)):=by
 unfold lentL
 cases li with
 | none=>simp
 | some p=>
  obtain ⟨i',j'⟩:=p
  dsimp only
  constructor
  ·intro h
   split at h
   ·rename_i a q
    rw [List.mem_singleton] at h;cases h
    exact ⟨j',rfl,q⟩
   ·cases h
  ·rintro ⟨j,e,q⟩
   cases e
   rw [q];exact List.mem_singleton.mpr rfl
theorem U3 (r:Rep X P O L ρ σ H2)(hl:LiOk li js ρ){i:Nat}{w:W}{d:D}{v:V}(e1:(capE (li.map (·.2)) js ρ ++ [some (.l (.lst []))])[i]? =some (some w))(e2:w.own=some d)(e3:(capS js σ ++ [some (.ref Dd)])[i]? =some (some v)):
  (i=js.length/\w= .l (.lst [])/\v= .ref Dd)\/∃j a w0,li=some (i,j)/\i < js.length/\w= .l d/\js[i]? =some (some j)/\ρ[j]? =some (some w0)/\w0.own=some d/\σ[j]? =some (some (.ref a))/\v= .ref a:=by
 have hcl:(capE (li.map (·.2)) js ρ).length=js.length:=by unfold capE;simp
 have hsl:(capS js σ).length=js.length:=by unfold capS;simp
 by_cases hi:i < js.length
 ·rw [List.getElem?_append_left (by walk_at "o")] at e1 e3
  obtain ⟨j,w0,ej,q,ew⟩:=N7 e1
  have own0:w0.own≠none/\li.map (·.2)=some j/\w= .l d/\w0.own=some d:=by
   cases w0 with
   | v c=>cases ew;cases e2
   | r c=>cases ew
   | o c=>
    simp only [capW] at ew
    split at ew
    ·rename_i hk;cases ew;cases e2;exact ⟨nofun,by simpa using hk,rfl,rfl⟩
    ·cases ew;cases e2
   | l c=>
    simp only [capW] at ew
    split at ew
    ·rename_i hk;cases ew;cases e2;exact ⟨nofun,by simpa using hk,rfl,rfl⟩
    ·cases ew;cases e2
  obtain ⟨_,hlj,rfl,ow⟩:=own0
  obtain ⟨a,h1,h2⟩:=r.obj q ow
  rw [M7 ej h1] at e3;cases e3
  cases li with
  | none=>cases hlj
  | some p=>
   obtain ⟨i',j'⟩:=p
   cases hlj
   have:=hl.one i' _ i rfl ej
   subst this
   exact .inr ⟨_,a,w0,rfl,hi,rfl,ej,q,ow,h1,rfl⟩
 ·have hi':i=js.length:=by
   have:=(List.getElem?_eq_some_iff.mp e1).1
   rw [List.length_append,hcl] at this;simp at this;walk_at "o"
  subst hi'
  rw [List.getElem?_append_right (by walk_at "o"),hcl,Nat.sub_self] at e1
  rw [List.getElem?_append_right (by walk_at "o"),hsl,Nat.sub_self] at e3
  simp only [List.getElem?_cons_zero,Option.some.injEq] at e1 e3
  exact .inl ⟨rfl,e1.symm,e3.symm⟩
theorem a7O (r:Rep X P O L ρ σ H2)(hl:LiOk li js ρ)(hn:H2 Dd=none):
  Rep (blk X scope cl s2 H2 fp C (N ++ [accN])) P (fun b=>AvO O ρ σ b/\¬Capd ρ σ js b) ((js.length,Dd) :: lentL li σ) (capE (li.map (·.2)) js ρ ++ [some (.l (.lst []))]) (capS js σ ++ [some (.ref Dd)]) (upd H2 Dd (.lst [])):=by
 have hcl:(capE (li.map (·.2)) js ρ).length=js.length:=by unfold capE;simp
 have hsl:(capS js σ).length=js.length:=by unfold capS;simp
 have acc1:(capE (li.map (·.2)) js ρ ++ [some (.l (.lst []))])[js.length]? =some (some (.l (.lst []))):=by rw [List.getElem?_append_right (by walk_at "o"),hcl,Nat.sub_self];rfl
 have acc2:(capS js σ ++ [some (V.ref Dd)])[js.length]? =some (some (.ref Dd)):=by rw [List.getElem?_append_right (by walk_at "o"),hsl,Nat.sub_self];rfl
 have lnt2:∀{i j:Nat} {a:Addr},li=some (i,j)->σ[j]? =some (some (.ref a))->∃w0 d,ρ[j]? =some (some w0)/\w0.own=some d/\(capE (li.map (·.2)) js ρ ++ [some (.l (.lst []))])[i]? =some (some (.l d))/\(capS js σ ++ [some (V.ref Dd)])[i]? =some (some (.ref a)):=fun {i j a} e1 e2=>by
  obtain ⟨c,ec⟩:=hl.own i j e1
  obtain ⟨w0,q,ow⟩:=t3 ec
  have ej:=hl.at' i j e1
  have hi:i < js.length:=(List.getElem?_eq_some_iff.mp ej).1
  refine ⟨w0,c,q,ow,?_,by rw [List.getElem?_append_left (by walk_at "o")];exact M7 ej e2⟩
  rw [List.getElem?_append_left (by walk_at "o")]
  unfold capE
  rw [List.getElem?_map,ej]
  simp only [Option.map_some,Option.bind_some,q,Option.join_some,e1,beq_self_eq_true]
  cases w0 with
  | o x=>cases ow;rfl
  | l x=>cases ow;rfl
  | _=>cases ow
 have av:∀b,AvO (fun b=>AvO O ρ σ b/\¬Capd ρ σ js b) (capE (li.map (·.2)) js ρ ++ [some (.l (.lst []))]) (capS js σ ++ [some (V.ref Dd)]) b->AvO O ρ σ b\/H2 b=none:=fun b z=>by
  rcases z with z | ⟨i,w,d,e1,e2,e3⟩
  ·exact .inl z.1
  ·rcases U3 r hl e1 e2 e3 with ⟨_,_,e⟩ | ⟨j,a,w0,_,_,_,_,q,ow,qs,e⟩
   ·cases e;exact .inr hn
   ·cases e;exact .inl (.inr ⟨j,w0,d,q,ow,qs⟩)
 have g:Go (AvO O ρ σ) (AvO (fun b=>AvO O ρ σ b/\¬Capd ρ σ js b) (capE (li.map (·.2)) js ρ ++ [some (.l (.lst []))]) (capS js σ ++ [some (V.ref Dd)])) (fun _=>False) H2 (upd H2 Dd (.lst [])):=⟨fun b o e _=>k5 hn _ b o e,fun _ z=>z.elim,av⟩
 refine ⟨fun b o e _=>k5 hn _ b o e,fun b z=>⟨r.there z.1,fun i m=>?_⟩,by simp [hcl,hsl],fun i w e=>?_,fun i i' w w' d d' b e1 e2 e3 e4 e5 e6=>?_,fun i d b e=>?_,fun i d e=>?_,fun i b e=>?_,fun p hp=>s0 g _ _ (r.prot p hp)⟩
 ·rcases List.mem_cons.mp m with m | m
  ·cases m;exact r.fresh hn z.1
  ·obtain ⟨j,e1,e2⟩:=B0.mp m
   obtain ⟨w0,d,q,ow,_⟩:=lnt2 e1 e2
   exact z.2 ⟨j,w0,d,List.mem_of_getElem? (hl.at' i j e1),q,ow,e2⟩
 ·by_cases hi:i < js.length
  ·have e':=e
   rw [List.getElem?_append_left (by walk_at "o")] at e'
   obtain ⟨j,w0,ej,q,ew⟩:=N7 e'
   obtain ⟨v,h1,h2⟩:=r.slot j w0 q
   refine ⟨v,by rw [List.getElem?_append_left (by walk_at "o")];exact M7 ej h1,?_⟩
   cases w0 with
   | v c=>cases ew;exact s0 g _ _ h2
   | r c=>cases ew
   | o c=>
    simp only [capW] at ew
    obtain ⟨a,rfl,ob⟩:=h2
    have hk:upd H2 Dd (.lst []) a=H2 a:=g7 fun z=>by obtain ⟨u,eu,_⟩:=C7 ob;rw [z,hn] at eu;cases eu
    split at ew
    ·cases ew;exact ⟨a,rfl,u6 g hk ob⟩
    ·rename_i nk
     cases ew
     refine X6 (u6 g hk ob) fun z=>?_
     rcases z with z | ⟨i2,w2,d2,e1,e2,e3⟩
     ·exact z.2 ⟨j,_,c,List.mem_of_getElem? ej,q,rfl,h1⟩
     ·rcases U3 r hl e1 e2 e3 with ⟨_,_,e⟩ | ⟨j2,a2,w0,l2,_,_,ej2,q2,ow2,qs2,e⟩
      ·cases e;obtain ⟨u,eu,_⟩:=C7 ob;rw [hn] at eu;cases eu
      ·cases e
       have:=r.inj j j2 _ w0 c d2 a q rfl h1 q2 ow2 qs2
       subst this
       rw [l2] at nk;simp at nk
   | l c=>
    simp only [capW] at ew
    obtain ⟨a,rfl,ob⟩:=h2
    have hk:upd H2 Dd (.lst []) a=H2 a:=g7 fun z=>by obtain ⟨u,eu,_⟩:=C7 ob;rw [z,hn] at eu;cases eu
    split at ew
    ·cases ew;exact ⟨a,rfl,u6 g hk ob⟩
    ·rename_i nk
     cases ew
     refine X6 (u6 g hk ob) fun z=>?_
     rcases z with z | ⟨i2,w2,d2,e1,e2,e3⟩
     ·exact z.2 ⟨j,_,c,List.mem_of_getElem? ej,q,rfl,h1⟩
     ·rcases U3 r hl e1 e2 e3 with ⟨_,_,e⟩ | ⟨j2,a2,w0,l2,_,_,ej2,q2,ow2,qs2,e⟩
      ·cases e;obtain ⟨u,eu,_⟩:=C7 ob;rw [hn] at eu;cases eu
      ·cases e
       have:=r.inj j j2 _ w0 c d2 a q rfl h1 q2 ow2 qs2
       subst this
       rw [l2] at nk;simp at nk
  ·have hi':i=js.length:=by
    have:=(List.getElem?_eq_some_iff.mp e).1
    rw [List.length_append,hcl] at this;simp at this;walk_at "o"
   subst hi'
   rw [acc1] at e;cases e
   exact ⟨.ref Dd,acc2,Dd,rfl,[],m5,j9⟩
 ·rcases U3 r hl e1 e2 e3 with ⟨rfl,_,e⟩ | ⟨j,a,w0,l1,_,_,_,q,ow,qs,e⟩
  ·cases e
   rcases U3 r hl e4 e5 e6 with ⟨rfl,_,_⟩ | ⟨j,a,w0,l1,_,_,_,q,ow,qs,e⟩
   ·rfl
   ·cases e;obtain ⟨u,eu,_⟩:=r.owMu ⟨j,w0,d',q,ow,qs⟩;rw [hn] at eu;cases eu
  ·cases e
   rcases U3 r hl e4 e5 e6 with ⟨rfl,_,e⟩ | ⟨j',a',w0',l1',_,_,_,q',ow',qs',e⟩
   ·cases e;obtain ⟨u,eu,_⟩:=r.owMu ⟨j,w0,d,q,ow,qs⟩;rw [hn] at eu;cases eu
   ·rw [l1] at l1';cases l1';rfl
 ·by_cases hi:i < js.length
  ·rw [List.getElem?_append_left (by walk_at "o")] at e
   obtain ⟨j,w0,ej,q,ew⟩:=N7 e
   cases w0 <;> simp only [capW] at ew <;> first | cases ew | (split at ew <;> cases ew)
  ·rw [List.getElem?_append_right (by walk_at "o")] at e
   cases q:i - (capE (li.map (·.2)) js ρ).length with
   | zero=>rw [q] at e;cases e
   | succ n=>rw [q] at e;simp at e
 ·by_cases hi:i < js.length
  ·have e':=e
   rw [List.getElem?_append_left (by walk_at "o")] at e'
   obtain ⟨j,w0,ej,q,ew⟩:=N7 e'
   obtain ⟨v,h1,h2⟩:=r.slot j w0 q
   have e3:(capS js σ ++ [some (V.ref Dd)])[i]? =some (some v):=by rw [List.getElem?_append_left (by walk_at "o")];exact M7 ej h1
   rcases U3 r hl e rfl e3 with ⟨rfl,_⟩ | ⟨j,a,w0,l1,_,_,_,q,ow,qs,rfl⟩
   ·walk_at "o"
   ·exact ⟨a,e3,List.mem_cons_of_mem _ (B0.mpr ⟨j,l1,qs⟩)⟩
  ·have hi':i=js.length:=by
    have:=(List.getElem?_eq_some_iff.mp e).1
    rw [List.length_append,hcl] at this;simp at this;walk_at "o"
   subst hi'
   exact ⟨Dd,acc2,List.mem_cons_self⟩
 ·rcases List.mem_cons.mp e with e | e
  ·cases e;exact ⟨_,acc1,acc2⟩
  ·obtain ⟨j,e1,e2⟩:=B0.mp e
   obtain ⟨w0,d,_,_,q1,q2⟩:=lnt2 e1 e2
   exact ⟨d,q1,q2⟩
end
structure Tst (Y:Cx) (ifs:List Expr) (t:FT):Prop where
 to:∀(pins:List (Addr×PySem.Obj)) (s:Shared) (σ:L2.St) (H:Hp) (P:List (D×V)) (O:Av) (L:List (Nat×Addr)) (ρ ρ':Ev) (k:Bool) (Q:Bool->Hp->Prop),Inv Y pins σ H s->Rep Y P O L ρ σ H->t ρ=some (k,ρ')->(∀H',Rep Y P O L ρ' σ H'->Q k H')->
  wpAny (model Y.prog Y.w) Y.A (forIn ifs true fun c r=>if r=true then do let ok <-isTrue c Y.env (eval c Y.env);pure (ForInStep.yield ok) else pure (ForInStep.yield r)) (TP Y pins σ Q) Fa s
theorem A3 {Y:Cx}:Tst Y [] (fun ρ=>some (true,ρ)):=⟨fun pins s σ H P O L ρ ρ' k Q I r e q=>by cases e;exact wpAny_tests_nil ⟨H,I,q H r⟩⟩
theorem a7r {Y:Cx}{c:Expr}{t:FT}(hx:Y.xe=Fa)(h:QT Y c t):Tst Y [c] t:=⟨fun pins s σ H P O L ρ ρ' k Q I r e q=>by
 have z:=h.to pins s σ H Q I ⟨P,O,L,ρ,k,ρ',r,e,q⟩
 rw [hx] at z
 exact wpAny_tests_one z⟩
def WksB (li:Option (Nat×Nat)) (K:PySem.W.Frag) (P:List (D×V)) (O:Av) (ρ:Ev) (σ:L2.St) (H:Hp) (xs:List D) (J:It):Prop:=∀(Y:Cx) (O':Av) (L:List (Nat×Addr)) (ρ':Ev) (σ':L2.St) (H':Hp),Y.K=K->Y.H₀=H->Rep Y P O' L ρ' σ' H'->(∀b,O' b->AvO O ρ σ b)->(li=none->∀i b,(i,b)∈L->H b=none)->
 (∀(i:Nat) (x:D),xs[i]? =some x->J.go i H'/\∀v H'',J.yld i H' v H''->Same H' H''/\Den K (AvO O' ρ' σ') H'' x v)/\J.stop xs.length H'
def tIB (X:Cx) (li:Option (Nat×Nat)) (fi:FI):TI:=fun σ H R=>∃P O L ρ xs ρ',Rep X P O L ρ σ H/\fi ρ=some (xs,ρ')/\∀J H1 P',Rep X P' O L ρ' σ H1->Holds P' P->WksB li X.K P' O ρ' σ H1 xs J->R J H1
theorem tIBe {X:Cx}{li:Option (Nat×Nat)}{fi:FI}{σ:L2.St}{H:Hp}{R:It->Hp->Prop}{C:Prop}(h:tIB X li fi σ H R)(k:∀P O L ρ xs ρ',Rep X P O L ρ σ H->fi ρ=some (xs,ρ')->(∀J H1 P',Rep X P' O L ρ' σ H1->Holds P' P->WksB li X.K P' O ρ' σ H1 xs J->R J H1)->C):C:=by
 obtain ⟨P,O,L,ρ,w,ρ',r,e,q⟩:=h
 exact k P O L ρ w ρ' r e q
structure QIB (X:Cx) (li:Option (Nat×Nat)) (tg iter:Expr) (fi:FI):Prop where
 to:PI X tg iter (tIB X li fi)
theorem Wks.b {li:Option (Nat×Nat)}{K:PySem.W.Frag}{P:List (D×V)}{O:Av}{ρ:Ev}{σ:L2.St}{H:Hp}{xs:List D}{J:It}(w:Wks K P xs J):WksB li K P O ρ σ H xs J:=fun Y O' L ρ' σ' H' hY _ r _ _=>w Y O' L ρ' σ' H' hY r
theorem a2p {X:Cx}{li:Option (Nat×Nat)}{tg iter:Expr}{fi:FI}(h:QI X tg iter fi):QIB X li tg iter fi:=⟨PI.weak h.to fun σ H R h0=>tIBe h0 fun P O L ρ xs ρ' r e q=>⟨P,O,L,ρ,xs,ρ',r,e,fun J H1 P' r1 hh w=>q J H1 P' r1 hh w.b⟩⟩
def fiName (i:Nat):FI:=fun ρ=>match ρ[i]? with
 | some (some (.v d))=>(items d).map fun xs=>(xs,ρ)
 | some (some (.r _))=>none
 | some (some w)=>match w.own with
  | some (.lst xs)=>some (xs,ρ)
  | _=>none
 | _=>none
theorem b4a {Y:Cx}{P:List (D×V)}{O O':Av}{L:List (Nat×Addr)}{ρ ρ':Ev}{σ σ':L2.St}{H H':Hp}(hH:Y.H₀=H)(r:Rep Y P O' L ρ' σ' H')(ho:∀b,O' b->AvO O ρ σ b)(hn:∀i b,(i,b)∈L->H b=none):Go (AvO O ρ σ) (AvO O' ρ' σ') (fun _=>False) H H' where
 k:=fun b o e _=>r.same b o (by rw [hH];exact e) fun i m=>by rw [hn i b m] at e;cases e
 m:=fun _ z=>z.elim
 n:=fun b z=>by
  rcases z with z | ⟨i,w,d,e1,e2,e3⟩
  ·exact .inl (ho b z)
  ·cases w with
   | o c=>exact .inr (by rw [<-hH];exact r.new i c b e1 e3)
   | l c=>obtain ⟨b',q1,q2⟩:=r.lnt i c e1;rw [e3] at q1;cases q1;exact .inr (hn i b q2)
   | _=>cases e2
theorem B5 {X:Cx}{tg:Expr}{pos:Pos}(i:Nat){x:Str}(hN:X.N[i]? =some x:=by rfl)(hv:Vis X.env.scope x:=by first | exact Or.inl rfl | exact Or.inr (Or.inl rfl) | exact Or.inr (Or.inr rfl))(hd:(x == ("__debug__":Str))=false:=by decide)(hcd:(x == ("__classdict__":Str))=false:=by decide):QIB X none tg (.Name x pos) (fiName i):=⟨PI.weak (b0K (a6y hN hv hd hcd)) fun σ H R h0=>tIBe h0 fun P O L ρ xs ρ' r e q=>by
 unfold fiName at e
 split at e
 ·rename_i d0 e0
  obtain ⟨v,h1,h2⟩:=r.slot i _ e0
  have h2:Den X.K (AvO O ρ σ) H d0 v:=h2
  obtain ⟨ys,e3,e⟩:=oms e
  cases e
  have r3:=r.more (p:=(d0,v)) h2
  have hh:Holds ((d0,v) :: P) P:=fun p hp=>List.mem_cons_of_mem _ hp
  refine ⟨v,h1,?_⟩
  cases d0 with
  | tup zs=>
   cases e3
   have z:=h2
   rw [Den] at z
   obtain ⟨a,vs,rfl,hq,l⟩:=z
   refine .inr ⟨a,rfl,⟨vs,hq⟩,q _ H _ r3 hh (Wks.b fun Y O' L' ρ' σ' Hh hY rr=>?_)⟩
   have z:=rr.head
   rw [hY] at z
   rw [Den] at z
   obtain ⟨a',vs,ea,hq,l⟩:=z
   cases ea
   refine ⟨fun i x ex=>?_,vs,hq,by rw [<-c7 l];exact Nat.le_refl _⟩
   obtain ⟨v0,hv,dv⟩:=w9 l ex
   exact ⟨⟨vs,v0,hq,hv⟩,fun w H' ⟨y1,y2⟩=>by subst y1;have:=y2 vs hq;rw [hv] at this;cases this;exact ⟨Same.refl _,dv⟩⟩
  | lst zs=>
   cases e3
   obtain ⟨a,vs,rfl,hq,l⟩:=M6 h2
   refine .inl ⟨a,rfl,⟨vs,hq⟩,q _ H _ r3 hh (Wks.b fun Y O' L' ρ' σ' Hh hY rr=>?_)⟩
   have z:=rr.head
   rw [hY] at z
   obtain ⟨a',vs,ea,hq,l⟩:=M6 z
   cases ea
   refine ⟨fun i x ex=>?_,vs,hq,by rw [<-c7 l];exact Nat.le_refl _⟩
   obtain ⟨v0,hv,dv⟩:=w9 l ex
   exact ⟨⟨vs,v0,hq,hv⟩,fun w H' ⟨y1,y2⟩=>by subst y1;have:=y2 vs hq;rw [hv] at this;cases this;exact ⟨Same.refl _,dv⟩⟩
  | _=>cases e3
 ·cases e
 ·rename_i w0 _ _ e0
  cases ew:w0.own with
  | none=>rw [ew] at e;cases e
  | some c=>
   rw [ew] at e
   cases c with
   | lst zs=>
    cases e
    obtain ⟨a,h1,h2⟩:=r.obj e0 ew
    refine ⟨.ref a,h1,?_⟩
    obtain ⟨vs,h4,lz⟩:=h2
    refine .inl ⟨a,rfl,⟨vs,.inl (.inl h4)⟩,q _ H P r (fun p hp=>hp) fun Y O' L' ρ2 σ2 Hh hY hH rr ho hn=>?_⟩
    have g:=b4a hH rr ho (hn rfl)
    have l2:=u9 g _ _ lz
    have h5:Hh a=some (.lst vs):=g.k a _ h4 id
    have hq:SqL X.K Hh a vs:=.inl (.inl h5)
    refine ⟨fun i x ex=>?_,vs,hq,by rw [<-c7 lz];exact Nat.le_refl _⟩
    obtain ⟨v0,hv,dv⟩:=w9 l2 ex
    exact ⟨⟨vs,v0,hq,hv⟩,fun w H' ⟨y1,y2⟩=>by subst y1;have:=y2 vs hq;rw [hv] at this;cases this;exact ⟨Same.refl _,dv⟩⟩
   | _=>cases e
 ·cases e⟩
def appTo (k:Nat) (p:W×Ev):Option Ev:=(takeAll p.2 [p.1.fz]).bind fun q=>match q.1,ownAt q.2 k with
 | [d],some (.lst zs)=>if zs.length < lim then some (setOwn q.2 k (.lst (zs ++ [d]))) else none
 | _,_=>none
def turnC (k:Nat) (gf:FG) (t:FT) (fe:FX):D->Ev->Option Ev:=fun x ρ=>(gf x ρ).bind fun ρ1=>(t ρ1).bind fun p=>if p.1=true then (fe p.2).bind (appTo k) else some p.2
def loopC (st:D->Ev->Option Ev):List D->Ev->Option Ev
 | [],ρ=>some ρ
 | x :: xs,ρ=>(st x ρ).bind (loopC st xs)
section
variable {X:Cx}{pins:List (Addr×PySem.Obj)}{σ:L2.St}{H2:Hp}{s2:Shared}{scope:Scope}{cl:List (Str×Addr)}{N:List Str}{js:List (Option Nat)}{fp:List Addr}{it:Addr}{tn:Nat->Heap->Prop}{J:It}
 {elt tg iter:Expr} {ifs:List Expr} {pos:Pos} {P:List (D×V)} {O:Av} {L:List (Nat×Addr)} {ρ ρe:Ev} {xs:List D} {gf:FG} {t:FT} {fe:FX} {Qq:Value->Shared->Prop} {use:Option (Value->Sem Unit)} {li:Option (Nat×Nat)}
theorem a90 (hcalm:X.calm=true)(I2:Inv X pins σ H2 s2)(T:Turn X.prog X.w X.K tg J fp it tn)(st2:tn 0 s2.heap)(f2:∀y∈fp,FpOk X pins H2 y)(b:Blk X scope cl N js)(r:Rep X P O L ρ σ H2)(hl:LiOk li js ρ)(wk:WksB li X.K P O ρ σ H2 xs J)
  (hg:∀C,QG (blk X scope cl s2 H2 fp C (N ++ [accN])) tg gf) (ht:∀C,Tst (blk X scope cl s2 H2 fp C (N ++ [accN])) ifs t) (he:∀C,QX (blk X scope cl s2 H2 fp C (N ++ [accN])) elt fe)
  (e:loopC (turnC js.length gf t fe) xs (capE (li.map (·.2)) js ρ ++ [some (.l (.lst []))])=some ρe)
  (fin:∀(Dd C:Addr) (σe:L2.St) (He:Hp) (s1:Shared),H2 Dd=none->s2.heap.objs.size<=C->Inv (blk X scope cl s2 H2 fp C (N ++ [accN])) [] σe He s1->Rep (blk X scope cl s2 H2 fp C (N ++ [accN])) P (fun b=>AvO O ρ σ b/\¬Capd ρ σ js b) ((js.length,Dd) :: lentL li σ) ρe σe He->
   compPost (model X.prog X.w) X.A X.xe use Qq (.ref Dd) C (.ok .next) s1):
  wpAny (model X.prog X.w) X.A (newList []) (fun acc s3=>wpAny (model X.prog X.w) X.A (newFunctionEnv scope X.env.globals cl [] X.env.qual none .none (some X.env)) (fun cenv s4=>
   codeAny (model X.prog X.w) X.A (.compStart (.ListComp elt [⟨tg,iter,ifs,0⟩] scope pos) 0 (.ref it) acc {cenv with scope:=relabel scope X.env}) (compPost (model X.prog X.w) X.A X.xe use Qq acc cenv.locals) s4) X.xe s3) X.xe s2:=by
 have fl:∀y∈fp,y < s2.heap.objs.size:=fun y hy=>by obtain ⟨o,eo,_⟩:=T.obj _ _ st2 y hy;exact Heap.lt_size eo
 refine wpAny_newObj_type (wpAny_newFunctionEnv b.cell (by intro y hy;simp at hy) (fun h' hns hsb=>?_) b.kind)
 dsimp only at hns hsb ⊢
 generalize hH:s2.heap.push {cls:=.type "list",dict:=none,data:=.seq ([]:List Value).toArray}=H3 at hns hsb ⊢
 have hC:H3.objs.size=s2.heap.objs.size + 1:=by rw [<-hH,Heap.size_push]
 have ne:s2.heap.objs.size≠H3.objs.size:=by rw [hC];exact Nat.ne_of_lt (Nat.lt_succ_self _)
 have leC:s2.heap.objs.size<=H3.objs.size:=by rw [hC];exact Nat.le_succ _
 have kp3:∀y o,s2.heap.get? y=some o->H3.get? y=some o:=fun y o e=>hH▸Heap.get?_push_of_some _ e
 have kp4:∀y o,H3.get? y=some o->h'.get? y=some o:=fun y o e=>hsb.extBut y o (Nat.ne_of_lt (Heap.lt_size e)) (Heap.get?_push_of_some _ e)
 have hDn:H2 s2.heap.objs.size=none:=I2.hok.fresh (Nat.le_refl _)
 have ok3:HOk X.prog X.w (upd H2 s2.heap.objs.size (.lst [])) H3:=I2.hok.laid kp3 (Nat.le_refl _) ⟨Nat.zero_le _,[],0,.nil,by rw [<-hH];exact Heap.get?_push_size _ rfl⟩
 have I4:=a7N (s4:={s2 with heap:=h',toks:=s2.toks + ([]:List (Str×Value)).length}) (Dd:=s2.heap.objs.size) (C:=H3.objs.size) I2 b f2 fl leC (Nat.le_refl _) ne rfl I2.bare (fun y o e=>kp4 y o (kp3 y o e)) hns (ok3.kept kp4)
 have R4:=a7O (scope:=scope) (cl:=cl) (N:=N) (s2:=s2) (fp:=fp) (C:=H3.objs.size) (Dd:=s2.heap.objs.size) r hl hDn
 have hfree:∀{H':Hp},(∀y∈fp,H' y=none)->∀y∈fp,FpOk (blk X scope cl s2 H2 fp H3.objs.size (N ++ [accN])) [] H' y:=fun hn y hy=>
  ⟨hn y hy,Nat.ne_of_lt (Nat.lt_of_lt_of_le (fl y hy) leC),fun z=>(List.mem_cons.mp (I2.stkSub y z)).elim (f2 y hy).2.1 (f2 y hy).2.2.1,.inl hy,fun x c ec=>(f2 y hy).2.2.2.2.1 x c (b.sub x c ec),fun p hp=>absurd (show p∈([]:List (Addr×PySem.Obj)) from hp) (by simp)⟩
 obtain ⟨gg,pg,kg⟩:=(hg H3.objs.size).to
 have loop:∀s5:Shared,s5={s2 with heap:=h',toks:=s2.toks + ([]:List (Str×Value)).length}->
   codeAny (model X.prog X.w) X.A (.compLoop (.ListComp elt [⟨tg,iter,ifs,0⟩] scope pos) 0 (.ref it) (.ref s2.heap.objs.size) (compEnvC scope cl H3.objs.size X.env))
    (compPost (model X.prog X.w) X.A X.xe use Qq (.ref s2.heap.objs.size) H3.objs.size) s5:=by
  rintro s5 rfl
  let Y:=blk X scope cl s2 H2 fp H3.objs.size (N ++ [accN])
  let O':Av:=fun b=>AvO O ρ σ b/\¬Capd ρ σ js b
  let L':=(js.length,s2.heap.objs.size) :: lentL li σ
  refine a79 (fun n s=>∃i σ' H' ρ',n=xs.length - i/\i<=xs.length/\Inv Y [] σ' H' s/\tn i s.heap/\(∀y∈fp,H' y=none)/\Rep Y P O' L' ρ' σ' H'/\loopC (turnC js.length gf t fe) (xs.drop i) ρ'=some ρe) ?_ xs.length
   ⟨0,_,_,_,by simp,Nat.zero_le _,I4,T.keep 0 _ _ st2 fun y hy o eo=>kp4 y o (kp3 y o eo),fun y hy=>by rw [g7 (Nat.ne_of_lt (fl y hy))];exact (f2 y hy).1,R4,by simpa using e⟩
  rintro n s ⟨i,σ',H',ρ',rfl,hi,I,st,fr,rp,el⟩
  obtain ⟨wi,ws⟩:=wk Y O' L' ρ' σ' H' rfl rfl rp (fun b z=>z.1) (fun z i b m=>by subst z;exact (List.mem_cons.mp m).elim (fun m=>by cases m;exact hDn) (fun m=>by cases m))
  by_cases hlt:i < xs.length
  ·obtain ⟨go,yl⟩:=wi i xs[i] (by simp [hlt])
   refine wpAny_mono (T.item Y rfl rfl rfl hcalm i [] s σ' H' Fa I (hfree fr) st go) (fun r s1 ⟨u,hr,h1⟩=>?_) fun _ _ z=>z
   subst hr
   refine wpAny_mono h1 (fun _ s3 ⟨x,H5,I5,r5,y5,st5,fr5⟩=>?_) fun _ _ z=>z
   obtain ⟨sm5,dx⟩:=yl x H5 y5
   replace rp:=rp.grow sm5
   rw [List.drop_eq_getElem_cons hlt,loopC] at el
   cases e1:turnC js.length gf t fe xs[i] ρ' with
   | none=>rw [e1] at el;cases el
   | some ρt=>
    rw [e1] at el
    simp only [Option.bind_some] at el
    unfold turnC at e1
    cases e2:gf xs[i] ρ' with
    | none=>rw [e2] at e1;cases e1
    | some ρ1=>
     rw [e2] at e1
     simp only [Option.bind_some] at e1
     obtain ⟨⟨k,ρ2⟩,e3,e1⟩:=obs e1
     dsimp only at e1
     have I5':=I5.pinned (hfree fr5) (T.obj _ _ st5)
     have gq:=kg P O' L' xs[i] x ρ' ρ1 σ' H5 (fun σ2 Hh=>Rep Y P O' L' ρ1 σ2 Hh) rp dx e2 (fun σ2 H2' rp2=>rp2)
     refine wpAny_mono (pg _ s3 σ' H5 x u _ I5' r5 gq) (fun _ s6 ⟨σ6,H6,I6,rp6⟩=>?_) fun _ _ z=>z
     have back:∀{s7:Shared} {H7:Hp} {ρ7:Ev},Inv Y ([] ++ pinsAt fp s3.heap) σ6 H7 s7->Rep Y P O' L' ρ7 σ6 H7->loopC (turnC js.length gf t fe) (xs.drop (i + 1)) ρ7=some ρe->
       ∃m,m < xs.length - i/\∃i σ' H' ρ',m=xs.length - i/\i<=xs.length/\Inv Y [] σ' H' s7/\tn i s7.heap/\(∀y∈fp,H' y=none)/\Rep Y P O' L' ρ' σ' H'/\loopC (turnC js.length gf t fe) (xs.drop i) ρ'=some ρe:=fun {s7 H7 ρ7} I7 rp7 e7=>by
      refine ⟨xs.length - (i + 1),by omega,i + 1,σ6,H7,ρ7,rfl,hlt,I7.unpinned,T.keep _ _ _ st5 fun y hy o eo=>(I7.pin (y,o) (List.mem_append_right _ (List.mem_append_right _ (w4 hy eo)))).1,fun y hy=>?_,rp7,e7⟩
      obtain ⟨o,eo,_⟩:=T.obj _ _ st5 y hy
      exact (I7.pin (y,o) (List.mem_append_right _ (List.mem_append_right _ (w4 hy eo)))).2.1
     refine wpAny_mono ((ht H3.objs.size).to _ s6 σ6 H6 P O' L' ρ1 ρ2 k (fun k' Hh=>k'=k/\Rep Y P O' L' ρ2 σ6 Hh) I6 rp6 e3 (fun H' rr=>⟨rfl,rr⟩)) (fun ok s7 ⟨H7,I7,hk,rp7⟩=>?_) fun _ _ z=>z
     subst hk
     cases ok with
     | false=>
      rw [if_neg Bool.false_ne_true] at e1 ⊢
      cases e1
      exact back I7 rp7 el
     | true=>
      rw [if_pos rfl] at e1 ⊢
      obtain ⟨⟨w,ρ3⟩,e4,e1⟩:=obs e1
      simp only [appTo] at e1
      obtain ⟨⟨ds,ρ4⟩,e5,e1⟩:=obs e1
      dsimp only at e1
      split at e1
      ·rename_i d zs e6
       split at e1
       ·rename_i hl
        cases e1
        refine wpAny_mono ((he H3.objs.size).to _ s7 σ6 H7 (fun v H8=>Rep Y P O' L' ρ4 σ6 H8/\Den X.K (AvO O' ρ4 σ6) H8 d v) I7 ⟨P,O',L',ρ2,w,ρ3,rp7,e4,fun v H8 H8' r8 s8 d8=>?_⟩) (fun u8 s8 ⟨v8,H8,I8,r8,rp8,d8⟩=>?_) fun _ _ z=>z
        ·obtain ⟨r9,l9,_⟩:=o8 (vs:=[v]) (r8.grow s8) e5 ⟨v,[],rfl,d8.fz r8 s8,rfl⟩
         obtain ⟨v',ev,h'⟩:=denL1 l9
         cases ev
         exact ⟨r9,h'⟩
        ·obtain ⟨d0,q1,q2⟩:=rp8.lnd js.length s2.heap.objs.size List.mem_cons_self
         have e6':=e6
         unfold ownAt at e6'
         rw [q1] at e6'
         cases e6'
         obtain ⟨a,h1,vs,h4,lz⟩:=rp8.obj q1 rfl
         rw [q2] at h1
         cases h1
         have h9:=a2k (X:=Y) _ s8 σ6 H8 (.ref s2.heap.objs.size) [v8] (.ref s2.heap.objs.size) [u8] (fun v H9=>H9=upd H8 s2.heap.objs.size (.lst (vs ++ [v8]))) I8 rfl (.cons r8 .nil) ⟨_,vs,v8,rfl,rfl,h4,by rw [<-c7 lz];exact Nat.lt_of_lt_of_le hl z8,rfl⟩
         refine wpAny_mono h9 (fun _ s9 ⟨v9,H9,I9,_,e9⟩=>?_) fun _ _ z=>z
         subst e9
         have g0:Go (AvO O' ρ4 σ6) (AvO O' ρ4 σ6) (fun b=>b=s2.heap.objs.size) H8 (upd H8 s2.heap.objs.size (.lst (vs ++ [v8]))):=⟨fun b o eb nb=>by rw [g7 nb];exact eb,fun b z=>by rw [z];exact ⟨.inr ⟨js.length,_,_,q1,rfl,q2⟩,_,h4,trivial⟩,fun b z=>.inl z⟩
         exact back I9 (rp8.mut (d:=.lst (zs ++ [d])) e6 q2 (fun b o eb nb=>by rw [g7 nb];exact eb) ⟨_,m5,u9 g0 _ _ (t7 lz (j8 d8 j9))⟩) el
       ·cases e1
      ·cases e1
  ·have hie:i=xs.length:=by omega
   subst hie
   refine wpAny_mono (T.done Y rfl rfl rfl hcalm _ [] s σ' H' Fa I (hfree fr) st ws) (fun r s1 ⟨hr,I1⟩=>?_) fun _ _ z=>z
   subst hr
   rw [List.drop_eq_nil_of_le (Nat.le_refl _),loopC] at el
   cases el
   exact fin _ _ σ' H' s1 hDn leC I1 rp
 exact codeAny_compStart_list (loop _ rfl) (T.self _ 0 _ _ _ (T.keep 0 _ _ st2 fun y hy o eo=>kp4 y o (kp3 y o eo)) (loop _ rfl))
theorem a3u {C:Addr}{σe:L2.St}{He:Hp}{s1:Shared}{h9:Heap}(I2:Inv X pins σ H2 s2)(f2:∀y∈fp,FpOk X pins H2 y)(leC:s2.heap.objs.size<=C)(I1:Inv (blk X scope cl s2 H2 fp C (N ++ [accN])) [] σe He s1)(hs9:∀y,y≠C->h9.get? y=s1.heap.get? y):
  Inv X pins σ He {s1 with heap:=h9}:=by
 have neC:∀y,He y≠none->y≠C:=fun y z w=>z (by rw [w];exact I1.free)
 have inS:∀y o,s2.heap.get? y=some o->y≠C:=fun y o e0=>Nat.ne_of_lt (Nat.lt_of_lt_of_le (Heap.lt_size e0) leC)
 have B:=I1.base
 have un:Un (frs X.stack) fp H2 He s2.heap h9:=⟨fun y o e0 n hb hx=>(hs9 y (inS y o e0)).trans (B.keep y o e0 n hb hx),fun y o e0 n hb hx=>by
   obtain ⟨sl',z⟩:=B.slot y o e0 n hb hx
   exact ⟨sl',(hs9 y (inS y o e0)).trans z⟩,B.free,fun y o e0 hx=>by
   obtain ⟨o',z⟩:=B.there y o e0 hx
   exact ⟨o',(hs9 y (inS y o e0)).trans z⟩,B.tups,B.frzs,B.tbls⟩
 have hok:HOk X.prog X.w He h9:=fun y u0 q0=>(I1.hok y u0 q0).stay (fun c v hc z=>(hs9 c (neC c (by
   rcases hc with w | w
   ·rw [w,q0];exact fun z=>nomatch z
   ·rw [w];exact fun z=>nomatch z))).trans z) (fun _ z=>z) fun _ _ z=>z
 exact I2.call' (s':={s1 with heap:=h9}) (ch:=fp) I1.os un hok I1.bare (fun y hy=>⟨(f2 y hy).2.2.2.1,(f2 y hy).2.1,(f2 y hy).2.2.2.2.1,(f2 y hy).2.2.2.2.2⟩)
end
def capR (js:List (Option Nat)):List W:=js.filterMap fun o=>o.map W.r
def backC (li:Option (Nat×Nat)) (js:List (Option Nat)) (ρe ρ1:Ev) (ys:List D):Option (W×Ev):=match li with
 | none=>if lfL ys=true then some (.o (.lst ys),ρ1) else (frzL (capR js) ρ1).map fun ρ2=>(.o (.lst ys),ρ2)
 | some (i,j)=>if lfL ys=true then (ownAt ρe i).bind fun c=>if lfC c=true then some (.o (.lst ys),setOwn ρ1 j c) else none else none
def liJ (li:Option (Nat×Nat)) (js:List (Option Nat)):Bool:=match li with
 | none=>true
 | some (i,j)=>js[i]? == some (some j) && (List.range js.length).all fun k=>js[k]? != some (some j) || k == i
def liB (li:Option (Nat×Nat)) (ρ:Ev):Bool:=match li with
 | none=>true
 | some (_,j)=>(ownAt ρ j).isSome
def fComp (fi:FI) (li:Option (Nat×Nat)) (js:List (Option Nat)) (gf:FG) (t:FT) (fe:FX):FX:=fun ρ=>(fi ρ).bind fun p=>if liB li p.2=true then
  (loopC (turnC js.length gf t fe) p.1 (capE (li.map (·.2)) js p.2 ++ [some (.l (.lst []))])).bind fun ρe=>match ownAt ρe js.length with
   | some (.lst ys)=>backC li js ρe p.2 ys
   | _=>none
 else none
section
variable {X:Cx}{pins:List (Addr×PySem.Obj)}{σ σe:L2.St}{H2 He:Hp}{s2:Shared}{scope:Scope}{cl:List (Str×Addr)}{N:List Str}{js:List (Option Nat)}{fp:List Addr}{Dd C:Addr}
 {elt tg iter:Expr} {ifs:List Expr} {pos:Pos} {P:List (D×V)} {O:Av} {L:List (Nat×Addr)} {ρ ρ2 ρe:Ev} {w:W} {ys:List D} {fi:FI} {gf:FG} {t:FT} {fe:FX} {li:Option (Nat×Nat)}
theorem b2t (h:liJ li js=true)(hb:liB li ρ=true):LiOk li js ρ:=by
 cases li with
 | none=>exact ⟨nofun,nofun,nofun⟩
 | some p=>
  obtain ⟨i,j⟩:=p
  simp only [liJ,Bool.and_eq_true,beq_iff_eq,List.all_eq_true,List.mem_range,Bool.or_eq_true,bne_iff_ne] at h
  simp only [liB,Option.isSome_iff_exists] at hb
  refine ⟨fun i' j' e=>by cases e;exact hb,fun i' j' e=>by cases e;exact h.1,fun i' j' k e ek=>?_⟩
  cases e
  rcases h.2 k (List.getElem?_eq_some_iff.mp ek).1 with z | z
  ·exact absurd ek z
  ·exact z
theorem a50 {j:Nat}:W.r j∈capR js↔some j∈js:=by
 unfold capR
 rw [List.mem_filterMap]
 constructor
 ·rintro ⟨o,h1,h2⟩
  cases o with
  | none=>cases h2
  | some k=>cases h2;exact h1
 ·exact fun h=>⟨some j,h,rfl⟩
theorem a7S (r:Rep X P O L ρ σ H2)(hl:LiOk li js ρ)(hn:H2 Dd=none)(rp:Rep (blk X scope cl s2 H2 fp C (N ++ [accN])) P (fun b=>AvO O ρ σ b/\¬Capd ρ σ js b) ((js.length,Dd) :: lentL li σ) ρe σe He)
  (ey:ownAt ρe js.length=some (.lst ys)) (e:backC li js ρe ρ ys=some (w,ρ2)):∃Hx,Rep X P O L ρ2 σ Hx/\Same Hx He/\DenW X.K (AvO O ρ2 σ) σ Hx He w (.ref Dd):=by
 obtain ⟨c0,q0,ob⟩:=rp.lents js.length Dd List.mem_cons_self
 rw [ey] at q0;cases q0
 cases li with
 | none=>
  have sm:Same H2 He:=fun b o eb=>rp.same b o eb fun i m=>by
   rcases List.mem_cons.mp m with m | m
   ·cases m;rw [hn] at eb;cases eb
   ·cases m
  unfold backC at e
  simp only at e
  split at e
  ·rename_i hf
   cases e
   exact ⟨H2,r,sm,Dd,rfl,hn,S2 (d:=.lst ys) (fun _ _ e _=>e) hf rfl ob⟩
  ·obtain ⟨ρ3,e4,e⟩:=oms e
   cases e
   obtain ⟨r2,k2⟩:=Q2 r e4
   refine ⟨H2,r2,sm,Dd,rfl,hn,u6 (A1 fun b z=>?_) rfl ob⟩
   rcases z with z | z
   ·obtain ⟨z1,z2⟩:=X8 r k2 z
    exact .inl ⟨z1,fun ⟨j,w,d,m,q⟩=>z2 ⟨j,w,d,a50.mpr m,q⟩⟩
   ·exact .inr ⟨js.length,by rw [z];exact List.mem_cons_self⟩
 | some p=>
  obtain ⟨i,j⟩:=p
  unfold backC at e
  simp only at e
  split at e
  ·rename_i hf
   cases e5:ownAt ρe i with
   | none=>rw [e5] at e;cases e
   | some c=>
    rw [e5] at e
    simp only [Option.bind_some] at e
    split at e
    ·rename_i hc
     cases e
     obtain ⟨c1,ec1⟩:=hl.own i j rfl
     obtain ⟨w0,q1,ow⟩:=t3 ec1
     obtain ⟨a,h1,oba⟩:=r.obj q1 ow
     obtain ⟨u0,eu0,_⟩:=C7 oba
     have na:a≠Dd:=fun z=>by rw [z,hn] at eu0;cases eu0
     have mem:(i,a)∈lentL (some (i,j)) σ:=B0.mpr ⟨j,rfl,h1⟩
     obtain ⟨c2,ec2,ob2⟩:=rp.lents i a (List.mem_cons_of_mem _ mem)
     rw [e5] at ec2;cases ec2
     obtain ⟨ur,eur,mur⟩:=C7 ob
     have keep:∀b o,H2 b=some o->b≠a->He b=some o:=fun b o eb nb=>rp.same b o eb fun k m=>by
      rcases List.mem_cons.mp m with m | m
      ·cases m;rw [hn] at eb;cases eb
      ·obtain ⟨j',e1,e2⟩:=B0.mp m
       cases e1
       rw [h1] at e2;cases e2;exact nb rfl
     refine ⟨fun b=>if b=Dd then none else He b,r.mut ec1 h1 (fun b o eb nb=>?_) (S2 (fun b o eb nm=>?_) hc (if_neg na) ob2),fun b o eb=>?_,Dd,rfl,if_pos rfl,S2 (d:=.lst ys) (fun _ _ e _=>e) hf rfl ob⟩
     ·have:b≠Dd:=fun z=>by rw [z,hn] at eb;cases eb
      show (if b=Dd then none else He b)=some o
      rw [if_neg this];exact keep b o eb nb
     ·have:b≠Dd:=fun z=>by rw [z,eur] at eb;cases eb;exact nm mur
      show (if b=Dd then none else He b)=some o
      rw [if_neg this];exact eb
     ·dsimp only at eb;split at eb
      ·cases eb
      ·exact eb
    ·cases e
  ·cases e
theorem a5t {Q:VK}{Qq:Value->Shared->Prop}{use:Option (Value->Sem Unit)}{H:Hp}{s:Shared}{newPos:Pos}(hc:X.calm=true)(b:Blk X scope cl N js)(hj:liJ li js=true)(hi:QIB X li tg iter fi)
  (hg:∀s2 H2 fp C,QG (blk X scope cl s2 H2 fp C (N ++ [accN])) tg gf) (ht:∀s2 H2 fp C,Tst (blk X scope cl s2 H2 fp C (N ++ [accN])) ifs t) (he:∀s2 H2 fp C,QX (blk X scope cl s2 H2 fp C (N ++ [accN])) elt fe) (hs:∀x,foldedSetIterable iter X.env x=pure x)
  (I:Inv X pins σ H s) (h:tX X (fComp fi li js gf t fe) σ H Q)
  (fin:∀(C:Addr) (v:V) (He:Hp) (s1:Shared),Q v He->(∀h9:Heap,(∀y,y≠C->h9.get? y=s1.heap.get? y)->Inv X pins σ He {s1 with heap:=h9})->FpOk X pins He C->(∃m,s1.heap.Ns C m)->∀vv,RelV v vv->compPost (model X.prog X.w) X.A X.xe use Qq vv C (.ok .next) s1):
  wpAny (model X.prog X.w) X.A (comprehension (.ListComp elt [⟨tg,iter,ifs,0⟩] scope pos) scope X.env newPos (newList []) false (eval iter X.env) use) Qq X.xe s:=by
 obtain ⟨P,O,L,ρ,w,ρ',r,e,q⟩:=h
 unfold fComp at e
 obtain ⟨⟨xs,ρ1⟩,e1,e⟩:=obs e
 dsimp only at e
 split at e
 ·rename_i hb
  cases e2:loopC (turnC js.length gf t fe) xs (capE (li.map (·.2)) js ρ1 ++ [some (.l (.lst []))]) with
  | none=>rw [e2] at e;cases e
  | some ρe=>
   rw [e2] at e
   simp only [Option.bind_some] at e
   split at e
   ·rename_i ys ey
    have hl:=b2t hj hb
    refine wpAny_comprehension_free rfl hs b.clos b.kind b.nms ?_
    refine wpAny_mono (hi.to pins s σ H _ I ⟨P,O,L,ρ,xs,ρ1,r,e1,fun J H1 P' r1 hh wk=>(⟨P',r1,hh,wk⟩:∃P',Rep X P' O L ρ1 σ H1/\Holds P' P/\WksB li X.K P' O ρ1 σ H1 xs J)⟩) (fun v s1 h1=>wpAny_mono h1 (fun itv s2 h2=>?_) fun _ _ z=>z) fun _ _ z=>z
    obtain ⟨it,fp,tn,J,H2,rfl,I2,T,st2,f2,P',r1,hh,wk⟩:=h2
    refine a90 hc I2 T st2 f2 b r1 hl wk (hg s2 H2 fp) (ht s2 H2 fp) (he s2 H2 fp) e2 fun Dd C σe He s3 hn leC I1 rp=>?_
    obtain ⟨Hx,rx,sx,dx⟩:=a7S r1 hl hn rp ey e
    obtain ⟨m,hm,_⟩:=id I1.loc
    refine fin C (.ref Dd) He s3 (q _ Hx He (rx.holds hh) sx dx) (fun h9 k9=>a3u I2 f2 leC I1 k9) ?_ ⟨m,hm⟩ (.ref Dd) rfl
    exact I2.fpOk leC I1.free
   ·cases e
 ·cases e
theorem F2 (hc:X.calm=true)(b:Blk X scope cl N js)(hi:QIB X li tg iter fi)(hg:∀s2 H2 fp C,QG (blk X scope cl s2 H2 fp C (N ++ [accN])) tg gf)(ht:∀s2 H2 fp C,Tst (blk X scope cl s2 H2 fp C (N ++ [accN])) ifs t)(he:∀s2 H2 fp C,QX (blk X scope cl s2 H2 fp C (N ++ [accN])) elt fe)
  (hj:liJ li js=true:=by rfl) (hs:∀x,foldedSetIterable iter X.env x=pure x:=by intro _;rfl):QX X (.ListComp elt [⟨tg,iter,ifs,0⟩] scope pos) (fComp fi li js gf t fe):=⟨fun pins s σ H Q I h=>by
 rw [eval_ListComp]
 refine a5t (use:=none) hc b hj hi hg ht he hs I h fun C v He s1 hq back fp ⟨m,hm⟩ vv rv=>?_
 exact ⟨m,hm,fun h9 k9=>⟨v,He,back h9 fun y ny=>k9.2 y ny,rv,hq⟩⟩⟩
def UseOk (X:Cx) (pins:List (Addr×PySem.Obj)) (σ:L2.St) (Q:VK) (u:Value->Sem Unit) (Rr:Shared->Prop):Prop:=
 ∀(C:Addr) (m:Str->Option Value) (s':Shared) (H':Hp) (v:V) (vv:Value),FpOk X pins H' C->s'.heap.Ns C m->Inv X pins σ H' s'->RelV v vv->Q v H'->
  wpAny (model X.prog X.w) X.A (u vv) (fun _ s2=>∃m,s2.heap.Ns C m/\∀h',Heap.SameBut C s2.heap h'->Rr {s2 with heap:=h'}) X.xe s'
structure QXU (X:Cx) (e:Expr) (f:FX):Prop where
 to:∀(pins:List (Addr×PySem.Obj)) (s:Shared) (σ:L2.St) (H:Hp) (Q:VK) (u:Value->Sem Unit) (Rr:Shared->Prop),Inv X pins σ H s->tX X f σ H Q->UseOk X pins σ Q u Rr->
  wpAny (model X.prog X.w) X.A (evalThenUse e X.env u) (fun _ s'=>Rr s') X.xe s
theorem a9Y {M:Model}{A:Around}{E:Value->Shared->Prop}{s:Shared}{env:Env}{elt:Expr}{g:Comprehension}{gs:List Comprehension}{scope:Scope}{pos:Pos}{u:Value->Sem Unit}{Rr:Shared->Prop}
  (h:wpAny M A (comprehension (.ListComp elt (g :: gs) scope pos) scope env (firstIterPos (g :: gs) pos) (newList []) (firstAsync (g :: gs)) (firstIter (g :: gs) env) (some u)) (fun _ s'=>Rr s') E s):
  wpAny M A (evalThenUse (.ListComp elt (g :: gs) scope pos) env u) (fun _ s'=>Rr s') E s:=by
 show wpAny M A (do let _ <-comprehension (.ListComp elt (g :: gs) scope pos) scope env (firstIterPos (g :: gs) pos) (newList []) (firstAsync (g :: gs)) (firstIter (g :: gs) env) (some u)) _ _ s
 exact wpAny_bind (wpAny_mono h (fun _ s' hq=>wpAny_pure hq) fun _ _ e=>e)
theorem a1V (hc:X.calm=true)(b:Blk X scope cl N js)(hi:QIB X li tg iter fi)(hg:∀s2 H2 fp C,QG (blk X scope cl s2 H2 fp C (N ++ [accN])) tg gf)(ht:∀s2 H2 fp C,Tst (blk X scope cl s2 H2 fp C (N ++ [accN])) ifs t)(he:∀s2 H2 fp C,QX (blk X scope cl s2 H2 fp C (N ++ [accN])) elt fe)
  (hj:liJ li js=true:=by rfl) (hs:∀x,foldedSetIterable iter X.env x=pure x:=by intro _;rfl):QXU X (.ListComp elt [⟨tg,iter,ifs,0⟩] scope pos) (fComp fi li js gf t fe):=⟨fun pins s σ H Q u Rr I h hU=>by
 refine a9Y (a5t (use:=some u) hc b hj hi hg ht he hs I h fun C v He s1 hq back fp ⟨m,hm⟩ vv rv=>?_)
 exact hU C m s1 He v vv fp hm (back s1.heap fun y _=>rfl) rv hq⟩
end
theorem a71 {prog:Program}{w:World}{A:Around}(hh:A.handled=none){l I:Addr}{its:Array Value}(ne:l≠I):
  Walks prog w A I [I,l] [I] its.size (fun i v=>its[i]? =some v) (fun i h=>h.IsListIter I l i/\h.IsList l its) where
 sub:=fun b hb=>by rw [List.mem_singleton.mp hb];exact List.mem_cons_self
 frame:=fun i h h' ⟨⟨o,e,r⟩,⟨o2,e2,r2⟩⟩ k=>⟨⟨o,k I List.mem_cons_self o e,r⟩,⟨o2,k l (List.mem_cons_of_mem _ List.mem_cons_self) o2 e2,r2⟩⟩
 item:=fun i s Q E hi ⟨h1,h2⟩ q=>wpAny_pyNext_list_item h1 h2 (x:=its[i]) (by simp [hi]) fun h' hit hs=>q its[i] h' s.toks (by simp [hi]) ⟨hit,h2.extBut hs.extBut ne⟩ fun b o hb e=>hs.extBut b o (fun z=>hb (by rw [z];exact List.mem_singleton.mpr rfl)) e
 done:=fun s Q E ⟨h1,h2⟩ q=>wpAny_pyNext_list_end hh h1 h2 (by simp) fun h' hx=>q h' s.toks fun b o hb e=>hx b o (fun z=>hb (by rw [z];exact List.mem_singleton.mpr rfl)) e
 self:=fun i s Q E ⟨h1,_⟩ q=>wpAny_pyIter_listiter h1 q
theorem b0t {bs:List Bool}{its:List Value}(r:Vals (bs.map V.bl) its){i:Nat}{v:Value}(e:its.toArray[i]? =some v):v= .bool (bs.getD i false):=by
 rw [List.getElem?_toArray] at e
 induction bs generalizing its i with
 | nil=>cases r;simp at e
 | cons b bs ih=>
  cases r with
  | cons r1 r2=>
   cases i with
   | zero=>simp at e;subst e;exact r1
   | succ i=>exact ih r2 (by simpa using e)
theorem a8u (bs:List Bool)(n:Nat)(hn:n=bs.length):(List.range n).all (fun i=>bs.getD i false)=bs.all id:=by
 subst hn
 apply Bool.eq_iff_iff.mpr
 simp only [List.all_eq_true,List.mem_range,id]
 constructor
 ·intro h x hx
  obtain ⟨i,hi,e⟩:=List.mem_iff_getElem.mp hx
  have:=h i hi
  rw [List.getD_eq_getElem?_getD,List.getElem?_eq_getElem hi] at this
  simpa [e] using this
 ·intro h i hi
  rw [List.getD_eq_getElem?_getD,List.getElem?_eq_getElem hi]
  exact h _ (List.getElem_mem hi)
section
variable {X:Cx}
theorem G3 (hc:X.calm=true):CallR X (.builtin "all") (fun xs H Q=>∃(p:Addr) (bs:List Bool),xs=[.ref p]/\SqL X.K H p (bs.map V.bl)/\Q (.bl (bs.all id)) H):=by
 intro pins s σ H xs us Q I r h
 obtain ⟨p,bs,rfl,hq,q⟩:=h
 obtain ⟨u,rfl,ru⟩:=vals1 r
 cases ru
 obtain ⟨its,rv,⟨o,m,h1,h2,_,h4⟩,hz⟩:=I.list hq
 have hl:s.heap.IsList p its.toArray:=⟨o,h1,h2,m,h4⟩
 have ne:p≠s.heap.objs.size:=Nat.ne_of_lt (Heap.lt_size h1)
 refine call_all_walk (wpAny_pyIter_list hl ⟨s.heap.objs.size,_,_,_,_,_,fun i=>bs.getD i false,rfl,a71 (show X.A.in1.handled=none from I.ok.hd hc) ne,⟨⟨_,Heap.get?_push_size _ rfl,rfl,rfl⟩,hl.push _⟩,fun i v s' Q' E' hv hq'=>?_,fun h' tk hk=>?_⟩)
 ·rw [b0t rv hv];exact wpAny_truthy_bool hq'
 ·have I1:Inv X pins σ H {s with heap:=h',toks:=tk}:=I.kept (t':=tk) fun b ob e=>hk b ob (fun z=>absurd (Heap.lt_size e) (by rw [List.mem_singleton.mp z];exact Nat.lt_irrefl _)) (Heap.get?_push_of_some _ e)
  refine ⟨.bl _,H,I1,?_,q⟩
  show Value.bool _=Value.bool _
  rw [a8u bs _ (by rw [List.size_toArray,<-rv.length,List.length_map])]
end
section
variable {X:Cx}{a b c e:Expr}{es rest:List Expr}{pos p:Pos}{f g h:FX}{t u:FT}{fa:FA}{x:Str}
theorem a72:CallR X (.type "int") (fun xs H Q=>∃b,xs=[.bl b]/\Q (.int (if b then 1 else 0)) H):=by
 intro pins s σ H xs us Q I r h
 obtain ⟨b,rfl,q⟩:=h
 obtain ⟨u,rfl,rx⟩:=vals1 r
 cases (show u=Value.bool b from rx)
 exact call_int_bool ⟨.int _,H,I.tok _,⟨_,rfl⟩,q⟩
theorem a5G (i:Int):∀ns:List Int,inV (.int i) (ns.map V.int)=decide (i∈ns)
 | []=>rfl
 | n :: ns=>by
  have ih:=a5G i ns
  unfold inV at ih ⊢
  rw [List.map_cons,List.any_cons,ih]
  show ((n == i) || _)=_
  by_cases h:n=i
  ·simp [h]
  ·have h':¬i=n:=fun z=>h z.symm
   simp [h,h']
theorem a4k:∀ns:List Int,(ns.map V.int).all flatV=true
 | []=>rfl
 | n :: ns=>by rw [List.map_cons,List.all_cons,a4k ns];rfl
end
def sortI (ns:List Int):List Int:=ns.mergeSort fun a b=>decide (a<=b)
theorem A4 (ns:List Int):(sortI ns).Perm ns:=List.mergeSort_perm ns _
theorem U4 (ns:List Int):(sortI ns).Pairwise (·<=·):=by
 have z:=List.pairwise_mergeSort (le:=fun a b:Int=>decide (a<=b)) (fun a b c h1 h2=>by
  simp only [decide_eq_true_eq] at *;walk_at "o") (fun a b=>by
  simp only [Bool.or_eq_true,decide_eq_true_eq];walk_at "o") ns
 exact z.imp fun h=>by simpa using h
theorem U7:∀{its:List Value} {ns:List Int},IntsAre its ns->Vals (ns.map V.int) its
 | _,_,.nil=>.nil
 | _,_,.cons a t r=>.cons ⟨t,rfl⟩ (U7 r)
section
variable {X:Cx}{e:Expr}{pos p:Pos}{fa:FA}
theorem a1E:CallR X (.builtin "sorted") (fun xs H Q=>∃(p:Addr) (ns:List Int),xs=[.ref p]/\SqL X.K H p (ns.map V.int)/\ns.length < 64/\∀l,H l=none->Q (.ref l) (upd H l (.lst ((sortI ns).map V.int)))):=by
 intro pins s σ H xs us Q I r h
 obtain ⟨p,ns,rfl,hq,h64,q⟩:=h
 obtain ⟨u,rfl,ru⟩:=vals1 r
 cases ru
 refine Calls.call_function_entry kind_sorted plain_sorted entry_sorted (args_sorted1 _) ?_
 unfold Builtin.«sorted»
 refine wpAny_bind (m:=checkCount "sorted" 1 1 _) (wpAny_pure ?_)
 obtain ⟨its,rv,⟨o,m,h1,h2,_,h4⟩,hz⟩:=I.list hq
 have len:its.length=ns.length:=by rw [<-rv.length,List.length_map]
 have hL:s.heap.IsList p its.toArray:=⟨o,h1,h2,m,h4⟩
 have sz:its.length<=sizeLine:=by rw [len,sizeLine_eq];walk_at "o"
 refine wpAny_bind (collect_list hL ?_ sz)
 refine wpAny_bind (wpAny_newList ?_ sz)
 have I1:Inv X pins σ H {s with heap:=(s.heap.push (seqObj "list" #[] 0)).update s.heap.objs.size (PySem.Obj.mapSeq (· ++ its.toArray))}:=I.kept (t':=s.toks) fun b o e=>by
  rw [Heap.get?_update_ne _ _ _ _ (Nat.ne_of_lt (Heap.lt_size e))];exact Heap.get?_push_of_some _ e
 generalize hG:(s.heap.push (seqObj "list" #[] 0)).update s.heap.objs.size (PySem.Obj.mapSeq (· ++ its.toArray))=G at I1 ⊢
 have ho:(G.push (seqObj "list" its.toArray 0)).get? G.objs.size=some (seqObj "list" its.toArray 0):=Heap.get?_push_size _ rfl
 refine wpAny_bind (wpAny_holding ?_)
 refine wpAny_call_entry PyProof.Rows.slot_list_sort ⟨_,ho,rfl⟩ PyProof.Rows.entry_list_sort (list_sort_tree (n:=0) (vs:=its) ho (P5 rv) (by walk_at "o") fun out ns' hI hp hP=>⟨.none,rfl,?_⟩) (PyProof.Rows.args_list_sort _)
 have es:ns'=sortI ns:=PySem.W.lks_uniq (hp.trans (A4 ns).symm) hP (U4 ns)
 subst es
 have g1:=get?_update_seq ho (fun _=> #[])
 have g2:=get?_update_seq (Heap.get?_push_of_some (seqObj "list" #[] 0) (Heap.get?_push_of_some (seqObj "tuple" its.toArray 0) g1)) (fun _=>out)
 have kept:∀b o,G.get? b=some o->(sortedHeap (G.push (seqObj "list" its.toArray 0)) G.objs.size its out).get? b=some o:=fun b o e=>by
  have ne:b≠G.objs.size:=Nat.ne_of_lt (Heap.lt_size e)
  unfold sortedHeap
  rw [Heap.get?_update_ne _ _ _ _ ne]
  refine Heap.get?_push_of_some _ (Heap.get?_push_of_some _ ?_)
  rw [Heap.get?_update_ne _ _ _ _ ne]
  exact Heap.get?_push_of_some _ e
 refine wpAny_pure ⟨_,rfl,.ref G.objs.size,_,I1.laid (t':=s.toks) (o:=.lst ((sortI ns).map V.int)) kept (Nat.le_refl _) ?_,rfl,q _ (I1.hok.fresh (Nat.le_refl _))⟩
 obtain ⟨ep,g3⟩:∃ep,(sortedHeap (G.push (seqObj "list" its.toArray 0)) G.objs.size its out).get? G.objs.size=some (seqObj "list" out.toList.toArray ep):=⟨_,by rw [Array.toArray_toList];exact g2⟩
 exact ⟨by rw [List.length_map,(A4 ns).length_eq,sizeLine_eq];walk_at "o",out.toList,_,U7 hI,g3⟩
end
section
variable {prog:Program}{w:World}{A:Around}{E:Value->Shared->Prop}{s:Shared}
theorem a6C {t sl:Addr}{items:Array Value}{vl vu:Value}{lo hi:Option Int}{Q:Value->Shared->Prop}(ht:IsTup s.heap t items)(hs:s.heap.IsSliceOf sl vl vu .none)(pl:IsPart vl lo)(pu:IsPart vu hi)
  (hw:HT.sIx items.size 0 lo=0/\HT.sIx items.size items.size hi=items.size) (h:Q (.ref t) s):wpAny (model prog w) A (getItem (.ref t) (.ref sl)) Q E s:=by
 obtain ⟨os,hos,hcs,hds⟩:=id hs
 have hTs:s.TypeIs (.ref sl) "slice":=⟨os,hos,hcs⟩
 unfold getItem
 try with_reducible refine wpAny_holding ?_
 first | refine wpAny_bind (wpAny_pure ?_) | skip
 refine wpAny_bind (wpAny_sequenceKey ht.typeIs (by decide) ?_)
 refine wpAny_bind (wpAny_callSpecial?_slot (name:=Str.ofString "__getitem__") ht.typeIs PyProof.Rows.slot_tuple_getitem
  (wpAny_call_entry PyProof.Rows.slot_tuple_getitem ht.typeIs entry_tuple_getitem ?_ (args_tuple_getitem _ _)))
 show wpAny _ _ (Builtin.Tuple.tupleItemsOf (.ref t) >>=_) _ _ s
 refine wpAny_bind (tupleItemsOf_ ht ?_)
 refine wpAny_bind (wpAny_typeOf hTs ?_)
 rw [if_pos (by decide)]
 refine wpAny_bind (HT.sliceApplied_gen hs pl pu ?_)
 show wpAny _ _ (if (((HT.sIx items.size 0 lo:Nat):Int) == 0 && (1:Int) == 1 && (HT.sIx items.size items.size hi - HT.sIx items.size 0 lo) == items.size)=true then _ else _) _ _ s
 rw [if_pos (by rw [hw.1,hw.2];simp)]
 unfold Builtin.Tuple.tupleIsExact
 refine wpAny_bind (wpAny_bind (wpAny_typeOf ht.typeIs (wpAny_pure ?_)))
 rw [if_pos (by decide)]
 first
  | exact wpAny_bind (wpAny_rule (wpAny_pure ⟨_,rfl,wpAny_pure h⟩))
  | exact wpAny_bind (wpAny_rule (wpAny_bind (wpAny_pure (wpAny_pure ⟨_,rfl,wpAny_pure h⟩))))
end
section
variable {X:Cx}{a b c e:Expr}{es rest:List Expr}{pos p:Pos}{f g h:FX}{t u:FT}{fa:FA}{x:Str}
def rSlF (K:PySem.W.Frag):V->Option Int->Option Int->Hp->VK->Prop:=fun x lo hi H Q=>∃a xs,x= .ref a/\SqT K H a xs/\(HT.sIx xs.length 0 lo=0/\HT.sIx xs.length xs.length hi=xs.length)/\Q (.ref a) H
theorem b1Q:SlR X (rSlF X.K):=by
 intro pins s σ H x v vl vu lo hi sl Q I rx hs pl pu h
 obtain ⟨a,xs,rfl,hx,hw,q⟩:=h
 cases rx
 obtain ⟨its,r,ht,hz⟩:=I.tuple hx
 have hlen:its.toArray.size=xs.length:=by rw [List.size_toArray];exact r.length.symm
 refine ⟨"tuple",_,PyProof.Rows.slot_tuple_getitem.lookup,ht.typeIs,?_⟩
 exact a6C ht hs pl pu (by rw [hlen];exact hw) ⟨.ref a,H,I,rfl,q⟩
theorem qx_b {id:String}{r:List V->Hp->VK->Prop}{k:List D->Option W}(hc:CallR X (.builtin id) r)(hk:PrA X k r)(hm:X.mg x=none)(ha:QA X (e :: es) fa)(hv:bootBuiltins x=some (.builtin id):=by rfl)(hg:Gl X x:=by rfl)(hn:x≠"__name__":=by decide)(hdb:(x == ("__debug__":Str))=false:=by decide)
  (he:starEach (e :: es) X.env=(false,eval e X.env) :: starEach es X.env:=by rfl) (hpl:(backTo pos (starEach es X.env)).any (·.1)=false:=by rfl):QX X (.Call (.Name x p) (e :: es) [] pos) (fCall k fa):=a3r hc hk hv hm ha hg hn hdb he hpl
theorem qx_t {T:String}{r:List V->Hp->VK->Prop}{k:List D->Option W}(hc:CallR X (.type T) r)(hk:PrA X k r)(hm:X.mg x=none)(ha:QA X (e :: es) fa)(hv:bootBuiltins x=some (.type T):=by rfl)(hg:Gl X x:=by rfl)(hn:x≠"__name__":=by decide)(hdb:(x == ("__debug__":Str))=false:=by decide)
  (he:starEach (e :: es) X.env=(false,eval e X.env) :: starEach es X.env:=by rfl) (hpl:(backTo pos (starEach es X.env)).any (·.1)=false:=by rfl):QX X (.Call (.Name x p) (e :: es) [] pos) (fCall k fa):=a5A hc hk hv hm ha hg hn hdb he hpl
def k1 (g:D->Option W):List D->Option W
 | [d]=>g d
 | _=>none
theorem pr1 {g:D->Option W}{r:List V->Hp->VK->Prop}(h:∀(A:Av) (d:D) (w:W) (v:V) (H:Hp) (Q:VK),g d=some w->DenR X.K A H d v->(∀z H',Same H H'->DenW X.K A [] H H' w z->Q z H')->r [v] H Q):PrA X (k1 g) r:=fun A ds w vs H Q _ e l q=>by
 unfold k1 at e
 split at e
 ·obtain ⟨v,rfl,h1⟩:=denRL1 l;exact h A _ w v H Q e h1 q
 ·cases e
def k2 (g:Int->Int->D):List D->Option W
 | [.int i,.int j]=>some (.v (g i j))
 | _=>none
theorem pr2 {g:Int->Int->Int}{r:List V->Hp->VK->Prop}(h:∀i j (H:Hp) (Q:VK),Q (.int (g i j)) H->r [.int i,.int j] H Q):PrA X (k2 fun i j=>.int (g i j)) r:=fun A ds w vs H Q _ e l q=>by
 unfold k2 at e
 split at e
 ·rename_i i j
  cases e
  obtain ⟨v,v',rfl,h1,h2⟩:=denRL2 l
  rw [k7 h1,k7 h2]
  exact h i j H Q (q _ H (Same.refl H) G7)
 ·cases e
def gLen (d:D):Option W:=(items d).map fun xs=>.v (.int xs.length)
theorem G0:PrA X (k1 gLen) (fun xs H Q=>∃p ys,xs=[.ref p]/\(SqL X.K H p ys\/SqT X.K H p ys)/\Q (.int ys.length) H):=pr1 fun A d w v H Q e h q=>by
 unfold gLen at e
 obtain ⟨xs,e1,e⟩:=oms e
 cases e
 obtain ⟨a,ws,rfl,hq,lw⟩:=P3 e1 h
 exact ⟨a,ws,rfl,hq,by rw [<-c7 lw];exact q _ H (Same.refl H) G7⟩
def gAbs:D->Option W
 | .int i=>some (.v (.int (if i < 0 then -i else i)))
 | _=>none
theorem a3n:PrA X (k1 gAbs) (fun xs H Q=>∃i,xs=[.int i]/\Q (.int (if i < 0 then -i else i)) H):=pr1 fun A d w v H Q e h q=>by
 cases d <;> simp only [gAbs] at e <;> cases e
 exact ⟨_,by rw [k7 h],q _ H (Same.refl H) G7⟩
abbrev gMax:=k2 fun i j=>.int (if j > i then j else i)
abbrev gMin:=k2 fun i j=>.int (if j < i then j else i)
theorem b36:PrA X gMax (fun xs H Q=>∃i j,xs=[.int i,.int j]/\Q (.int (if j > i then j else i)) H):=pr2 fun i j H Q q=>⟨i,j,rfl,q⟩
theorem b2T:PrA X gMin (fun xs H Q=>∃i j,xs=[.int i,.int j]/\Q (.int (if j < i then j else i)) H):=pr2 fun i j H Q q=>⟨i,j,rfl,q⟩
def gStr:D->Option W
 | .int i=>if i.natAbs < 2 ^ 1900 then some (.v (.str (toString i))) else none
 | _=>none
def gInt:D->Option W
 | .bl b=>some (.v (.int (if b then 1 else 0)))
 | _=>none
theorem b4d:PrA X (k1 gInt) (fun xs H Q=>∃b,xs=[.bl b]/\Q (.int (if b then 1 else 0)) H):=pr1 fun A d w v H Q e h q=>by
 cases d <;> simp only [gInt] at e <;> cases e
 exact ⟨_,by rw [a2G h],q _ H (Same.refl H) G7⟩
def gTuple (d:D):Option W:=(items d).map fun xs=>.v (.tup xs)
theorem N6:PrA X (k1 gTuple) (fun xs H Q=>∃p ys,xs=[.ref p]/\((SqL X.K H p ys/\∀l,H l=none->Q (.ref l) (upd H l (.tup ys)))\/(SqT X.K H p ys/\Q (.ref p) H))):=pr1 fun A d w v H Q e h q=>by
 cases d <;> simp only [gTuple,items,Option.map_none] at e <;> first | cases e | skip
 ·rename_i xs
  obtain ⟨a,vs,rfl,hq,l⟩:=G5 h
  exact ⟨a,vs,rfl,.inr ⟨hq,q _ H (Same.refl H) h⟩⟩
 ·rename_i xs
  obtain ⟨a,vs,rfl,hq,l⟩:=h
  exact ⟨a,vs,rfl,.inl ⟨hq,fun l' hl=>q _ _ (k5 hl _) (a1Q hl l)⟩⟩
def gList (d:D):Option W:=(items d).map fun xs=>.o (.lst xs)
theorem b1A:PrA X (k1 gList) (fun xs H Q=>∃p ys,xs=[.ref p]/\(SqL X.K H p ys\/SqT X.K H p ys)/\∀l,H l=none->Q (.ref l) (upd H l (.lst ys))):=pr1 fun A d w v H Q e h q=>by
 unfold gList at e
 obtain ⟨xs,e1,e⟩:=oms e
 cases e
 obtain ⟨a,ws,rfl,hq,lw⟩:=P3 e1 h
 exact ⟨a,ws,rfl,hq,fun l hl=>q _ _ (k5 hl _) (C3 hl lw)⟩
def intsOf:List D->Option (List Int)
 | []=>some []
 | .int i :: ds=>(intsOf ds).map fun is=>i :: is
 | _=>none
theorem w8:∀{ds:List D} {is:List Int},intsOf ds=some is->ds=is.map D.int
 | [],is,e=>by cases e;rfl
 | .int i :: ds,is,e=>by
  rw [intsOf] at e
  cases e1:intsOf ds with
  | none=>rw [e1] at e;cases e
  | some js=>rw [e1] at e;cases e;rw [List.map_cons,<-w8 e1]
 | .non :: ds,is,e=>by cases e
 | .bl _ :: ds,is,e=>by cases e
 | .str _ :: ds,is,e=>by cases e
 | .tup _ :: ds,is,e=>by cases e
 | .lst _ :: ds,is,e=>by cases e
 | .dT _ _ :: ds,is,e=>by cases e
 | .dK _ _ :: ds,is,e=>by cases e
 | .exn _ :: ds,is,e=>by cases e
theorem p8:∀is:List Int,intsOf (is.map D.int)=some is
 | []=>rfl
 | i :: is=>by rw [List.map_cons,intsOf,p8 is];rfl
theorem v3 {K:PySem.W.Frag}{A:Av}{H:Hp}:∀{is:List Int} {vs:List V},DenL K A H (is.map D.int) vs->vs=is.map V.int
 | [],vs,l=>by rw [List.map_nil,DenL] at l;exact l
 | i :: is,vs,l=>by
  rw [List.map_cons,DenL] at l
  obtain ⟨v,r,rfl,h,l⟩:=l
  rw [F5.mp h,v3 l];rfl
theorem K6 {K:PySem.W.Frag}{A:Av}{H:Hp}:∀ns:List Int,DenL K A H (ns.map D.int) (ns.map V.int)
 | []=>by rw [List.map_nil,List.map_nil];exact j9
 | n :: ns=>by rw [List.map_cons,List.map_cons];exact j8 (by rw [Den]) (K6 ns)
def boolsOf:List D->Option (List Bool)
 | []=>some []
 | .bl i :: ds=>(boolsOf ds).map fun is=>i :: is
 | _=>none
theorem a3h:∀{ds:List D} {is:List Bool},boolsOf ds=some is->ds=is.map D.bl
 | [],is,e=>by cases e;rfl
 | .bl i :: ds,is,e=>by
  rw [boolsOf] at e
  cases e1:boolsOf ds with
  | none=>rw [e1] at e;cases e
  | some js=>rw [e1] at e;cases e;rw [List.map_cons,<-a3h e1]
 | .non :: ds,is,e=>by cases e
 | .int _ :: ds,is,e=>by cases e
 | .str _ :: ds,is,e=>by cases e
 | .tup _ :: ds,is,e=>by cases e
 | .lst _ :: ds,is,e=>by cases e
 | .dT _ _ :: ds,is,e=>by cases e
 | .dK _ _ :: ds,is,e=>by cases e
 | .exn _ :: ds,is,e=>by cases e
theorem a2v:∀is:List Bool,boolsOf (is.map D.bl)=some is
 | []=>rfl
 | i :: is=>by rw [List.map_cons,boolsOf,a2v is];rfl
theorem a0T {K:PySem.W.Frag}{A:Av}{H:Hp}:∀{is:List Bool} {vs:List V},DenL K A H (is.map D.bl) vs->vs=is.map V.bl
 | [],vs,l=>by rw [List.map_nil,DenL] at l;exact l
 | i :: is,vs,l=>by
  rw [List.map_cons,DenL] at l
  obtain ⟨v,r,rfl,h,l⟩:=l
  rw [a2s.mp h,a0T l];rfl
def gBools (r:List Bool->Bool):D->Option W
 | .lst xs=>(boolsOf xs).map fun bs=>.v (.bl (r bs))
 | _=>none
theorem M5 {r:List Bool->Bool}:PrA X (k1 (gBools r)) (fun xs H Q=>∃(p:Addr) (bs:List Bool),xs=[.ref p]/\SqL X.K H p (bs.map V.bl)/\Q (.bl (r bs)) H):=pr1 fun A d w v H Q e h q=>by
 cases d with
 | lst xs=>
  simp only [gBools] at e
  obtain ⟨bs,e1,e⟩:=oms e
  cases e
  obtain ⟨a,vs,rfl,hq,l⟩:=h
  rw [a3h e1] at l
  rw [a0T l] at hq
  exact ⟨a,bs,rfl,hq,q _ H (Same.refl H) F4⟩
 | _=>cases e
def gSortI:D->Option W
 | .lst xs=>(intsOf xs).bind fun ns=>if ns.length < 64 then some (.o (.lst ((sortI ns).map D.int))) else none
 | _=>none
theorem a93:PrA X (k1 gSortI) (fun xs H Q=>∃(p:Addr) (ns:List Int),xs=[.ref p]/\SqL X.K H p (ns.map V.int)/\ns.length < 64/\∀l,H l=none->Q (.ref l) (upd H l (.lst ((sortI ns).map V.int)))):=pr1 fun A d w v H Q e h q=>by
 cases d with
 | lst xs=>
  simp only [gSortI] at e
  cases e1:intsOf xs with
  | none=>rw [e1] at e;cases e
  | some bs=>
   rw [e1] at e
   simp only [Option.bind_some] at e
   split at e
   ·rename_i hl
    cases e
    obtain ⟨a,vs,rfl,hq,l⟩:=h
    rw [w8 e1] at l
    rw [v3 l] at hq
    exact ⟨a,bs,rfl,hq,hl,fun l hl=>q _ _ (k5 hl _) (C3 hl (K6 _))⟩
   ·cases e
 | _=>cases e
def oLtT:D->D->Option W
 | .int i,.int j=>some (.v (.bl (decide (i < j))))
 | .tup xs,.tup ys=>(intsOf xs).bind fun ns=>(intsOf ys).map fun ms=>.v (.bl (HT.lexLt ns ms))
 | _,_=>none
theorem kLtT:Pr2 X oLtT (fun v u H Q=>rI0 (fun i j=>.bl (decide (i < j))) v u H Q\/rLtT X.K v u H Q):=by
 intro A x y w v u H Q _ e hx hy q
 unfold oLtT at e
 split at e
 ·cases e;exact .inl ⟨_,_,k7 hx,k7 hy,q _ H (Same.refl H) F4⟩
 ·rename_i xs ys
  cases e1:intsOf xs with
  | none=>rw [e1] at e;cases e
  | some ns=>
   cases e2:intsOf ys with
   | none=>rw [e1,e2] at e;cases e
   | some ms=>
    rw [e1,e2] at e;cases e
    obtain ⟨a,vs,rfl,h1,l1⟩:=G5 hx
    obtain ⟨b,us,rfl,h2,l2⟩:=G5 hy
    rw [w8 e1] at l1;rw [w8 e2] at l2
    rw [v3 l1] at h1;rw [v3 l2] at h2
    exact .inr ⟨a,b,ns,ms,rfl,rfl,h1,h2,q _ H (Same.refl H) F4⟩
 ·cases e
theorem a5d {k:Nat}(hr:Room k X.A)(ha:QX X a f)(hb:QX X b g):QX X (.Compare a [.Lt] [b] pos) (fBin oLtT f g):=a3o (b2w.or (a9u (by have:=hr.units;walk_at "o"))) kLtT ha hb
theorem a5m {k:Nat}(hr:Room k X.A)(ha:QX X a f)(hb:QX X b g):QT X (.Compare a [.Lt] [b] pos) (fTest (fBin oLtT f g)):=a0b (b2w.or (a9u (by have:=hr.units;walk_at "o"))) kLtT ha hb
def oInI (neg:Bool) (x y:D):Option W:=match x with
 | .int i=>(items y).bind fun ys=>(intsOf ys).map fun ns=>.v (.bl (if neg then !decide (i∈ns) else decide (i∈ns)))
 | _=>none
theorem kInI {neg:Bool}:Pr2 X (oInI neg) (rIn X.K neg):=by
 intro A x y w v u H Q _ e hx hy q
 cases x with
 | int i=>
  simp only [oInI] at e
  cases e1:items y with
  | none=>rw [e1] at e;cases e
  | some ys=>
   rw [e1] at e
   simp only [Option.bind_some] at e
   obtain ⟨ns,e2,e⟩:=oms e
   cases e
   obtain ⟨p,vs,rfl,hq,l⟩:=P3 e1 hy
   rw [w8 e2] at l
   rw [v3 l] at hq
   rw [k7 hx]
   exact ⟨p,ns.map V.int,rfl,hq,rfl,a4k ns,by rw [a5G];exact q _ H (Same.refl H) F4⟩
 | _=>cases e
def fChain (o o':D->D->Option W) (f g h:FX):FX:=fun ρ=>(f ρ).bind fun p=>(g p.2).bind fun q=>(dr q.2 p.1.fz).bind fun x=>(dr q.2 q.1.fz).bind fun y=>(o x y).bind fun d=>match d with
 | .v (.bl k)=>if k=true then (h q.2).bind fun z=>(dr z.2 q.1.fz).bind fun y=>(dr z.2 z.1.fz).bind fun z'=>(o' y z').map fun w=>(w,z.2) else some (.v (.bl false),q.2)
 | _=>none
abbrev FO:=Ev->Option (Option Int×Ev)
def tO (X:Cx) (f:FO):TO:=fun σ H Q=>∃P O L ρ o ρ',Rep X P O L ρ σ H/\f ρ=some (o,ρ')/\∀H',Rep X P O L ρ' σ H'->Q o H'
theorem tOe {X:Cx}{f:FO}{σ:L2.St}{H:Hp}{Q:Option Int->Hp->Prop}{C:Prop}(h:tO X f σ H Q)(k:∀P O L ρ o ρ',Rep X P O L ρ σ H->f ρ=some (o,ρ')->(∀H',Rep X P O L ρ' σ H'->Q o H')->C):C:=by
 obtain ⟨P,O,L,ρ,w,ρ',r,e,q⟩:=h
 exact k P O L ρ w ρ' r e q
structure QO (X:Cx) (e:Option Expr) (f:FO):Prop where
 to:PO X e (tO X f)
theorem PO.weak {X:Cx}{e:Option Expr}{t u:TO}(h:PO X e t)(w:∀σ H Q,u σ H Q->t σ H Q):PO X e u:=fun pins s σ H Q I q=>h pins s σ H Q I (w σ H Q q)
def fO0:FO:=fun ρ=>some (none,ρ)
def fO1 (f:FX):FO:=fun ρ=>(f ρ).bind fun p=>match p.1 with | .v (.int i)=>some (some i,p.2) | _=>none
theorem a0x:QO X none fO0:=⟨PO.weak b2e fun σ H Q h0=>tOe h0 fun P O L ρ o ρ' r e q=>by cases e;exact q H r⟩
theorem a0C (ha:QX X e f):QO X (some e) (fO1 f):=⟨PO.weak (b0N ha.to) fun σ H Q h0=>tOe h0 fun P O L ρ o ρ' r e q=>by
 unfold fO1 at e
 obtain ⟨⟨w,ρ1⟩,e1,e⟩:=obs e
 dsimp only at e
 split at e
 ·rename_i i
  cases e
  refine ⟨P,O,L,ρ,_,_,r,e1,fun v H1 H' r1 s1 d1=>⟨i,?_,q H' (r1.grow s1)⟩⟩
  have d1:Den X.K (AvO O ρ' σ) H' (.int i) v:=d1
  exact F5.mp d1
 ·cases e⟩
def cutD (xs:List D) (lo hi:Option Int):List D:=(xs.drop (HT.sIx xs.length 0 lo)).take (HT.sIx xs.length xs.length hi - HT.sIx xs.length 0 lo)
theorem a5F {K:PySem.W.Frag}{A:Av}{H:Hp}{xs:List D}{vs:List V}(lo hi:Option Int)(l:DenL K A H xs vs):DenL K A H (cutD xs lo hi) (cutV vs lo hi):=by
 unfold cutD cutV
 rw [c7 l]
 exact a3X _ (a4q _ l)
def slD (x:D) (lo hi:Option Int):Option W:=match x with
 | .tup xs=>some (.v (.tup (cutD xs lo hi)))
 | .lst xs=>some (.o (.lst (cutD xs lo hi)))
 | _=>none
def fSl (f:FX) (lo hi:FO):FX:=fun ρ=>(f ρ).bind fun p=>(lo p.2).bind fun l=>(hi l.2).bind fun u=>(dr u.2 p.1.fz).bind fun x=>(slD x l.1 u.1).map fun w=>(w,u.2)
theorem T8 {lo hi:Option Expr}{fl fu:FO}{p2:Pos}(ha:QX X a f)(hl:QO X lo fl)(hu:QO X hi fu):QX X (.Subscript a (.Slice lo hi none p2) pos) (fSl f fl fu):=⟨PE.weak (a9B ((b1Y.or b22).or b1Q) ha.to hl.to hu.to) fun σ H Q h0=>tXe h0 fun P O L ρ w ρ' r e q=>by
 unfold fSl at e
 obtain ⟨⟨w1,ρ1⟩,e1,e⟩:=obs e
 dsimp only at e
 obtain ⟨⟨l,ρ2⟩,e2,e⟩:=obs e
 dsimp only at e
 obtain ⟨⟨u,ρ3⟩,e3,e⟩:=obs e
 dsimp only at e
 refine ⟨P,O,L,ρ,w1,ρ1,r,e1,fun v H1 H1' r1 s1 d1=>?_⟩
 obtain ⟨P',r1',k1⟩:=hold (r1.grow s1) (d1.fz r1 s1)
 refine ⟨P',O,L,ρ1,l,ρ2,r1',e2,fun H2 r2=>⟨P',O,L,ρ2,u,ρ3,r2,e3,fun H3 r3=>?_⟩⟩
 obtain ⟨r4,d4⟩:=k1 ρ3 H3 r3
 cases e4:dr ρ3 w1.fz with
 | none=>rw [e4] at e;cases e
 | some x=>
  rw [e4] at e
  simp only [Option.bind_some] at e
  have dx:=S9 r4 e4 d4
  cases x with
  | tup xs=>
   cases e
   obtain ⟨a,vs,ev,hq,la⟩:=G5 dx
   by_cases hn:HT.sIx xs.length 0 l=0/\HT.sIx xs.length xs.length u=xs.length
   ·refine .inr ⟨a,vs,ev,hq,by rw [<-c7 la];exact hn,q _ H3 H3 r4 (Same.refl _) ?_⟩
    have ec:cutD xs l u=xs:=by
     unfold cutD
     rw [hn.1,hn.2,List.drop_zero,Nat.sub_zero,List.take_length]
    rw [ec,<-ev]
    exact dx
   ·exact .inl (.inr ⟨a,vs,ev,hq,by rw [<-c7 la];exact hn,fun p hp=>q _ H3 _ r4 (k5 hp _) (a1Q hp (a5F l u la))⟩)
  | lst xs=>
   cases e
   obtain ⟨a,vs,ev,hq,la⟩:=dx
   exact .inl (.inl ⟨a,vs,ev,hq,fun p hp=>q _ H3 _ r4 (k5 hp _) (C3 hp (a5F l u la))⟩)
  | _=>cases e⟩
end
section
variable {X:Cx}{a b c e o:Expr}{es rest:List Expr}{pos p apos:Pos}{f g h:FX}{t u:FT}{fa:FA}{x:Str}
theorem a2K (i:Nat){pos':Pos}(hN:X.N.Nodup)(ha:QXU X e f)(hi:X.N[i]? =some x:=by rfl)(hx:Loc X.env.scope x:=by first | exact Or.inl rfl | exact Or.inr rfl)(hs:swapsWith e (some (.Name x pos')) pos.line X.env=pure true:=by rfl)(hf:X.fn x=true\/X.env.scope.names.lookup x=some .local:=by first | exact .inl rfl | exact .inr rfl):
  QS X (.Assign [.Name x pos'] e pos) (fAsg i f):=⟨fun pins s σ H E I h0=>tSe h0 fun P O L ρ r rp e0 q=>by
 unfold fAsg at e0
 obtain ⟨⟨w,ρ1⟩,e1,e0⟩:=obs e0
 dsimp only at e0
 obtain ⟨ρ2,e2,e0⟩:=oms e0
 cases e0
 rw [exec_Assign_Name_used _ _ _ _ hs]
 refine wpAny_bind (wpAny_standAt (wpAny_bind (wpAny_mono (ha.to pins s σ H (fun v H'=>∃H1,Rep X P O L ρ1 σ H1/\Same H1 H'/\DenW X.K (AvO O ρ1 σ) σ H1 H' w v) (assign (.Name x pos') X.env) (fun s'=>SP X pins E .next s') I ⟨P,O,L,ρ,w,ρ1,rp,e1,fun v H1 H' r1 s1 d1=>⟨H1,r1,s1,d1⟩⟩ ?_) (fun _ s' h=>wpAny_pure h) fun _ _ z=>z)))
 intro C m s' H' v vv fp hn I' rv ⟨H1,r1,sm,dv⟩
 obtain ⟨o,es,ep,ho,hd,hk⟩:=hn
 obtain ⟨f0,f1,f2,f3,f4,f5⟩:=fp
 have I2:Inv X (pins ++ [(C,o)]) σ H' s':=I'.pins_of fun p hp=>(List.mem_append.mp hp).elim (fun z=>I'.pin p (List.mem_append_right _ z)) fun z=>by
  rw [List.mem_singleton.mp z]
  exact ⟨ho,f0,f1,f2,fun w z=>by rw [hd] at z;cases z⟩
 refine wpAny_mono (a7k hN hi hx hf (pins ++ [(C,o)]) s' σ H' v vv (fun σ2 H2=>σ2=σ.set i (some v)/\H2=H') I2 rv ⟨rfl,rfl⟩) (fun _ s2 ⟨σ2,H2,I3,e2',e3⟩=>?_) fun _ _ z=>z
 subst e2' e3
 have pc:=I3.pin (C,o) (List.mem_append_right _ (List.mem_append_right _ (List.mem_singleton.mpr rfl)))
 refine ⟨m,⟨o,es,ep,pc.1,hd,hk⟩,fun h' hs'=>?_⟩
 exact ⟨_,_,(I3.unpinned).turned (t':=s2.toks) (it:=C) (fun b o' hb eb=>(hs'.2 b hb).trans eb) f0 f1 f3 f4 f5,q _ _ (a7j r1 sm dv e2)⟩⟩
def isLst:Option D->Bool
 | some (.lst _)=>true
 | _=>false
def fMut (op:List D->List D->Option (W×List D)) (f:FX) (fa:FA):FX:=fun ρ=>(f ρ).bind fun p=>match p.1 with
 | .r i=>if isLst (ownAt p.2 i)=true then (fa p.2).bind fun q=>(takeAll q.2 q.1).bind fun z=>match ownAt z.2 i with
  | some (.lst xs)=>(op xs z.1).map fun y=>(y.1,setOwn z.2 i (.lst y.2))
  | _=>none
  else none
 | _=>none
def PrM (X:Cx) (op:List D->List D->Option (W×List D)) (r:V->List V->Hp->VK->Prop):Prop:=∀(A:Av) (a:Addr) (xs ds:List D) (w:W) (ys:List D) (us vs:List V) (H:Hp) (Q:VK),H a=some (.lst us)->DenL X.K A H xs us->DenL X.K A H ds vs->op xs ds=some (w,ys)->
 (∀z ws,DenL X.K A H ys ws->DenW X.K A [] H H w z->Q z (upd H a (.lst ws)))->(w= .v .non\/∃d,w= .v d)->r (.ref a) vs H Q
theorem a3b {op:List D->List D->Option (W×List D)}{r:V->List V->Hp->VK->Prop}(hk:PrM X op r)(hw:∀xs ds w ys,op xs ds=some (w,ys)->∃d,w= .v d):∀σ H Q,tX X (fMut op f fa) σ H Q->tBM X.K "list" r (tX X f) (tA X fa) σ H Q:=fun σ H Q h0=>tXe h0 fun P O L ρ w ρ' rp e q=>by
 unfold fMut at e
 obtain ⟨⟨w1,ρ1⟩,e1,e⟩:=obs e
 dsimp only at e
 split at e
 ·rename_i i
  split at e
  ·rename_i hl
   refine ⟨P,O,L,ρ,_,ρ1,rp,e1,fun v H1 H1' r1 s1 d1=>?_⟩
   have d1:σ[i]? =some (some v):=d1
   have r1':=r1.grow s1
   refine ⟨?_,?_⟩
   ·unfold isLst at hl
    split at hl
    ·rename_i xs e2
     obtain ⟨w0,q0,ow⟩:=t3 e2
     obtain ⟨a,h1,vs,h2,_⟩:=r1'.obj q0 ow
     rw [d1] at h1;cases h1
     exact .inl ⟨rfl,vs,.inl (.inl h2)⟩
    ·cases hl
   ·obtain ⟨⟨ws,ρ2⟩,e3,e⟩:=obs e
    dsimp only at e
    obtain ⟨⟨ds,ρ3⟩,e4,e⟩:=obs e
    dsimp only at e
    split at e
    ·rename_i xs e5
     obtain ⟨⟨wy,ys⟩,e6,e⟩:=oms e
     cases e
     refine ⟨P,O,L,ρ1,ws,ρ2,r1',e3,fun vs H2 r2 l2=>?_⟩
     obtain ⟨r3,l3,_⟩:=o8 r2 e4 l2
     obtain ⟨w0,q0,ow⟩:=t3 e5
     obtain ⟨a,h1,us,h2,l⟩:=r3.obj q0 ow
     rw [d1] at h1;cases h1
     refine hk _ a xs ds _ ys us vs H2 Q h2 l l3 e6 (fun z wz lz dz=>?_) (.inr (hw _ _ _ _ e6))
     have g0:Go (AvO O ρ3 σ) (AvO O ρ3 σ) (fun b=>b=a) H2 (upd H2 a (.lst wz)):=⟨fun b o eb nb=>by rw [g7 nb];exact eb,fun b z=>by rw [z];exact ⟨.inr ⟨i,w0,_,q0,ow,d1⟩,_,h2,trivial⟩,fun b z=>.inl z⟩
     have r4:Rep X P O L (setOwn ρ3 i (.lst ys)) σ (upd H2 a (.lst wz)):=r3.mut (d:=.lst ys) e5 d1 (fun b o eb nb=>by rw [g7 nb];exact eb) ⟨wz,m5,u9 g0 _ _ lz⟩
     refine q z _ _ r4 (Same.refl _) ?_
     obtain ⟨d,rfl⟩:=hw _ _ _ _ e6
     have av:∀b,AvO O (setOwn ρ3 i (.lst ys)) σ b->AvO O ρ3 σ b:=fun b z=>z.imp id fun z=>(a0G e5 b).mp z
     exact s0 (A1 av) _ _ (s0 g0 _ _ dz)
    ·cases e
  ·cases e
 ·cases e
def mApp (xs ds:List D):Option (W×List D):=match ds with
 | [d]=>if xs.length < lim then some (.v .non,xs ++ [d]) else none
 | _=>none
theorem a8x:PrM X mApp rAppend:=fun A a xs ds w ys us vs H Q h l l' e q _=>by
 unfold mApp at e
 split at e
 ·split at e
  ·rename_i d hl
   cases e
   obtain ⟨v,rfl,hv⟩:=denL1 l'
   exact ⟨a,us,v,rfl,rfl,h,by rw [<-c7 l];exact Nat.lt_of_lt_of_le hl z8,q _ _ (t7 l (j8 hv j9)) a0k⟩
  ·cases e
 ·cases e
theorem b3Y:∀xs ds w ys,mApp xs ds=some (w,ys)->∃d,w= .v d:=fun xs ds w ys e=>by
 unfold mApp at e
 split at e
 ·split at e
  ·cases e;exact ⟨_,rfl⟩
  ·cases e
 ·cases e
theorem a1X (ho:QX X o f)(ha:QA X (e :: es) fa)(hbase:attributeBase o "append" X.env (eval o X.env)=eval o X.env:=by rfl)
  (hfew:((backTo pos (starEach (e :: es) X.env)).all (fun x=>!x.1) && (backToKw pos (keywordEach [] X.env)).all (fun x=>x.1.isSome) && decide ((e :: es).length + ([]:List Keyword).length + (if ([]:List Keyword).isEmpty then 0 else 1) < 30))=true:=by rfl)
  (hline:(apos.endLine == pos.line)=true:=by rfl) (hs:starEach (e :: es) X.env=(false,eval e X.env) :: starEach es X.env:=by rfl) (hpl:(backTo pos (starEach es X.env)).any (·.1)=false:=by rfl):QX X (.Call (.Attribute o "append" apos) (e :: es) [] pos) (fMut mApp f fa):=
 ⟨PE.weak (a9J PySem.F.plainAttrs_list PySem.F.slot_list_append PySem.F.type_list_append a2k ho.to ha.to hbase hfew hline hs hpl) (a3b a8x b3Y)⟩
end
section
variable {P:Program}{w:World}{K:PySem.W.Frag}{mg:Str->Option Value}{base:Heap}
def spLaw (K:PySem.W.Frag):Sp:=fun vs H Q _=>∃(a:Addr) (ns:List Int),vs=[.ref a]/\((∃o,H a=some (.frz o (.lst (ns.map V.int))))\/SqL K (fun _=>none) a (ns.map V.int))/\ns.length<=63/\∀H',Q (.bl true) H'
theorem b4j {st:Stmt}{f:Addr}{fd:FuncData}{N ps:List Str}{k np n:Nat}{G:FS}(F:Fun K "law" "law" st f fd)(S:FnScope N ps (defScope st))(hp:ps.length=np)(hn:N.length=n)
  (body:∀(cdv:Value) (A:Around) (outer:List Env) (s:Shared) (H:Hp) (E:XK),Room k (A.deeper (envOfC "law" (defScope st) s.heap.objs.size f cdv))->
   QSs (cxOf CX0 P w K mg base N "law" (defScope st) f cdv A outer s H E).nox (defBody st) G)
  (h:∀ns:List Int,ns.length<=63->runD np n G [.lst (ns.map D.int)]=some (.v (.bl true))):FnOk P w K mg base CX0 (k + 1) f fd ps (spLaw K):=by
 have den:∀(H:Hp) (a:Addr) (ns:List Int),((∃o,H a=some (.frz o (.lst (ns.map V.int))))\/SqL K (fun _=>none) a (ns.map V.int))->DenL K (fun _=>False) H [.lst (ns.map D.int)] [.ref a]:=fun H a ns hq=>by
  refine j8 ?_ j9
  rw [Den]
  exact ⟨a,_,rfl,.inr hq,K6 ns⟩
 refine F.ok S (fun vs H Q E ⟨a,ns,ev,hq,hl,q⟩=>?_) (fun cdv A outer s H vs Q E hr ⟨a,ns,ev,hq,hl,q⟩=>⟨_,(body cdv A outer s H E hr).to,?_⟩)
 ·have e:=h ns hl
  unfold runD at e
  split at e
  ·rename_i hl'
   rw [ev,hp,<-hl'];rfl
  ·cases e
 ·have e:=h ns hl
  unfold runD at e
  split at e
  ·rename_i hl'
   cases e1:G (start0 n [.lst (ns.map D.int)]) with
   | none=>rw [e1] at e;cases e
   | some r=>
    rw [e1] at e
    refine ⟨[],fun _=>False,[],_,r,a3O rfl hn (fun b z=>z.elim) (by rw [ev];exact den H a ns hq),e1,?_⟩
    cases r with
    | rt d' ρ'=>cases e;exact fun v H' s' _ d1=>by rw [a1m d1];exact q H'
    | nx ρ'=>cases e
    | bk ρ'=>cases e
    | ct ρ'=>cases e
  ·cases e
theorem walk {l:PySem.W.OpenLaw}{q:Program}{loose:List Str}{XP:(Str->Option Value)->Heap->Prop}{YP:World->Heap->Prop}{d:DefRec}{K:Params->PySem.W.Frag}(hn:l.most=some 63)(hdf:d.params.defaults=[])
  (hY:∀(w:World) (h:Heap),YP w h->(K w.params).In h)
  (F:∀(w:World) (mg:Str->Option Value) (fa:Addr) (h:Heap),(K w.params).In h->h.Ns mainGlobals mg->mg d.name=some (.ref fa)->
   ∃fd:FuncData,(∀(s:Shared) (u:Value),BindsTo s fd ⟨[u],[]⟩ [("script",u)])/\∀base:Heap,(K w.params).In base->base.Ns mainGlobals mg->FnOk l.prog w (K w.params) mg base CX0 60 fa fd ["script"] (spLaw (K w.params))):
  PySem.W.WalkO q loose XP YP l.row.toRowW d [] (fun f vs=>PySem.call f vs):=
 L2.b2a (n:=63) (k:=60) (x:="script") (CX:=fun _=>CX0) (sp:=fun w=>spLaw (K w.params)) hn (by decide) hdf ⟨rfl,by decide,by decide,rfl⟩ hY F (fun _ H a ns hl hO hS=>⟨a,ns,rfl,(by
  rcases hS with (hS | ⟨o,hS⟩) | hS
  ·rcases hO a with z | ⟨o,ys,z⟩
   ·rw [z] at hS;cases hS
   ·rw [z] at hS;cases hS
  ·exact .inl ⟨o,hS⟩
  ·exact .inr (.inr hS)),hl,fun _=>rfl⟩) fun _ _ _ _ _ z=>z
end
end Z
set_option maxHeartbeats 1000000
set_option exponentiation.threshold 100000
namespace Z
open PySem L2
theorem lfW_v {d:D}:lfW (.v d)=lf d:=rfl
theorem lfW_o {d:D}:lfW (.o d)=lfC d:=rfl
theorem b0S {xs:List D}:lfC (.lst xs)=lfL xs:=rfl
theorem b38 {ks:List (List Key)}{xs:List D}:lfC (.dT ks xs)=lfL xs:=rfl
theorem lfC_dK {ks:List Key}{xs:List D}:lfC (.dK ks xs)=lfL xs:=rfl
def freeO:Option W->Bool
 | some (.l _)=>false
 | _=>true
theorem a6K:freeO none=true:=rfl
theorem b05 {d:D}:freeO (some (.v d))=true:=rfl
theorem b1k {d:D}:freeO (some (.o d))=true:=rfl
theorem freeO_l {d:D}:freeO (some (.l d))=false:=rfl
theorem free_nil {n:Nat}:freeSlot [] n=true:=rfl
theorem b2Z {x:Option W}{ρ:Ev}:freeSlot (x :: ρ) 0=freeO x:=by
 unfold freeSlot freeO
 rw [List.getElem?_cons_zero]
 cases x with
 | none=>rfl
 | some w=>cases w <;> rfl
theorem b3S {x:Option W}{ρ:Ev}{n:Nat}:freeSlot (x :: ρ) (n + 1)=freeSlot ρ n:=by
 unfold freeSlot
 rw [List.getElem?_cons_succ]
theorem a8P {xs:List D}:isLst (some (.lst xs))=true:=rfl
theorem liB_none {ρ:Ev}:liB none ρ=true:=rfl
theorem liB_some {i j:Nat}{ρ:Ev}:liB (some (i,j)) ρ=(ownAt ρ j).isSome:=rfl
theorem own_nil {n:Nat}:ownAt [] n=none:=rfl
theorem own_0 {w:W}{ρ:Ev}:ownAt (some w :: ρ) 0=w.own:=rfl
theorem own_n {ρ:Ev}:ownAt (none :: ρ) 0=none:=rfl
theorem own_s {x:Option W}{ρ:Ev}{n:Nat}:ownAt (x :: ρ) (n + 1)=ownAt ρ n:=by
 unfold ownAt
 rw [List.getElem?_cons_succ]
theorem b2O {c d:D}{ρ:Ev}:setOwn (some (.l c) :: ρ) 0 d=some (.l d) :: ρ:=rfl
theorem b3Z {c d:D}{ρ:Ev}:setOwn (some (.o c) :: ρ) 0 d=some (.o d) :: ρ:=rfl
theorem b34 {x:Option W}{ρ:Ev}{n:Nat}{d:D}:setOwn (x :: ρ) (n + 1) d=x :: setOwn ρ n d:=by
 unfold setOwn
 rw [List.getElem?_cons_succ]
 split <;> rename_i h <;> simp [h]
theorem frz_nil {n:Nat}:frzAt [] n=none:=rfl
theorem frz_o {d:D}{ρ:Ev}:frzAt (some (.o d) :: ρ) 0=some (some (.v d) :: ρ):=rfl
theorem frz_v {d:D}{ρ:Ev}:frzAt (some (.v d) :: ρ) 0=some (some (.v d) :: ρ):=rfl
theorem frz_s {x:Option W}{ρ:Ev}{n:Nat}:frzAt (x :: ρ) (n + 1)=(frzAt ρ n).map fun ρ'=>x :: ρ':=by
 unfold frzAt
 rw [List.getElem?_cons_succ]
 split <;> rename_i h <;> simp [h]
abbrev acc (zs:List D):Ev:=[some (.l (.lst zs))]
theorem a6H {B:Ev}{zs:List D}{k:Nat}(h:B.length=k):ownAt (B ++ acc zs) k=some (.lst zs):=by
 unfold ownAt
 rw [List.getElem?_append_right (by walk_at "o"),h,Nat.sub_self];rfl
theorem b0Z {B:Ev}{zs ys:List D}{k:Nat}(h:B.length=k):setOwn (B ++ acc zs) k (.lst ys)=B ++ acc ys:=by
 unfold setOwn
 have e:(B ++ acc zs)[k]? =some (some (.l (.lst zs))):=by rw [List.getElem?_append_right (by walk_at "o"),h,Nat.sub_self];rfl
 rw [e]
 simp only
 rw [List.set_append_right _ _ (by walk_at "o"),h,Nat.sub_self];rfl
theorem app_v {B:Ev}{zs:List D}{k:Nat}{w:W}{d:D}(h:B.length=k)(hw:w= .v d\/w= .o d)(hl:zs.length < lim):appTo k (w,B ++ acc zs)=some (B ++ acc (zs ++ [d])):=by
 unfold appTo
 have e:w.fz= .v d:=by rcases hw with rfl | rfl <;> rfl
 simp only [e,takeAll,Option.map_some,Option.bind_some]
 rw [a6H h]
 simp only [if_pos hl,b0Z h]
theorem a0y {k:Nat}{gf:FG}{t:FT}{fe:FX}(I:Ev->Prop)(p:D->Bool)(h:D->D)(hI:∀B,I B->B.length=k):∀(xs:List D),(∀x∈xs,∀B zs,I B->∃B' w,I B'/\gf x (B ++ acc zs)=some (B' ++ acc zs)/\t (B' ++ acc zs)=some (p x,B' ++ acc zs)/\(p x=true->fe (B' ++ acc zs)=some (w,B' ++ acc zs)/\(w= .v (h x)\/w= .o (h x))))->
  ∀(B:Ev) (zs:List D),zs.length + xs.length<=lim->I B->∃B',I B'/\loopC (turnC k gf t fe) xs (B ++ acc zs)=some (B' ++ acc (zs ++ (xs.filter p).map h))
 | [],st,B,zs,hl,i=>⟨B,i,by simp [loopC]⟩
 | x :: xs,st,B,zs,hl,i=>by
  obtain ⟨B1,w,i1,e1,e2,e3⟩:=st x List.mem_cons_self B zs i
  rw [List.length_cons] at hl
  cases hp:p x with
  | true=>
   obtain ⟨e4,hw⟩:=e3 hp
   obtain ⟨B2,i2,e5⟩:=a0y I p h hI xs (fun y hy=>st y (List.mem_cons_of_mem _ hy)) B1 (zs ++ [h x]) (by rw [List.length_append,List.length_singleton];walk_at "o") i1
   refine ⟨B2,i2,?_⟩
   rw [loopC,turnC,e1]
   have ea:=app_v (zs:=zs) (hI B1 i1) hw (by walk_at "o")
   simp only [Option.bind_some,e2,hp,if_true,e4,ea]
   rw [e5,List.filter_cons_of_pos hp,List.map_cons,List.append_assoc];rfl
  | false=>
   obtain ⟨B2,i2,e5⟩:=a0y I p h hI xs (fun y hy=>st y (List.mem_cons_of_mem _ hy)) B1 zs (by walk_at "o") i1
   refine ⟨B2,i2,?_⟩
   rw [loopC,turnC,e1]
   simp only [Option.bind_some,e2,hp,Bool.false_eq_true,if_false]
   rw [e5,List.filter_cons_of_neg (by rw [hp];exact Bool.false_ne_true)]
theorem t5 {fi:FI}{js:List (Option Nat)}{gf:FG}{t:FT}{fe:FX}{ρ ρ1:Ev}{xs:List D}(I:Ev->Prop)(p:D->Bool)(h:D->D)(ei:fi ρ=some (xs,ρ1))(hI:∀B,I B->B.length=js.length)(h0:I (capE none js ρ1))(hl:xs.length<=lim)(hf:lfL ((xs.filter p).map h)=true)
  (st:∀x∈xs,∀B zs,I B->∃B' w,I B'/\gf x (B ++ acc zs)=some (B' ++ acc zs)/\t (B' ++ acc zs)=some (p x,B' ++ acc zs)/\(p x=true->fe (B' ++ acc zs)=some (w,B' ++ acc zs)/\(w= .v (h x)\/w= .o (h x)))):
  fComp fi none js gf t fe ρ=some (.o (.lst ((xs.filter p).map h)),ρ1):=by
 obtain ⟨B',i',e⟩:=a0y I p h hI xs st (capE none js ρ1) [] (by rw [List.length_nil];walk_at "o") h0
 unfold fComp
 rw [ei]
 simp only [Option.bind_some,liB,if_true,Option.map_none]
 rw [show capE none js ρ1 ++ [some (.l (.lst []))]=capE none js ρ1 ++ acc [] from rfl,e]
 simp only [Option.bind_some,List.nil_append,a6H (hI B' i'),backC,hf,if_true]
theorem o0 {α:Type}(xs:List α):xs.filter (fun _=>true)=xs:=by induction xs with
 | nil=>rfl
 | cons x xs ih=>rw [List.filter_cons_of_pos rfl,ih]
theorem b1h {a b:Int}{m n:Nat}(ha:a.natAbs < 2 ^ m)(hb:b.natAbs < 2 ^ n)(h:m + n<=8000):(a * b).natAbs < big:=by
 rw [Int.natAbs_mul]
 unfold big
 have h1:a.natAbs * b.natAbs < 2 ^ m * 2 ^ n:=Nat.mul_lt_mul'' ha hb
 rw [<-Nat.pow_add] at h1
 exact Nat.lt_of_lt_of_le h1 (Nat.pow_le_pow_right (by decide) h)
theorem a40 {a b:Int}{m n:Nat}(ha:a.natAbs < 2 ^ m)(hb:b.natAbs < 2 ^ n)(hm:m<=8000)(hn:n<=8000):mOk a b:=
 .inr (.inr ⟨Nat.lt_of_lt_of_le ha (Nat.pow_le_pow_right (by decide) hm),Nat.lt_of_lt_of_le hb (Nat.pow_le_pow_right (by decide) hn)⟩)
theorem a9y (m n:Nat)(h:0 < n):Nat.gcd m n=Nat.gcd n (m % n):=by
 rw [Nat.gcd_comm m n,Nat.gcd_rec n m,Nat.gcd_comm]
abbrev gcC (j:Nat):FT:=fTest (fBin oGt (fVar j) (fC (.int 0)))
abbrev gcB (i j:Nat):FS:=fPar i j (fCons (fVar j) (fCons (fMod (fVar i) (fVar j)) fNil))
theorem set2 {ρ:Ev}{i j:Nat}(hij:i≠j)(a b c d:Option W):(((ρ.set i a).set j b).set i c).set j d=(ρ.set i c).set j d:=by
 apply List.ext_getElem?
 intro l
 simp only [List.getElem?_set,List.length_set]
 by_cases h1:j=l <;> by_cases h2:i=l <;> simp [h1,h2]
theorem a32 {i j:Nat}(hij:i≠j):∀(k m n:Nat) (ρ:Ev),n<=k->ρ[i]? =some (some (.v (.int (m:Nat))))->ρ[j]? =some (some (.v (.int (n:Nat))))->whileF (gcC j) (gcB i j) (k + 1) ρ=some (.nx ((ρ.set i (some (.v (.int (Nat.gcd m n:Nat))))).set j (some (.v (.int 0)))))
 | k,m,n,ρ,hk,h1,h2=>by
  have tst:gcC j ρ=some (decide ((0:Int) < (n:Int)),ρ):=by
   simp only [gcC,fTest,fBin,fVar,h2,fC,Option.bind_some,W.fz,dr,oI0,Option.map_some]
  rw [whileF,tst]
  by_cases hn:0 < n
  ·have bd:gcB i j ρ=some (.nx ((ρ.set i (some (.v (.int (n:Nat))))).set j (some (.v (.int ((m % n:Nat):Int)))))):=by
    have f1:freeSlot ρ i=true:=by simp only [freeSlot,h1]
    have f2:freeSlot (ρ.set i (some (.v (.int (n:Nat))))) j=true:=by simp only [freeSlot,List.getElem?_set_ne hij,h2]
    have p:(0:Int) < (n:Nat):=by walk_at "o"
    simp only [gcB,fPar,fCons,fNil,fVar,h1,h2,fBin,Option.bind_some,W.fz,dr,oI,p,if_true,Option.map_some,takeAll,f1,f2,and_self]
    rfl
   have d:decide ((0:Int) < (n:Int))=true:=by simp;walk_at "o"
   simp only [Option.bind_some,d,if_true,bd]
   cases k with
   | zero=>walk_at "o"
   | succ k=>
    have hlt:m % n < n:=Nat.mod_lt m hn
    have li:i < ρ.length:=(List.getElem?_eq_some_iff.mp h1).1
    have lj:j < ρ.length:=(List.getElem?_eq_some_iff.mp h2).1
    rw [a32 hij k n (m % n) _ (by walk_at "o") (by rw [List.getElem?_set_ne (Ne.symm hij)];exact w6 li) (w6 (by simpa using lj)),set2 hij,<-a9y m n hn]
  ·have hn0:n=0:=by walk_at "o"
   subst hn0
   have d:decide ((0:Int) < ((0:Nat):Int))=false:=by decide
   simp only [Option.bind_some,d,Bool.false_eq_true,if_false,Nat.gcd_zero_right]
   congr 2
   apply List.ext_getElem?
   intro l
   by_cases lj:l=j
   ·subst lj;rw [w6 (by have:=(List.getElem?_eq_some_iff.mp h2).1;simpa using this)];exact h2
   ·rw [List.getElem?_set_ne (Ne.symm lj)]
    by_cases li:l=i
    ·subst li;rw [w6 (List.getElem?_eq_some_iff.mp h1).1];exact h1
    ·rw [List.getElem?_set_ne (Ne.symm li)]
theorem a57 {i j:Nat}(hij:i≠j){a b:Int}{ρ:Ev}(ha:0<=a)(hb:0<=b)(h1:ρ[i]? =some (some (.v (.int a))))(h2:ρ[j]? =some (some (.v (.int b)))):whileV (gcC j) (gcB i j) ρ=some (.nx ((ρ.set i (some (.v (.int (Int.gcd a b:Nat))))).set j (some (.v (.int 0))))):=by
 obtain ⟨m,rfl⟩:=Int.eq_ofNat_of_zero_le ha
 obtain ⟨n,rfl⟩:=Int.eq_ofNat_of_zero_le hb
 exact a8a (a32 hij n m n ρ (Nat.le_refl _) h1 h2)
def ratD (q:Rat):D:=.tup [.int q.num,.int q.den]
def Sz (n:Nat) (q:Rat):Prop:=q.num.natAbs < 2 ^ n/\q.den < 2 ^ n
theorem Sz.mono {m n:Nat}{q:Rat}(h:Sz m q)(hm:m<=n):Sz n q:=⟨Nat.lt_of_lt_of_le h.1 (Nat.pow_le_pow_right (by decide) hm),Nat.lt_of_lt_of_le h.2 (Nat.pow_le_pow_right (by decide) hm)⟩
theorem J5 {t b:Int}(hb:0 < b):(Rat.divInt t b).num=t / (Int.gcd t b:Nat)/\((Rat.divInt t b).den:Int)=b / (Int.gcd t b:Nat):=by
 obtain ⟨n,rfl⟩:=Int.eq_ofNat_of_zero_le (Int.le_of_lt hb)
 have hn:n≠0:=by walk_at "o"
 rw [Rat.divInt_ofNat,<-Rat.normalize_eq_mkRat hn,Rat.normalize_eq]
 exact ⟨rfl,by simp [Int.gcd]⟩
theorem a0f (q:Rat):Rat.divInt q.num q.den=q:=Rat.num_divInt_den q
theorem a9M {p q:Rat}(h:ratD p=ratD q):p=q:=by
 unfold ratD at h
 injection h with h
 injection h with h1 h2
 injection h2 with h2 _
 injection h1 with h1
 injection h2 with h2
 exact Rat.ext h1 (by walk_at "o")
theorem W3 (p q:Rat):Rat.divInt (p.num * q.den + q.num * p.den) (p.den * q.den)=p + q:=by
 rw [<-Rat.divInt_add_divInt _ _ (by have:=p.den_nz;walk_at "o") (by have:=q.den_nz;walk_at "o"),a0f,a0f]
theorem a94 {t b:Int}{n:Nat}(hb:0 < b)(ht:t.natAbs < 2 ^ n)(h:b.natAbs < 2 ^ n):Sz n (Rat.divInt t b):=by
 obtain ⟨e1,e2⟩:=J5 (t:=t) hb
 constructor
 ·rw [e1]
  have:(t / ((Int.gcd t b:Nat):Int)).natAbs<=t.natAbs:=by
   have hd:((Int.gcd t b:Nat):Int) ∣ t:=Int.gcd_dvd_left ..
   rw [Int.natAbs_ediv_of_dvd hd]
   exact Nat.div_le_self ..
  walk_at "o"
 ·have:((Rat.divInt t b).den:Int)<=b:=by
   rw [e2]
   exact Int.ediv_le_self _ (Int.le_of_lt hb)
  walk_at "o"
section
variable {ρ ρ1 ρ2:Ev}{op o1 o2:D->D->Option W}{o:D->Option W}{f g h:FX}{t u:FT}{fa:FA}{F G:FS}{i j:Nat}{d e x y:D}{w z:W}{ws:List W}{ds xs ys zs:List D}{r:R}{k b:Bool}
def varO (i:Nat) (ρ:Ev):Option (Option W)->Option (W×Ev)
 | some (some (.v d))=>some (.v d,ρ)
 | some (some (.r _))=>none
 | some (some _)=>some (.r i,ρ)
 | _=>none
theorem r_var:fVar i ρ=varO i ρ ρ[i]?:=by unfold fVar varO;split <;> simp_all
theorem b1z:varO i ρ (some (some (.v d)))=some (.v d,ρ):=rfl
theorem b1o:varO i ρ (some (some (.o d)))=some (.r i,ρ):=rfl
theorem b1J:varO i ρ (some (some (.l d)))=some (.r i,ρ):=rfl
theorem r_c:fC d ρ=some (.v d,ρ):=rfl
def drO:Option (Option W)->Option D
 | some (some (.v d))=>some d
 | some (some w)=>w.own
 | _=>none
theorem b28:dr ρ (.v d)=some d:=rfl
theorem b3P:dr ρ (.r i)=drO ρ[i]?:=by unfold dr drO;rfl
theorem r_drO_v:drO (some (some (.v d)))=some d:=rfl
theorem b09:drO (some (some (.o d)))=some d:=rfl
theorem b1a:drO (some (some (.l d)))=some d:=rfl
theorem b3n:(W.v d).fz= .v d:=rfl
theorem b32:(W.o d).fz= .v d:=rfl
theorem b2F:(W.r i).fz= .r i:=rfl
def drsC (ρ:Ev) (ws:List W):Option D->Option (List D)
 | some d=>(drs ρ ws).map fun ds=>d :: ds
 | none=>none
theorem b08:drs ρ []=some []:=rfl
theorem b07:drs ρ (w :: ws)=drsC ρ ws (dr ρ w):=by rw [drs];unfold drsC;cases dr ρ w <;> rfl
theorem b3c:drsC ρ ws (some d)=(drs ρ ws).map fun ds=>d :: ds:=rfl
def bin2 (op:D->D->Option W) (g:FX):Option (W×Ev)->Option (W×Ev)
 | some p=>(g p.2).bind fun q=>(dr q.2 p.1.fz).bind fun x=>(dr q.2 q.1.fz).bind fun y=>(op x y).map fun w=>(w,q.2)
 | none=>none
def bin3 (op:D->D->Option W) (w:W):Option (W×Ev)->Option (W×Ev)
 | some q=>(dr q.2 w.fz).bind fun x=>(dr q.2 q.1.fz).bind fun y=>(op x y).map fun w=>(w,q.2)
 | none=>none
def bin4 (op:D->D->Option W) (ρ:Ev):Option D->Option D->Option (W×Ev)
 | some x,some y=>(op x y).map fun w=>(w,ρ)
 | _,_=>none
def withE (ρ:Ev):Option W->Option (W×Ev)
 | some w=>some (w,ρ)
 | none=>none
theorem r_bin:fBin op f g ρ=bin2 op g (f ρ):=by unfold fBin bin2;cases f ρ <;> rfl
theorem b2x:bin2 op g (some (w,ρ))=bin3 op w (g ρ):=by unfold bin2 bin3;dsimp only;cases g ρ <;> rfl
theorem b3D:bin3 op w (some (z,ρ))=bin4 op ρ (dr ρ w.fz) (dr ρ z.fz):=by unfold bin3 bin4;dsimp only;cases dr ρ w.fz <;> cases dr ρ z.fz <;> rfl
theorem b3w:bin4 op ρ (some x) (some y)=withE ρ (op x y):=by unfold bin4 withE;dsimp only;cases op x y <;> rfl
theorem b3T:withE ρ (some w)=some (w,ρ):=rfl
def un2 (o:D->Option W):Option (W×Ev)->Option (W×Ev)
 | some p=>(dr p.2 p.1.fz).bind fun x=>(o x).map fun w=>(w,p.2)
 | none=>none
def un3 (o:D->Option W) (ρ:Ev):Option D->Option (W×Ev)
 | some x=>withE ρ (o x)
 | none=>none
theorem r_un:fUn o f ρ=un2 o (f ρ):=by unfold fUn un2;cases f ρ <;> rfl
theorem r_un2:un2 o (some (w,ρ))=un3 o ρ (dr ρ w.fz):=by unfold un2 un3 withE;dsimp only;cases dr ρ w.fz with
 | none=>rfl
 | some x=>simp only [Option.bind_some];cases o x <;> rfl
theorem r_un3:un3 o ρ (some x)=withE ρ (o x):=rfl
def tstO:Option (W×Ev)->Option (Bool×Ev)
 | some (.v (.bl k),ρ)=>some (k,ρ)
 | _=>none
theorem a4O:fTest f ρ=tstO (f ρ):=by
 unfold fTest tstO
 cases f ρ with
 | none=>rfl
 | some p=>
  obtain ⟨w,ρ⟩:=p
  cases w with
  | v d=>cases d <;> rfl
  | _=>rfl
theorem b39:tstO (some (.v (.bl k),ρ))=some (k,ρ):=rfl
def tru2:Option (W×Ev)->Option (Bool×Ev)
 | some p=>(dr p.2 p.1.fz).bind fun d=>(truth d).map fun k=>(k,p.2)
 | none=>none
def tru3 (ρ:Ev):Option D->Option (Bool×Ev)
 | some d=>(truth d).map fun k=>(k,ρ)
 | none=>none
theorem b2v:fTru f ρ=tru2 (f ρ):=by unfold fTru tru2;cases f ρ <;> rfl
theorem b3E:tru2 (some (w,ρ))=tru3 ρ (dr ρ w.fz):=by unfold tru2 tru3;dsimp only;cases dr ρ w.fz <;> rfl
theorem a8W:tru3 ρ (some (.bl k))=some (k,ρ):=rfl
theorem b4p:tru3 ρ (some (.tup xs))=some (!xs.isEmpty,ρ):=rfl
theorem b4q:tru3 ρ (some (.lst xs))=some (!xs.isEmpty,ρ):=rfl
theorem b4t:tru3 ρ (some .non)=some (false,ρ):=rfl
def notO:Option (Bool×Ev)->Option (Bool×Ev)
 | some p=>some (!p.1,p.2)
 | none=>none
theorem r_not:fNot t ρ=notO (t ρ):=by unfold fNot notO;cases t ρ <;> rfl
theorem b4l:notO (some (k,ρ))=some (!k,ρ):=rfl
def andO (u:FT):Option (Bool×Ev)->Option (Bool×Ev)
 | some (true,ρ)=>u ρ
 | some (false,ρ)=>some (false,ρ)
 | none=>none
def orO (u:FT):Option (Bool×Ev)->Option (Bool×Ev)
 | some (true,ρ)=>some (true,ρ)
 | some (false,ρ)=>u ρ
 | none=>none
theorem r_and:fAnd t u ρ=andO u (t ρ):=by unfold fAnd andO;cases t ρ with
 | none=>rfl
 | some p=>obtain ⟨k,ρ⟩:=p;cases k <;> rfl
theorem r_or:fOr t u ρ=orO u (t ρ):=by unfold fOr orO;cases t ρ with
 | none=>rfl
 | some p=>obtain ⟨k,ρ⟩:=p;cases k <;> rfl
theorem b13:andO u (some (true,ρ))=u ρ:=id rfl
theorem b1x:andO u (some (false,ρ))=some (false,ρ):=rfl
theorem b3V:orO u (some (true,ρ))=some (true,ρ):=rfl
theorem b2J:orO u (some (false,ρ))=u ρ:=id rfl
def andV (g:FX):Option (Bool×Ev)->Option (W×Ev)
 | some (true,ρ)=>g ρ
 | some (false,ρ)=>some (.v (.bl false),ρ)
 | none=>none
def orV (g:FX):Option (Bool×Ev)->Option (W×Ev)
 | some (true,ρ)=>some (.v (.bl true),ρ)
 | some (false,ρ)=>g ρ
 | none=>none
def notV:Option (Bool×Ev)->Option (W×Ev)
 | some (k,ρ)=>some (.v (.bl (!k)),ρ)
 | none=>none
def ifV (f g:FX):Option (Bool×Ev)->Option (W×Ev)
 | some (true,ρ)=>f ρ
 | some (false,ρ)=>g ρ
 | none=>none
theorem b2Y:fAndV f g ρ=andV g (tstO (f ρ)):=by unfold fAndV andV;rw [a4O];cases tstO (f ρ) with
 | none=>rfl
 | some p=>obtain ⟨k,ρ⟩:=p;cases k <;> rfl
theorem r_orV:fOrV f g ρ=orV g (tstO (f ρ)):=by unfold fOrV orV;rw [a4O];cases tstO (f ρ) with
 | none=>rfl
 | some p=>obtain ⟨k,ρ⟩:=p;cases k <;> rfl
theorem r_notV:fNotV f ρ=notV (tstO (f ρ)):=by unfold fNotV notV;rw [a4O];cases tstO (f ρ) <;> rfl
theorem r_if:fIf t f g ρ=ifV f g (t ρ):=by unfold fIf ifV;cases t ρ with
 | none=>rfl
 | some p=>obtain ⟨k,ρ⟩:=p;cases k <;> rfl
theorem a9S:andV g (some (true,ρ))=g ρ:=id rfl
theorem a9D:andV g (some (false,ρ))=some (.v (.bl false),ρ):=rfl
theorem b0O:orV g (some (true,ρ))=some (.v (.bl true),ρ):=rfl
theorem b1v:orV g (some (false,ρ))=g ρ:=id rfl
theorem r_notV_s:notV (some (k,ρ))=some (.v (.bl (!k)),ρ):=rfl
theorem r_if_t:ifV f g (some (true,ρ))=f ρ:=id rfl
theorem r_if_f:ifV f g (some (false,ρ))=g ρ:=id rfl
def cons2 (fa:FA):Option (W×Ev)->Option (List W×Ev)
 | some p=>(fa p.2).map fun q=>(p.1.fz :: q.1,q.2)
 | none=>none
def cons3 (w:W):Option (List W×Ev)->Option (List W×Ev)
 | some q=>some (w :: q.1,q.2)
 | none=>none
theorem r_nil:fNil ρ=some ([],ρ):=rfl
theorem b2y:fCons f fa ρ=cons2 fa (f ρ):=by unfold fCons cons2;cases f ρ <;> rfl
theorem b1n:cons2 fa (some (w,ρ))=cons3 w.fz (fa ρ):=by unfold cons2 cons3;dsimp only;cases fa ρ <;> rfl
theorem b0W:cons3 w (some (ws,ρ))=some (w :: ws,ρ):=rfl
def takC (d:D):Option (List D×Ev)->Option (List D×Ev)
 | some p=>some (d :: p.1,p.2)
 | none=>none
def takR (i:Nat) (ws:List W):Option Ev->Option (List D×Ev)
 | some ρ1=>match ρ1[i]? with
  | some (some (.v d))=>(takeAll ρ1 ws).map fun p=>(d :: p.1,p.2)
  | _=>none
 | none=>none
def takS (ρ:Ev) (ws:List W):Option (Option W)->Option (List D×Ev)
 | some (some (.v d))=>takC d (takeAll ρ ws)
 | _=>none
theorem b15:takeAll ρ []=some ([],ρ):=rfl
theorem b0M:takeAll ρ (.v d :: ws)=takC d (takeAll ρ ws):=by rw [takeAll];unfold takC;cases takeAll ρ ws <;> rfl
theorem b0Y:takeAll ρ (.r i :: ws)=takR i ws (frzAt ρ i):=by rw [takeAll];unfold takR;cases frzAt ρ i <;> rfl
theorem b2H:takC d (some (ds,ρ))=some (d :: ds,ρ):=rfl
theorem b2P:takR i ws (some ρ)=takS ρ ws ρ[i]?:=by
 unfold takR takS
 dsimp only
 split
 ·unfold takC;cases takeAll ρ ws <;> rfl
 ·rfl
theorem b2A:takS ρ ws (some (some (.v d)))=takC d (takeAll ρ ws):=rfl
def disp2 (mk:List D->W):Option (List W×Ev)->Option (W×Ev)
 | some p=>(takeAll p.2 p.1).bind fun q=>if q.1.length<=lim then some (mk q.1,q.2) else none
 | none=>none
def disp3 (mk:List D->W):Option (List D×Ev)->Option (W×Ev)
 | some q=>if q.1.length<=lim then some (mk q.1,q.2) else none
 | none=>none
theorem r_tup:fTup fa ρ=disp2 (fun ds=>.v (.tup ds)) (fa ρ):=by unfold fTup disp2;cases fa ρ <;> rfl
theorem r_lst:fLst fa ρ=disp2 (fun ds=>.o (.lst ds)) (fa ρ):=by unfold fLst disp2;cases fa ρ <;> rfl
theorem b16 {mk:List D->W}:disp2 mk (some (ws,ρ))=disp3 mk (takeAll ρ ws):=by unfold disp2 disp3;dsimp only;cases takeAll ρ ws <;> rfl
theorem b1g {mk:List D->W}:disp3 mk (some (ds,ρ))=if ds.length<=lim then some (mk ds,ρ) else none:=rfl
def call2 (k:List D->Option W):Option (List W×Ev)->Option (W×Ev)
 | some p=>(drs p.2 p.1).bind fun ds=>(k ds).map fun w=>(w,p.2)
 | none=>none
def call3 (k:List D->Option W) (ρ:Ev):Option (List D)->Option (W×Ev)
 | some ds=>withE ρ (k ds)
 | none=>none
theorem b3J {k:List D->Option W}:fCall k fa ρ=call2 k (fa ρ):=by unfold fCall call2;cases fa ρ <;> rfl
theorem b1C {k:List D->Option W}:call2 k (some (ws,ρ))=call3 k ρ (drs ρ ws):=by
 unfold call2 call3 withE
 dsimp only
 cases drs ρ ws with
 | none=>rfl
 | some ds=>simp only [Option.bind_some];cases k ds <;> rfl
theorem b1O {k:List D->Option W}:call3 k ρ (some ds)=withE ρ (k ds):=rfl
theorem r_k1 {g:D->Option W}:k1 g [d]=g d:=rfl
theorem r_k2 {g:Int->Int->D}{i j:Int}:k2 g [.int i,.int j]=some (.v (g i j)):=rfl
def def2 (g:List D->Option W):Option (List W×Ev)->Option (W×Ev)
 | some p=>(drs p.2 p.1).bind fun ds=>(g ds).bind fun w=>if lfW w=true then some (w,p.2) else (frzL p.1 p.2).map fun ρ2=>(w,ρ2)
 | none=>none
def def3 (g:List D->Option W) (ws:List W) (ρ:Ev):Option (List D)->Option (W×Ev)
 | some ds=>(g ds).bind fun w=>if lfW w=true then some (w,ρ) else (frzL ws ρ).map fun ρ2=>(w,ρ2)
 | none=>none
def def4 (ws:List W) (ρ:Ev):Option W->Option (W×Ev)
 | some w=>if lfW w=true then some (w,ρ) else (frzL ws ρ).map fun ρ2=>(w,ρ2)
 | none=>none
theorem r_def {g:List D->Option W}:fDef g fa ρ=def2 g (fa ρ):=by unfold fDef def2;cases fa ρ <;> rfl
theorem b3W {g:List D->Option W}:def2 g (some (ws,ρ))=def3 g ws ρ (drs ρ ws):=by unfold def2 def3;dsimp only;cases drs ρ ws <;> rfl
theorem b3y {g:List D->Option W}:def3 g ws ρ (some ds)=def4 ws ρ (g ds):=by unfold def3 def4;dsimp only;cases g ds <;> rfl
theorem b20:def4 ws ρ (some w)=if lfW w=true then some (w,ρ) else (frzL ws ρ).map fun ρ2=>(w,ρ2):=rfl
def dl2 (g:D->List D->Option (W×D)):Option (List W×Ev)->Option (W×Ev)
 | some (.r i :: ws,ρ)=>(ownAt ρ i).bind fun c=>(drs ρ ws).bind fun ds=>(g c ds).bind fun z=>if noR i ws=true/\lfC z.2=true then (if lfW z.1=true then some (z.1,setOwn ρ i z.2) else (frzL ws (setOwn ρ i z.2)).map fun ρ2=>(z.1,ρ2)) else none
 | _=>none
def dl3 (g:D->List D->Option (W×D)) (i:Nat) (ws:List W) (ρ:Ev):Option D->Option (List D)->Option (W×Ev)
 | some c,some ds=>(g c ds).bind fun z=>if noR i ws=true/\lfC z.2=true then (if lfW z.1=true then some (z.1,setOwn ρ i z.2) else (frzL ws (setOwn ρ i z.2)).map fun ρ2=>(z.1,ρ2)) else none
 | _,_=>none
def dl4 (i:Nat) (ws:List W) (ρ:Ev):Option (W×D)->Option (W×Ev)
 | some z=>if noR i ws=true/\lfC z.2=true then (if lfW z.1=true then some (z.1,setOwn ρ i z.2) else (frzL ws (setOwn ρ i z.2)).map fun ρ2=>(z.1,ρ2)) else none
 | none=>none
theorem r_dl {g:D->List D->Option (W×D)}:fDefL g fa ρ=dl2 g (fa ρ):=by
 unfold fDefL dl2
 cases fa ρ with
 | none=>rfl
 | some p=>
  obtain ⟨ws,ρ⟩:=p
  cases ws with
  | nil=>rfl
  | cons w ws=>cases w <;> rfl
theorem r_dl2 {g:D->List D->Option (W×D)}:dl2 g (some (.r i :: ws,ρ))=dl3 g i ws ρ (ownAt ρ i) (drs ρ ws):=by unfold dl2 dl3;dsimp only;cases ownAt ρ i <;> cases drs ρ ws <;> rfl
theorem r_dl3 {g:D->List D->Option (W×D)}:dl3 g i ws ρ (some d) (some ds)=dl4 i ws ρ (g d ds):=by unfold dl3 dl4;dsimp only;cases g d ds <;> rfl
theorem r_dl4:dl4 i ws ρ (some (w,d))=if noR i ws=true/\lfC d=true then (if lfW w=true then some (w,setOwn ρ i d) else (frzL ws (setOwn ρ i d)).map fun ρ2=>(w,ρ2)) else none:=rfl
def sl2 (lo hi:FO):Option (W×Ev)->Option (W×Ev)
 | some p=>(lo p.2).bind fun l=>(hi l.2).bind fun u=>(dr u.2 p.1.fz).bind fun x=>(slD x l.1 u.1).map fun w=>(w,u.2)
 | none=>none
def sl3 (hi:FO) (w:W):Option (Option Int×Ev)->Option (W×Ev)
 | some l=>(hi l.2).bind fun u=>(dr u.2 w.fz).bind fun x=>(slD x l.1 u.1).map fun w=>(w,u.2)
 | none=>none
def sl4 (w:W) (l:Option Int):Option (Option Int×Ev)->Option (W×Ev)
 | some u=>(dr u.2 w.fz).bind fun x=>(slD x l u.1).map fun w=>(w,u.2)
 | none=>none
def sl5 (l u:Option Int) (ρ:Ev):Option D->Option (W×Ev)
 | some x=>withE ρ (slD x l u)
 | none=>none
theorem r_sl {lo hi:FO}:fSl f lo hi ρ=sl2 lo hi (f ρ):=by unfold fSl sl2;cases f ρ <;> rfl
theorem r_sl2 {lo hi:FO}:sl2 lo hi (some (w,ρ))=sl3 hi w (lo ρ):=by unfold sl2 sl3;dsimp only;cases lo ρ <;> rfl
theorem r_sl3 {hi:FO}{l:Option Int}:sl3 hi w (some (l,ρ))=sl4 w l (hi ρ):=by unfold sl3 sl4;dsimp only;cases hi ρ <;> rfl
theorem r_sl4 {l u:Option Int}:sl4 w l (some (u,ρ))=sl5 l u ρ (dr ρ w.fz):=by
 unfold sl4 sl5 withE
 dsimp only
 cases dr ρ w.fz with
 | none=>rfl
 | some x=>simp only [Option.bind_some];cases slD x l u <;> rfl
theorem r_sl5 {l u:Option Int}:sl5 l u ρ (some x)=withE ρ (slD x l u):=rfl
theorem b2V {l u:Option Int}:slD (.tup xs) l u=some (.v (.tup (cutD xs l u))):=rfl
theorem b3f {l u:Option Int}:slD (.lst xs) l u=some (.o (.lst (cutD xs l u))):=rfl
def o1O:Option (W×Ev)->Option (Option Int×Ev)
 | some (.v (.int i),ρ)=>some (some i,ρ)
 | _=>none
theorem r_o0:fO0 ρ=some (none,ρ):=rfl
theorem r_o1:fO1 f ρ=o1O (f ρ):=by
 unfold fO1 o1O
 cases f ρ with
 | none=>rfl
 | some p=>
  obtain ⟨w,ρ⟩:=p
  cases w with
  | v d=>cases d <;> rfl
  | _=>rfl
theorem r_o1O {n:Int}:o1O (some (.v (.int n),ρ))=some (some n,ρ):=rfl
def thnO (G:FS):Option R->Option R
 | some (.nx ρ)=>G ρ
 | o=>o
theorem b3B:fThen F G ρ=thnO G (F ρ):=by unfold fThen thnO;cases F ρ with
 | none=>rfl
 | some r=>cases r <;> rfl
theorem a8t:thnO G (some (.nx ρ))=G ρ:=id rfl
theorem a8s:thnO G (some (.rt w ρ))=some (.rt w ρ):=id rfl
theorem b4v:thnO G (some (.bk ρ))=some (.bk ρ):=rfl
theorem b4s:thnO G (some (.ct ρ))=some (.ct ρ):=rfl
def retO:Option (W×Ev)->Option R
 | some p=>retW p.2 p.1
 | none=>none
def retS (ρ:Ev):Option (Option W)->Option R
 | some (some (.o d))=>some (.rt (.o d) ρ)
 | some (some (.v d))=>some (.rt (.v d) ρ)
 | _=>none
theorem r_ret:fRet f ρ=retO (f ρ):=by unfold fRet retO;cases f ρ <;> rfl
theorem b02:retO (some (.v d,ρ))=some (.rt (.v d) ρ):=rfl
theorem b00:retO (some (.o d,ρ))=some (.rt (.o d) ρ):=rfl
theorem b1P:retO (some (.r i,ρ))=retS ρ ρ[i]?:=by unfold retO retS;first | (dsimp only [retW];done) | (dsimp only [retW];rfl)
theorem a9O:retS ρ (some (some (.o d)))=some (.rt (.o d) ρ):=rfl
theorem r_retS_v:retS ρ (some (some (.v d)))=some (.rt (.v d) ρ):=rfl
def ifO (F G:FS):Option (Bool×Ev)->Option R
 | some (true,ρ)=>F ρ
 | some (false,ρ)=>G ρ
 | none=>none
theorem r_ifS:fIfS t F G ρ=ifO F G (t ρ):=by unfold fIfS ifO;cases t ρ with
 | none=>rfl
 | some p=>obtain ⟨k,ρ⟩:=p;cases k <;> rfl
theorem b1u:ifO F G (some (true,ρ))=F ρ:=id rfl
theorem b2h:ifO F G (some (false,ρ))=G ρ:=id rfl
def asgO (i:Nat):Option (W×Ev)->Option R
 | some p=>(bindW p.2 i p.1).map .nx
 | none=>none
def bndO (i j:Nat):Option Ev->Option R
 | some ρ1=>match ρ1[j]? with
  | some (some (.v d))=>if freeSlot ρ1 i=true then some (.nx (ρ1.set i (some (.v d)))) else none
  | _=>none
 | none=>none
def bndS (i:Nat) (ρ:Ev):Option (Option W)->Option R
 | some (some (.v d))=>if freeSlot ρ i=true then some (.nx (ρ.set i (some (.v d)))) else none
 | _=>none
theorem r_asg:fAsg i f ρ=asgO i (f ρ):=by unfold fAsg asgO;cases f ρ <;> rfl
theorem b0V:asgO i (some (.v d,ρ))=if freeSlot ρ i=true then some (.nx (ρ.set i (some (.v d)))) else none:=by unfold asgO;dsimp only [bindW];split <;> rfl
theorem b1i:asgO i (some (.o d,ρ))=if freeSlot ρ i=true then some (.nx (ρ.set i (some (.o d)))) else none:=by unfold asgO;dsimp only [bindW];split <;> rfl
theorem r_asg_r:asgO i (some (.r j,ρ))=bndO i j (frzAt ρ j):=by
 unfold asgO bndO
 dsimp only [bindW]
 cases frzAt ρ j with
 | none=>rfl
 | some ρ1=>
  simp only [Option.bind_some]
  cases q:ρ1[j]? with
  | none=>rfl
  | some o=>
   cases o with
   | none=>rfl
   | some w=>
    cases w with
    | v d=>dsimp only;split <;> rfl
    | _=>rfl
theorem r_bndO:bndO i j (some ρ)=bndS i ρ ρ[j]?:=by
 unfold bndO bndS
 rfl
theorem r_bndS:bndS i ρ (some (some (.v d)))=if freeSlot ρ i=true then some (.nx (ρ.set i (some (.v d)))) else none:=rfl
def agO2 (gf:FG):Option (W×Ev)->Option R
 | some p=>(takeAll p.2 [p.1.fz]).bind fun q=>match q.1 with
  | [d]=>(gf d q.2).map .nx
  | _=>none
 | none=>none
def agO3 (gf:FG):Option (List D×Ev)->Option R
 | some ([d],ρ)=>(gf d ρ).map .nx
 | _=>none
def nxO:Option Ev->Option R
 | some ρ=>some (.nx ρ)
 | none=>none
theorem r_ag {gf:FG}:fAsgG f gf ρ=agO2 gf (f ρ):=by unfold fAsgG agO2;cases f ρ <;> rfl
theorem r_ag2 {gf:FG}:agO2 gf (some (w,ρ))=agO3 gf (takeAll ρ [w.fz]):=by
 unfold agO2 agO3
 dsimp only
 cases takeAll ρ [w.fz] with
 | none=>rfl
 | some p=>
  obtain ⟨ds,ρ⟩:=p
  match ds with
  | []=>rfl
  | [_]=>rfl
  | _ :: _ :: _=>rfl
theorem r_ag3 {gf:FG}:agO3 gf (some ([d],ρ))=nxO (gf d ρ):=by unfold agO3 nxO;dsimp only;cases gf d ρ <;> rfl
theorem r_nxO:nxO (some ρ)=some (.nx ρ):=rfl
theorem b0T:gfName i d ρ=if freeSlot ρ i=true then some (ρ.set i (some (.v d))) else none:=rfl
def gcO (gs:FGs) (ds:List D):Option Ev->Option Ev
 | some ρ=>gs ds ρ
 | none=>none
theorem b4f:gfNil [] ρ=some ρ:=rfl
theorem b2c {gf:FG}{gs:FGs}:gfCons gf gs (d :: ds) ρ=gcO gs ds (gf d ρ):=by unfold gfCons gcO;dsimp only;cases gf d ρ <;> rfl
theorem r_gcO {gs:FGs}:gcO gs ds (some ρ)=gs ds ρ:=id rfl
theorem b3G {gs:FGs}:gfTup gs (.tup ds) ρ=gs ds ρ:=rfl
def gs2 (g:FX) (d:D):Option (W×Ev)->Option Ev
 | some (.r j,ρ)=>(g ρ).bind fun q=>(dr q.2 q.1.fz).bind fun k=>match k,ownAt q.2 j with
  | .int k,some (.lst xs)=>(ixN xs.length k).map fun n=>setOwn q.2 j (.lst (xs.set n d))
  | _,_=>none
 | _=>none
def gs3 (j:Nat) (d:D):Option (W×Ev)->Option Ev
 | some q=>(dr q.2 q.1.fz).bind fun k=>match k,ownAt q.2 j with
  | .int k,some (.lst xs)=>(ixN xs.length k).map fun n=>setOwn q.2 j (.lst (xs.set n d))
  | _,_=>none
 | none=>none
def gs4 (j:Nat) (d:D) (ρ:Ev):Option D->Option D->Option Ev
 | some (.int k),some (.lst xs)=>(ixN xs.length k).map fun n=>setOwn ρ j (.lst (xs.set n d))
 | _,_=>none
theorem r_gs:gfSub f g d ρ=gs2 g d (f ρ):=by
 unfold gfSub gs2
 cases f ρ with
 | none=>rfl
 | some p=>obtain ⟨w,ρ⟩:=p;cases w <;> rfl
theorem r_gs2:gs2 g d (some (.r j,ρ))=gs3 j d (g ρ):=by unfold gs2 gs3;dsimp only;cases g ρ <;> rfl
theorem r_gs3:gs3 j d (some (w,ρ))=gs4 j d ρ (dr ρ w.fz) (ownAt ρ j):=by
 unfold gs3 gs4
 dsimp only
 cases dr ρ w.fz with
 | none=>rfl
 | some k=>
  simp only [Option.bind_some]
  cases k with
  | int n=>cases ownAt ρ j with
   | none=>rfl
   | some c=>cases c <;> rfl
  | _=>rfl
theorem r_gs4 {n:Int}:gs4 j d ρ (some (.int n)) (some (.lst xs))=(ixN xs.length n).map fun n=>setOwn ρ j (.lst (xs.set n d)):=rfl
def dropO:Option (W×Ev)->Option R
 | some p=>some (.nx p.2)
 | none=>none
theorem b4b:fDrop f ρ=dropO (f ρ):=by unfold fDrop dropO;cases f ρ <;> rfl
theorem b1Z:dropO (some (w,ρ))=some (.nx ρ):=rfl
def par2 (i j:Nat):Option (List W×Ev)->Option R
 | some p=>(takeAll p.2 p.1).bind fun q=>match q.1 with
  | [d,d']=>if freeSlot q.2 i=true/\freeSlot (q.2.set i (some (.v d))) j=true then some (.nx ((q.2.set i (some (.v d))).set j (some (.v d')))) else none
  | _=>none
 | none=>none
def par3 (i j:Nat):Option (List D×Ev)->Option R
 | some ([d,d'],ρ)=>if freeSlot ρ i=true/\freeSlot (ρ.set i (some (.v d))) j=true then some (.nx ((ρ.set i (some (.v d))).set j (some (.v d')))) else none
 | _=>none
theorem r_par:fPar i j fa ρ=par2 i j (fa ρ):=by unfold fPar par2;cases fa ρ <;> rfl
theorem r_par2:par2 i j (some (ws,ρ))=par3 i j (takeAll ρ ws):=by
 unfold par2 par3
 dsimp only
 cases takeAll ρ ws with
 | none=>rfl
 | some p=>
  obtain ⟨ds,ρ⟩:=p
  match ds with
  | []=>rfl
  | [_]=>rfl
  | [_,_]=>rfl
  | _ :: _ :: _ :: _=>rfl
theorem r_par3:par3 i j (some ([d,e],ρ))=if freeSlot ρ i=true/\freeSlot (ρ.set i (some (.v d))) j=true then some (.nx ((ρ.set i (some (.v d))).set j (some (.v e)))) else none:=rfl
def is2:Option (W×Ev)->Option (List D×Ev)
 | some p=>(takeAll p.2 [p.1.fz]).bind fun q=>match q.1 with
  | [d]=>(items d).map fun xs=>(xs,q.2)
  | _=>none
 | none=>none
def is3:Option (List D×Ev)->Option (List D×Ev)
 | some ([.tup xs],ρ)=>some (xs,ρ)
 | some ([.lst xs],ρ)=>some (xs,ρ)
 | _=>none
theorem r_is:fiSeq f ρ=is2 (f ρ):=by unfold fiSeq is2;cases f ρ <;> rfl
theorem r_is2:is2 (some (w,ρ))=is3 (takeAll ρ [w.fz]):=by
 unfold is2 is3
 dsimp only
 cases takeAll ρ [w.fz] with
 | none=>rfl
 | some p=>
  obtain ⟨ds,ρ⟩:=p
  match ds with
  | []=>rfl
  | [d]=>cases d <;> rfl
  | _ :: _ :: _=>simp
theorem b27:is3 (some ([.tup xs],ρ))=some (xs,ρ):=rfl
theorem b3s:is3 (some ([.lst xs],ρ))=some (xs,ρ):=rfl
def forO (gf:FG) (b:FS):Option (List D×Ev)->Option R
 | some p=>loopF (turnF gf b) p.1 p.2
 | none=>none
theorem r_for {fi:FI}{gf:FG}:fFor fi gf F ρ=forO gf F (fi ρ):=by unfold fFor forO;cases fi ρ <;> rfl
theorem b3M {gf:FG}:forO gf F (some (xs,ρ))=loopF (turnF gf F) xs ρ:=id rfl
def turnO (b:FS):Option Ev->Option R
 | some ρ=>b ρ
 | none=>none
theorem b2N {gf:FG}:turnF gf F d ρ=turnO F (gf d ρ):=by unfold turnF turnO;cases gf d ρ <;> rfl
theorem b1L:turnO F (some ρ)=F ρ:=id rfl
def mu2 (op:List D->List D->Option (W×List D)) (fa:FA):Option (W×Ev)->Option (W×Ev)
 | some (.r i,ρ)=>if isLst (ownAt ρ i)=true then (fa ρ).bind fun q=>(takeAll q.2 q.1).bind fun z=>match ownAt z.2 i with
  | some (.lst xs)=>(op xs z.1).map fun y=>(y.1,setOwn z.2 i (.lst y.2))
  | _=>none
  else none
 | _=>none
def mu3 (op:List D->List D->Option (W×List D)) (i:Nat):Option (List W×Ev)->Option (W×Ev)
 | some q=>(takeAll q.2 q.1).bind fun z=>match ownAt z.2 i with
  | some (.lst xs)=>(op xs z.1).map fun y=>(y.1,setOwn z.2 i (.lst y.2))
  | _=>none
 | none=>none
def mu4 (op:List D->List D->Option (W×List D)) (i:Nat):Option (List D×Ev)->Option (W×Ev)
 | some z=>match ownAt z.2 i with
  | some (.lst xs)=>(op xs z.1).map fun y=>(y.1,setOwn z.2 i (.lst y.2))
  | _=>none
 | none=>none
def mu5 (op:List D->List D->Option (W×List D)) (i:Nat) (ds:List D) (ρ:Ev):Option D->Option (W×Ev)
 | some (.lst xs)=>(op xs ds).map fun y=>(y.1,setOwn ρ i (.lst y.2))
 | _=>none
def mu6 (i:Nat) (ρ:Ev):Option (W×List D)->Option (W×Ev)
 | some y=>some (y.1,setOwn ρ i (.lst y.2))
 | none=>none
variable {om:List D->List D->Option (W×List D)}
theorem r_mu:fMut om f fa ρ=mu2 om fa (f ρ):=by
 unfold fMut mu2
 cases f ρ with
 | none=>rfl
 | some p=>obtain ⟨w,ρ⟩:=p;cases w <;> rfl
theorem r_mu2:mu2 om fa (some (.r i,ρ))=if isLst (ownAt ρ i)=true then mu3 om i (fa ρ) else none:=by unfold mu2 mu3;dsimp only;cases fa ρ <;> rfl
theorem r_mu3:mu3 om i (some (ws,ρ))=mu4 om i (takeAll ρ ws):=by unfold mu3 mu4;dsimp only;cases takeAll ρ ws <;> rfl
theorem r_mu4:mu4 om i (some (ds,ρ))=mu5 om i ds ρ (ownAt ρ i):=by unfold mu4 mu5;rfl
theorem r_mu5:mu5 om i ds ρ (some (.lst xs))=mu6 i ρ (om xs ds):=by unfold mu5 mu6;dsimp only;cases om xs ds <;> rfl
theorem r_mu6:mu6 i ρ (some (w,xs))=some (w,setOwn ρ i (.lst xs)):=rfl
theorem r_app:mApp xs [d]=if xs.length < lim then some (.v .non,xs ++ [d]) else none:=rfl
def runO:Option R->Option W
 | some (.rt w _)=>some w
 | some (.nx _)=>some (.v .non)
 | _=>none
theorem r_run {np n:Nat}:runD np n G ds=if ds.length=np then runO (G (start0 n ds)) else none:=by
 unfold runD runO
 split
 ·cases G (start0 n ds) with
  | none=>rfl
  | some r=>cases r <;> rfl
 ·rfl
theorem b0h:runO (some (.rt w ρ))=some w:=rfl
theorem r_run_nx:runO (some (.nx ρ))=some (.v .non):=rfl
def runLO:Option R->Option (W×D)
 | some (.rt w ρ)=>(ownAt ρ 0).map fun c=>(w,c)
 | some (.nx ρ)=>(ownAt ρ 0).map fun c=>(.v .non,c)
 | _=>none
theorem b3N {np n:Nat}:runL np n G d ds=if ds.length + 1=np then runLO (G (some (.l d) :: start0 (n - 1) ds)) else none:=by
 unfold runL runLO
 split
 ·cases G (some (.l d) :: start0 (n - 1) ds) with
  | none=>rfl
  | some r=>cases r <;> rfl
 ·rfl
theorem a7X:runLO (some (.rt w ρ))=(ownAt ρ 0).map fun c=>(w,c):=rfl
theorem b4x:runLO (some (.nx ρ))=(ownAt ρ 0).map fun c=>(.v .non,c):=rfl
variable {m n:Int}{s1 s2:Str}
theorem o_i0 {g:Int->Int->D}:oI0 g (.int m) (.int n)=some (.v (g m n)):=rfl
theorem o_i {C:Int->Int->Prop} [∀i j,Decidable (C i j)] {g:Int->Int->D}:oI C g (.int m) (.int n)=if C m n then some (.v (g m n)) else none:=rfl
theorem b1b:oAdd (.int m) (.int n)=some (.v (.int (m + n))):=rfl
theorem b1E:oAdd (.lst xs) (.lst ys)=if xs.length + ys.length<=lim then some (.o (.lst (xs ++ ys))) else none:=rfl
theorem b04:oAdd (.tup xs) (.tup ys)=if xs≠[]/\xs.length + ys.length<=lim then some (.v (.tup (xs ++ ys))) else none:=by
 by_cases h:xs≠[]/\xs.length + ys.length<=lim
 ·rw [if_pos h];exact if_pos h
 ·rw [if_neg h];exact if_neg h
theorem o_neg:oNeg (.int m)=some (.v (.int (-m))):=rfl
theorem b2C:oLtT (.int m) (.int n)=some (.v (.bl (decide (m < n)))):=rfl
theorem b3K:oIx (.tup xs) (.int n)=(atI xs n).map .v:=rfl
theorem b30:oIx (.lst xs) (.int n)=(atI xs n).map .v:=rfl
theorem b1F:gLen (.tup xs)=some (.v (.int xs.length)):=rfl
theorem b1M:gLen (.lst xs)=some (.v (.int xs.length)):=rfl
theorem o_abs:gAbs (.int m)=some (.v (.int (if m < 0 then -m else m))):=rfl
theorem o_int:gInt (.bl b)=some (.v (.int (if b then 1 else 0))):=rfl
theorem b4w:gTuple (.tup xs)=some (.v (.tup xs)):=rfl
theorem a8B:gTuple (.lst xs)=some (.v (.tup xs)):=rfl
theorem o_list_t:gList (.tup xs)=some (.o (.lst xs)):=rfl
theorem o_list_l:gList (.lst xs)=some (.o (.lst xs)):=rfl
theorem o_d2 {q:D->D->Option Bool}{neg:Bool}:oD2 q neg x y=(q x y).map fun k=>.v (.bl (if neg then !k else k)):=rfl
theorem a_0:atI (d :: ds) 0=some d:=A7 (j:=0) rfl
theorem a_1:atI (d :: e :: ds) 1=some e:=A7 (j:=1) rfl
theorem a_2:atI (d :: e :: x :: ds) 2=some x:=A7 (j:=2) rfl
end
open PySem PySem.Spec PyProof.Rows L2
section
variable {prog:Program}{w:World}{A:Around}{E:Value->Shared->Prop}{s:Shared}
theorem a6q {c t:Addr}{k:Nat}{its:Array Value}{x:Value}{Q:Value->Shared->Prop}(hc:IsTupIter s.heap c t k)(ht:IsTup s.heap t its)(hx:its[k]? =some x)
  (q:∀h',IsTupIter h' c t (k + 1)->Heap.SameBut c s.heap h'->Q x {s with heap:=h'}):wpAny (model prog w) A (Builtin.SmallTypes.nextOf (.ref c)) Q E s:=by
 have T:=hc.typeIs
 obtain ⟨o,e1,e2,e3⟩:=hc
 obtain ⟨o2,g1,_,m,g3⟩:=ht
 unfold Builtin.SmallTypes.nextOf
 refine wpAny_bind (wpAny_callSpecial?_slot (name:=Str.ofString "__next__") T slot_tupleiter_next (wpAny_call_entry slot_tupleiter_next T entry_tupleiter_next ?_ (args_tupleiter_next _)))
 have step:wpAny (model prog w) A.in1 (setField (.ref c) 1 (rawInt ((k:Nat) + 1:Nat))) (fun _ s'=>wpAny (model prog w) A.in1 (ret x) (fun fin s''=>∃v,fin= .done (.ret v)/\wpAny (model prog w) A (pure v) Q E s'') E s') E s:=by
  refine wpAny_setField e1 e3 (by simp) (wpAny_pure ⟨x,rfl,wpAny_pure (q _ ⟨_,Heap.get?_update_self _ e1 (Obj.isFreed_of_fields (Obj.data_mapFields e3 _)),(Obj.cls_mapFields ..).trans e2,?_⟩ (Heap.SameBut.update ..))⟩)
  rw [Obj.data_mapFields e3];simp [rawInt]
 refine wpAny_bind (m:=field (.ref c) 0) (wpAny_field e1 e3 (x:=.ref t) rfl ?_)
 show wpAny _ _ (if (Value.ref t == Value.none)=true then _ else _) _ _ s
 have nn:¬((Value.ref t == Value.none)=true):=Bool.false_ne_true
 rw [if_neg nn]
 refine wpAny_bind (m:=field (.ref c) 1) (wpAny_field e1 e3 (x:=.int k 0) rfl (wpAny_bind (m:=seqItems? (.ref t)) (wpAny_seqItems g1 g3 ?_)))
 simp only [Int.toNat_natCast,hx]
 exact wpAny_bind step
theorem a8D {c t:Addr}{k:Nat}{its:Array Value}{Q:Value->Shared->Prop}(hh:A.handled=none)(hc:IsTupIter s.heap c t k)(ht:IsTup s.heap t its)(hx:its[k]? =none)
  (q:∀h' x,Heap.ExtBut c s.heap h'->(∃o,h'.get? x=some o/\o.cls= .type "StopIteration")->E (.ref x) {s with heap:=h'}):wpAny (model prog w) A (Builtin.SmallTypes.nextOf (.ref c)) Q E s:=by
 have T:=hc.typeIs
 obtain ⟨o,e1,e2,e3⟩:=hc
 obtain ⟨o2,g1,_,m,g3⟩:=ht
 unfold Builtin.SmallTypes.nextOf
 refine wpAny_bind (wpAny_callSpecial?_slot (name:=Str.ofString "__next__") T slot_tupleiter_next (wpAny_call_entry slot_tupleiter_next T entry_tupleiter_next ?_ (args_tupleiter_next _)))
 refine wpAny_bind (m:=field (.ref c) 0) (wpAny_field e1 e3 (x:=.ref t) rfl ?_)
 show wpAny _ _ (if (Value.ref t == Value.none)=true then _ else _) _ _ s
 have nn:¬((Value.ref t == Value.none)=true):=Bool.false_ne_true
 rw [if_neg nn]
 refine wpAny_bind (m:=field (.ref c) 1) (wpAny_field e1 e3 (x:=.int k 0) rfl (wpAny_bind (m:=seqItems? (.ref t)) (wpAny_seqItems g1 g3 ?_)))
 simp only [Int.toNat_natCast,hx]
 refine wpAny_bind (wpAny_rule (wpAny_bind (wpAny_setField e1 e3 (by simp) ?_)))
 refine wpAny_bind (m:=newExc (.type "StopIteration") []) ?_
 simp only [newExc,newTuple]
 refine wpAny_bind (wpAny_newObj_type ?_ (by size_fits))
 refine wpAny_bind (m:=firstArgMember _ _) (wpAny_of_eq (a:=Value.none) (by first | rfl | (simp only [firstArgMember];rfl)) (wpAny_newObj_type ?_ (by size_fits)))
 simp only [raiseNew]
 refine wpAny_bind (wpAny_handled ?_)
 first | rw [show A.in1.handled=none from hh] | rw [hh]
 exact wpAny_bind (wpAny_pure (wpAny_throw (q _ _ (((Heap.SameBut.update ..).extBut.push _).push _) ⟨_,Heap.get?_push_size _ rfl,rfl⟩)))
end
def SIt (k:Bool) (h:Heap) (c t:Addr) (i:Nat):Prop:=match k with
 | true=>h.IsListIter c t i
 | false=>IsTupIter h c t i
def SSq (k:Bool) (h:Heap) (t:Addr) (its:Array Value):Prop:=match k with
 | true=>h.IsList t its
 | false=>IsTup h t its
def SqK (k:Bool) (K:PySem.W.Frag) (H:Hp) (a:Addr) (xs:List V):Prop:=match k with
 | true=>SqL K H a xs
 | false=>SqT K H a xs
def itN (k:Bool):String:=if k then "list_iterator" else "tuple_iterator"
theorem D0 {b:Bool}{h h':Heap}{c t:Addr}{k:Nat}(i:SIt b h c t k)(kp:∀o,h.get? c=some o->h'.get? c=some o):SIt b h' c t k:=by
 cases b <;> (obtain ⟨o,e,r⟩:=i;exact ⟨o,kp o e,r⟩)
theorem a18 {b:Bool}{h h':Heap}{c:Addr}{its:Array Value}(i:SSq b h c its)(kp:∀o,h.get? c=some o->h'.get? c=some o):SSq b h' c its:=by
 cases b <;> (obtain ⟨o,e,r⟩:=i;exact ⟨o,kp o e,r⟩)
theorem P0 {b:Bool}{h:Heap}{c t:Addr}{k:Nat}(i:SIt b h c t k):∃o,h.get? c=some o/\∀v,o.data≠.cell v:=by
 cases b <;> (obtain ⟨o,e,r,d⟩:=i;exact ⟨o,e,fun v z=>by rw [d] at z;cases z⟩)
theorem a4C {b:Bool}{h:Heap}{c l:Addr}(e:h.get? c=some {cls:=.type (itN b),data:=.fields #[.ref l,.int 0 0]}):SIt b h c l 0:=by
 cases b <;> exact ⟨_,e,rfl,rfl⟩
theorem sqk {X:Cx}{k:Bool}{pins:List (Addr×PySem.Obj)}{σ:L2.St}{H:Hp}{s:Shared}{a:Addr}{xs:List V}(I:Inv X pins σ H s)(h:SqK k X.K H a xs):∃its,Vals xs its/\SSq k s.heap a its.toArray:=by
 cases k
 ·obtain ⟨its,r,p,_⟩:=I.tuple h;exact ⟨its,r,p⟩
 ·obtain ⟨its,r,p,_⟩:=I.list h;exact ⟨its,r,p.isList⟩
theorem a46 {X:Cx}{k:Bool}{pins:List (Addr×PySem.Obj)}{σ:L2.St}{H:Hp}{s:Shared}{a:Addr}{xs ys:List V}(I:Inv X pins σ H s)(h:SqK k X.K H a xs)(h':SqK k X.K H a ys):xs=ys:=by
 cases k
 ·exact I.tuple_inj h h'
 ·exact I.list_inj h h'
theorem a83 {b:Bool}{h:Heap}{c:Addr}{its:Array Value}(i:SSq b h c its):c < h.objs.size:=by
 cases b <;> (obtain ⟨o,e,r⟩:=i;exact Heap.lt_size e)
section
variable {prog:Program}{w:World}{A:Around}{E:Value->Shared->Prop}{s:Shared}
theorem W9 {b:Bool}{c t:Addr}{k:Nat}{its:Array Value}{x:Value}{Q:Value->Shared->Prop}(hc:SIt b s.heap c t k)(ht:SSq b s.heap t its)(hx:its[k]? =some x)
  (q:∀h',SIt b h' c t (k + 1)->Heap.SameBut c s.heap h'->Q x {s with heap:=h'}):wpAny (model prog w) A (Builtin.SmallTypes.nextOf (.ref c)) Q E s:=by
 cases b
 ·exact a6q hc ht hx q
 ·exact wpAny_nextOf_list_item hc ht hx q
theorem a2j {b:Bool}{c t:Addr}{k:Nat}{its:Array Value}{Q:Value->Shared->Prop}(hh:A.handled=none)(hc:SIt b s.heap c t k)(ht:SSq b s.heap t its)(hx:its[k]? =none)
  (q:∀h' x,Heap.ExtBut c s.heap h'->(∃o,h'.get? x=some o/\o.cls= .type "StopIteration")->E (.ref x) {s with heap:=h'}):wpAny (model prog w) A (Builtin.SmallTypes.nextOf (.ref c)) Q E s:=by
 cases b
 ·exact a8D hh hc ht hx q
 ·exact wpAny_nextOf_list_end hh hc ht hx q
theorem iterS {b:Bool}{l:Addr}{its:Array Value}{Q:Value->Shared->Prop}(ht:SSq b s.heap l its)(q:Q (.ref s.heap.objs.size) {s with heap:=s.heap.push {cls:=.type (itN b),data:=.fields #[.ref l,.int 0 0]}}):wpAny (model prog w) A (pyIter (.ref l)) Q E s:=by
 cases b
 ·exact iter_tuple ht q
 ·exact wpAny_pyIter_list ht q
end
section
variable {prog:Program}{w:World}{A:Around}{E:Value->Shared->Prop}{s:Shared}{c1 c2:Bool}{z TI TO i1 i2 l1 l2:Addr}{k1 k2:Nat}{xs ys:Array Value}{x y a b:Value}
theorem a8g {Q:Value->Shared->Prop}(D:ZipApart z TI TO i1 i2 l1 l2)(hz:IsZip s.heap z TI TO .none)(hTI:IsPair s.heap TI (.ref i1) (.ref i2))(hTO:IsPair s.heap TO a b)
  (h1:SIt c1 s.heap i1 l1 k1) (h2:SIt c2 s.heap i2 l2 k2) (t1:SSq c1 s.heap l1 xs) (t2:SSq c2 s.heap l2 ys) (hx:xs[k1]? =some x) (hy:ys[k2]? =some y)
  (q:∀h',IsZip h' z TI TO (rawInt s.heap.objs.size)->IsPair h' TO x y->SIt c1 h' i1 l1 (k1 + 1)->SIt c2 h' i2 l2 (k2 + 1)->IsPair h' s.heap.objs.size x y->h'.objs.size=s.heap.objs.size + 1->
   (∀c o,c≠z->c≠TO->c≠i1->c≠i2->s.heap.get? c=some o->h'.get? c=some o)->Q (.ref s.heap.objs.size) {s with heap:=h'}):
  wpAny (model prog w) A (Builtin.«zip.__next__» ⟨[.ref z],[]⟩) (fun fin s'=>∃v,fin= .done (.ret v)/\Q v s') E s:=by
 refine wpAny_bind (m:=field (.ref z) 2) (wpAny_field hz rfl (x:=.bool false) rfl ?_)
 refine wpAny_bind (m:=field (.ref z) 3) (wpAny_field hz rfl (x:=.ref TI) rfl (wpAny_bind (wpAny_seqItems hTI rfl ?_)))
 refine wpAny_bind (m:=Builtin.SmallTypes.ownedTupleIsFree (.ref z)) ?_
 unfold Builtin.SmallTypes.ownedTupleIsFree
 refine wpAny_bind (wpAny_field hz rfl (x:=.none) rfl (wpAny_pure ?_))
 simp only [if_true]
 refine wpAny_bind (wpAny_rule (wpAny_bind (wpAny_field hz rfl (x:=.ref TO) rfl (wpAny_bind (wpAny_setField_rec hz (by simp) fun ha za sa=>?_)))))
 have za':IsZip ha z TI TO .ellipsis:=za
 have ka:∀c o,c≠z->s.heap.get? c=some o->ha.get? c=some o:=fun c o n e=>sa.extBut c o n e
 refine wpAny_bind ?_
 simp only [List.zipIdx_cons,List.zipIdx_nil,List.forIn_cons,List.forIn_nil]
 refine wpAny_bind (wpAny_bind (wpAny_onRaise (wpAny_bind (m:=Builtin.SmallTypes.nextOf (.ref i1)) (W9 (D0 h1 fun o e=>ka _ o D.i1z e) (a18 t1 fun o e=>ka _ o D.l1z e) hx fun hb ib sb=>wpAny_pure ?_))))
 have kb:∀c o,c≠z->c≠i1->s.heap.get? c=some o->hb.get? c=some o:=fun c o n n1 e=>sb.extBut c o n1 (ka c o n e)
 have ob:IsPair hb TO a b:=kb _ _ D.TOz D.TOi1 hTO
 refine wpAny_bind (wpAny_seqItems ob rfl (wpAny_bind (wpAny_updateSeq_pair ob fun hc oc sc=>?_)))
 have oc':IsPair hc TO x b:=oc
 have kc:∀c o,c≠z->c≠i1->c≠TO->s.heap.get? c=some o->hc.get? c=some o:=fun c o n n1 n2 e=>sc.extBut c o n2 (kb c o n n1 e)
 refine wpAny_bind (wpAny_letGo (wpAny_pure ?_))
 refine wpAny_bind (wpAny_bind (wpAny_onRaise (wpAny_bind (m:=Builtin.SmallTypes.nextOf (.ref i2)) (W9 (D0 h2 fun o e=>kc _ o D.i2z D.i12.symm D.TOi2.symm e) (a18 t2 fun o e=>kc _ o D.l2z D.l2i1 D.l2TO e) hy fun hd id' sd=>wpAny_pure ?_))))
 have od:IsPair hd TO x b:=sd.extBut _ _ D.TOi2 oc'
 refine wpAny_bind (wpAny_seqItems od rfl (wpAny_bind (wpAny_updateSeq_pair od fun he oe se=>?_)))
 have oe':IsPair he TO x y:=oe
 refine wpAny_bind (wpAny_letGo (wpAny_pure (wpAny_pure ?_)))
 refine wpAny_bind (wpAny_seqItems oe' rfl (wpAny_bind (wpAny_newTuple ?_)))
 have size:he.objs.size=s.heap.objs.size:=by rw [se.1,sd.1,sc.1,sb.1,sa.1]
 have ke:∀c o,c≠z->c≠TO->c≠i1->c≠i2->s.heap.get? c=some o->he.get? c=some o:=fun c o n n1 n2 n3 e=>se.extBut c o n1 (sd.extBut c o n3 (kc c o n n2 n1 e))
 have ze:IsZip he z TI TO .ellipsis:=se.extBut _ _ D.TOz.symm (sd.extBut _ _ D.i2z.symm (sc.extBut _ _ D.TOz.symm (sb.extBut _ _ D.i1z.symm za')))
 have ie1:SIt c1 he i1 l1 (k1 + 1):=D0 ib fun o e=>se.extBut _ o D.TOi1.symm (sd.extBut _ o D.i12 (sc.extBut _ o D.TOi1.symm e))
 have ie2:SIt c2 he i2 l2 (k2 + 1):=D0 id' fun o e=>se.extBut _ o D.TOi2.symm e
 have zlt:z < he.objs.size:=Heap.lt_size ze
 refine wpAny_bind (m:=Builtin.SmallTypes.ownedTupleHandOut (.ref z) (.ref he.objs.size)) ?_
 unfold Builtin.SmallTypes.ownedTupleHandOut
 have zp:IsZip (he.push {cls:=.type "tuple",data:=.seq #[x,y]}) z TI TO .ellipsis:=Heap.get?_push_of_some _ ze
 refine wpAny_bind (wpAny_setField_rec zp (by simp) fun hf zf sf=>?_)
 have zf':IsZip hf z TI TO (rawInt he.objs.size):=zf
 refine wpAny_setField_rec zf' (by simp) fun hg zg sg=>?_
 have zg':IsZip hg z TI TO (rawInt he.objs.size):=zg
 have up:∀c o,c≠z->he.get? c=some o->hg.get? c=some o:=fun c o n e=>sg.extBut c o n (sf.extBut c o n (Heap.get?_push_of_some _ e))
 have pg:IsPair hg he.objs.size x y:=sg.extBut _ _ (Nat.ne_of_gt zlt) (sf.extBut _ _ (Nat.ne_of_gt zlt) (Heap.get?_push_size _ rfl))
 have szg:hg.objs.size=he.objs.size + 1:=by rw [sg.1,sf.1,Heap.size_push]
 rw [size] at zg' pg szg
 refine wpAny_pure ⟨_,rfl,?_⟩
 show Q (.ref he.objs.size) _
 rw [size]
 exact q hg zg' (up _ _ D.TOz oe') (D0 ie1 fun o e=>up _ o D.i1z e) (D0 ie2 fun o e=>up _ o D.i2z e) pg szg fun c o n n1 n2 n3 e=>up c o n (ke c o n n1 n2 n3 e)
end
section
variable {prog:Program}{w:World}{A:Around}{E:Value->Shared->Prop}{s:Shared}{c1 c2:Bool}{z TI TO i1 i2 l1 l2:Addr}{k1 k2:Nat}{xs ys:Array Value}{x y a b:Value}
theorem a96 {Q:Fin->Shared->Prop}(hh:A.handled=none)(D:ZipApart z TI TO i1 i2 l1 l2)(hz:IsZip s.heap z TI TO .none)(hTI:IsPair s.heap TI (.ref i1) (.ref i2))(hTO:IsPair s.heap TO a b)
  (h1:SIt c1 s.heap i1 l1 k1) (h2:SIt c2 s.heap i2 l2 k2) (t1:SSq c1 s.heap l1 xs) (t2:SSq c2 s.heap l2 ys) (hend:xs[k1]? =none\/ys[k2]? =none)
  (q:∀h' c,(∀c o,c≠z->c≠TO->c≠i1->c≠i2->s.heap.get? c=some o->h'.get? c=some o)->(∃o,h'.get? c=some o/\o.cls= .type "StopIteration")->E (.ref c) {s with heap:=h'}):
  wpAny (model prog w) A (Builtin.«zip.__next__» ⟨[.ref z],[]⟩) Q E s:=by
 refine wpAny_bind (m:=field (.ref z) 2) (wpAny_field hz rfl (x:=.bool false) rfl ?_)
 refine wpAny_bind (m:=field (.ref z) 3) (wpAny_field hz rfl (x:=.ref TI) rfl (wpAny_bind (wpAny_seqItems hTI rfl ?_)))
 refine wpAny_bind (m:=Builtin.SmallTypes.ownedTupleIsFree (.ref z)) ?_
 unfold Builtin.SmallTypes.ownedTupleIsFree
 refine wpAny_bind (wpAny_field hz rfl (x:=.none) rfl (wpAny_pure ?_))
 simp only [if_true]
 refine wpAny_bind (wpAny_rule (wpAny_bind (wpAny_field hz rfl (x:=.ref TO) rfl (wpAny_bind (wpAny_setField_rec hz (by simp) fun ha za sa=>?_)))))
 have za':IsZip ha z TI TO .ellipsis:=za
 have ka:∀c o,c≠z->s.heap.get? c=some o->ha.get? c=some o:=fun c o n e=>sa.extBut c o n e
 have apart:∀{h:Heap} {c:Addr} {v:Value},IsZip h z TI TO v->(∃o,h.get? c=some o/\o.cls= .type "StopIteration")->c≠z:=fun {h c v} hz' ⟨o,e1,e2⟩ n=>by
  subst n
  rw [hz'] at e1
  cases e1
  simp at e2
 refine wpAny_bind ?_
 simp only [List.zipIdx_cons,List.zipIdx_nil,List.forIn_cons,List.forIn_nil]
 cases hx:xs[k1]? with
 | none=>
  refine wpAny_bind (wpAny_bind (wpAny_onRaise (wpAny_bind (m:=Builtin.SmallTypes.nextOf (.ref i1)) (a2j hh (D0 h1 fun o e=>ka _ o D.i1z e) (a18 t1 fun o e=>ka _ o D.l1z e) hx fun hb c kb hc=>?_))))
  have zb:IsZip hb z TI TO .ellipsis:=kb _ _ D.i1z.symm za'
  have nz:=apart zb hc
  obtain ⟨o,eo,co⟩:=hc
  exact wpAny_setField_rec zb (by simp) fun hd _ sd=>q hd c (fun d o' n _ n2 _ e=>sd.extBut d o' n (kb d o' n2 (ka d o' n e))) ⟨o,sd.extBut _ _ nz eo,co⟩
 | some x=>
  have hy:ys[k2]? =none:=hend.resolve_left (by rw [hx];exact fun n=>nomatch n)
  refine wpAny_bind (wpAny_bind (wpAny_onRaise (wpAny_bind (m:=Builtin.SmallTypes.nextOf (.ref i1)) (W9 (D0 h1 fun o e=>ka _ o D.i1z e) (a18 t1 fun o e=>ka _ o D.l1z e) hx fun hb ib sb=>wpAny_pure ?_))))
  have kb:∀c o,c≠z->c≠i1->s.heap.get? c=some o->hb.get? c=some o:=fun c o n n1 e=>sb.extBut c o n1 (ka c o n e)
  have ob:IsPair hb TO a b:=kb _ _ D.TOz D.TOi1 hTO
  refine wpAny_bind (wpAny_seqItems ob rfl (wpAny_bind (wpAny_updateSeq_pair ob fun hc oc sc=>?_)))
  have kc:∀c o,c≠z->c≠i1->c≠TO->s.heap.get? c=some o->hc.get? c=some o:=fun c o n n1 n2 e=>sc.extBut c o n2 (kb c o n n1 e)
  refine wpAny_bind (wpAny_letGo (wpAny_pure ?_))
  refine wpAny_bind (wpAny_bind (wpAny_onRaise (wpAny_bind (m:=Builtin.SmallTypes.nextOf (.ref i2)) (a2j hh (D0 h2 fun o e=>kc _ o D.i2z D.i12.symm D.TOi2.symm e) (a18 t2 fun o e=>kc _ o D.l2z D.l2i1 D.l2TO e) hy fun hd c kd hc'=>?_))))
  have zd:IsZip hd z TI TO .ellipsis:=kd _ _ D.i2z.symm (sc.extBut _ _ D.TOz.symm (sb.extBut _ _ D.i1z.symm za'))
  have nz:=apart zd hc'
  obtain ⟨o,eo,co⟩:=hc'
  exact wpAny_setField_rec zd (by simp) fun hf _ sf=>q hf c (fun d o' n n1 n2 n3 e=>sf.extBut d o' n (kd d o' n3 (kc d o' n n2 n1 e))) ⟨o,sf.extBut _ _ nz eo,co⟩
theorem a6v {Q:Option Value->Shared->Prop}(D:ZipApart z TI TO i1 i2 l1 l2)(hz:IsZip s.heap z TI TO .none)(hTI:IsPair s.heap TI (.ref i1) (.ref i2))(hTO:IsPair s.heap TO a b)
  (h1:SIt c1 s.heap i1 l1 k1) (h2:SIt c2 s.heap i2 l2 k2) (t1:SSq c1 s.heap l1 xs) (t2:SSq c2 s.heap l2 ys) (hx:xs[k1]? =some x) (hy:ys[k2]? =some y)
  (q:∀h',IsZip h' z TI TO (rawInt s.heap.objs.size)->IsPair h' TO x y->SIt c1 h' i1 l1 (k1 + 1)->SIt c2 h' i2 l2 (k2 + 1)->IsPair h' s.heap.objs.size x y->h'.objs.size=s.heap.objs.size + 1->
   (∀c o,c≠z->c≠TO->c≠i1->c≠i2->s.heap.get? c=some o->h'.get? c=some o)->Q (some (.ref s.heap.objs.size)) {s with heap:=h'}):
  wpAny (model prog w) A (pyNext (.ref z)) Q E s:=by
 have T:s.TypeIs (.ref z) "zip":=⟨_,hz,rfl⟩
 unfold pyNext
 exact wpAny_bind (wpAny_attempt (wpAny_callSpecial?_slot (name:=Str.ofString "__next__") T F.slot_zip_next
  (wpAny_call_entry F.slot_zip_next T F.entry_zip_next (a8g D hz hTI hTO h1 h2 t1 t2 hx hy fun h' b1 b2 b3 b4 b5 b6 b7=>wpAny_pure (q h' b1 b2 b3 b4 b5 b6 b7)) (F.args_zip_next_1 _))))
theorem a8A {Q:Option Value->Shared->Prop}(hh:A.handled=none)(D:ZipApart z TI TO i1 i2 l1 l2)(hz:IsZip s.heap z TI TO .none)(hTI:IsPair s.heap TI (.ref i1) (.ref i2))(hTO:IsPair s.heap TO a b)
  (h1:SIt c1 s.heap i1 l1 k1) (h2:SIt c2 s.heap i2 l2 k2) (t1:SSq c1 s.heap l1 xs) (t2:SSq c2 s.heap l2 ys) (hend:xs[k1]? =none\/ys[k2]? =none)
  (q:∀h',(∀c o,c≠z->c≠TO->c≠i1->c≠i2->s.heap.get? c=some o->h'.get? c=some o)->Q none {s with heap:=h'}):wpAny (model prog w) A (pyNext (.ref z)) Q E s:=by
 have T:s.TypeIs (.ref z) "zip":=⟨_,hz,rfl⟩
 unfold pyNext
 refine wpAny_bind (wpAny_attempt (wpAny_callSpecial?_slot (name:=Str.ofString "__next__") T F.slot_zip_next (wpAny_call_entry F.slot_zip_next T F.entry_zip_next (a96 hh D hz hTI hTO h1 h2 t1 t2 hend fun h' c kp hc=>?_) (F.args_zip_next_1 _))))
 obtain ⟨o,eo,co⟩:=hc
 exact wpAny_bind (wpAny_isInstance (T:="StopIteration") (b:=true) ⟨o,eo,co⟩ isSubtype_stop (wpAny_pure (q _ kp)))
abbrev zp1 (b:Bool) (h:Heap) (l:Addr):Heap:=h.push {cls:=.type (itN b),data:=.fields #[.ref l,.int 0 0]}
abbrev zp3 (c1 c2:Bool) (h:Heap) (l m:Addr):Heap:=(zp1 c2 (zp1 c1 h l) m).push {cls:=.type "tuple",data:=.seq #[.ref h.objs.size,.ref (zp1 c1 h l).objs.size]}
abbrev zp4 (c1 c2:Bool) (h:Heap) (l m:Addr):Heap:=(zp3 c1 c2 h l m).push {cls:=.type "tuple",data:=.seq #[.none,.none]}
abbrev zp5 (c1 c2:Bool) (h:Heap) (l m:Addr):Heap:=(zp4 c1 c2 h l m).push {cls:=.type "zip",data:=.fields #[.none,.bool false,.bool false,.ref (zp1 c2 (zp1 c1 h l) m).objs.size,.ref (zp3 c1 c2 h l m).objs.size]}
theorem a9V (c1 c2:Bool)(l m:Addr)(xs ys:Array Value):Meets (Builtin.«zip.__new__» ⟨[.type "zip",.ref l,.ref m],[]⟩) (fun _ R s=>SSq c1 s.heap l xs/\SSq c2 s.heap m ys/\R (.ok (.ret (.ref (zp4 c1 c2 s.heap l m).objs.size))) {s with heap:=zp5 c1 c2 s.heap l m}):=
 .of_wp fun prog w A R s hh=>by
  obtain ⟨hp,g,d,tk,os⟩:=s
  obtain ⟨p1,p2,hr⟩:=hh
  have hsub:=sub_zip
  have q1:SSq c1 (Shared.heap ⟨hp,g,d,tk,os⟩) l xs:=p1
  have q2:SSq c2 (Shared.heap ⟨zp1 c1 hp l,g,d,tk,os⟩) m ys:=a18 p2 fun o e=>Heap.get?_push_of_some _ e
  wp_walk using iterS q1,iterS q2
  exact ⟨_,rfl,hr⟩
theorem a75 {Q:Value->Shared->Prop}(p1:SSq c1 s.heap l1 xs)(p2:SSq c2 s.heap l2 ys)
  (q:∀h',IsZip h' (s.heap.objs.size + 4) (s.heap.objs.size + 2) (s.heap.objs.size + 3) .none->IsPair h' (s.heap.objs.size + 2) (.ref s.heap.objs.size) (.ref (s.heap.objs.size + 1))->IsPair h' (s.heap.objs.size + 3) .none .none->
   SIt c1 h' s.heap.objs.size l1 0->SIt c2 h' (s.heap.objs.size + 1) l2 0->(∀c o,s.heap.get? c=some o->h'.get? c=some o)->Q (.ref (s.heap.objs.size + 4)) {s with heap:=h'}):
  wpAny (model prog w) A (call (.type "zip") [.ref l1,.ref l2]) Q E s:=by
 refine callType_new F.called_zip (by decide) (F.typeCall_zip_2 _ _) (F.newCall_zip_2 _ _) (fun obj=>F.args_object_init_3 obj _ _) F.entry_zip_new (a9V c1 c2 l1 l2 xs ys) ⟨p1,p2,?_⟩
 have n1:(zp1 c1 s.heap l1).objs.size=s.heap.objs.size + 1:=Heap.size_push ..
 have n2:(zp1 c2 (zp1 c1 s.heap l1) l2).objs.size=s.heap.objs.size + 2:=by rw [Heap.size_push,n1]
 have n3:(zp3 c1 c2 s.heap l1 l2).objs.size=s.heap.objs.size + 3:=by rw [Heap.size_push,n2]
 have n4:(zp4 c1 c2 s.heap l1 l2).objs.size=s.heap.objs.size + 4:=by rw [Heap.size_push,n3]
 have up:∀{h:Heap} {c:Addr} {o p:PySem.Obj},h.get? c=some o->(h.push p).get? c=some o:=fun e=>Heap.get?_push_of_some _ e
 have r5:(zp5 c1 c2 s.heap l1 l2).get? (zp4 c1 c2 s.heap l1 l2).objs.size=some _:=Heap.get?_push_size _ rfl
 have r4:(zp5 c1 c2 s.heap l1 l2).get? (zp3 c1 c2 s.heap l1 l2).objs.size=some _:=up (Heap.get?_push_size _ rfl)
 have r3:(zp5 c1 c2 s.heap l1 l2).get? (zp1 c2 (zp1 c1 s.heap l1) l2).objs.size=some _:=up (up (Heap.get?_push_size _ rfl))
 have r2:(zp5 c1 c2 s.heap l1 l2).get? (zp1 c1 s.heap l1).objs.size=some _:=up (up (up (Heap.get?_push_size _ rfl)))
 have r1:(zp5 c1 c2 s.heap l1 l2).get? s.heap.objs.size=some _:=up (up (up (up (Heap.get?_push_size _ rfl))))
 rw [n2,n3,n4] at r5
 rw [n1,n2] at r3
 rw [n3] at r4
 rw [n1] at r2
 show _/\_
 rw [n4]
 exact ⟨⟨_,r5,rfl⟩,q _ r5 r3 r4 (a4C r1) (a4C r2) fun c o e=>up (up (up (up (up e))))⟩
end
theorem a17 {xs:List V}{us:List Value}{i:Nat}(r:Vals xs us)(e:xs[i]? =none):us.toArray[i]? =none:=by
 have:=r.length
 rw [List.getElem?_eq_none_iff] at e
 rw [List.getElem?_toArray,List.getElem?_eq_none_iff]
 walk_at "o"
def ItzT (c1 c2:Bool) (K:PySem.W.Frag) (l1 l2:Addr):It:=
 ⟨fun i H=>∃xs ys x y,SqK c1 K H l1 xs/\SqK c2 K H l2 ys/\xs[i]? =some x/\ys[i]? =some y,
  fun i H v H'=>∃T x y,v= .ref T/\H T=none/\H'=upd H T (.tup [x,y])/\(∀xs,SqK c1 K H l1 xs->xs[i]? =some x)/\∀ys,SqK c2 K H l2 ys->ys[i]? =some y,
  fun i H=>∃xs ys,SqK c1 K H l1 xs/\SqK c2 K H l2 ys/\(xs[i]? =none\/ys[i]? =none)⟩
def zipTt (c1 c2:Bool) (z TI TO i1 i2 l1 l2:Addr) (i:Nat) (h:Heap):Prop:=IsZip h z TI TO .none/\IsPair h TI (.ref i1) (.ref i2)/\(∃a b,IsPair h TO a b)/\SIt c1 h i1 l1 i/\SIt c2 h i2 l2 i
theorem a7W {P:Program}{w:World}{K:PySem.W.Frag}{es:List Expr}{kt:Nat}{pt:Pos}{c1 c2:Bool}{z TI TO i1 i2 l1 l2:Addr}(D:ZipApart z TI TO i1 i2 l1 l2):
  Turn P w K (.Tuple es kt pt) (ItzT c1 c2 K l1 l2) [z,TI,TO,i1,i2] z (zipTt c1 c2 z TI TO i1 i2 l1 l2) where
 mem:=by simp
 obj:=fun i h st b hb=>by
  obtain ⟨hz,hTI,⟨a,b',hTO⟩,s1,s2⟩:=st
  obtain ⟨o1,e1,d1⟩:=P0 s1
  obtain ⟨o2,e2,d2⟩:=P0 s2
  simp only [List.mem_cons,List.not_mem_nil,or_false] at hb
  rcases hb with rfl | rfl | rfl | rfl | rfl
  ·exact ⟨_,hz,fun v z=>nomatch z⟩
  ·exact ⟨_,hTI,fun v z=>nomatch z⟩
  ·exact ⟨_,hTO,fun v z=>nomatch z⟩
  ·exact ⟨_,e1,d1⟩
  ·exact ⟨_,e2,d2⟩
 keep:=fun i h h' st k=>by
  obtain ⟨hz,hTI,⟨a,b',hTO⟩,h1,h2⟩:=st
  exact ⟨k z (by simp) _ hz,k TI (by simp) _ hTI,⟨a,b',k TO (by simp) _ hTO⟩,D0 h1 fun o e=>k i1 (by simp) o e,D0 h2 fun o e=>k i2 (by simp) o e⟩
 item:=by
  intro X hP hw hK hc i pins s σ H E I hf st hg
  subst hP hw hK
  obtain ⟨xs,ys,x,y,q1,q2,ex,ey⟩:=hg
  obtain ⟨its1,r1,p1⟩:=sqk I q1
  obtain ⟨its2,r2,p2⟩:=sqk I q2
  obtain ⟨u,hu,ru⟩:=r1.get ex
  obtain ⟨v,hv,rv⟩:=r2.get ey
  obtain ⟨hz,hTI,⟨a,b,hTO⟩,h1,h2⟩:=st
  have l1:∀{c o},s.heap.get? c=some o->c≠s.heap.objs.size:=fun e=>Nat.ne_of_lt (Heap.lt_size e)
  refine a6v D hz hTI hTO h1 h2 p1 p2 (x:=u) (y:=v) (by simpa using hu) (by simpa using hv) fun h' a1 a2 a3 a4 a5 a6 hk=>⟨_,rfl,?_⟩
  refine wpAny_letOwnedTupleGo_zip a1 fun h2' b1 b2=>?_
  have ez:z < s.heap.objs.size:=Heap.lt_size hz
  have nT:s.heap.objs.size≠z:=Nat.ne_of_gt ez
  have kp:∀c o,c∉[z,TI,TO,i1,i2]->s.heap.get? c=some o->h2'.get? c=some o:=fun c o hc e=>by
   simp only [List.mem_cons,List.not_mem_nil,or_false,not_or] at hc
   exact (b2.2 c hc.1).trans (hk c o hc.1 hc.2.2.1 hc.2.2.2.1 hc.2.2.2.2 e)
  have fr:H s.heap.objs.size=none:=I.hok.fresh (Nat.le_refl _)
  have tr:∀c w,H c=some w->c∉[z,TI,TO,i1,i2]:=fun c w e hc=>by rw [(hf c hc).1] at e;cases e
  have st':zipTt c1 c2 z TI TO i1 i2 _ _ (i + 1) h2':=⟨b1,(b2.2 _ D.TIz).trans (hk _ _ D.TIz D.TITO D.TIi1 D.TIi2 hTI),⟨_,_,(b2.2 _ D.TOz).trans a2⟩,D0 a3 fun o e=>(b2.2 _ D.i1z).trans e,D0 a4 fun o e=>(b2.2 _ D.i2z).trans e⟩
  have five:∀c∈[z,TI,TO,i1,i2],∃o,h2'.get? c=some o:=fun c hc=>by
   obtain ⟨q1,q2,⟨_,_,q3⟩,s4,s5⟩:=st'
   obtain ⟨_,q4,_⟩:=P0 s4
   obtain ⟨_,q5,_⟩:=P0 s5
   simp only [List.mem_cons,List.not_mem_nil,or_false] at hc
   rcases hc with rfl | rfl | rfl | rfl | rfl
   ·exact ⟨_,q1⟩
   ·exact ⟨_,q2⟩
   ·exact ⟨_,q3⟩
   ·exact ⟨_,q4⟩
   ·exact ⟨_,q5⟩
  have hb5:h2'.get? s.heap.objs.size=some {cls:=.type "tuple",data:=.seq #[u,v]}:=(b2.2 _ nT).trans a5
  have un:Un (frs X.stack) [z,TI,TO,i1,i2] H (upd H s.heap.objs.size (.tup [x,y])) s.heap h2':=⟨fun c o e n hfs hx=>kp c o hx e,fun c o e n hfs hx=>⟨o.slots,kp c o hx e⟩,fun c o e n hx=>by rw [g7 (l1 e)];exact n,fun c o e hx=>⟨o,kp c o hx e⟩,
   fun c ws e=>by rw [g7 (l6 e fr)];exact e,fun c o w e=>by rw [g7 (l6 e fr)];exact e,fun c ps e=>⟨#[],by rw [g7 (l6 e fr),e];simp⟩⟩
  have hok:HOk X.prog X.w (upd H s.heap.objs.size (.tup [x,y])) h2':=fun c w e=>by
   by_cases hc:c=s.heap.objs.size
   ·subst hc
    rw [m5] at e;cases e
    exact ⟨by show 2<=sizeLine;rw [sizeLine_eq];decide,[u,v],.cons ru (.cons rv .nil),⟨_,hb5,rfl,⟨_,rfl⟩,rfl⟩⟩
   ·rw [g7 hc] at e
    refine (I.hok c w e).stay (fun c' o hc' e'=>kp c' o (by
     rcases hc' with rfl | hc'
     ·exact tr _ _ e
     ·exact tr _ _ hc') e') (fun c' q=>by rw [g7 (l6 q fr)];exact q) fun c' ws q=>by rw [g7 (l6 q fr)];exact q
  have I1:Inv X pins σ (upd H s.heap.objs.size (.tup [x,y])) {s with heap:=h2'}:=I.call' (s':={s with heap:=h2'}) (ch:=[z,TI,TO,i1,i2]) rfl un hok I.bare fun c hc=>⟨(hf c hc).2.2.2.1,(hf c hc).2.1,(hf c hc).2.2.2.2.1,(hf c hc).2.2.2.2.2⟩
  exact ⟨.ref s.heap.objs.size,_,I1,rfl,⟨_,x,y,rfl,fr,rfl,fun ws hw=>by rw [a46 I hw q1];exact ex,fun ws hw=>by rw [a46 I hw q2];exact ey⟩,st',fun c hc=>by
   obtain ⟨o,e⟩:=five c hc
   have:c≠s.heap.objs.size:=fun z=>by
    subst z
    have:=(hf _ hc)
    obtain ⟨q1,q2,⟨_,_,q3⟩,s4,s5⟩:=(⟨hz,hTI,⟨a,b,hTO⟩,h1,h2⟩:zipTt c1 c2 z TI TO i1 i2 _ _ i s.heap)
    obtain ⟨_,q4,_⟩:=P0 s4
    obtain ⟨_,q5,_⟩:=P0 s5
    simp only [List.mem_cons,List.not_mem_nil,or_false] at hc
    rcases hc with rfl | rfl | rfl | rfl | rfl
    ·exact l1 q1 rfl
    ·exact l1 q2 rfl
    ·exact l1 q3 rfl
    ·exact l1 q4 rfl
    ·exact l1 q5 rfl
   rw [g7 this];exact (hf c hc).1⟩
 done:=by
  intro X hP hw hK hc i pins s σ H E I hf st hg
  subst hP hw hK
  obtain ⟨xs,ys,q1,q2,hend⟩:=hg
  obtain ⟨its1,r1,p1⟩:=sqk I q1
  obtain ⟨its2,r2,p2⟩:=sqk I q2
  obtain ⟨hz,hTI,⟨a,b,hTO⟩,h1,h2⟩:=st
  refine a8A (I.ok.hd hc) D hz hTI hTO h1 h2 p1 p2 (hend.imp (a17 r1) (a17 r2)) fun h' hk=>⟨rfl,?_⟩
  have kp:∀c o,c∉[z,TO,i1,i2]->s.heap.get? c=some o->h'.get? c=some o:=fun c o hc e=>by
   simp only [List.mem_cons,List.not_mem_nil,or_false,not_or] at hc
   exact hk c o hc.1 hc.2.1 hc.2.2.1 hc.2.2.2 e
  have sub:∀c∈[z,TO,i1,i2],c∈[z,TI,TO,i1,i2]:=fun c hc=>by simp at hc ⊢;rcases hc with h | h | h | h <;> simp [h]
  have un:Un (frs X.stack) [z,TO,i1,i2] H H s.heap h':=⟨fun c o e n hfs hx=>kp c o hx e,fun c o e n hfs hx=>⟨o.slots,kp c o hx e⟩,fun c o e n hx=>n,fun c o e hx=>⟨o,kp c o hx e⟩,fun c ws e=>e,fun c o w e=>e,fun c ps e=>⟨#[],by rw [e];simp⟩⟩
  have tr:∀c w,H c=some w->c∉[z,TO,i1,i2]:=fun c w e hc=>by rw [(hf c (sub c hc)).1] at e;cases e
  have hok:HOk X.prog X.w H h':=fun c w e=>(I.hok c w e).stay (fun c' o hc' e'=>kp c' o (by
   rcases hc' with rfl | hc'
   ·exact tr _ _ e
   ·exact tr _ _ hc') e') (fun _ q=>q) fun _ _ q=>q
  exact I.call' (s':={s with heap:=h'}) (ch:=[z,TO,i1,i2]) rfl un hok I.bare fun c hc=>⟨(hf c (sub c hc)).2.2.2.1,(hf c (sub c hc)).2.1,(hf c (sub c hc)).2.2.2.2.1,(hf c (sub c hc)).2.2.2.2.2⟩
 self:=fun _ _ _ _ _ st h=>wpAny_pyIter_zip st.1 h
section
variable {prog:Program}{w:World}{A:Around}{E:Value->Shared->Prop}{s:Shared}{k:Bool}
theorem a6V {en ci l:Addr}{i:Nat}{its:Array Value}{x old:Value}{Q:Value->Shared->Prop}(hE:IsEnum s.heap en ci i old)(hC:SIt k s.heap ci l i)(hL:SSq k s.heap l its)(hx:its[i]? =some x)(ne:en≠ci)
  (q:∀h',IsEnumOut h' en ci ((i:Int) + 1) x s.heap.objs.size->SIt k h' ci l (i + 1)->h'.get? s.heap.objs.size=some {cls:=.type "tuple",data:=.seq #[.int i s.toks,x]}->h'.objs.size=s.heap.objs.size + 1->
   (∀b o,b≠en->b≠ci->s.heap.get? b=some o->h'.get? b=some o)->Q (.ref s.heap.objs.size) {s with heap:=h',toks:=s.toks + 1}):
  wpAny (model prog w) A (Builtin.«enumerate.__next__» ⟨[.ref en],[]⟩) (fun fin s'=>∃v,fin= .done (.ret v)/\Q v s') E s:=by
 obtain ⟨h0,g,d,tk,os⟩:=s
 refine wpAny_bind (m:=field (.ref en) 2) (wpAny_field hE rfl (x:=.ref ci) rfl (wpAny_bind (W9 hC hL hx fun h1 c1 s1=>?_)))
 have s1:Heap.SameBut ci h0 h1:=s1
 have e1:IsEnum h1 en ci i old:=(s1.2 en ne).trans hE
 refine wpAny_bind (m:=field (.ref en) 3) (wpAny_field e1 rfl (x:=rawInt i) rfl (wpAny_bind (m:=field (.ref en) 4) (wpAny_field e1 rfl (x:=.none) rfl (wpAny_bind (m:=mkInt i) (wpAny_mkInt ?_)))))
 refine wpAny_bind (m:=setField (.ref en) 3 (rawInt ((i:Int) + 1))) (wpAny_setField_rec e1 (by simp) fun h2 e2 s2=>?_)
 have s2:Heap.SameBut en h1 h2:=s2
 have e2:IsEnum h2 en ci ((i:Int) + 1) old:=e2
 refine wpAny_bind (m:=setField (.ref en) 4 .none) (wpAny_setField_rec e2 (by simp) fun h3 e3 s3=>?_)
 have s3:Heap.SameBut en h2 h3:=s3
 have e3:IsEnum h3 en ci ((i:Int) + 1) old:=e3
 refine wpAny_bind (m:=newTuple [.int i tk,x]) (wpAny_newTuple ?_)
 have e4:IsEnum (h3.push {cls:=.type "tuple",data:=.seq #[.int i tk,x]}) en ci ((i:Int) + 1) old:=Heap.get?_push_of_some _ e3
 have z3:h3.objs.size=h0.objs.size:=by rw [s3.1,s2.1,s1.1]
 have lt:en < h0.objs.size:=Heap.lt_size hE
 generalize g4:h3.push {cls:=.type "tuple",data:=.seq #[.int i tk,x]}=h4 at e4
 have t4:h4.get? h0.objs.size=some {cls:=.type "tuple",data:=.seq #[.int i tk,x]}:=by rw [<-g4,<-z3];exact Heap.get?_push_size _ rfl
 have z4:h4.objs.size=h0.objs.size + 1:=by rw [<-g4,Heap.size_push,z3]
 have k4:∀b o,b≠en->b≠ci->h0.get? b=some o->h4.get? b=some o:=fun b o n1 n2 e=>by rw [<-g4];exact Heap.get?_push_of_some _ (s3.extBut b o n1 (s2.extBut b o n1 (s1.extBut b o n2 e)))
 have c4:SIt k h4 ci l (i + 1):=D0 c1 fun o e=>by rw [<-g4];exact Heap.get?_push_of_some _ (s3.extBut _ o ne.symm (s2.extBut _ o ne.symm e))
 rw [z3]
 refine wpAny_bind (m:=Builtin.SmallTypes.ownedTupleIsFree (.ref en)) ?_
 unfold Builtin.SmallTypes.ownedTupleIsFree
 refine wpAny_bind (wpAny_field e4 rfl (x:=.none) rfl (wpAny_pure ?_))
 simp only [if_true]
 refine wpAny_bind (wpAny_rule (wpAny_bind (wpAny_field e4 rfl (x:=old) rfl (wpAny_bind (wpAny_setField_rec e4 (by simp) fun h5 e5 s5=>?_)))))
 have s5:Heap.SameBut en h4 h5:=s5
 have e5:IsEnum h5 en ci ((i:Int) + 1) x:=e5
 refine wpAny_bind (m:=Builtin.SmallTypes.ownedTupleHandOut (.ref en) (.ref h0.objs.size)) ?_
 unfold Builtin.SmallTypes.ownedTupleHandOut
 refine wpAny_bind (wpAny_setField_rec e5 (by simp) fun h6 e6 s6=>?_)
 have s6:Heap.SameBut en h5 h6:=s6
 have e6:IsEnumOut h6 en ci ((i:Int) + 1) x h0.objs.size:=e6
 refine wpAny_setField_rec e6 (by simp) fun h7 e7 s7=>?_
 have s7:Heap.SameBut en h6 h7:=s7
 have up:∀b o,b≠en->h4.get? b=some o->h7.get? b=some o:=fun b o n e=>s7.extBut b o n (s6.extBut b o n (s5.extBut b o n e))
 exact wpAny_bind (wpAny_letGo (wpAny_pure ⟨_,rfl,q h7 e7 (D0 c4 fun o e=>up _ o ne.symm e) (up _ _ (Nat.ne_of_gt lt) t4) (by rw [s7.1,s6.1,s5.1,z4]) fun b o n1 n2 e=>up b o n1 (k4 b o n1 n2 e)⟩))
theorem a6p {en ci l:Addr}{i:Nat}{its:Array Value}{x old:Value}{Q:Option Value->Shared->Prop}(hE:IsEnum s.heap en ci i old)(hC:SIt k s.heap ci l i)(hL:SSq k s.heap l its)(hx:its[i]? =some x)(ne:en≠ci)
  (q:∀h',IsEnumOut h' en ci ((i:Int) + 1) x s.heap.objs.size->SIt k h' ci l (i + 1)->h'.get? s.heap.objs.size=some {cls:=.type "tuple",data:=.seq #[.int i s.toks,x]}->h'.objs.size=s.heap.objs.size + 1->
   (∀b o,b≠en->b≠ci->s.heap.get? b=some o->h'.get? b=some o)->Q (some (.ref s.heap.objs.size)) {s with heap:=h',toks:=s.toks + 1}):wpAny (model prog w) A (pyNext (.ref en)) Q E s:=by
 have T:s.TypeIs (.ref en) "enumerate":=⟨_,hE,rfl⟩
 unfold pyNext
 exact wpAny_bind (wpAny_attempt (wpAny_callSpecial?_slot (name:=Str.ofString "__next__") T F.slot_enumerate_next (wpAny_call_entry F.slot_enumerate_next T F.entry_enumerate_next (a6V hE hC hL hx ne fun h' a b c d kp=>wpAny_pure (q h' a b c d kp)) (F.args_enumerate_next_1 _))))
theorem a8w {en ci l:Addr}{i:Nat}{its:Array Value}{old:Value}{Q:Option Value->Shared->Prop}(hh:A.handled=none)(hE:IsEnum s.heap en ci i old)(hC:SIt k s.heap ci l i)(hL:SSq k s.heap l its)(hx:its[i]? =none)
  (q:∀h',Heap.ExtBut ci s.heap h'->Q none {s with heap:=h'}):wpAny (model prog w) A (pyNext (.ref en)) Q E s:=by
 have T:s.TypeIs (.ref en) "enumerate":=⟨_,hE,rfl⟩
 unfold pyNext
 refine wpAny_bind (wpAny_attempt (wpAny_callSpecial?_slot (name:=Str.ofString "__next__") T F.slot_enumerate_next (wpAny_call_entry F.slot_enumerate_next T F.entry_enumerate_next ?_ (F.args_enumerate_next_1 _))))
 refine wpAny_bind (m:=field (.ref en) 2) (wpAny_field hE rfl (x:=.ref ci) rfl (wpAny_bind (a2j hh hC hL hx fun h' x kp ⟨o,eo,co⟩=>?_)))
 exact wpAny_bind (wpAny_isInstance (T:="StopIteration") (b:=true) ⟨o,eo,co⟩ isSubtype_stop (wpAny_pure (q _ kp)))
theorem a77 (k:Bool)(l:Addr)(its:Array Value):Meets (Builtin.«enumerate.__new__» ⟨[.type "enumerate",.ref l],[]⟩) (fun _ R s=>SSq k s.heap l its/\
   R (.ok (.ret (.ref (zp1 k s.heap l).objs.size))) {s with heap:=(zp1 k s.heap l).push {cls:=.type "enumerate",data:=.fields #[.none,.bool false,.ref s.heap.objs.size,rawInt 0,.none,.none]}}):=
 .of_wp fun prog w A R s h=>by
  obtain ⟨h0,g,d,tk,os⟩:=s
  obtain ⟨hl,h⟩:=h
  have hsub:=sub_enumerate
  have q1:SSq k (Shared.heap ⟨h0,g,d,tk,os⟩) l its:=hl
  wp_walk using iterS q1
  refine wpAny_stack_any fun st=>wpAny_pure ?_
  split
  ·rename_i c _ _ _ _ _
   cases (c == Value.type "enumerate") <;> (wp_walk using iterS q1;exact ⟨_,rfl,h⟩)
  ·wp_walk using iterS q1
   exact ⟨_,rfl,h⟩
theorem a6D {l:Addr}{its:Array Value}{Q:Value->Shared->Prop}(hL:SSq k s.heap l its)
  (q:∀h',IsEnum h' (s.heap.objs.size + 1) s.heap.objs.size 0 .none->SIt k h' s.heap.objs.size l 0->(∀b o,s.heap.get? b=some o->h'.get? b=some o)->Q (.ref (s.heap.objs.size + 1)) {s with heap:=h'}):
  wpAny (model prog w) A (call (.type "enumerate") [.ref l]) Q E s:=by
 refine callType_new F.called_enumerate (by decide) (F.typeCall_enumerate_1 _) (F.newCall_enumerate_1 _) (fun obj=>F.args_object_init_2 obj _) F.entry_enumerate_new (a77 k l its) ⟨hL,?_⟩
 have n1:(zp1 k s.heap l).objs.size=s.heap.objs.size + 1:=Heap.size_push ..
 have r2:=Heap.get?_push_size (zp1 k s.heap l) (o:={cls:=.type "enumerate",data:=.fields #[.none,.bool false,.ref s.heap.objs.size,rawInt 0,.none,.none]}) rfl
 show _/\_
 rw [n1] at r2 ⊢
 exact ⟨⟨_,r2,rfl⟩,q _ r2 (a4C (Heap.get?_push_of_some _ (Heap.get?_push_size _ rfl))) fun b o x=>Heap.get?_push_of_some _ (Heap.get?_push_of_some _ x)⟩
end
def Ite (k:Bool) (K:PySem.W.Frag) (l:Addr):It:=
 ⟨fun i H=>∃xs x,SqK k K H l xs/\xs[i]? =some x,
  fun i H v H'=>∃T x,v= .ref T/\H T=none/\H'=upd H T (.tup [.int (i:Int),x])/\∀xs,SqK k K H l xs->xs[i]? =some x,
  fun i H=>∃xs,SqK k K H l xs/\xs[i]? =none⟩
def enumT (k:Bool) (en ci l:Addr) (i:Nat) (h:Heap):Prop:=(∃old,IsEnum h en ci (i:Int) old)/\SIt k h ci l i
theorem a8i {P:Program}{w:World}{K:PySem.W.Frag}{es:List Expr}{kt:Nat}{pt:Pos}{k:Bool}{en ci l:Addr}(ne:en≠ci):
  Turn P w K (.Tuple es kt pt) (Ite k K l) [en,ci] en (enumT k en ci l) where
 mem:=by simp
 obj:=fun i h st b hb=>by
  obtain ⟨⟨old,hE⟩,hC⟩:=st
  simp only [List.mem_cons,List.not_mem_nil,or_false] at hb
  rcases hb with rfl | rfl
  ·exact ⟨_,hE,fun v z=>nomatch z⟩
  ·exact P0 hC
 keep:=fun i h h' st kp=>by
  obtain ⟨⟨old,hE⟩,hC⟩:=st
  exact ⟨⟨old,kp en (by simp) _ hE⟩,D0 hC fun o e=>kp ci (by simp) o e⟩
 item:=by
  intro X hP hw hK hc i pins s σ H E I hf st hg
  subst hP hw hK
  obtain ⟨xs,x,q1,ex⟩:=hg
  obtain ⟨its,r1,p1⟩:=sqk I q1
  obtain ⟨u,hu,ru⟩:=r1.get ex
  obtain ⟨⟨old,hE⟩,hC⟩:=st
  obtain ⟨oc,hoc,_⟩:=P0 hC
  have l1:∀{c o},s.heap.get? c=some o->c≠s.heap.objs.size:=fun e=>Nat.ne_of_lt (Heap.lt_size e)
  refine a6p hE hC p1 (x:=u) (by simpa using hu) ne fun h' a1 a2 a3 a4 hk=>⟨_,rfl,?_⟩
  refine wpAny_letOwnedTupleGo_enum a1 fun h2' b1 b2=>?_
  have nT:s.heap.objs.size≠en:=(l1 hE).symm
  have kp:∀c o,c∉[en,ci]->s.heap.get? c=some o->h2'.get? c=some o:=fun c o hc e=>by
   simp only [List.mem_cons,List.not_mem_nil,or_false,not_or] at hc
   exact (b2.2 c hc.1).trans (hk c o hc.1 hc.2 e)
  have fr:H s.heap.objs.size=none:=I.hok.fresh (Nat.le_refl _)
  have tr:∀c w,H c=some w->c∉[en,ci]:=fun c w e hc=>by rw [(hf c hc).1] at e;cases e
  have st':enumT k en ci l (i + 1) h2':=⟨⟨_,b1⟩,D0 a2 fun o e=>(b2.2 _ ne.symm).trans e⟩
  have two:∀c∈[en,ci],∃o,h2'.get? c=some o:=fun c hc=>by
   simp only [List.mem_cons,List.not_mem_nil,or_false] at hc
   rcases hc with rfl | rfl
   ·exact ⟨_,b1⟩
   ·obtain ⟨o,e,_⟩:=P0 st'.2;exact ⟨o,e⟩
  have hb3:h2'.get? s.heap.objs.size=some {cls:=.type "tuple",data:=.seq #[.int i s.toks,u]}:=(b2.2 _ nT).trans a3
  have un:Un (frs X.stack) [en,ci] H (upd H s.heap.objs.size (.tup [.int (i:Int),x])) s.heap h2':=⟨fun c o e n hfs hx=>kp c o hx e,fun c o e n hfs hx=>⟨o.slots,kp c o hx e⟩,fun c o e n hx=>by rw [g7 (l1 e)];exact n,fun c o e hx=>⟨o,kp c o hx e⟩,
   fun c ws e=>by rw [g7 (l6 e fr)];exact e,fun c o w e=>by rw [g7 (l6 e fr)];exact e,fun c ps e=>⟨#[],by rw [g7 (l6 e fr),e];simp⟩⟩
  have hok:HOk X.prog X.w (upd H s.heap.objs.size (.tup [.int (i:Int),x])) h2':=fun c w e=>by
   by_cases hc:c=s.heap.objs.size
   ·subst hc
    rw [m5] at e;cases e
    exact ⟨by show 2<=sizeLine;rw [sizeLine_eq];decide,[.int i s.toks,u],.cons ⟨_,rfl⟩ (.cons ru .nil),⟨_,hb3,rfl,⟨_,rfl⟩,rfl⟩⟩
   ·rw [g7 hc] at e
    refine (I.hok c w e).stay (fun c' o hc' e'=>kp c' o (by
     rcases hc' with rfl | hc'
     ·exact tr _ _ e
     ·exact tr _ _ hc') e') (fun c' q=>by rw [g7 (l6 q fr)];exact q) fun c' ws q=>by rw [g7 (l6 q fr)];exact q
  have I1:Inv X pins σ (upd H s.heap.objs.size (.tup [.int (i:Int),x])) {s with heap:=h2',toks:=s.toks + 1}:=I.call' (s':={s with heap:=h2',toks:=s.toks + 1}) (ch:=[en,ci]) rfl un hok I.bare fun c hc=>⟨(hf c hc).2.2.2.1,(hf c hc).2.1,(hf c hc).2.2.2.2.1,(hf c hc).2.2.2.2.2⟩
  exact ⟨.ref s.heap.objs.size,_,I1,rfl,⟨_,x,rfl,fr,rfl,fun ws hw=>by rw [a46 I hw q1];exact ex⟩,st',fun c hc=>by
   have:c≠s.heap.objs.size:=fun z=>by
    subst z
    simp only [List.mem_cons,List.not_mem_nil,or_false] at hc
    rcases hc with z | z
    ·exact l1 hE z.symm
    ·exact l1 hoc z.symm
   rw [g7 this];exact (hf c hc).1⟩
 done:=by
  intro X hP hw hK hc i pins s σ H E I hf st hg
  subst hP hw hK
  obtain ⟨xs,q1,hend⟩:=hg
  obtain ⟨its,r1,p1⟩:=sqk I q1
  obtain ⟨⟨old,hE⟩,hC⟩:=st
  refine a8w (I.ok.hd hc) hE hC p1 (a17 r1 hend) fun h' hk=>⟨rfl,?_⟩
  have kp:∀c o,c∉[ci]->s.heap.get? c=some o->h'.get? c=some o:=fun c o hc e=>hk c o (by simpa using hc) e
  have sub:∀c∈[ci],c∈[en,ci]:=fun c hc=>by simp at hc ⊢;simp [hc]
  have un:Un (frs X.stack) [ci] H H s.heap h':=⟨fun c o e n hfs hx=>kp c o hx e,fun c o e n hfs hx=>⟨o.slots,kp c o hx e⟩,fun c o e n hx=>n,fun c o e hx=>⟨o,kp c o hx e⟩,fun c ws e=>e,fun c o w e=>e,fun c ps e=>⟨#[],by rw [e];simp⟩⟩
  have tr:∀c w,H c=some w->c∉[ci]:=fun c w e hc=>by rw [(hf c (sub c hc)).1] at e;cases e
  have hok:HOk X.prog X.w H h':=fun c w e=>(I.hok c w e).stay (fun c' o hc' e'=>kp c' o (by
   rcases hc' with rfl | hc'
   ·exact tr _ _ e
   ·exact tr _ _ hc') e') (fun _ q=>q) fun _ _ q=>q
  exact I.call' (s':={s with heap:=h'}) (ch:=[ci]) rfl un hok I.bare fun c hc=>⟨(hf c (sub c hc)).2.2.2.1,(hf c (sub c hc)).2.1,(hf c (sub c hc)).2.2.2.2.1,(hf c (sub c hc)).2.2.2.2.2⟩
 self:=fun _ _ _ _ _ st h=>wpAny_pyIter_enum st.1.choose_spec h
def kd:D->Bool
 | .lst _=>true
 | _=>false
theorem a12 {K:PySem.W.Frag}{A:Av}{H:Hp}{d:D}{v:V}{xs:List D}(e:items d=some xs)(h:Den K A H d v):∃a vs,v= .ref a/\SqK (kd d) K H a vs/\DenL K A H xs vs:=by
 cases d with
 | tup zs=>cases e;rw [Den] at h;exact h
 | lst zs=>cases e;obtain ⟨a,vs,e,hq,l⟩:=M6 h;exact ⟨a,vs,e,hq,l⟩
 | _=>cases e
section
variable {X:Cx}{a b:Expr}{p pos:Pos}{fa:FA}{es:List Expr}{kt:Nat}{pt:Pos}
def iZip (K:PySem.W.Frag) (ta:TA):TI:=fun σ H R=>ta σ H fun vs H1=>∃c1 c2 l1 l2,vs=[.ref l1,.ref l2]/\(∃xs,SqK c1 K H1 l1 xs)/\(∃ys,SqK c2 K H1 l2 ys)/\R (ItzT c1 c2 K l1 l2) H1
theorem b3b {ta:TA}(hg:Gl X "zip")(hm:X.mg "zip"=none)(ha:PA X [a,b] ta)(hs:starEach [a,b] X.env=(false,eval a X.env) :: starEach [b] X.env:=by rfl)(hpl:(backTo pos (starEach [b] X.env)).any (·.1)=false:=by rfl)(hbt:bootBuiltins "zip"=some (.type "zip"):=by rfl):
  PI X (.Tuple es kt pt) (.Call (.Name "zip" p) [a,b] [] pos) (iZip X.K ta):=by
 intro pins s σ H R I h
 refine Call_ (U5 I hg hm hbt (PyProof.Rows.callWith_type1 (thn (ha pos pins s σ H _ I h) fun us s1 ⟨vs,H1,I1,r1,q1⟩=>?_) hs hpl) (by decide) (by decide))
 obtain ⟨c1,c2,l1,l2,rfl,⟨xs,h1⟩,⟨ys,h2⟩,q⟩:=q1
 obtain ⟨u1,u2,rfl,ru1,ru2⟩:=vals2 r1
 cases ru1
 cases ru2
 obtain ⟨its1,_,p1⟩:=sqk I1 h1
 obtain ⟨its2,_,p2⟩:=sqk I1 h2
 refine a75 p1 p2 fun h' d1 d2 d3 d4 d5 d7=>?_
 refine wpAny_pyIter_zip d1 ?_
 refine ⟨_,[s1.heap.objs.size + 4,s1.heap.objs.size + 2,s1.heap.objs.size + 3,s1.heap.objs.size,s1.heap.objs.size + 1],_,_,H1,rfl,I1.kept (t':=s1.toks) fun c o e0=>d7 c o e0,a7W (zipApart_new (a83 p1) (a83 p2)),⟨d1,d2,⟨_,_,d3⟩,d4,d5⟩,fun c hc=>?_,q⟩
 have le:s1.heap.objs.size<=c:=by simp only [List.mem_cons,List.not_mem_nil,or_false] at hc;rcases hc with h | h | h | h | h <;> (rw [h];first | exact Nat.le_add_right _ _ | exact Nat.le_refl _)
 exact I1.fpOk le (I1.hok.fresh le)
def iEnum (K:PySem.W.Frag) (ta:TA):TI:=fun σ H R=>ta σ H fun vs H1=>∃c1 l1,vs=[.ref l1]/\(∃xs,SqK c1 K H1 l1 xs)/\R (Ite c1 K l1) H1
theorem b06 {ta:TA}(hg:Gl X "enumerate")(hm:X.mg "enumerate"=none)(ha:PA X [a] ta)(hs:starEach [a] X.env=[(false,eval a X.env)]:=by rfl)(hbt:bootBuiltins "enumerate"=some (.type "enumerate"):=by rfl):
  PI X (.Tuple es kt pt) (.Call (.Name "enumerate" p) [a] [] pos) (iEnum X.K ta):=by
 intro pins s σ H R I h
 refine Call_ (U5 I hg hm hbt (PyProof.Rows.callWith_type1 (thn (ha pos pins s σ H _ I h) fun us s1 ⟨vs,H1,I1,r1,q1⟩=>?_) hs rfl) (by decide) (by decide))
 obtain ⟨c1,l1,rfl,⟨xs,h1⟩,q⟩:=q1
 obtain ⟨u1,rfl,ru1⟩:=vals1 r1
 cases ru1
 obtain ⟨its1,_,p1⟩:=sqk I1 h1
 refine a6D p1 fun h' d1 d2 d7=>?_
 refine wpAny_pyIter_enum d1 ?_
 refine ⟨_,[s1.heap.objs.size + 1,s1.heap.objs.size],_,_,H1,rfl,I1.kept (t':=s1.toks) fun c o e0=>d7 c o e0,a8i (Nat.succ_ne_self _),⟨⟨_,d1⟩,d2⟩,fun c hc=>?_,q⟩
 have le:s1.heap.objs.size<=c:=by simp only [List.mem_cons,List.not_mem_nil,or_false] at hc;rcases hc with h | h <;> (rw [h];first | exact Nat.le_add_right _ _ | exact Nat.le_refl _)
 exact I1.fpOk le (I1.hok.fresh le)
def zipD (xs ys:List D):List D:=List.zipWith (fun x y=>.tup [x,y]) xs ys
def enumD (xs:List D):List D:=xs.mapIdx fun (i:Nat) x=>.tup [.int i,x]
def fiZip (fa:FA):FI:=fun ρ=>(fa ρ).bind fun p=>(takeAll p.2 p.1).bind fun q=>match q.1 with
 | [x,y]=>(items x).bind fun xs=>(items y).map fun ys=>(zipD xs ys,q.2)
 | _=>none
def fiEnum (fa:FA):FI:=fun ρ=>(fa ρ).bind fun p=>(takeAll p.2 p.1).bind fun q=>match q.1 with
 | [x]=>(items x).map fun xs=>(enumD xs,q.2)
 | _=>none
theorem b3R (hm:X.mg "zip"=none)(ha:QA X [a,b] fa)(hg:Gl X "zip":=by rfl)(hs:starEach [a,b] X.env=(false,eval a X.env) :: starEach [b] X.env:=by rfl)(hpl:(backTo pos (starEach [b] X.env)).any (·.1)=false:=by rfl)(hbt:bootBuiltins "zip"=some (.type "zip"):=by rfl):
  QI X (.Tuple es kt pt) (.Call (.Name "zip" p) [a,b] [] pos) (fiZip fa):=⟨PI.weak (b3b hg hm ha.to hs hpl hbt) fun σ H R h0=>tIe h0 fun P O L ρ xs ρ' r e q=>by
 unfold fiZip at e
 obtain ⟨⟨ws,ρ1⟩,e1,e⟩:=obs e
 dsimp only at e
 obtain ⟨⟨ds,ρ2⟩,e2,e⟩:=obs e
 dsimp only at e
 split at e
 ·rename_i x y
  cases e3:items x with
  | none=>rw [e3] at e;cases e
  | some xs'=>
   cases e4:items y with
   | none=>rw [e3,e4] at e;cases e
   | some ys'=>
    rw [e3,e4] at e;cases e
    refine ⟨P,O,L,ρ,ws,ρ1,r,e1,fun vs H1 r1 l1=>?_⟩
    obtain ⟨r2,l2,_⟩:=o8 r1 e2 l1
    obtain ⟨v,u,rfl,hv,hu⟩:=denL2 l2
    obtain ⟨a1,vs1,rfl,s1,m1⟩:=a12 e3 hv
    obtain ⟨a2,vs2,rfl,s2,m2⟩:=a12 e4 hu
    have r3:=(r2.more (p:=(y,.ref a2)) hu).more (p:=(x,.ref a1)) hv
    refine ⟨kd x,kd y,a1,a2,rfl,⟨vs1,s1⟩,⟨vs2,s2⟩,q _ H1 _ r3 (fun p hp=>List.mem_cons_of_mem _ (List.mem_cons_of_mem _ hp)) fun Y O' L' ρ' σ' Hh hY rr=>?_⟩
    have z1:=rr.prot _ List.mem_cons_self
    have z2:=rr.prot _ (List.mem_cons_of_mem _ List.mem_cons_self)
    rw [hY] at z1 z2
    obtain ⟨b1,ws1,ev1,q1,n1⟩:=a12 e3 z1
    obtain ⟨b2,ws2,ev2,q2,n2⟩:=a12 e4 z2
    cases ev1;cases ev2
    refine ⟨fun i z ez=>?_,ws1,ws2,q1,q2,?_⟩
    ·unfold zipD at ez
     rw [List.getElem?_zipWith] at ez
     cases g1:xs'[i]? with
     | none=>rw [g1] at ez;cases ez
     | some x0=>
      cases g2:ys'[i]? with
      | none=>rw [g1,g2] at ez;cases ez
      | some y0=>
       rw [g1,g2] at ez
       cases ez
       obtain ⟨v1,k1,t1⟩:=w9 n1 g1
       obtain ⟨v2,k2,t2⟩:=w9 n2 g2
       refine ⟨⟨ws1,ws2,v1,v2,q1,q2,k1,k2⟩,fun w H' ⟨T,x1,y1,ew,hT,eH,f1,f2⟩=>?_⟩
       subst ew eH
       have g3:=f1 ws1 q1
       have g4:=f2 ws2 q2
       rw [k1] at g3;cases g3
       rw [k2] at g4;cases g4
       have sm:=k5 hT (.tup [v1,v2])
       refine ⟨sm,?_⟩
       rw [Den]
       exact ⟨T,[v1,v2],rfl,.inl (.inl m5),j8 (a0s sm t1) (j8 (a0s sm t2) j9)⟩
    ·have k1:=c7 n1
     have k2:=c7 n2
     unfold zipD
     rw [List.length_zipWith,List.getElem?_eq_none_iff,List.getElem?_eq_none_iff]
     walk_at "o"
 ·cases e⟩
theorem b10 (hm:X.mg "enumerate"=none)(ha:QA X [a] fa)(hg:Gl X "enumerate":=by rfl)(hs:starEach [a] X.env=[(false,eval a X.env)]:=by rfl)(hbt:bootBuiltins "enumerate"=some (.type "enumerate"):=by rfl):
  QI X (.Tuple es kt pt) (.Call (.Name "enumerate" p) [a] [] pos) (fiEnum fa):=⟨PI.weak (b06 hg hm ha.to hs hbt) fun σ H R h0=>tIe h0 fun P O L ρ xs ρ' r e q=>by
 unfold fiEnum at e
 obtain ⟨⟨ws,ρ1⟩,e1,e⟩:=obs e
 dsimp only at e
 obtain ⟨⟨ds,ρ2⟩,e2,e⟩:=obs e
 dsimp only at e
 split at e
 ·rename_i x
  cases e3:items x with
  | none=>rw [e3] at e;cases e
  | some xs'=>
   rw [e3] at e;cases e
   refine ⟨P,O,L,ρ,ws,ρ1,r,e1,fun vs H1 r1 l1=>?_⟩
   obtain ⟨r2,l2,_⟩:=o8 r1 e2 l1
   obtain ⟨v,rfl,hv⟩:=denL1 l2
   obtain ⟨a1,vs1,rfl,s1,m1⟩:=a12 e3 hv
   have r3:=r2.more (p:=(x,.ref a1)) hv
   refine ⟨kd x,a1,rfl,⟨vs1,s1⟩,q _ H1 _ r3 (fun p hp=>List.mem_cons_of_mem _ hp) fun Y O' L' ρ' σ' Hh hY rr=>?_⟩
   have z1:=rr.head
   rw [hY] at z1
   obtain ⟨b1,ws1,ev1,q1,n1⟩:=a12 e3 z1
   cases ev1
   refine ⟨fun i z ez=>?_,ws1,q1,?_⟩
   ·unfold enumD at ez
    rw [List.getElem?_mapIdx] at ez
    obtain ⟨x0,g1,ez⟩:=oms ez
    cases ez
    obtain ⟨v1,k1,t1⟩:=w9 n1 g1
    refine ⟨⟨ws1,v1,q1,k1⟩,fun w H' ⟨T,x1,ew,hT,eH,f1⟩=>?_⟩
    subst ew eH
    have g3:=f1 ws1 q1
    rw [k1] at g3;cases g3
    have sm:=k5 hT (.tup [.int (i:Int),v1])
    refine ⟨sm,?_⟩
    rw [Den]
    exact ⟨T,[.int (i:Int),v1],rfl,.inl (.inl m5),j8 (F5.mpr rfl) (j8 (a0s sm t1) j9)⟩
   ·have k1:=c7 n1
    unfold enumD
    rw [List.length_mapIdx,List.getElem?_eq_none_iff]
    walk_at "o"
 ·cases e⟩
end
section
variable {X:Cx}{a b c e e' o:Expr}{es rest:List Expr}{pos p p2 p3 apos:Pos}{f g h:FX}{t u:FT}{fa:FA}{x:Str}
theorem a6N {acc:Array Value}{n:Nat}(h:ItemsOf (fun i v=>∃t,v= .int (0 + (i:Int) * 1) t) acc n):Vals (((List.range n).map fun (i:Nat)=>(i:Int)).map V.int) acc.toList:=by
 have key:∀(l:List Value) (k:Nat),(∀i v,l[i]? =some v->∃t,v=Value.int ((k + i:Nat):Int) t)->Vals (((List.range' k l.length).map fun i=>((i:Nat):Int)).map V.int) l:=by
  intro l
  induction l with
  | nil=>intro k _;exact .nil
  | cons v l ih=>
   intro k hv
   rw [List.length_cons,List.range'_succ,List.map_cons,List.map_cons]
   refine .cons ?_ (ih (k + 1) fun i u e=>?_)
   ·obtain ⟨t,e⟩:=hv 0 v rfl
    exact ⟨t,e⟩
   ·obtain ⟨t,e'⟩:=hv (i + 1) u (by simpa using e)
    exact ⟨t,by rw [e'];congr 2;walk_at "o"⟩
 have z:=key acc.toList 0 fun i v e=>by
  obtain ⟨t,ev⟩:=h.2 i v (by rw [<-Array.getElem?_toList];exact e)
  exact ⟨t,by rw [ev];congr 1;walk_at "o"⟩
 rw [List.range_eq_range']
 rw [Array.length_toList,h.1] at z
 exact z
def fListR (fa:FA):FX:=fun ρ=>(fa ρ).bind fun p=>match p.1 with
 | [.v (.int n)]=>if 0<=n/\n<=1000 then some (.o (.lst (rngD 0 n.toNat)),p.2) else none
 | _=>none
theorem a8U (n:Nat):rngD 0 n=((List.range n).map fun (i:Nat)=>(i:Int)).map D.int:=by
 unfold rngD;rw [List.map_map];apply List.map_congr_left;intro i _;simp
theorem a5X (hc:X.calm=true)(hmL:X.mg "list"=none)(hmR:X.mg "range"=none)(ha:QA X [a] fa)(hbL:bootBuiltins "list"=some (.type "list"):=by rfl)(hgL:Gl X "list":=by rfl)(hgR:Gl X "range":=by rfl)
  (h1:starEach [.Call (.Name "range" p2) [a] [] p3] X.env=[(false,eval (.Call (.Name "range" p2) [a] [] p3) X.env)]:=by rfl) (h2:starEach [a] X.env=[(false,eval a X.env)]:=by rfl):
  QX X (.Call (.Name "list" p) [.Call (.Name "range" p2) [a] [] p3] [] pos) (fListR fa):=⟨fun pins s σ H Q I h0=>tXe h0 fun P O L ρ w ρ' rp e q=>by
 unfold fListR at e
 obtain ⟨⟨ws,ρ1⟩,e1,e⟩:=obs e
 dsimp only at e
 split at e
 ·rename_i n
  split at e
  ·rename_i hn
   cases e
   refine wpAny_Call_Name_kw (U5 I hgL hmL hbL ?_ (by decide) (by decide))
   refine PyProof.Rows.callWith_type1 ?_ h1 rfl
   rw [h1]
   refine Calls.spliced_cons ?_
   refine wpAny_Call_Name_kw (U5 I hgR hmR boot_range ?_ (by decide) (by decide))
   refine PyProof.Rows.callWith_type1 (wpAny_mono (ha.to p3 pins s σ H (fun vs H1=>Rep X P O L ρ' σ H1/\vs=[.int n]) I ⟨P,O,L,ρ,_,_,rp,e1,fun vs H1 r1 l1=>⟨r1,?_⟩⟩) (fun us s1 ⟨vs,H1,I1,r1,rp1,l1⟩=>?_) fun _ _ z=>z) h2 rfl
   ·obtain ⟨v,rs,rfl,h1,l1⟩:=l1
    have l1:rs=[]:=l1
    have h1:Den X.K (AvO O ρ' σ) H1 (.int n) v:=h1
    subst l1
    rw [F5.mp h1]
   subst l1
   obtain ⟨u,rfl,t,rfl⟩:=vals1 r1
   refine call_range_1 (Calls.spliced_nil ?_)
   have I2:Inv X pins σ H1 {s1 with heap:=s1.heap.push {cls:=.type "range",data:=.fields #[.int 0 s1.toks,.int n t,.int 1 (s1.toks + 1)]},toks:=s1.toks + 1 + 1}:=I1.kept fun b o e=>Heap.get?_push_of_some _ e
   refine call_list_range (n:=n.toNat) (I.ok.hd hc) (IsRange.new ..) (small_one (by walk_at "o") (by walk_at "o") (by walk_at "o") (by walk_at "o")) (by rw [rangeSize_one];split <;> walk_at "o") (by walk_at "o") fun h' tk acc ep kp hl it=>?_
   have hv:=a6N it
   refine ⟨.ref _,_,I2.laid (t':=tk) (o:=.lst (((List.range n.toNat).map fun (i:Nat)=>(i:Int)).map V.int)) kp (Nat.le_refl _) ?_,rfl,q _ H1 _ rp1 (k5 (I2.hok.fresh (Nat.le_refl _)) _) (by rw [a8U];exact C3 (I2.hok.fresh (Nat.le_refl _)) (K6 _))⟩
   refine ⟨?_,acc.toList,ep,hv,by rw [Array.toArray_toList];exact hl⟩
   rw [List.length_map,List.length_map,List.length_range,sizeLine_eq];walk_at "o"
  ·cases e
 ·cases e⟩
def fCnt (f:FX) (fa:FA):FX:=fun ρ=>(f ρ).bind fun p=>(dr p.2 p.1.fz).bind fun d=>match d with
 | .tup _=>(fa p.2).bind fun q=>(dr q.2 p.1.fz).bind fun y=>match y,q.1 with
  | .tup xs,[.v (.int i)]=>(intsOf xs).map fun ns=>(.v (.int (ns.count i:Nat)),q.2)
  | _,_=>none
 | _=>none
def fDNew:FX:=fun ρ=>some (.o (.dK [] []),ρ)
def fDNewT:FX:=fun ρ=>some (.o (.dT [] []),ρ)
theorem b1X:QX X (.Dict [] [] pos) fDNew:=⟨PE.weak b0m fun σ H Q h0=>tXe h0 fun P O L ρ w ρ' r e q=>by
 cases e
 exact fun p hp=>q _ H _ r (k5 hp _) ⟨p,rfl,hp,[],m5,rfl,j9⟩⟩
theorem a9W:QX X (.Dict [] [] pos) fDNewT:=⟨PE.weak b0L fun σ H Q h0=>tXe h0 fun P O L ρ w ρ' r e q=>by
 cases e
 exact fun p hp=>q _ H _ r (k5 hp _) ⟨p,rfl,hp,[],m5,rfl,j9⟩⟩
end
section
variable {f g:FX}{t u:FT}{fa:FA}{F G:FS}{ρ ρ1 ρ2:Ev}{w z:W}{ws:List W}{d e x y:D}{ds xs ys:List D}{i j k:Nat}{m n:Int}{b:Bool}
theorem it_t:items (.tup xs)=some xs:=rfl
theorem it_l:items (.lst xs)=some xs:=rfl
def iz2:Option (List W×Ev)->Option (List D×Ev)
 | some p=>(takeAll p.2 p.1).bind fun q=>match q.1 with
  | [x,y]=>(items x).bind fun xs=>(items y).map fun ys=>(zipD xs ys,q.2)
  | _=>none
 | none=>none
def iz3:Option (List D×Ev)->Option (List D×Ev)
 | some q=>match q.1 with
  | [x,y]=>(items x).bind fun xs=>(items y).map fun ys=>(zipD xs ys,q.2)
  | _=>none
 | none=>none
def iz4 (ρ:Ev):Option (List D)->Option (List D)->Option (List D×Ev)
 | some xs,some ys=>some (zipD xs ys,ρ)
 | _,_=>none
theorem r_iz:fiZip fa ρ=iz2 (fa ρ):=by unfold fiZip iz2;cases fa ρ <;> rfl
theorem r_iz2:iz2 (some (ws,ρ))=iz3 (takeAll ρ ws):=by unfold iz2 iz3;dsimp only;cases takeAll ρ ws <;> rfl
theorem r_iz3:iz3 (some ([x,y],ρ))=iz4 ρ (items x) (items y):=by unfold iz3 iz4;dsimp only;cases items x <;> cases items y <;> rfl
theorem r_iz4:iz4 ρ (some xs) (some ys)=some (zipD xs ys,ρ):=rfl
def ie2:Option (List W×Ev)->Option (List D×Ev)
 | some p=>(takeAll p.2 p.1).bind fun q=>match q.1 with
  | [x]=>(items x).map fun xs=>(enumD xs,q.2)
  | _=>none
 | none=>none
def ie3:Option (List D×Ev)->Option (List D×Ev)
 | some q=>match q.1 with
  | [x]=>(items x).map fun xs=>(enumD xs,q.2)
  | _=>none
 | none=>none
theorem r_ie:fiEnum fa ρ=ie2 (fa ρ):=by unfold fiEnum ie2;cases fa ρ <;> rfl
theorem r_ie2:ie2 (some (ws,ρ))=ie3 (takeAll ρ ws):=by unfold ie2 ie3;dsimp only;cases takeAll ρ ws <;> rfl
theorem r_ie3_t:ie3 (some ([.tup xs],ρ))=some (enumD xs,ρ):=rfl
theorem b2k:ie3 (some ([.lst xs],ρ))=some (enumD xs,ρ):=rfl
def jr1:Option (List W×Ev)->Option (List D×Ev)
 | some p=>match p.1 with
  | [.v (.int n)]=>if -(2 ^ 62)<=n/\n < 2 ^ 62 then some (rngD 0 n.toNat,p.2) else none
  | _=>none
 | none=>none
def jr2:Option (List W×Ev)->Option (List D×Ev)
 | some p=>match p.1 with
  | [.v (.int m),.v (.int n)]=>if (-(2 ^ 62)<=m/\m < 2 ^ 62)/\-(2 ^ 62)<=n/\n < 2 ^ 62 then some (rngD m (n - m).toNat,p.2) else none
  | _=>none
 | none=>none
def lr2:Option (List W×Ev)->Option (W×Ev)
 | some p=>match p.1 with
  | [.v (.int n)]=>if 0<=n/\n<=1000 then some (.o (.lst (rngD 0 n.toNat)),p.2) else none
  | _=>none
 | none=>none
theorem r_r1:fiR1 fa ρ=jr1 (fa ρ):=by unfold fiR1 jr1;cases fa ρ <;> rfl
theorem r_r1s:jr1 (some ([.v (.int n)],ρ))=if -(2 ^ 62)<=n/\n < 2 ^ 62 then some (rngD 0 n.toNat,ρ) else none:=rfl
theorem r_r2:fiR2 fa ρ=jr2 (fa ρ):=by unfold fiR2 jr2;cases fa ρ <;> rfl
theorem r_r2s:jr2 (some ([.v (.int m),.v (.int n)],ρ))=if (-(2 ^ 62)<=m/\m < 2 ^ 62)/\-(2 ^ 62)<=n/\n < 2 ^ 62 then some (rngD m (n - m).toNat,ρ) else none:=rfl
theorem r_lr:fListR fa ρ=lr2 (fa ρ):=by unfold fListR lr2;cases fa ρ <;> rfl
theorem r_lr2:lr2 (some ([.v (.int n)],ρ))=if 0<=n/\n<=1000 then some (.o (.lst (rngD 0 n.toNat)),ρ) else none:=rfl
def cn2 (fa:FA):Option (W×Ev)->Option (W×Ev)
 | some p=>(dr p.2 p.1.fz).bind fun d=>match d with
  | .tup _=>(fa p.2).bind fun q=>(dr q.2 p.1.fz).bind fun y=>match y,q.1 with
   | .tup xs,[.v (.int i)]=>(intsOf xs).map fun ns=>(.v (.int (ns.count i:Nat)),q.2)
   | _,_=>none
  | _=>none
 | none=>none
def cn3 (fa:FA) (w:W) (ρ:Ev):Option D->Option (W×Ev)
 | some (.tup _)=>(fa ρ).bind fun q=>(dr q.2 w.fz).bind fun y=>match y,q.1 with
   | .tup xs,[.v (.int i)]=>(intsOf xs).map fun ns=>(.v (.int (ns.count i:Nat)),q.2)
   | _,_=>none
 | _=>none
def cn4 (w:W):Option (List W×Ev)->Option (W×Ev)
 | some q=>(dr q.2 w.fz).bind fun y=>match y,q.1 with
   | .tup xs,[.v (.int i)]=>(intsOf xs).map fun ns=>(.v (.int (ns.count i:Nat)),q.2)
   | _,_=>none
 | _=>none
def cn5 (ws:List W) (ρ:Ev):Option D->Option (W×Ev)
 | some y=>match y,ws with
   | .tup xs,[.v (.int i)]=>(intsOf xs).map fun ns=>(.v (.int (ns.count i:Nat)),ρ)
   | _,_=>none
 | _=>none
theorem r_cn:fCnt f fa ρ=cn2 fa (f ρ):=by unfold fCnt cn2;cases f ρ <;> rfl
theorem r_cn2:cn2 fa (some (w,ρ))=cn3 fa w ρ (dr ρ w.fz):=by
 unfold cn2 cn3
 dsimp only
 cases dr ρ w.fz with
 | none=>rfl
 | some d=>cases d <;> rfl
theorem r_cn3:cn3 fa w ρ (some (.tup xs))=cn4 w (fa ρ):=by unfold cn3 cn4;cases fa ρ <;> rfl
theorem r_cn4:cn4 w (some (ws,ρ))=cn5 ws ρ (dr ρ w.fz):=by unfold cn4 cn5;dsimp only;cases dr ρ w.fz <;> rfl
theorem b4n:fDNew ρ=some (.o (.dK [] []),ρ):=rfl
def ch2 (o o':D->D->Option W) (g h:FX):Option (W×Ev)->Option (W×Ev)
 | some p=>fChain o o' (fun _=>some p) g h p.2
 | none=>none
def ch3 (o o':D->D->Option W) (w:W) (h:FX):Option (W×Ev)->Option (W×Ev)
 | some q=>(dr q.2 w.fz).bind fun x=>(dr q.2 q.1.fz).bind fun y=>(o x y).bind fun d=>match d with
  | .v (.bl k)=>if k=true then (h q.2).bind fun z=>(dr z.2 q.1.fz).bind fun y=>(dr z.2 z.1.fz).bind fun z'=>(o' y z').map fun w=>(w,z.2) else some (.v (.bl false),q.2)
  | _=>none
 | none=>none
def ch4 (o o':D->D->Option W) (h:FX) (w:W) (ρ:Ev):Option D->Option D->Option (W×Ev)
 | some x,some y=>(o x y).bind fun d=>match d with
  | .v (.bl k)=>if k=true then (h ρ).bind fun z=>(dr z.2 w.fz).bind fun y=>(dr z.2 z.1.fz).bind fun z'=>(o' y z').map fun w=>(w,z.2) else some (.v (.bl false),ρ)
  | _=>none
 | _,_=>none
def ch5 (o':D->D->Option W) (h:FX) (w:W) (ρ:Ev):Option W->Option (W×Ev)
 | some (.v (.bl k))=>if k=true then bin3 o' w (h ρ) else some (.v (.bl false),ρ)
 | _=>none
theorem r_ch {o o':D->D->Option W}{h:FX}:fChain o o' f g h ρ=ch2 o o' g h (f ρ):=by unfold ch2;cases e:f ρ with
 | none=>unfold fChain;rw [e];rfl
 | some p=>unfold fChain;rw [e]
theorem r_ch2 {o o':D->D->Option W}{h:FX}:ch2 o o' g h (some (w,ρ))=ch3 o o' w h (g ρ):=by unfold ch2 ch3 fChain;dsimp only [Option.bind_some];cases g ρ <;> rfl
theorem r_ch3 {o o':D->D->Option W}{h:FX}:ch3 o o' w h (some (z,ρ))=ch4 o o' h z ρ (dr ρ w.fz) (dr ρ z.fz):=by
 unfold ch3 ch4;dsimp only;cases dr ρ w.fz <;> cases dr ρ z.fz <;> rfl
theorem r_ch4 {o o':D->D->Option W}{h:FX}:ch4 o o' h w ρ (some x) (some y)=ch5 o' h w ρ (o x y):=by
 unfold ch4 ch5 bin3
 dsimp only
 cases o x y with
 | none=>rfl
 | some d=>
  dsimp only [Option.bind_some]
  cases d with
  | v d=>cases d with
   | bl k=>cases h ρ <;> rfl
   | _=>rfl
  | _=>rfl
theorem r_ch5_t {o':D->D->Option W}{h:FX}:ch5 o' h w ρ (some (.v (.bl true)))=bin3 o' w (h ρ):=rfl
theorem r_ch5_f {o':D->D->Option W}{h:FX}:ch5 o' h w ρ (some (.v (.bl false)))=some (.v (.bl false),ρ):=rfl
def tc2 (k:Nat) (t:FT) (fe:FX):Option Ev->Option Ev
 | some ρ1=>(t ρ1).bind fun p=>if p.1=true then (fe p.2).bind (appTo k) else some p.2
 | none=>none
def tc3 (k:Nat) (fe:FX):Option (Bool×Ev)->Option Ev
 | some p=>if p.1=true then (fe p.2).bind (appTo k) else some p.2
 | none=>none
def tc4 (k:Nat):Option (W×Ev)->Option Ev
 | some p=>appTo k p
 | none=>none
def ap2 (k:Nat):Option (List D×Ev)->Option Ev
 | some q=>match q.1,ownAt q.2 k with
  | [d],some (.lst zs)=>if zs.length < lim then some (setOwn q.2 k (.lst (zs ++ [d]))) else none
  | _,_=>none
 | none=>none
def ap3 (k:Nat) (d:D) (ρ:Ev):Option D->Option Ev
 | some (.lst zs)=>if zs.length < lim then some (setOwn ρ k (.lst (zs ++ [d]))) else none
 | _=>none
theorem r_tc {gf:FG}{fe:FX}:turnC k gf t fe d ρ=tc2 k t fe (gf d ρ):=by unfold turnC tc2;cases gf d ρ <;> rfl
theorem r_tc2 {fe:FX}:tc2 k t fe (some ρ)=tc3 k fe (t ρ):=by unfold tc2 tc3;dsimp only;cases t ρ <;> rfl
theorem r_tc3_t {fe:FX}:tc3 k fe (some (true,ρ))=tc4 k (fe ρ):=by unfold tc3 tc4;simp only [if_true];cases fe ρ <;> rfl
theorem r_tc3_f {fe:FX}:tc3 k fe (some (false,ρ))=some ρ:=rfl
theorem r_tc4:tc4 k (some (w,ρ))=ap2 k (takeAll ρ [w.fz]):=by
 unfold tc4 appTo ap2
 dsimp only
 cases takeAll ρ [w.fz] <;> rfl
theorem r_ap2:ap2 k (some ([d],ρ))=ap3 k d ρ (ownAt ρ k):=by
 unfold ap2 ap3
 dsimp only
 cases ownAt ρ k with
 | none=>rfl
 | some x=>cases x <;> rfl
theorem r_ap3:ap3 k d ρ (some (.lst xs))=if xs.length < lim then some (setOwn ρ k (.lst (xs ++ [d]))) else none:=rfl
theorem a14 {C:Prop}{b:D->FS}{r:Option R}(e:loopF b xs ρ=r)(I:List D->Ev->Prop)(h0:I [] ρ)(st:∀d x ρ,x∈xs->d.length < xs.length->I d ρ->∃ρ',b x ρ=some (.nx ρ')/\I (d ++ [x]) ρ')(c:∀ρ',r=some (.nx ρ')->I xs ρ'->C):C:=by
 have key:∀(ys done:List D) (ρ:Ev),(∀y∈ys,y∈xs)->done.length + ys.length=xs.length->I done ρ->∃ρ',loopF b ys ρ=some (.nx ρ')/\I (done ++ ys) ρ':=by
  intro ys
  induction ys with
  | nil=>intro done ρ _ _ h;exact ⟨ρ,rfl,by rw [List.append_nil];exact h⟩
  | cons y ys ih=>
   intro done ρ hm hl h
   rw [List.length_cons] at hl
   obtain ⟨ρ1,e1,i1⟩:=st done y ρ (hm y List.mem_cons_self) (by walk_at "o") h
   obtain ⟨ρ2,e2,i2⟩:=ih (done ++ [y]) ρ1 (fun a ha=>hm a (List.mem_cons_of_mem _ ha)) (by rw [List.length_append,List.length_singleton];walk_at "o") i1
   exact ⟨ρ2,by rw [loopF,e1];exact e2,by rw [List.append_assoc] at i2;exact i2⟩
 obtain ⟨ρ',e',i⟩:=key xs [] ρ (fun _ h=>h) (by simp) h0
 exact c ρ' (e.symm.trans e') (by simpa using i)
theorem Q1 (ns:List Int):lfL (ns.map D.int)=true:=by
 induction ns with
 | nil=>rfl
 | cons n ns ih=>rw [List.map_cons,lfL,ih];rfl
theorem J8 (m:Int)(n:Nat):(rngD m n).length=n:=by unfold rngD;simp
theorem a1H {m:Int}{n:Nat}(h:x∈rngD m n):∃i:Int,x= .int i/\m<=i/\i < m + n:=by
 unfold rngD at h
 obtain ⟨i,hi,rfl⟩:=List.mem_map.mp h
 rw [List.mem_range] at hi
 exact ⟨_,rfl,by walk_at "o",by walk_at "o"⟩
theorem a7l (h:0 < n)(h2:n.natAbs < 2 ^ 64):dOk n:=⟨h,Nat.lt_of_lt_of_le h2 (Nat.pow_le_pow_right (by decide) (by decide))⟩
end
theorem a9w {o:Option D}:freeO (o.map W.v)=true:=by cases o <;> rfl
def isI:D->Bool
 | .int _=>true
 | .bl _=>true
 | _=>false
def isB:D->Bool
 | .bl _=>true
 | _=>false
def isT:D->Bool
 | .tup _=>true
 | _=>false
def whole:D->Bool
 | .int _=>true
 | _=>false
theorem a85 {d:D}(h:isX d=false):oIsi "int" d=some (.v (.bl (isI d))):=by cases d <;> first | rfl | cases h
theorem a4H {d:D}(h:isX d=false):oIsi "bool" d=some (.v (.bl (isB d))):=by cases d <;> first | rfl | cases h
theorem N8 {d:D}(h:isX d=false):oIsi "tuple" d=some (.v (.bl (isT d))):=by cases d <;> first | rfl | cases h
def rise:List Int->Bool
 | a :: b :: r=>decide (a < b) && rise (b :: r)
 | _=>true
def lt2:D->Bool
 | .tup [.int a,.int b]=>decide (a < b)
 | _=>false
theorem sIx1 (n:Nat):HT.sIx n 0 (some 1)=min 1 n:=by
 unfold HT.sIx
 simp
theorem a84 (xs:List D):cutD xs (some 1) none=xs.drop 1:=by
 unfold cutD
 rw [sIx1]
 cases xs with
 | nil=>rfl
 | cons x xs=>
  rw [List.length_cons,show min 1 (xs.length + 1)=1 by walk_at "o"]
  simp [HT.sIx]
theorem a0t {r:List Bool->Bool}{xs:List D}{bs:List Bool}(h:boolsOf xs=some bs):gBools r (.lst xs)=some (.v (.bl (r bs))):=by unfold gBools;simp only [h,Option.map_some]
theorem a0q (f:D->Bool)(xs:List D):lfL (xs.map fun d=>D.bl (f d))=true:=by
 induction xs with
 | nil=>rfl
 | cons n ns ih=>rw [List.map_cons,lfL,ih];rfl
theorem z9 (f:D->Bool)(xs:List D):boolsOf (xs.map fun d=>D.bl (f d))=some (xs.map f):=by
 have:(xs.map fun d=>D.bl (f d))=(xs.map f).map D.bl:=by rw [List.map_map];rfl
 rw [this,a2v]
theorem D4 {α:Type}(f:α->Bool)(xs:List α):(xs.map f).all id=xs.all f:=by rw [List.all_map];rfl
theorem J0 {ns:List Int}{x:D}(h:x∈ns.map D.int):∃i∈ns,x= .int i:=by
 obtain ⟨i,hi,rfl⟩:=List.mem_map.mp h
 exact ⟨i,hi,rfl⟩
theorem b19 (xs ys:List D):(zipD xs ys).length=min xs.length ys.length:=by unfold zipD;simp
theorem a6d {b:D->FS}{w:W}(I:Ev->Prop)(p:D->Bool):∀(xs:List D),(∀x∈xs,∀ρ,I ρ->(p x=true->∃ρ',b x ρ=some (.nx ρ')/\I ρ')/\(p x=false->∃ρ',b x ρ=some (.rt w ρ')))->∀ρ,I ρ->
  (xs.all p=true->∃ρ',loopF b xs ρ=some (.nx ρ')/\I ρ')/\(xs.all p=false->∃ρ',loopF b xs ρ=some (.rt w ρ'))
 | [],_,ρ,h=>⟨fun _=>⟨ρ,rfl,h⟩,fun z=>nomatch z⟩
 | x :: xs,st,ρ,h=>by
  obtain ⟨s1,s2⟩:=st x List.mem_cons_self ρ h
  cases hp:p x with
  | true=>
   obtain ⟨ρ1,e1,i1⟩:=s1 hp
   obtain ⟨r1,r2⟩:=a6d I p xs (fun y hy=>st y (List.mem_cons_of_mem _ hy)) ρ1 i1
   rw [List.all_cons,hp,Bool.true_and]
   exact ⟨fun z=>by obtain ⟨ρ',e,i⟩:=r1 z;exact ⟨ρ',by rw [loopF,e1];exact e,i⟩,fun z=>by obtain ⟨ρ',e⟩:=r2 z;exact ⟨ρ',by rw [loopF,e1];exact e⟩⟩
  | false=>
   obtain ⟨ρ1,e1⟩:=s2 hp
   rw [List.all_cons,hp,Bool.false_and]
   exact ⟨fun z=>(nomatch z),fun _=>⟨ρ1,by rw [loopF,e1];rfl⟩⟩
theorem a0Q {C:Prop}{b:D->FS}{xs:List D}{ρ:Ev}{r:Option R}(e:loopF b xs ρ=r)(I:Ev->Prop)(p:D->Bool)(w:W)(h0:I ρ)(st:∀x∈xs,∀ρ,I ρ->(p x=true->∃ρ',b x ρ=some (.nx ρ')/\I ρ')/\(p x=false->∃ρ',b x ρ=some (.rt w ρ')))
  (c1:xs.all p=true->∀ρ',r=some (.nx ρ')->I ρ'->C) (c2:xs.all p=false->∀ρ',r=some (.rt w ρ')->C):C:=by
 obtain ⟨r1,r2⟩:=a6d I p xs st ρ h0
 cases h:xs.all p with
 | true=>obtain ⟨ρ',e',i⟩:=r1 h;exact c1 h ρ' (e.symm.trans e') i
 | false=>obtain ⟨ρ',e'⟩:=r2 h;exact c2 h ρ' (e.symm.trans e')
theorem a6U {xs:List D}{i:Int}{d:D}(h:0<=i)(e:xs[i.toNat]? =some d):atI xs i=some d:=by
 have:=A7 (j:=i.toNat) e
 rwa [show ((i.toNat:Nat):Int)=i by walk_at "o"] at this
theorem a7H {ns:List Int}{i:Int}(h:0<=i)(l:i < ns.length):atI (ns.map D.int) i=some (.int (ns.getD i.toNat 0)):=by
 refine a6U h ?_
 rw [List.getElem?_map,List.getD_eq_getElem?_getD,List.getElem?_eq_getElem (by walk_at "o")]
 rfl
theorem a9v {xs:List D}{x:D}(h:x∈enumD xs):∃(i:Nat) (h:i < xs.length),x= .tup [.int i,xs[i]]:=by
 unfold enumD at h
 obtain ⟨i,hi,e⟩:=List.mem_iff_getElem.mp h
 rw [List.getElem_mapIdx] at e
 exact ⟨i,by simpa using hi,e.symm⟩
theorem F1:∀{xs:List D},(∀x∈xs,lf x=true)->lfL xs=true
 | [],_=>rfl
 | x :: xs,h=>by rw [lfL,h x List.mem_cons_self,F1 fun y hy=>h y (List.mem_cons_of_mem _ hy)];rfl
section
variable {d:D}{ds:List D}{x0:D}{x1:D}{x2:D}{x3:D}{x4:D}{x5:D}{x6:D}{x7:D}{x8:D}{x9:D}{x10:D}{x11:D}{x12:D}{x13:D}
theorem a_3:atI (x0 :: x1 :: x2 :: d :: ds) 3=some d:=A7 (j:=3) rfl
theorem a_4:atI (x0 :: x1 :: x2 :: x3 :: d :: ds) 4=some d:=A7 (j:=4) rfl
theorem a_5:atI (x0 :: x1 :: x2 :: x3 :: x4 :: d :: ds) 5=some d:=A7 (j:=5) rfl
theorem a_6:atI (x0 :: x1 :: x2 :: x3 :: x4 :: x5 :: d :: ds) 6=some d:=A7 (j:=6) rfl
theorem a_7:atI (x0 :: x1 :: x2 :: x3 :: x4 :: x5 :: x6 :: d :: ds) 7=some d:=A7 (j:=7) rfl
theorem a_8:atI (x0 :: x1 :: x2 :: x3 :: x4 :: x5 :: x6 :: x7 :: d :: ds) 8=some d:=A7 (j:=8) rfl
theorem a_9:atI (x0 :: x1 :: x2 :: x3 :: x4 :: x5 :: x6 :: x7 :: x8 :: d :: ds) 9=some d:=A7 (j:=9) rfl
theorem a_10:atI (x0 :: x1 :: x2 :: x3 :: x4 :: x5 :: x6 :: x7 :: x8 :: x9 :: d :: ds) 10=some d:=A7 (j:=10) rfl
theorem a_11:atI (x0 :: x1 :: x2 :: x3 :: x4 :: x5 :: x6 :: x7 :: x8 :: x9 :: x10 :: d :: ds) 11=some d:=A7 (j:=11) rfl
theorem a_12:atI (x0 :: x1 :: x2 :: x3 :: x4 :: x5 :: x6 :: x7 :: x8 :: x9 :: x10 :: x11 :: d :: ds) 12=some d:=A7 (j:=12) rfl
theorem a_13:atI (x0 :: x1 :: x2 :: x3 :: x4 :: x5 :: x6 :: x7 :: x8 :: x9 :: x10 :: x11 :: x12 :: d :: ds) 13=some d:=A7 (j:=13) rfl
theorem ix_0 {n:Nat}:ixN (n + 1) 0=some 0:=by unfold ixN;rw [if_pos (Int.le_refl _),if_pos (by walk_at "o")];rfl
end
theorem a7E {Q:Int->Prop}:∀{xs:List D},(∀x∈xs,∃i:Int,x= .int i/\Q i)->∃ns:List Int,xs=ns.map D.int/\ns.length=xs.length/\∀i∈ns,Q i
 | [],_=>⟨[],rfl,rfl,fun _ h=>nomatch h⟩
 | x :: xs,h=>by
  obtain ⟨i,rfl,hi⟩:=h x List.mem_cons_self
  obtain ⟨ns,e,l,q⟩:=a7E (xs:=xs) fun y hy=>h y (List.mem_cons_of_mem _ hy)
  refine ⟨i :: ns,by rw [e];rfl,by rw [List.length_cons,List.length_cons,l],fun j hj=>?_⟩
  rcases List.mem_cons.mp hj with rfl | hj
  ·exact hi
  ·exact q j hj
def dkey:D->Option Key
 | .int i=>some (Sum.inl i)
 | .str x=>some (Sum.inr x)
 | _=>none
def dkeys:List D->Option (List Key)
 | []=>some []
 | d :: ds=>(dkey d).bind fun k=>(dkeys ds).map fun ks=>k :: ks
def tkey:D->Option (List Key)
 | .tup ds=>dkeys ds
 | _=>none
def look {κ:Type} [DecidableEq κ]:List κ->List D->κ->Option D
 | k' :: ks,x :: xs,k=>if k'=k then some x else look ks xs k
 | _,_,_=>none
def putKs {κ:Type} [DecidableEq κ] (ks:List κ) (k:κ):List κ:=if k∈ks then ks else ks ++ [k]
def putX {κ α:Type} [DecidableEq κ] (ks:List κ) (xs:List α) (k:κ) (d:α):List α:=if k∈ks then List.zipWith (fun k' x=>if k'=k then d else x) ks xs else xs ++ [d]
theorem a5Q {K:PySem.W.Frag}{A:Av}{H:Hp}{d:D}{k:Key}{v:V}(e:dkey d=some k)(h:DenR K A H d v):v=kV k:=by
 cases d with
 | int i=>cases e;exact k7 h
 | str x=>cases e;exact a27 h
 | _=>cases e
theorem a0z {K:PySem.W.Frag}{A:Av}{H:Hp}:∀{ds:List D} {ks:List Key} {vs:List V},dkeys ds=some ks->DenL K A H ds vs->vs=ks.map kV
 | [],ks,vs,e,l=>by cases e;rw [DenL] at l;rw [l];rfl
 | d :: ds,ks,vs,e,l=>by
  rw [DenL] at l
  obtain ⟨v,r,rfl,h,l⟩:=l
  rw [dkeys] at e
  cases e1:dkey d with
  | none=>rw [e1] at e;cases e
  | some k=>
   cases e2:dkeys ds with
   | none=>rw [e1,e2] at e;cases e
   | some js=>
    rw [e1,e2] at e;cases e
    rw [List.map_cons,<-a5Q e1 (M6 h),<-a0z e2 l]
theorem b0c {K:PySem.W.Frag}{A:Av}{H:Hp}{d:D}{k:List Key}{v:V}(e:tkey d=some k)(h:DenR K A H d v):∃b,v= .ref b/\SqT K H b (k.map kV):=by
 cases d with
 | tup ds=>
  obtain ⟨b,vs,ev,hq,l⟩:=G5 h
  rw [a0z e l] at hq
  exact ⟨b,ev,hq⟩
 | _=>cases e
theorem a26 {κ:Type} [DecidableEq κ] {K:PySem.W.Frag}{A:Av}{H:Hp}:∀{ks:List κ} {xs:List D} {vs:List V} {k:κ} {x:D},DenL K A H xs vs->look ks xs k=some x->∃v,valV (ks.zip vs) k=some v/\Den K A H x v
 | [],_,_,_,_,_,e=>by simp [look] at e
 | _ :: _,[],_,_,_,_,e=>by simp [look] at e
 | k' :: ks,x0 :: xs,vs,k,x,l,e=>by
  rw [DenL] at l
  obtain ⟨v,r,rfl,h,l⟩:=l
  simp only [look] at e
  rw [List.zip_cons_cons]
  split at e
  ·rename_i q
   cases e
   exact ⟨v,a1N (by simpa using q),h⟩
  ·rename_i q
   rw [a0g (by simpa using q)]
   exact a26 l e
theorem a2t {κ:Type} [DecidableEq κ] {K:PySem.W.Frag}{A:Av}{H:Hp}:∀{ks:List κ} {xs:List D} {vs:List V} {k:κ},DenL K A H xs vs->ks.length=xs.length->look ks xs k=none->valV (ks.zip vs) k=none
 | [],_,_,_,_,_,_=>by simp [valV]
 | _ :: _,[],_,_,_,hl,_=>by simp at hl
 | k' :: ks,x0 :: xs,vs,k,l,hl,e=>by
  rw [DenL] at l
  obtain ⟨v,r,rfl,h,l⟩:=l
  simp only [look] at e
  rw [List.zip_cons_cons]
  split at e
  ·cases e
  ·rename_i q
   rw [a0g (by simpa using q)]
   exact a2t l (by simpa using hl) e
theorem a5H {κ:Type} [DecidableEq κ]:∀{ks:List κ} {xs:List D} {k:κ},ks.length=xs.length->(look ks xs k).isSome=decide (k∈ks)
 | [],_,_,_=>by simp [look]
 | _ :: _,[],_,hl=>by simp at hl
 | k' :: ks,x :: xs,k,hl=>by
  rw [look]
  by_cases q:k'=k
  ·rw [if_pos q];simp [q]
  ·have q2:¬k=k':=fun z=>q z.symm
   rw [if_neg q,a5H (by simpa using hl)];simp [q2]
theorem a7x {κ:Type} [DecidableEq κ]:∀{ks:List κ} {vs:List V} {k:κ},ks.length=vs.length->((ks.zip vs).any fun kv=>decide (kv.1=k))=decide (k∈ks)
 | [],_,_,_=>by simp
 | _ :: _,[],_,hl=>by simp at hl
 | k' :: ks,v :: vs,k,hl=>by
  rw [List.zip_cons_cons,List.any_cons,a7x (by simpa using hl)]
  by_cases q:k'=k
  ·simp [q]
  ·have q2:¬k=k':=fun z=>q z.symm
   simp [q,q2]
theorem a7o {κ:Type} [DecidableEq κ] {ks:List κ}{vs:List V}{k:κ}{v:V}(hl:ks.length=vs.length):putK (ks.zip vs) k v=(putKs ks k).zip (putX ks vs k v):=by
 unfold putK putKs putX
 rw [a7x hl]
 by_cases q:k∈ks
 ·rw [if_pos (by simpa using q),if_pos q,if_pos q]
  clear q
  induction ks generalizing vs with
  | nil=>simp
  | cons k' ks ih=>
   cases vs with
   | nil=>simp at hl
   | cons w vs=>
    have ih':=ih (vs:=vs) (by simpa using hl)
    rw [List.zip_cons_cons,List.map_cons,List.zipWith_cons_cons,List.zip_cons_cons,ih']
    by_cases q:k'=k
    ·simp [q]
    ·simp [q]
 ·rw [if_neg (by simpa using q),if_neg q,if_neg q,List.zip_append hl]
  rfl
theorem a2C {κ α:Type} [DecidableEq κ] {ks:List κ}{xs:List α}{k:κ}{d:α}(hl:ks.length=xs.length):(putKs ks k).length=(putX ks xs k d).length:=by
 unfold putKs putX
 split
 ·rw [List.length_zipWith,hl];simp
 ·simp [hl]
theorem a6j {κ:Type} [DecidableEq κ] {K:PySem.W.Frag}{A:Av}{H:Hp}{ks:List κ}{xs:List D}{vs:List V}{k:κ}{d:D}{v:V}(l:DenL K A H xs vs)(h:Den K A H d v):DenL K A H (putX ks xs k d) (putX ks vs k v):=by
 unfold putX
 split
 ·rename_i q;clear q
  induction ks generalizing xs vs with
  | nil=>simp;exact j9
  | cons k' ks ih=>
   cases xs with
   | nil=>rw [DenL] at l;subst l;simp;exact j9
   | cons x xs=>
    rw [DenL] at l
    obtain ⟨u,r,rfl,hx,l⟩:=l
    rw [List.zipWith_cons_cons,List.zipWith_cons_cons]
    refine j8 ?_ (ih l)
    split
    ·exact h
    ·exact hx
 ·exact t7 l (j8 h j9)
section
variable {X:Cx}{a b c e e' o:Expr}{es rest:List Expr}{pos p p2 p3 apos cpos:Pos}{f g h:FX}{t u:FT}{fa:FA}{x:Str}
theorem a2J {pins:List (Addr×PySem.Obj)}{σ:L2.St}{H:Hp}{s:Shared}{b:Addr}{ks:List Key}(I:Inv X pins σ H s)(q:SqT X.K H b (ks.map kV)):(tupleKind (mixKind X.prog X.w)).is s.heap ks b:=by
 obtain ⟨its,r,⟨o,h1,h2,n,h3⟩,_⟩:=I.tuple q
 exact ⟨o,its.toArray,n,h1,h2,h3,by simpa using a10 r⟩
def DGe (K:PySem.W.Frag) (H:Hp) (a:Addr) (y:V) (r:Option V):Prop:=
 (∃kvs k,H a=some (.dK kvs)/\y=kV k/\r=valV kvs k)\/∃kvs k b,H a=some (.dT kvs)/\y= .ref b/\SqT K H b (k.map kV)/\r=valV kvs k
def lookG (x y:D):Option (Option D):=match x with
 | .dT ks xs=>(tkey y).map fun k=>look ks xs k
 | .dK ks xs=>(dkey y).map fun k=>look ks xs k
 | _=>none
def LkOk (K:PySem.W.Frag) (A:Av) (H:Hp):Option D->Option V->Prop
 | some d,w=>∃z,w=some z/\Den K A H d z
 | none,w=>w=none
theorem a2g {A:Av}{H:Hp}{x y:D}{r:Option D}{v u:V}(e:lookG x y=some r)(hx:DenR X.K A H x v)(hy:DenR X.K A H y u):∃a w,v= .ref a/\DGe X.K H a u w/\LkOk X.K A H r w:=by
 cases x with
 | dT ks xs=>
  simp only [lookG] at e
  cases e1:tkey y with
  | none=>rw [e1] at e;cases e
  | some k=>
   rw [e1] at e
   obtain ⟨b,rfl,hb⟩:=b0c e1 hy
   obtain ⟨a,vs,rfl,ha,hl,l⟩:=hx
   refine ⟨a,_,rfl,.inr ⟨_,k,b,ha,rfl,hb,rfl⟩,?_⟩
   cases (show look ks xs k=r from Option.some.inj e)
   cases e2:look ks xs k with
   | none=>exact a2t l hl e2
   | some d=>exact a26 l e2
 | dK ks xs=>
  simp only [lookG] at e
  cases e1:dkey y with
  | none=>rw [e1] at e;cases e
  | some k=>
   rw [e1] at e
   obtain ⟨a,vs,rfl,ha,hl,l⟩:=hx
   refine ⟨a,_,rfl,.inl ⟨_,k,ha,a5Q e1 hy,rfl⟩,?_⟩
   cases (show look ks xs k=r from Option.some.inj e)
   cases e2:look ks xs k with
   | none=>exact a2t l hl e2
   | some d=>exact a26 l e2
 | _=>cases e
def rIxD (K:PySem.W.Frag):R2:=fun x y H Q=>∃a v,x= .ref a/\DGe K H a y (some v)/\Q v H
theorem b01 {k:Nat}(hr:Room k X.A):IxR X (rIxD X.K):=by
 intro value slice pins s σ H x y v u Q I rx ry h hs
 obtain ⟨a,z,rfl,hg,q⟩:=h
 cases rx
 rcases hg with ⟨kvs,k,ha,rfl,hv⟩ | ⟨kvs,k,b,ha,rfl,hq,hv⟩
 ·obtain ⟨_,hd,vs,rel,dd⟩:=a4n I.hok ha
  obtain ⟨w',hw,rw'⟩:=RelO.some_of (v:=z) (o:=valueAt vs k) (by rw [hv];exact rel.val k)
  refine subscriptTail_builtinR (x:=w') dd.typeIs PySem.F.slot_dict_getitem.lookup ?_ hs
  exact wpAny_getItem_of (a3Q ry) dd.mapOf hw ⟨rfl,z,H,I.tok _,rw',q⟩
 ·cases (show u=Value.ref b from ry)
  obtain ⟨_,hd,xs,rel,dd⟩:=a3P I.hok ha
  obtain ⟨w',hw,rw'⟩:=RelO.some_of (v:=z) (o:=(atKey xs k).map (·.2)) (by rw [hv];exact rel.val k)
  obtain ⟨p,hp,hp2⟩:=Option.map_eq_some_iff.mp hw
  refine subscriptTail_builtinR (x:=w') dd.typeIs PySem.F.slot_dict_getitem.lookup ?_ hs
  refine wpAny_getItem_heap (tupleKind_room_in1 (a31 hr)) (a2J I hq) dd hp ?_
  rw [hp2]
  exact ⟨rfl,z,H,I.tok _,rw',q⟩
def isDi:D->Bool
 | .dT _ _=>true
 | .dK _ _=>true
 | _=>false
def oIxG (x y:D):Option W:=if isDi x=true then (lookG x y).bind fun r=>r.map .v else oIx x y
theorem c8 {k:Nat}(hr:Room k X.A)(ha:QX X a f)(hb:QX X b g)(hs:PlainIx b:=by intro _ _;rfl):QX X (.Subscript a b pos) (fBin oIxG f g):=⟨PE.weak (pe_ix (b3k.or (b01 hr)) ha.to hb.to hs) (a1p (by
 intro A x y w v u H Q hA e hx hy q
 unfold oIxG at e
 split at e
 ·obtain ⟨r,e1,e⟩:=obs e
  obtain ⟨a,w',rfl,hg,hm⟩:=a2g e1 hx hy
  cases r with
  | none=>cases e
  | some d=>
   cases e
   obtain ⟨z,rfl,dz⟩:=hm
   exact .inr ⟨a,z,rfl,hg,q z H (Same.refl H) dz⟩
 ·exact .inl (k_ix A x y w v u H Q hA e hx hy q)))⟩
def rInD (K:PySem.W.Frag) (neg:Bool):R2:=fun y x H Q=>∃a r,x= .ref a/\DGe K H a y r/\Q (.bl (if neg then !r.isSome else r.isSome)) H
theorem a9U {k:Nat}(hr:Room k X.A):OpR X (compareOp .In) (rInD X.K false):=by
 intro pins s σ H y x u v Q I ry rx h
 obtain ⟨a,r,rfl,hg,q⟩:=h
 cases rx
 rcases hg with ⟨kvs,k,e,rfl,rfl⟩ | ⟨kvs,k,b,e,rfl,hq,rfl⟩
 ·obtain ⟨_,hd,vs,rel,dd⟩:=a4n I.hok e
  refine wpAny_in_of (a3Q ry) hd dd.mapOf ?_
  rw [<-(rel.val k).isSome_eq]
  exact ⟨.bl _,H,I.tok _,rfl,q⟩
 ·cases (show u=Value.ref b from ry)
  obtain ⟨_,hd,xs,rel,dd⟩:=a3P I.hok e
  refine wpAny_in_heap (tupleKind_room_in1 (a31 hr)) (a2J I hq) hd dd ?_
  have z:=(rel.val k).isSome_eq
  rw [Option.isSome_map] at z
  rw [<-z]
  exact ⟨.bl _,H,I.tok _,rfl,q⟩
theorem a8f {k:Nat}(hr:Room k X.A):OpR X (compareOp .NotIn) (rInD X.K true):=by
 intro pins s σ H y x u v Q I ry rx h
 obtain ⟨a,r,rfl,hg,q⟩:=h
 cases rx
 rcases hg with ⟨kvs,k,e,rfl,rfl⟩ | ⟨kvs,k,b,e,rfl,hq,rfl⟩
 ·obtain ⟨_,hd,vs,rel,dd⟩:=a4n I.hok e
  refine wpAny_notIn_of (a3Q ry) hd dd.mapOf ?_
  rw [<-(rel.val k).isSome_eq]
  exact ⟨.bl _,H,I.tok _,rfl,q⟩
 ·cases (show u=Value.ref b from ry)
  obtain ⟨_,hd,xs,rel,dd⟩:=a3P I.hok e
  refine wpAny_notIn_heap (tupleKind_room_in1 (a31 hr)) (a2J I hq) hd dd ?_
  have z:=(rel.val k).isSome_eq
  rw [Option.isSome_map] at z
  rw [<-z]
  exact ⟨.bl _,H,I.tok _,rfl,q⟩
def intV:Value->Int
 | .int i _=>i
 | _=>0
def readI (h:Heap):Value->Option (List Int)
 | .ref a=>match h.get? a with
  | some o=>match o.data with
   | .seq its _=>some (its.toList.map intV)
   | _=>none
  | none=>none
 | _=>none
theorem a3L:∀{k:List Int} {its:List Value},Vals (k.map V.int) its->its.map intV=k
 | [],_,r=>by cases r;rfl
 | i :: k,_,r=>by
  cases r with
  | cons r1 r2=>
   obtain ⟨t,rfl⟩:=r1
   rw [List.map_cons,a3L r2];rfl
theorem M2 {m:Nat}:∀(a b:List Int),deqL (deq m) (a.map D.int) (b.map D.int)=some (decide (a=b))
 | [],[]=>rfl
 | [],_ :: _=>rfl
 | _ :: _,[]=>rfl
 | x :: a,y :: b=>by
  have ih:=M2 (m:=m) a b
  have e:deq m (.int x) (.int y)=some (x == y):=by cases m <;> rfl
  simp only [List.map_cons,deqL,e,ih,Option.bind_some,Option.map_some]
  congr 1
  by_cases h:x=y
  ·simp [h]
  ·simp [h]
def tupI (k:List Int):D:=.tup (k.map D.int)
theorem a9s {m:Nat}(a b:List Int):deq (m + 1) (tupI a) (tupI b)=some (decide (a=b)):=M2 a b
def tupsOf:List D->Option (List (List Int))
 | []=>some []
 | .tup ds :: xs=>(intsOf ds).bind fun k=>(tupsOf xs).map fun ks=>k :: ks
 | _=>none
theorem a3W:∀{ds:List D} {ks:List (List Int)},tupsOf ds=some ks->ds=ks.map tupI
 | [],ks,e=>by cases e;rfl
 | .tup d :: ds,ks,e=>by
  rw [tupsOf] at e
  cases e1:intsOf d with
  | none=>rw [e1] at e;cases e
  | some k=>
   cases e2:tupsOf ds with
   | none=>rw [e1,e2] at e;cases e
   | some js=>rw [e1,e2] at e;cases e;rw [List.map_cons,<-a3W e2,w8 e1];rfl
 | .non :: ds,_,e=>by cases e
 | .bl _ :: ds,_,e=>by cases e
 | .int _ :: ds,_,e=>by cases e
 | .str _ :: ds,_,e=>by cases e
 | .lst _ :: ds,_,e=>by cases e
 | .dT _ _ :: ds,_,e=>by cases e
 | .dK _ _ :: ds,_,e=>by cases e
 | .exn _ :: ds,_,e=>by cases e
theorem L4:∀ks:List (List Int),tupsOf (ks.map tupI)=some ks
 | []=>rfl
 | k :: ks=>by rw [List.map_cons,show tupI k= .tup (k.map D.int) from rfl,tupsOf,p8,L4 ks];rfl
def rInT (K:PySem.W.Frag) (neg:Bool):R2:=fun x y H Q=>∃(A:Av) (k:List Int) (ks:List (List Int)) (p:Addr) (vs:List V),DenR K A H (tupI k) x/\y= .ref p/\(SqL K H p vs\/SqT K H p vs)/\DenL K A H (ks.map tupI) vs/\Q (.bl (if neg then !decide (k∈ks) else decide (k∈ks))) H
theorem Z6 {k0:Nat}{A:Av}(hr:Room k0 X.A){pins:List (Addr×PySem.Obj)}{σ:L2.St}{H:Hp}{s:Shared}(I:Inv X pins σ H s){k:List Int}{x:V}{v:Value}(hx:DenR X.K A H (tupI k) x)(rx:RelV x v):∀{ks:List (List Int)} {vs:List V} {us:List Value},DenL X.K A H (ks.map tupI) vs->Vals vs us->
  (∀y∈us,SeqAt.EqAt X.A.in1 s y v (decide (readI s.heap y=some k)))/\(us.any fun y=>decide (readI s.heap y=some k))=decide (k∈ks)
 | [],vs,us,l,r=>by
  rw [List.map_nil,DenL] at l
  subst l;cases r
  exact ⟨fun y hy=>by simp at hy,by simp⟩
 | k' :: ks,vs,us,l,r=>by
  rw [List.map_cons,DenL] at l
  obtain ⟨z,rs,rfl,hz,l⟩:=l
  cases r with
  | cons r1 r2=>
   rename_i u us
   obtain ⟨i1,i2⟩:=Z6 hr I hx rx l r2
   have hz':=hz
   rw [show tupI k'= .tup (k'.map D.int) from rfl,Den] at hz'
   obtain ⟨c,ws,rfl,hq,lw⟩:=hz'
   rw [v3 lw] at hq
   cases (show u=Value.ref c from r1)
   obtain ⟨its,r3,⟨o,ho,_,n,hd⟩,_⟩:=I.tuple hq
   have er:readI s.heap (.ref c)=some k':=by
    unfold readI
    dsimp only
    rw [ho]
    dsimp only
    rw [hd]
    dsimp only
    rw [a3L r3]
   have eq:SeqAt.EqAt X.A.in1 s (.ref c) v (decide (readI s.heap (.ref c)=some k)):=by
    rw [er]
    have z:=(a44 I 20 X.A.in1 (by have:=hr.units;show X.A.units + 1 + 20 + 1 < _;walk_at "o") (tupI k') (tupI k) (.ref c) x (.ref c) v _ (a9s k' k) (M6 hz) hx rfl rx).1
    have e2:decide (some k'=some k)=decide (k'=k):=by simp
    rw [e2];exact z
   refine ⟨fun y hy=>?_,?_⟩
   ·rcases List.mem_cons.mp hy with rfl | hy
    ·exact eq
    ·exact i1 y hy
   ·rw [List.any_cons,i2,er]
    by_cases h:k'=k
    ·simp [h]
    ·have h':¬k=k':=fun z=>h z.symm
     simp [h,h']
theorem b0b {k0:Nat}(hr:Room k0 X.A):OpR X (compareOp .In) (rInT X.K false):=by
 intro pins s σ H x y v u Q I rx ry ⟨A,k,ks,p,vs,hx,ey,hq,l,q⟩
 subst ey
 cases ry
 rcases hq with hq | hq
 ·obtain ⟨its,r,pl,hz⟩:=I.list hq
  obtain ⟨c1,c2⟩:=Z6 hr I hx rx l r
  refine SeqAt.in_listAt (fun y=>decide (readI s.heap y=some k)) pl.isList (fun w hw=>c1 w (by simpa using hw)) ⟨.bl _,H,I,rfl,?_⟩
  rw [show (its.toArray.any fun y=>decide (readI s.heap y=some k))=(its.any fun y=>decide (readI s.heap y=some k)) by simp,c2]
  exact q
 ·obtain ⟨its,r,pl,hz⟩:=I.tuple hq
  obtain ⟨c1,c2⟩:=Z6 hr I hx rx l r
  refine SeqAt.in_tupleAt (fun y=>decide (readI s.heap y=some k)) pl (fun w hw=>c1 w (by simpa using hw)) ⟨.bl _,H,I,rfl,?_⟩
  rw [show (its.toArray.any fun y=>decide (readI s.heap y=some k))=(its.any fun y=>decide (readI s.heap y=some k)) by simp,c2]
  exact q
theorem a7Z {k0:Nat}(hr:Room k0 X.A):OpR X (compareOp .NotIn) (rInT X.K true):=by
 intro pins s σ H x y v u Q I rx ry ⟨A,k,ks,p,vs,hx,ey,hq,l,q⟩
 subst ey
 cases ry
 rcases hq with hq | hq
 ·obtain ⟨its,r,pl,hz⟩:=I.list hq
  obtain ⟨c1,c2⟩:=Z6 hr I hx rx l r
  refine SeqAt.notIn_listAt (fun y=>decide (readI s.heap y=some k)) pl.isList (fun w hw=>c1 w (by simpa using hw)) ⟨.bl _,H,I,rfl,?_⟩
  rw [show (its.toArray.any fun y=>decide (readI s.heap y=some k))=(its.any fun y=>decide (readI s.heap y=some k)) by simp,c2]
  exact q
 ·obtain ⟨its,r,pl,hz⟩:=I.tuple hq
  obtain ⟨c1,c2⟩:=Z6 hr I hx rx l r
  refine SeqAt.notIn_tupleAt (fun y=>decide (readI s.heap y=some k)) pl (fun w hw=>c1 w (by simpa using hw)) ⟨.bl _,H,I,rfl,?_⟩
  rw [show (its.toArray.any fun y=>decide (readI s.heap y=some k))=(its.any fun y=>decide (readI s.heap y=some k)) by simp,c2]
  exact q
def nb (neg k:Bool):W:=.v (.bl (if neg then !k else k))
def oInG (neg:Bool) (x y:D):Option W:=if isDi y=true then (lookG y x).map fun r=>nb neg r.isSome else match x with
 | .int i=>(items y).bind fun ys=>(intsOf ys).map fun ns=>nb neg (decide (i∈ns))
 | .tup ds=>(intsOf ds).bind fun k=>(items y).bind fun ys=>(tupsOf ys).map fun ks=>nb neg (decide (k∈ks))
 | _=>none
theorem kInG {neg:Bool}:Pr2 X (oInG neg) (fun x y H Q=>rIn X.K neg x y H Q\/rInD X.K neg x y H Q\/rInT X.K neg x y H Q):=by
 intro A x y w v u H Q hA e hx hy q
 unfold oInG at e
 split at e
 ·obtain ⟨r,e1,e⟩:=oms e
  cases e
  obtain ⟨a,w',rfl,hg,hm⟩:=a2g e1 hy hx
  have es:w'.isSome=r.isSome:=by
   cases r with
   | none=>rw [show w'=none from hm];rfl
   | some d=>obtain ⟨z,rfl,_⟩:=hm;rfl
  refine .inr (.inl ⟨a,w',rfl,hg,?_⟩)
  rw [es]
  exact q _ H (Same.refl H) F4
 ·split at e
  ·rename_i i
   refine .inl (kInI A (.int i) y w v u H Q hA ?_ hx hy q)
   unfold oInI
   exact e
  ·rename_i ds
   cases e1:intsOf ds with
   | none=>rw [e1] at e;cases e
   | some k=>
    rw [e1] at e
    simp only [Option.bind_some] at e
    cases e2:items y with
    | none=>rw [e2] at e;cases e
    | some ys=>
     rw [e2] at e
     simp only [Option.bind_some] at e
     obtain ⟨ks,e3,e⟩:=oms e
     cases e
     obtain ⟨p,vs,rfl,hq,l⟩:=P3 e2 hy
     rw [a3W e3] at l
     rw [w8 e1] at hx
     exact .inr (.inr ⟨A,k,ks,p,vs,hx,rfl,hq,l,q _ H (Same.refl H) F4⟩)
  ·cases e
theorem b3l {k:Nat}(hr:Room k X.A)(ha:QX X a f)(hb:QX X b g)(hm:behindInMarks .In b=false:=by rfl):QX X (.Compare a [.In] [b] pos) (fBin (oInG false) f g):=a3o (a3R.or ((a9U hr).or (b0b hr))) kInG ha hb hm
theorem b21 {k:Nat}(hr:Room k X.A)(ha:QX X a f)(hb:QX X b g)(hm:behindInMarks .In b=false:=by rfl):QT X (.Compare a [.In] [b] pos) (fTest (fBin (oInG false) f g)):=a0b (a3R.or ((a9U hr).or (b0b hr))) kInG ha hb hm
theorem a19 {k:Nat}(hr:Room k X.A)(ha:QX X a f)(hb:QX X b g)(hm:behindInMarks .NotIn b=false:=by rfl):QT X (.Compare a [.NotIn] [b] pos) (fTest (fBin (oInG true) f g)):=a0b (a5b.or ((a8f hr).or (a7Z hr))) kInG ha hb hm
def rGet (K:PySem.W.Frag):V->List V->Hp->VK->Prop:=fun x vs H Q=>∃a y r w,x= .ref a/\vs=[y,w]/\DGe K H a y r/\Q (r.getD w) H
theorem b1S {k0:Nat}(hr:Room k0 X.A):MtR X "dict.get" (rGet X.K):=by
 intro pins s σ H x xs v us Q I rx rv ⟨a,y,r,w,ex,evs,hg,q⟩
 subst ex evs
 cases rx
 obtain ⟨u,w',rfl,ru,rw'⟩:=vals2 rv
 rcases hg with ⟨kvs,k,e,rfl,rfl⟩ | ⟨kvs,k,b,e,rfl,hq,rfl⟩
 ·obtain ⟨z,hd,ys,rel,dd⟩:=a4n I.hok e
  refine call_meetsIn PySem.F.slot_dict_get dd.typeIs PySem.F.entry_dict_get (PySem.F.args_dict_get_3 _ _ _) (meets_dict_get_default (mixKind X.prog X.w) a (a3Q ru) hd w') ⟨_,dd.mapOf,?_⟩
  exact ⟨_,H,I.tok _,(rel.val k).getD rw',q⟩
 ·cases (show u=Value.ref b from ru)
  obtain ⟨z,hd,ys,rel,dd⟩:=a3P I.hok e
  refine call_meetsIn PySem.F.slot_dict_get dd.typeIs PySem.F.entry_dict_get (PySem.F.args_dict_get_3 _ _ _) (meetsH_dict_get_default (tupleKind (mixKind X.prog X.w)) a b hd w') ⟨tupleKind_room_in1 (a31 hr),k,ys,a2J I hq,dd,?_⟩
  exact ⟨_,H,I.tok _,(rel.val k).getD rw',q⟩
def fGet (f:FX) (fa:FA):FX:=fun ρ=>(f ρ).bind fun p=>(dr p.2 p.1.fz).bind fun d=>if isDi d=true then (fa p.2).bind fun q=>(takeAll q.2 q.1).bind fun z=>(dr z.2 p.1.fz).bind fun x=>match z.1 with
  | [y,e]=>(lookG x y).map fun r=>(.v (r.getD e),z.2)
  | _=>none
 else none
theorem b2D {k0:Nat}(hr:Room k0 X.A)(ha:QX X o f)(hb:QA X (e :: es) fa)(hbase:attributeBase o "get" X.env (eval o X.env)=eval o X.env:=by rfl)
  (hfew:((backTo pos (starEach (e :: es) X.env)).all (fun x=>!x.1) && (backToKw pos (keywordEach [] X.env)).all (fun x=>x.1.isSome) && decide ((e :: es).length + ([]:List Keyword).length + (if ([]:List Keyword).isEmpty then 0 else 1) < 30))=true:=by rfl)
  (hline:(apos.endLine == pos.line)=true:=by rfl) (hs:starEach (e :: es) X.env=(false,eval e X.env) :: starEach es X.env:=by rfl) (hpl:(backTo pos (starEach es X.env)).any (·.1)=false:=by rfl):
  QX X (.Call (.Attribute o "get" apos) (e :: es) [] pos) (fGet f fa):=
 ⟨PE.weak (a9J PySem.F.plainAttrs_dict PySem.F.slot_dict_get PySem.F.type_dict_get (b1S hr) ha.to hb.to hbase hfew hline hs hpl) fun σ H Q h0=>tXe h0 fun P O L ρ w ρ' rp e q=>by
 unfold fGet at e
 obtain ⟨⟨w1,ρ1⟩,e1,e⟩:=obs e
 dsimp only at e
 cases e2:dr ρ1 w1.fz with
 | none=>rw [e2] at e;cases e
 | some d=>
  rw [e2] at e
  simp only [Option.bind_some] at e
  split at e
  ·rename_i hdi
   obtain ⟨⟨ws,ρ2⟩,e3,e⟩:=obs e
   dsimp only at e
   obtain ⟨⟨ds,ρ3⟩,e5,e⟩:=obs e
   dsimp only at e
   cases e4:dr ρ3 w1.fz with
   | none=>rw [e4] at e;cases e
   | some x=>
    rw [e4] at e
    simp only [Option.bind_some] at e
    split at e
    ·rename_i y e0
     obtain ⟨r,e6,e⟩:=oms e
     cases e
     refine ⟨P,O,L,ρ,w1,ρ1,rp,e1,fun v H1 H1' r1 s1 d1=>?_⟩
     have r1g:=r1.grow s1
     have dd:=S9 r1g e2 (d1.fz r1 s1)
     obtain ⟨P',r1',k1⟩:=hold r1g (d1.fz r1 s1)
     refine ⟨?_,P',O,L,ρ1,_,_,r1',e3,fun vs H2 r2 l2=>?_⟩
     ·cases d with
      | dT ks xs=>obtain ⟨a,us,rfl,ha,_⟩:=dd;exact .inr (.inr (.inl ⟨rfl,.inr ⟨_,ha⟩⟩))
      | dK ks xs=>obtain ⟨a,us,rfl,ha,_⟩:=dd;exact .inr (.inr (.inl ⟨rfl,.inl ⟨_,ha⟩⟩))
      | _=>cases hdi
     ·obtain ⟨r4,l4,_⟩:=o8 r2 e5 l2
      obtain ⟨r3,d3⟩:=k1 _ H2 r4
      have dx:=S9 r3 e4 d3
      obtain ⟨v1,v2,rfl,g1,g2⟩:=denL2 l4
      obtain ⟨a,w',rfl,hg,hm⟩:=a2g e6 dx (M6 g1)
      refine ⟨a,v1,w',v2,rfl,rfl,hg,q _ H2 H2 r3 (Same.refl _) ?_⟩
      cases r with
      | none=>rw [show w'=none from hm];exact g2
      | some d=>obtain ⟨z,rfl,dz⟩:=hm;exact dz
    ·cases e
  ·cases e⟩
end
open PySem PySem.W PyProof.Rows
def TWp {α:Type} (n:Nat) (lt:Nat->Nat->Bool):KasT α->(α->Prop)->Prop
 | .ret a,Q=>Q a
 | .ask i j k,Q=>i < n/\j < n/\TWp n lt (k (lt i j)) Q
theorem T9 {α β:Type}{n:Nat}{lt:Nat->Nat->Bool}{g:α->KasT β}{Q:β->Prop}:∀(t:KasT α),TWp n lt t (fun a=>TWp n lt (g a) Q)->TWp n lt (t.bind g) Q
 | .ret _,h=>h
 | .ask i j k,⟨h1,h2,h⟩=>⟨h1,h2,T9 (k (lt i j)) h⟩
theorem a7h {α:Type}{n:Nat}{lt:Nat->Nat->Bool}{cmp:Nat->Nat->(Bool->Shared->Prop)->Shared->Prop}{s:Shared}{Q:α->Shared->Prop}
  (hc:∀i j (C:Bool->Shared->Prop),i < n->j < n->C (lt i j) s->cmp i j C s):∀(t:KasT α),TWp n lt t (fun a=>Q a s)->t.kasWp cmp Q s
 | .ret a,h=>h
 | .ask i j k,⟨h1,h2,h⟩=>hc i j _ h1 h2 (a7h hc (k (lt i j)) h)
section
variable {O:KeyOrd}{f:Nat->O.α}{n:Nat}
def Ky (f:Nat->O.α) (p:Array Nat) (i:Nat):O.α:=f (p.getD i 0)
def SoTo (f:Nat->O.α) (p:Array Nat) (k:Nat):Prop:=∀i j,i<=j->j < k->O.kle (Ky f p i) (Ky f p j)
def NoIn (f:Nat->O.α) (p:Array Nat) (k:Nat):Prop:=∀i j,i<=j->j < k->O.kle (Ky f p j) (Ky f p i)
structure PB (n:Nat) (p:Array Nat):Prop where
 perm:p.Perm (List.toArray (List.range n))
 pos:0 < n
theorem PB.size {p:Array Nat}(h:PB n p):p.size=n:=by rw [h.perm.size_eq];simp
theorem PB.lt {p:Array Nat}(h:PB n p)(i:Nat):p.getD i 0 < n:=by
 by_cases q:i < p.size
 ·have e:p.getD i 0=p[i]:=by simp [Array.getD,q]
  rw [e]
  have m:p[i]∈p.toList:=by simp
  have:=(Array.perm_iff_toList_perm.mp h.perm).mem_iff.mp m
  simpa using this
 ·have e:p.getD i 0=0:=by simp [Array.getD,q]
  rw [e];exact h.pos
theorem a0d {p q:Array Nat}{i j:Nat}(h:p[i]? =q[j]?):Ky f p i=Ky f q j:=by
 unfold Ky
 congr 1
 rw [Array.getD_eq_getD_getElem?,Array.getD_eq_getD_getElem?,h]
theorem a4a {xs:Array Nat}{src d:Nat}(hs:src < xs.size)(hd:d<=src)(k:Nat):
  Ky f (bubble xs src d) k=if k=src - d then Ky f xs src else if src - d < k/\k<=src then Ky f xs (k - 1) else Ky f xs k:=by
 have e:=getElem?_bubble hs d hd k
 by_cases h1:k=src - d
 ·rw [if_pos h1] at e ⊢;exact a0d e
 ·rw [if_neg h1] at e ⊢
  by_cases h2:src - d < k/\k<=src
  ·rw [if_pos h2] at e ⊢;exact a0d e
  ·rw [if_neg h2] at e ⊢;exact a0d e
theorem a2q {xs:Array Nat}{i j:Nat}(hj:j<=xs.size)(k:Nat):
  Ky f (kas_rev xs i j) k=if i<=k/\k < j then Ky f xs (i + j - 1 - k) else Ky f xs k:=by
 have e:=getElem?_mirror_all (i:=i) hj k
 unfold kas_rev
 by_cases h1:i<=k/\k < j
 ·rw [if_pos h1] at e ⊢;exact a0d e
 ·rw [if_neg h1] at e ⊢;exact a0d e
theorem A8 {xs:Array Nat}{i j:Nat}(hj:j<=xs.size)(heq:∀k,i<=k->k < j->Ky f xs k=Ky f xs (j - 1))(k:Nat):Ky f (kas_rev xs i j) k=Ky f xs k:=by
 rw [a2q hj]
 split
 ·rw [heq _ (by omega) (by omega),heq k (by omega) (by omega)]
 ·rfl
theorem PB.rev {p:Array Nat}(h:PB n p)(i j:Nat):PB n (kas_rev p i j):=⟨(mirror_perm _ _ _ _).trans h.perm,h.pos⟩
theorem PB.bub {p:Array Nat}(h:PB n p)(i j:Nat):PB n (bubble p i j):=⟨(bubble_perm _ _ _).trans h.perm,h.pos⟩
abbrev ltK (f:Nat->O.α):Nat->Nat->Bool:=fun i j=>O.blt (f i) (f j)
theorem a4w {p:Array Nat}(hB:PB n p){Q:Nat->Prop}:∀(c a:Nat),1<=a->SoTo f p a->(∀m,a<=m->m<=a + c->SoTo f p m->(m=a + c\/O.klt (Ky f p m) (Ky f p (m - 1)))->Q m)->TWp n (ltK f) (kas_asc p c a) Q
 | 0,a,_,hs,h=>h a (Nat.le_refl _) (Nat.le_refl _) hs (.inl rfl)
 | c + 1,a,h1,hs,h=>by
  refine ⟨hB.lt _,hB.lt _,?_⟩
  cases hless:O.blt (Ky f p a) (Ky f p (a - 1))
  case true=>
   rw [show ltK f (p.getD a 0) (p.getD (a - 1) 0)=true from hless];dsimp only;rw [if_pos rfl]
   exact h a (Nat.le_refl _) (by walk_at "o") hs (.inr hless)
  case false=>
   rw [show ltK f (p.getD a 0) (p.getD (a - 1) 0)=false from hless];dsimp only;rw [if_neg (by simp)]
   refine a4w hB c (a + 1) (by walk_at "o") (fun i j hij hj=>?_) fun m x1 x2 x3 x4=>h m (by walk_at "o") (by walk_at "o") x3 (x4.imp (fun q=>by walk_at "o") id)
   by_cases hjx:j < a
   ·exact hs i j hij hjx
   ·have hj':j=a:=by walk_at "o"
    subst hj'
    by_cases hi':i=j
    ·subst hi';exact KeyOrd.kle_refl _
    ·exact KeyOrd.kle_trans (hs i (j - 1) (by walk_at "o") (by walk_at "o")) hless
theorem a4e {p:Array Nat}(hB:PB n p){Q:Nat×Array Nat->Prop}{a m:Nat}(h1:1<=a)(ha:a<=m)(hm:m<=n)(hs:NoIn f p a)(h:∀k q,PB n q->1<=k->k<=m->SoTo f q k->Q (k,q)):TWp n (ltK f) (kas_tail3 a m p) Q:=by
 have hsz:a<=p.size:=by rw [hB.size];walk_at "o"
 refine T9 _ (a4w (hB.rev 0 a) (m - a) a h1 (fun i j hij hj=>?_) fun k x1 x2 x3 _=>h k _ (hB.rev 0 a) (by walk_at "o") (by walk_at "o") x3)
 rw [a2q hsz,a2q hsz,if_pos (by walk_at "o"),if_pos (by walk_at "o")]
 exact hs _ _ (by walk_at "o") (by walk_at "o")
theorem a1q {Q:Array Nat×Nat×Nat->Prop}{m:Nat}(hm:m<=n):∀(c:Nat) (p:Array Nat) (a q:Nat),a + c=m->PB n p->1<=a->NoIn f p a->q + 1<=a->(∀i,a - (q + 1)<=i->i < a->Ky f p i=Ky f p (a - 1))->
  (∀k r p',PB n p'->a<=k->k<=m->NoIn f p' k->r + 1<=k->(∀i,k - (r + 1)<=i->i < k->Ky f p' i=Ky f p' (k - 1))->Q (p',k,r))->TWp n (ltK f) (kas_desc c p a q) Q
 | 0,p,a,q,hc,hB,h1,hs,hq,he,h=>h a q p hB (Nat.le_refl _) (by walk_at "o") hs hq he
 | c + 1,p,a,q,hc,hB,h1,hs,hq,he,h=>by
  have hsz:a<=p.size:=by rw [hB.size];walk_at "o"
  refine ⟨hB.lt _,hB.lt _,?_⟩
  cases hless:O.blt (Ky f p a) (Ky f p (a - 1))
  case true=>
   rw [show ltK f (p.getD a 0) (p.getD (a - 1) 0)=true from hless];dsimp only;rw [if_pos rfl]
   have step1:∀xs:Array Nat,(∀k,Ky f xs k=Ky f p k)->NoIn f xs (a + 1):=by
    intro xs hk i j hij hj
    rw [hk,hk]
    by_cases hjx:j < a
    ·exact hs i j hij hjx
    ·have hj':j=a:=by walk_at "o"
     subst hj'
     by_cases hi':i=j
     ·subst hi';exact KeyOrd.kle_refl _
     ·exact KeyOrd.kle_trans (KeyOrd.kle_of_klt hless) (hs i (j - 1) (by walk_at "o") (by walk_at "o"))
   by_cases hneq:q > 0
   ·rw [if_pos hneq]
    exact a1q hm c _ (a + 1) 0 (by walk_at "o") (hB.rev _ _) (by walk_at "o") (step1 _ (A8 hsz he)) (by walk_at "o") (fun i h1 h2=>by congr 1;walk_at "o") fun k r p' x1 x2=>h k r p' x1 (by walk_at "o")
   ·rw [if_neg hneq]
    exact a1q hm c _ (a + 1) 0 (by walk_at "o") hB (by walk_at "o") (step1 _ (fun _=>rfl)) (by walk_at "o") (fun i h1 h2=>by congr 1;walk_at "o") fun k r p' x1 x2=>h k r p' x1 (by walk_at "o")
  case false=>
   rw [show ltK f (p.getD a 0) (p.getD (a - 1) 0)=false from hless];dsimp only;rw [if_neg (by simp)]
   refine ⟨hB.lt _,hB.lt _,?_⟩
   cases hlarger:O.blt (Ky f p (a - 1)) (Ky f p a)
   case true=>
    rw [show ltK f (p.getD (a - 1) 0) (p.getD a 0)=true from hlarger];dsimp only;rw [if_pos rfl]
    exact h a q p hB (Nat.le_refl _) (by walk_at "o") hs hq he
   case false=>
    rw [show ltK f (p.getD (a - 1) 0) (p.getD a 0)=false from hlarger];dsimp only;rw [if_neg (by simp)]
    have heqx:Ky f p a=Ky f p (a - 1):=KeyOrd.kle_antisymm hlarger hless
    refine a1q hm c p (a + 1) (q + 1) (by walk_at "o") hB (by walk_at "o") (fun i j hij hj=>?_) (by walk_at "o") (fun i h1 h2=>?_) fun k r p' x1 x2=>h k r p' x1 (by walk_at "o")
    ·by_cases hjx:j < a
     ·exact hs i j hij hjx
     ·have hj':j=a:=by walk_at "o"
      subst hj'
      by_cases hi':i=j
      ·subst hi';exact KeyOrd.kle_refl _
      ·rw [heqx];exact hs i (j - 1) (by walk_at "o") (by walk_at "o")
    ·rw [show a + 1 - 1=a by walk_at "o"]
     by_cases hix:i=a
     ·subst hix;rfl
     ·rw [heqx];exact he i (by walk_at "o") (by walk_at "o")
theorem a1P {p:Array Nat}(hB:PB n p){Q:Nat×Array Nat->Prop}{a m:Nat}(ha:a + 1<=m)(hm:m<=n)(hs:NoIn f p (a + 1))(h:∀k q,PB n q->1<=k->k<=m->SoTo f q k->Q (k,q)):TWp n (ltK f) (kas_descPart a m p) Q:=by
 refine T9 _ (a1q hm (m - (a + 1)) p (a + 1) 0 (by walk_at "o") hB (by walk_at "o") hs (by walk_at "o") (fun i h1 h2=>by congr 1;walk_at "o") fun k r p' hB' x2 x3 hs' x5 he=>?_)
 have hsz:k<=p'.size:=by rw [hB'.size];walk_at "o"
 dsimp only
 by_cases hneq:r > 0
 ·rw [if_pos hneq]
  refine a4e (hB'.rev _ _) (by walk_at "o") x3 hm (fun i j hij hj=>?_) h
  rw [A8 hsz he,A8 hsz he]
  exact hs' i j hij hj
 ·rw [if_neg hneq]
  exact a4e hB' (by walk_at "o") x3 hm hs' h
theorem a8K {p:Array Nat}(hB:PB n p){Q:Nat×Array Nat->Prop}{m:Nat}(h1:1<=m)(hm:m<=n)(h:∀k q,PB n q->1<=k->k<=m->SoTo f q k->Q (k,q)):TWp n (ltK f) (kas_count m p) Q:=by
 refine T9 _ (a4w hB (m - 1) 1 (Nat.le_refl 1) (fun i j hij hj=>by have:i=j:=(by walk_at "o");subst this;exact KeyOrd.kle_refl _) fun a ha1 ha2 hsn hor=>?_)
 by_cases hnn:a=m
 ·rw [if_pos (by simpa using hnn)]
  exact h a p hB ha1 (by walk_at "o") hsn
 ·rw [if_neg (by simpa using hnn)]
  have hlt:O.klt (Ky f p a) (Ky f p (a - 1)):=hor.resolve_left (by walk_at "o")
  by_cases hgt:a > 1
  ·rw [if_pos hgt]
   refine ⟨hB.lt _,hB.lt _,?_⟩
   cases hrose:O.blt (Ky f p 0) (Ky f p (a - 1))
   case true=>
    rw [show ltK f (p.getD 0 0) (p.getD (a - 1) 0)=true from hrose];dsimp only;rw [if_pos rfl]
    exact h a p hB ha1 (by walk_at "o") hsn
   case false=>
    rw [show ltK f (p.getD 0 0) (p.getD (a - 1) 0)=false from hrose];dsimp only;rw [if_neg (by simp)]
    have hsz:a<=p.size:=by rw [hB.size];walk_at "o"
    have hall:∀k,0<=k->k < a->Ky f p k=Ky f p (a - 1):=by
     intro k _ hk
     have a1:=hsn 0 k (by walk_at "o") hk
     have a2:=hsn k (a - 1) (by walk_at "o") (by walk_at "o")
     exact KeyOrd.kle_antisymm a2 (KeyOrd.kle_trans hrose a1)
    refine a1P (hB.rev _ _) (by walk_at "o") hm (fun i j hij hj=>?_) h
    rw [A8 hsz hall,A8 hsz hall]
    by_cases hjn:j < a
    ·rw [hall i (by walk_at "o") (by walk_at "o"),hall j (by walk_at "o") hjn];exact KeyOrd.kle_refl _
    ·have hj':j=a:=by walk_at "o"
     subst hj'
     by_cases hi':i=j
     ·subst hi';exact KeyOrd.kle_refl _
     ·rw [hall i (by walk_at "o") (by walk_at "o")];exact KeyOrd.kle_of_klt hlt
  ·rw [if_neg hgt]
   have hn1':a=1:=by walk_at "o"
   subst hn1'
   refine a1P hB (by walk_at "o") hm (fun i j hij hj=>?_) h
   by_cases hi':i=j
   ·subst hi';exact KeyOrd.kle_refl _
   ·have hi0:i=0:=by walk_at "o"
    have hj1:j=1:=by walk_at "o"
    subst hi0;subst hj1
    exact KeyOrd.kle_of_klt hlt
theorem a2i {p:Array Nat}(hB:PB n p){Q:Nat->Prop}{k:Nat}(hk:k < n)(hs:SoTo f p k)
  (h:∀l,l<=k->(∀i,i < l->O.kle (Ky f p i) (Ky f p k))->(∀i,l<=i->i < k->O.klt (Ky f p k) (Ky f p i))->Q l):
  ∀(c l r:Nat),l<=r->r<=k->r - l<=c->(∀i,i < l->O.kle (Ky f p i) (Ky f p k))->(∀i,r<=i->i < k->O.klt (Ky f p k) (Ky f p i))->TWp n (ltK f) (kas_place p k c l r) Q
 | 0,l,r,hlr,hrk,hc,hlo,hhi=>h l (by omega) hlo (fun i h1 h2=>hhi i (by omega) h2)
 | c + 1,l,r,hlr,hrk,hc,hlo,hhi=>by
  unfold kas_place
  by_cases hge:l≥r
  ·rw [if_pos hge]
   have:l=r:=by omega
   subst this
   exact h l hrk hlo hhi
  ·rw [if_neg hge]
   refine ⟨hB.lt _,hB.lt _,?_⟩
   cases hless:O.blt (Ky f p k) (Ky f p ((l + r) / 2))
   case true=>
    rw [show ltK f (p.getD k 0) (p.getD ((l + r) / 2) 0)=true from hless];dsimp only;rw [if_pos rfl]
    exact a2i hB hk hs h c l ((l + r) / 2) (by omega) (by omega) (by omega) hlo fun i h1 h2=>KeyOrd.klt_of_klt_of_kle hless (hs _ _ h1 h2)
   case false=>
    rw [show ltK f (p.getD k 0) (p.getD ((l + r) / 2) 0)=false from hless];dsimp only;rw [if_neg (by simp)]
    exact a2i hB hk hs h c ((l + r) / 2 + 1) r (by omega) (by omega) (by omega) (fun i h1=>KeyOrd.kle_trans (hs i ((l + r) / 2) (by omega) (by omega)) (show O.kle _ _ from hless)) hhi
theorem a7f {Q:Array Nat->Prop}(h:∀p,PB n p->SoTo f p n->Q p):∀(c k:Nat) (p:Array Nat),c + k=n->PB n p->SoTo f p k->TWp n (ltK f) (kas_bin c p k) Q
 | 0,k,p,hc,hB,hs=>h p hB (by rw [<-hc];rw [Nat.zero_add];exact hs)
 | c + 1,k,p,hc,hB,hs=>by
  refine T9 _ (a2i hB (by walk_at "o") hs (fun l hlk hlo hhi=>?_) k 0 k (by walk_at "o") (by walk_at "o") (by walk_at "o") (fun i hi=>by walk_at "o") fun i h1 h2=>by walk_at "o")
  refine a7f h c (k + 1) _ (by walk_at "o") (hB.bub _ _) fun i j hij hj=>?_
  have hks:k < p.size:=by rw [hB.size];walk_at "o"
  rw [a4a hks (by walk_at "o"),a4a hks (by walk_at "o"),show k - (k - l)=l by walk_at "o"]
  repeat' split
  all_goals first
   | (exfalso;walk_at "o")
   | exact KeyOrd.kle_refl _
   | exact hlo _ (by walk_at "o")
   | exact KeyOrd.kle_of_klt (hhi _ (by walk_at "o") (by walk_at "o"))
   | exact hs _ _ (by walk_at "o") (by walk_at "o")
theorem a9N {Q:Array Nat->Prop}(hn:1<=n)(h:∀p,PB n p->SoTo f p n->Q p):TWp n (ltK f) (kas_sort n) Q:=by
 refine T9 _ (a8K ⟨Array.Perm.refl _,hn⟩ hn (Nat.le_refl _) fun k q hB x1 x2 hs=>?_)
 dsimp only
 split
 ·rw [show max k 1=k by walk_at "o"]
  exact a7f h (n - k) k q (by walk_at "o") hB hs
 ·exact h q hB (by rw [show n=k by walk_at "o"];exact hs)
end
def DRaw (h:Heap) (d:Addr) (es:Array DictEntry) (ep:Nat):Prop:=∃o,h.get? d=some o/\o.ExactDict/\o.data= .dict es ep
theorem DRaw.typeIs {s:Shared}{d:Addr}{es:Array DictEntry}{ep:Nat}(x:DRaw s.heap d es ep):s.TypeIs (.ref d) "dict":=let ⟨o,e,c,_⟩:=x;⟨o,e,c.1⟩
theorem DRaw.lt {h:Heap}{d:Addr}{es:Array DictEntry}{ep:Nat}(x:DRaw h d es ep):d < h.objs.size:=let ⟨_,e,_⟩:=x;Heap.lt_size e
theorem DRaw.on {h h':Heap}{d:Addr}{es:Array DictEntry}{ep:Nat}(x:DRaw h d es ep)(k:∀o,h.get? d=some o->h'.get? d=some o):DRaw h' d es ep:=let ⟨o,e,r⟩:=x;⟨o,k o e,r⟩
section
variable {prog:Program}{w:World}{A:Around}{E:Value->Shared->Prop}{s:Shared}{it d:Addr}{es:Array DictEntry}{i ep:Nat}
theorem b0v {Q:Value->Shared->Prop}(ns:(d == sysModules)=false)(hm:DRaw s.heap d es ep)
  (q:Q (.ref s.heap.objs.size) {s with heap:=s.heap.push {cls:=.type "dict_keyiterator",data:=.fields #[.ref d,.int 0 0,.int es.size 0,.int ep 0]}}):wpAny (model prog w) A (pyIter (.ref d)) Q E s:=by
 obtain ⟨o,g0,gx,gd⟩:=id hm
 have T:=hm.typeIs
 refine wpAny_pyIter_slot T F.slot_dict_iter (wpAny_call_entry F.slot_dict_iter T F.entry_dict_iter ?_ (F.args_dict_iter_1 _))
 unfold Builtin.«dict.__iter__»
 refine wpAny_bind ?_
 unfold Builtin.Dict.dictSlotNone
 refine wpAny_bind (wpAny_notOrdered_dict T (wpAny_pure ?_))
 show wpAny _ _ (Builtin.Dict.showsAll d >>=_) _ _ s
 unfold Builtin.Dict.showsAll
 rw [if_neg (by rw [ns];simp)]
 refine wpAny_bind (wpAny_pure (wpAny_bind (wpAny_dictEntries g0 gd (wpAny_bind (wpAny_dictEpoch g0 gd ?_)))))
 refine wpAny_bind (wpAny_newObj_type (wpAny_pure ⟨_,rfl,"dict_keyiterator",_,⟨_,Heap.get?_push_size _ rfl,rfl⟩,F.slot_dict_keyiterator_next.lookup,?_⟩))
 simpa [rawInt] using q
theorem b0z {Q:Option Value->Shared->Prop}{e:DictEntry}(hit:s.heap.IsKeyIter it d i es.size ep)(hm:DRaw s.heap d es ep)(he:es[i]? =some e)
  (q:∀h',h'.IsKeyIter it d (i + 1) es.size ep->Heap.SameBut it s.heap h'->Q (some e.key) {s with heap:=h'}):wpAny (model prog w) A (pyNext (.ref it)) Q E s:=by
 obtain ⟨o,t0,tc,td⟩:=id hit
 obtain ⟨od,g0,gx,gd⟩:=id hm
 unfold pyNext
 refine wpAny_bind (wpAny_attempt (wpAny_callSpecial?_slot (name:=Str.ofString "__next__") hit.typeIs F.slot_dict_keyiterator_next (wpAny_call_entry F.slot_dict_keyiterator_next hit.typeIs F.entry_dict_keyiterator_next ?_ (F.args_dict_keyiterator_next_1 _))))
 refine wpAny_bind (wpAny_pure (wpAny_bind (wpAny_bind ?_)))
 first | refine wpAny_bind (wpAny_typeNameOfWhole_keyiter hit.typeIs (wpAny_pure (wpAny_bind (wpAny_fieldsOf t0 td ?_)))) | refine wpAny_bind (wpAny_typeNameOf_keyiter hit.typeIs (wpAny_pure (wpAny_bind (wpAny_fieldsOf t0 td ?_))))
 have own:Builtin.Dict_items.ownsTuple "dict_keyiterator"=false:=by decide
 simp only [own,Bool.false_eq_true,if_false]
 show wpAny _ _ (if (Value.ref d == Value.none)=true then _ else _) _ _ s
 rw [if_neg (show ¬((Value.ref d == Value.none)=true) from Bool.false_ne_true)]
 refine wpAny_bind (wpAny_pure (wpAny_bind (wpAny_dictEntries g0 gd ?_)))
 rw [if_neg (by simp)]
 refine wpAny_bind (wpAny_pure (wpAny_bind (wpAny_dictEpoch g0 gd ?_)))
 rw [if_neg (by simp)]
 refine wpAny_pure ?_
 have lt:i < es.size:=by
  rcases Nat.lt_or_ge i es.size with z | z
  ·exact z
  ·rw [Array.getElem?_eq_none z] at he;cases he
 simp only [show ¬((i:Int) < 0) from by walk_at "o",if_false,Int.toNat_natCast,he]
 refine wpAny_bind ?_
 first | refine wpAny_bind (wpAny_typeNameOfWhole_keyiter hit.typeIs (wpAny_pure (wpAny_bind (wpAny_isOneOf_keyiter hit.typeIs ?_)))) | refine wpAny_bind (wpAny_typeNameOf_keyiter hit.typeIs (wpAny_pure (wpAny_bind (wpAny_isOneOf_keyiter hit.typeIs ?_))))
 show wpAny _ _ (setField (.ref it) 1 (rawInt ((i:Int) + 1)) >>=_) _ _ s
 refine wpAny_bind (wpAny_setField t0 td (by simp) ?_)
 have up:(s.heap.update it (PySem.Obj.mapFields (·.setIfInBounds 1 (rawInt ((i:Int) + 1))))).IsKeyIter it d (i + 1) es.size ep:=⟨_,Heap.get?_update_self _ t0 (Obj.isFreed_of_fields (Obj.data_mapFields td _)),(Obj.cls_mapFields ..).trans tc,by rw [Obj.data_mapFields td];simp [rawInt]⟩
 refine wpAny_bind (wpAny_holding (wpAny_bind (wpAny_isOneOf_keyiter (s:={s with heap:=s.heap.update it (PySem.Obj.mapFields (·.setIfInBounds 1 (rawInt ((i:Int) + 1))))}) up.typeIs ?_)))
 show wpAny _ _ (pure e.key) _ _ _
 exact wpAny_pure (wpAny_pure ⟨_,rfl,wpAny_pure (q _ up (Heap.SameBut.update ..))⟩)
theorem b1s {Q:Option Value->Shared->Prop}(hh:A.handled=none)(hit:s.heap.IsKeyIter it d i es.size ep)(hm:DRaw s.heap d es ep)(he:es[i]? =none)
  (q:∀h',Heap.ExtBut it s.heap h'->Q none {s with heap:=h'}):wpAny (model prog w) A (pyNext (.ref it)) Q E s:=by
 obtain ⟨o,t0,tc,td⟩:=id hit
 obtain ⟨od,g0,gx,gd⟩:=id hm
 unfold pyNext
 refine wpAny_bind (wpAny_attempt (wpAny_callSpecial?_slot (name:=Str.ofString "__next__") hit.typeIs F.slot_dict_keyiterator_next (wpAny_call_entry F.slot_dict_keyiterator_next hit.typeIs F.entry_dict_keyiterator_next ?_ (F.args_dict_keyiterator_next_1 _))))
 refine wpAny_bind (wpAny_pure (wpAny_bind (wpAny_bind ?_)))
 first | refine wpAny_bind (wpAny_typeNameOfWhole_keyiter hit.typeIs (wpAny_pure (wpAny_bind (wpAny_fieldsOf t0 td ?_)))) | refine wpAny_bind (wpAny_typeNameOf_keyiter hit.typeIs (wpAny_pure (wpAny_bind (wpAny_fieldsOf t0 td ?_))))
 have own:Builtin.Dict_items.ownsTuple "dict_keyiterator"=false:=by decide
 simp only [own,Bool.false_eq_true,if_false]
 show wpAny _ _ (if (Value.ref d == Value.none)=true then _ else _) _ _ s
 rw [if_neg (show ¬((Value.ref d == Value.none)=true) from Bool.false_ne_true)]
 refine wpAny_bind (wpAny_pure (wpAny_bind (wpAny_dictEntries g0 gd ?_)))
 rw [if_neg (by simp)]
 refine wpAny_bind (wpAny_pure (wpAny_bind (wpAny_dictEpoch g0 gd ?_)))
 rw [if_neg (by simp)]
 refine wpAny_pure ?_
 simp only [show ¬((i:Int) < 0) from by walk_at "o",if_false,Int.toNat_natCast,he]
 refine wpAny_bind ?_
 first | refine wpAny_bind (wpAny_typeNameOfWhole_keyiter hit.typeIs (wpAny_pure ?_)) | refine wpAny_bind (wpAny_typeNameOf_keyiter hit.typeIs (wpAny_pure ?_))
 show wpAny _ _ (setField (.ref it) 0 .none >>=_) _ _ s
 refine wpAny_bind (wpAny_setField t0 td (by simp) ?_)
 show wpAny _ _ (newExc (.type "StopIteration") [] >>=_) _ _ _
 refine wpAny_bind ?_
 simp only [newExc,newTuple]
 refine wpAny_bind (wpAny_newObj_type ?_ (by size_fits))
 refine wpAny_bind (m:=firstArgMember _ _) (wpAny_of_eq (a:=Value.none) (by first | rfl | (simp only [firstArgMember];rfl)) (wpAny_newObj_type ?_ (by size_fits)))
 simp only [raiseNew]
 refine wpAny_bind (wpAny_handled ?_)
 rw [show A.in1.handled=none from hh]
 refine wpAny_bind (wpAny_pure (wpAny_throw ?_))
 refine wpAny_bind (wpAny_isInstance (b:=true) (T:="StopIteration") ⟨_,Heap.get?_push_size _ rfl,rfl⟩ isSubtype_stop ?_)
 exact wpAny_pure (q _ (((Heap.SameBut.update ..).extBut.push _).push _))
theorem a76 (hh:A.handled=none)(I d:Addr)(hne:d≠I)(es:Array DictEntry)(ep:Nat):
  Walks prog w A I [I,d] [I] es.size (fun i v=>∃e,es[i]? =some e/\v=e.key) (fun i h=>h.IsKeyIter I d i es.size ep/\DRaw h d es ep) where
 sub:=fun b hb=>by simp at hb;simp [hb]
 frame:=fun _ _ _ st hk=>⟨st.1.at fun o e=>hk I (by simp) o e,st.2.on fun o e=>hk d (by simp) o e⟩
 item:=fun i s Q E hi st hQ=>b0z st.1 st.2 (e:=es[i]) (by simp [hi]) fun h' h1 h2=>hQ _ h' s.toks ⟨_,by simp [hi],rfl⟩ ⟨h1,st.2.on fun o e=>(h2.2 d hne).trans e⟩ fun b o hb e=>(h2.2 b (fun z=>hb (by simp [z]))).trans e
 done:=fun s Q E st hQ=>b1s hh st.1 st.2 (by simp) fun h' x=>hQ h' s.toks fun b o hb e=>x b o (fun z=>hb (by simp [z])) e
 self:=fun _ _ _ _ st hQ=>wpAny_pyIter_keyiter st.1 hQ
theorem a7w (ns:(d == sysModules)=false):KdlSrc prog w "dict" d d es.size (fun i v=>∃e,es[i]? =some e/\v=e.key) (fun h=>DRaw h d es ep) where
 type:=fun _ x=>x.typeIs
 there:=fun _ x=>⟨x.lt,x.lt⟩
 keep:=fun _ _ x hk=>x.on fun o e=>hk d (.inl rfl) o e
 notList:=by decide
 notTuple:=by decide
 hint:=fun _ _ _ _ x q=>kdl_hint_dict x.typeIs q
 iter:=fun _ _ hh x=>⟨_,_,(fun _ _ q=>b0v ns x q),a76 hh _ d (Nat.ne_of_lt x.lt) es ep,⟨⟨_,Heap.get?_push_size _ rfl,rfl,rfl⟩,x.on fun o e=>Heap.get?_push_of_some _ e⟩⟩
end
theorem a5l:∀a:List Int,HT.lexLt a a=false
 | []=>rfl
 | x :: a=>by rw [HT.lexLt_cons,if_pos rfl];exact a5l a
theorem a0J:∀a b c:List Int,HT.lexLt a b=true->HT.lexLt b c=true->HT.lexLt a c=true
 | [],[],_,h,_=>by cases h
 | [],_ :: _,[],_,h=>by cases h
 | [],_ :: _,_ :: _,_,_=>rfl
 | _ :: _,[],_,h,_=>by cases h
 | _ :: _,_ :: _,[],_,h=>by cases h
 | x :: a,y :: b,z :: c,h,h'=>by
  rw [HT.lexLt_cons] at h h' ⊢
  by_cases e1:x=y
  ·by_cases e2:y=z
   ·rw [if_pos e1] at h;rw [if_pos e2] at h';rw [if_pos (e1.trans e2)];exact a0J a b c h h'
   ·rw [if_neg e2] at h';rw [if_neg (fun q=>e2 (e1.symm.trans q)),e1];exact h'
  ·rw [if_neg e1] at h
   have h1:=of_decide_eq_true h
   by_cases e2:y=z
   ·rw [if_neg (fun q=>e1 (q.trans e2.symm)),<-e2];exact h
   ·rw [if_neg e2] at h'
    have h2:=of_decide_eq_true h'
    rw [if_neg (by omega)]
    exact decide_eq_true (by omega)
theorem a7L:∀a b c:List Int,HT.lexLt a c=true->HT.lexLt a b=true\/HT.lexLt b c=true
 | [],[],_,h=>.inr h
 | [],_ :: _,_,_=>.inl rfl
 | _ :: _,_,[],h=>by cases h
 | _ :: _,[],_ :: _,_=>.inr rfl
 | x :: a,y :: b,z :: c,h=>by
  rw [HT.lexLt_cons] at h ⊢
  rw [HT.lexLt_cons]
  by_cases e1:x=y
  ·by_cases e2:y=z
   ·rw [if_pos (e1.trans e2)] at h;rw [if_pos e1,if_pos e2];exact a7L a b c h
   ·rw [if_neg (fun q=>e2 (e1.symm.trans q))] at h;rw [if_neg e2,<-e1];exact .inr h
  ·rw [if_neg e1]
   by_cases e2:x=z
   ·have e3:¬y=z:=fun q=>e1 (e2.trans q.symm)
    rw [if_neg e3]
    rcases Int.lt_or_gt_of_ne e1 with q | q
    ·exact .inl (decide_eq_true q)
    ·exact .inr (decide_eq_true (by omega))
   ·rw [if_neg e2] at h
    have h1:=of_decide_eq_true h
    rcases Int.lt_or_gt_of_ne e1 with q | q
    ·exact .inl (decide_eq_true q)
    ·rw [if_neg (show ¬y=z by omega)];exact .inr (decide_eq_true (by omega))
theorem a2N:∀a b:List Int,HT.lexLt a b=false->HT.lexLt b a=false->a=b
 | [],[],_,_=>rfl
 | [],_ :: _,h,_=>by cases h
 | _ :: _,[],_,h=>by cases h
 | x :: a,y :: b,h,h'=>by
  rw [HT.lexLt_cons] at h h'
  by_cases e:x=y
  ·rw [if_pos e] at h;rw [if_pos e.symm] at h';rw [e,a2N a b h h']
  ·rw [if_neg e] at h;rw [if_neg (fun q=>e q.symm)] at h'
   have h1:=of_decide_eq_false h
   have h2:=of_decide_eq_false h'
   walk_at "o"
def lexO:KeyOrd:=⟨List Int,HT.lexLt,a5l,a0J,a7L,a2N⟩
inductive Tups (h:Heap):List Value->List (List Int)->Prop where
 | nil:Tups h [] []
 | cons {a:Addr} {its:Array Value} {k:List Int} {vs:List Value} {ks:List (List Int)} (t:IsTup h a its) (i:IntsAre its.toList k) (ne:k≠[]) (r:Tups h vs ks):Tups h (.ref a :: vs) (k :: ks)
theorem Tups.len {h:Heap}{vs:List Value}{ks:List (List Int)}(t:Tups h vs ks):vs.length=ks.length:=by
 induction t with
 | nil=>rfl
 | cons _ _ _ _ ih=>simp [ih]
theorem Tups.on {h h':Heap}{vs:List Value}{ks:List (List Int)}(t:Tups h vs ks)(k:∀a o,(.ref a)∈vs->h.get? a=some o->h'.get? a=some o):Tups h' vs ks:=by
 induction t with
 | nil=>exact .nil
 | cons x i ne r ih=>
  obtain ⟨o,e,c⟩:=x
  exact .cons ⟨o,k _ o List.mem_cons_self e,c⟩ i ne (ih fun a o m e=>k a o (List.mem_cons_of_mem _ m) e)
theorem Tups.at {h:Heap}{vs:List Value}{ks:List (List Int)}(t:Tups h vs ks):∀{i:Nat},i < vs.length->∃a its,vs.getD i .none= .ref a/\IsTup h a its/\IntsAre its.toList (ks.getD i [])/\ks.getD i []≠[]:=by
 induction t with
 | nil=>intro i hi;simp at hi
 | cons x i ne r ih=>
  intro j hj
  cases j with
  | zero=>exact ⟨_,_,rfl,x,i,ne⟩
  | succ j=>exact ih (i:=j) (by simpa using hj)
section
variable {prog:Program}{w:World}{A:Around}{E:Value->Shared->Prop}{s:Shared}{h₀:Heap}{L D:Addr}{m:Str->Option Value}{vs:List Value}{ks:List (List Int)}
theorem a87 {fin:Bool}{Q:Bool->Shared->Prop}:∀{us ws:List Value} {ns ms:List Int} {i:Nat},IntsAre us ns->IntsAre ws ms->fin=decide (us.length < ws.length)->
  Q (HT.lexLt ns ms) s->KatLex prog w A true fin Q (us.zip ws) i s
 | [],[],_,_,i,h1,h2,ef,q=>by
  cases h1;cases h2
  rw [List.zip_nil_left]
  exact kat_nil (by rw [ef];exact q)
 | [],_ :: _,_,_,i,h1,h2,ef,q=>by
  cases h1;cases h2
  rw [List.zip_nil_left]
  exact kat_nil (by rw [ef];simpa [HT.lexLt] using q)
 | _ :: _,[],_,_,i,h1,h2,ef,q=>by
  cases h1;cases h2
  rw [List.zip_nil_right]
  exact kat_nil (by rw [ef];simpa [HT.lexLt] using q)
 | _ :: us,_ :: ws,_,_,i,h1,h2,ef,q=>by
  cases h1 with
  | cons a t h1=>
   cases h2 with
   | cons c u h2=>
    rw [List.zip_cons_cons]
    rw [HT.lexLt_cons] at q
    refine kat_cons (SeqAt.EqAt.int_int a t c u prog w _ _ ?_)
    by_cases e:a=c
    ·rw [if_pos e] at q
     rw [show (a == c)=true by simpa using e]
     exact kat_yes (a87 h1 h2 (by rw [ef];simp) q)
    ·rw [if_neg e] at q
     rw [show (a == c)=false by simpa using e]
     refine kat_no ?_
     cases hb:(true && i == 0) with
     | true=>exact oneLt_int q
     | false=>exact kat_one _ _ (lt_int q)
theorem katTups {h:Heap}{vs:List Value}{ks:List (List Int)}(t:Tups h vs ks):∃fs,KatTups h vs fs/\fs.length=ks.length/\∀v∈fs,∃(i:Int) (u:Tok),v= .int i u:=by
 induction t with
 | nil=>exact ⟨[],.nil,rfl,fun v hv=>by cases hv⟩
 | @cons a its k vs ks x i ne r ih=>
  obtain ⟨fs,h1,h2,h3⟩:=ih
  obtain ⟨o,e,c,n,d⟩:=x
  obtain ⟨its⟩:=its
  cases i with
  | nil=>exact absurd rfl ne
  | cons n0 t0 r'=>exact ⟨_,.cons e c d (by rfl) h1,by simp [h2],fun v hv=>(List.mem_cons.mp hv).elim (fun z=>⟨_,_,z⟩) (h3 v)⟩
theorem b0X {s:Shared}(T:Tups s.heap vs ks)(i j:Nat)(C:Bool->Shared->Prop)(hi:i < vs.length)(hj:j < vs.length)(q:C (HT.lexLt (ks.getD i []) (ks.getD j [])) s):kas_ask prog w A (tuples' true) vs i j C s:=by
 obtain ⟨a,its,ea,⟨o,h1,h2,n,h3⟩,ia,_⟩:=T.at hi
 obtain ⟨b,its2,eb,⟨o2,g1,g2,n2,g3⟩,ib,_⟩:=T.at hj
 unfold kas_ask
 rw [ea,eb]
 exact kat_lt h1 h3 g1 g3 (a87 ia ib (by simp) q)
theorem a8k {Q:Value->Shared->Prop}(F:Fr h₀ L s.heap m)(hD:s.heap.get? D=some (listOf vs.toArray 0))(hDL:D≠L)(hD0:h₀.get? D=none)(T:Tups s.heap vs ks)(nD:Value.ref D∉vs)(nL:Value.ref L∉vs)(k0:∀b o,h₀.get? b=some o->s.heap.get? b=some o)(h2:2<=vs.length)(h64:vs.length < 64)
  (q:∀(h':Heap) (p:Array Nat) (e:Nat),Fr h₀ L h' m->(∀b o,b≠L->b≠D->s.heap.get? b=some o->h'.get? b=some o)->h'.get? D=some (listOf (p.toList.map fun i=>vs.getD i .none).toArray e)->PB vs.length p->SoTo (O:=lexO) (fun i=>ks.getD i []) p vs.length->Q .none {s with heap:=h'}):
  wpAny (model prog w) A (call (.builtin "list.sort") [.ref D]) Q E s:=by
 have kept:=fun {h':Heap} (F':Fr h₀ L h' m) (N':News h₀ L h' (L2.rest h₀ s.heap L D))=>L2.a4S (d:=D) k0 F' N'
 refine kat_lsort (vs:=vs) F (L2.b11 hDL hD0 hD) (.head L2.a7e) (by simp) h2 h64 fun e1 h' F' N'=>?_
 have K':=kept F' fun p hp=>N' p (List.mem_cons_of_mem _ hp)
 have T':Tups h' vs ks:=T.on fun a o ma e=>K' a o (fun z=>nL (z▸ma)) (fun z=>nD (z▸ma)) e
 obtain ⟨fs,f1,f2,f3⟩:=katTups T'
 refine kat_kind (s:={s with heap:=h'}) (T:=.type "int") f1 (by rw [f2,<-T.len];walk_at "o") (fun v hv=>by obtain ⟨i,u,rfl⟩:=f3 v hv;exact Looks.of_pure rfl) (by decide) ?_
 have tb:(Value.type "int" != Value.type "tuple")=true:=by decide
 rw [tb]
 refine a7h (s:={s with heap:=h'}) (n:=vs.length) (lt:=ltK (O:=lexO) fun i=>ks.getD i []) (fun i j C hi hj c=>b0X (s:={s with heap:=h'}) T' i j C hi hj c) _ (a9N (by walk_at "o") fun p hp hs=>?_)
 refine KasFin.intro F' N' (.head L2.a7e) fun h3 c F3 N3=>?_
 exact q h3 p c F3 (kept F3 fun p hp=>N3 p (List.mem_cons_of_mem _ hp)) (N3 _ List.mem_cons_self).1 hp hs
theorem a6B {Q:Value->Shared->Prop}(hD:s.heap.get? D=some (listOf vs.toArray 0))(h2:vs.length < 2)
  (q:∀(h':Heap) (e:Nat),(∀b o,b≠D->s.heap.get? b=some o->h'.get? b=some o)->h'.get? D=some (listOf vs.toArray e)->Q .none {s with heap:=h'}):
  wpAny (model prog w) A (call (.builtin "list.sort") [.ref D]) Q E s:=by
 refine wpAny_call_entry slot_list_sort ⟨_,hD,rfl⟩ entry_list_sort ?_ (args_list_sort _)
 rw [list_sort_plain]
 have lt:D < s.heap.objs.size:=Heap.lt_size hD
 refine wpAny_bind (listItems_at hD rfl (wpAny_bind (listUpdate_at hD rfl ?_)))
 obtain ⟨e1,k1⟩:∃e1,(s.heap.update D (PySem.Obj.mapSeq fun _=> #[])).get? D=some (seqObj "list" #[] e1):=⟨_,get?_update_seq hD (fun _=> #[])⟩
 refine wpAny_bind (seqEpoch_at k1 rfl (wpAny_bind (wpAny_newTuple (wpAny_bind (wpAny_newList (wpAny_holding ?_))))))
 have k2:(((s.heap.update D (PySem.Obj.mapSeq fun _=> #[])).push (seqObj "tuple" vs.toArray 0)).push (seqObj "list" #[] 0)).get? D=some (seqObj "list" #[] e1):=Heap.get?_push_of_some _ (Heap.get?_push_of_some _ k1)
 show wpAny (model prog w) _ _ _ E {s with heap:=((s.heap.update D (PySem.Obj.mapSeq fun _=> #[])).push (seqObj "tuple" vs.toArray 0)).push (seqObj "list" #[] 0)}
 dsimp only
 have sz:vs.toArray.size < 2:=by simpa using h2
 rw [if_pos sz,if_pos sz]
 refine wpAny_bind (wpAny_pure ?_)
 rw [StateT.run_pure]
 refine wpAny_bind (wpAny_pure ?_)
 dsimp only
 have out:(arrOf (SortSt.mk' general' (vs.toArray.zip vs.toArray) #[] 7 none)).map (·.2)=vs.toArray:=by
  show (vs.toArray.zip vs.toArray).map (·.2)=vs.toArray
  have e:(vs.toArray.zip vs.toArray)=(vs.zip vs).toArray:=by simp
  rw [e,List.map_toArray]
  congr 1
  exact List.map_snd_zip (Nat.le_refl _)
 rw [out]
 refine wpAny_bind (seqEpoch_at k2 rfl (wpAny_bind (listUpdate_at k2 rfl ?_ (hsz2:=by rw [sizeLine_eq];walk_at "o"))))
 simp only [bne_self_eq_false,Bool.false_eq_true,if_false]
 obtain ⟨e2,k3⟩:∃e2,((((s.heap.update D (PySem.Obj.mapSeq fun _=> #[])).push (seqObj "tuple" vs.toArray 0)).push (seqObj "list" #[] 0)).update D (PySem.Obj.mapSeq fun _=>vs.toArray)).get? D=some (seqObj "list" vs.toArray e2):=⟨_,get?_update_seq k2 (fun _=>vs.toArray)⟩
 refine wpAny_pure ⟨_,rfl,q _ e2 (fun b o hb e=>?_) k3⟩
 rw [Heap.get?_update_ne _ _ _ _ hb]
 refine Heap.get?_push_of_some _ (Heap.get?_push_of_some _ ?_)
 rw [Heap.get?_update_ne _ _ _ _ hb]
 exact e
end
abbrev kleB (a b:List Int):Bool:=!HT.lexLt b a
def sortK (ks:List (List Int)):List (List Int):=ks.mergeSort kleB
theorem G1 (ks:List (List Int)):(sortK ks).Perm ks:=List.mergeSort_perm ks _
theorem X1 (ks:List (List Int)):(sortK ks).Pairwise fun a b=>HT.lexLt b a=false:=by
 have:=List.pairwise_mergeSort (le:=kleB) (fun a b c h1 h2=>by
  simp only [kleB,Bool.not_eq_true'] at *
  exact KeyOrd.kle_trans (O:=lexO) h1 h2) (fun a b=>by
  simp only [kleB,Bool.or_eq_true,Bool.not_eq_true']
  cases q:HT.lexLt b a with
  | false=>exact .inl rfl
  | true=>exact .inr (KeyOrd.klt_asymm (O:=lexO) q)) ks
 exact this.imp fun h=>by simpa [kleB] using h
theorem a30:∀{l1 l2:List (List Int)},l1.Perm l2->(l1.Pairwise fun a b=>HT.lexLt b a=false)->(l2.Pairwise fun a b=>HT.lexLt b a=false)->l1=l2
 | [],l2,h,_,_=>(List.nil_perm.mp h).symm
 | a :: l1,[],h,_,_=>by have:=h.length_eq;simp at this
 | a :: l1,b :: l2,h,h1,h2=>by
  have h1':=List.pairwise_cons.mp h1
  have h2':=List.pairwise_cons.mp h2
  have e:a=b:=by
   have ma:a∈b :: l2:=h.mem_iff.mp List.mem_cons_self
   have mb:b∈a :: l1:=h.mem_iff.mpr List.mem_cons_self
   rcases List.mem_cons.mp ma with z | z
   ·exact z
   ·rcases List.mem_cons.mp mb with y | y
    ·exact y.symm
    ·exact a2N a b (h2'.1 a z) (h1'.1 b y)
  subst e
  rw [a30 ((List.perm_cons a).mp h) h1'.2 h2'.2]
inductive Al (K:PySem.W.Frag) (H:Hp):List Addr->List (List Int)->Prop where
 | nil:Al K H [] []
 | cons {a:Addr} {k:List Int} {as:List Addr} {ks:List (List Int)} (q:SqT K H a (k.map V.int)) (r:Al K H as ks):Al K H (a :: as) (k :: ks)
section
variable {K:PySem.W.Frag}{H:Hp}
theorem Al.len {as:List Addr}{ks:List (List Int)}(h:Al K H as ks):as.length=ks.length:=by
 induction h with
 | nil=>rfl
 | cons _ _ ih=>simp [ih]
theorem Al.at {as:List Addr}{ks:List (List Int)}(h:Al K H as ks):∀{i:Nat},i < as.length->SqT K H (as.getD i 0) ((ks.getD i []).map V.int):=by
 induction h with
 | nil=>intro i hi;simp at hi
 | cons q r ih=>
  intro i hi
  cases i with
  | zero=>exact q
  | succ i=>exact ih (i:=i) (by simpa using hi)
theorem Al.pick {as:List Addr}{ks:List (List Int)}(h:Al K H as ks):∀{l:List Nat},(∀i∈l,i < as.length)->Al K H (l.map fun i=>as.getD i 0) (l.map fun i=>ks.getD i [])
 | [],_=>.nil
 | i :: l,hl=>.cons (h.at (hl i List.mem_cons_self)) (h.pick fun j hj=>hl j (List.mem_cons_of_mem _ hj))
theorem Al.den {O:Av}{as:List Addr}{ks:List (List Int)}(h:Al K H as ks):DenL K O H (ks.map tupI) (as.map V.ref):=by
 induction h with
 | nil=>exact j9
 | cons q r ih=>
  refine j8 ?_ ih
  unfold tupI
  rw [Den]
  exact ⟨_,_,rfl,q,K6 _⟩
end
theorem a1n {K:PySem.W.Frag}{O:Av}{H:Hp}:∀{ds:List D} {ks:List (List Int)} {vs:List V},tupsOf ds=some ks->DenL K O H ds vs->∃as,vs=as.map V.ref/\Al K H as ks
 | [],ks,vs,e,l=>by rw [DenL] at l;subst l;cases e;exact ⟨[],rfl,.nil⟩
 | d :: ds,ks,vs,e,l=>by
  rw [DenL] at l
  obtain ⟨v,r,rfl,h,l⟩:=l
  cases d <;> simp only [tupsOf] at e <;> try cases e
  rename_i xs
  cases e1:intsOf xs with
  | none=>rw [e1] at e;cases e
  | some k=>
   rw [e1] at e
   simp only [Option.bind_some] at e
   cases e2:tupsOf ds with
   | none=>rw [e2] at e;cases e
   | some ks'=>
    rw [e2] at e;cases e
    obtain ⟨as,rfl,a⟩:=a1n e2 l
    rw [w8 e1,Den] at h
    obtain ⟨p,us,rfl,q,lu⟩:=h
    rw [v3 lu] at q
    exact ⟨p :: as,rfl,.cons q a⟩
section
variable {X:Cx}{pins:List (Addr×PySem.Obj)}{σ:L2.St}{H:Hp}{s:Shared}
theorem Al.tups {as:List Addr}{ks:List (List Int)}(I:Inv X pins σ H s)(h:Al X.K H as ks)(ne:∀k∈ks,k≠[]):Tups s.heap (as.map Value.ref) ks:=by
 induction h with
 | nil=>exact .nil
 | cons q r ih=>
  obtain ⟨its,r1,p1,_⟩:=I.tuple q
  exact .cons p1 (P5 r1) (ne _ List.mem_cons_self) (ih fun k hk=>ne k (List.mem_cons_of_mem _ hk))
theorem a2e:∀as:List Addr,Vals (as.map V.ref) (as.map Value.ref)
 | []=>.nil
 | a :: as=>.cons rfl (a2e as)
theorem X5:∀{as:List Addr} {us:List Value},Vals (as.map V.ref) us->us=as.map Value.ref
 | [],us,r=>by cases r;rfl
 | a :: as,us,r=>by
  cases r with
  | cons h t=>cases h;rw [X5 t];rfl
theorem a2c {A:Around}{E:Value->Shared->Prop}{as:List Addr}{ks:List (List Int)}{Q:VK}(I:Inv X pins σ H s)(a:Al X.K H as ks)(ne:∀k∈ks,k≠[])(h64:ks.length < 64)
  (q:∀l bs,H l=none->Al X.K H bs (sortK ks)->Q (.ref l) (upd H l (.lst (bs.map V.ref)))):
  wpAny (model X.prog X.w) A (call (.builtin "list.sort") [.ref s.heap.objs.size]) (fun _ s'=>EP X pins σ Q (.ref s.heap.objs.size) s') E {s with heap:=s.heap.push (PySem.W.listOf (as.map Value.ref).toArray 0)}:=by
 have I2:Inv X pins σ H {s with heap:=s.heap.push (PySem.W.listOf (as.map Value.ref).toArray 0)}:=I.kept (t':=s.toks) fun b o e=>Heap.get?_push_of_some _ e
 obtain ⟨m,F⟩:=I2.fr
 have T:=a.tups I2 ne
 have fr:H s.heap.objs.size=none:=I.hok.fresh (Nat.le_refl _)
 have hD:(s.heap.push (PySem.W.listOf (as.map Value.ref).toArray 0)).get? s.heap.objs.size=some (PySem.W.listOf (as.map Value.ref).toArray 0):=Heap.get?_push_size _ rfl
 have dL:s.heap.objs.size≠X.env.locals:=Nat.ne_of_gt I.lt
 have al:=a.len
 have fin:∀(h':Heap) (p:List Nat) (ec:Nat),Fr X.base X.env.locals h' m->(∀b o,b≠X.env.locals->b≠s.heap.objs.size->(s.heap.push (PySem.W.listOf (as.map Value.ref).toArray 0)).get? b=some o->h'.get? b=some o)->
   h'.get? s.heap.objs.size=some (PySem.W.listOf (p.map fun i=>Value.ref (as.getD i 0)).toArray ec)->p.Perm (List.range ks.length)->((p.map fun i=>ks.getD i []).Pairwise fun a b=>HT.lexLt b a=false)->EP X pins σ Q (.ref s.heap.objs.size) {s with heap:=h'}:=fun h' p ec F' kp hD' pp ps=>by
  have lt:∀i∈p,i < as.length:=fun i hi=>by have:=pp.mem_iff.mp hi;rw [al];simpa using this
  have ek:(p.map fun i=>ks.getD i [])=sortK ks:=by
   refine a30 (((pp.map _).trans ?_).trans (G1 ks).symm) ps (X1 ks)
   have:(List.range ks.length).map (fun i=>ks.getD i [])=ks:=by
    apply List.ext_getElem?
    intro i
    by_cases hi:i < ks.length
    ·rw [List.getElem?_map,List.getElem?_range hi];simp [hi]
    ·rw [List.getElem?_eq_none (by simp;walk_at "o"),List.getElem?_eq_none (by walk_at "o")]
   rw [this]
  have pk:=a.pick lt
  rw [ek] at pk
  have kept:∀b o,b≠X.env.locals->s.heap.get? b=some o->h'.get? b=some o:=fun b o hb e=>kp b o hb (Nat.ne_of_lt (Heap.lt_size e)) (Heap.get?_push_of_some _ e)
  have nD:∀b o,s.heap.get? b=some o->b≠s.heap.objs.size:=fun b o e=>Nat.ne_of_lt (Heap.lt_size e)
  have nH:∀b u,H b=some u->b≠s.heap.objs.size:=fun b u e=>l6 e fr
  have nLH:∀b u,H b=some u->b≠X.env.locals:=fun b u e z=>by rw [z,I.free] at e;cases e
  refine ⟨.ref s.heap.objs.size,upd H s.heap.objs.size (.lst ((p.map fun i=>as.getD i 0).map V.ref)),?_,rfl,q _ _ fr pk⟩
  refine I.step (g':=s.gens) (t':=s.toks) (d':=s.drawn) (ch:=[]) (fun _ z=>nomatch z) (fun b o hL _ _ e _=>kept b o hL e) (fun b o hL _ _ e _=>⟨o.slots,kept b o hL e⟩) (fun b o _ e n=>by rw [g7 (nD b o e)];exact n) (fun b o _ e=>?_)
   (fun b xs e=>by rw [g7 (nH _ _ e)];exact e) (fun b o u e=>by rw [g7 (nH _ _ e)];exact e) (fun b ps e=>⟨#[],by rw [g7 (nH _ _ e),e];simp⟩) (fun m' hm=>?_) (fun b u e=>?_) I.bare
  ·by_cases hL:b=X.env.locals
   ·obtain ⟨o',_,_,e',_⟩:=F'.ns
    rw [hL];exact ⟨o',e'⟩
   ·exact ⟨o,kept b o hL e⟩
  ·have e1:m'=m:=by
    have z1:(s.heap.push (PySem.W.listOf (as.map Value.ref).toArray 0)).Ns X.env.locals m':=by
     obtain ⟨o,es,ep,e,r⟩:=hm
     exact ⟨o,es,ep,Heap.get?_push_of_some _ e,r⟩
    rw [z1.eq_nsMap,F.ns.eq_nsMap]
   rw [e1];exact F'.ns
  ·by_cases hb:b=s.heap.objs.size
   ·subst hb
    rw [m5] at e;cases e
    refine ⟨?_,(p.map fun i=>as.getD i 0).map Value.ref,ec,a2e _,?_⟩
    ·rw [List.length_map,List.length_map,pp.length_eq,List.length_range,sizeLine_eq];walk_at "o"
    ·rw [hD'];simp [List.map_map,Function.comp_def]
   ·rw [g7 hb] at e
    refine (I.hok b u e).stay (fun c v hc z=>kept c v (by
     rcases hc with w | w
     ·rw [w];exact nLH b u e
     ·exact nLH c _ w) z) (fun c z=>by rw [g7 (nH _ _ z)];exact z) fun c ys z=>by rw [g7 (nH _ _ z)];exact z
 have gr:∀p:List Nat,(∀i∈p,i < as.length)->(p.map fun i=>(as.map Value.ref).getD i .none)=p.map fun i=>Value.ref (as.getD i 0):=fun p hp=>List.map_congr_left fun i hi=>by simp [hp i hi]
 have tp:∀{vs:List Value} {ks:List (List Int)},Tups s.heap vs ks->∀a,Value.ref a∈vs->∃its,IsTup s.heap a its:=fun {vs ks} t=>by
  induction t with
  | nil=>intro a z;cases z
  | cons x i ne r ih=>
   intro a z
   rcases List.mem_cons.mp z with z | z
   ·cases z;exact ⟨_,x⟩
   ·exact ih a z
 have tp:=tp (a.tups I ne)
 by_cases h2:ks.length < 2
 ·refine a6B hD (by rw [List.length_map,al];exact h2) fun h' e kp hD'=>fin h' (List.range ks.length) e ⟨?_,fun b o eb=>kp b o (fun z=>?_) (F.keep b o eb),F.above⟩ (fun b o _ hb eb=>kp b o hb eb) ?_ (List.Perm.refl _) ?_
  ·obtain ⟨o,es,ep,e1,r⟩:=F.ns
   exact ⟨o,es,ep,kp _ o (Ne.symm dL) e1,r⟩
  ·have:=I.bk b o eb
   exact absurd (Heap.lt_size this) (by rw [z];exact Nat.lt_irrefl _)
  ·rw [hD',<-al]
   congr 3
   apply List.ext_getElem?
   intro i
   by_cases hi:i < as.length
   ·rw [List.getElem?_map,List.getElem?_map,List.getElem?_range hi];simp [hi]
   ·rw [List.getElem?_eq_none (by simp;walk_at "o"),List.getElem?_eq_none (by simp;walk_at "o")]
  ·match ks,h2 with
   | [],_=>exact .nil
   | [k],_=>exact List.pairwise_singleton _ _
 ·refine a8k F hD dL ?_ T (fun z=>?_) (fun z=>?_) F.keep (by rw [List.length_map,al];walk_at "o") (by rw [List.length_map,al];walk_at "o") fun h' p e F' kp hD' hp hs=>?_
  ·cases q0:X.base.get? s.heap.objs.size with
   | none=>rfl
   | some o=>exact absurd (Heap.lt_size (I.bk _ o q0)) (Nat.lt_irrefl _)
  ·obtain ⟨its,o,e1,_⟩:=tp _ z
   exact absurd (Heap.lt_size e1) (Nat.lt_irrefl _)
  ·obtain ⟨its,o,e1,_,n,d1⟩:=tp _ z
   obtain ⟨m2,⟨o2,es,ep,e2,d2,_⟩,_⟩:=id I.loc
   rw [e1] at e2;cases e2
   rw [d1] at d2;cases d2
  ·have pp:p.toList.Perm (List.range ks.length):=by
    have:=Array.perm_iff_toList_perm.mp hp.perm
    rw [List.length_map,al] at this
    simpa using this
   have sz:p.size=ks.length:=by rw [hp.size,List.length_map,al]
   refine fin h' p.toList e F' kp ?_ pp ?_
   ·rw [hD',gr p.toList fun i hi=>by have:=pp.mem_iff.mp hi;rw [al];simpa using this]
   ·rw [List.pairwise_iff_getElem]
    intro i j hi hj hij
    have hj':j < p.size:=by simpa using hj
    have hi':i < p.size:=by simpa using hi
    have z:=hs i j (Nat.le_of_lt hij) (by rw [List.length_map,al,<-sz];exact hj')
    simp only [List.getElem_map,Array.getElem_toList]
    unfold Ky at z
    have g1:p.getD i 0=p[i]:=by simp [Array.getD,hi']
    have g2:p.getD j 0=p[j]:=by simp [Array.getD,hj']
    rw [g1,g2] at z
    exact z
end
def SrcT (K:PySem.W.Frag) (H:Hp) (p:Addr) (ks:List (List Int)):Prop:=(∃as,SqL K H p (as.map V.ref)/\Al K H as ks)\/∃vs,H p=some (.dT ((ks.map fun k=>k.map Sum.inl).zip vs))/\ks.length=vs.length
theorem b2K (k:List Int):(k.map (Sum.inl:Int->Key)).map kV=k.map V.int:=by rw [List.map_map];rfl
theorem b2n {K:PySem.W.Frag}{H:Hp}:∀{ks:List (List Int)} {vs:List V} {xs:List (List Key×Addr×Value)},ks.length=vs.length->KT H ((ks.map fun k=>k.map Sum.inl).zip vs) xs->Al K H (xs.map (·.2.1)) ks
 | [],vs,xs,hl,r=>by
  rw [List.map_nil,List.zip_nil_left] at r
  cases r;exact .nil
 | k :: ks,[],xs,hl,r=>by simp at hl
 | k :: ks,v :: vs,xs,hl,r=>by
  rw [List.map_cons,List.zip_cons_cons] at r
  cases r with
  | cons h t=>
   obtain ⟨h1,h2,_⟩:=h
   rw [List.map_cons]
   refine .cons (.inl (.inl ?_)) (b2n (by simpa using hl) t)
   rw [h2,b2K]
section
variable {X:Cx}{e:Expr}{pos p:Pos}{fa:FA}
theorem a1J (hc:X.calm=true):CallR X (.builtin "sorted") (fun xs H Q=>∃p ks,xs=[.ref p]/\SrcT X.K H p ks/\ks.length < 64/\(∀k∈ks,k≠[])/\∀l bs,H l=none->Al X.K H bs (sortK ks)->Q (.ref l) (upd H l (.lst (bs.map V.ref)))):=by
 intro pins s σ H xs us Q I r h
 obtain ⟨p,ks,rfl,src,h64,ne,q⟩:=h
 obtain ⟨u,rfl,ru⟩:=vals1 r
 cases ru
 refine Calls.call_function_entry kind_sorted plain_sorted entry_sorted (args_sorted1 _) ?_
 unfold Builtin.«sorted»
 refine wpAny_bind (m:=checkCount "sorted" 1 1 _) (wpAny_pure ?_)
 rcases src with ⟨as,hq,al⟩ | ⟨vs,hq,hl⟩
 ·have len:=al.len
  obtain ⟨its,rv,⟨o,m,h1,h2,_,h4⟩,hz⟩:=I.list hq
  have ei:=X5 rv
  subst ei
  have hL:s.heap.IsList p (as.map Value.ref).toArray:=⟨o,h1,h2,m,h4⟩
  have sz:(as.map Value.ref).length<=sizeLine:=by rw [List.length_map,len,sizeLine_eq];walk_at "o"
  refine wpAny_bind (collect_list hL ?_ sz)
  refine wpAny_bind (wpAny_newList ?_ sz)
  have I1:Inv X pins σ H {s with heap:=(s.heap.push (seqObj "list" #[] 0)).update s.heap.objs.size (PySem.Obj.mapSeq (· ++ (as.map Value.ref).toArray))}:=I.kept (t':=s.toks) fun b o e=>by
   rw [Heap.get?_update_ne _ _ _ _ (Nat.ne_of_lt (Heap.lt_size e))];exact Heap.get?_push_of_some _ e
  refine wpAny_bind (wpAny_holding (wpAny_mono (a2c I1 al ne h64 q) (fun _ s' x=>?_) fun _ _ z=>z))
  exact wpAny_pure ⟨_,rfl,x⟩
 ·obtain ⟨z,hs,xs,rel,o,es,ep,h1,h2,h3,h4,h5⟩:=(show ObjOk X.prog X.w H s.heap p (.dT ((ks.map fun k=>k.map Sum.inl).zip vs)) from I.hok p _ hq)
  have al:=b2n (K:=X.K) hl rel
  have len:=al.len
  have sz:es.size=ks.length:=by rw [<-len,List.length_map,<-Array.length_toList,h4,List.length_map]
  have szl:es.size<=sizeLine:=by rw [sz,sizeLine_eq];walk_at "o"
  refine wpAny_bind (PySem.W.kdu_collect (a7w (es:=es) (ep:=ep) hs) (show X.A.in1.handled=none from I.ok.hd hc) ⟨o,h1,h2,h3⟩ szl fun h' tk acc hk hacc=>?_)
  have ea:acc.toList=(xs.map (·.2.1)).map Value.ref:=by
   have e0:(xs.map (·.2.1)).map Value.ref=es.toList.map (·.key):=by rw [h4,List.map_map,List.map_map];rfl
   rw [e0]
   apply List.ext_getElem?
   intro i
   rw [Array.getElem?_toList,List.getElem?_map,Array.getElem?_toList]
   by_cases hi:i < es.size
   ·have hi2:i < acc.size:=by rw [hacc.1];exact hi
    obtain ⟨e,he,hv⟩:=hacc.2 i acc[i] (by simp [hi2])
    rw [he,Array.getElem?_eq_getElem hi2,hv];rfl
   ·rw [Array.getElem?_eq_none (by rw [hacc.1];walk_at "o"),Array.getElem?_eq_none (by walk_at "o")];rfl
  rw [ea]
  refine wpAny_bind (wpAny_newList ?_ (by rw [List.length_map,len,<-sz];exact szl))
  have I1:Inv X pins σ H {s with heap:=h',toks:=tk}:=I.kept (t':=tk) hk
  refine wpAny_bind (wpAny_holding (wpAny_mono (a2c I1 al ne h64 q) (fun _ s' x=>?_) fun _ _ z=>z))
  exact wpAny_pure ⟨_,rfl,x⟩
def inlK:List Key->Option (List Int)
 | []=>some []
 | Sum.inl i :: k=>(inlK k).map fun j=>i :: j
 | Sum.inr _ :: _=>none
def inlKs:List (List Key)->Option (List (List Int))
 | []=>some []
 | k :: ks=>(inlK k).bind fun j=>(inlKs ks).map fun js=>j :: js
theorem a7J:∀{k:List Key} {j:List Int},inlK k=some j->k=j.map Sum.inl
 | [],j,e=>by cases e;rfl
 | Sum.inr _ :: _,j,e=>by cases e
 | Sum.inl i :: k,j,e=>by
  rw [inlK] at e
  cases e1:inlK k with
  | none=>rw [e1] at e;cases e
  | some js=>rw [e1] at e;cases e;rw [List.map_cons,<-a7J e1]
theorem a5K:∀{ks:List (List Key)} {js:List (List Int)},inlKs ks=some js->ks=js.map fun k=>k.map Sum.inl
 | [],js,e=>by cases e;rfl
 | k :: ks,js,e=>by
  rw [inlKs] at e
  cases e1:inlK k with
  | none=>rw [e1] at e;cases e
  | some j=>
   cases e2:inlKs ks with
   | none=>rw [e1,e2] at e;cases e
   | some js'=>rw [e1,e2] at e;cases e;rw [List.map_cons,<-a5K e2,<-a7J e1]
def keysOf:D->Option (List (List Int))
 | .dT ks _=>inlKs ks
 | .lst ds=>tupsOf ds
 | _=>none
def gSortT (d:D):Option W:=(keysOf d).bind fun ks=>if ks.length < 64/\(∀k∈ks,k≠[]) then some (.o (.lst ((sortK ks).map tupI))) else none
def gSort (d:D):Option W:=match gSortI d with
 | some w=>some w
 | none=>gSortT d
theorem a6o {K:PySem.W.Frag}{A:Av}{H:Hp}{d:D}{ks:List (List Int)}{v:V}(e:keysOf d=some ks)(h:DenR K A H d v):∃p,v= .ref p/\SrcT K H p ks:=by
 cases d with
 | dT js xs=>
  obtain ⟨a,vs,rfl,hq,hl,l⟩:=h
  have ej:=a5K e
  subst ej
  exact ⟨a,rfl,.inr ⟨vs,hq,by rw [<-c7 l,<-hl,List.length_map]⟩⟩
 | lst ds=>
  obtain ⟨a,vs,rfl,hq,l⟩:=h
  obtain ⟨as,rfl,al⟩:=a1n e l
  exact ⟨a,rfl,.inl ⟨as,hq,al⟩⟩
 | _=>cases e
theorem a9Z:PrA X (k1 gSortT) (fun xs H Q=>∃p ks,xs=[.ref p]/\SrcT X.K H p ks/\ks.length < 64/\(∀k∈ks,k≠[])/\∀l bs,H l=none->Al X.K H bs (sortK ks)->Q (.ref l) (upd H l (.lst (bs.map V.ref)))):=pr1 fun A d w v H Q e h q=>by
 unfold gSortT at e
 cases e1:keysOf d with
 | none=>rw [e1] at e;cases e
 | some ks=>
  rw [e1] at e
  simp only [Option.bind_some] at e
  split at e
  ·rename_i hl
   cases e
   obtain ⟨a,rfl,src⟩:=a6o e1 h
   exact ⟨a,ks,rfl,src,hl.1,hl.2,fun l bs hp al=>q _ _ (k5 hp _) (C3 hp al.den)⟩
  ·cases e
theorem a1w:PrA X (k1 gSort) (fun xs H Q=>(∃(p:Addr) (ns:List Int),xs=[.ref p]/\SqL X.K H p (ns.map V.int)/\ns.length < 64/\∀l,H l=none->Q (.ref l) (upd H l (.lst ((sortI ns).map V.int))))\/
  ∃p ks,xs=[.ref p]/\SrcT X.K H p ks/\ks.length < 64/\(∀k∈ks,k≠[])/\∀l bs,H l=none->Al X.K H bs (sortK ks)->Q (.ref l) (upd H l (.lst (bs.map V.ref)))):=fun A ds w vs H Q hA e l q=>by
 match ds,e,l with
 | [d],e,l=>
  have e:gSort d=some w:=e
  unfold gSort at e
  cases e1:gSortI d with
  | some w'=>rw [e1] at e;cases e;exact .inl (a93 A [d] w vs H Q hA e1 l q)
  | none=>rw [e1] at e;exact .inr (a9Z A [d] w vs H Q hA e l q)
theorem a2n {k:Nat}(hr:Room k X.A)(hc:X.calm=true)(hm:X.mg "sorted"=none)(ha:QA X [e] fa)(hv:bootBuiltins "sorted"=some (.builtin "sorted"):=by rfl)(hg:Gl X "sorted":=by rfl)
  (he:starEach [e] X.env=(false,eval e X.env) :: starEach [] X.env:=by rfl):QX X (.Call (.Name "sorted" p) [e] [] pos) (fCall (k1 gSort) fa):=a3r (a1E.or (a1J hc)) a1w hv hm ha hg (by decide) (by decide) he rfl
end
section
variable {prog:Program}{w:World}{A:Around}{R:Result->Shared->Prop}{s:Shared}
theorem a6x {kx vx tg iter:Expr}{ifs:List Expr}{scope:Scope}{pos:Pos}{it:Value}{D:Addr}{env:Env}(I:Nat->Shared->Prop)
  (turn:∀n s,I n s->wpAny (model prog w) A (pyNext it) (fun r s1=>match r with
   | none=>R (.ok .next) s1
   | some v=>wpAny (model prog w) A (letOwnedTupleGo tg it v) (fun _ s2=>wpAny (model prog w) A (assign tg env v) (fun _ s3=>
     wpAny (model prog w) A (forIn ifs true fun c r=>if r=true then do let ok <-isTrue c env (eval c env);pure (ForInStep.yield ok) else pure (ForInStep.yield r)) (fun ok s4=>
      if ok=true then wpAny (model prog w) A (eval kx env) (fun kv s5=>wpAny (model prog w) A (eval vx env) (fun vv s6=>wpAny (model prog w) A (dictSet D kv vv) (fun _ s7=>∃m,m < n/\I m s7) Fa s6) Fa s5) Fa s4
      else ∃m,m < n/\I m s4) Fa s3) Fa s2) Fa s1) Fa s)
  (n:Nat) (h:I n s):codeAny (model prog w) A (.compLoop (.DictComp kx vx [⟨tg,iter,ifs,0⟩] scope pos) 0 it (.ref D) env) R s:=by
 refine codeAny_loop rfl I (fun n s hI=>?_) n h
 show wpAny _ A ((compTurn (.DictComp kx vx [⟨tg,iter,ifs,0⟩] scope pos) 0 it (.ref D) env).onRaise (fun x=>do noteFrame x env;theTreesLotGoes x)) _ _ s
 refine wpAny_noted ?_
 rw [compTurn_dict]
 refine wpAny_bind (wpAny_standAt (wpAny_bind (wpAny_mono (turn n s hI) (fun r s1 h1=>?_) fun _ _ z=>z.elim)))
 cases r with
 | none=>exact wpAny_pure h1
 | some v=>
  refine wpAny_bind (wpAny_mono h1 (fun _ s2 h2=>wpAny_bind (wpAny_mono h2 (fun _ s3 h3=>wpAny_bind (wpAny_mono h3 (fun ok s4 h4=>?_) fun _ _ z=>z.elim)) fun _ _ z=>z.elim)) fun _ _ z=>z.elim)
  cases ok with
  | true=>
   rw [if_pos rfl] at h4 ⊢
   exact wpAny_bind (wpAny_bind (wpAny_mono h4 (fun kv s5 h5=>wpAny_bind (wpAny_holding (wpAny_mono h5 (fun vv s6 h6=>wpAny_bind (wpAny_standAt (wpAny_holding (wpAny_mono h6 (fun _ s7 h7=>wpAny_pure ⟨rfl,h7⟩) fun _ _ z=>z.elim)))) fun _ _ z=>z.elim))) fun _ _ z=>z.elim))
  | false=>
   rw [if_neg Bool.false_ne_true] at h4 ⊢
   first | exact wpAny_pure ⟨rfl,h4⟩ | exact wpAny_bind (wpAny_pure (wpAny_pure ⟨rfl,h4⟩))
end
section
variable {X:Cx}{pins:List (Addr×PySem.Obj)}{σ:L2.St}{H2:Hp}{s2 s4:Shared}{scope:Scope}{cl:List (Str×Addr)}{N:List Str}{js:List (Option Nat)}{fp:List Addr}{Dd C:Addr}{m:Str->Option Value}
theorem a9H (I:Inv X pins σ H2 s2)(b:Blk X scope cl N js)(f2:∀y∈fp,FpOk X pins H2 y)(fl:∀y∈fp,y < s2.heap.objs.size)(hC:s2.heap.objs.size<=C)(hD:s2.heap.objs.size<=Dd)(ne:Dd≠C)
  (ho:s4.os=s2.os) (hg:AllBare s4.gens) (kp:∀y o,s2.heap.get? y=some o->s4.heap.get? y=some o) (hn:s4.heap.Ns C m) (hk:HOk X.prog X.w (upd H2 Dd (.dT [])) s4.heap):
  Inv (blk X scope cl s2 H2 fp C (N ++ [accN])) [] (capS js σ ++ [some (.ref Dd)]) (upd H2 Dd (.dT [])) s4:=by
 have nD:∀y o,s2.heap.get? y=some o->y≠Dd:=fun y o e=>Nat.ne_of_lt (Nat.lt_of_lt_of_le (Heap.lt_size e) hD)
 have nH:∀y u,H2 y=some u->y≠Dd:=fun y u e=>Nat.ne_of_lt (Nat.lt_of_lt_of_le (I.hok.lt e) hD)
 have cD:∀x c,X.env.cells.lookup x=some c->c≠Dd:=fun x c e=>by
  obtain ⟨v,o,e1,_⟩:=I.cell x c e
  exact nD c o e1
 refine ⟨b0F I b f2 fl hC,ho,hg,⟨fun y o e _ _ _=>kp y o e,fun y o e _ _ _=>⟨o.slots,kp y o e⟩,fun y o e n _=>?_,fun y o e _=>⟨o,kp y o e⟩,fun y xs e=>?_,fun y o u e=>?_,fun y ps e=>?_⟩,⟨m,hn,fun i x v e1 e2 e3=>?_⟩,fun x c e=>?_,?_,fun x c e=>?_,fun p hp=>absurd (show p∈([]:List (Addr×PySem.Obj)) from hp) (by simp),hk,?_⟩
 ·rw [g7 (nD y o e)];exact n
 ·rw [g7 (nH _ _ e)];exact e
 ·rw [g7 (nH _ _ e)];exact e
 ·have e':H2 y=some (.tbl ps):=e
  exact ⟨#[],by rw [g7 (nH _ _ e'),e'];simp⟩
 ·have hl:js.length=N.length:=b.cap.len
  by_cases hi:i < N.length
  ·have e1':N[i]? =some x:=by
    have z:(N ++ [accN])[i]? =some x:=e1
    rw [List.getElem?_append_left hi] at z;exact z
   rw [List.getElem?_append_left (by unfold capS;simp;walk_at "o")] at e2
   unfold capS at e2
   rw [List.getElem?_map] at e2
   obtain ⟨o,ej,e2⟩:=oms e2
   cases o with
   | none=>cases e2
   | some j=>
    obtain ⟨c1,c2,c3,c4⟩:=b.cap.get e1' ej
    simp only [Option.map_some,Option.bind_some] at e2
    have e2':σ[j]? =some (some v):=by
     cases q:σ[j]? with
     | none=>rw [q] at e2;cases e2
     | some o=>rw [q] at e2;simp at e2;rw [e2]
    obtain ⟨m2,_,hl2⟩:=I.loc
    obtain ⟨u,r,lk⟩:=hl2 j x v c1 e2' (.inr (.inl c2))
    refine ⟨u,r,.inr ⟨.inl c3,?_⟩⟩
    rcases lk with ⟨k,_⟩ | ⟨_,c,e,z⟩
    ·have k':X.env.scope.names.lookup x=some .local:=k
     rw [c2] at k';cases k'
    ·exact ⟨c,c4.trans e,z.keeps kp⟩
  ·have hx:x=accN:=by
    have z:(N ++ [accN])[i]? =some x:=e1
    rw [List.getElem?_append_right (by walk_at "o")] at z
    cases q:i - N.length with
    | zero=>rw [q] at z;simp at z;exact z.symm
    | succ k=>rw [q] at z;simp at z
   subst hx
   rcases e3 with z | z | z
   ·exact absurd z (b.acc _)
   ·exact absurd z (b.acc _)
   ·exact absurd z (b.acc _)
 ·obtain ⟨v,z⟩:=I.cell x c (b.sub x c e)
  exact ⟨v,z.keeps kp⟩
 ·show upd H2 Dd (.dT []) C=none
  rw [g7 (Ne.symm ne)]
  exact I.hok.fresh hC
 ·rw [g7 (cD x c (b.sub x c e))]
  exact I.freeC x c (b.sub x c e)
 ·show (capS js σ ++ [some (V.ref Dd)]).length=(N ++ [accN]).length
  unfold capS
  simp [b.cap.len]
end
section
variable {X:Cx}{pins:List (Addr×PySem.Obj)}{σ:L2.St}{H:Hp}{s:Shared}{a b:Addr}{v:V}{r:Value}{A:Around}{E:Value->Shared->Prop}
theorem a74 {kvs:List (List Key×V)}{k:List Key}{Q:Unit->Shared->Prop}(hu:A.units + 1 < cLine)(I:Inv X pins σ H s)(e:H a=some (.dT kvs))(eb:H b=some (.tup (k.map kV)))(l:kvs.length < sizeLine)(rv:RelV v r)(h:∀s',Inv X pins σ (upd H a (.dT (putK kvs k v))) s'->Q () s'):
  wpAny (model X.prog X.w) A (dictSet a (.ref b) r) Q E s:=by
 obtain ⟨z,hd,xs,rel,dd⟩:=a3P I.hok e
 have hz:xs.length<=sizeLine:=by rw [<-Paired.length rel];exact z
 have hl:(putK kvs k v).length<=sizeLine:=by have:=a0n kvs k v;walk_at "o"
 refine wpAny_dictSet_heap (hsz:=hz) (show A.units < cLine from Nat.lt_of_succ_lt hu) (a60 I.hok eb) dd fun h' dd' hs=>h _ ?_
 obtain ⟨q,es,ep,hq,h2,h3,h4,_,h5⟩:=dd'
 refine a5r I (by rw [e];exact True.intro) hs ⟨q,hq⟩ ⟨hl,hd,_,(rel.put k eb rv).keeps fun c ys ec=>?_,q,es,ep,hq,h2,h3,h4,h5⟩
 rw [g7 (b2o ec e (fun z=>nomatch z))]
 exact ec
end
section
variable {X:Cx}{P:List (D×V)}{O:Av}{L:List (Nat×Addr)}{ρ:Ev}{σ:L2.St}{H2:Hp}{s2:Shared}{scope:Scope}{cl:List (Str×Addr)}{N:List Str}{js:List (Option Nat)}{fp:List Addr}{Dd C:Addr}{li:Option (Nat×Nat)}
theorem P7 (r:Rep X P O L ρ σ H2)(hl:LiOk li js ρ){i:Nat}{w:W}{d:D}{v:V}(e1:(capE (li.map (·.2)) js ρ ++ [some (.l (.dT [] []))])[i]? =some (some w))(e2:w.own=some d)(e3:(capS js σ ++ [some (.ref Dd)])[i]? =some (some v)):
  (i=js.length/\w= .l (.dT [] [])/\v= .ref Dd)\/∃j a w0,li=some (i,j)/\i < js.length/\w= .l d/\js[i]? =some (some j)/\ρ[j]? =some (some w0)/\w0.own=some d/\σ[j]? =some (some (.ref a))/\v= .ref a:=by
 have hcl:(capE (li.map (·.2)) js ρ).length=js.length:=by unfold capE;simp
 have hsl:(capS js σ).length=js.length:=by unfold capS;simp
 by_cases hi:i < js.length
 ·rw [List.getElem?_append_left (by walk_at "o")] at e1 e3
  obtain ⟨j,w0,ej,q,ew⟩:=N7 e1
  have own0:w0.own≠none/\li.map (·.2)=some j/\w= .l d/\w0.own=some d:=by
   cases w0 with
   | v c=>cases ew;cases e2
   | r c=>cases ew
   | o c=>
    simp only [capW] at ew
    split at ew
    ·rename_i hk;cases ew;cases e2;exact ⟨nofun,by simpa using hk,rfl,rfl⟩
    ·cases ew;cases e2
   | l c=>
    simp only [capW] at ew
    split at ew
    ·rename_i hk;cases ew;cases e2;exact ⟨nofun,by simpa using hk,rfl,rfl⟩
    ·cases ew;cases e2
  obtain ⟨_,hlj,rfl,ow⟩:=own0
  obtain ⟨a,h1,h2⟩:=r.obj q ow
  rw [M7 ej h1] at e3;cases e3
  cases li with
  | none=>cases hlj
  | some p=>
   obtain ⟨i',j'⟩:=p
   cases hlj
   have:=hl.one i' _ i rfl ej
   subst this
   exact .inr ⟨_,a,w0,rfl,hi,rfl,ej,q,ow,h1,rfl⟩
 ·have hi':i=js.length:=by
   have:=(List.getElem?_eq_some_iff.mp e1).1
   rw [List.length_append,hcl] at this;simp at this;walk_at "o"
  subst hi'
  rw [List.getElem?_append_right (by walk_at "o"),hcl,Nat.sub_self] at e1
  rw [List.getElem?_append_right (by walk_at "o"),hsl,Nat.sub_self] at e3
  simp only [List.getElem?_cons_zero,Option.some.injEq] at e1 e3
  exact .inl ⟨rfl,e1.symm,e3.symm⟩
theorem b0q (r:Rep X P O L ρ σ H2)(hl:LiOk li js ρ)(hn:H2 Dd=none):
  Rep (blk X scope cl s2 H2 fp C (N ++ [accN])) P (fun b=>AvO O ρ σ b/\¬Capd ρ σ js b) ((js.length,Dd) :: lentL li σ) (capE (li.map (·.2)) js ρ ++ [some (.l (.dT [] []))]) (capS js σ ++ [some (.ref Dd)]) (upd H2 Dd (.dT [])):=by
 have hcl:(capE (li.map (·.2)) js ρ).length=js.length:=by unfold capE;simp
 have hsl:(capS js σ).length=js.length:=by unfold capS;simp
 have acc1:(capE (li.map (·.2)) js ρ ++ [some (.l (.dT [] []))])[js.length]? =some (some (.l (.dT [] []))):=by rw [List.getElem?_append_right (by walk_at "o"),hcl,Nat.sub_self];rfl
 have acc2:(capS js σ ++ [some (V.ref Dd)])[js.length]? =some (some (.ref Dd)):=by rw [List.getElem?_append_right (by walk_at "o"),hsl,Nat.sub_self];rfl
 have lnt2:∀{i j:Nat} {a:Addr},li=some (i,j)->σ[j]? =some (some (.ref a))->∃w0 d,ρ[j]? =some (some w0)/\w0.own=some d/\(capE (li.map (·.2)) js ρ ++ [some (.l (.dT [] []))])[i]? =some (some (.l d))/\(capS js σ ++ [some (V.ref Dd)])[i]? =some (some (.ref a)):=fun {i j a} e1 e2=>by
  obtain ⟨c,ec⟩:=hl.own i j e1
  obtain ⟨w0,q,ow⟩:=t3 ec
  have ej:=hl.at' i j e1
  have hi:i < js.length:=(List.getElem?_eq_some_iff.mp ej).1
  refine ⟨w0,c,q,ow,?_,by rw [List.getElem?_append_left (by walk_at "o")];exact M7 ej e2⟩
  rw [List.getElem?_append_left (by walk_at "o")]
  unfold capE
  rw [List.getElem?_map,ej]
  simp only [Option.map_some,Option.bind_some,q,Option.join_some,e1,beq_self_eq_true]
  cases w0 with
  | o x=>cases ow;rfl
  | l x=>cases ow;rfl
  | _=>cases ow
 have av:∀b,AvO (fun b=>AvO O ρ σ b/\¬Capd ρ σ js b) (capE (li.map (·.2)) js ρ ++ [some (.l (.dT [] []))]) (capS js σ ++ [some (V.ref Dd)]) b->AvO O ρ σ b\/H2 b=none:=fun b z=>by
  rcases z with z | ⟨i,w,d,e1,e2,e3⟩
  ·exact .inl z.1
  ·rcases P7 r hl e1 e2 e3 with ⟨_,_,e⟩ | ⟨j,a,w0,_,_,_,_,q,ow,qs,e⟩
   ·cases e;exact .inr hn
   ·cases e;exact .inl (.inr ⟨j,w0,d,q,ow,qs⟩)
 have g:Go (AvO O ρ σ) (AvO (fun b=>AvO O ρ σ b/\¬Capd ρ σ js b) (capE (li.map (·.2)) js ρ ++ [some (.l (.dT [] []))]) (capS js σ ++ [some (V.ref Dd)])) (fun _=>False) H2 (upd H2 Dd (.dT [])):=⟨fun b o e _=>k5 hn _ b o e,fun _ z=>z.elim,av⟩
 refine ⟨fun b o e _=>k5 hn _ b o e,fun b z=>⟨r.there z.1,fun i m=>?_⟩,by simp [hcl,hsl],fun i w e=>?_,fun i i' w w' d d' b e1 e2 e3 e4 e5 e6=>?_,fun i d b e=>?_,fun i d e=>?_,fun i b e=>?_,fun p hp=>s0 g _ _ (r.prot p hp)⟩
 ·rcases List.mem_cons.mp m with m | m
  ·cases m;exact r.fresh hn z.1
  ·obtain ⟨j,e1,e2⟩:=B0.mp m
   obtain ⟨w0,d,q,ow,_⟩:=lnt2 e1 e2
   exact z.2 ⟨j,w0,d,List.mem_of_getElem? (hl.at' i j e1),q,ow,e2⟩
 ·by_cases hi:i < js.length
  ·have e':=e
   rw [List.getElem?_append_left (by walk_at "o")] at e'
   obtain ⟨j,w0,ej,q,ew⟩:=N7 e'
   obtain ⟨v,h1,h2⟩:=r.slot j w0 q
   refine ⟨v,by rw [List.getElem?_append_left (by walk_at "o")];exact M7 ej h1,?_⟩
   cases w0 with
   | v c=>cases ew;exact s0 g _ _ h2
   | r c=>cases ew
   | o c=>
    simp only [capW] at ew
    obtain ⟨a,rfl,ob⟩:=h2
    have hk:upd H2 Dd (.dT []) a=H2 a:=g7 fun z=>by obtain ⟨u,eu,_⟩:=C7 ob;rw [z,hn] at eu;cases eu
    split at ew
    ·cases ew;exact ⟨a,rfl,u6 g hk ob⟩
    ·rename_i nk
     cases ew
     refine X6 (u6 g hk ob) fun z=>?_
     rcases z with z | ⟨i2,w2,d2,e1,e2,e3⟩
     ·exact z.2 ⟨j,_,c,List.mem_of_getElem? ej,q,rfl,h1⟩
     ·rcases P7 r hl e1 e2 e3 with ⟨_,_,e⟩ | ⟨j2,a2,w0,l2,_,_,ej2,q2,ow2,qs2,e⟩
      ·cases e;obtain ⟨u,eu,_⟩:=C7 ob;rw [hn] at eu;cases eu
      ·cases e
       have:=r.inj j j2 _ w0 c d2 a q rfl h1 q2 ow2 qs2
       subst this
       rw [l2] at nk;simp at nk
   | l c=>
    simp only [capW] at ew
    obtain ⟨a,rfl,ob⟩:=h2
    have hk:upd H2 Dd (.dT []) a=H2 a:=g7 fun z=>by obtain ⟨u,eu,_⟩:=C7 ob;rw [z,hn] at eu;cases eu
    split at ew
    ·cases ew;exact ⟨a,rfl,u6 g hk ob⟩
    ·rename_i nk
     cases ew
     refine X6 (u6 g hk ob) fun z=>?_
     rcases z with z | ⟨i2,w2,d2,e1,e2,e3⟩
     ·exact z.2 ⟨j,_,c,List.mem_of_getElem? ej,q,rfl,h1⟩
     ·rcases P7 r hl e1 e2 e3 with ⟨_,_,e⟩ | ⟨j2,a2,w0,l2,_,_,ej2,q2,ow2,qs2,e⟩
      ·cases e;obtain ⟨u,eu,_⟩:=C7 ob;rw [hn] at eu;cases eu
      ·cases e
       have:=r.inj j j2 _ w0 c d2 a q rfl h1 q2 ow2 qs2
       subst this
       rw [l2] at nk;simp at nk
  ·have hi':i=js.length:=by
    have:=(List.getElem?_eq_some_iff.mp e).1
    rw [List.length_append,hcl] at this;simp at this;walk_at "o"
   subst hi'
   rw [acc1] at e;cases e
   exact ⟨.ref Dd,acc2,Dd,rfl,[],m5,rfl,j9⟩
 ·rcases P7 r hl e1 e2 e3 with ⟨rfl,_,e⟩ | ⟨j,a,w0,l1,_,_,_,q,ow,qs,e⟩
  ·cases e
   rcases P7 r hl e4 e5 e6 with ⟨rfl,_,_⟩ | ⟨j,a,w0,l1,_,_,_,q,ow,qs,e⟩
   ·rfl
   ·cases e;obtain ⟨u,eu,_⟩:=r.owMu ⟨j,w0,d',q,ow,qs⟩;rw [hn] at eu;cases eu
  ·cases e
   rcases P7 r hl e4 e5 e6 with ⟨rfl,_,e⟩ | ⟨j',a',w0',l1',_,_,_,q',ow',qs',e⟩
   ·cases e;obtain ⟨u,eu,_⟩:=r.owMu ⟨j,w0,d,q,ow,qs⟩;rw [hn] at eu;cases eu
   ·rw [l1] at l1';cases l1';rfl
 ·by_cases hi:i < js.length
  ·rw [List.getElem?_append_left (by walk_at "o")] at e
   obtain ⟨j,w0,ej,q,ew⟩:=N7 e
   cases w0 <;> simp only [capW] at ew <;> first | cases ew | (split at ew <;> cases ew)
  ·rw [List.getElem?_append_right (by walk_at "o")] at e
   cases q:i - (capE (li.map (·.2)) js ρ).length with
   | zero=>rw [q] at e;cases e
   | succ n=>rw [q] at e;simp at e
 ·by_cases hi:i < js.length
  ·have e':=e
   rw [List.getElem?_append_left (by walk_at "o")] at e'
   obtain ⟨j,w0,ej,q,ew⟩:=N7 e'
   obtain ⟨v,h1,h2⟩:=r.slot j w0 q
   have e3:(capS js σ ++ [some (V.ref Dd)])[i]? =some (some v):=by rw [List.getElem?_append_left (by walk_at "o")];exact M7 ej h1
   rcases P7 r hl e rfl e3 with ⟨rfl,_⟩ | ⟨j,a,w0,l1,_,_,_,q,ow,qs,rfl⟩
   ·walk_at "o"
   ·exact ⟨a,e3,List.mem_cons_of_mem _ (B0.mpr ⟨j,l1,qs⟩)⟩
  ·have hi':i=js.length:=by
    have:=(List.getElem?_eq_some_iff.mp e).1
    rw [List.length_append,hcl] at this;simp at this;walk_at "o"
   subst hi'
   exact ⟨Dd,acc2,List.mem_cons_self⟩
 ·rcases List.mem_cons.mp e with e | e
  ·cases e;exact ⟨_,acc1,acc2⟩
  ·obtain ⟨j,e1,e2⟩:=B0.mp e
   obtain ⟨w0,d,_,_,q1,q2⟩:=lnt2 e1 e2
   exact ⟨d,q1,q2⟩
end
def putTo (k j:Nat) (p:List W×Ev):Option Ev:=(takeAll p.2 p.1).bind fun q=>(dkeys q.1).bind fun kk=>match q.2[j]? with
 | some (some (.v d))=>match ownAt q.2 k with
  | some (.dT ks zs)=>if ks.length < lim/\q.1.length<=lim then some (setOwn q.2 k (.dT (putKs ks kk) (putX ks zs kk d))) else none
  | _=>none
 | _=>none
def turnCD (k:Nat) (gf:FG) (t:FT) (fa:FA) (j:Nat):D->Ev->Option Ev:=fun x ρ=>(gf x ρ).bind fun ρ1=>(t ρ1).bind fun p=>if p.1=true then (fa p.2).bind (putTo k j) else some p.2
def backCD (li:Option (Nat×Nat)) (js:List (Option Nat)) (ρe ρ1:Ev) (kz:List (List Key)) (ys:List D):Option (W×Ev):=match li with
 | none=>if lfL ys=true then some (.o (.dT kz ys),ρ1) else (frzL (capR js) ρ1).map fun ρ2=>(.o (.dT kz ys),ρ2)
 | some (i,j)=>if lfL ys=true then (ownAt ρe i).bind fun c=>if lfC c=true then some (.o (.dT kz ys),setOwn ρ1 j c) else none else none
def fDComp (fi:FI) (li:Option (Nat×Nat)) (js:List (Option Nat)) (gf:FG) (t:FT) (fa:FA) (j:Nat):FX:=fun ρ=>(fi ρ).bind fun p=>if liB li p.2=true then
  (loopC (turnCD js.length gf t fa j) p.1 (capE (li.map (·.2)) js p.2 ++ [some (.l (.dT [] []))])).bind fun ρe=>match ownAt ρe js.length with
   | some (.dT kz ys)=>backCD li js ρe p.2 kz ys
   | _=>none
 else none
section
variable {X:Cx}{pins:List (Addr×PySem.Obj)}{σ:L2.St}{H2:Hp}{s2:Shared}{scope:Scope}{cl:List (Str×Addr)}{N:List Str}{js:List (Option Nat)}{fp:List Addr}{it:Addr}{tn:Nat->Heap->Prop}{J:It}
 {vx tg iter:Expr} {es:List Expr} {kt:Nat} {kp0:Pos} {fa:FA} {j:Nat} {ifs:List Expr} {pos:Pos} {P:List (D×V)} {O:Av} {L:List (Nat×Addr)} {ρ ρe:Ev} {xs:List D} {gf:FG} {t:FT} {fe:FX} {Qq:Value->Shared->Prop} {use:Option (Value->Sem Unit)} {li:Option (Nat×Nat)}
theorem a8q (hcalm:X.calm=true)(I2:Inv X pins σ H2 s2)(T:Turn X.prog X.w X.K tg J fp it tn)(st2:tn 0 s2.heap)(f2:∀y∈fp,FpOk X pins H2 y)(b:Blk X scope cl N js)(r:Rep X P O L ρ σ H2)(hl:LiOk li js ρ)(wk:Wks X.K P xs J)
  (hg:∀C,QG (blk X scope cl s2 H2 fp C (N ++ [accN])) tg gf) (ht:∀C,Tst (blk X scope cl s2 H2 fp C (N ++ [accN])) ifs t) (hu:X.A.units + 1 < cLine) (hka:∀C,QA (blk X scope cl s2 H2 fp C (N ++ [accN])) es fa) (hv:∀C,PE (blk X scope cl s2 H2 fp C (N ++ [accN])) vx (tVar j))
  (e:loopC (turnCD js.length gf t fa j) xs (capE (li.map (·.2)) js ρ ++ [some (.l (.dT [] []))])=some ρe)
  (fin:∀(Dd C:Addr) (σe:L2.St) (He:Hp) (s1:Shared),H2 Dd=none->s2.heap.objs.size<=C->Inv (blk X scope cl s2 H2 fp C (N ++ [accN])) [] σe He s1->Rep (blk X scope cl s2 H2 fp C (N ++ [accN])) P (fun b=>AvO O ρ σ b/\¬Capd ρ σ js b) ((js.length,Dd) :: lentL li σ) ρe σe He->
   compPost (model X.prog X.w) X.A X.xe use Qq (.ref Dd) C (.ok .next) s1):
  wpAny (model X.prog X.w) X.A newDict (fun acc s3=>wpAny (model X.prog X.w) X.A (newFunctionEnv scope X.env.globals cl [] X.env.qual none .none (some X.env)) (fun cenv s4=>
   codeAny (model X.prog X.w) X.A (.compStart (.DictComp (.Tuple es kt kp0) vx [⟨tg,iter,ifs,0⟩] scope pos) 0 (.ref it) acc {cenv with scope:=relabel scope X.env}) (compPost (model X.prog X.w) X.A X.xe use Qq acc cenv.locals) s4) X.xe s3) X.xe s2:=by
 have fl:∀y∈fp,y < s2.heap.objs.size:=fun y hy=>by obtain ⟨o,eo,_⟩:=T.obj _ _ st2 y hy;exact Heap.lt_size eo
 refine wpAny_newObj_type (wpAny_newFunctionEnv b.cell (by intro y hy;simp at hy) (fun h' hns hsb=>?_) b.kind)
 dsimp only at hns hsb ⊢
 generalize hH:s2.heap.push {cls:=.type "dict",dict:=none,data:=.dict #[]}=H3 at hns hsb ⊢
 have hC:H3.objs.size=s2.heap.objs.size + 1:=by rw [<-hH,Heap.size_push]
 have ne:s2.heap.objs.size≠H3.objs.size:=by rw [hC];exact Nat.ne_of_lt (Nat.lt_succ_self _)
 have leC:s2.heap.objs.size<=H3.objs.size:=by rw [hC];exact Nat.le_succ _
 have kp3:∀y o,s2.heap.get? y=some o->H3.get? y=some o:=fun y o e=>hH▸Heap.get?_push_of_some _ e
 have kp4:∀y o,H3.get? y=some o->h'.get? y=some o:=fun y o e=>hsb.extBut y o (Nat.ne_of_lt (Heap.lt_size e)) (Heap.get?_push_of_some _ e)
 have hDn:H2 s2.heap.objs.size=none:=I2.hok.fresh (Nat.le_refl _)
 have ok3:HOk X.prog X.w (upd H2 s2.heap.objs.size (.dT [])) H3:=I2.hok.laid kp3 (Nat.le_refl _) (by rw [<-hH];exact a5M s2.heap I2.big)
 have I4:=a9H (s4:={s2 with heap:=h',toks:=s2.toks + ([]:List (Str×Value)).length}) (Dd:=s2.heap.objs.size) (C:=H3.objs.size) I2 b f2 fl leC (Nat.le_refl _) ne rfl I2.bare (fun y o e=>kp4 y o (kp3 y o e)) hns (ok3.kept kp4)
 have R4:=b0q (scope:=scope) (cl:=cl) (N:=N) (s2:=s2) (fp:=fp) (C:=H3.objs.size) (Dd:=s2.heap.objs.size) r hl hDn
 have hfree:∀{H':Hp},(∀y∈fp,H' y=none)->∀y∈fp,FpOk (blk X scope cl s2 H2 fp H3.objs.size (N ++ [accN])) [] H' y:=fun hn y hy=>
  ⟨hn y hy,Nat.ne_of_lt (Nat.lt_of_lt_of_le (fl y hy) leC),fun z=>(List.mem_cons.mp (I2.stkSub y z)).elim (f2 y hy).2.1 (f2 y hy).2.2.1,.inl hy,fun x c ec=>(f2 y hy).2.2.2.2.1 x c (b.sub x c ec),fun p hp=>absurd (show p∈([]:List (Addr×PySem.Obj)) from hp) (by simp)⟩
 obtain ⟨gg,pg,kg⟩:=(hg H3.objs.size).to
 have loop:∀s5:Shared,s5={s2 with heap:=h',toks:=s2.toks + ([]:List (Str×Value)).length}->
   codeAny (model X.prog X.w) X.A (.compLoop (.DictComp (.Tuple es kt kp0) vx [⟨tg,iter,ifs,0⟩] scope pos) 0 (.ref it) (.ref s2.heap.objs.size) (compEnvC scope cl H3.objs.size X.env))
    (compPost (model X.prog X.w) X.A X.xe use Qq (.ref s2.heap.objs.size) H3.objs.size) s5:=by
  rintro s5 rfl
  let Y:=blk X scope cl s2 H2 fp H3.objs.size (N ++ [accN])
  let O':Av:=fun b=>AvO O ρ σ b/\¬Capd ρ σ js b
  let L':=(js.length,s2.heap.objs.size) :: lentL li σ
  refine a6x (fun n s=>∃i σ' H' ρ',n=xs.length - i/\i<=xs.length/\Inv Y [] σ' H' s/\tn i s.heap/\(∀y∈fp,H' y=none)/\Rep Y P O' L' ρ' σ' H'/\loopC (turnCD js.length gf t fa j) (xs.drop i) ρ'=some ρe) ?_ xs.length
   ⟨0,_,_,_,by simp,Nat.zero_le _,I4,T.keep 0 _ _ st2 fun y hy o eo=>kp4 y o (kp3 y o eo),fun y hy=>by rw [g7 (Nat.ne_of_lt (fl y hy))];exact (f2 y hy).1,R4,by simpa using e⟩
  rintro n s ⟨i,σ',H',ρ',rfl,hi,I,st,fr,rp,el⟩
  obtain ⟨wi,ws⟩:=wk Y O' L' ρ' σ' H' rfl rp
  by_cases hlt:i < xs.length
  ·obtain ⟨go,yl⟩:=wi i xs[i] (by simp [hlt])
   refine wpAny_mono (T.item Y rfl rfl rfl hcalm i [] s σ' H' Fa I (hfree fr) st go) (fun r s1 ⟨u,hr,h1⟩=>?_) fun _ _ z=>z
   subst hr
   refine wpAny_mono h1 (fun _ s3 ⟨x,H5,I5,r5,y5,st5,fr5⟩=>?_) fun _ _ z=>z
   obtain ⟨sm5,dx⟩:=yl x H5 y5
   replace rp:=rp.grow sm5
   rw [List.drop_eq_getElem_cons hlt,loopC] at el
   cases e1:turnCD js.length gf t fa j xs[i] ρ' with
   | none=>rw [e1] at el;cases el
   | some ρt=>
    rw [e1] at el
    simp only [Option.bind_some] at el
    unfold turnCD at e1
    cases e2:gf xs[i] ρ' with
    | none=>rw [e2] at e1;cases e1
    | some ρ1=>
     rw [e2] at e1
     simp only [Option.bind_some] at e1
     obtain ⟨⟨k,ρ2⟩,e3,e1⟩:=obs e1
     dsimp only at e1
     have I5':=I5.pinned (hfree fr5) (T.obj _ _ st5)
     have gq:=kg P O' L' xs[i] x ρ' ρ1 σ' H5 (fun σ2 Hh=>Rep Y P O' L' ρ1 σ2 Hh) rp dx e2 (fun σ2 H2' rp2=>rp2)
     refine wpAny_mono (pg _ s3 σ' H5 x u _ I5' r5 gq) (fun _ s6 ⟨σ6,H6,I6,rp6⟩=>?_) fun _ _ z=>z
     have back:∀{s7:Shared} {H7:Hp} {ρ7:Ev},Inv Y ([] ++ pinsAt fp s3.heap) σ6 H7 s7->Rep Y P O' L' ρ7 σ6 H7->loopC (turnCD js.length gf t fa j) (xs.drop (i + 1)) ρ7=some ρe->
       ∃m,m < xs.length - i/\∃i σ' H' ρ',m=xs.length - i/\i<=xs.length/\Inv Y [] σ' H' s7/\tn i s7.heap/\(∀y∈fp,H' y=none)/\Rep Y P O' L' ρ' σ' H'/\loopC (turnCD js.length gf t fa j) (xs.drop i) ρ'=some ρe:=fun {s7 H7 ρ7} I7 rp7 e7=>by
      refine ⟨xs.length - (i + 1),by omega,i + 1,σ6,H7,ρ7,rfl,hlt,I7.unpinned,T.keep _ _ _ st5 fun y hy o eo=>(I7.pin (y,o) (List.mem_append_right _ (List.mem_append_right _ (w4 hy eo)))).1,fun y hy=>?_,rp7,e7⟩
      obtain ⟨o,eo,_⟩:=T.obj _ _ st5 y hy
      exact (I7.pin (y,o) (List.mem_append_right _ (List.mem_append_right _ (w4 hy eo)))).2.1
     refine wpAny_mono ((ht H3.objs.size).to _ s6 σ6 H6 P O' L' ρ1 ρ2 k (fun k' Hh=>k'=k/\Rep Y P O' L' ρ2 σ6 Hh) I6 rp6 e3 (fun H' rr=>⟨rfl,rr⟩)) (fun ok s7 ⟨H7,I7,hk,rp7⟩=>?_) fun _ _ z=>z
     subst hk
     cases ok with
     | false=>
      rw [if_neg Bool.false_ne_true] at e1 ⊢
      cases e1
      exact back I7 rp7 el
     | true=>
      rw [if_pos rfl] at e1 ⊢
      obtain ⟨⟨ws0,ρ3⟩,e4,e1⟩:=obs e1
      simp only [putTo] at e1
      obtain ⟨⟨ds,ρ4⟩,e5,e1⟩:=obs e1
      dsimp only at e1
      cases e6:dkeys ds with
      | none=>rw [e6] at e1;cases e1
      | some kk=>
       rw [e6] at e1
       simp only [Option.bind_some] at e1
       split at e1
       ·rename_i d e7
        split at e1
        ·rename_i kz zs e8
         split at e1
         ·rename_i hl
          cases e1
          refine wpAny_mono (a6M (hka H3.objs.size).to _ s7 σ6 H7 (fun v H9=>∃p H8,v= .ref p/\Rep Y P O' L' ρ4 σ6 H8/\H8 p=none/\H9=upd H8 p (.tup (kk.map kV))) I7 ⟨P,O',L',ρ2,ws0,ρ3,rp7,e4,fun us H8 r8 l8=>?_⟩) (fun u8 s8 ⟨v8,H9,I9,r9,p,H8,ev8,rp8,hp8,eh9⟩=>?_) fun _ _ z=>z
          ·obtain ⟨r9,l9,_⟩:=o8 r8 e5 l8
           refine ⟨?_,fun p hp=>⟨p,H8,rfl,r9,hp,by rw [a0z e6 l9]⟩⟩
           rw [<-c7 l9];exact Nat.le_trans hl.2 z8
          ·subst ev8 eh9
           cases (show u8=Value.ref p from r9)
           have rp9:=rp8.grow (k5 hp8 (.tup (kk.map kV)))
           obtain ⟨v10,sv,dv⟩:=rp9.slot j _ e7
           refine wpAny_mono (hv H3.objs.size _ s8 σ6 _ (fun v H10=>v=v10/\H10=upd H8 p (.tup (kk.map kV))) I9 ⟨v10,sv,rfl,rfl⟩) (fun u10 s10 ⟨v11,H10,I10,r10,ev11,eh10⟩=>?_) fun _ _ z=>z
           subst ev11 eh10
           obtain ⟨d0,q1,q2⟩:=rp9.lnd js.length s2.heap.objs.size List.mem_cons_self
           have e8':=e8
           unfold ownAt at e8'
           rw [q1] at e8'
           cases e8'
           obtain ⟨a,h1,vs,h4,hkl,lz⟩:=rp9.obj q1 rfl
           rw [q2] at h1
           cases h1
           have hlv:kz.length=vs.length:=by rw [hkl,c7 lz]
           have kl:(kz.zip vs).length < sizeLine:=by
            rw [List.length_zip,hlv,Nat.min_self,<-hlv]
            exact Nat.lt_of_lt_of_le hl.1 z8
           refine a74 (X:=Y) (A:=X.A) hu I10 h4 (k:=kk) (b:=p) m5 kl r10 fun s11 I11=>?_
           rw [a7o hlv] at I11
           have g0:∀u,Go (AvO O' ρ4 σ6) (AvO O' ρ4 σ6) (fun b=>b=s2.heap.objs.size) (upd H8 p (.tup (kk.map kV))) (upd (upd H8 p (.tup (kk.map kV))) s2.heap.objs.size u):=fun u=>⟨fun b o eb nb=>by rw [g7 nb];exact eb,fun b z=>by rw [z];exact ⟨.inr ⟨js.length,_,_,q1,rfl,q2⟩,_,h4,trivial⟩,fun b z=>.inl z⟩
           exact back I11 (rp9.mut (d:=.dT (putKs kz kk) (putX kz zs kk d)) e8 q2 (fun b o eb nb=>by rw [g7 nb];exact eb) ⟨_,m5,a2C hkl,u9 (g0 _) _ _ (a6j lz dv)⟩) el
         ·cases e1
        ·cases e1
       ·cases e1
  ·have hie:i=xs.length:=by omega
   subst hie
   refine wpAny_mono (T.done Y rfl rfl rfl hcalm _ [] s σ' H' Fa I (hfree fr) st ws) (fun r s1 ⟨hr,I1⟩=>?_) fun _ _ z=>z
   subst hr
   rw [List.drop_eq_nil_of_le (Nat.le_refl _),loopC] at el
   cases el
   exact fin _ _ σ' H' s1 hDn leC I1 rp
 exact codeAny_compStart_dict (loop _ rfl) (T.self _ 0 _ _ _ (T.keep 0 _ _ st2 fun y hy o eo=>kp4 y o (kp3 y o eo)) (loop _ rfl))
end
section
variable {X:Cx}{pins:List (Addr×PySem.Obj)}{σ σe:L2.St}{H2 He:Hp}{s2:Shared}{scope:Scope}{cl:List (Str×Addr)}{N:List Str}{js:List (Option Nat)}{fp:List Addr}{Dd C:Addr}
 {vx tg iter:Expr} {es:List Expr} {kt:Nat} {kp0:Pos} {fa:FA} {j:Nat} {kz:List (List Key)} {ifs:List Expr} {pos:Pos} {P:List (D×V)} {O:Av} {L:List (Nat×Addr)} {ρ ρ2 ρe:Ev} {w:W} {ys:List D} {fi:FI} {gf:FG} {t:FT} {fe:FX} {li:Option (Nat×Nat)}
theorem a95 (r:Rep X P O L ρ σ H2)(hl:LiOk li js ρ)(hn:H2 Dd=none)(rp:Rep (blk X scope cl s2 H2 fp C (N ++ [accN])) P (fun b=>AvO O ρ σ b/\¬Capd ρ σ js b) ((js.length,Dd) :: lentL li σ) ρe σe He)
  (ey:ownAt ρe js.length=some (.dT kz ys)) (e:backCD li js ρe ρ kz ys=some (w,ρ2)):∃Hx,Rep X P O L ρ2 σ Hx/\Same Hx He/\DenW X.K (AvO O ρ2 σ) σ Hx He w (.ref Dd):=by
 obtain ⟨c0,q0,ob⟩:=rp.lents js.length Dd List.mem_cons_self
 rw [ey] at q0;cases q0
 cases li with
 | none=>
  have sm:Same H2 He:=fun b o eb=>rp.same b o eb fun i m=>by
   rcases List.mem_cons.mp m with m | m
   ·cases m;rw [hn] at eb;cases eb
   ·cases m
  unfold backCD at e
  simp only at e
  split at e
  ·rename_i hf
   cases e
   exact ⟨H2,r,sm,Dd,rfl,hn,S2 (d:=.dT kz ys) (fun _ _ e _=>e) hf rfl ob⟩
  ·obtain ⟨ρ3,e4,e⟩:=oms e
   cases e
   obtain ⟨r2,k2⟩:=Q2 r e4
   refine ⟨H2,r2,sm,Dd,rfl,hn,u6 (A1 fun b z=>?_) rfl ob⟩
   rcases z with z | z
   ·obtain ⟨z1,z2⟩:=X8 r k2 z
    exact .inl ⟨z1,fun ⟨j,w,d,m,q⟩=>z2 ⟨j,w,d,a50.mpr m,q⟩⟩
   ·exact .inr ⟨js.length,by rw [z];exact List.mem_cons_self⟩
 | some p=>
  obtain ⟨i,j⟩:=p
  unfold backCD at e
  simp only at e
  split at e
  ·rename_i hf
   cases e5:ownAt ρe i with
   | none=>rw [e5] at e;cases e
   | some c=>
    rw [e5] at e
    simp only [Option.bind_some] at e
    split at e
    ·rename_i hc
     cases e
     obtain ⟨c1,ec1⟩:=hl.own i j rfl
     obtain ⟨w0,q1,ow⟩:=t3 ec1
     obtain ⟨a,h1,oba⟩:=r.obj q1 ow
     obtain ⟨u0,eu0,_⟩:=C7 oba
     have na:a≠Dd:=fun z=>by rw [z,hn] at eu0;cases eu0
     have mem:(i,a)∈lentL (some (i,j)) σ:=B0.mpr ⟨j,rfl,h1⟩
     obtain ⟨c2,ec2,ob2⟩:=rp.lents i a (List.mem_cons_of_mem _ mem)
     rw [e5] at ec2;cases ec2
     obtain ⟨ur,eur,mur⟩:=C7 ob
     have keep:∀b o,H2 b=some o->b≠a->He b=some o:=fun b o eb nb=>rp.same b o eb fun k m=>by
      rcases List.mem_cons.mp m with m | m
      ·cases m;rw [hn] at eb;cases eb
      ·obtain ⟨j',e1,e2⟩:=B0.mp m
       cases e1
       rw [h1] at e2;cases e2;exact nb rfl
     refine ⟨fun b=>if b=Dd then none else He b,r.mut ec1 h1 (fun b o eb nb=>?_) (S2 (fun b o eb nm=>?_) hc (if_neg na) ob2),fun b o eb=>?_,Dd,rfl,if_pos rfl,S2 (d:=.dT kz ys) (fun _ _ e _=>e) hf rfl ob⟩
     ·have:b≠Dd:=fun z=>by rw [z,hn] at eb;cases eb
      show (if b=Dd then none else He b)=some o
      rw [if_neg this];exact keep b o eb nb
     ·have:b≠Dd:=fun z=>by rw [z,eur] at eb;cases eb;exact nm mur
      show (if b=Dd then none else He b)=some o
      rw [if_neg this];exact eb
     ·dsimp only at eb;split at eb
      ·cases eb
      ·exact eb
    ·cases e
  ·cases e
theorem a8e {Q:VK}{Qq:Value->Shared->Prop}{use:Option (Value->Sem Unit)}{H:Hp}{s:Shared}{newPos:Pos}(hc:X.calm=true)(b:Blk X scope cl N js)(hj:liJ li js=true)(hi:QI X tg iter fi)
  (hg:∀s2 H2 fp C,QG (blk X scope cl s2 H2 fp C (N ++ [accN])) tg gf) (ht:∀s2 H2 fp C,Tst (blk X scope cl s2 H2 fp C (N ++ [accN])) ifs t) (hu:X.A.units + 1 < cLine) (hka:∀s2 H2 fp C,QA (blk X scope cl s2 H2 fp C (N ++ [accN])) es fa) (hv:∀s2 H2 fp C,PE (blk X scope cl s2 H2 fp C (N ++ [accN])) vx (tVar j)) (hs:∀x,foldedSetIterable iter X.env x=pure x)
  (I:Inv X pins σ H s) (h:tX X (fDComp fi li js gf t fa j) σ H Q)
  (fin:∀(C:Addr) (v:V) (He:Hp) (s1:Shared),Q v He->(∀h9:Heap,(∀y,y≠C->h9.get? y=s1.heap.get? y)->Inv X pins σ He {s1 with heap:=h9})->FpOk X pins He C->(∃m,s1.heap.Ns C m)->∀vv,RelV v vv->compPost (model X.prog X.w) X.A X.xe use Qq vv C (.ok .next) s1):
  wpAny (model X.prog X.w) X.A (comprehension (.DictComp (.Tuple es kt kp0) vx [⟨tg,iter,ifs,0⟩] scope pos) scope X.env newPos newDict false (eval iter X.env) use) Qq X.xe s:=by
 obtain ⟨P,O,L,ρ,w,ρ',r,e,q⟩:=h
 unfold fDComp at e
 obtain ⟨⟨xs,ρ1⟩,e1,e⟩:=obs e
 dsimp only at e
 split at e
 ·rename_i hb
  cases e2:loopC (turnCD js.length gf t fa j) xs (capE (li.map (·.2)) js ρ1 ++ [some (.l (.dT [] []))]) with
  | none=>rw [e2] at e;cases e
  | some ρe=>
   rw [e2] at e
   simp only [Option.bind_some] at e
   split at e
   ·rename_i kz ys ey
    have hl:=b2t hj hb
    refine wpAny_comprehension_free rfl hs b.clos b.kind b.nms ?_
    refine wpAny_mono (hi.to pins s σ H _ I ⟨P,O,L,ρ,xs,ρ1,r,e1,fun J H1 P' r1 hh wk=>(⟨P',r1,hh,wk⟩:∃P',Rep X P' O L ρ1 σ H1/\Holds P' P/\Wks X.K P' xs J)⟩) (fun v s1 h1=>wpAny_mono h1 (fun itv s2 h2=>?_) fun _ _ z=>z) fun _ _ z=>z
    obtain ⟨it,fp,tn,J,H2,rfl,I2,T,st2,f2,P',r1,hh,wk⟩:=h2
    refine a8q hc I2 T st2 f2 b r1 hl wk (hg s2 H2 fp) (ht s2 H2 fp) hu (hka s2 H2 fp) (hv s2 H2 fp) e2 fun Dd C σe He s3 hn leC I1 rp=>?_
    obtain ⟨Hx,rx,sx,dx⟩:=a95 r1 hl hn rp ey e
    obtain ⟨m,hm,_⟩:=id I1.loc
    refine fin C (.ref Dd) He s3 (q _ Hx He (rx.holds hh) sx dx) (fun h9 k9=>a3u I2 f2 leC I1 k9) ?_ ⟨m,hm⟩ (.ref Dd) rfl
    exact I2.fpOk leC I1.free
   ·cases e
 ·cases e
theorem a92 {k:Nat}(j:Nat){x:Str}{px:Pos}(hr:Room k X.A)(hc:X.calm=true)(b:Blk X scope cl N js)(hi:QI X tg iter fi)(hg:∀s2 H2 fp C,QG (blk X scope cl s2 H2 fp C (N ++ [accN])) tg gf)(ht:∀s2 H2 fp C,Tst (blk X scope cl s2 H2 fp C (N ++ [accN])) ifs t)(hka:∀s2 H2 fp C,QA (blk X scope cl s2 H2 fp C (N ++ [accN])) es fa)
  (hv:∀s2 H2 fp C,PE (blk X scope cl s2 H2 fp C (N ++ [accN])) (.Name x px) (tVar j)) (hj:liJ li js=true:=by rfl) (hs:∀x,foldedSetIterable iter X.env x=pure x:=by intro _;rfl):QX X (.DictComp (.Tuple es kt kp0) (.Name x px) [⟨tg,iter,ifs,0⟩] scope pos) (fDComp fi li js gf t fa j):=⟨fun pins s σ H Q I h=>by
 rw [arm_eval_DictComp]
 refine a8e (use:=none) hc b hj hi hg ht (a31 hr) hka hv hs I h fun C v He s1 hq back fp ⟨m,hm⟩ vv rv=>?_
 exact ⟨m,hm,fun h9 k9=>⟨v,He,back h9 fun y ny=>k9.2 y ny,rv,hq⟩⟩⟩
end
section
variable {X:Cx}{a b c e e' o:Expr}{es rest:List Expr}{pos p p2 p3 apos:Pos}{f g h:FX}{t u:FT}{fa:FA}{x:Str}
theorem b1G:OpR X (binaryOp .Mult) (fun x y H Q=>∃l k xs,x= .ref l/\y= .int k/\SqL X.K H l xs/\-(2 ^ 63)<=k/\k < 2 ^ 63/\xs.length * k.toNat<=sizeLine/\∀p,H p=none->Q (.ref p) (upd H p (.lst (List.replicate k.toNat xs).flatten))):=by
 intro pins s σ H x y v u Q I rx ry h
 obtain ⟨l,k,xs,rfl,rfl,hH,h1,h2,hz,q⟩:=h
 cases rx
 obtain ⟨t,rfl⟩:=ry
 obtain ⟨its,r,⟨⟨c1,d1,e1,s1⟩,n,e,k1,_,w1⟩,_⟩:=I.list hH
 simp only at k1 w1
 subst k1 w1
 have hl:=r.length
 have hlen:its.toArray.size * k.toNat<=sizeLine:=by rw [List.size_toArray,<-hl];exact hz
 have hcap:¬its.toArray.size * k.toNat > (2 ^ 63 - 1) / 8:=by
  have:(sizeLine:Nat)<=(2 ^ 63 - 1) / 8:=by decide
  walk_at "o"
 have hfit:¬(!Builtin.List.listFitsIndex k)=true:=by rw [fitsIndex_both h1 h2];exact Bool.false_ne_true
 have hlong:¬Builtin.List.listTooLong (its.toArray.size * k.toNat)=true:=by rw [notLongL hlen];exact Bool.false_ne_true
 have hnew:List.foldl (fun x1 x2=>x1 ++ x2) #[] (List.replicate (if its.toArray.isEmpty=true then 0 else k.toNat) its.toArray)=(List.replicate k.toNat its).flatten.toArray:=by
  have f0:∀m:Nat,List.foldl (fun x1 x2=>x1 ++ x2) #[] (List.replicate m its.toArray)=(List.replicate m its).flatten.toArray:=fun m=>by
   have:=a3Z its m []
   rw [List.nil_append] at this
   exact this
  rw [f0]
  cases its with
  | nil=>simp
  | cons a r'=>rw [if_neg (by simp)]
 refine wpAny_binaryOp_repeat_ref (T:="list") (U:="int") (by decide) ⟨_,e,rfl⟩ (fun s'=>typeIs_int s' k t) noFill_list_mul F.fills_int_mul F.slot_int_rmul repeat_list F.slot_int_index.lookup
  (call_meets F.slot_int_rmul (typeIs_int s k t) F.entry_int_rmul (F.args_int_rmul_2 _ _) (lm_int_rmul_list_any k t l its.toArray n d1 s1)
   ⟨e,rfl,⟨_,e,rfl⟩,call_meets F.slot_list_mul ⟨_,e,rfl⟩ F.entry_list_mul (F.args_list_mul_2 _ _) (lm_list_mul_any l its.toArray n d1 s1 k t hfit hcap hlong) ⟨e,?_⟩⟩)
 rw [hnew]
 exact ⟨.ref _,_,I.lnew (t':=s.toks) (r.rep k.toNat) (by rw [b1m,Nat.mul_comm];exact hz),rfl,q _ I.fresh⟩
def oRep (x y:D):Option W:=match x,y with
 | .lst xs,.int k=>if (-(2 ^ 63)<=k/\k < 2 ^ 63)/\xs.length * k.toNat<=lim then some (.o (.lst (List.replicate k.toNat xs).flatten)) else none
 | _,_=>none
theorem a6g {K:PySem.W.Frag}{A:Av}{H:Hp}{xs:List D}{vs:List V}(l:DenL K A H xs vs):∀n:Nat,DenL K A H (List.replicate n xs).flatten (List.replicate n vs).flatten
 | 0=>by simp;exact j9
 | n + 1=>by rw [List.replicate_succ,List.replicate_succ,List.flatten_cons,List.flatten_cons];exact t7 l (a6g l n)
theorem b31 (ha:QX X a f)(hb:QX X b g):QX X (.BinOp a .Mult b pos) (fBin oRep f g):=a1d b1G (by
 intro A x y w v u H Q _ e hx hy q
 unfold oRep at e
 split at e
 ·rename_i xs k
  split at e
  ·rename_i hk
   cases e
   obtain ⟨a,vs,rfl,hq,l⟩:=hx
   exact ⟨a,k,vs,rfl,k7 hy,hq,hk.1.1,hk.1.2,by rw [<-c7 l];exact Nat.le_trans hk.2 z8,fun p hp=>q _ _ (k5 hp _) (C3 hp (a6g l _))⟩
  ·cases e
 ·cases e) ha hb
def GlT (mg:Str->Option Value) (K:PySem.W.Frag) (x:Str) (ns:List Int):Prop:=∃a,mg x=some (.ref a)/\SqT K Emp a (ns.map V.int)
theorem a28 {ns:List Int}(hm:GlT X.mg X.K x ns)(hg:Gl X x:=by rfl)(hd:(x == ("__debug__":Str))=false:=by decide):QX X (.Name x pos) (fC (.tup (ns.map D.int))):=by
 obtain ⟨a,hm,hq⟩:=hm
 refine ⟨PE.weak (b1w (v:=.ref a) hg hm rfl hd) (a5S fun A H=>?_)⟩
 rw [Den]
 refine ⟨a,_,rfl,?_,K6 ns⟩
 rcases hq with (q | ⟨o,q⟩) | q
 ·cases q
 ·cases q
 ·exact .inr q
theorem b1H:MtR X "int.bit_length" (fun x xs H Q=>∃i,x= .int i/\xs=[]/\Q (.int (Builtin.Int.intBits i:Nat)) H):=by
 intro pins s σ H x xs v us Q I rx rs h
 obtain ⟨i,rfl,rfl,q⟩:=h
 obtain ⟨t,rfl⟩:=rx
 cases rs
 exact call_gives PySem.F.slot_int_bit_length (typeIs_int s i t) PySem.F.entry_int_bit_length (PySem.F.args_int_bit_length_1 _) (AutoIntG2.int_bit_length_int_0 i t) ⟨.int _,H,I.tok _,⟨_,rfl⟩,q⟩
def oBits:D->Option W
 | .int i=>some (.v (.int (Builtin.Int.intBits i:Nat)))
 | _=>none
theorem b14 (ha:QX X a f)(hbase:attributeBase a "bit_length" X.env (eval a X.env)=eval a X.env:=by rfl)(hline:(apos.endLine == pos.line)=true:=by rfl):QX X (.Call (.Attribute a "bit_length" apos) [] [] pos) (fUn oBits f):=
 ⟨PE.weak (a9d PySem.F.plainAttrs_int PySem.F.slot_int_bit_length PySem.F.type_int_bit_length b1H ha.to hbase hline) fun σ H Q h=>by
 have z:=a5a (r:=fun v H Q=>∃i,v= .int i/\Q (.int (Builtin.Int.intBits i:Nat)) H) (X:=X) (op:=oBits) (f:=f) (by
  intro A x w v H Q _ e hx q
  cases x with
  | int i=>cases e;exact ⟨i,k7 hx,q _ H (Same.refl H) G7⟩
  | _=>cases e) σ H Q h
 obtain ⟨P,O,L,ρ,w,ρ',r,e,q⟩:=z
 exact ⟨P,O,L,ρ,w,ρ',r,e,fun v H1 H' r1 s1 d1=>by
  obtain ⟨i,rfl,q'⟩:=q v H1 H' r1 s1 d1
  exact ⟨rfl,i,rfl,rfl,q'⟩⟩⟩
def fDPutT (fd:FX) (fk:FA) (fv:FX):FS:=fun ρ=>(fv ρ).bind fun p=>(fd p.2).bind fun q=>match q.1 with
 | .r i=>(fk q.2).bind fun z=>(takeAll z.2 (p.1.fz :: z.1)).bind fun y=>match y.1 with
  | d :: ds=>(dkeys ds).bind fun k=>match ownAt y.2 i with
   | some (.dT ks xs)=>if ks.length < lim/\ds.length<=lim then some (.nx (setOwn y.2 i (.dT (putKs ks k) (putX ks xs k d)))) else none
   | _=>none
  | _=>none
 | _=>none
theorem a6e {k:Nat}{x1}{p1 p2:Pos}(hr:Room k X.A)(hd:QX X o f)(ha:QA X es fa)(hv:QX X e g)(hs:swapsWith e (some (.Subscript o (.Tuple es x1 p1) p2)) pos.line X.env=pure false:=by rfl):
  QS X (.Assign [.Subscript o (.Tuple es x1 p1) p2] e pos) (fDPutT f fa g):=by
 refine ⟨PS.weak (b18 (a31 hr) hd.to (a6M ha.to) hv.to hs) fun E σ H h0=>tSe h0 fun P O L ρ r rp e q=>?_⟩
 unfold fDPutT at e
 obtain ⟨⟨w1,ρ1⟩,e1,e⟩:=obs e
 dsimp only at e
 obtain ⟨⟨w2,ρ2⟩,e2,e⟩:=obs e
 dsimp only at e
 split at e
 ·rename_i i
  obtain ⟨⟨ws,ρ3⟩,e3,e⟩:=obs e
  dsimp only at e
  obtain ⟨⟨dl,ρ4⟩,e4,e⟩:=obs e
  dsimp only at e
  split at e
  ·rename_i d ds
   cases e5:dkeys ds with
   | none=>rw [e5] at e;cases e
   | some kk=>
    rw [e5] at e
    simp only [Option.bind_some] at e
    split at e
    ·rename_i ks xs e6
     split at e
     ·rename_i hl
      cases e
      refine ⟨P,O,L,ρ,w1,ρ1,rp,e1,fun v H1 H1' r1 s1 d1=>?_⟩
      obtain ⟨P',r1',k1⟩:=hold (r1.grow s1) (d1.fz r1 s1)
      refine ⟨P',O,L,ρ1,_,ρ2,r1',e2,fun v2 H2 H2' r2 s2 d2=>?_⟩
      have d2:σ[i]? =some (some v2):=d2
      refine ⟨P',O,L,ρ2,ws,ρ3,r2.grow s2,e3,fun us H3 r3 l3=>?_⟩
      obtain ⟨r3',d3⟩:=k1 _ H3 r3
      obtain ⟨r4,l4,_⟩:=o8 (vs:=v :: us) r3' e4 ⟨v,us,rfl,d3,l3⟩
      rw [DenL] at l4
      obtain ⟨v',us',ev,hd',ld⟩:=l4
      cases ev
      have ek:=a0z e5 ld
      refine ⟨?_,fun p hp=>?_⟩
      ·rw [<-c7 ld];exact Nat.le_trans hl.2 z8
      ·have sm:=k5 hp (.tup us)
       have r5:=r4.grow sm
       obtain ⟨w0,q0,ow⟩:=t3 e6
       obtain ⟨a,h1,vs,h4,hkl,lz⟩:=r5.obj q0 ow
       rw [d2] at h1;cases h1
       have hlv:ks.length=vs.length:=by rw [hkl,c7 lz]
       refine ⟨a,_,rfl,DPut.t (k:=kk) h4 (by rw [<-ek];exact m5) ?_,?_⟩
       ·rw [List.length_zip,hlv,Nat.min_self,<-hlv]
        exact Nat.lt_of_lt_of_le hl.1 z8
       ·rw [a7o hlv]
        have g0:∀u,Go (AvO O ρ4 σ) (AvO O ρ4 σ) (fun b=>b=a) (upd H3 p (.tup us)) (upd (upd H3 p (.tup us)) a u):=fun u=>⟨fun b o eb nb=>by rw [g7 nb];exact eb,fun b z=>by rw [z];exact ⟨.inr ⟨i,w0,_,q0,ow,d2⟩,_,h4,trivial⟩,fun b z=>.inl z⟩
        exact q σ _ (r5.mut (d:=.dT (putKs ks kk) (putX ks xs kk d)) e6 d2 (fun b o eb nb=>by rw [g7 nb];exact eb) ⟨_,m5,a2C hkl,u9 (g0 _) _ _ (a6j lz (a0s sm hd'))⟩)
     ·cases e
    ·cases e
  ·cases e
 ·cases e
end
def kd1:Key->D
 | .inl i=>.int i
 | .inr x=>.str x
def keyD (k:List Key):D:=.tup (k.map kd1)
theorem b0P {K:PySem.W.Frag}{A:Av}{H:Hp}(k:Key):Den K A H (kd1 k) (kV k):=by
 cases k with
 | inl i=>exact F5.mpr rfl
 | inr x=>exact a1F.mpr rfl
theorem a5w {K:PySem.W.Frag}{A:Av}{H:Hp}:∀ks:List Key,DenL K A H (ks.map kd1) (ks.map kV)
 | []=>j9
 | k :: ks=>by rw [List.map_cons,List.map_cons];exact j8 (b0P k) (a5w ks)
inductive KeysAt (H:Hp):List (List Key)->List Addr->Prop where
 | nil:KeysAt H [] []
 | cons {k:List Key} {ks:List (List Key)} {b:Addr} {bs:List Addr} (q:H b=some (.tup (k.map kV))) (r:KeysAt H ks bs):KeysAt H (k :: ks) (b :: bs)
theorem a34 {H:Hp}:∀{kvs:List (List Key×V)} {xs:List (List Key×Addr×Value)},KT H kvs xs->KeysAt H (kvs.map (·.1)) (xs.map (·.2.1))
 | _,_,.nil=>.nil
 | _,_,.cons h t=>.cons h.2.1 (a34 t)
theorem KeysAt.den {K:PySem.W.Frag}{A:Av}{H:Hp}:∀{ks:List (List Key)} {bs:List Addr},KeysAt H ks bs->DenL K A H (ks.map keyD) (bs.map V.ref)
 | _,_,.nil=>j9
 | _,_,.cons q r=>by
  rw [List.map_cons,List.map_cons]
  refine j8 ?_ r.den
  unfold keyD
  rw [Den]
  exact ⟨_,_,rfl,.inl (.inl q),a5w _⟩
section
variable {X:Cx}{a b c e e' o:Expr}{es rest:List Expr}{pos p p2 p3 apos:Pos}{f g h:FX}{t u:FT}{fa:FA}{x:Str}
theorem a6m (hc:X.calm=true):CallR X (.type "list") (fun vs H Q=>∃(p:Addr) (kvs:List (List Key×V)),vs=[.ref p]/\H p=some (.dT kvs)/\∀l bs,H l=none->KeysAt H (kvs.map (·.1)) bs->Q (.ref l) (upd H l (.lst (bs.map V.ref)))):=by
 intro pins s σ H vs us Q I r h
 obtain ⟨p,kvs,rfl,hq,q⟩:=h
 obtain ⟨u,rfl,ru⟩:=vals1 r
 cases ru
 obtain ⟨z,hs,xs,rel,o,es,ep,h1,h2,h3,h4,h5⟩:=(show ObjOk X.prog X.w H s.heap p (.dT kvs) from I.hok p _ hq)
 have len:kvs.length=xs.length:=Paired.length rel
 have sz:es.size=xs.length:=by rw [<-Array.length_toList,h4,List.length_map]
 have szl:es.size<=sizeLine:=by rw [sz,<-len];exact z
 refine PySem.W.kdl_call (a7w (es:=es) (ep:=ep) hs) (I.ok.hd hc) ⟨o,h1,h2,h3⟩ szl fun h' tk acc c' hk hS hacc=>?_
 have ea:acc.toList=(xs.map (·.2.1)).map Value.ref:=by
  have e0:(xs.map (·.2.1)).map Value.ref=es.toList.map (·.key):=by rw [h4,List.map_map,List.map_map];rfl
  rw [e0]
  apply List.ext_getElem?
  intro i
  rw [Array.getElem?_toList,List.getElem?_map,Array.getElem?_toList]
  by_cases hi:i < es.size
  ·have hi2:i < acc.size:=by rw [hacc.1];exact hi
   obtain ⟨e,he,hv⟩:=hacc.2 i acc[i] (by simp [hi2])
   rw [he,Array.getElem?_eq_getElem hi2,hv];rfl
  ·rw [Array.getElem?_eq_none (by rw [hacc.1];walk_at "o"),Array.getElem?_eq_none (by walk_at "o")];rfl
 refine ⟨.ref s.heap.objs.size,_,I.laid (t':=tk) (o:=.lst ((xs.map (·.2.1)).map V.ref)) hk (Nat.le_refl _) ⟨?_,acc.toList,c',?_,by rw [Array.toArray_toList];exact hS⟩,rfl,q _ _ (I.hok.fresh (Nat.le_refl _)) (a34 rel)⟩
 ·rw [List.length_map,List.length_map,<-len];exact z
 ·rw [ea];exact a2e _
def gListD:D->Option W
 | .dT ks _=>some (.o (.lst (ks.map keyD)))
 | d=>gList d
theorem a7z {α:Type}:∀{ks:List α} {vs:List V},ks.length=vs.length->(ks.zip vs).map (·.1)=ks
 | [],_,_=>by simp
 | _ :: _,[],h=>by simp at h
 | k :: ks,v :: vs,h=>by rw [List.zip_cons_cons,List.map_cons,a7z (by simpa using h)]
theorem a9Q:PrA X (k1 gListD) (fun xs H Q=>(∃p ys,xs=[.ref p]/\(SqL X.K H p ys\/SqT X.K H p ys)/\∀l,H l=none->Q (.ref l) (upd H l (.lst ys)))\/
  ∃(p:Addr) (kvs:List (List Key×V)),xs=[.ref p]/\H p=some (.dT kvs)/\∀l bs,H l=none->KeysAt H (kvs.map (·.1)) bs->Q (.ref l) (upd H l (.lst (bs.map V.ref)))):=fun A ds w vs H Q hA e l q=>by
 match ds,e,l with
 | [d],e,l=>
  have e:gListD d=some w:=e
  by_cases hd:∃ks xs,d= .dT ks xs
  ·obtain ⟨ks,xs,rfl⟩:=hd
   cases e
   obtain ⟨v,rfl,h⟩:=denRL1 l
   obtain ⟨a,us,rfl,hq,hl,lu⟩:=h
   refine .inr ⟨a,_,rfl,hq,fun l bs hp hk=>q _ _ (k5 hp _) (C3 hp ?_)⟩
   rw [a7z (by rw [hl,c7 lu])] at hk
   exact hk.den
  ·have e':gList d=some w:=by
    cases d <;> first | exact e | exact absurd ⟨_,_,rfl⟩ hd
   exact .inl (b1A A [d] w vs H Q hA e' l q)
theorem a1t (hc:X.calm=true)(hm:X.mg "list"=none)(ha:QA X (e :: es) fa)(hv:bootBuiltins "list"=some (.type "list"):=by rfl)(hg:Gl X "list":=by rfl)
  (he:starEach (e :: es) X.env=(false,eval e X.env) :: starEach es X.env:=by rfl) (hpl:(backTo pos (starEach es X.env)).any (·.1)=false:=by rfl):QX X (.Call (.Name "list" p) (e :: es) [] pos) (fCall (k1 gListD) fa):=a5A (a5j.or (a6m hc)) a9Q hv hm ha hg (by decide) (by decide) he hpl
theorem a9G {id:String}{m:Str}{r:V->List V->Hp->VK->Prop}{op:List D->List D->Option (W×List D)}(hs0:Slot "list" m id)(ht0:typeOf (.builtin id)=pure (.type "method_descriptor"))(hm:MtR X id r)(hk:PrM X op r)(hw:∀xs ds w ys,op xs ds=some (w,ys)->∃d,w= .v d)
  (ho:QX X o f) (ha:QA X (e :: es) fa) (hbase:attributeBase o m X.env (eval o X.env)=eval o X.env)
  (hfew:((backTo pos (starEach (e :: es) X.env)).all (fun x=>!x.1) && (backToKw pos (keywordEach [] X.env)).all (fun x=>x.1.isSome) && decide ((e :: es).length + ([]:List Keyword).length + (if ([]:List Keyword).isEmpty then 0 else 1) < 30))=true)
  (hline:(apos.endLine == pos.line)=true) (hs:starEach (e :: es) X.env=(false,eval e X.env) :: starEach es X.env) (hpl:(backTo pos (starEach es X.env)).any (·.1)=false):QX X (.Call (.Attribute o m apos) (e :: es) [] pos) (fMut op f fa):=
 ⟨PE.weak (a9J PySem.F.plainAttrs_list hs0 ht0 hm ho.to ha.to hbase hfew hline hs hpl) (a3b hk hw)⟩
theorem a8z (T:String)(hT:T="list"\/T="tuple")(l b:Addr)(items items2:Array Value)(n n2:Nat)(dd:Option Addr)(sl:Array (Option Value))(h0:¬(!items.isEmpty && Builtin.List.listTooLong (items.size + items2.size))=true)(h1:items.size<=sizeLine)(h2:items.size + items2.size<=sizeLine + 1):
  Meets (Builtin.«list.extend» ⟨[.ref l,.ref b],[]⟩) (fun _ R s=>s.heap.get? l=some {cls:=.type "list",dict:=none,data:=.seq items n,slots:= #[]}/\s.heap.get? b=some {cls:=.type T,dict:=dd,data:=.seq items2 n2,slots:=sl}/\
   R (.ok (.ret Value.none)) {s with heap:=s.heap.update l (PySem.Obj.mapSeq fun x=>x ++ items2),toks:=s.toks}):=
 .of_wp fun prog w A R s hh=>by
  obtain ⟨hp,g,d,tk,os⟩:=s
  obtain ⟨hl,hb,hr⟩:=hh
  have f1:=PySem.AutoSeq1.idx_int
  have f2:=PySem.AutoSeq1.sub_tuple_tuple
  have f3:=PySem.AutoSeq1.sub_list_list
  have f4:=PySem.AutoSeq1.sub_tuple_list
  have f5:=PySem.AutoSeq1.sub_list_tuple
  have hz:(items ++ items2).size<=sizeLine + 1:=by rw [Array.size_append];exact h2
  rcases hT with rfl | rfl
  ·wp_walk using (wpAny_updateSeq hl rfl (hz:=h1) (_hz':=hz)),PySem.AutoSeq1.wpAny_loadPart' hl,PySem.AutoSeq1.wpAny_loadPart' hb
   exact ⟨_,rfl,hr⟩
  ·wp_walk using (wpAny_updateSeq hl rfl (hz:=h1) (_hz':=hz)),PySem.AutoSeq1.wpAny_loadPart' hl,PySem.AutoSeq1.wpAny_loadPart' hb
   exact ⟨_,rfl,hr⟩
def rExt (K:PySem.W.Frag):V->List V->Hp->VK->Prop:=fun x vs H Q=>∃l b xs zs,x= .ref l/\vs=[.ref b]/\H l=some (.lst xs)/\(SqL K H b zs\/SqT K H b zs)/\xs.length + zs.length<=sizeLine/\Q .non (upd H l (.lst (xs ++ zs)))
theorem b3t:MtR X "list.extend" (rExt X.K):=by
 intro pins s σ H x vs v us Q I rx rv ⟨l,b,xs,zs,ex,ev,hH,hB,hz,q⟩
 subst ex ev
 cases rx
 obtain ⟨u,rfl,ru⟩:=rv.one
 cases ru
 obtain ⟨z,its,n,r,hl,el⟩:=I.lstM hH
 have src:∃(T:String) (its2:List Value) (n2:Nat) (dd:Option Addr) (sl:Array (Option Value)),(T="list"\/T="tuple")/\Vals zs its2/\s.heap.get? b=some {cls:=.type T,dict:=dd,data:=.seq its2.toArray n2,slots:=sl}:=by
  rcases hB with hB | hB
  ·obtain ⟨its2,r2,⟨⟨oc,od,oda,osl⟩,n2,ho,hc,_,hd⟩,_⟩:=I.list hB
   dsimp only at hc hd
   subst hc hd
   exact ⟨"list",its2,n2,od,osl,.inl rfl,r2,ho⟩
  ·obtain ⟨its2,r2,⟨⟨oc,od,oda,osl⟩,ho,hc,n2,hd⟩,_⟩:=I.tuple hB
   dsimp only at hc hd
   subst hc hd
   exact ⟨"tuple",its2,n2,od,osl,.inr rfl,r2,ho⟩
 obtain ⟨T,its2,n2,od,osl,hT,r2,ho⟩:=src
 have hl2:=r2.length
 have hsz:its.toArray.size + its2.toArray.size<=sizeLine:=by rw [List.size_toArray,List.size_toArray];walk_at "o"
 refine call_meets F.slot_list_extend ⟨_,el,rfl⟩ F.entry_list_extend (F.args_list_extend_2 _ _) (a8z T hT l b its.toArray its2.toArray n n2 od osl (fun w=>?_) (by rw [List.size_toArray];walk_at "o") (by walk_at "o")) ⟨el,ho,?_⟩
 ·rw [notLongL hsz,Bool.and_false] at w;cases w
 ·exact ⟨.non,_,I.lset (its':=its ++ its2) hH el (by simp) (r.append r2) (by rw [List.length_append];walk_at "o"),rfl,q⟩
def mExt (xs ds:List D):Option (W×List D):=match ds with
 | [d]=>(items d).bind fun ys=>if xs.length + ys.length<=lim then some (.v .non,xs ++ ys) else none
 | _=>none
theorem b3Q:PrM X mExt (rExt X.K):=fun A a xs ds w ys us vs H Q h l l' e q _=>by
 unfold mExt at e
 split at e
 ·rename_i d
  cases e1:items d with
  | none=>rw [e1] at e;cases e
  | some zs=>
   rw [e1] at e
   simp only [Option.bind_some] at e
   split at e
   ·rename_i hl
    cases e
    obtain ⟨v,rfl,hv⟩:=denL1 l'
    obtain ⟨b,ws,rfl,hq,lz⟩:=P3 e1 (M6 hv)
    exact ⟨a,b,us,ws,rfl,rfl,h,hq,by rw [<-c7 l,<-c7 lz];exact Nat.le_trans hl z8,q _ _ (t7 l lz) a0k⟩
   ·cases e
 ·cases e
theorem b3d:∀xs ds w ys,mExt xs ds=some (w,ys)->∃d,w= .v d:=fun xs ds w ys e=>by
 unfold mExt at e
 split at e
 ·rename_i d
  cases e1:items d with
  | none=>rw [e1] at e;cases e
  | some zs=>
   rw [e1] at e
   simp only [Option.bind_some] at e
   split at e
   ·cases e;exact ⟨_,rfl⟩
   ·cases e
 ·cases e
theorem a36 (ho:QX X o f)(ha:QA X (e :: es) fa)(hbase:attributeBase o "extend" X.env (eval o X.env)=eval o X.env:=by rfl)
  (hfew:((backTo pos (starEach (e :: es) X.env)).all (fun x=>!x.1) && (backToKw pos (keywordEach [] X.env)).all (fun x=>x.1.isSome) && decide ((e :: es).length + ([]:List Keyword).length + (if ([]:List Keyword).isEmpty then 0 else 1) < 30))=true:=by rfl)
  (hline:(apos.endLine == pos.line)=true:=by rfl) (hs:starEach (e :: es) X.env=(false,eval e X.env) :: starEach es X.env:=by rfl) (hpl:(backTo pos (starEach es X.env)).any (·.1)=false:=by rfl):QX X (.Call (.Attribute o "extend" apos) (e :: es) [] pos) (fMut mExt f fa):=
 a9G PySem.F.slot_list_extend PySem.F.type_list_extend b3t b3Q b3d ho ha hbase hfew hline hs hpl
theorem a3l {K:PySem.W.Frag}{A:Av}{H:Hp}:∀{ds:List D} {vs:List V} (n:Nat),DenL K A H ds vs->DenL K A H (ds.eraseIdx n) (vs.eraseIdx n)
 | [],_,n,h=>by rw [DenL] at h;subst h;exact j9
 | d :: ds,_,0,h=>by
  rw [DenL] at h
  obtain ⟨v,r,rfl,_,l⟩:=h
  exact l
 | d :: ds,_,n + 1,h=>by
  rw [DenL] at h
  obtain ⟨v,r,rfl,hv,l⟩:=h
  exact j8 hv (a3l n l)
def mPopAt (xs ds:List D):Option (W×List D):=match ds with
 | [.int i]=>if 0<=i/\i < 2 ^ 62 then (xs[i.toNat]?).map fun d=>(.v d,xs.eraseIdx i.toNat) else none
 | _=>none
theorem a9m:PrM X mPopAt rPopAt:=fun A a xs ds w ys us vs H Q h l l' e q _=>by
 unfold mPopAt at e
 split at e
 ·rename_i i
  split at e
  ·rename_i hi
   obtain ⟨d,e1,e⟩:=oms e
   cases e
   obtain ⟨v,rfl,hv⟩:=denL1 l'
   obtain ⟨z,hz,dz⟩:=w9 l e1
   have lt:=(List.getElem?_eq_some_iff.mp e1).1
   refine ⟨a,us,i,i.toNat,z,rfl,by rw [F5.mp hv],h,by walk_at "o",by walk_at "o",?_,hz,q _ _ (a3l _ l) dz⟩
   rw [seqIndex_of hi.1 (by rw [<-c7 l];walk_at "o")]
  ·cases e
 ·cases e
theorem b0r:∀xs ds w ys,mPopAt xs ds=some (w,ys)->∃d,w= .v d:=fun xs ds w ys e=>by
 unfold mPopAt at e
 split at e
 ·rename_i i
  split at e
  ·cases e1:xs[i.toNat]? with
   | none=>rw [e1] at e;cases e
   | some d=>rw [e1] at e;cases e;exact ⟨_,rfl⟩
  ·cases e
 ·cases e
theorem a51 (ho:QX X o f)(ha:QA X (e :: es) fa)(hbase:attributeBase o "pop" X.env (eval o X.env)=eval o X.env:=by rfl)
  (hfew:((backTo pos (starEach (e :: es) X.env)).all (fun x=>!x.1) && (backToKw pos (keywordEach [] X.env)).all (fun x=>x.1.isSome) && decide ((e :: es).length + ([]:List Keyword).length + (if ([]:List Keyword).isEmpty then 0 else 1) < 30))=true:=by rfl)
  (hline:(apos.endLine == pos.line)=true:=by rfl) (hs:starEach (e :: es) X.env=(false,eval e X.env) :: starEach es X.env:=by rfl) (hpl:(backTo pos (starEach es X.env)).any (·.1)=false:=by rfl):QX X (.Call (.Attribute o "pop" apos) (e :: es) [] pos) (fMut mPopAt f fa):=
 a9G PySem.F.slot_list_pop PySem.F.type_list_pop b0B a9m b0r ho ha hbase hfew hline hs hpl
end
theorem b1U {X:Cx}(i:Nat){x:Str}{pos:Pos}(hN:X.N[i]? =some x:=by rfl)(hv:Vis X.env.scope x:=by first | exact Or.inl rfl | exact Or.inr (Or.inl rfl) | exact Or.inr (Or.inr rfl))(hd:(x == ("__debug__":Str))=false:=by decide)(hcd:(x == ("__classdict__":Str))=false:=by decide):PE X (.Name x pos) (tVar i):=a6y hN hv hd hcd
def memK {κ:Type} [DecidableEq κ] (k:κ) (ks:List κ):Bool:=decide (k∈ks)
theorem a9P {κ:Type} [DecidableEq κ] {k:κ}{ks:List κ}:memK k ks=true↔k∈ks:=by unfold memK;exact decide_eq_true_iff
theorem a7Y {κ:Type} [DecidableEq κ] {ks:List κ}{xs:List D}{k:κ}(h:ks.length=xs.length):(look ks xs k).isSome=memK k ks:=a5H h
section
variable {f g h:FX}{t u:FT}{fa:FA}{F G:FS}{ρ ρ1 ρ2:Ev}{w z:W}{ws:List W}{d e x y:D}{ds xs ys:List D}{i j k:Nat}{m n:Int}{b:Bool}{kl:List (List Key)}{kk:List Key}{kq:List Key}{kx:Key}
theorem b3e:oIxG (.tup xs) d=oIx (.tup xs) d:=rfl
theorem b2E:oIxG (.lst xs) d=oIx (.lst xs) d:=rfl
theorem a9k (hk:tkey d=some kk)(hl:look kl xs kk=some e):oIxG (.dT kl xs) d=some (.v e):=by
 unfold oIxG;simp only [isDi,if_true,lookG,hk,Option.map_some,Option.bind_some,hl]
theorem a9i (hk:tkey d=some kk)(hl:kl.length=xs.length):oInG b d (.dT kl xs)=some (nb b (memK kk kl)):=by
 unfold oInG;simp only [isDi,if_true,lookG,hk,Option.map_some,a7Y hl]
theorem a7n {ns:List Int}(hi:intsOf xs=some ns):oInG b (.int n) (.lst xs)=some (nb b (decide (n∈ns))):=by
 unfold oInG;simp only [isDi,Bool.false_eq_true,if_false,items,Option.bind_some,hi,Option.map_some]
theorem b12 {ns:List Int}{js:List (List Int)}(hx:intsOf ds=some ns)(hi:tupsOf xs=some js):oInG b (.tup ds) (.lst xs)=some (nb b (decide (ns∈js))):=by
 unfold oInG;simp only [isDi,Bool.false_eq_true,if_false,hx,items,Option.bind_some,hi,Option.map_some]
theorem nb_f {k:Bool}:nb false k= .v (.bl k):=rfl
theorem nb_t {k:Bool}:nb true k= .v (.bl (!k)):=rfl
def ge2 (fa:FA):Option (W×Ev)->Option (W×Ev)
 | some p=>fGet (fun _=>some p) fa p.2
 | none=>none
def ge3 (fa:FA) (w:W) (ρ:Ev):Option D->Option (W×Ev)
 | some d=>if isDi d=true then (fa ρ).bind fun q=>(takeAll q.2 q.1).bind fun z=>(dr z.2 w.fz).bind fun x=>match z.1 with
  | [y,e]=>(lookG x y).map fun r=>(.v (r.getD e),z.2)
  | _=>none
  else none
 | none=>none
def ge4 (w:W):Option (List W×Ev)->Option (W×Ev)
 | some q=>(takeAll q.2 q.1).bind fun z=>(dr z.2 w.fz).bind fun x=>match z.1 with
  | [y,e]=>(lookG x y).map fun r=>(.v (r.getD e),z.2)
  | _=>none
 | none=>none
def ge5 (w:W):Option (List D×Ev)->Option (W×Ev)
 | some z=>(dr z.2 w.fz).bind fun x=>match z.1 with
  | [y,e]=>(lookG x y).map fun r=>(.v (r.getD e),z.2)
  | _=>none
 | none=>none
def ge6 (y e:D) (ρ:Ev):Option D->Option (W×Ev)
 | some x=>(lookG x y).map fun r=>(.v (r.getD e),ρ)
 | none=>none
theorem r_ge:fGet f fa ρ=ge2 fa (f ρ):=by unfold ge2;cases e:f ρ with
 | none=>unfold fGet;rw [e];rfl
 | some p=>unfold fGet;rw [e]
theorem r_ge2:ge2 fa (some (w,ρ))=ge3 fa w ρ (dr ρ w.fz):=by unfold ge2 ge3 fGet;dsimp only [Option.bind_some];cases dr ρ w.fz <;> rfl
theorem b1N:ge3 fa w ρ (some (.dT kl xs))=ge4 w (fa ρ):=by unfold ge3 ge4;simp only [isDi,if_true];cases fa ρ <;> rfl
theorem r_ge3_K:ge3 fa w ρ (some (.dK kq xs))=ge4 w (fa ρ):=by unfold ge3 ge4;simp only [isDi,if_true];cases fa ρ <;> rfl
theorem r_ge4:ge4 w (some (ws,ρ))=ge5 w (takeAll ρ ws):=by unfold ge4 ge5;dsimp only;cases takeAll ρ ws <;> rfl
theorem r_ge5:ge5 w (some ([y,e],ρ))=ge6 y e ρ (dr ρ w.fz):=by unfold ge5 ge6;dsimp only;cases dr ρ w.fz <;> rfl
theorem b1f (hk:tkey y=some kk):ge6 y e ρ (some (.dT kl xs))=some (.v ((look kl xs kk).getD e),ρ):=by unfold ge6;simp only [lookG,hk,Option.map_some]
theorem tk_2:tkey (.tup [.int m,.int n])=some [Sum.inl m,Sum.inl n]:=rfl
theorem a20:∀ns:List Int,dkeys (ns.map D.int)=some (ns.map Sum.inl)
 | []=>rfl
 | n :: ns=>by rw [List.map_cons,dkeys,a20 ns];rfl
theorem a2O (ns:List Int):tkey (tupI ns)=some (ns.map Sum.inl):=a20 ns
def dp2 (fd:FX) (fk:FA):Option (W×Ev)->Option R
 | some p=>fDPutT fd fk (fun _=>some p) p.2
 | none=>none
def dp3 (w:W) (fk:FA):Option (W×Ev)->Option R
 | some q=>match q.1 with
  | .r i=>(fk q.2).bind fun z=>(takeAll z.2 (w.fz :: z.1)).bind fun y=>match y.1 with
   | d :: ds=>(dkeys ds).bind fun k=>match ownAt y.2 i with
    | some (.dT ks xs)=>if ks.length < lim/\ds.length<=lim then some (.nx (setOwn y.2 i (.dT (putKs ks k) (putX ks xs k d)))) else none
    | _=>none
   | _=>none
  | _=>none
 | none=>none
def dp4 (w:W) (i:Nat):Option (List W×Ev)->Option R
 | some z=>(takeAll z.2 (w.fz :: z.1)).bind fun y=>match y.1 with
   | d :: ds=>(dkeys ds).bind fun k=>match ownAt y.2 i with
    | some (.dT ks xs)=>if ks.length < lim/\ds.length<=lim then some (.nx (setOwn y.2 i (.dT (putKs ks k) (putX ks xs k d)))) else none
    | _=>none
   | _=>none
 | none=>none
def dp5 (i:Nat):Option (List D×Ev)->Option R
 | some y=>match y.1 with
   | d :: ds=>(dkeys ds).bind fun k=>match ownAt y.2 i with
    | some (.dT ks xs)=>if ks.length < lim/\ds.length<=lim then some (.nx (setOwn y.2 i (.dT (putKs ks k) (putX ks xs k d)))) else none
    | _=>none
   | _=>none
 | none=>none
def dp6 (i:Nat) (d:D) (ds:List D) (ρ:Ev):Option (List Key)->Option D->Option R
 | some k,some (.dT ks xs)=>if ks.length < lim/\ds.length<=lim then some (.nx (setOwn ρ i (.dT (putKs ks k) (putX ks xs k d)))) else none
 | _,_=>none
theorem r_dp:fDPutT f fa g ρ=dp2 f fa (g ρ):=by unfold dp2;cases e:g ρ with
 | none=>unfold fDPutT;rw [e];rfl
 | some p=>unfold fDPutT;rw [e]
theorem r_dp2:dp2 f fa (some (w,ρ))=dp3 w fa (f ρ):=by unfold dp2 dp3 fDPutT;dsimp only [Option.bind_some];cases f ρ <;> rfl
theorem r_dp3:dp3 w fa (some (.r i,ρ))=dp4 w i (fa ρ):=by unfold dp3 dp4;dsimp only;cases fa ρ <;> rfl
theorem r_dp4:dp4 w i (some (ws,ρ))=dp5 i (takeAll ρ (w.fz :: ws)):=by unfold dp4 dp5;dsimp only;cases takeAll ρ (w.fz :: ws) <;> rfl
theorem r_dp5:dp5 i (some (d :: ds,ρ))=dp6 i d ds ρ (dkeys ds) (ownAt ρ i):=by
 unfold dp5 dp6
 dsimp only
 cases dkeys ds with
 | none=>cases ownAt ρ i <;> rfl
 | some k=>
  dsimp only [Option.bind_some]
  cases ownAt ρ i with
  | none=>rfl
  | some x=>cases x <;> rfl
theorem r_dp6:dp6 i d ds ρ (some kk) (some (.dT kl xs))=if kl.length < lim/\ds.length<=lim then some (.nx (setOwn ρ i (.dT (putKs kl kk) (putX kl xs kk d)))) else none:=rfl
theorem dks_0:dkeys []=some []:=rfl
theorem dks_i:dkeys (.int m :: ds)=(dkeys ds).map fun ks=>Sum.inl m :: ks:=by rw [dkeys];rfl
theorem r_dnT:fDNewT ρ=some (.o (.dT [] []),ρ):=rfl
theorem a4s (h:kk∉kl):putKs kl kk=kl ++ [kk]/\putX kl xs kk d=xs ++ [d]:=⟨if_neg h,if_neg h⟩
theorem o_rep (h:(-(2 ^ 63)<=n/\n < 2 ^ 63)/\xs.length * n.toNat<=lim):oRep (.lst xs) (.int n)=some (.o (.lst (List.replicate n.toNat xs).flatten)):=if_pos h
theorem b2S:oBits (.int n)=some (.v (.int (Builtin.Int.intBits n:Nat))):=by cases n <;> exact rfl
theorem r_ext:mExt xs [d]=(items d).bind fun ys=>if xs.length + ys.length<=lim then some (.v .non,xs ++ ys) else none:=rfl
theorem b4r:gListD (.dT kl xs)=some (.o (.lst (kl.map keyD))):=rfl
theorem b4u:gListD (.lst xs)=some (.o (.lst xs)):=rfl
theorem a8M:gListD (.tup xs)=some (.o (.lst xs)):=rfl
theorem b0Q {ks:List (List Int)}(hi:gSortI (.lst xs)=none)(ht:tupsOf xs=some ks)(h64:ks.length < 64)(ne:∀k∈ks,k≠[]):gSort (.lst xs)=some (.o (.lst ((sortK ks).map tupI))):=by
 unfold gSort gSortT;rw [hi];simp only [keysOf,ht,Option.bind_some];exact if_pos ⟨h64,ne⟩
theorem a8I {k:List Int}{ks:List (List Int)}:gSortI (.lst ((k :: ks).map tupI))=none:=rfl
theorem a0o {ks:List (List Int)}(h64:ks.length < 64)(ne:∀k∈ks,k≠[]):gSort (.lst (ks.map tupI))=some (.o (.lst ((sortK ks).map tupI))):=by
 cases ks with
 | nil=>simp [gSort,gSortI,intsOf,sortI,sortK]
 | cons k ks=>exact b0Q a8I (L4 _) h64 ne
theorem b1t (h:n.natAbs < 2 ^ k):Builtin.Int.intBits n<=k:=by
 unfold Builtin.Int.intBits
 split
 ·walk_at "o"
 ·rename_i h0
  have h0':n.natAbs≠0:=by intro z;apply h0;simp;walk_at "o"
  have:=(Nat.log2_lt h0').mpr h
  walk_at "o"
theorem a2R {k:Nat}{gf:FG}(I:Ev->Prop)(hI:∀B,I B->B.length=k)(key:D->List Key)(val:D->D):∀(xs:List D),(∀x∈xs,∀B ks zs,I B->ks.length < lim->∃B',I B'/\turnCD k gf t fa j x (B ++ [some (.l (.dT ks zs))])=some (B' ++ [some (.l (.dT (putKs ks (key x)) (putX ks zs (key x) (val x))))]))->
  ∀(B:Ev) (ks:List (List Key)) (zs:List D),ks.length=zs.length->ks.length + xs.length<=lim->I B->(ks ++ xs.map key).Nodup->∃B',I B'/\loopC (turnCD k gf t fa j) xs (B ++ [some (.l (.dT ks zs))])=some (B' ++ [some (.l (.dT (ks ++ xs.map key) (zs ++ xs.map val)))])
 | [],st,B,ks,zs,hz,hl,i,nd=>⟨B,i,by simp [loopC]⟩
 | x :: xs,st,B,ks,zs,hz,hl,i,nd=>by
  rw [List.length_cons] at hl
  obtain ⟨B1,i1,e1⟩:=st x List.mem_cons_self B ks zs i (by walk_at "o")
  have nin:key x∉ks:=fun z=>by
   rw [List.map_cons] at nd
   exact (List.nodup_append.mp nd).2.2 _ z _ List.mem_cons_self rfl
  obtain ⟨p1,p2⟩:=a4s (xs:=zs) (d:=val x) nin
  rw [p1,p2] at e1
  obtain ⟨B2,i2,e2⟩:=a2R I hI key val xs (fun y hy=>st y (List.mem_cons_of_mem _ hy)) B1 (ks ++ [key x]) (zs ++ [val x]) (by simp [hz]) (by rw [List.length_append,List.length_singleton];walk_at "o") i1 (by rw [List.append_assoc];exact nd)
  exact ⟨B2,i2,by rw [loopC,e1];simp only [Option.bind_some];rw [e2,List.append_assoc,List.append_assoc];rfl⟩
theorem a8b {fi:FI}{js:List (Option Nat)}{gf:FG}{ρ ρ1:Ev}(I:Ev->Prop)(key:D->List Key)(val:D->D)(ei:fi ρ=some (xs,ρ1))(hI:∀B,I B->B.length=js.length)(h0:I (capE none js ρ1))(hl:xs.length<=lim)(hf:lfL (xs.map val)=true)(nd:(xs.map key).Nodup)
  (st:∀x∈xs,∀B ks zs,I B->ks.length < lim->∃B',I B'/\turnCD js.length gf t fa j x (B ++ [some (.l (.dT ks zs))])=some (B' ++ [some (.l (.dT (putKs ks (key x)) (putX ks zs (key x) (val x))))])):
  fDComp fi none js gf t fa j ρ=some (.o (.dT (xs.map key) (xs.map val)),ρ1):=by
 obtain ⟨B',i',e⟩:=a2R I hI key val xs st (capE none js ρ1) [] [] rfl (by rw [List.length_nil];walk_at "o") h0 (by simpa using nd)
 unfold fDComp
 rw [ei]
 simp only [Option.bind_some,liB,if_true,Option.map_none]
 rw [e]
 have ha:ownAt (B' ++ [some (.l (.dT ([] ++ xs.map key) ([] ++ xs.map val)))]) js.length=some (.dT (xs.map key) (xs.map val)):=by
  unfold ownAt
  rw [List.getElem?_append_right (by rw [hI B' i'];exact Nat.le_refl _),hI B' i',Nat.sub_self];rfl
 simp only [Option.bind_some,ha,backCD,hf,if_true]
def td2 (k j:Nat) (t:FT) (fa:FA):Option Ev->Option Ev
 | some ρ1=>(t ρ1).bind fun p=>if p.1=true then (fa p.2).bind (putTo k j) else some p.2
 | none=>none
def td3 (k j:Nat) (fa:FA):Option (Bool×Ev)->Option Ev
 | some p=>if p.1=true then (fa p.2).bind (putTo k j) else some p.2
 | none=>none
def td4 (k j:Nat):Option (List W×Ev)->Option Ev
 | some p=>putTo k j p
 | none=>none
def pt2 (k j:Nat):Option (List D×Ev)->Option Ev
 | some q=>(dkeys q.1).bind fun kk=>match q.2[j]? with
  | some (some (.v d))=>match ownAt q.2 k with
   | some (.dT ks zs)=>if ks.length < lim/\q.1.length<=lim then some (setOwn q.2 k (.dT (putKs ks kk) (putX ks zs kk d))) else none
   | _=>none
  | _=>none
 | none=>none
def pt3 (k:Nat) (n:Nat) (ρ:Ev):Option (List Key)->Option (Option W)->Option D->Option Ev
 | some kk,some (some (.v d)),some (.dT ks zs)=>if ks.length < lim/\n<=lim then some (setOwn ρ k (.dT (putKs ks kk) (putX ks zs kk d))) else none
 | _,_,_=>none
theorem r_td {gf:FG}:turnCD k gf t fa j d ρ=td2 k j t fa (gf d ρ):=by unfold turnCD td2;cases gf d ρ <;> rfl
theorem r_td2:td2 k j t fa (some ρ)=td3 k j fa (t ρ):=by unfold td2 td3;dsimp only;cases t ρ <;> rfl
theorem r_td3:td3 k j fa (some (true,ρ))=td4 k j (fa ρ):=by unfold td3 td4;simp only [if_true];cases fa ρ <;> rfl
theorem r_td4:td4 k j (some (ws,ρ))=pt2 k j (takeAll ρ ws):=by unfold td4 putTo pt2;dsimp only;cases takeAll ρ ws <;> rfl
theorem r_pt2:pt2 k j (some (ds,ρ))=pt3 k ds.length ρ (dkeys ds) ρ[j]? (ownAt ρ k):=by
 unfold pt2 pt3
 dsimp only
 cases dkeys ds with
 | none=>rfl
 | some kk=>
  dsimp only [Option.bind_some]
  cases ρ[j]? with
  | none=>rfl
  | some o=>
   cases o with
   | none=>rfl
   | some w=>
    cases w with
    | v d=>
     cases ownAt ρ k with
     | none=>rfl
     | some x=>cases x <;> rfl
    | _=>rfl
theorem r_pt3 {n:Nat}:pt3 k n ρ (some kk) (some (some (.v d))) (some (.dT kl xs))=if kl.length < lim/\n<=lim then some (setOwn ρ k (.dT (putKs kl kk) (putX kl xs kk d))) else none:=rfl
end
abbrev Tie:=Int×Int×Int
def tieD (t:Tie):D:=.tup [.int t.1,.int t.2.1,.int t.2.2]
def webD (n:Int) (ts:List Tie):D:=.tup [.int n,.tup (ts.map tieD)]
def tkK (t:Tie):List Key:=[Sum.inl t.1,Sum.inl t.2.1]
def parK (n:Int) (ts:List Tie):List (List Int):=((List.range n.toNat).map fun (i:Nat)=>[(i:Int)]) ++ ts.map fun t=>[t.1,t.2.1]
structure WebOk (n:Int) (ts:List Tie):Prop where
 n1:1<=n/\n<=8
 t:∀t∈ts,0<=t.1/\t.1 < t.2.1/\t.2.1 < n/\1<=t.2.2/\t.2.2<=10 ^ 12
 nd:(ts.map fun t=>(t.1,t.2.1)).Nodup
 len:ts.length<=55
def gainOf:List Tie->List Int->Int
 | [],_=>0
 | t :: ts,k=>if [t.1,t.2.1]=k then t.2.2 else gainOf ts k
theorem a2L {a b:List Int}(h:a.map (Sum.inl:Int->Key)=b.map Sum.inl):a=b:=by
 induction a generalizing b with
 | nil=>cases b with | nil=>rfl | cons _ _=>cases h
 | cons x a ih=>cases b with
  | nil=>cases h
  | cons y b=>rw [List.map_cons,List.map_cons] at h;injection h with h1 h2;injection h1 with h1;rw [h1,ih h2]
theorem b0j (t:Tie):tkK t=[t.1,t.2.1].map Sum.inl:=rfl
theorem a3U:∀(ts:List Tie) (k:List Int),(look (ts.map tkK) (ts.map fun t=>D.int t.2.2) (k.map Sum.inl)).getD (.int 0)= .int (gainOf ts k)
 | [],k=>rfl
 | t :: ts,k=>by
  rw [List.map_cons,List.map_cons,look,gainOf]
  by_cases h:[t.1,t.2.1]=k
  ·rw [if_pos (by rw [b0j,h]),if_pos h];rfl
  ·rw [if_neg (show ¬tkK t=k.map Sum.inl from fun z=>h (a2L z)),if_neg h];exact a3U ts k
theorem a0O:∀{ts:List Tie} {k:List Int},k∈(ts.map fun t=>[t.1,t.2.1])->look (ts.map tkK) (ts.map fun t=>D.int t.2.2) (k.map Sum.inl)=some (.int (gainOf ts k))
 | [],k,h=>by cases h
 | t :: ts,k,h=>by
  rw [List.map_cons,List.map_cons,look,gainOf]
  by_cases e:[t.1,t.2.1]=k
  ·rw [if_pos (by rw [b0j,e]),if_pos e]
  ·rw [if_neg (show ¬tkK t=k.map Sum.inl from fun z=>e (a2L z)),if_neg e]
   rcases List.mem_cons.mp h with rfl | h
   ·exact absurd rfl e
   ·exact a0O h
theorem R7 (i:Int):∀ts:List Tie,gainOf ts [i]=0
 | []=>rfl
 | t :: ts=>by rw [gainOf,if_neg (by simp),R7 i ts]
theorem a4i {n:Int}{ts:List Tie}(h:∀t∈ts,0<=t.1/\t.1 < t.2.1/\t.2.1 < n/\1<=t.2.2/\t.2.2<=10 ^ 12)(k:List Int):0<=gainOf ts k/\gainOf ts k<=10 ^ 12:=by
 induction ts with
 | nil=>exact ⟨Int.le_refl _,by show (0:Int)<=10 ^ 12;decide⟩
 | cons t ts ih=>
  rw [gainOf]
  split
  ·have:=h t List.mem_cons_self;omega
  ·exact ih fun t ht=>h t (List.mem_cons_of_mem _ ht)
def oneK (n:Nat):List (List Key):=(List.range n).map fun (i:Nat)=>[Sum.inl (i:Int)]
theorem a9q {ks js:List (List Key)}{xs ys:List D}{k:List Key}(h:ks.length=xs.length):look (ks ++ js) (xs ++ ys) k=match look ks xs k with | some d=>some d | none=>look js ys k:=by
 induction ks generalizing xs with
 | nil=>cases xs with | nil=>rfl | cons _ _=>simp at h
 | cons k' ks ih=>
  cases xs with
  | nil=>simp at h
  | cons x xs=>
   rw [List.cons_append,List.cons_append,look,look]
   split
   ·rfl
   ·exact ih (by simpa using h)
theorem a39 {n:Nat}{k:List Key}:(k∈oneK n->look (oneK n) (List.replicate n (D.int 0)) k=some (.int 0))/\(k∉oneK n->look (oneK n) (List.replicate n (D.int 0)) k=none):=by
 have key:∀(ks:List (List Key)),(k∈ks->look ks (List.replicate ks.length (D.int 0)) k=some (.int 0))/\(k∉ks->look ks (List.replicate ks.length (D.int 0)) k=none):=by
  intro ks
  induction ks with
  | nil=>exact ⟨fun h=>(nomatch h),fun _=>rfl⟩
  | cons k' ks ih=>
   rw [List.length_cons,List.replicate_succ,look]
   by_cases h:k'=k
   ·rw [if_pos h]
    exact ⟨fun _=>rfl,fun z=>absurd (by simp [h]) z⟩
   ·have h':¬k=k':=fun z=>h z.symm
    rw [if_neg h]
    exact ⟨fun z=>ih.1 (by simpa [h'] using z),fun z=>ih.2 (fun m=>z (List.mem_cons_of_mem _ m))⟩
 have:=key (oneK n)
 rwa [show (oneK n).length=n by unfold oneK;simp] at this
theorem a5v {n:Int}{ts:List Tie}{k:List Int}(hk:k∈parK n ts):look (oneK n.toNat ++ ts.map tkK) (List.replicate n.toNat (D.int 0) ++ ts.map fun t=>D.int t.2.2) (k.map Sum.inl)=some (.int (gainOf ts k)):=by
 rw [a9q (by unfold oneK;simp)]
 unfold parK at hk
 rcases List.mem_append.mp hk with h | h
 ·obtain ⟨i,hi,rfl⟩:=List.mem_map.mp h
  rw [show look (oneK n.toNat) (List.replicate n.toNat (D.int 0)) ([(i:Int)].map Sum.inl)=some (.int 0) from a39.1 (by unfold oneK;exact List.mem_map.mpr ⟨i,hi,rfl⟩),R7]
 ·obtain ⟨t,ht,rfl⟩:=List.mem_map.mp h
  rw [show look (oneK n.toNat) (List.replicate n.toNat (D.int 0)) ([t.1,t.2.1].map Sum.inl)=none from a39.2 (by unfold oneK;intro z;obtain ⟨i,_,e⟩:=List.mem_map.mp z;exact absurd (congrArg List.length e) (by simp))]
  exact a0O (List.mem_map.mpr ⟨t,ht,rfl⟩)
theorem a1A {n:Int}{ts:List Tie}(h:WebOk n ts):(parK n ts).length<=63/\∀k∈parK n ts,k≠[]:=by
 unfold parK
 refine ⟨by rw [List.length_append,List.length_map,List.length_map,List.length_range];have:=h.n1;have:=h.len;walk_at "o",fun k hk=>?_⟩
 rcases List.mem_append.mp hk with h | h
 ·obtain ⟨i,_,rfl⟩:=List.mem_map.mp h;simp
 ·obtain ⟨t,_,rfl⟩:=List.mem_map.mp h;simp
theorem A9 {n:Int}{ts:List Tie}(h:WebOk n ts){k:List Int}(hk:k∈parK n ts):(∀i∈k,0<=i/\i < n)/\1<=k.length/\k.length<=2:=by
 unfold parK at hk
 rcases List.mem_append.mp hk with z | z
 ·obtain ⟨i,hi,rfl⟩:=List.mem_map.mp z
  rw [List.mem_range] at hi
  exact ⟨fun j hj=>by rw [List.mem_singleton.mp hj];omega,by simp⟩
 ·obtain ⟨t,ht,rfl⟩:=List.mem_map.mp z
  have:=h.t t ht
  refine ⟨fun j hj=>?_,by simp⟩
  simp only [List.mem_cons,List.not_mem_nil,or_false] at hj
  rcases hj with rfl | rfl <;> omega
theorem a5C {n:Int}{ts:List Tie}(h:WebOk n ts):(ts.map tkK).Nodup:=by
 have:=h.nd
 rw [List.Nodup,List.pairwise_map] at this ⊢
 refine this.imp fun {a b} hab z=>hab ?_
 unfold tkK at z
 injection z with z1 z2
 injection z2 with z2 _
 injection z1 with z1
 injection z2 with z2
 rw [z1,z2]
theorem a8G {n:Int}{ts:List Tie}(h:WebOk n ts):(oneK n.toNat ++ ts.map tkK).Nodup:=by
 rw [List.nodup_append]
 refine ⟨?_,a5C h,fun a ha b hb e=>?_⟩
 ·unfold oneK
  rw [List.Nodup,List.pairwise_map]
  refine List.nodup_range.imp fun {a b} hab z=>hab ?_
  injection z with z1 _
  injection z1 with z1
  walk_at "o"
 ·obtain ⟨i,_,rfl⟩:=List.mem_map.mp ha
  obtain ⟨t,_,rfl⟩:=List.mem_map.mp hb
  exact absurd (congrArg List.length e) (by simp [tkK])
theorem b1R (ts:List Tie):lfL (ts.map tieD)=true:=F1 fun x hx=>by
 obtain ⟨t,_,rfl⟩:=List.mem_map.mp hx;rfl
theorem b3p (n:Int)(ts:List Tie):lf (webD n ts)=true:=by
 unfold webD
 simp only [lf,lfL,b1R,Bool.and_self]
theorem a2Q (k:List Int):lf (tupI k)=true:=Q1 k
theorem D6 (ks:List (List Int)):lfL (ks.map tupI)=true:=F1 fun x hx=>by
 obtain ⟨k,_,rfl⟩:=List.mem_map.mp hx;exact a2Q k
theorem a6f (g:Int):ratD (g:Rat)= .tup [.int g,.int 1]:=rfl
theorem P4 (q:Rat):lf (ratD q)=true:=rfl
theorem V3 (p q:Rat):Rat.divInt (p.num * q.den - q.num * p.den) (p.den * q.den)=p - q:=by
 rw [Rat.sub_eq_add_neg,<-W3 p (-q),Rat.neg_num,Rat.neg_den,Int.neg_mul,Int.sub_eq_add_neg]
theorem a3i (p q:Rat):0 < (p.den:Int) * q.den:=Int.mul_pos (by have:=p.den_pos;walk_at "o") (by have:=q.den_pos;walk_at "o")
theorem b2s {p q:Rat}{m n:Nat}(hp:Sz m p)(hq:Sz n q){t:Int}(ht:t.natAbs<=(p.num * q.den).natAbs + (q.num * p.den).natAbs):Sz (m + n + 1) (Rat.divInt t (p.den * q.den)):=by
 have e:(2:Nat) ^ (m + n + 1)=2 ^ m * 2 ^ n + 2 ^ n * 2 ^ m:=by rw [Nat.pow_succ,Nat.pow_add,Nat.mul_comm (2 ^ n)];walk_at "o"
 have a1:(p.num * (q.den:Int)).natAbs < 2 ^ m * 2 ^ n:=by
  rw [Int.natAbs_mul,Int.natAbs_natCast]
  exact Nat.mul_lt_mul'' hp.1 hq.2
 have a2:(q.num * (p.den:Int)).natAbs < 2 ^ n * 2 ^ m:=by
  rw [Int.natAbs_mul,Int.natAbs_natCast]
  exact Nat.mul_lt_mul'' hq.1 hp.2
 have a3:((p.den:Int) * (q.den:Int)).natAbs < 2 ^ m * 2 ^ n:=by
  rw [Int.natAbs_mul,Int.natAbs_natCast,Int.natAbs_natCast]
  exact Nat.mul_lt_mul'' hp.2 hq.2
 exact a94 (a3i p q) (by walk_at "o") (by walk_at "o")
theorem a1h {p q:Rat}{m n:Nat}(hp:Sz m p)(hq:Sz n q):Sz (m + n + 1) (p + q):=by
 rw [<-W3];exact b2s hp hq (by omega)
theorem b0x {p q:Rat}{m n:Nat}(hp:Sz m p)(hq:Sz n q):Sz (m + n + 1) (p - q):=by
 rw [<-V3];exact b2s hp hq (by omega)
theorem sz_0:Sz 1 0:=⟨by decide,by decide⟩
theorem a6J {g:Int}{m:Nat}(h:g.natAbs < 2 ^ m)(hm:1<=m):Sz m (g:Rat):=⟨h,Nat.lt_of_lt_of_le (by decide:1 < 2 ^ 1) (Nat.pow_le_pow_right (by decide) hm)⟩
theorem a3v {p q:Rat}{m n:Nat}(hp:Sz m p)(hq:Sz n q)(h:m + n<=8000):mOk p.num q.den/\mOk q.num p.den/\mOk p.den q.den/\(0 < (p.den:Int) * q.den)/\((p.den:Int) * q.den).natAbs < big:=by
 have a1:=hp.1;have a2:=hp.2;have b1:=hq.1;have b2:=hq.2
 exact ⟨a40 a1 (by simpa using b2) (by walk_at "o") (by walk_at "o"),a40 b1 (by simpa using a2) (by walk_at "o") (by walk_at "o"),a40 (m:=m) (n:=n) (by simpa using a2) (by simpa using b2) (by walk_at "o") (by walk_at "o"),a3i p q,b1h (m:=m) (n:=n) (by simpa using a2) (by simpa using b2) h⟩
def sumR:List Rat->Rat->Rat
 | [],r=>r
 | q :: qs,r=>sumR qs (r + q)
theorem a4W (t b:Int):Int.gcd (if t < 0 then -t else t) b=Int.gcd t b:=by
 unfold Int.gcd
 congr 1
 split <;> walk_at "o"
theorem a7P {t b:Int}(hb:0 < b)(hs:b.natAbs < big):dOk ((Int.gcd t b:Nat):Int):=by
 have h1:0 < Int.gcd t b:=Int.gcd_pos_iff.mpr (.inr (by walk_at "o"))
 have h2:Int.gcd t b<=b.natAbs:=Int.gcd_le_natAbs_right t (by walk_at "o")
 exact ⟨by walk_at "o",by walk_at "o"⟩
theorem M3 {C:Prop}{b:D->FS}{xs:List D}{ρ:Ev}{r:Option R}(e:loopF b xs ρ=r)(I:Nat->Ev->Prop)(h0:I 0 ρ)(st:∀i x ρ,xs[i]? =some x->I i ρ->∃ρ',b x ρ=some (.nx ρ')/\I (i + 1) ρ')(c:∀ρ',r=some (.nx ρ')->I xs.length ρ'->C):C:=by
 have key:∀(ys:List D) (k:Nat) (ρ:Ev),xs.drop k=ys->I k ρ->k<=xs.length->∃ρ',loopF b ys ρ=some (.nx ρ')/\I xs.length ρ':=by
  intro ys
  induction ys with
  | nil=>
   intro k ρ hk h hl
   have:k=xs.length:=by
    have:=List.drop_eq_nil_iff.mp hk;walk_at "o"
   exact ⟨ρ,rfl,this▸h⟩
  | cons y ys ih=>
   intro k ρ hk h hl
   have hx:xs[k]? =some y:=by
    have:=congrArg (·[0]?) hk
    simpa using this
   have lt:=(List.getElem?_eq_some_iff.mp hx).1
   obtain ⟨ρ1,e1,i1⟩:=st k y ρ hx h
   obtain ⟨ρ2,e2,i2⟩:=ih (k + 1) ρ1 (by rw [<-List.drop_drop,hk];rfl) i1 lt
   exact ⟨ρ2,by rw [loopF,e1];exact e2,i2⟩
 obtain ⟨ρ',e',i⟩:=key xs 0 ρ (by simp) h0 (Nat.zero_le _)
 exact c ρ' (e.symm.trans e') i
theorem a1Z {m:Int}{n i:Nat}{x:D}(h:(rngD m n)[i]? =some x):x= .int (m + i)/\i < n:=by
 unfold rngD at h
 rw [List.getElem?_map] at h
 by_cases hi:i < n
 ·rw [List.getElem?_range hi] at h;cases h;exact ⟨rfl,hi⟩
 ·rw [List.getElem?_eq_none (by simpa using hi)] at h;cases h
theorem a70 (i:Nat):oneK (i + 1)=oneK i ++ [[Sum.inl (i:Int)]]:=by unfold oneK;rw [List.range_succ,List.map_append];rfl
theorem a9I {i:Nat}:[Sum.inl (i:Int)]∉oneK i:=fun z=>by
 unfold oneK at z
 obtain ⟨j,hj,e⟩:=List.mem_map.mp z
 rw [List.mem_range] at hj
 injection e with e1 _
 injection e1 with e1
 walk_at "o"
def Sm (n:Int):Prop:=0 < n/\n.natAbs < 2 ^ 390
theorem Sm.pos {n:Int}(h:Sm n):0 < n:=h.1
theorem Sm.dok {n:Int}(h:Sm n):dOk n:=⟨h.1,Nat.lt_of_lt_of_le h.2 (Nat.pow_le_pow_right (by decide) (by decide))⟩
theorem Sm.bits {n:Int}(h:Sm n):Builtin.Int.intBits n<=390:=b1t h.2
theorem a91 {n:Int}(h:0 < n)(h2:n<=10 ^ 110):Sm n:=⟨h,Nat.lt_of_le_of_lt (show n.natAbs<=10 ^ 110 by walk_at "o") (by decide)⟩
theorem p9 {n:Int}(h:0 < n)(h2:n<=10 ^ 18):Sm n:=a91 h (Int.le_trans h2 (by decide))
def Pot (b:Nat) (d:D):Prop:=∃r c s:Int,d= .lst [.int r,.int c,.int s]/\0<=c/\c<=b/\0<=s/\s < 2147483647
theorem Pot.mono {b b':Nat}{d:D}(h:Pot b d)(hb:b<=b'):Pot b' d:=by
 obtain ⟨r,c,s,e,h1,h2,h3⟩:=h
 exact ⟨r,c,s,e,h1,by walk_at "o",h3⟩
theorem Pot.lf {b:Nat}{d:D}(h:Pot b d):lfC d=true:=by obtain ⟨r,c,s,rfl,_⟩:=h;rfl
abbrev G2 (elt t1 i1 t2 i2:Expr) (scope:Scope) (pos:Pos):Expr:=.ListComp elt [⟨t1,i1,[],0⟩,⟨t2,i2,[],0⟩] scope pos
theorem b0a (elt t1 i1 t2 i2:Expr)(scope:Scope)(pos:Pos)(it acc:Value)(env:Env):
  compTurn (G2 elt t1 i1 t2 i2 scope pos) 0 it acc env=(standAt i1.pos >>=fun _=>pyNext it >>=fun r=>match r with
   | none=>pure (.done .next)
   | some v=>letOwnedTupleGo t1 it v >>=fun _=>assign t1 env v >>=fun _=>
    eval i2 env >>=fun x=>standAt i2.pos >>=fun _=>foldedSetIterable i2 env x >>=fun x=>holding [x] (pyIter x) >>=fun y=>runOwn (.compStart (G2 elt t1 i1 t2 i2 scope pos) 1 y acc env) env >>=fun _=>
     again (.compLoop (G2 elt t1 i1 t2 i2 scope pos) 0 it acc env)):=by rfl
theorem b0R (elt t1 i1 t2 i2:Expr)(scope:Scope)(pos:Pos)(it acc:Value)(env:Env):
  compTurn (G2 elt t1 i1 t2 i2 scope pos) 1 it acc env=(standAt i2.pos >>=fun _=>pyNext it >>=fun r=>match r with
   | none=>pure (.done .next)
   | some v=>letOwnedTupleGo t2 it v >>=fun _=>assign t2 env v >>=fun _=>
    (eval elt env >>=fun x=>call (.builtin "list.append") [acc,x] >>=fun _=>pure ()) >>=fun _=>
     again (.compLoop (G2 elt t1 i1 t2 i2 scope pos) 1 it acc env)):=by rfl
section
variable {prog:Program}{w:World}{A:Around}{R:Result->Shared->Prop}{s:Shared}{elt t1 i1 t2 i2:Expr}{scope:Scope}{pos:Pos}{it acc:Value}{env:Env}
theorem b2f (I:Nat->Shared->Prop)
  (turn:∀n s,I n s->wpAny (model prog w) A (pyNext it) (fun r s1=>match r with
   | none=>R (.ok .next) s1
   | some v=>wpAny (model prog w) A (letOwnedTupleGo t2 it v) (fun _ s2=>wpAny (model prog w) A (assign t2 env v) (fun _ s3=>
     wpAny (model prog w) A (eval elt env) (fun x s5=>wpAny (model prog w) A (call (.builtin "list.append") [acc,x]) (fun _ s6=>∃m,m < n/\I m s6) Fa s5) Fa s3) Fa s2) Fa s1) Fa s)
  (n:Nat) (h:I n s):codeAny (model prog w) A (.compLoop (G2 elt t1 i1 t2 i2 scope pos) 1 it acc env) R s:=by
 refine codeAny_loop rfl I (fun n s hI=>?_) n h
 show wpAny _ A ((compTurn (G2 elt t1 i1 t2 i2 scope pos) 1 it acc env).onRaise (fun x=>do noteFrame x env;theTreesLotGoes x)) _ _ s
 refine wpAny_noted ?_
 rw [b0R]
 refine wpAny_bind (wpAny_standAt (wpAny_bind (wpAny_mono (turn n s hI) (fun r s1 h1=>?_) fun _ _ z=>z.elim)))
 cases r with
 | none=>exact wpAny_pure h1
 | some v=>exact wpAny_bind (wpAny_mono h1 (fun _ s2 h2=>wpAny_bind (wpAny_mono h2 (fun _ s3 h3=>wpAny_bind (wpAny_bind (wpAny_mono h3 (fun x s5 h5=>wpAny_bind (wpAny_mono h5 (fun _ s6 h6=>wpAny_pure (wpAny_pure ⟨rfl,h6⟩)) fun _ _ z=>z.elim)) fun _ _ z=>z.elim))) fun _ _ z=>z.elim)) fun _ _ z=>z.elim)
theorem a97 (hs:∀x,foldedSetIterable i2 env x=pure x)(I:Nat->Shared->Prop)
  (turn:∀n s,I n s->wpAny (model prog w) A (pyNext it) (fun r s1=>match r with
   | none=>R (.ok .next) s1
   | some v=>wpAny (model prog w) A (letOwnedTupleGo t1 it v) (fun _ s2=>wpAny (model prog w) A (assign t1 env v) (fun _ s3=>
     wpAny (model prog w) A (eval i2 env) (fun x s4=>wpAny (model prog w) A (pyIter x) (fun y s5=>codeAny (model prog w) A (.compStart (G2 elt t1 i1 t2 i2 scope pos) 1 y acc env) (fun r s6=>r= .ok .next/\∃m,m < n/\I m s6) s5) Fa s4) Fa s3) Fa s2) Fa s1) Fa s)
  (n:Nat) (h:I n s):codeAny (model prog w) A (.compLoop (G2 elt t1 i1 t2 i2 scope pos) 0 it acc env) R s:=by
 refine codeAny_loop rfl I (fun n s hI=>?_) n h
 show wpAny _ A ((compTurn (G2 elt t1 i1 t2 i2 scope pos) 0 it acc env).onRaise (fun x=>do noteFrame x env;theTreesLotGoes x)) _ _ s
 refine wpAny_noted ?_
 rw [b0a]
 refine wpAny_bind (wpAny_standAt (wpAny_bind (wpAny_mono (turn n s hI) (fun r s1 h1=>?_) fun _ _ z=>z.elim)))
 cases r with
 | none=>exact wpAny_pure h1
 | some v=>
  refine wpAny_bind (wpAny_mono h1 (fun _ s2 h2=>wpAny_bind (wpAny_mono h2 (fun _ s3 h3=>wpAny_bind (wpAny_mono h3 (fun x s4 h4=>wpAny_bind (wpAny_standAt ?_)) fun _ _ z=>z.elim)) fun _ _ z=>z.elim)) fun _ _ z=>z.elim)
  rw [hs]
  refine wpAny_bind (wpAny_pure (wpAny_bind (wpAny_holding (wpAny_mono h4 (fun y s5 h5=>wpAny_bind (wpAny_runOwn ?_)) fun _ _ z=>z.elim))))
  refine codeAny_mono (show codeAny (model prog w) (A.mark none) _ _ _ from h5) fun r s6 h6=>?_
  obtain ⟨rfl,h6⟩:=h6
  exact wpAny_pure ⟨rfl,h6⟩
theorem a9R (h0:codeAny (model prog w) A (.compLoop (G2 elt t1 i1 t2 i2 scope pos) 1 it acc env) R s)
  (h:wpAny (model prog w) A (pyIter it) (fun it' s'=>codeAny (model prog w) A (.compLoop (G2 elt t1 i1 t2 i2 scope pos) 1 it' acc env) R s') (notedBy (model prog w) A env fun x s'=>R (.error x) s') s):
  codeAny (model prog w) A (.compStart (G2 elt t1 i1 t2 i2 scope pos) 1 it acc env) R s:=by
 refine codeAny_of_tree ?_
 show wpAny _ A ((compStart (G2 elt t1 i1 t2 i2 scope pos) 1 it acc env).onRaise (fun x=>do noteFrame x env;standAt theWindowsPlace)) _ _ s
 refine wpAny_notedAt ?_
 unfold compStart
 show wpAny _ A (ask >>=_) _ _ s
 refine wpAny_bind (wpAny_askSetting (wpAny_ite ?_))
 split
 ·first
   | exact wpAny_bind (wpAny_pure (wpAny_pure (And.intro rfl h0)))
   | exact wpAny_pure (And.intro rfl h0)
 ·first
   | exact wpAny_bind (wpAny_rule (wpAny_bind (wpAny_standAt (wpAny_bind (wpAny_mono h (fun it' s' h'=>wpAny_pure (And.intro rfl h')) fun _ _ x=>x)))))
   | (refine wpAny_bind (wpAny_rule ?_);show wpAny _ _ (standAt i2.pos >>=_) _ _ s;exact wpAny_bind (wpAny_standAt (wpAny_bind (wpAny_mono h (fun it' s' h'=>wpAny_pure (And.intro rfl h')) fun _ _ x=>x))))
end
def turnC2 (k:Nat) (gf:FG) (fi2:FI) (gf2:FG) (fe:FX):D->Ev->Option Ev:=fun x ρ=>(gf x ρ).bind fun ρ1=>(fi2 ρ1).bind fun p=>loopC (turnC k gf2 (fun ρ=>some (true,ρ)) fe) p.1 p.2
def fComp2 (fi:FI) (js:List (Option Nat)) (gf:FG) (fi2:FI) (gf2:FG) (fe:FX):FX:=fun ρ=>(fi ρ).bind fun p=>
  (loopC (turnC2 js.length gf fi2 gf2 fe) p.1 (capE none js p.2 ++ [some (.l (.lst []))])).bind fun ρe=>match ownAt ρe js.length with
   | some (.lst ys)=>backC none js ρe p.2 ys
   | _=>none
section
variable {X:Cx}{pins:List (Addr×PySem.Obj)}{σ:L2.St}{H2:Hp}{s2:Shared}{scope:Scope}{cl:List (Str×Addr)}{N:List Str}{js:List (Option Nat)}{fp:List Addr}{it:Addr}{tn:Nat->Heap->Prop}{J:It}
 {elt tg iter t2 i2:Expr} {pos:Pos} {P:List (D×V)} {O:Av} {L:List (Nat×Addr)} {ρ ρe:Ev} {xs:List D} {gf gf2:FG} {fi fi2:FI} {fe:FX} {Qq:Value->Shared->Prop} {use:Option (Value->Sem Unit)}
theorem a7U (hcalm:X.calm=true)(I2:Inv X pins σ H2 s2)(T:Turn X.prog X.w X.K tg J fp it tn)(st2:tn 0 s2.heap)(f2:∀y∈fp,FpOk X pins H2 y)(b:Blk X scope cl N js)(r:Rep X P O L ρ σ H2)(wk:WksB none X.K P O ρ σ H2 xs J)
  (hg:∀C,QG (blk X scope cl s2 H2 fp C (N ++ [accN])) tg gf) (hi2:∀C,QI (blk X scope cl s2 H2 fp C (N ++ [accN])) t2 i2 fi2) (hg2:∀C,QG (blk X scope cl s2 H2 fp C (N ++ [accN])) t2 gf2) (he:∀C,QX (blk X scope cl s2 H2 fp C (N ++ [accN])) elt fe)
  (hs2:∀C x,foldedSetIterable i2 (compEnvC scope cl C X.env) x=pure x)
  (e:loopC (turnC2 js.length gf fi2 gf2 fe) xs (capE none js ρ ++ [some (.l (.lst []))])=some ρe)
  (fin:∀(Dd C:Addr) (σe:L2.St) (He:Hp) (s1:Shared),H2 Dd=none->s2.heap.objs.size<=C->Inv (blk X scope cl s2 H2 fp C (N ++ [accN])) [] σe He s1->Rep (blk X scope cl s2 H2 fp C (N ++ [accN])) P (fun b=>AvO O ρ σ b/\¬Capd ρ σ js b) ((js.length,Dd) :: lentL none σ) ρe σe He->
   compPost (model X.prog X.w) X.A X.xe use Qq (.ref Dd) C (.ok .next) s1):
  wpAny (model X.prog X.w) X.A (newList []) (fun acc s3=>wpAny (model X.prog X.w) X.A (newFunctionEnv scope X.env.globals cl [] X.env.qual none .none (some X.env)) (fun cenv s4=>
   codeAny (model X.prog X.w) X.A (.compStart (G2 elt tg iter t2 i2 scope pos) 0 (.ref it) acc {cenv with scope:=relabel scope X.env}) (compPost (model X.prog X.w) X.A X.xe use Qq acc cenv.locals) s4) X.xe s3) X.xe s2:=by
 have hl:LiOk none js ρ:=⟨nofun,nofun,nofun⟩
 have fl:∀y∈fp,y < s2.heap.objs.size:=fun y hy=>by obtain ⟨o,eo,_⟩:=T.obj _ _ st2 y hy;exact Heap.lt_size eo
 refine wpAny_newObj_type (wpAny_newFunctionEnv b.cell (by intro y hy;simp at hy) (fun h' hns hsb=>?_) b.kind)
 dsimp only at hns hsb ⊢
 generalize hH:s2.heap.push {cls:=.type "list",dict:=none,data:=.seq ([]:List Value).toArray}=H3 at hns hsb ⊢
 have hC:H3.objs.size=s2.heap.objs.size + 1:=by rw [<-hH,Heap.size_push]
 have ne:s2.heap.objs.size≠H3.objs.size:=by rw [hC];exact Nat.ne_of_lt (Nat.lt_succ_self _)
 have leC:s2.heap.objs.size<=H3.objs.size:=by rw [hC];exact Nat.le_succ _
 have kp3:∀y o,s2.heap.get? y=some o->H3.get? y=some o:=fun y o e=>hH▸Heap.get?_push_of_some _ e
 have kp4:∀y o,H3.get? y=some o->h'.get? y=some o:=fun y o e=>hsb.extBut y o (Nat.ne_of_lt (Heap.lt_size e)) (Heap.get?_push_of_some _ e)
 have hDn:H2 s2.heap.objs.size=none:=I2.hok.fresh (Nat.le_refl _)
 have ok3:HOk X.prog X.w (upd H2 s2.heap.objs.size (.lst [])) H3:=I2.hok.laid kp3 (Nat.le_refl _) ⟨Nat.zero_le _,[],0,.nil,by rw [<-hH];exact Heap.get?_push_size _ rfl⟩
 have I4:=a7N (s4:={s2 with heap:=h',toks:=s2.toks + ([]:List (Str×Value)).length}) (Dd:=s2.heap.objs.size) (C:=H3.objs.size) I2 b f2 fl leC (Nat.le_refl _) ne rfl I2.bare (fun y o e=>kp4 y o (kp3 y o e)) hns (ok3.kept kp4)
 have R4:=a7O (li:=none) (scope:=scope) (cl:=cl) (N:=N) (s2:=s2) (fp:=fp) (C:=H3.objs.size) (Dd:=s2.heap.objs.size) r hl hDn
 have hfree:∀{H':Hp},(∀y∈fp,H' y=none)->∀y∈fp,FpOk (blk X scope cl s2 H2 fp H3.objs.size (N ++ [accN])) [] H' y:=fun hn y hy=>
  ⟨hn y hy,Nat.ne_of_lt (Nat.lt_of_lt_of_le (fl y hy) leC),fun z=>(List.mem_cons.mp (I2.stkSub y z)).elim (f2 y hy).2.1 (f2 y hy).2.2.1,.inl hy,fun x c ec=>(f2 y hy).2.2.2.2.1 x c (b.sub x c ec),fun p hp=>absurd (show p∈([]:List (Addr×PySem.Obj)) from hp) (by simp)⟩
 obtain ⟨gg,pg,kg⟩:=(hg H3.objs.size).to
 obtain ⟨gg2,pg2,kg2⟩:=(hg2 H3.objs.size).to
 have loop:∀s5:Shared,s5={s2 with heap:=h',toks:=s2.toks + ([]:List (Str×Value)).length}->
   codeAny (model X.prog X.w) X.A (.compLoop (G2 elt tg iter t2 i2 scope pos) 0 (.ref it) (.ref s2.heap.objs.size) (compEnvC scope cl H3.objs.size X.env))
    (compPost (model X.prog X.w) X.A X.xe use Qq (.ref s2.heap.objs.size) H3.objs.size) s5:=by
  rintro s5 rfl
  let Y:=blk X scope cl s2 H2 fp H3.objs.size (N ++ [accN])
  let O':Av:=fun b=>AvO O ρ σ b/\¬Capd ρ σ js b
  let L':=(js.length,s2.heap.objs.size) :: lentL none σ
  refine a97 (hs2 _) (fun n s=>∃i σ' H' ρ',n=xs.length - i/\i<=xs.length/\Inv Y [] σ' H' s/\tn i s.heap/\(∀y∈fp,H' y=none)/\Rep Y P O' L' ρ' σ' H'/\loopC (turnC2 js.length gf fi2 gf2 fe) (xs.drop i) ρ'=some ρe) ?_ xs.length
   ⟨0,_,_,_,by simp,Nat.zero_le _,I4,T.keep 0 _ _ st2 fun y hy o eo=>kp4 y o (kp3 y o eo),fun y hy=>by rw [g7 (Nat.ne_of_lt (fl y hy))];exact (f2 y hy).1,R4,by simpa using e⟩
  rintro n s ⟨i,σ',H',ρ',rfl,hi,I,st,fr,rp,el⟩
  obtain ⟨wi,ws⟩:=wk Y O' L' ρ' σ' H' rfl rfl rp (fun b z=>z.1) (fun _ i b m=>(List.mem_cons.mp m).elim (fun m=>by cases m;exact hDn) (fun m=>by cases m))
  by_cases hlt:i < xs.length
  ·obtain ⟨go,yl⟩:=wi i xs[i] (by simp [hlt])
   refine wpAny_mono (T.item Y rfl rfl rfl hcalm i [] s σ' H' Fa I (hfree fr) st go) (fun r s1 ⟨u,hr,h1⟩=>?_) fun _ _ z=>z
   subst hr
   refine wpAny_mono h1 (fun _ s3 ⟨x,H5,I5,r5,y5,st5,fr5⟩=>?_) fun _ _ z=>z
   obtain ⟨sm5,dx⟩:=yl x H5 y5
   replace rp:=rp.grow sm5
   rw [List.drop_eq_getElem_cons hlt,loopC] at el
   cases e1:turnC2 js.length gf fi2 gf2 fe xs[i] ρ' with
   | none=>rw [e1] at el;cases el
   | some ρt=>
    rw [e1] at el
    simp only [Option.bind_some] at el
    unfold turnC2 at e1
    cases e2:gf xs[i] ρ' with
    | none=>rw [e2] at e1;cases e1
    | some ρ1=>
     rw [e2] at e1
     simp only [Option.bind_some] at e1
     have I5':=I5.pinned (hfree fr5) (T.obj _ _ st5)
     have gq:=kg P O' L' xs[i] x ρ' ρ1 σ' H5 (fun σ2 Hh=>Rep Y P O' L' ρ1 σ2 Hh) rp dx e2 (fun σ2 H2' rp2=>rp2)
     refine wpAny_mono (pg _ s3 σ' H5 x u _ I5' r5 gq) (fun _ s6 ⟨σ6,H6,I6,rp6⟩=>?_) fun _ _ z=>z
     have back:∀{s7:Shared} {σ7:L2.St} {H7:Hp},Inv Y ([] ++ pinsAt fp s3.heap) σ7 H7 s7->Rep Y P O' L' ρt σ7 H7->
       ∃m,m < xs.length - i/\∃i σ' H' ρ',m=xs.length - i/\i<=xs.length/\Inv Y [] σ' H' s7/\tn i s7.heap/\(∀y∈fp,H' y=none)/\Rep Y P O' L' ρ' σ' H'/\loopC (turnC2 js.length gf fi2 gf2 fe) (xs.drop i) ρ'=some ρe:=fun {s7 σ7 H7} I7 rp7=>by
      refine ⟨xs.length - (i + 1),by omega,i + 1,σ7,H7,ρt,rfl,hlt,I7.unpinned,T.keep _ _ _ st5 fun y hy o eo=>(I7.pin (y,o) (List.mem_append_right _ (List.mem_append_right _ (w4 hy eo)))).1,fun y hy=>?_,rp7,el⟩
      obtain ⟨o,eo,_⟩:=T.obj _ _ st5 y hy
      exact (I7.pin (y,o) (List.mem_append_right _ (List.mem_append_right _ (w4 hy eo)))).2.1
     obtain ⟨⟨zs,ρ2⟩,e3,e1⟩:=obs e1
     dsimp only at e1
     refine wpAny_mono ((hi2 H3.objs.size).to _ s6 σ6 H6 _ I6 ⟨P,O',L',ρ1,zs,ρ2,rp6,e3,fun J2 H7 P' r7 hh wk2=>(⟨P',r7,hh,wk2⟩:∃P',Rep Y P' O' L' ρ2 σ6 H7/\Holds P' P/\Wks Y.K P' zs J2)⟩) (fun v s7 h7=>wpAny_mono h7 (fun itv s8 h8=>?_) fun _ _ z=>z) fun _ _ z=>z
     obtain ⟨it2,fp2,tn2,J2,H8,rfl,I8,T2,st8,f8,P',rp8,hh,wk2⟩:=h8
     have free2:∀{H':Hp},(∀y∈fp2,H' y=none)->∀y∈fp2,FpOk Y ([] ++ pinsAt fp s3.heap) H' y:=fun hn y hy=>⟨hn y hy,(f8 y hy).2⟩
     have inner:codeAny (model X.prog X.w) X.A (.compLoop (G2 elt tg iter t2 i2 scope pos) 1 (.ref it2) (.ref s2.heap.objs.size) (compEnvC scope cl H3.objs.size X.env)) (fun r s'=>r= .ok .next/\∃m,m < xs.length - i/\∃i σ' H' ρ',m=xs.length - i/\i<=xs.length/\Inv Y [] σ' H' s'/\tn i s'.heap/\(∀y∈fp,H' y=none)/\Rep Y P O' L' ρ' σ' H'/\loopC (turnC2 js.length gf fi2 gf2 fe) (xs.drop i) ρ'=some ρe) s8:=by
      refine b2f (fun n s=>∃j σ' H' ρ',n=zs.length - j/\j<=zs.length/\Inv Y ([] ++ pinsAt fp s3.heap) σ' H' s/\tn2 j s.heap/\(∀y∈fp2,H' y=none)/\Rep Y P' O' L' ρ' σ' H'/\loopC (turnC js.length gf2 (fun ρ=>some (true,ρ)) fe) (zs.drop j) ρ'=some ρt) ?_ zs.length
       ⟨0,σ6,H8,ρ2,by simp,Nat.zero_le _,I8,st8,fun y hy=>(f8 y hy).1,rp8,by simpa using e1⟩
      rintro n s ⟨j,σj,Hj,ρj,rfl,hj,Ij,stj,frj,rpj,elj⟩
      obtain ⟨wj,wsj⟩:=wk2 Y O' L' ρj σj Hj rfl rpj
      by_cases hjl:j < zs.length
      ·obtain ⟨go2,yl2⟩:=wj j zs[j] (by simp [hjl])
       refine wpAny_mono (T2.item Y rfl rfl rfl hcalm j _ s σj Hj Fa Ij (free2 frj) stj go2) (fun r sa ⟨ua,hra,ha⟩=>?_) fun _ _ z=>z
       subst hra
       refine wpAny_mono ha (fun _ sb ⟨xb,Hb,Ib,rb,yb,stb,frb⟩=>?_) fun _ _ z=>z
       obtain ⟨smb,dxb⟩:=yl2 xb Hb yb
       replace rpj:=rpj.grow smb
       rw [List.drop_eq_getElem_cons hjl,loopC] at elj
       cases et:turnC js.length gf2 (fun ρ=>some (true,ρ)) fe zs[j] ρj with
       | none=>rw [et] at elj;cases elj
       | some ρk=>
        rw [et] at elj
        simp only [Option.bind_some] at elj
        unfold turnC at et
        cases eg:gf2 zs[j] ρj with
        | none=>rw [eg] at et;cases et
        | some ρ3=>
         rw [eg] at et
         simp only [Option.bind_some,if_true] at et
         have Ib':=Ib.pinned (free2 frb) (T2.obj _ _ stb)
         have gk:=kg2 P' O' L' zs[j] xb ρj ρ3 σj Hb (fun σ2 Hh=>Rep Y P' O' L' ρ3 σ2 Hh) rpj dxb eg (fun σ2 H2' rp2=>rp2)
         refine wpAny_mono (pg2 _ sb σj Hb xb ua _ Ib' rb gk) (fun _ sc ⟨σc,Hc,Ic,rpc⟩=>?_) fun _ _ z=>z
         cases e4:fe ρ3 with
         | none=>rw [e4] at et;cases et
         | some p=>
          obtain ⟨w,ρ4⟩:=p
          rw [e4] at et
          simp only [Option.bind_some,appTo] at et
          cases e5:takeAll ρ4 [w.fz] with
          | none=>rw [e5] at et;cases et
          | some p=>
           obtain ⟨ds,ρ5⟩:=p
           rw [e5] at et
           simp only [Option.bind_some] at et
           split at et
           ·rename_i d zz e6
            split at et
            ·rename_i hl
             cases et
             refine wpAny_mono ((he H3.objs.size).to _ sc σc Hc (fun v H8=>Rep Y P' O' L' ρ5 σc H8/\Den X.K (AvO O' ρ5 σc) H8 d v) Ic ⟨P',O',L',ρ3,w,ρ4,rpc,e4,fun v H8 H8' r8 s8 d8=>?_⟩) (fun u8 s8 ⟨v8,H8,I8,r8,rp8,d8⟩=>?_) fun _ _ z=>z
             ·obtain ⟨r9,l9,_⟩:=o8 (vs:=[v]) (r8.grow s8) e5 ⟨v,[],rfl,d8.fz r8 s8,rfl⟩
              obtain ⟨v',ev,h'⟩:=denL1 l9
              cases ev
              exact ⟨r9,h'⟩
             ·obtain ⟨d0,q1,q2⟩:=rp8.lnd js.length s2.heap.objs.size List.mem_cons_self
              have e6':=e6
              unfold ownAt at e6'
              rw [q1] at e6'
              cases e6'
              obtain ⟨a,h1,vs,h4,lz⟩:=rp8.obj q1 rfl
              rw [q2] at h1
              cases h1
              have h9:=a2k (X:=Y) _ s8 σc H8 (.ref s2.heap.objs.size) [v8] (.ref s2.heap.objs.size) [u8] (fun v H9=>H9=upd H8 s2.heap.objs.size (.lst (vs ++ [v8]))) I8 rfl (.cons r8 .nil) ⟨_,vs,v8,rfl,rfl,h4,by rw [<-c7 lz];exact Nat.lt_of_lt_of_le hl z8,rfl⟩
              refine wpAny_mono h9 (fun _ s9 ⟨v9,H9,I9,_,e9⟩=>?_) fun _ _ z=>z
              subst e9
              have g0:Go (AvO O' ρ5 σc) (AvO O' ρ5 σc) (fun b=>b=s2.heap.objs.size) H8 (upd H8 s2.heap.objs.size (.lst (vs ++ [v8]))):=⟨fun b o eb nb=>by rw [g7 nb];exact eb,fun b z=>by rw [z];exact ⟨.inr ⟨js.length,_,_,q1,rfl,q2⟩,_,h4,trivial⟩,fun b z=>.inl z⟩
              refine ⟨zs.length - (j + 1),by omega,j + 1,σc,_,_,rfl,hjl,I9.unpinned,T2.keep _ _ _ stb fun y hy o eo=>(I9.pin (y,o) (List.mem_append_right _ (List.mem_append_right _ (w4 hy eo)))).1,fun y hy=>?_,rp8.mut (d:=.lst (zz ++ [d])) e6 q2 (fun b o eb nb=>by rw [g7 nb];exact eb) ⟨_,m5,u9 g0 _ _ (t7 lz (j8 d8 j9))⟩,elj⟩
              obtain ⟨o,eo,_⟩:=T2.obj _ _ stb y hy
              exact (I9.pin (y,o) (List.mem_append_right _ (List.mem_append_right _ (w4 hy eo)))).2.1
            ·cases et
           ·cases et
      ·have hje:j=zs.length:=by omega
       subst hje
       refine wpAny_mono (T2.done Y rfl rfl rfl hcalm _ _ s σj Hj Fa Ij (free2 frj) stj wsj) (fun r sa ⟨hra,Ia⟩=>?_) fun _ _ z=>z
       subst hra
       rw [List.drop_eq_nil_of_le (Nat.le_refl _),loopC] at elj
       cases elj
       exact ⟨rfl,back Ia (rpj.holds hh)⟩
     exact a9R inner (T2.self _ 0 _ _ _ st8 inner)
  ·have hie:i=xs.length:=by omega
   subst hie
   refine wpAny_mono (T.done Y rfl rfl rfl hcalm _ [] s σ' H' Fa I (hfree fr) st ws) (fun r s1 ⟨hr,I1⟩=>?_) fun _ _ z=>z
   subst hr
   rw [List.drop_eq_nil_of_le (Nat.le_refl _),loopC] at el
   cases el
   exact fin _ _ σ' H' s1 hDn leC I1 rp
 exact codeAny_compStart_list (loop _ rfl) (T.self _ 0 _ _ _ (T.keep 0 _ _ st2 fun y hy o eo=>kp4 y o (kp3 y o eo)) (loop _ rfl))
theorem a73 {Q:VK}{H:Hp}{s:Shared}{newPos:Pos}(hc:X.calm=true)(b:Blk X scope cl N js)(hi:QIB X none tg iter fi)
  (hg:∀s2 H2 fp C,QG (blk X scope cl s2 H2 fp C (N ++ [accN])) tg gf) (hi2:∀s2 H2 fp C,QI (blk X scope cl s2 H2 fp C (N ++ [accN])) t2 i2 fi2) (hg2:∀s2 H2 fp C,QG (blk X scope cl s2 H2 fp C (N ++ [accN])) t2 gf2) (he:∀s2 H2 fp C,QX (blk X scope cl s2 H2 fp C (N ++ [accN])) elt fe) (hs:∀x,foldedSetIterable iter X.env x=pure x) (hs2:∀C x,foldedSetIterable i2 (compEnvC scope cl C X.env) x=pure x)
  (I:Inv X pins σ H s) (h:tX X (fComp2 fi js gf fi2 gf2 fe) σ H Q)
  (fin:∀(C:Addr) (v:V) (He:Hp) (s1:Shared),Q v He->(∀h9:Heap,(∀y,y≠C->h9.get? y=s1.heap.get? y)->Inv X pins σ He {s1 with heap:=h9})->FpOk X pins He C->(∃m,s1.heap.Ns C m)->∀vv,RelV v vv->compPost (model X.prog X.w) X.A X.xe use Qq vv C (.ok .next) s1):
  wpAny (model X.prog X.w) X.A (comprehension (G2 elt tg iter t2 i2 scope pos) scope X.env newPos (newList []) false (eval iter X.env) use) Qq X.xe s:=by
 obtain ⟨P,O,L,ρ,w,ρ',r,e,q⟩:=h
 unfold fComp2 at e
 obtain ⟨⟨xs,ρ1⟩,e1,e⟩:=obs e
 dsimp only at e
 cases e2:loopC (turnC2 js.length gf fi2 gf2 fe) xs (capE none js ρ1 ++ [some (.l (.lst []))]) with
 | none=>rw [e2] at e;cases e
 | some ρe=>
  rw [e2] at e
  simp only [Option.bind_some] at e
  split at e
  ·rename_i ys ey
   have hl:LiOk none js ρ1:=⟨nofun,nofun,nofun⟩
   refine wpAny_comprehension_free rfl hs b.clos b.kind b.nms ?_
   refine wpAny_mono (hi.to pins s σ H _ I ⟨P,O,L,ρ,xs,ρ1,r,e1,fun J H1 P' r1 hh wk=>(⟨P',r1,hh,wk⟩:∃P',Rep X P' O L ρ1 σ H1/\Holds P' P/\WksB none X.K P' O ρ1 σ H1 xs J)⟩) (fun v s1 h1=>wpAny_mono h1 (fun itv s2 h2=>?_) fun _ _ z=>z) fun _ _ z=>z
   obtain ⟨it,fp,tn,J,H2,rfl,I2,T,st2,f2,P',r1,hh,wk⟩:=h2
   refine a7U hc I2 T st2 f2 b r1 wk (hg s2 H2 fp) (hi2 s2 H2 fp) (hg2 s2 H2 fp) (he s2 H2 fp) hs2 e2 fun Dd C σe He s3 hn leC I1 rp=>?_
   obtain ⟨Hx,rx,sx,dx⟩:=a7S r1 hl hn rp ey e
   obtain ⟨m,hm,_⟩:=id I1.loc
   refine fin C (.ref Dd) He s3 (q _ Hx He (rx.holds hh) sx dx) (fun h9 k9=>a3u I2 f2 leC I1 k9) ?_ ⟨m,hm⟩ (.ref Dd) rfl
   exact I2.fpOk leC I1.free
  ·cases e
theorem a9A (hc:X.calm=true)(b:Blk X scope cl N js)(hi:QIB X none tg iter fi)(hg:∀s2 H2 fp C,QG (blk X scope cl s2 H2 fp C (N ++ [accN])) tg gf)(hi2:∀s2 H2 fp C,QI (blk X scope cl s2 H2 fp C (N ++ [accN])) t2 i2 fi2)(hg2:∀s2 H2 fp C,QG (blk X scope cl s2 H2 fp C (N ++ [accN])) t2 gf2)(he:∀s2 H2 fp C,QX (blk X scope cl s2 H2 fp C (N ++ [accN])) elt fe)
  (hs:∀x,foldedSetIterable iter X.env x=pure x:=by intro _;rfl) (hs2:∀C x,foldedSetIterable i2 (compEnvC scope cl C X.env) x=pure x:=by intro _ _;rfl):QX X (G2 elt tg iter t2 i2 scope pos) (fComp2 fi js gf fi2 gf2 fe):=⟨fun pins s σ H Q I h=>by
 rw [eval_ListComp]
 refine a73 (use:=none) hc b hi hg hi2 hg2 he hs hs2 I h fun C v He s1 hq back fp ⟨m,hm⟩ vv rv=>?_
 exact ⟨m,hm,fun h9 k9=>⟨v,He,back h9 fun y ny=>k9.2 y ny,rv,hq⟩⟩⟩
end
section
variable {ρ:Ev}{i:Nat}{d:D}{xs:List D}
def fn2 (ρ:Ev):Option (Option W)->Option (List D×Ev)
 | some (some (.v d))=>(items d).map fun xs=>(xs,ρ)
 | some (some (.r _))=>none
 | some (some w)=>match w.own with
  | some (.lst xs)=>some (xs,ρ)
  | _=>none
 | _=>none
def fn3 (ρ:Ev):Option (List D)->Option (List D×Ev)
 | some xs=>some (xs,ρ)
 | none=>none
theorem r_fn:fiName i ρ=fn2 ρ ρ[i]?:=by
 unfold fiName fn2
 cases ρ[i]? with
 | none=>rfl
 | some o=>cases o with
  | none=>rfl
  | some w=>cases w <;> rfl
theorem b23:fn2 ρ (some (some (.v d)))=fn3 ρ (items d):=by
 show (items d).map _=_
 unfold fn3;cases items d <;> rfl
theorem r_fn_o:fn2 ρ (some (some (.o (.lst xs))))=some (xs,ρ):=rfl
theorem r_fn_l:fn2 ρ (some (some (.l (.lst xs))))=some (xs,ρ):=rfl
theorem r_fn3:fn3 ρ (some xs)=some (xs,ρ):=rfl
end
mutual
def toP:D->PyData
 | .non=>.none
 | .bl b=>.bool b
 | .int i=>.int i
 | .str x=>.str x
 | .tup xs=>.tuple (toPs xs)
 | .lst xs=>.list (toPs xs)
 | _=>.none
def toPs:List D->List PyData
 | []=>[]
 | x :: xs=>toP x :: toPs xs
end
def txt (d:D):Str:=(toP d).shown
def Sh:Nat->Nat->D->Prop
 | _,n,.int i=>i.natAbs < 2 ^ 1900/\1910<=n
 | _,n,.non=>5<=n
 | _,n,.bl _=>5<=n
 | k + 1,n,.tup xs=>∃m,(∀x∈xs,Sh k m x)/\xs.length * (m + 2) + 4<=n
 | k + 1,n,.lst xs=>∃m,(∀x∈xs,Sh k m x)/\xs.length * (m + 2) + 4<=n
 | _,_,_=>False
theorem P8 {m:Nat}:∀{xs:List D},(∀x∈xs,(toP x).shown.length<=m)->piled (PyData.shownAll (toPs xs))<=xs.length * (m + 2)/\(PyData.shownAll (toPs xs)).length=xs.length
 | [],_=>⟨by rw [toPs,PyData.shownAll,piled_nil];exact Nat.zero_le _,by rw [toPs,PyData.shownAll];rfl⟩
 | x :: xs,h=>by
  obtain ⟨h1,h2⟩:=P8 (xs:=xs) fun y hy=>h y (List.mem_cons_of_mem _ hy)
  rw [toPs,PyData.shownAll,piled_cons,List.length_cons,List.length_cons,h2,Nat.succ_mul]
  have:=h x List.mem_cons_self
  exact ⟨by walk_at "o",rfl⟩
theorem a4T (ts:List Str):(tupleText ts).length<=piled ts + 3:=by
 unfold tupleText
 rw [strLen_append,strLen_append]
 have e1:((("(":String):Str)).length=1:=rfl
 have e3:(((if ts.length == 1 then ",)" else ")":String):Str)).length<=2:=by split <;> decide
 rw [e1]
 cases ts with
 | nil=>
  have:(Str.join ", " ([]:List Str)).length=0:=rfl
  walk_at "o"
 | cons t ts=>have:=join_length_add (t :: ts) (by simp);walk_at "o"
theorem a5U (ts:List Str):(listText ts).length<=piled ts + 4:=by
 unfold listText
 have e1:((("]":String):Str)).length=1:=rfl
 rw [strLen_append,e1]
 cases ts with
 | nil=>
  have:(textFrom 0 "[" []).length=1:=rfl
  walk_at "o"
 | cons t ts=>
  rw [textFrom,textFrom_length_pos _ _ _ (by decide),piled_cons,strLen_append,strLen_append]
  have e2:(((("[":String):Str))).length=1:=rfl
  have e3:(((if 0 > 0 then ", " else "":String):Str)).length=0:=rfl
  walk_at "o"
structure ShP (k n:Nat) (p:PyData):Prop where
 sh:p.showable=true
 nd:p.hasDict=false
 dp:p.depth<=k
 ln:p.shown.length<=n
theorem a5g {k m:Nat}:∀{xs:List D},(∀x∈xs,ShP k m (toP x))->PyData.showableAll (toPs xs)=true/\PyData.hasDictAll (toPs xs)=false/\PyData.depthAll (toPs xs)<=k
 | [],_=>⟨rfl,rfl,Nat.zero_le _⟩
 | x :: xs,h=>by
  obtain ⟨h1,h2,h3⟩:=a5g (xs:=xs) fun y hy=>h y (List.mem_cons_of_mem _ hy)
  have hx:=h x List.mem_cons_self
  rw [toPs,PyData.showableAll,PyData.hasDictAll,PyData.depthAll,hx.sh,hx.nd,h1,h2]
  have:=hx.dp
  exact ⟨rfl,rfl,by walk_at "o"⟩
theorem b3U {k n:Nat}{i:Int}(h:i.natAbs < 2 ^ 1900)(hn:1910<=n):ShP k n (toP (.int i)):=by
 have hl:i.natAbs.log2 < 1901:=by
  by_cases z:i.natAbs=0
  ·rw [z];decide
  ·exact Nat.lt_of_lt_of_le ((Nat.log2_lt z).mpr h) (by decide)
 rw [toP]
 refine ⟨?_,by rw [PyData.hasDict],by rw [PyData.depth];exact Nat.zero_le _,?_⟩
 ·rw [PyData.showable];exact decide_eq_true (Nat.lt_of_lt_of_le hl (by decide))
 ·rw [PyData.shown,PySem.ofString_length]
  have:=int_text_length_le (k:=1901) (by decide) hl
  walk_at "o"
theorem b0u:∀(k n:Nat) (d:D),Sh k n d->ShP k n (toP d)
 | k,n,.int i,h=>by unfold Sh at h;exact b3U h.1 h.2
 | k,n,.non,h=>by
  unfold Sh at h
  rw [toP]
  exact ⟨by rw [PyData.showable],by rw [PyData.hasDict],by rw [PyData.depth];exact Nat.zero_le _,by rw [PyData.shown];exact Nat.le_trans (by decide) h⟩
 | k,n,.bl b,h=>by
  unfold Sh at h
  rw [toP]
  refine ⟨by rw [PyData.showable],by rw [PyData.hasDict],by rw [PyData.depth];exact Nat.zero_le _,?_⟩
  rw [PyData.shown]
  refine Nat.le_trans ?_ h
  cases b <;> decide
 | k + 1,n,.tup xs,h=>by
  unfold Sh at h
  obtain ⟨m,hm,hn⟩:=h
  have hx:=fun x hx=>b0u k m x (hm x hx)
  obtain ⟨h1,h2,h3⟩:=a5g hx
  obtain ⟨h4,h5⟩:=P8 fun x h=>(hx x h).ln
  rw [toP]
  refine ⟨by rw [PyData.showable];exact h1,by rw [PyData.hasDict];exact h2,by rw [PyData.depth];walk_at "o",?_⟩
  rw [PyData.shown]
  have:=a4T (PyData.shownAll (toPs xs))
  walk_at "o"
 | k + 1,n,.lst xs,h=>by
  unfold Sh at h
  obtain ⟨m,hm,hn⟩:=h
  have hx:=fun x hx=>b0u k m x (hm x hx)
  obtain ⟨h1,h2,h3⟩:=a5g hx
  obtain ⟨h4,h5⟩:=P8 fun x h=>(hx x h).ln
  rw [toP]
  refine ⟨by rw [PyData.showable];exact h1,by rw [PyData.hasDict];exact h2,by rw [PyData.depth];walk_at "o",?_⟩
  rw [PyData.shown]
  have:=a5U (PyData.shownAll (toPs xs))
  walk_at "o"
 | 0,n,.tup xs,h=>by unfold Sh at h;exact h.elim
 | 0,n,.lst xs,h=>by unfold Sh at h;exact h.elim
 | 0,n,.str x,h=>by unfold Sh at h;exact h.elim
 | k + 1,n,.str x,h=>by unfold Sh at h;exact h.elim
 | 0,n,.dT _ _,h=>by unfold Sh at h;exact h.elim
 | k + 1,n,.dT _ _,h=>by unfold Sh at h;exact h.elim
 | 0,n,.dK _ _,h=>by unfold Sh at h;exact h.elim
 | k + 1,n,.dK _ _,h=>by unfold Sh at h;exact h.elim
 | 0,n,.exn _,h=>by unfold Sh at h;exact h.elim
 | k + 1,n,.exn _,h=>by unfold Sh at h;exact h.elim
section
variable {X:Cx}{pins:List (Addr×PySem.Obj)}{σ:L2.St}{H:Hp}{s:Shared}{A:Av}
theorem a15 (I:Inv X pins σ H s){P:D->Prop}(ih:∀d,P d->∀v u,Den X.K A H d v->RelV v u->∃as,Reads s.heap u (toP d) as):∀{xs:List D} {vs:List V} {us:List Value},(∀x∈xs,P x)->DenL X.K A H xs vs->Vals vs us->∃as,ReadsAll s.heap us (toPs xs) as
 | [],vs,us,_,l,r=>by rw [DenL] at l;subst l;cases r;exact ⟨[],.nil⟩
 | x :: xs,vs,us,hp,l,r=>by
  rw [DenL] at l
  obtain ⟨v,rs,rfl,hd,l⟩:=l
  cases r with
  | cons r1 r2=>
   obtain ⟨as,ha⟩:=ih x (hp x List.mem_cons_self) _ _ hd r1
   obtain ⟨bs,hb⟩:=a15 I ih (fun y hy=>hp y (List.mem_cons_of_mem _ hy)) l r2
   exact ⟨as ++ bs,.cons ha hb⟩
theorem a2X (I:Inv X pins σ H s):∀(k n:Nat) (d:D),Sh k n d->∀v u,DenR X.K A H d v->RelV v u->∃as,Reads s.heap u (toP d) as
 | k,n,.int i,h,v,u,hd,r=>by
  have hd:Den X.K A H (.int i) v:=hd
  rw [Den] at hd;subst hd
  obtain ⟨t,rfl⟩:=r
  exact ⟨[],by rw [toP];exact .int i t⟩
 | k,n,.non,h,v,u,hd,r=>by
  have hd:Den X.K A H .non v:=hd
  rw [Den] at hd;subst hd;cases r
  exact ⟨[],by rw [toP];exact .none⟩
 | k,n,.bl b,h,v,u,hd,r=>by
  have hd:Den X.K A H (.bl b) v:=hd
  rw [Den] at hd;subst hd;cases r
  exact ⟨[],by rw [toP];exact .bool b⟩
 | k + 1,n,.tup xs,h,v,u,hd,r=>by
  unfold Sh at h
  obtain ⟨m,hm,hn⟩:=h
  have hd:Den X.K A H (.tup xs) v:=hd
  rw [Den] at hd
  obtain ⟨a,vs,rfl,hq,l⟩:=hd
  cases r
  obtain ⟨its,rv,⟨o,e1,e2,nn,e3⟩,_⟩:=I.tuple hq
  obtain ⟨as,ha⟩:=a15 I (P:=Sh k m) (fun d hp v u hd r=>a2X I k m d hp v u (M6 hd) r) hm l rv
  exact ⟨as,by rw [toP];exact .tuple e1 e2 e3 (by simpa using ha)⟩
 | k + 1,n,.lst xs,h,v,u,hd,r=>by
  unfold Sh at h
  obtain ⟨m,hm,hn⟩:=h
  obtain ⟨a,vs,rfl,hq,l⟩:=hd
  cases r
  obtain ⟨its,rv,⟨o,nn,e1,e2,_,e3⟩,_⟩:=I.list hq
  obtain ⟨as,ha⟩:=a15 I (P:=Sh k m) (fun d hp v u hd r=>a2X I k m d hp v u (M6 hd) r) hm l rv
  exact ⟨_,by rw [toP];exact .list e1 e2 e3 (by simpa using ha)⟩
 | 0,n,.tup xs,h,_,_,_,_=>by unfold Sh at h;exact h.elim
 | 0,n,.lst xs,h,_,_,_,_=>by unfold Sh at h;exact h.elim
 | 0,n,.str x,h,_,_,_,_=>by unfold Sh at h;exact h.elim
 | k + 1,n,.str x,h,_,_,_,_=>by unfold Sh at h;exact h.elim
 | 0,n,.dT _ _,h,_,_,_,_=>by unfold Sh at h;exact h.elim
 | k + 1,n,.dT _ _,h,_,_,_,_=>by unfold Sh at h;exact h.elim
 | 0,n,.dK _ _,h,_,_,_,_=>by unfold Sh at h;exact h.elim
 | k + 1,n,.dK _ _,h,_,_,_,_=>by unfold Sh at h;exact h.elim
 | 0,n,.exn _,h,_,_,_,_=>by unfold Sh at h;exact h.elim
 | k + 1,n,.exn _,h,_,_,_,_=>by unfold Sh at h;exact h.elim
def rStr (K:PySem.W.Frag):List V->Hp->VK->Prop:=fun xs H Q=>(∃i,xs=[.int i]/\i.natAbs.log2 < 1920/\Q (.str (toString i)) H)\/∃(A:Av) (d:D) (a:Addr),xs=[.ref a]/\DenR K A H d (.ref a)/\Sh 8 10000000 d/\Q (.str (txt d)) H
theorem a7T {k:Nat}(hr:Room k X.A):CallR X (.type "str") (rStr X.K):=by
 intro pins s σ H xs us Q I r h
 rcases h with h | ⟨A,d,a,rfl,hd,hs,q⟩
 ·exact a4L pins s σ H xs us Q I r h
 ·obtain ⟨u,rfl,r1⟩:=vals1 r
  cases r1
  obtain ⟨as,ha⟩:=a2X I 8 _ d hs _ _ hd rfl
  have sp:=b0u 8 _ d hs
  have hu:=hr.units
  have dp:=sp.dp
  exact str_of_reads ha sp.sh (PyData.noDict_hsm sp.nd) hr.gd (by walk_at "o") (fun b o e=>e) (fun h' u tk hk=>⟨.str (txt d),H,I.kept hk,⟨u,rfl⟩,q⟩) (Nat.le_trans sp.ln (by decide))
open Classical in
def gStrD:D->Option W
 | .tup xs=>if Sh 8 10000000 (.tup xs) then some (.v (.str (txt (.tup xs)))) else none
 | .lst xs=>if Sh 8 10000000 (.lst xs) then some (.v (.str (txt (.lst xs)))) else none
 | d=>gStr d
theorem V1:PrA X (k1 gStrD) (rStr X.K):=pr1 fun A d w v H Q e h q=>by
 cases d with
 | tup xs=>
  simp only [gStrD] at e
  split at e
  ·rename_i hs
   cases e
   have h':Den X.K A H (.tup xs) v:=h
   rw [Den] at h'
   obtain ⟨a,vs,rfl,_⟩:=h'
   exact .inr ⟨A,_,a,rfl,h,hs,q _ H (Same.refl H) M8⟩
  ·cases e
 | lst xs=>
  simp only [gStrD] at e
  split at e
  ·rename_i hs
   cases e
   obtain ⟨a,vs,rfl,_⟩:=id h
   exact .inr ⟨A,_,a,rfl,h,hs,q _ H (Same.refl H) M8⟩
  ·cases e
 | int i=>
  simp only [gStrD,gStr] at e
  split at e
  ·rename_i hl
   cases e
   refine .inl ⟨i,by rw [k7 h],?_,q _ H (Same.refl H) M8⟩
   by_cases z:i.natAbs=0
   ·rw [z];decide
   ·exact Nat.lt_of_lt_of_le ((Nat.log2_lt z).mpr hl) (by decide)
  ·cases e
 | _=>cases e
end
theorem a4U:∀(k:Nat) {m n:Nat} {d:D},Sh k m d->m<=n->Sh k n d:=by
 intro k m n d h hn
 cases d with
 | int i=>unfold Sh at h ⊢;exact ⟨h.1,by walk_at "o"⟩
 | non=>unfold Sh at h ⊢;walk_at "o"
 | bl b=>unfold Sh at h ⊢;walk_at "o"
 | tup xs=>cases k with
  | zero=>unfold Sh at h;exact h.elim
  | succ k=>unfold Sh at h ⊢;obtain ⟨p,h1,h2⟩:=h;exact ⟨p,h1,by walk_at "o"⟩
 | lst xs=>cases k with
  | zero=>unfold Sh at h;exact h.elim
  | succ k=>unfold Sh at h ⊢;obtain ⟨p,h1,h2⟩:=h;exact ⟨p,h1,by walk_at "o"⟩
 | _=>cases k <;> (unfold Sh at h;exact h.elim)
theorem b1K:∀(k:Nat) {n:Nat} {d:D},Sh k n d->Sh (k + 1) n d:=by
 intro k
 induction k with
 | zero=>
  intro n d h
  cases d with
  | int i=>unfold Sh at h ⊢;exact h
  | non=>unfold Sh at h ⊢;exact h
  | bl b=>unfold Sh at h ⊢;exact h
  | _=>unfold Sh at h;exact h.elim
 | succ k ih=>
  intro n d h
  cases d with
  | int i=>unfold Sh at h ⊢;exact h
  | non=>unfold Sh at h ⊢;exact h
  | bl b=>unfold Sh at h ⊢;exact h
  | tup xs=>unfold Sh at h ⊢;obtain ⟨p,h1,h2⟩:=h;exact ⟨p,fun x hx=>ih (h1 x hx),h2⟩
  | lst xs=>unfold Sh at h ⊢;obtain ⟨p,h1,h2⟩:=h;exact ⟨p,fun x hx=>ih (h1 x hx),h2⟩
  | _=>unfold Sh at h;exact h.elim
theorem shI {k:Nat}{i:Int}(h:i.natAbs < 2 ^ 1900):Sh k 1910 (.int i):=by unfold Sh;exact ⟨h,Nat.le_refl _⟩
theorem shT {k m n:Nat}{xs:List D}(h:∀x∈xs,Sh k m x)(hn:xs.length * (m + 2) + 4<=n):Sh (k + 1) n (.tup xs):=by unfold Sh;exact ⟨m,h,hn⟩
theorem shL {k m n:Nat}{xs:List D}(h:∀x∈xs,Sh k m x)(hn:xs.length * (m + 2) + 4<=n):Sh (k + 1) n (.lst xs):=by unfold Sh;exact ⟨m,h,hn⟩
theorem b2p {k j n:Nat}{d:D}(h:Sh k n d)(hk:k<=j):Sh j n d:=by
 induction hk with
 | refl=>exact h
 | step _ ih=>exact b1K _ ih
theorem b3u {k n:Nat}{xs:List D}(h:Sh k n (.tup xs))(hk:k<=8)(hn:n<=10000000):gStrD (.tup xs)=some (.v (.str (txt (.tup xs)))):=if_pos (a4U 8 (b2p h hk) hn)
theorem b3j {k n:Nat}{xs:List D}(h:Sh k n (.lst xs))(hk:k<=8)(hn:n<=10000000):gStrD (.lst xs)=some (.v (.str (txt (.lst xs)))):=if_pos (a4U 8 (b2p h hk) hn)
section
variable {X:Cx}{a:Expr}{f:FX}{pos:Pos}
theorem b1r {ta:TE}(ha:PE X a ta):PE X (.UnaryOp .Not a pos) (fun σ H Q=>ta σ H fun x H'=>∃k,TruV X.K x H' k/\Q (.bl (!k)) H'):=by
 intro pins s σ H Q I h
 refine UnaryOp_ (thn (ha pins s σ H _ I h) fun v s1 ⟨x,H1,I1,r1,q1⟩=>?_)
 obtain ⟨k,q1,q2⟩:=q1
 exact not_of (wpAny_mono (a9E pins s1 σ H1 x v (fun k' H'=>Q (.bl (!k')) H') I1 r1 ⟨k,q1,q2⟩) (fun b s2 ⟨H2,I2,q3⟩=>⟨.bl (!b),H2,I2,rfl,q3⟩) (fun _ _ z=>z))
def fNotT (f:FX):FX:=fun ρ=>(fTru f ρ).map fun p=>(.v (.bl (!p.1)),p.2)
theorem a4Q (ha:QX X a f):QX X (.UnaryOp .Not a pos) (fNotT f):=⟨PE.weak (b1r ha.to) fun σ H Q h0=>tXe h0 fun P O L ρ w0 ρ' r e q=>by
 unfold fNotT fTru at e
 cases e1:f ρ with
 | none=>rw [e1] at e;cases e
 | some p=>
  obtain ⟨w,ρ1⟩:=p
  rw [e1] at e
  simp only [Option.bind_some] at e
  cases e2:dr ρ1 w.fz with
  | none=>rw [e2] at e;cases e
  | some d=>
   rw [e2] at e
   simp only [Option.bind_some] at e
   cases e3:truth d with
   | none=>rw [e3] at e;cases e
   | some k'=>
    rw [e3] at e;cases e
    exact ⟨P,O,L,ρ,w,_,r,e1,fun v H1 H' r1 s1 d1=>⟨k',a7u e3 (S9 (r1.grow s1) e2 (d1.fz r1 s1)),q _ H' H' (r1.grow s1) (Same.refl _) F4⟩⟩⟩
end
section
variable {f:FX}{ρ:Ev}{k:Bool}
def nt2:Option (Bool×Ev)->Option (W×Ev)
 | some p=>some (.v (.bl (!p.1)),p.2)
 | none=>none
theorem r_nt:fNotT f ρ=nt2 (tru2 (f ρ)):=by unfold fNotT;rw [b2v];unfold nt2;cases tru2 (f ρ) <;> rfl
theorem r_nt2:nt2 (some (k,ρ))=some (.v (.bl (!k)),ρ):=rfl
end
structure Bq (m:Nat) (q:Rat):Prop where
 nn:0<=q
 le:q<=((10 ^ 12:Int):Rat)
 dn:q.den < 2 ^ m
theorem Bq.sz {m:Nat}{q:Rat}(h:Bq m q):Sz (m + 41) q:=by
 refine ⟨?_,Nat.lt_of_lt_of_le h.dn (Nat.pow_le_pow_right (by decide) (by walk_at "o"))⟩
 have h1:=Rat.num_nonneg.mpr h.nn
 have h2:=(Rat.le_iff _ _).mp h.le
 rw [Rat.num_intCast,Rat.den_intCast] at h2
 have h3:q.num<=10 ^ 12 * (q.den:Int):=by
  have:q.num * ((1:Nat):Int)=q.num:=by walk_at "o"
  rw [this] at h2;exact h2
 have h4:(q.num.natAbs:Int)<=10 ^ 12 * (q.den:Int):=by walk_at "o"
 have h5:q.num.natAbs<=10 ^ 12 * q.den:=by exact_mod_cast h4
 have h6:10 ^ 12 * q.den < 2 ^ 41 * 2 ^ m:=Nat.mul_lt_mul'' (by decide) h.dn
 rw [<-Nat.pow_add,Nat.add_comm] at h6
 walk_at "o"
theorem a0M {t b:Int}(hb:0 < b):(Rat.divInt t b).den<=b.natAbs:=by
 rw [Rat.den_divInt,if_neg (by walk_at "o")]
 exact Nat.div_le_self _ _
theorem a6s (p q:Rat):(p - q).den<=p.den * q.den:=by
 have h:=a0M (t:=p.num * q.den - q.num * p.den) (a3i p q)
 rw [V3] at h
 rw [Int.natAbs_mul,Int.natAbs_natCast,Int.natAbs_natCast] at h
 exact h
theorem a2T (g:Int)(q:Rat):((g:Rat) - q).den<=q.den:=by
 have h:=a6s (g:Rat) q
 rw [Rat.den_intCast,Nat.one_mul] at h
 exact h
theorem a8n {t b c:Int}(hb:0 < b)(h:t<=c * b):Rat.divInt t b<=(c:Rat):=by
 have e:(c:Rat) - Rat.divInt t b=Rat.divInt (c * b - t) b:=by
  have:(c:Rat)=Rat.divInt (c * b) b:=by
   rw [show (c:Rat)=Rat.divInt c 1 from (Rat.num_divInt_den (c:Rat)).symm]
   rw [Rat.divInt_eq_divInt_iff (by decide) (by walk_at "o"),Int.mul_one]
  rw [this,Rat.divInt_sub_divInt _ _ (by walk_at "o") (by walk_at "o")]
  rw [Rat.divInt_eq_divInt_iff (Int.mul_ne_zero (by walk_at "o") (by walk_at "o")) (by walk_at "o")]
  rw [<-Int.sub_mul,Int.mul_assoc]
 rw [Rat.le_iff_sub_nonneg,e]
 exact Rat.divInt_nonneg (by walk_at "o") (by walk_at "o")
theorem a8C (p q:Rat):p.num * q.den < q.num * p.den↔p < q:=(Rat.lt_iff p q).symm
theorem a2H {α:Type}{l:List α}{i j:Nat}{x d:α}(h:i≠j):(l.set i x).getD j d=l.getD j d:=by
 rw [List.getD_eq_getElem?_getD,List.getD_eq_getElem?_getD,List.getElem?_set_ne h]
def up (m:Nat):List Int:=(List.range m).map fun (i:Nat)=>0 + (i:Int)
theorem b0G {m:Nat}{x:Int}:x∈up m↔0<=x/\x < m:=by
 unfold up
 rw [List.mem_map]
 constructor
 ·rintro ⟨i,hi,rfl⟩;rw [List.mem_range] at hi;walk_at "o"
 ·intro h;exact ⟨x.toNat,List.mem_range.mpr (by walk_at "o"),by walk_at "o"⟩
theorem b2B (m:Nat):(up m).length=m:=by unfold up;simp
theorem a4o (m:Nat):(up m).Pairwise (· < ·):=by
 unfold up
 rw [List.pairwise_map]
 exact List.pairwise_lt_range.imp fun h=>by walk_at "o"
theorem a1v (m:Nat):(up m).Nodup:=(a4o m).imp fun h=>by walk_at "o"
section
variable {X:Cx}{o:Expr}{apos pos:Pos}{f:FX}
theorem a5V {K:PySem.W.Frag}{A:Av}{H:Hp}:∀{ds:List D} {vs:List V},DenL K A H ds vs->DenL K A H ds.reverse vs.reverse
 | [],_,h=>by rw [DenL] at h;subst h;exact j9
 | d :: ds,_,h=>by
  rw [DenL] at h
  obtain ⟨v,r,rfl,q,l⟩:=h
  rw [List.reverse_cons,List.reverse_cons]
  exact t7 (a5V l) (j8 q j9)
def mRev (xs ds:List D):Option (W×List D):=match ds with
 | []=>some (.v .non,xs.reverse)
 | _=>none
theorem b37:PrM X mRev rReverse:=fun A a xs ds w ys us vs H Q h l l' e q _=>by
 unfold mRev at e
 split at e
 ·cases e
  rw [DenL] at l'
  subst l'
  exact ⟨a,us,rfl,rfl,h,q _ _ (a5V l) a0k⟩
 ·cases e
theorem b35:∀xs ds w ys,mRev xs ds=some (w,ys)->∃d,w= .v d:=fun xs ds w ys e=>by
 unfold mRev at e
 split at e
 ·cases e;exact ⟨_,rfl⟩
 ·cases e
theorem a6I (ho:QX X o f)(hbase:attributeBase o "reverse" X.env (eval o X.env)=eval o X.env:=by rfl)(hline:(apos.endLine == pos.line)=true:=by rfl):QX X (.Call (.Attribute o "reverse" apos) [] [] pos) (fMut mRev f fNil):=
 ⟨PE.weak (a9d PySem.F.plainAttrs_list PySem.F.slot_list_reverse PySem.F.type_list_reverse a6Y ho.to hbase hline) fun σ H Q h=>by
  obtain ⟨P,O,L,ρ,w,ρ',r,e,q⟩:=a3b b37 b35 σ H Q h
  exact ⟨P,O,L,ρ,w,ρ',r,e,fun v H1 H' r1 s1 d1=>by
   obtain ⟨ty,P2,O2,L2',ρ2,ws,ρ2',r2,e2,q2⟩:=q v H1 H' r1 s1 d1
   cases e2
   exact ⟨ty,q2 [] H' r2 rfl⟩⟩⟩
end
section
variable {X:Cx}
open Classical in
def gStrE:D->Option W
 | .non=>some (.v (.str "None"))
 | .bl b=>some (.v (.str (if b then "True" else "False")))
 | .str x=>some (.v (.str x))
 | .dK [] []=>some (.v (.str (PyData.dict []).shown))
 | d=>gStrD d
def rStrE (K:PySem.W.Frag):List V->Hp->VK->Prop:=fun xs H Q=>rStr K xs H Q\/(xs=[.non]/\Q (.str "None") H)\/(∃b,xs=[.bl b]/\Q (.str (if b then "True" else "False")) H)\/(∃x,xs=[.str x]/\Q (.str x) H)\/∃a,xs=[.ref a]/\H a=some (.dK [])/\Q (.str (PyData.dict []).shown) H
theorem a3J {k:Nat}(hr:Room k X.A):CallR X (.type "str") (rStrE X.K):=by
 intro pins s σ H xs us Q I r h
 rcases h with h | ⟨rfl,q⟩ | ⟨b,rfl,q⟩ | ⟨x,rfl,q⟩ | ⟨a,rfl,e,q⟩
 ·exact a7T hr pins s σ H xs us Q I r h
 ·obtain ⟨u,rfl,r1⟩:=vals1 r
  cases (show u=Value.none from r1)
  exact PySem.P.str_of_none ⟨.str _,H,I.tok _,⟨_,rfl⟩,q⟩
 ·obtain ⟨u,rfl,r1⟩:=vals1 r
  cases (show u=Value.bool b from r1)
  exact PySem.P.str_of_bool ⟨.str _,H,I.tok _,⟨_,by cases b <;> rfl⟩,q⟩
 ·obtain ⟨u,rfl,t,rfl⟩:=vals1 r
  exact PySem.P.str_of_str ⟨.str _,H,I,⟨_,rfl⟩,q⟩
 ·obtain ⟨u,rfl,r1⟩:=vals1 r
  cases r1
  obtain ⟨_,hs,vs,rel,o,es,ep,e1,e2,e3,_,pr,_⟩:=a4n I.hok e
  cases rel
  have hes:es.toList=[]:=by cases hh:es.toList with
   | nil=>rfl
   | cons x xs=>rw [hh] at pr;cases pr
  have rd:Reads s.heap (.ref a) (PyData.dict []) (a :: [] ++ []):=.dict e1 e2.1 e3 (by rw [hes];exact .nil) (by rw [hes];exact .nil)
  have hu:=hr.units
  exact str_of_reads rd rfl (fun _ hm=>by
   rcases List.mem_cons.mp hm with z | z
   ·rw [<-z] at hs;simp at hs
   ·cases z) hr.gd (by show X.A.units + (1 + 3) < cLine;walk_at "o") (fun b o e=>e) (fun h' u tk hk=>⟨.str _,H,I.kept hk,⟨u,rfl⟩,q⟩) (by decide)
theorem a7D:PrA X (k1 gStrE) (rStrE X.K):=fun A ds w vs H Q hA e l q=>by
 match ds,e,l with
 | [d],e,l=>
  have e:gStrE d=some w:=e
  have l0:=l
  obtain ⟨v,rfl,h⟩:=denRL1 l
  cases d with
  | non=>cases e;have h:Den X.K A H .non v:=h;rw [a4I.mp h];exact .inr (.inl ⟨rfl,q _ H (Same.refl H) M8⟩)
  | bl b=>cases e;have h:Den X.K A H (.bl b) v:=h;rw [a2s.mp h];exact .inr (.inr (.inl ⟨b,rfl,q _ H (Same.refl H) M8⟩))
  | str x=>cases e;have h:Den X.K A H (.str x) v:=h;rw [a1F.mp h];exact .inr (.inr (.inr (.inl ⟨x,rfl,q _ H (Same.refl H) M8⟩)))
  | dK ks xs=>
   cases ks with
   | nil=>
    cases xs with
    | nil=>
     cases e
     obtain ⟨a,vs,rfl,hq,_,lz⟩:=h
     exact .inr (.inr (.inr (.inr ⟨a,rfl,hq,q _ H (Same.refl H) M8⟩)))
    | cons x xs=>exact .inl (V1 A [_] w _ H Q hA e l0 q)
   | cons k ks=>cases xs <;> exact .inl (V1 A [_] w _ H Q hA e l0 q)
  | int i=>exact .inl (V1 A [_] w _ H Q hA e l0 q)
  | tup xs=>exact .inl (V1 A [_] w _ H Q hA e l0 q)
  | lst xs=>exact .inl (V1 A [_] w _ H Q hA e l0 q)
  | dT ks xs=>exact .inl (V1 A [_] w _ H Q hA e l0 q)
  | exn C=>exact .inl (V1 A [_] w _ H Q hA e l0 q)
end
section
variable {xs:List D}{b:Bool}{x:Str}{i:Int}
theorem r_rev:mRev xs []=some (.v .non,xs.reverse):=id rfl
theorem a9F:gStrE .non=some (.v (.str "None")):=id rfl
theorem b2j:gStrE (.bl b)=some (.v (.str (if b then "True" else "False"))):=id rfl
theorem a9c:gStrE (.str x)=some (.v (.str x)):=id rfl
theorem b3I:gStrE (.dK [] [])=some (.v (.str (PyData.dict []).shown)):=id rfl
theorem b3r:gStrE (.tup xs)=gStrD (.tup xs):=id rfl
theorem b2W:gStrE (.lst xs)=gStrD (.lst xs):=id rfl
end
section
variable {X:Cx}{e:Expr}{pos p:Pos}{fa:FA}
theorem a4Y:CallR X (.builtin "sorted") (fun xs H Q=>∃(p:Addr) (ns:List Int),xs=[.ref p]/\SqT X.K H p (ns.map V.int)/\ns.length < 64/\∀l,H l=none->Q (.ref l) (upd H l (.lst ((sortI ns).map V.int)))):=by
 intro pins s σ H xs us Q I r h
 obtain ⟨p,ns,rfl,hq,h64,q⟩:=h
 obtain ⟨u,rfl,ru⟩:=vals1 r
 cases ru
 refine Calls.call_function_entry kind_sorted plain_sorted entry_sorted (args_sorted1 _) ?_
 unfold Builtin.«sorted»
 refine wpAny_bind (m:=checkCount "sorted" 1 1 _) (wpAny_pure ?_)
 obtain ⟨its,rv,⟨o,h1,h2,m,h4⟩,hz⟩:=I.tuple hq
 have len:its.length=ns.length:=by rw [<-rv.length,List.length_map]
 have sz:its.length<=sizeLine:=by rw [len,sizeLine_eq];walk_at "o"
 refine wpAny_bind (wpAny_collect_seq p (.inr rfl) h1 h2 h4 (fun G kp=>?_) (by rw [List.size_toArray];exact sz))
 refine wpAny_bind (wpAny_newList ?_ sz)
 have I1:Inv X pins σ H {s with heap:=G}:=I.kept (t':=s.toks) kp
 have ho:(G.push (seqObj "list" its.toArray 0)).get? G.objs.size=some (seqObj "list" its.toArray 0):=Heap.get?_push_size _ rfl
 refine wpAny_bind (wpAny_holding ?_)
 refine wpAny_call_entry PyProof.Rows.slot_list_sort ⟨_,ho,rfl⟩ PyProof.Rows.entry_list_sort (list_sort_tree (n:=0) (vs:=its) ho (P5 rv) (by walk_at "o") fun out ns' hI hp hP=>⟨.none,rfl,?_⟩) (PyProof.Rows.args_list_sort _)
 have es:ns'=sortI ns:=PySem.W.lks_uniq (hp.trans (A4 ns).symm) hP (U4 ns)
 subst es
 have g1:=get?_update_seq ho (fun _=> #[])
 have g2:=get?_update_seq (Heap.get?_push_of_some (seqObj "list" #[] 0) (Heap.get?_push_of_some (seqObj "tuple" its.toArray 0) g1)) (fun _=>out)
 have kept:∀b o,G.get? b=some o->(sortedHeap (G.push (seqObj "list" its.toArray 0)) G.objs.size its out).get? b=some o:=fun b o e=>by
  have ne:b≠G.objs.size:=Nat.ne_of_lt (Heap.lt_size e)
  unfold sortedHeap
  rw [Heap.get?_update_ne _ _ _ _ ne]
  refine Heap.get?_push_of_some _ (Heap.get?_push_of_some _ ?_)
  rw [Heap.get?_update_ne _ _ _ _ ne]
  exact Heap.get?_push_of_some _ e
 refine wpAny_pure ⟨_,rfl,.ref G.objs.size,_,I1.laid (t':=s.toks) (o:=.lst ((sortI ns).map V.int)) kept (Nat.le_refl _) ?_,rfl,q _ (I1.hok.fresh (Nat.le_refl _))⟩
 obtain ⟨ep,g3⟩:∃ep,(sortedHeap (G.push (seqObj "list" its.toArray 0)) G.objs.size its out).get? G.objs.size=some (seqObj "list" out.toList.toArray ep):=⟨_,by rw [Array.toArray_toList];exact g2⟩
 exact ⟨by rw [List.length_map,(A4 ns).length_eq,sizeLine_eq];walk_at "o",out.toList,_,U7 hI,g3⟩
theorem a5h:CallR X (.builtin "sorted") (fun xs H Q=>∃p ks,xs=[.ref p]/\(∃as,SqT X.K H p (as.map V.ref)/\Al X.K H as ks)/\ks.length < 64/\(∀k∈ks,k≠[])/\∀l bs,H l=none->Al X.K H bs (sortK ks)->Q (.ref l) (upd H l (.lst (bs.map V.ref)))):=by
 intro pins s σ H xs us Q I r h
 obtain ⟨p,ks,rfl,src,h64,ne,q⟩:=h
 obtain ⟨u,rfl,ru⟩:=vals1 r
 cases ru
 refine Calls.call_function_entry kind_sorted plain_sorted entry_sorted (args_sorted1 _) ?_
 unfold Builtin.«sorted»
 refine wpAny_bind (m:=checkCount "sorted" 1 1 _) (wpAny_pure ?_)
 obtain ⟨as,hq,al⟩:=src
 have len:=al.len
 obtain ⟨its,rv,⟨o,h1,h2,m,h4⟩,hz⟩:=I.tuple hq
 have ei:=X5 rv
 subst ei
 have sz:(as.map Value.ref).length<=sizeLine:=by rw [List.length_map,len,sizeLine_eq];walk_at "o"
 refine wpAny_bind (wpAny_collect_seq p (.inr rfl) h1 h2 h4 (fun G kp=>?_) (by rw [List.size_toArray];exact sz))
 refine wpAny_bind (wpAny_newList ?_ sz)
 have I1:Inv X pins σ H {s with heap:=G}:=I.kept (t':=s.toks) kp
 refine wpAny_bind (wpAny_holding (wpAny_mono (a2c I1 al ne h64 q) (fun _ s' x=>?_) fun _ _ z=>z))
 exact wpAny_pure ⟨_,rfl,x⟩
def gSortU:D->Option W
 | .tup xs=>match intsOf xs with
  | some ns=>if ns.length < 64 then some (.o (.lst ((sortI ns).map D.int))) else none
  | none=>(tupsOf xs).bind fun ks=>if ks.length < 64/\(∀k∈ks,k≠[]) then some (.o (.lst ((sortK ks).map tupI))) else none
 | d=>gSort d
theorem b0C:PrA X (k1 gSortU) (fun xs H Q=>(((∃(p:Addr) (ns:List Int),xs=[.ref p]/\SqL X.K H p (ns.map V.int)/\ns.length < 64/\∀l,H l=none->Q (.ref l) (upd H l (.lst ((sortI ns).map V.int))))\/
  ∃p ks,xs=[.ref p]/\SrcT X.K H p ks/\ks.length < 64/\(∀k∈ks,k≠[])/\∀l bs,H l=none->Al X.K H bs (sortK ks)->Q (.ref l) (upd H l (.lst (bs.map V.ref))))\/
  (∃(p:Addr) (ns:List Int),xs=[.ref p]/\SqT X.K H p (ns.map V.int)/\ns.length < 64/\∀l,H l=none->Q (.ref l) (upd H l (.lst ((sortI ns).map V.int)))))\/
  ∃p ks,xs=[.ref p]/\(∃as,SqT X.K H p (as.map V.ref)/\Al X.K H as ks)/\ks.length < 64/\(∀k∈ks,k≠[])/\∀l bs,H l=none->Al X.K H bs (sortK ks)->Q (.ref l) (upd H l (.lst (bs.map V.ref)))):=fun A ds w vs H Q hA e l q=>by
 match ds,e,l with
 | [d],e,l=>
  have e:gSortU d=some w:=e
  cases d with
  | tup xs=>
   obtain ⟨v,rfl,h⟩:=denRL1 l
   have h:Den X.K A H (.tup xs) v:=h
   rw [Den] at h
   obtain ⟨a,us,rfl,hq,lz⟩:=h
   unfold gSortU at e
   dsimp only at e
   cases e1:intsOf xs with
   | some ns=>
    rw [e1] at e
    dsimp only at e
    split at e
    ·rename_i hl
     cases e
     rw [w8 e1] at lz
     rw [v3 lz] at hq
     exact .inl (.inr ⟨a,ns,rfl,hq,hl,fun l hl=>q _ _ (k5 hl _) (C3 hl (K6 _))⟩)
    ·cases e
   | none=>
    rw [e1] at e
    dsimp only at e
    obtain ⟨ks,e2,e⟩:=obs e
    split at e
    ·rename_i hl
     cases e
     obtain ⟨as,rfl,al⟩:=a1n e2 lz
     exact .inr ⟨a,ks,rfl,⟨as,hq,al⟩,hl.1,hl.2,fun l bs hp al=>q _ _ (k5 hp _) (C3 hp al.den)⟩
    ·cases e
  | lst xs=>exact .inl (.inl (a1w A [_] w vs H Q hA e l q))
  | dT ks xs=>exact .inl (.inl (a1w A [_] w vs H Q hA e l q))
  | dK ks xs=>exact .inl (.inl (a1w A [_] w vs H Q hA e l q))
  | _=>exact .inl (.inl (a1w A [_] w vs H Q hA e l q))
theorem P9 {k:Nat}(hr:Room k X.A)(hc:X.calm=true)(hm:X.mg "sorted"=none)(ha:QA X [e] fa)(hv:bootBuiltins "sorted"=some (.builtin "sorted"):=by rfl)(hg:Gl X "sorted":=by rfl)
  (he:starEach [e] X.env=(false,eval e X.env) :: starEach [] X.env:=by rfl):QX X (.Call (.Name "sorted" p) [e] [] pos) (fCall (k1 gSortU) fa):=a3r (((a1E.or (a1J hc)).or a4Y).or a5h) b0C hv hm ha hg (by decide) (by decide) he rfl
end
section
variable {xs:List D}
theorem a9h:gSortU (.lst xs)=gSort (.lst xs):=id rfl
theorem b2M {ns:List Int}(h:ns.length < 64):gSortU (.tup (ns.map .int))=some (.o (.lst ((sortI ns).map D.int))):=by
 unfold gSortU;dsimp only;rw [p8];exact if_pos h
theorem b2G {ks:List (List Int)}(h:ks.length < 64)(ne:∀k∈ks,k≠[]):gSortU (.tup (ks.map tupI))=some (.o (.lst ((sortK ks).map tupI))):=by
 cases ks with
 | nil=>simp [gSortU,intsOf,sortI,sortK]
 | cons k ks=>
  unfold gSortU
  dsimp only
  rw [show intsOf ((k :: ks).map tupI)=none from rfl]
  dsimp only
  rw [L4,Option.bind_some,if_pos ⟨h,ne⟩]
end
end Z
local macro_rules | `(tactic| walk_at "z r") => `(tactic| simp only [Z.lim, Z.r_nt, Z.r_nt2, Z.r_fn, Z.b23, Z.r_fn3, Z.a9w, Z.b3e, Z.b2E, Z.nb_f, Z.nb_t, Z.r_ge, Z.r_ge2, Z.b1N, Z.r_ge4, Z.r_ge5, Z.r_dp, Z.r_dp2, Z.r_dp3, Z.r_dp4, Z.r_dp5, Z.r_dp6, Z.dks_0, Z.dks_i, Z.r_dnT, Z.b2S, Z.r_ext, Z.a8M, Z.r_td, Z.r_td2, Z.r_td3, Z.r_td4, Z.r_pt2, Z.r_pt3, Z.ix_0, Z.it_t, Z.r_iz, Z.r_iz2, Z.r_iz3, Z.r_iz4, Z.r_ie, Z.r_ie2, Z.b2k, Z.r_r1, Z.r_r1s, Z.r_r2, Z.r_r2s, Z.r_lr, Z.r_lr2, Z.b4n, Z.r_var, Z.b1z, Z.b1o, Z.b1J, Z.r_c, Z.b28, Z.b3P, Z.b09, Z.b1a, Z.b3n, Z.b32, Z.b2F, Z.b08, Z.b07, Z.b3c, Z.r_bin, Z.b2x, Z.b3D, Z.b3w, Z.b3T, Z.r_un, Z.r_un2, Z.r_un3, Z.a4O, Z.b39, Z.b2v, Z.b3E, Z.a8W, Z.r_not, Z.b4l, Z.r_and, Z.r_or, Z.b13, Z.b1x, Z.b3V, Z.b2J, Z.b2Y, Z.r_orV, Z.a9S, Z.a9D, Z.b0O, Z.b1v, Z.r_nil, Z.b2y, Z.b1n, Z.b0W, Z.b15, Z.b0M, Z.b0Y, Z.b2H, Z.b2P, Z.b2A, Z.r_tup, Z.r_lst, Z.b16, Z.b1g, Z.b3J, Z.b1C, Z.b1O, Z.r_k1, Z.r_k2, Z.r_def, Z.b3W, Z.b3y, Z.b20, Z.r_dl, Z.r_dl2, Z.r_dl3, Z.r_dl4, Z.r_sl, Z.r_sl2, Z.r_sl3, Z.r_sl4, Z.r_sl5, Z.b2V, Z.b3f, Z.r_o0, Z.r_o1, Z.r_o1O, Z.b3B, Z.a8t, Z.a8s, Z.r_ret, Z.b02, Z.b00, Z.b1P, Z.a9O, Z.r_ifS, Z.b1u, Z.b2h, Z.r_asg, Z.b0V, Z.b1i, Z.r_ag, Z.r_ag2, Z.r_ag3, Z.r_nxO, Z.b0T, Z.b4f, Z.b2c, Z.r_gcO, Z.b3G, Z.r_gs, Z.r_gs2, Z.r_gs3, Z.r_gs4, Z.b4b, Z.b1Z, Z.r_is, Z.r_is2, Z.b27, Z.b3s, Z.r_for, Z.b3M, Z.b2N, Z.b1L, Z.r_mu, Z.r_mu2, Z.r_mu3, Z.r_mu4, Z.r_mu5, Z.r_mu6, Z.r_app, Z.r_run, Z.b0h, Z.b3N, Z.a7X, Z.o_i0, Z.o_i, Z.b1b, Z.b1E, Z.b04, Z.o_neg, Z.b2C, Z.b3K, Z.b30, Z.b1F, Z.b1M, Z.o_abs, Z.o_int, Z.a8B, Z.o_d2, Z.a_0, Z.a_1, Z.a_2, Z.lfW_v, Z.lfW_o, Z.b0S, Z.b38, Z.a6K, Z.b05, Z.b1k, Z.b2Z, Z.b3S, Z.a8P, Z.own_0, Z.own_s, Z.b2O, Z.b3Z, Z.b34, Z.frz_o, Z.frz_s, Z.W.own, Z.start0, Z.deq, Z.deqL, Z.flatE, Z.isD, Z.lf, Z.lfL, Z.noR, Z.frzL, List.length_cons, List.length_nil, List.map_cons, List.map_nil, List.replicate, List.append_nil, List.nil_append, List.cons_append, List.getElem?_cons_zero, List.getElem?_cons_succ, List.set_cons_zero, List.set_cons_succ, Option.bind_some, Option.map_some, Option.map_none, if_true, if_false, Bool.false_eq_true, Nat.zero_add, Nat.reduceAdd, Nat.reduceSub, Nat.sub_self, Nat.add_one_sub_one, and_self, and_true, true_and, Bool.and_self, Bool.and_true, Bool.true_and, Bool.not_true, Bool.not_false, Bool.false_or, Bool.true_or, Bool.and_false, Bool.false_and, ite_self, decide_true, decide_false, Nat.reduceEqDiff, Nat.reduceLeDiff, beq_self_eq_true, Option.isSome_some])
set_option maxHeartbeats 1500000
namespace Q13
open PySem L2 Z
abbrev LO:=List D->Option W
abbrev LL:=D->List D->Option (W×D)
local macro_rules | `(tactic| walk_at "c") => `(tactic| exact ⟨rfl, rfl, rfl, by decide +kernel, rfl, by decide +kernel, by decide +kernel⟩)
def top (i:Nat):Stmt:=PySem.Challenge.pw_twainhoard_k13_sharings_known.main.body.getD i (.Pass ⟨0,0,0,0⟩)
section
variable {P:Program}{w:World}{K:PySem.W.Frag}{mg:Str->Option Value}{base:Heap}{f:Addr}{fd:FuncData}{k:Nat}
abbrev a1G (mg:Str->Option Value) (K:PySem.W.Frag):Prop:=GlT mg K "NOUGHT" [0,1]
abbrev a1g:Stmt:=top 1
theorem a2w:FnScope ["thing"] ["thing"] (defScope a1g):=by walk_at "c"
def a1f (g:LO):Prop:=∀d:D,isX d=false->g [d]=some (.v (.bl (whole d)))
theorem a6i (c9:mg "isinstance"=none)(m_int:mg "int"=none)(V7:mg "bool"=none)(F:Fun K "is_whole" "is_whole" a1g f fd)(B:Binds K fd ["thing"] [])(hm:mg "is_whole"=some (.ref f)):∃g,Fn P w K mg base "is_whole" (k + 1) g/\a1f g:=by
 have nd:=a2w.nd
 refine ⟨_,u7 F a2w B hm rfl rfl (fun cdv A outer s H E hr=>(b9 (g8 (K1 (K5 (T:="int") (K9 (by decide)) c9 m_int (a7 0)) (L7 (a4Q (K5 (T:="bool") (K9 (by decide)) c9 V7 (a7 0)))))))),?_⟩
 intro d hd
 have i1:=a85 hd
 have i2:=a4H hd
 cases d with
 | exn C=>cases hd
 | _=>repeat (first | walk_at "z r" | simp only [i1,i2,isI,isB,whole])
abbrev a2r:Stmt:=top 9
theorem a2Y:FnScope ["web","people","ties"] ["web"] (defScope a2r):=by walk_at "c"
def a4l (g:LO):Prop:=∀(n:Int) (ts:List Tie),WebOk n ts->g [webD n ts]=some (.o (.lst ((sortK (parK n ts)).map tupI)))
def one1:D->D
 | .int i=>.tup [.int i]
 | d=>d
def cut2:D->D
 | .tup [a,b,_]=>.tup [a,b]
 | d=>d
theorem b3A {a b c:D}:cutD [a,b,c] none (some 2)=[a,b]:=rfl
theorem a9a (n:Int)(ts:List Tie):((rngD 0 n.toNat).filter fun _=>true).map one1 ++ ((ts.map tieD).filter fun _=>true).map cut2=(parK n ts).map tupI:=by
 rw [o0,o0]
 unfold parK rngD
 rw [List.map_append,List.map_map,List.map_map,List.map_map,List.map_map]
 congr 1
 apply List.map_congr_left
 intro i _
 show D.tup [.int (0 + (i:Int))]=D.tup [.int (i:Int)]
 rw [Int.zero_add]
theorem a66 (p6:mg "sorted"=none)(k8:mg "range"=none)(F:Fun K "parties" "parties" a2r f fd)(B:Binds K fd ["web"] [])(hm:mg "parties"=some (.ref f)):∃g,Fn P w K mg base "parties" (k + 1) g/\a4l g:=by
 have nd:=a2Y.nd
 refine ⟨_,u7 F a2Y B hm rfl rfl (fun cdv A outer s H E hr=>(b8 (F9 (a7 0) (R5 rfl (l7 (g9 1 nd) (l7 (g9 2 nd) M4))))
  (b9 (g8 (a2n hr rfl p6 (a8 (m6 (F2 (N:=["person"]) (js:=[none]) (li:=none) rfl (B4 (by exact (.own .nil)) rfl (by exact trivial) (by rfl)) (a2p (a3k k8 (a8 (a7 1) a9))) (fun _ _ _ _=>(g9 0 (show ((["person"]:List Str) ++ [accN]).Nodup by decide +kernel))) (fun _ _ _ _=>A3) (fun _ _ _ _=>(m4 (a8 (a7 0) a9)))) (F2 (N:=["tie"]) (js:=[none]) (li:=none) rfl (B4 (by exact (.own .nil)) rfl (by exact trivial) (by rfl)) (B5 2) (fun _ _ _ _=>(g9 0 (show ((["tie"]:List Str) ++ [accN]).Nodup by decide +kernel))) (fun _ _ _ _=>A3) (fun _ _ _ _=>(T8 (a7 0) a0x (a0C b0))))) a9)))))),?_⟩
 intro n ts hw
 have hn:=hw.n1
 have hl:=hw.len
 obtain ⟨pl,pne⟩:=a1A hw
 have r1:(-(2 ^ 62:Int)<=n/\n < 2 ^ 62):=by walk_at "o"
 have so:=a0o (ks:=parK n ts) (by walk_at "o") pne
 have pq:=a9a n ts
 have ll:(((rngD 0 n.toNat).filter fun _=>true).map one1).length + (((ts.map tieD).filter fun _=>true).map cut2).length<=1000000:=by
  rw [o0,o0,List.length_map,List.length_map,List.length_map,J8];walk_at "o"
 unfold webD
 repeat (first | walk_at "z r")
 rw [t5 (ρ1:=[some (.v (.tup [.int n,.tup (ts.map tieD)])),some (.v (.int n)),some (.v (.tup (ts.map tieD)))]) (xs:=rngD 0 n.toNat) (fun B=>∃o1:Option D,B=[o1.map .v]) (fun _=>true) one1]
 ·repeat (first | walk_at "z r")
  rw [t5 (ρ1:=[some (.v (.tup [.int n,.tup (ts.map tieD)])),some (.v (.int n)),some (.v (.tup (ts.map tieD)))]) (xs:=ts.map tieD) (fun B=>∃o1:Option D,B=[o1.map .v]) (fun _=>true) cut2]
  ·repeat (first | walk_at "z r" | simp only [ll,pq,so])
  ·repeat (first | walk_at "z r")
  ·rintro _ ⟨_,rfl⟩;rfl
  ·exact ⟨none,rfl⟩
  ·rw [List.length_map];unfold lim;walk_at "o"
  ·refine F1 fun y hy=>?_
   obtain ⟨x,hx,rfl⟩:=List.mem_map.mp hy
   obtain ⟨t,_,rfl⟩:=List.mem_map.mp (List.mem_filter.mp hx).1
   rfl
  ·rintro x hx _ zs ⟨o1,rfl⟩
   obtain ⟨⟨a,b,c⟩,ha,rfl⟩:=List.mem_map.mp hx
   refine ⟨[some (.v (tieD (a,b,c)))],.v (.tup [.int a,.int b]),⟨some _,rfl⟩,?_,rfl,fun _=>⟨?_,.inl rfl⟩⟩
   ·repeat (walk_at "z r")
   ·unfold tieD
    repeat (first | walk_at "z r" | simp only [b3A])
 ·repeat (first | walk_at "z r" | simp only [r1])
 ·rintro _ ⟨_,rfl⟩;rfl
 ·exact ⟨none,rfl⟩
 ·rw [J8];unfold lim;walk_at "o"
 ·refine F1 fun y hy=>?_
  obtain ⟨x,hx,rfl⟩:=List.mem_map.mp hy
  obtain ⟨i,rfl,_⟩:=a1H (List.mem_filter.mp hx).1
  rfl
 ·rintro x hx _ zs ⟨o1,rfl⟩
  obtain ⟨i,rfl,_⟩:=a1H hx
  refine ⟨[some (.v (.int i))],.v (.tup [.int i]),⟨some _,rfl⟩,?_,rfl,fun _=>⟨?_,.inl rfl⟩⟩
  ·repeat (walk_at "z r")
  ·repeat (walk_at "z r")
abbrev a01:Stmt:=top 10
theorem a2B:FnScope ["web","thing"] ["web","thing"] (defScope a01):=by walk_at "c"
def PD (d:D):Prop:=isX d=false/\∀xs,d= .tup xs->(∀y∈xs,isX y=false)/\xs.length<=1000
def ptyB (n:Int) (ts:List Tie):D->Bool
 | .tup xs=>match intsOf xs with
  | some k=>decide (k∈parK n ts)
  | none=>false
 | _=>false
theorem PD.ints {k:List Int}(h:k.length<=1000):PD (tupI k):=⟨rfl,fun xs e=>by
 cases e
 exact ⟨fun y hy=>by obtain ⟨i,_,rfl⟩:=J0 hy;rfl,by rw [List.length_map];exact h⟩⟩
theorem a0B {n:Int}{ts:List Tie}{k:List Int}:ptyB n ts (tupI k)=decide (k∈parK n ts):=by
 unfold tupI ptyB
 dsimp only
 rw [p8]
theorem a05:∀{xs:List D},xs.all whole=true->∃k:List Int,xs=k.map .int
 | [],_=>⟨[],rfl⟩
 | x :: xs,h=>by
  rw [List.all_cons,Bool.and_eq_true] at h
  obtain ⟨k,rfl⟩:=a05 h.2
  cases x with
  | int i=>exact ⟨i :: k,rfl⟩
  | _=>cases h.1
theorem a5B {xs:List D}(h:xs.all whole=false):intsOf xs=none:=by
 cases e:intsOf xs with
 | none=>rfl
 | some k=>
  rw [w8 e] at h
  simp [whole] at h
def a1a (g:LO):Prop:=∀(n:Int) (ts:List Tie) (d:D),WebOk n ts->PD d->g [webD n ts,d]=some (.v (.bl (ptyB n ts d)))
theorem a6k {a2l:LO}{K8:LO}(a2b:Fn P w K mg base "parties" k a2l)(a2h:a4l a2l)(F7:Fn P w K mg base "is_whole" k K8)(F8:a1f K8)(c9:mg "isinstance"=none)(j4:mg "tuple"=none)(m_all:mg "all"=none)(F:Fun K "is_party" "is_party" a01 f fd)(B:Binds K fd ["web","thing"] [])(hm:mg "is_party"=some (.ref f)):∃g,Fn P w K mg base "is_party" (k + 1) g/\a1a g:=by
 have nd:=a2B.nd
 refine ⟨_,u7 F a2B B hm rfl rfl (fun cdv A outer s H E hr=>(b9 (g8 (K1 (K5 (T:="tuple") (K9 (by decide)) c9 j4 (a7 1)) (K1 (qx_b (G3 rfl) M5 m_all (a8 (F2 (N:=["one"]) (js:=[none]) (li:=none) rfl (B4 (by exact (.own .nil)) rfl (by exact trivial) (by rfl)) (B5 1) (fun _ _ _ _=>(g9 0 (show ((["one"]:List Str) ++ [accN]).Nodup by decide +kernel))) (fun _ _ _ _=>A3) (fun _ _ _ _=>(j6 F7 hr (a8 (a7 0) a9)))) a9)) (L7 (b3l hr (a7 1) (j6 a2b hr (a8 (a7 0) a9))))))))),?_⟩
 intro n ts d hw hd
 have ep:=a2h n ts hw
 have it:=N8 (d:=d) hd.1
 have lt:=D6 (sortK (parK n ts))
 cases d with
 | tup xs=>
  obtain ⟨hx,hl⟩:=hd.2 xs rfl
  repeat (first | walk_at "z r" | simp only [it,isT])
  rw [t5 (ρ1:=[some (.v (webD n ts)),some (.v (.tup xs))]) (xs:=xs) (fun B=>∃o1:Option D,B=[o1.map .v]) (fun _=>true) (fun d=>.bl (whole d))]
  ·rw [o0]
   have gb:=a0t (r:=fun bs=>bs.all id) (z9 whole xs)
   rw [D4] at gb
   cases ha:xs.all whole with
   | true=>
    obtain ⟨k,rfl⟩:=a05 ha
    have tl:=b12 (b:=false) (p8 k) (L4 (sortK (parK n ts)))
    have mm:decide (k∈sortK (parK n ts))=decide (k∈parK n ts):=by simp only [(G1 (parK n ts)).mem_iff]
    rw [ha] at gb
    have e0:ptyB n ts (.tup (k.map .int))=decide (k∈parK n ts):=a0B
    rw [e0]
    repeat (first | walk_at "z r" | simp only [gb,ep,lt,tl,mm])
   | false=>
    rw [ha] at gb
    have e0:ptyB n ts (.tup xs)=false:=by unfold ptyB;dsimp only;rw [a5B ha]
    rw [e0]
    repeat (first | walk_at "z r" | simp only [gb])
  ·repeat (first | walk_at "z r")
  ·rintro _ ⟨_,rfl⟩;rfl
  ·exact ⟨none,rfl⟩
  ·unfold lim;walk_at "o"
  ·exact a0q _ _
  ·rintro x hx' _ zs ⟨o1,rfl⟩
   have ew:=F8 x (hx x hx')
   refine ⟨[some (.v x)],.v (.bl (whole x)),⟨some _,rfl⟩,?_,rfl,fun _=>⟨?_,.inl rfl⟩⟩
   ·repeat (first | walk_at "z r")
   ·repeat (first | walk_at "z r" | simp only [ew])
 | exn C=>cases hd.1
 | _=>repeat (first | walk_at "z r" | simp only [it,isT,ptyB])
abbrev a4v:Stmt:=top 12
theorem a5Z:FnScope ["web"] ["web"] (defScope a4v):=by walk_at "c"
def a7q (g:LO):Prop:=∀(n:Int) (ts:List Tie),WebOk n ts->g [webD n ts]=some (.o (.dT (ts.map tkK) (ts.map fun t=>.int t.2.2)))
def keyT:D->List Key
 | .tup [.int a,.int b,.int _]=>[Sum.inl a,Sum.inl b]
 | _=>[]
def valT:D->D
 | .tup [_,_,c]=>c
 | d=>d
theorem a5z (ts:List Tie):(ts.map tieD).map keyT=ts.map tkK:=by rw [List.map_map];rfl
theorem a52 (ts:List Tie):(ts.map tieD).map valT=ts.map fun t=>D.int t.2.2:=by rw [List.map_map];rfl
theorem b0f (F:Fun K "gains" "gains" a4v f fd)(B:Binds K fd ["web"] [])(hm:mg "gains"=some (.ref f)):∃g,Fn P w K mg base "gains" (k + 1) g/\a7q g:=by
 have nd:=a5Z.nd
 refine ⟨_,u7 F a5Z B hm rfl rfl (fun cdv A outer s H E hr=>(b9 (g8 (a92 (N:=["one","other","gain"]) (js:=[none,none,none]) (li:=none) 2 hr rfl (B4 (by exact (.own (.own (.own .nil)))) rfl (by exact trivial) (by rfl)) (O1 (c8 hr (a7 0) b0)) (fun _ _ _ _=>(R5 rfl (l7 (g9 0 (show ((["one","other","gain"]:List Str) ++ [accN]).Nodup by decide +kernel)) (l7 (g9 1 (show ((["one","other","gain"]:List Str) ++ [accN]).Nodup by decide +kernel)) (l7 (g9 2 (show ((["one","other","gain"]:List Str) ++ [accN]).Nodup by decide +kernel)) M4))))) (fun _ _ _ _=>A3) (fun _ _ _ _=>(a8 (a7 0) (a8 (a7 1) a9))) (fun _ _ _ _=>b1U 2))))),?_⟩
 intro n ts hw
 have hl:=hw.len
 unfold webD
 repeat (first | walk_at "z r")
 rw [a8b (ρ1:=[some (.v (.tup [.int n,.tup (ts.map tieD)]))]) (xs:=ts.map tieD) (fun B=>∃o1 o2 o3:Option D,B=[o1.map .v,o2.map .v,o3.map .v]) keyT valT]
 ·rw [a5z,a52]
  repeat (first | walk_at "z r")
 ·repeat (first | walk_at "z r")
 ·rintro _ ⟨_,_,_,rfl⟩;rfl
 ·exact ⟨none,none,none,rfl⟩
 ·rw [List.length_map];unfold lim;walk_at "o"
 ·rw [a52]
  refine F1 fun y hy=>?_
  obtain ⟨x,hx,rfl⟩:=List.mem_map.mp hy;rfl
 ·rw [a5z];exact a5C hw
 ·rintro x hx _ ks zs ⟨o1,o2,o3,rfl⟩ hk
  obtain ⟨⟨a,b,c⟩,ha,rfl⟩:=List.mem_map.mp hx
  unfold lim at hk
  refine ⟨[some (.v (.int a)),some (.v (.int b)),some (.v (.int c))],⟨some _,some _,some _,rfl⟩,?_⟩
  rw [show tieD (a,b,c)= .tup [.int a,.int b,.int c] from rfl]
  repeat (first | walk_at "z r" | simp only [hk])
  rfl
abbrev a1Y:Stmt:=top 13
theorem a2S:FnScope ["web","party"] ["web","party"] (defScope a1Y):=by walk_at "c"
def a33 (g:LO):Prop:=∀(n:Int) (ts:List Tie) (k:List Int),WebOk n ts->k∈parK n ts->g [webD n ts,tupI k]=some (.v (.int (gainOf ts k)))
theorem a7a {L8:LO}{a41:LO}(L3:Fn P w K mg base "is_party" k L8)(L5:a1a L8)(a4B:Fn P w K mg base "gains" k a41)(a4K:a7q a41)(F:Fun K "gain_of" "gain_of" a1Y f fd)(B:Binds K fd ["web","party"] [])(hm:mg "gain_of"=some (.ref f)):∃g,Fn P w K mg base "gain_of" (k + 1) g/\a33 g:=by
 have nd:=a2S.nd
 refine ⟨_,u7 F a2S B hm rfl rfl (fun cdv A outer s H E hr=>(b8 (o9 (A5 (z5 (j6 L3 hr (a8 (a7 0) (a8 (a7 1) a9))))) (b9 a5u) j7)
  (b9 (g8 (b2D hr (j6 a4B hr (a8 (a7 0) a9)) (a8 (a7 1) (a8 b0 a9))))))),?_⟩
 intro n ts k hw hk
 have ki:=L5 n ts (tupI k) hw (PD.ints (by have:=A9 hw hk;walk_at "o"))
 rw [a0B,decide_eq_true hk] at ki
 have eg:=a4K n ts hw
 have lf1:lfL (ts.map fun t=>D.int t.2.2)=true:=F1 fun y hy=>by obtain ⟨x,hx,rfl⟩:=List.mem_map.mp hy;rfl
 have g6:∀ρ,ge6 (tupI k) (.int 0) ρ (some (.dT (ts.map tkK) (ts.map fun t=>D.int t.2.2)))=some (.v (.int (gainOf ts k)),ρ):=fun ρ=>by rw [b1f (a2O k),a3U]
 repeat (first | walk_at "z r" | simp only [ki,eg,lf1,g6])
abbrev K7:Stmt:=top 19
theorem Q5:FnScope ["one","other"] ["one","other"] (defScope K7):=by walk_at "c"
def L6 (g:LO):Prop:=∀a b:Int,0<=a->0<=b->g [.int a,.int b]=some (.v (.int (Int.gcd a b:Nat)))
theorem a1M (F:Fun K "common_divisor" "common_divisor" K7 f fd)(B:Binds K fd ["one","other"] [])(hm:mg "common_divisor"=some (.ref f)):∃g,Fn P w K mg base "common_divisor" (k + 1) g/\L6 g:=by
 have nd:=Q5.nd
 refine ⟨_,u7 F Q5 B hm rfl rfl (fun cdv A outer s H E hr=>(b8 (a6l PySem.PassesOwn.never (a5x (a7 1) b0) (b9 (a6w 0 1 rfl nd (a8 (a7 1) (a8 (O5 (a7 0) (a7 1)) a9)) rfl)))
  (b9 (g8 (a7 0))))),?_⟩
 intro a b ha hb
 have l:=a57 (i:=0) (j:=1) (ρ:=[some (.v (.int a)),some (.v (.int b))]) (by decide) ha hb rfl rfl
 repeat (first | walk_at "z r" | rw [l])
abbrev a4Z:Stmt:=top 20
theorem a5y:FnScope ["top","bottom","common"] ["top","bottom"] (defScope a4Z):=by walk_at "c"
def a4N (g:LO):Prop:=∀t b:Int,0 < b->b.natAbs < big->g [.int t,.int b]=some (.v (ratD (Rat.divInt t b)))
theorem a82 {u3:LO}(u4:Fn P w K mg base "common_divisor" k u3)(t9:L6 u3)(m_abs:mg "abs"=none)(F:Fun K "ratio" "ratio" a4Z f fd)(B:Binds K fd ["top","bottom"] [])(hm:mg "ratio"=some (.ref f)):∃g,Fn P w K mg base "ratio" (k + 1) g/\a4N g:=by
 have nd:=a5y.nd
 refine ⟨_,u7 F a5y B hm rfl rfl (fun cdv A outer s H E hr=>(b8 (o9 (M9 hr (a7 1) b0) (b9 a5u) j7)
  (b8 (o9 (a5m hr (a7 1) b0) (b9 (a6w 0 1 rfl nd (a8 (a6L (a7 0)) (a8 (a6L (a7 1)) a9)) rfl)) j7)
  (b8 (j0 2 nd (j6 u4 hr (a8 (qx_b a0v a3n m_abs (a8 (a7 0) a9)) (a8 (a7 1) a9))))
  (b9 (g8 (m4 (a8 (a03 (a7 0) (a7 2)) (a8 (a03 (a7 1) (a7 2)) a9))))))))),?_⟩
 intro t b hb hs
 have d:=a7P (t:=t) hb hs
 have c:=t9 (if t < 0 then -t else t) b (by split <;> walk_at "o") (by walk_at "o")
 rw [a4W] at c
 obtain ⟨p1,p2⟩:=J5 (t:=t) hb
 have z0:(b == 0)=false:=by simpa using (by walk_at "o":b≠0)
 have n:decide (b < 0)=false:=by simp;walk_at "o"
 unfold ratD
 rw [p1,p2]
 repeat (first | walk_at "z r" | simp only [z0,n,c,d])
abbrev a65:Stmt:=top 21
theorem a7G:FnScope ["one","other"] ["one","other"] (defScope a65):=by walk_at "c"
def a9L (g:LO):Prop:=∀(p q:Rat) (m n:Nat),Sz m p->Sz n q->m + n<=8000->g [ratD p,ratD q]=some (.v (ratD (p + q)))
theorem b1j {a0F:LO}(a0I:Fn P w K mg base "ratio" k a0F)(a0A:a4N a0F)(F:Fun K "plus" "plus" a65 f fd)(B:Binds K fd ["one","other"] [])(hm:mg "plus"=some (.ref f)):∃g,Fn P w K mg base "plus" (k + 1) g/\a9L g:=by
 have nd:=a7G.nd
 refine ⟨_,u7 F a7G B hm rfl rfl (fun cdv A outer s H E hr=>(b9 (g8 (j6 a0I hr (a8 (m6 (t6 (c8 hr (a7 0) b0) (c8 hr (a7 1) b0)) (t6 (c8 hr (a7 1) b0) (c8 hr (a7 0) b0))) (a8 (t6 (c8 hr (a7 0) b0) (c8 hr (a7 1) b0)) a9)))))),?_⟩
 intro p q m n hp hq h
 obtain ⟨m1,m2,m3,hpos,hbig⟩:=a3v hp hq h
 have r:=a0A (p.num * q.den + q.num * p.den) _ hpos hbig
 rw [W3] at r
 rw [show ratD p= .tup [.int p.num,.int p.den] from rfl,show ratD q= .tup [.int q.num,.int q.den] from rfl]
 repeat (first | walk_at "z r" | simp only [m1,m2,m3,r,P4])
abbrev a4A:Stmt:=top 22
theorem a5O:FnScope ["one","other"] ["one","other"] (defScope a4A):=by walk_at "c"
def a7s (g:LO):Prop:=∀(p q:Rat) (m n:Nat),Sz m p->Sz n q->m + n<=8000->g [ratD p,ratD q]=some (.v (ratD (p - q)))
theorem b0e {a0F:LO}(a0I:Fn P w K mg base "ratio" k a0F)(a0A:a4N a0F)(F:Fun K "minus" "minus" a4A f fd)(B:Binds K fd ["one","other"] [])(hm:mg "minus"=some (.ref f)):∃g,Fn P w K mg base "minus" (k + 1) g/\a7s g:=by
 have nd:=a5O.nd
 refine ⟨_,u7 F a5O B hm rfl rfl (fun cdv A outer s H E hr=>(b9 (g8 (j6 a0I hr (a8 (a11 (t6 (c8 hr (a7 0) b0) (c8 hr (a7 1) b0)) (t6 (c8 hr (a7 1) b0) (c8 hr (a7 0) b0))) (a8 (t6 (c8 hr (a7 0) b0) (c8 hr (a7 1) b0)) a9)))))),?_⟩
 intro p q m n hp hq h
 obtain ⟨m1,m2,m3,hpos,hbig⟩:=a3v hp hq h
 have r:=a0A (p.num * q.den - q.num * p.den) _ hpos hbig
 rw [V3] at r
 rw [show ratD p= .tup [.int p.num,.int p.den] from rfl,show ratD q= .tup [.int q.num,.int q.den] from rfl]
 repeat (first | walk_at "z r" | simp only [m1,m2,m3,r,P4])
abbrev a6u:Stmt:=top 23
theorem a7p:FnScope ["one","other"] ["one","other"] (defScope a6u):=by walk_at "c"
def a80 (g:LO):Prop:=∀(p q:Rat) (m n:Nat),Sz m p->Sz n q->m + n<=8000->g [ratD p,ratD q]=some (.v (.bl (decide (p.num * q.den < q.num * p.den))))
theorem b2d (F:Fun K "less" "less" a6u f fd)(B:Binds K fd ["one","other"] [])(hm:mg "less"=some (.ref f)):∃g,Fn P w K mg base "less" (k + 1) g/\a80 g:=by
 have nd:=a7p.nd
 refine ⟨_,u7 F a7p B hm rfl rfl (fun cdv A outer s H E hr=>(b9 (g8 (a5d hr (t6 (c8 hr (a7 0) b0) (c8 hr (a7 1) b0)) (t6 (c8 hr (a7 1) b0) (c8 hr (a7 0) b0)))))),?_⟩
 intro p q m n hp hq h
 obtain ⟨m1,m2,m3,hpos,hbig⟩:=a3v hp hq h
 rw [show ratD p= .tup [.int p.num,.int p.den] from rfl,show ratD q= .tup [.int q.num,.int q.den] from rfl]
 repeat (first | walk_at "z r" | simp only [m1,m2])
theorem T7:∀(rs:List Rat) (q r:Rat),sumR (rs ++ [q]) r=sumR rs r + q
 | [],q,r=>rfl
 | x :: rs,q,r=>by rw [List.cons_append,sumR,sumR,T7 rs]
theorem a5N {qs rs:List Rat}(h:qs.map ratD=rs.map ratD):qs=rs:=List.map_inj_right (fun _ _=>a9M) |>.mp h
theorem O8 (qs:List Rat):lfL (qs.map ratD)=true:=F1 fun x hx=>by obtain ⟨q,_,rfl⟩:=List.mem_map.mp hx;rfl
theorem a16 {ss:List Rat}{i:Int}(h:0<=i)(l:i < ss.length):atI (ss.map ratD) i=some (ratD (ss.getD i.toNat 0)):=by
 refine a6U h ?_
 rw [List.getElem?_map,List.getD_eq_getElem?_getD,List.getElem?_eq_getElem (by walk_at "o")]
 rfl
abbrev a5o:Stmt:=top 24
theorem a5Y:FnScope ["some","told","one"] ["some"] (defScope a5o):=by walk_at "c"
def a7d (g:LO):Prop:=∀(qs:List Rat) (m:Nat),(∀q∈qs,Sz m q)->(qs.length + 1) * (m + 2)<=7900->g [.lst (qs.map ratD)]=some (.v (ratD (sumR qs 0)))
theorem a89 {a6P:LO}(a6F:Fn P w K mg base "plus" k a6P)(a69:a9L a6P)(G8:a1G mg K)(F:Fun K "total" "total" a5o f fd)(B:Binds K fd ["some"] [])(hm:mg "total"=some (.ref f)):∃g,Fn P w K mg base "total" (k + 1) g/\a7d g:=by
 have nd:=a5Y.nd
 refine ⟨_,u7 F a5Y B hm rfl rfl (fun cdv A outer s H E hr=>(b8 (j0 1 nd (a28 G8))
  (b8 (F6 PySem.PassesOwn.never rfl (O1 (a7 0)) (g9 2 nd) (b9 (j0 1 nd (j6 a6F hr (a8 (a7 1) (a8 (a7 2) a9))))))
  (b9 (g8 (a7 1)))))),?_⟩
 intro qs m hq hl
 have n0:D.tup ([0,1].map D.int)=ratD 0:=rfl
 repeat (first | walk_at "z r" | simp only [n0])
 generalize el:loopF _ _ _=r
 refine a14 el (fun d ρ=>∃(rs:List Rat) (o:Option D),d=rs.map ratD/\ρ=[some (.v (.lst (qs.map ratD))),some (.v (ratD (sumR rs 0))),o.map .v]/\Sz (rs.length * (m + 2) + 1) (sumR rs 0)) ⟨[],none,rfl,rfl,by rw [List.length_nil,Nat.zero_mul];exact sz_0⟩ ?_ ?_
 ·rintro d x _ hx hd ⟨rs,o,rfl,rfl,hz⟩
  obtain ⟨q,hqq,rfl⟩:=List.mem_map.mp hx
  rw [List.length_map,List.length_map] at hd
  have b1:(rs.length + 1) * (m + 2)<=(qs.length + 1) * (m + 2):=Nat.mul_le_mul_right _ (by walk_at "o")
  rw [Nat.add_mul,Nat.one_mul] at b1
  have ep:=a69 _ _ _ _ hz (hq q hqq) (by walk_at "o")
  have hs:=a1h hz (hq q hqq)
  refine ⟨_,?_,rs ++ [q],some (ratD q),by rw [List.map_append];rfl,rfl,?_⟩
  ·rw [T7]
   repeat (first | walk_at "z r" | simp only [ep,P4])
  ·rw [T7,List.length_append,List.length_singleton,Nat.add_mul,Nat.one_mul]
   exact hs.mono (by walk_at "o")
 ·rintro _ rfl ⟨rs,o,he,rfl,_⟩
  rw [a5N he]
  repeat (first | walk_at "z r")
def slackR (ts:List Tie) (ss:List Rat) (k:List Int):Rat:=sumR (k.map fun i=>ss.getD i.toNat 0) 0 - ((gainOf ts k:Int):Rat)
def ratH (ss:List Rat):D->D
 | .int i=>ratD (ss.getD i.toNat 0)
 | d=>d
theorem a55 (ss:List Rat)(k:List Int):((k.map D.int).filter fun _=>true).map (ratH ss)=(k.map fun i=>ss.getD i.toNat 0).map ratD:=by
 rw [o0,List.map_map,List.map_map];rfl
structure ShOk (n:Int) (ss:List Rat):Prop where
 len:ss.length=n.toNat
 sz:∀s∈ss,Sz 1500 s
theorem ShOk.get {n:Int}{ss:List Rat}(h:ShOk n ss){i:Int}(h0:0<=i)(h1:i < n):Sz 1500 (ss.getD i.toNat 0):=by
 rw [List.getD_eq_getElem?_getD,List.getElem?_eq_getElem (by rw [h.len];walk_at "o")]
 exact h.sz _ (List.getElem_mem _)
theorem b0p {n:Int}{ts:List Tie}{ss:List Rat}{k:List Int}(hw:WebOk n ts)(hs:ShOk n ss)(hk:k∈parK n ts):Sz 4000 (sumR (k.map fun i=>ss.getD i.toNat 0) 0)/\Sz 41 ((gainOf ts k:Int):Rat):=by
 obtain ⟨hp,h1,h2⟩:=A9 hw hk
 refine ⟨?_,a6J (by have:=a4i hw.t k;walk_at "o") (by decide)⟩
 match k,hp,h1,h2 with
 | [a],hp,_,_=>
  have:=hp a (by simp)
  exact (a1h sz_0 (hs.get this.1 this.2)).mono (by decide)
 | [a,b],hp,_,_=>
  have p1:=hp a (by simp)
  have p2:=hp b (by simp)
  exact (a1h (a1h sz_0 (hs.get p1.1 p1.2)) (hs.get p2.1 p2.2)).mono (by decide)
abbrev a4x:Stmt:=top 29
theorem a54:FnScope ["web","shares","party","gain"] ["web","shares","party"] (defScope a4x):=by walk_at "c"
def a7c (g:LO):Prop:=∀(n:Int) (ts:List Tie) (ss:List Rat) (k:List Int),WebOk n ts->ShOk n ss->k∈parK n ts->g [webD n ts,.tup (ss.map ratD),tupI k]=some (.v (ratD (slackR ts ss k)))
theorem a86 {a2d:LO}{a4G:LO}{a4D:LO}(a13:Fn P w K mg base "gain_of" k a2d)(a2m:a33 a2d)(a5n:Fn P w K mg base "minus" k a4G)(a4V:a7s a4G)(a5i:Fn P w K mg base "total" k a4D)(a5f:a7d a4D)(F:Fun K "slack" "slack" a4x f fd)(B:Binds K fd ["web","shares","party"] [])(hm:mg "slack"=some (.ref f)):∃g,Fn P w K mg base "slack" (k + 1) g/\a7c g:=by
 have nd:=a54.nd
 refine ⟨_,u7 F a54 B hm rfl rfl (fun cdv A outer s H E hr=>(b8 (j0 3 nd (j6 a13 hr (a8 (a7 0) (a8 (a7 2) a9))))
  (b9 (g8 (j6 a5n hr (a8 (j6 a5i hr (a8 (F2 (N:=["person","shares"]) (js:=[none,some 1]) (li:=none) rfl (B4 (by exact (.own (.cap rfl rfl rfl rfl .nil))) rfl (by exact ⟨rfl,trivial⟩) (by rfl)) (B5 2) (fun _ _ _ _=>(g9 0 (show ((["person","shares"]:List Str) ++ [accN]).Nodup by decide +kernel))) (fun _ _ _ _=>A3) (fun _ _ _ _=>(c8 hr (a7 1) (a7 0)))) a9)) (a8 (m4 (a8 (a7 3) (a8 b0 a9))) a9))))))),?_⟩
 intro n ts ss k hw hs hk
 obtain ⟨hp,h1,h2⟩:=A9 hw hk
 obtain ⟨z1,z2⟩:=b0p hw hs hk
 have eg:=a2m n ts k hw hk
 have et:=a5f (k.map fun i=>ss.getD i.toNat 0) 1500 (fun q hq=>by obtain ⟨i,hi,rfl⟩:=List.mem_map.mp hq;exact hs.get (hp i hi).1 (hp i hi).2) (by
  rw [List.length_map]
  exact Nat.le_trans (Nat.mul_le_mul_right _ (show k.length + 1<=3 by walk_at "o")) (by decide))
 have em:=a4V _ _ _ _ z1 z2 (by decide)
 rw [a6f] at em
 repeat (first | walk_at "z r" | simp only [eg])
 rw [t5 (ρ1:=[some (.v (webD n ts)),some (.v (.tup (ss.map ratD))),some (.v (tupI k)),some (.v (.int (gainOf ts k)))]) (xs:=k.map .int) (fun B=>∃o1:Option D,B=[o1.map .v,some (.v (.tup (ss.map ratD)))]) (fun _=>true) (ratH ss)]
 ·rw [a55]
  repeat (first | walk_at "z r" | simp only [et,em,P4])
  rfl
 ·unfold tupI
  repeat (first | walk_at "z r")
 ·rintro _ ⟨_,rfl⟩;rfl
 ·exact ⟨none,rfl⟩
 ·rw [List.length_map];unfold lim;walk_at "o"
 ·rw [a55];exact O8 _
 ·rintro x hx _ zs ⟨o1,rfl⟩
  obtain ⟨i,hi,rfl⟩:=J0 hx
  have ha:=a16 (ss:=ss) (i:=i) (hp i hi).1 (by have:=hs.len;have:=(hp i hi).2;walk_at "o")
  refine ⟨[some (.v (.int i)),some (.v (.tup (ss.map ratD)))],.v (ratD (ss.getD i.toNat 0)),⟨some _,rfl⟩,?_,rfl,fun _=>⟨?_,.inl rfl⟩⟩
  ·repeat (walk_at "z r")
  ·repeat (first | walk_at "z r" | simp only [ha])
def onT (p:List Int->Bool):D->Bool
 | .tup ds=>match intsOf ds with
  | some k=>p k
  | none=>false
 | _=>false
theorem a0D (p:List Int->Bool)(k:List Int):onT p (tupI k)=p k:=by unfold onT tupI;simp only [p8]
theorem a6R (p:List Int->Bool)(ks:List (List Int)):((ks.map tupI).filter (onT p)).map id=(ks.filter p).map tupI:=by
 rw [List.map_id,List.filter_map]
 congr 1
 congr 1
 funext k
 exact a0D p k
theorem B6 {ks:List (List Int)}{x:D}(h:x∈ks.map tupI):∃k∈ks,x=tupI k:=by obtain ⟨k,hk,rfl⟩:=List.mem_map.mp h;exact ⟨k,hk,rfl⟩
theorem a8d {o:Option (W×D)}{n:Int}{b:Nat}(hn:0 < n)(d':D)(hp:Pot b d')(h:∃x:Int,o=some (.v (.int (x % n)),d')):∃(i:Int) (d':D),(0<=i/\i < n)/\Pot b d'/\o=some (.v (.int i),d'):=by
 obtain ⟨x,e⟩:=h
 exact ⟨x % n,d',⟨Int.emod_nonneg _ (by walk_at "o"),Int.emod_lt_of_pos _ hn⟩,hp,e⟩
abbrev a0e:Stmt:=top 33
theorem a1U:FnScope ["pot","size","digit","mixed"] ["pot","size"] (defScope a0e):=by walk_at "c"
def r6 (g:LL):Prop:=∀(b:Nat) (d:D) (n:Int),Pot b d->b<=1000000000000000->Sm n->∃(i:Int) (d':D),(0<=i/\i < n)/\Pot (b + 1) d'/\g d [.int n]=some (.v (.int i),d')
theorem a42 (F:Fun K "_law_take" "_law_take" a0e f fd)(B:Binds K fd ["pot","size"] [])(hm:mg "_law_take"=some (.ref f)):∃g,FnL P w K mg base "_law_take" (k + 1) g/\r6 g:=by
 have nd:=a1U.nd
 refine ⟨_,L1 F a1U B hm rfl rfl (fun cdv A outer s H E hr=>(b8 (o9 (a5x (c8 hr (a7 0) b0) b0) (b8 (j0 2 nd (O5 (c8 hr (a7 0) b0) (a7 1)))
  (b8 (F9 (a03 (c8 hr (a7 0) b0) (a7 1)) (W1 (a7 0) b0))
  (b9 (g8 (a7 2))))) j7)
  (b8 (F9 (m6 (c8 hr (a7 0) b0) b0) (W1 (a7 0) b0))
  (b8 (j0 3 nd (O5 (m6 (m6 (m6 (c8 hr (a7 0) b0) (t6 (t6 b0 (c8 hr (a7 0) b0)) (c8 hr (a7 0) b0))) (t6 b0 (c8 hr (a7 0) b0))) b0) b0))
  (b8 (j0 3 nd (O5 (t6 (O5 (t6 (a7 3) (a7 3)) b0) b0) b0))
  (b9 (g8 (O5 (a03 (a7 3) b0) (a7 1))))))))),?_⟩
 rintro b _ n ⟨r,c,s,rfl,hc,hcb,hs,hs'⟩ hb hsm
 have dn:dOk n:=hsm.dok
 have hn:=hsm.pos
 have i30:ixN 3 0=some 0:=rfl
 have i31:ixN 3 1=some 1:=rfl
 have d8:dOk 8:=a7l (by decide) (by decide)
 by_cases hr:0 < r
 ·have hr':decide (0 < r)=true:=decide_eq_true hr
  refine ⟨r % n,.lst [.int (r / n),.int c,.int s],⟨Int.emod_nonneg _ (by walk_at "o"),Int.emod_lt_of_pos _ hn⟩,⟨_,c,s,rfl,hc,by walk_at "o",hs,hs'⟩,?_⟩
  repeat (first | walk_at "z r" | simp only [hr',hn,dn,i30])
 ·have hr':decide (0 < r)=false:=decide_eq_false hr
  have p1:∀a:Int,mOk a (c + 1):=fun a=>.inr (.inl (by walk_at "o"))
  have p2:∀a:Int,mOk (a % 2147483647) (a % 2147483647):=fun a=>.inl (by
   have:=Int.emod_nonneg a (b:=2147483647) (by decide)
   have:=Int.emod_lt_of_pos a (b:=2147483647) (by decide)
   walk_at "o")
  have p3:∀a:Int,mOk a 48271:=fun a=>.inr (.inl (by decide))
  have c1:(0:Int) < 2147483647:=by decide
  have c2:(0:Int) < 1000000007:=by decide
  have c3:(0:Int) < 998244353:=by decide
  refine a8d hn (.lst [.int r,.int (c + 1),.int s]) ⟨r,c + 1,s,rfl,by walk_at "o",by walk_at "o",hs,hs'⟩ ?_
  refine ⟨?_,?_⟩
  rotate_left
  ·repeat (first | walk_at "z r" | simp only [hr',hn,i31,p1,p2,p3,c1,c2,c3,d8])
   rfl
abbrev Z9:Stmt:=top 34
theorem a1R:FnScope ["pot","size","number","turn"] ["pot","size"] (defScope Z9):=by walk_at "c"
def Q4 (g:LL):Prop:=∀(b:Nat) (d:D) (n:Int),Pot b d->b<=100000000000000->Sm n->∃(i:Int) (d':D),(0<=i/\i < n)/\Pot (b + 30) d'/\g d [.int n]=some (.v (.int i),d')
theorem a4X {g5:LL}(c6:FnL P w K mg base "_law_take" k g5)(c5:r6 g5)(k8:mg "range"=none)(F:Fun K "_law_wide" "_law_wide" Z9 f fd)(B:Binds K fd ["pot","size"] [])(hm:mg "_law_wide"=some (.ref f)):∃g,FnL P w K mg base "_law_wide" (k + 1) g/\Q4 g:=by
 have nd:=a1R.nd
 refine ⟨_,L1 F a1R B hm rfl rfl (fun cdv A outer s H E hr=>(b8 (o9 (Y0 (Q7 (a5x (c8 hr (a7 0) b0) b0) (V8 (a5m hr (a7 1) (a2u b0 b0))))) (b9 (g8 (j5 c6 hr (a8 (a7 0) (a8 (a7 1) a9))))) j7)
  (b8 (j0 2 nd b0)
  (b8 (F6 PySem.PassesOwn.never rfl (a3k k8 (a8 (m6 b0 (a03 (b14 (a7 1)) b0)) a9)) (g9 3 nd) (b9 (j0 2 nd (m6 (t6 (a7 2) b0) (j5 c6 hr (a8 (a7 0) (a8 b0 a9)))))))
  (b9 (g8 (O5 (a7 2) (a7 1)))))))),?_⟩
 intro b d n hp hb hsm
 have hn:=hsm.pos
 obtain ⟨i,d',hi,hp',et⟩:=c5 b d n hp (by walk_at "o") hsm
 have pw:CPow 10 6:=by decide
 have lf1:=hp'.lf
 have hp0:=hp
 obtain ⟨r,c,s,rfl,hc⟩:=hp
 by_cases hr:0 < r
 ·have hr':decide (0 < r)=true:=decide_eq_true hr
  refine ⟨i,d',hi,hp'.mono (by walk_at "o"),?_⟩
  repeat (first | walk_at "z r" | simp only [hr',et,lf1])
 ·have hr':decide (0 < r)=false:=decide_eq_false hr
  by_cases hs:n < (10:Int) ^ (6:Int).toNat
  ·have hs':decide (n < (10:Int) ^ (6:Int).toNat)=true:=decide_eq_true hs
   refine ⟨i,d',hi,hp'.mono (by walk_at "o"),?_⟩
   repeat (first | walk_at "z r" | simp only [hr',hs',pw,et,lf1])
  ·have hs':decide (n < (10:Int) ^ (6:Int).toNat)=false:=decide_eq_false hs
   have hbits:=hsm.bits
   have d19:dOk 19:=a7l (by decide) (by decide)
   obtain ⟨q,eq,hq⟩:∃q:Int,((Builtin.Int.intBits n:Nat):Int) / 19=q/\0<=q/\q<=20:=⟨_,rfl,by walk_at "o",by walk_at "o"⟩
   have r1:(-(2 ^ 62:Int)<=3 + q/\3 + q < 2 ^ 62):=by walk_at "o"
   have p1:∀a:Int,mOk a 1000003:=fun a=>.inr (.inl (by decide))
   repeat (first | walk_at "z r" | simp only [hr',hs',pw,d19,eq,r1])
   generalize el:loopF _ _ _=rr
   refine M3 el (fun k ρ=>∃(d:D) (m:Int) (o:Option D),ρ=[some (.l d),some (.v (.int n)),some (.v (.int m)),o.map .v]/\Pot (b + k) d) ⟨_,0,none,rfl,hp0⟩ ?_ ?_
   ·rintro k x _ hx ⟨d,m,o,rfl,hd⟩
    obtain ⟨rfl,hk⟩:=a1Z hx
    obtain ⟨i,d',hi,hp',et⟩:=c5 _ d 1000003 hd (by walk_at "o") (p9 (by decide) (by decide))
    have lf2:=hp'.lf
    refine ⟨_,?_,d',m * 1000003 + i,some (.int (0 + (k:Int))),rfl,hp'⟩
    repeat (first | walk_at "z r" | simp only [et,p1,lf2])
   ·rintro _ rfl ⟨d,m,o,rfl,hd⟩
    rw [J8] at hd
    refine ⟨m % n,d,⟨Int.emod_nonneg _ (by walk_at "o"),Int.emod_lt_of_pos _ hn⟩,hd.mono (by walk_at "o"),?_⟩
    repeat (first | walk_at "z r" | simp only [hn])
theorem eightC {i:Int}(h0:0<=i)(h8:i < 8):i=0\/i=1\/i=2\/i=3\/i=4\/i=5\/i=6\/i=7:=by walk_at "o"
theorem eightAt {i:Int}(h0:0<=i)(h8:i < 8):∃s:Int,(1<=s/\s<=8)/\atI [D.int 6,.int 5,.int 6,.int 4,.int 3,.int 6,.int 5,.int 8] i=some (.int s):=by
 have hc:i=0\/i=1\/i=2\/i=3\/i=4\/i=5\/i=6\/i=7:=eightC h0 h8
 rcases hc with rfl | rfl | rfl | rfl | rfl | rfl | rfl | rfl
 ·exact ⟨6,by decide,a_0⟩
 ·exact ⟨5,by decide,a_1⟩
 ·exact ⟨6,by decide,a_2⟩
 ·exact ⟨4,by decide,a_3⟩
 ·exact ⟨3,by decide,a_4⟩
 ·exact ⟨6,by decide,a_5⟩
 ·exact ⟨5,by decide,a_6⟩
 ·exact ⟨8,by decide,a_7⟩
abbrev S4:Stmt:=top 35
theorem Y8:FnScope ["pot"] ["pot"] (defScope S4):=by walk_at "c"
def a0R (g:LL):Prop:=∀(b:Nat) (d:D),Pot b d->b<=100000000000000->∃(i:Int) (d':D),(1<=i/\i<=8)/\Pot (b + 2) d'/\g d []=some (.v (.int i),d')
theorem a3m {g5:LL}(c6:FnL P w K mg base "_law_take" k g5)(c5:r6 g5)(F:Fun K "_law_people" "_law_people" S4 f fd)(B:Binds K fd ["pot"] [])(hm:mg "_law_people"=some (.ref f)):∃g,FnL P w K mg base "_law_people" (k + 1) g/\a0R g:=by
 have nd:=Y8.nd
 refine ⟨_,L1 F Y8 B hm rfl rfl (fun cdv A outer s H E hr=>(b9 (g8 (m6 b0 (j5 c6 hr (a8 (a7 0) (a8 (c8 hr (w5 (a8 b0 (a8 b0 (a8 b0 (a8 b0 (a8 b0 (a8 b0 (a8 b0 (a8 b0 a9))))))))) (j5 c6 hr (a8 (a7 0) (a8 b0 a9)))) a9))))))),?_⟩
 intro b d hp hb
 obtain ⟨i0,d0,h0,p0,e0⟩:=c5 b d 8 hp (by walk_at "o") (p9 (by decide) (by decide))
 obtain ⟨s,hs,ea⟩:=eightAt h0.1 h0.2
 obtain ⟨i1,d1,h1,p1,e1⟩:=c5 _ d0 s p0 (by walk_at "o") (p9 (by walk_at "o") (by walk_at "o"))
 have l0:=p0.lf
 have l1:=p1.lf
 refine ⟨1 + i1,d1,by walk_at "o",p1,?_⟩
 obtain ⟨r,c,s',rfl,_⟩:=hp
 repeat (first | walk_at "z r" | simp only [e0,ea,e1,l0,l1])
abbrev Z1:Stmt:=top 36
theorem a1z:FnScope ["pot","kind"] ["pot","kind"] (defScope Z1):=by walk_at "c"
def a2y (g:LL):Prop:=∀(b:Nat) (d:D) (k:Int),Pot b d->b<=10000000000000->0<=k->k < 5->∃(i:Int) (d':D),(1<=i/\i<=10 ^ 12)/\Pot (b + 40) d'/\g d [.int k]=some (.v (.int i),d')
theorem a4t {v5:LL}{g5:LL}(v6:FnL P w K mg base "_law_wide" k v5)(v4:Q4 v5)(c6:FnL P w K mg base "_law_take" k g5)(c5:r6 g5)(F:Fun K "_law_gain" "_law_gain" Z1 f fd)(B:Binds K fd ["pot","kind"] [])(hm:mg "_law_gain"=some (.ref f)):∃g,FnL P w K mg base "_law_gain" (k + 1) g/\a2y g:=by
 have nd:=a1z.nd
 refine ⟨_,L1 F a1z B hm rfl rfl (fun cdv A outer s H E hr=>(b8 (o9 (M9 hr (a7 1) b0) (b9 (g8 (m6 b0 (j5 v6 hr (a8 (a7 0) (a8 (a2u b0 b0) a9)))))) j7)
  (b9 (g8 (c8 hr (w5 (a8 b0 (a8 (m6 b0 (j5 c6 hr (a8 (a7 0) (a8 b0 a9)))) (a8 (m6 b0 (j5 c6 hr (a8 (a7 0) (a8 b0 a9)))) (a8 b0 (a8 (a11 (a2u b0 b0) (j5 c6 hr (a8 (a7 0) (a8 b0 a9)))) a9)))))) (a7 1)))))),?_⟩
 intro b d k hp hb hk hk5
 have pw:CPow 10 12:=by decide
 have ew:(10:Int) ^ (12:Int).toNat=10 ^ 12:=rfl
 by_cases h3:k=3
 ·subst h3
  obtain ⟨i,d',hi,hp',e⟩:=v4 b d ((10:Int) ^ (12:Int).toNat) hp (by walk_at "o") (p9 (by decide) (by decide))
  have l0:=hp'.lf
  refine ⟨1 + i,d',by rw [ew] at hi;walk_at "o",hp'.mono (by walk_at "o"),?_⟩
  obtain ⟨r,c,s',rfl,_⟩:=hp
  repeat (first | walk_at "z r" | simp only [pw,e,l0])
 ·have h3':(k == 3)=false:=by simpa using h3
  obtain ⟨i0,d0,h0,p0,e0⟩:=c5 b d 4 hp (by walk_at "o") (p9 (by decide) (by decide))
  obtain ⟨i1,d1,h1,p1,e1⟩:=c5 _ d0 3 p0 (by walk_at "o") (p9 (by decide) (by decide))
  obtain ⟨i2,d2,h2,p2,e2⟩:=c5 _ d1 2 p1 (by walk_at "o") (p9 (by decide) (by decide))
  have l0:=p0.lf
  have l1:=p1.lf
  have l2:=p2.lf
  have ha:∃x:Int,(1<=x/\x<=10 ^ 12)/\atI [D.int 5,.int (1 + i0),.int (10 + i1),.int 0,.int ((10:Int) ^ (12:Int).toNat - i2)] k=some (.int x):=by
   rw [ew]
   have hc:k=0\/k=1\/k=2\/k=4:=by walk_at "o"
   rcases hc with rfl | rfl | rfl | rfl
   ·exact ⟨5,by walk_at "o",a_0⟩
   ·exact ⟨1 + i0,by walk_at "o",a_1⟩
   ·exact ⟨10 + i1,by walk_at "o",a_2⟩
   ·exact ⟨10 ^ 12 - i2,by walk_at "o",a_4⟩
  obtain ⟨x,hx,ex⟩:=ha
  refine ⟨x,d2,hx,p2.mono (by walk_at "o"),?_⟩
  obtain ⟨r,c,s',rfl,_⟩:=hp
  repeat (first | walk_at "z r" | simp only [h3',pw,e0,e1,e2,l0,l1,l2,ex])
theorem denseAt {i:Int}{x y z:Bool}(h0:0<=i)(h4:i < 4):∃v:Bool,atI [D.bl x,.bl y,.bl true,.bl z] i=some (.bl v):=by
 have hc:i=0\/i=1\/i=2\/i=3:=by walk_at "o"
 rcases hc with rfl | rfl | rfl | rfl
 ·exact ⟨_,a_0⟩
 ·exact ⟨_,a_1⟩
 ·exact ⟨_,a_2⟩
 ·exact ⟨_,a_3⟩
structure TsTo (n:Int) (ts:List Tie) (a b:Int):Prop where
 t:∀t∈ts,0<=t.1/\t.1 < t.2.1/\t.2.1 < n/\1<=t.2.2/\t.2.2<=10 ^ 12
 nd:(ts.map fun t=>(t.1,t.2.1)).Nodup
 lt:∀t∈ts,t.1 < a\/(t.1=a/\t.2.1 < b)
theorem TsTo.step {n:Int}{ts:List Tie}{a b c:Int}(h:TsTo n ts a b)(ha:0<=a)(hab:a < b)(hb:b < n)(hc:1<=c/\c<=10 ^ 12):TsTo n (ts ++ [(a,b,c)]) a (b + 1) where
 t:=fun t ht=>by
  rcases List.mem_append.mp ht with ht | ht
  ·exact h.t t ht
  ·rw [List.mem_singleton.mp ht];exact ⟨ha,hab,hb,hc⟩
 nd:=by
  rw [List.map_append,List.nodup_append]
  refine ⟨h.nd,by simp,fun x hx y hy e=>?_⟩
  rw [List.map_cons,List.map_nil,List.mem_singleton] at hy
  subst hy
  obtain ⟨t,ht,rfl⟩:=List.mem_map.mp hx
  have:=h.lt t ht
  have e1:t.1=a:=congrArg Prod.fst e
  have e2:t.2.1=b:=congrArg Prod.snd e
  walk_at "o"
 lt:=fun t ht=>by
  rcases List.mem_append.mp ht with ht | ht
  ·have:=h.lt t ht;walk_at "o"
  ·rw [List.mem_singleton.mp ht];right;exact ⟨rfl,by show b < b + 1;walk_at "o"⟩
theorem TsTo.skip {n:Int}{ts:List Tie}{a b:Int}(h:TsTo n ts a b):TsTo n ts a (b + 1):=⟨h.t,h.nd,fun t ht=>by have:=h.lt t ht;walk_at "o"⟩
theorem TsTo.row {n:Int}{ts:List Tie}{a b b':Int}(h:TsTo n ts a b):TsTo n ts (a + 1) b':=⟨h.t,h.nd,fun t ht=>by have:=h.lt t ht;walk_at "o"⟩
abbrev M0:Stmt:=top 37
theorem Q8:FnScope ["pot","people","kind","dense","ties","a","b","chance"] ["pot"] (defScope M0):=by walk_at "c"
def U2 (g:LL):Prop:=∀(b:Nat) (d:D),Pot b d->b<=1000000000000->∃(n:Int) (ts:List Tie) (d':D),WebOk n ts/\Pot (b + 3000) d'/\g d []=some (.v (webD n ts),d')
theorem a1s {S7:LL}{g5:LL}{Z5:LL}(Q9:FnL P w K mg base "_law_people" k S7)(T4:a0R S7)(c6:FnL P w K mg base "_law_take" k g5)(c5:r6 g5)(Z4:FnL P w K mg base "_law_gain" k Z5)(Z0:a2y Z5)(k8:mg "range"=none)(j4:mg "tuple"=none)(F:Fun K "_law_drawn_web" "_law_drawn_web" M0 f fd)(B:Binds K fd ["pot"] [])(hm:mg "_law_drawn_web"=some (.ref f)):∃g,FnL P w K mg base "_law_drawn_web" (k + 1) g/\U2 g:=by
 have nd:=Q8.nd
 refine ⟨_,L1 F Q8 B hm rfl rfl (fun cdv A outer s H E hr=>(b8 (j0 1 nd (j5 Q9 hr (a8 (a7 0) a9)))
  (b8 (j0 2 nd (j5 c6 hr (a8 (a7 0) (a8 b0 a9))))
  (b8 (j0 3 nd (j5 c6 hr (a8 (a7 0) (a8 b0 a9))))
  (b8 (j0 4 nd (w5 a9))
  (b8 (F6 PySem.PassesOwn.never rfl (a3k k8 (a8 (a7 1) a9)) (g9 5 nd) (b9 (F6 PySem.PassesOwn.never rfl (b2r k8 (a8 (m6 (a7 5) b0) (a8 (a7 1) a9))) (g9 6 nd) (b8 (j0 7 nd (j5 c6 hr (a8 (a7 0) (a8 b0 a9))))
  (b9 (o9 (z5 (c8 hr (w5 (a8 (a5d hr (a7 7) b0) (a8 (a5d hr (a7 7) b0) (a8 J4 (a8 (qx_or (T6 hr (a7 6) (m6 (a7 5) b0)) (L7 (K1 (T6 hr (a7 5) b0) (L7 (T6 hr (m6 (a7 6) b0) (a7 1)))))) a9))))) (a7 3))) (b9 (Q6 (a1X (a7 4) (a8 (m4 (a8 (a7 5) (a8 (a7 6) (a8 (j5 Z4 hr (a8 (a7 0) (a8 (a7 2) a9))) a9)))) a9)))) j7))))))
  (b9 (g8 (m4 (a8 (a7 1) (a8 (qx_t t8 N6 j4 (a8 (a7 4) a9)) a9))))))))))),?_⟩
 intro b d hp hb
 obtain ⟨n,d0,hn,p0,e0⟩:=T4 b d hp (by walk_at "o")
 obtain ⟨k,d1,hk,p1,e1⟩:=c5 _ d0 5 p0 (by walk_at "o") (p9 (by decide) (by decide))
 obtain ⟨q,d2,hq,p2,e2⟩:=c5 _ d1 4 p1 (by walk_at "o") (p9 (by decide) (by decide))
 have l0:=p0.lf
 have l1:=p1.lf
 have l2:=p2.lf
 have r1:(-(2 ^ 62:Int)<=n/\n < 2 ^ 62):=by walk_at "o"
 repeat (first | walk_at "z r" | simp only [e0,e1,e2,l0,l1,l2,r1])
 generalize el:loopF _ _ _=r
 refine M3 el (fun i ρ=>∃(d:D) (o1 o2 o3:Option D) (ts:List Tie),ρ=[some (.l d),some (.v (.int n)),some (.v (.int k)),some (.v (.int q)),some (.o (.lst (ts.map tieD))),o1.map .v,o2.map .v,o3.map .v]/\Pot (b + 4 + 328 * i) d/\TsTo n ts i 0/\ts.length<=7 * i/\ts.length<=49) ⟨d2,none,none,none,[],rfl,p2,⟨(fun _ h=>nomatch h),List.nodup_nil,(fun _ h=>nomatch h)⟩,Nat.le_refl _,Nat.zero_le _⟩ ?_ ?_
 ·rintro i x _ hx ⟨d,o1,o2,o3,ts,rfl,hd,ht,hl,_⟩
  obtain ⟨rfl,hi⟩:=a1Z hx
  have r2:((-(2 ^ 62:Int)<=0 + (i:Int) + 1/\0 + (i:Int) + 1 < 2 ^ 62)/\-(2 ^ 62:Int)<=n/\n < 2 ^ 62):=by walk_at "o"
  repeat (first | walk_at "z r" | simp only [r2])
  generalize el2:loopF _ _ _=r2
  refine M3 el2 (fun j ρ=>∃(d:D) (o2 o3:Option D) (ts:List Tie),ρ=[some (.l d),some (.v (.int n)),some (.v (.int k)),some (.v (.int q)),some (.o (.lst (ts.map tieD))),some (.v (.int (0 + (i:Int)))),o2.map .v,o3.map .v]/\Pot (b + 4 + 328 * i + 41 * j) d/\TsTo n ts i ((i:Int) + 1 + j)/\ts.length<=7 * i + j) ⟨d,o2,o3,ts,rfl,hd,⟨ht.t,ht.nd,fun t h=>by have:=ht.lt t h;walk_at "o"⟩,hl⟩ ?_ ?_
  ·rintro j y _ hy ⟨d,o2,o3,ts,rfl,hd,ht,hl⟩
   obtain ⟨rfl,hj⟩:=a1Z hy
   obtain ⟨c,d3,hc,p3,e3⟩:=c5 _ d 6 hd (by walk_at "o") (p9 (by decide) (by decide))
   have l3:=p3.lf
   obtain ⟨v,ev⟩:=denseAt (x:=decide (c < 2)) (y:=decide (c < 4)) (z:=(0 + (i:Int) + 1 + (j:Int) == 0 + (i:Int) + 1) || ((0 + (i:Int) == 0) && (0 + (i:Int) + 1 + (j:Int) + 1 == n))) hq.1 hq.2
   cases v with
   | false=>
    refine ⟨_,?_,d3,some (.int (0 + (i:Int) + 1 + j)),some (.int c),ts,rfl,p3.mono (by walk_at "o"),?_,by walk_at "o"⟩
    ·cases h1:((0 + (i:Int) + 1 + (j:Int)) == (0 + (i:Int) + 1)) <;> cases h2:((0 + (i:Int)) == 0) <;>
     ·simp only [h1,h2,Bool.false_or,Bool.true_or,Bool.true_and,Bool.false_and] at ev
      repeat (first | walk_at "z r" | simp only [e3,l3,h1,h2,ev])
    ·have:=ht.skip;rwa [show (i:Int) + 1 + j + 1=i + 1 + ((j + 1:Nat):Int) by walk_at "o"] at this
   | true=>
    obtain ⟨gn,d4,hg,p4,e4⟩:=Z0 _ d3 k p3 (by walk_at "o") hk.1 hk.2
    have l4:=p4.lf
    have hlt:ts.length < 1000000:=by walk_at "o"
    refine ⟨_,?_,d4,some (.int (0 + (i:Int) + 1 + j)),some (.int c),ts ++ [(0 + (i:Int),0 + (i:Int) + 1 + j,gn)],rfl,p4.mono (by walk_at "o"),?_,by rw [List.length_append,List.length_singleton];walk_at "o"⟩
    ·cases h1:((0 + (i:Int) + 1 + (j:Int)) == (0 + (i:Int) + 1)) <;> cases h2:((0 + (i:Int)) == 0) <;>
     ·simp only [h1,h2,Bool.false_or,Bool.true_or,Bool.true_and,Bool.false_and] at ev
      repeat (first | walk_at "z r" | simp only [e3,l3,h1,h2,ev,e4,l4,hlt,List.length_map,List.map_append,tieD])
    ·have:=ht.step (c:=gn) (by walk_at "o") (by walk_at "o") (by walk_at "o") hg
     rw [show (i:Int) + 1 + j + 1=i + 1 + ((j + 1:Nat):Int) by walk_at "o"] at this
     rw [Int.zero_add];exact this
  ·rintro _ rfl ⟨d,o2,o3,ts,rfl,hd,ht,hl⟩
   rw [J8] at hd ht hl
   refine ⟨_,?_,d,some (.int (0 + (i:Int))),o2,o3,ts,rfl,hd.mono (by walk_at "o"),?_,by walk_at "o",by walk_at "o"⟩
   ·repeat (first | walk_at "z r")
   ·exact ht.row
 ·rintro _ rfl ⟨d,o1,o2,o3,ts,rfl,hd,ht,_,hl⟩
  rw [J8] at hd ht
  refine ⟨n,ts,d,⟨hn,ht.t,ht.nd,by walk_at "o"⟩,hd.mono (by walk_at "o"),?_⟩
  repeat (first | walk_at "z r")
  rfl
abbrev V6:Stmt:=top 38
theorem a0U:FnScope ["web","found","person","a","b","gain"] ["web"] (defScope V6):=by walk_at "c"
def J7 (g:LO):Prop:=∀(n:Int) (ts:List Tie),WebOk n ts->g [webD n ts]=some (.o (.dT (oneK n.toNat ++ ts.map tkK) (List.replicate n.toNat (D.int 0) ++ ts.map fun t=>D.int t.2.2)))
theorem a3D (k8:mg "range"=none)(F:Fun K "_law_gains" "_law_gains" V6 f fd)(B:Binds K fd ["web"] [])(hm:mg "_law_gains"=some (.ref f)):∃g,Fn P w K mg base "_law_gains" (k + 1) g/\J7 g:=by
 have nd:=a0U.nd
 refine ⟨_,u7 F a0U B hm rfl rfl (fun cdv A outer s H E hr=>(b8 (j0 1 nd a9W)
  (b8 (F6 PySem.PassesOwn.never rfl (a3k k8 (a8 (c8 hr (a7 0) b0) a9)) (g9 2 nd) (b9 (a6e hr (a7 1) (a8 (a7 2) a9) b0)))
  (b8 (F6 PySem.PassesOwn.never rfl (O1 (c8 hr (a7 0) b0)) (R5 rfl (l7 (g9 3 nd) (l7 (g9 4 nd) (l7 (g9 5 nd) M4)))) (b9 (a6e hr (a7 1) (a8 (a7 3) (a8 (a7 4) a9)) (a7 5))))
  (b9 (g8 (a7 1))))))),?_⟩
 intro n ts hw
 have hn:=hw.n1
 have hl:=hw.len
 have r1:(-(2 ^ 62:Int)<=n/\n < 2 ^ 62):=by walk_at "o"
 unfold webD
 repeat (first | walk_at "z r" | simp only [r1])
 generalize el:loopF _ _ _=r
 refine M3 el (fun i ρ=>∃(o1:Option D),ρ=[some (.v (.tup [.int n,.tup (ts.map tieD)])),some (.o (.dT (oneK i) (List.replicate i (D.int 0)))),o1.map .v,none,none,none]/\i<=n.toNat) ⟨none,rfl,Nat.zero_le _⟩ ?_ ?_
 ·rintro i x _ hx ⟨o1,rfl,hi⟩
  obtain ⟨rfl,hi'⟩:=a1Z hx
  obtain ⟨q1,q2⟩:=a4s (kl:=oneK i) (xs:=List.replicate i (D.int 0)) (d:=.int 0) (a9I (i:=i))
  have hk:(oneK i).length < 1000000:=by unfold oneK;rw [List.length_map,List.length_range];walk_at "o"
  refine ⟨_,?_,some (.int (0 + (i:Int))),rfl,by walk_at "o"⟩
  rw [a70,List.replicate_succ']
  rw [Int.zero_add]
  repeat (first | walk_at "z r" | simp only [hk,q1,q2])
 ·rintro _ rfl ⟨o1,rfl,hi⟩
  rw [J8]
  repeat (first | walk_at "z r")
  generalize el2:loopF _ _ _=r2
  refine M3 el2 (fun i ρ=>∃(o1 o2 o3 o4:Option D),ρ=[some (.v (.tup [.int n,.tup (ts.map tieD)])),some (.o (.dT (oneK n.toNat ++ (ts.take i).map tkK) (List.replicate n.toNat (D.int 0) ++ (ts.take i).map fun t=>D.int t.2.2))),o1.map .v,o2.map .v,o3.map .v,o4.map .v]/\i<=ts.length) ⟨o1,none,none,none,by simp,Nat.zero_le _⟩ ?_ ?_
  ·rintro i x _ hx ⟨o1,o2,o3,o4,rfl,hi⟩
   rw [List.getElem?_map] at hx
   cases ht:ts[i]? with
   | none=>rw [ht] at hx;cases hx
   | some t=>
    rw [ht] at hx;cases hx
    obtain ⟨a,b,c⟩:=t
    have et:ts.take (i + 1)=ts.take i ++ [(a,b,c)]:=by rw [List.take_add_one,ht];rfl
    have nin:tkK (a,b,c)∉oneK n.toNat ++ (ts.take i).map tkK:=by
     have nd:=a8G hw
     rw [<-List.take_append_drop (i + 1) ts,et,List.map_append,List.map_append,<-List.append_assoc,<-List.append_assoc] at nd
     have nd2:=(List.nodup_append.mp nd).1
     intro z
     exact (List.nodup_append.mp nd2).2.2 _ z _ (by simp) rfl
    obtain ⟨q1,q2⟩:=a4s (xs:=List.replicate n.toNat (D.int 0) ++ (ts.take i).map fun t=>D.int t.2.2) (d:=.int c) nin
    have hk:(oneK n.toNat ++ (ts.take i).map tkK).length < 1000000:=by
     unfold oneK
     rw [List.length_append,List.length_map,List.length_map,List.length_range,List.length_take];walk_at "o"
    have lt:=(List.getElem?_eq_some_iff.mp ht).1
    refine ⟨_,?_,o1,some (.int a),some (.int b),some (.int c),rfl,lt⟩
    rw [et,List.map_append,List.map_append,<-List.append_assoc,<-List.append_assoc]
    rw [show tkK (a,b,c)=[Sum.inl a,Sum.inl b] from rfl] at q1 q2
    rw [show tieD (a,b,c)= .tup [.int a,.int b,.int c] from rfl]
    repeat (first | walk_at "z r" | simp only [hk,q1,q2])
    rfl
  ·rintro _ rfl ⟨o1,o2,o3,o4,rfl,hi⟩
   rw [List.length_map,List.take_length]
   repeat (first | walk_at "z r")
theorem a1y (n:Int)(ts:List Tie):lfL (List.replicate n.toNat (D.int 0) ++ ts.map fun t=>D.int t.2.2)=true:=F1 fun x hx=>by
 rcases List.mem_append.mp hx with z | z
 ·rw [(List.mem_replicate.mp z).2];rfl
 ·obtain ⟨t,_,rfl⟩:=List.mem_map.mp z;rfl
abbrev X2:Stmt:=top 39
theorem a0L:FnScope ["top","bottom","one","other"] ["top","bottom"] (defScope X2):=by walk_at "c"
def K0 (g:LO):Prop:=∀t b:Int,0 < b->b.natAbs < big->g [.int t,.int b]=some (.v (ratD (Rat.divInt t b)))
theorem a3B (m_abs:mg "abs"=none)(F:Fun K "_law_ratio" "_law_ratio" X2 f fd)(B:Binds K fd ["top","bottom"] [])(hm:mg "_law_ratio"=some (.ref f)):∃g,Fn P w K mg base "_law_ratio" (k + 1) g/\K0 g:=by
 have nd:=a0L.nd
 refine ⟨_,u7 F a0L B hm rfl rfl (fun cdv A outer s H E hr=>(b8 (j0 2 nd (qx_b a0v a3n m_abs (a8 (a7 0) a9)))
  (b8 (j0 3 nd (a7 1))
  (b8 (a6l PySem.PassesOwn.never (a5x (a7 3) b0) (b9 (a6w 2 3 rfl nd (a8 (a7 3) (a8 (O5 (a7 2) (a7 3)) a9)) rfl)))
  (b9 (g8 (m4 (a8 (a03 (a7 0) (a7 2)) (a8 (a03 (a7 1) (a7 2)) a9))))))))),?_⟩
 intro t b hb hs
 have d:=a7P (t:=t) hb hs
 obtain ⟨p1,p2⟩:=J5 (t:=t) hb
 have l:=a57 (i:=2) (j:=3) (a:=if t < 0 then -t else t) (b:=b) (ρ:=[some (.v (.int t)),some (.v (.int b)),some (.v (.int (if t < 0 then -t else t))),some (.v (.int b))]) (by decide) (by split <;> walk_at "o") (by walk_at "o") rfl rfl
 rw [a4W] at l
 unfold ratD
 rw [p1,p2]
 repeat (first | walk_at "z r" | simp only [l,d])
abbrev a0u:Stmt:=top 40
theorem a1o:FnScope ["one","other"] ["one","other"] (defScope a0u):=by walk_at "c"
def Z7 (g:LO):Prop:=∀(p q:Rat) (m n:Nat),Sz m p->Sz n q->m + n<=8000->g [ratD p,ratD q]=some (.v (ratD (p + q)))
theorem a5e {m8:LO}(m7:Fn P w K mg base "_law_ratio" k m8)(n8:K0 m8)(F:Fun K "_law_plus" "_law_plus" a0u f fd)(B:Binds K fd ["one","other"] [])(hm:mg "_law_plus"=some (.ref f)):∃g,Fn P w K mg base "_law_plus" (k + 1) g/\Z7 g:=by
 have nd:=a1o.nd
 refine ⟨_,u7 F a1o B hm rfl rfl (fun cdv A outer s H E hr=>(b9 (g8 (j6 m7 hr (a8 (m6 (t6 (c8 hr (a7 0) b0) (c8 hr (a7 1) b0)) (t6 (c8 hr (a7 1) b0) (c8 hr (a7 0) b0))) (a8 (t6 (c8 hr (a7 0) b0) (c8 hr (a7 1) b0)) a9)))))),?_⟩
 intro p q m n hp hq h
 obtain ⟨m1,m2,m3,hpos,hbig⟩:=a3v hp hq h
 have r:=n8 (p.num * q.den + q.num * p.den) _ hpos hbig
 rw [W3] at r
 rw [show ratD p= .tup [.int p.num,.int p.den] from rfl,show ratD q= .tup [.int q.num,.int q.den] from rfl]
 repeat (first | walk_at "z r" | simp only [m1,m2,m3,r,P4])
abbrev W4:Stmt:=top 41
theorem a0W:FnScope ["one","other"] ["one","other"] (defScope W4):=by walk_at "c"
def W5 (g:LO):Prop:=∀(p q:Rat) (m n:Nat),Sz m p->Sz n q->m + n<=8000->g [ratD p,ratD q]=some (.v (ratD (p - q)))
theorem a3F {m8:LO}(m7:Fn P w K mg base "_law_ratio" k m8)(n8:K0 m8)(F:Fun K "_law_minus" "_law_minus" W4 f fd)(B:Binds K fd ["one","other"] [])(hm:mg "_law_minus"=some (.ref f)):∃g,Fn P w K mg base "_law_minus" (k + 1) g/\W5 g:=by
 have nd:=a0W.nd
 refine ⟨_,u7 F a0W B hm rfl rfl (fun cdv A outer s H E hr=>(b9 (g8 (j6 m7 hr (a8 (a11 (t6 (c8 hr (a7 0) b0) (c8 hr (a7 1) b0)) (t6 (c8 hr (a7 1) b0) (c8 hr (a7 0) b0))) (a8 (t6 (c8 hr (a7 0) b0) (c8 hr (a7 1) b0)) a9)))))),?_⟩
 intro p q m n hp hq h
 obtain ⟨m1,m2,m3,hpos,hbig⟩:=a3v hp hq h
 have r:=n8 (p.num * q.den - q.num * p.den) _ hpos hbig
 rw [V3] at r
 rw [show ratD p= .tup [.int p.num,.int p.den] from rfl,show ratD q= .tup [.int q.num,.int q.den] from rfl]
 repeat (first | walk_at "z r" | simp only [m1,m2,m3,r,P4])
theorem botAt {i:Int}(h0:0<=i)(h8:i < 8):∃s:Int,(1<=s/\s<=12)/\atI [D.int 1,.int 2,.int 1,.int 3,.int 12,.int 7,.int 1,.int 4] i=some (.int s):=by
 have hc:i=0\/i=1\/i=2\/i=3\/i=4\/i=5\/i=6\/i=7:=eightC h0 h8
 rcases hc with rfl | rfl | rfl | rfl | rfl | rfl | rfl | rfl
 ·exact ⟨1,by decide,a_0⟩
 ·exact ⟨2,by decide,a_1⟩
 ·exact ⟨1,by decide,a_2⟩
 ·exact ⟨3,by decide,a_3⟩
 ·exact ⟨12,by decide,a_4⟩
 ·exact ⟨7,by decide,a_5⟩
 ·exact ⟨1,by decide,a_6⟩
 ·exact ⟨4,by decide,a_7⟩
abbrev S1:Stmt:=top 43
theorem a0w:FnScope ["pot"] ["pot"] (defScope S1):=by walk_at "c"
def a0N (g:LL):Prop:=∀(b:Nat) (d:D),Pot b d->b<=10000000000000->∃(i:Int) (d':D),(1<=i/\i<=10 ^ 48)/\Pot (b + 40) d'/\g d []=some (.v (.int i),d')
theorem a25 {g5:LL}{v5:LL}(c6:FnL P w K mg base "_law_take" k g5)(c5:r6 g5)(v6:FnL P w K mg base "_law_wide" k v5)(v4:Q4 v5)(F:Fun K "_law_bottom" "_law_bottom" S1 f fd)(B:Binds K fd ["pot"] [])(hm:mg "_law_bottom"=some (.ref f)):∃g,FnL P w K mg base "_law_bottom" (k + 1) g/\a0N g:=by
 have nd:=a0w.nd
 refine ⟨_,L1 F a0w B hm rfl rfl (fun cdv A outer s H E hr=>(b8 (o9 (M9 hr (j5 c6 hr (a8 (a7 0) (a8 b0 a9))) b0) (b9 (g8 (m6 b0 (j5 v6 hr (a8 (a7 0) (a8 (a2u b0 b0) a9)))))) j7)
  (b9 (g8 (c8 hr (w5 (a8 b0 (a8 b0 (a8 b0 (a8 b0 (a8 b0 (a8 b0 (a8 b0 (a8 b0 a9))))))))) (j5 c6 hr (a8 (a7 0) (a8 b0 a9)))))))),?_⟩
 intro b d hp hb
 have pw:CPow 10 47:=by decide
 obtain ⟨i0,d0,h0,p0,e0⟩:=c5 b d 12 hp (by walk_at "o") (p9 (by decide) (by decide))
 have l0:=p0.lf
 by_cases h7:i0=7
 ·subst h7
  obtain ⟨i,d',hi,hp',e⟩:=v4 _ d0 ((10:Int) ^ (47:Int).toNat) p0 (by walk_at "o") (a91 (by decide) (by decide))
  have l1:=hp'.lf
  have ew:(10:Int) ^ (47:Int).toNat=10 ^ 47:=rfl
  rw [ew] at hi
  refine ⟨1 + i,d',by walk_at "o",hp'.mono (by walk_at "o"),?_⟩
  obtain ⟨r,c,s',rfl,_⟩:=hp
  repeat (first | walk_at "z r" | simp only [pw,e0,l0,e,l1])
 ·have h7':(i0 == 7)=false:=by simpa using h7
  obtain ⟨i1,d1,h1,p1,e1⟩:=c5 _ d0 8 p0 (by walk_at "o") (p9 (by decide) (by decide))
  obtain ⟨s,hs,ea⟩:=botAt h1.1 h1.2
  have l1:=p1.lf
  refine ⟨s,d1,by walk_at "o",p1.mono (by walk_at "o"),?_⟩
  obtain ⟨r,c,s',rfl,_⟩:=hp
  repeat (first | walk_at "z r" | simp only [e0,l0,h7',e1,l1,ea])
def freeP (K:List (List Key)) (hs:List Int) (p:Int):D->Bool
 | .int b=>memK [Sum.inl p,Sum.inl b] K && !decide (b∈hs)
 | _=>false
theorem b0E {n:Int}{ts:List Tie}{p b:Int}(h:memK [Sum.inl p,Sum.inl b] (oneK n.toNat ++ ts.map tkK)=true):[p,b]∈parK n ts:=by
 rcases List.mem_append.mp (a9P.mp h) with z | z
 ·unfold oneK at z
  obtain ⟨i,_,e⟩:=List.mem_map.mp z
  exact absurd (congrArg List.length e) (by simp)
 ·obtain ⟨t,ht,e⟩:=List.mem_map.mp z
  have:=a2L (a:=[t.1,t.2.1]) (b:=[p,b]) e
  exact List.mem_append_right _ (List.mem_map.mpr ⟨t,ht,this⟩)
theorem b1D {n:Int}{ts:List Tie}{i:Nat}(h:i < n.toNat):[(i:Int)]∈parK n ts:=List.mem_append_left _ (List.mem_map.mpr ⟨i,List.mem_range.mpr h,rfl⟩)
theorem had0 (n:Nat):((rngD 0 n).filter fun _=>true).map (fun _=>ratD 0)=(List.replicate n (0:Rat)).map ratD:=by
 rw [o0]
 apply List.ext_getElem
 ·rw [List.length_map,List.length_map,J8,List.length_replicate]
 ·intro i h1 h2;simp
theorem a04 {m:Nat}{i:Int}(h0:0<=i)(h:i < m):ixN m i=some i.toNat:=by unfold ixN;rw [if_pos h0,if_pos h]
theorem a9e {n:Int}{ts:List Tie}(hw:WebOk n ts){k:List Int}(hk:k∈parK n ts):(∃a,k=[a])\/∃a c,k=[a,c]/\0<=a/\a < c/\c < n/\1<=gainOf ts k:=by
 unfold parK at hk
 rcases List.mem_append.mp hk with z | z
 ·obtain ⟨i,_,rfl⟩:=List.mem_map.mp z;exact .inl ⟨_,rfl⟩
 ·obtain ⟨t,ht,rfl⟩:=List.mem_map.mp z
  have b:=hw.t t ht
  refine .inr ⟨t.1,t.2.1,rfl,b.1,b.2.1,b.2.2.1,?_⟩
  have key:∀ts:List Tie,(∀t∈ts,1<=t.2.2)->t∈ts->1<=gainOf ts [t.1,t.2.1]:=by
   intro ts
   induction ts with
   | nil=>intro _ h;cases h
   | cons u us ih=>
    intro h1 h2
    rw [gainOf]
    split
    ·exact h1 u List.mem_cons_self
    ·rename_i ne
     rcases List.mem_cons.mp h2 with rfl | h2
     ·exact absurd rfl ne
     ·exact ih (fun t ht=>h1 t (List.mem_cons_of_mem _ ht)) h2
  exact key ts (fun t ht=>(hw.t t ht).2.2.2.1) ht
theorem a9l {g c:Int}(h0:0<=g)(h1:g<=10 ^ 12)(h2:0<=c)(h3:c<=10 ^ 48):0<=g * c/\g * c<=10 ^ 60:=by
 refine ⟨Int.mul_nonneg h0 h2,?_⟩
 have:=Int.mul_le_mul h1 h3 h2 (by decide)
 exact Int.le_trans this (by decide)
theorem sz300 {t c:Int}(h0:0<=t)(h1:t<=10 ^ 60)(h2:1<=c)(h3:c<=10 ^ 60):Sz 300 (Rat.divInt t c):=
 a94 (by walk_at "o") (Nat.lt_of_le_of_lt (show t.natAbs<=10 ^ 60 by walk_at "o") (by decide)) (Nat.lt_of_le_of_lt (show c.natAbs<=10 ^ 60 by walk_at "o") (by decide))
theorem big48 {c:Int}(h2:1<=c)(h3:c<=10 ^ 60):c.natAbs < big:=Nat.lt_of_lt_of_le (Nat.lt_of_le_of_lt (show c.natAbs<=10 ^ 60 by walk_at "o") (show 10 ^ 60 < 2 ^ 300 by decide)) (Nat.pow_le_pow_right (by decide) (by decide))
structure PairOk (n:Int) (ts:List Tie) (ps:List (List Int)):Prop where
 mem:∀p∈ps,p∈parK n ts
 len:ps.length<=8
 prm:ps.flatten.Perm (up n.toNat)
 srt:sortK ps=ps
theorem a6r (ks:List (List Int)):sortK (sortK ks)=sortK ks:=by
 unfold sortK
 apply List.mergeSort_of_pairwise
 have h:=X1 ks
 unfold sortK at h
 exact h.imp fun {a b} hab=>by unfold kleB;rw [hab];rfl
abbrev U9:Stmt:=top 32
theorem a00:FnScope ["cell","rest"] ["cell"] (defScope U9):=by walk_at "c"
def a1O (g:LO):Prop:=∀c:Int,∃d:D,Pot 0 d/\g [.int c]=some (.o d)
theorem a3z (m_abs:mg "abs"=none)(F:Fun K "_law_begun" "_law_begun" U9 f fd)(B:Binds K fd ["cell"] [])(hm:mg "_law_begun"=some (.ref f)):∃g,Fn P w K mg base "_law_begun" (k + 1) g/\a1O g:=by
 have nd:=a00.nd
 refine ⟨_,u7 F a00 B hm rfl rfl (fun cdv A outer s H E hr=>(b8 (j0 1 nd b0)
  (b8 (o9 (qt_ge (qx_b a0v a3n m_abs (a8 (a7 0) a9)) (a2u b0 b0)) (b9 (j0 1 nd (m6 (a11 (qx_b a0v a3n m_abs (a8 (a7 0) a9)) (a2u b0 b0)) b0))) j7)
  (b9 (g8 (w5 (a8 (a7 1) (a8 b0 (a8 (O5 (a7 0) b0) a9))))))))),?_⟩
 intro c
 have pw:CPow 10 18:=by decide
 have c1:(0:Int) < 2147483647:=by decide
 have h1:=Int.emod_nonneg c (b:=2147483647) (by decide)
 have h2:=Int.emod_lt_of_pos c (b:=2147483647) (by decide)
 cases h:decide ((10:Int) ^ (18:Int).toNat<=if c < 0 then -c else c) with
 | true=>
  refine ⟨.lst [.int ((if c < 0 then -c else c) - (10:Int) ^ (18:Int).toNat + 1),.int 0,.int (c % 2147483647)],⟨_,_,_,rfl,by walk_at "o",by walk_at "o",h1,h2⟩,?_⟩
  repeat (first | walk_at "z r" | simp only [pw,h,c1])
 | false=>
  refine ⟨.lst [.int 0,.int 0,.int (c % 2147483647)],⟨_,_,_,rfl,by walk_at "o",by walk_at "o",h1,h2⟩,?_⟩
  repeat (first | walk_at "z r" | simp only [pw,h,c1])
abbrev R0:Stmt:=top 31
theorem Y6:FnScope ["cells","many","found","k","cell"] ["cells","many"] (defScope R0):=by walk_at "c"
def a0Z (g:LO):Prop:=∀(ns:List Int) (q:Int),ns.length<=63->1<=q->q<=10->∃cs:List Int,cs.length<=10/\g [.lst (ns.map .int),.int q]=some (.o (.lst (cs.map .int)))
theorem rep0 (m:Nat):(List.replicate m [D.int 0]).flatten=(List.replicate m (0:Int)).map D.int:=by
 induction m with
 | zero=>rfl
 | succ m ih=>rw [List.replicate_succ,List.flatten_cons,ih,List.replicate_succ];rfl
theorem a3a (a0a:mg "enumerate"=none)(m_min:mg "min"=none)(m_max:mg "max"=none)(m_len:mg "len"=none)(F:Fun K "_law_folded" "_law_folded" R0 f fd)(B:Binds K fd ["cells","many"] [])(hm:mg "_law_folded"=some (.ref f)):∃g,Fn P w K mg base "_law_folded" (k + 1) g/\a0Z g:=by
 have nd:=Y6.nd
 refine ⟨_,u7 F Y6 B hm rfl rfl (fun cdv A outer s H E hr=>(b8 (j0 2 nd (b31 (w5 (a8 b0 a9)) (qx_b (a8l rfl) b2T m_min (a8 (a7 1) (a8 (qx_b (a8T rfl) b36 m_max (a8 b0 (a8 (qx_b k6 G0 m_len (a8 (a7 0) a9)) a9))) a9)))))
  (b8 (F6 PySem.PassesOwn.never rfl (b10 a0a (a8 (a7 0) a9)) (R5 rfl (l7 (g9 3 nd) (l7 (g9 4 nd) M4))) (b9 (F9 (m6 (t6 (c8 hr (a7 2) (O5 (a7 3) (qx_b k6 G0 m_len (a8 (a7 2) a9)))) b0) (a7 4)) (W1 (a7 2) (O5 (a7 3) (qx_b k6 G0 m_len (a8 (a7 2) a9)))))))
  (b9 (g8 (a7 2)))))),?_⟩
 intro ns q hl hq1 hq10
 obtain ⟨m,em,hm1,hm4⟩:∃m:Int,(if (if ((ns.map D.int).length:Int) > 1 then ((ns.map D.int).length:Int) else 1) < q then (if ((ns.map D.int).length:Int) > 1 then ((ns.map D.int).length:Int) else 1) else q)=m/\1<=m/\m<=10:=⟨_,rfl,by split <;> split <;> walk_at "o",by split <;> walk_at "o"⟩
 have hr:=o_rep (xs:=[D.int 0]) (n:=m) ⟨by walk_at "o",by simp [lim];walk_at "o"⟩
 rw [rep0] at hr
 repeat (first | walk_at "z r" | simp only [em,hr])
 generalize el:loopF _ _ _=r
 refine a14 el (fun _ ρ=>∃(o3 o4:Option D) (cs:List Int),ρ=[some (.v (.lst (ns.map .int))),some (.v (.int q)),some (.o (.lst (cs.map .int))),o3.map .v,o4.map .v]/\cs.length=m.toNat) ⟨none,none,_,rfl,by rw [List.length_replicate]⟩ ?_ ?_
 ·rintro d x _ hx _ ⟨o3,o4,cs,rfl,hc⟩
  obtain ⟨i,hi,rfl⟩:=a9v hx
  rw [List.getElem_map]
  rw [List.length_map] at hi
  have lp:(0:Int) < ((cs.map D.int).length:Int):=by rw [List.length_map];walk_at "o"
  have m1:=Int.emod_nonneg (i:Int) (b:=((cs.map D.int).length:Int)) (by walk_at "o")
  have m2:=Int.emod_lt_of_pos (i:Int) lp
  have ln:((cs.map D.int).length:Int)=cs.length:=by rw [List.length_map]
  generalize hj:(i:Int) % ((cs.map D.int).length:Int)=j at m1 m2
  have ha:=a7H (ns:=cs) (i:=j) m1 (by walk_at "o")
  have hx:=a04 (m:=(cs.map D.int).length) (i:=j) m1 m2
  have p7:∀a:Int,mOk a 7:=fun a=>.inr (.inl (by decide))
  have st:∀v:Int,(cs.map D.int).set j.toNat (.int v)=(cs.set j.toNat v).map D.int:=fun v=>List.map_set.symm
  refine ⟨_,?_,some (.int i),some (.int ns[i]),cs.set j.toNat (cs.getD j.toNat 0 * 7 + ns[i]),rfl,by rw [List.length_set];exact hc⟩
  repeat (first | walk_at "z r" | simp only [lp,hj,ha,hx,p7,st])
 ·rintro _ rfl ⟨o3,o4,cs,rfl,hc⟩
  refine ⟨cs,by walk_at "o",?_⟩
  repeat (first | walk_at "z r")
theorem a5J {n:Int}{ts:List Tie}(hw:WebOk n ts){a c:Int}(h:[a,c]∈parK n ts):a < c/\c < n:=by
 rcases a9e hw h with ⟨x,e⟩ | ⟨x,y,e,h1,h2,h3,_⟩
 ·cases e
 ·cases e;exact ⟨h2,h3⟩
structure Pg (n:Int) (i:Nat) (hs:List Int) (ps:List (List Int)):Prop where
 eq:hs=ps.flatten
 nd:hs.Nodup
 rng:∀x∈hs,0<=x/\x < n
 all:∀x:Int,0<=x->x < i->x∈hs
theorem Pg.skip {n:Int}{i:Nat}{hs:List Int}{ps:List (List Int)}(h:Pg n i hs ps)(hm:(i:Int)∈hs):Pg n (i + 1) hs ps:=⟨h.eq,h.nd,h.rng,fun x h0 h1=>by
 by_cases hx:x=(i:Int)
 ·rw [hx];exact hm
 ·exact h.all x h0 (by walk_at "o")⟩
theorem Pg.one {n:Int}{i:Nat}{hs:List Int}{ps:List (List Int)}(h:Pg n i hs ps)(hm:(i:Int)∉hs)(hi:(i:Int) < n):Pg n (i + 1) (hs ++ [(i:Int)]) (ps ++ [[(i:Int)]]):=⟨by rw [List.flatten_append,<-h.eq];rfl,by
  rw [List.nodup_append]
  exact ⟨h.nd,by simp,fun x hx y hy z=>by rw [List.mem_singleton.mp hy] at z;rw [z] at hx;exact hm hx⟩,fun x hx=>by
  rcases List.mem_append.mp hx with hx | hx
  ·exact h.rng x hx
  ·rw [List.mem_singleton.mp hx];walk_at "o",fun x h0 h1=>by
  by_cases hx:x=(i:Int)
  ·rw [hx];simp
  ·exact List.mem_append_left _ (h.all x h0 (by walk_at "o"))⟩
theorem Pg.two {n:Int}{i:Nat}{hs:List Int}{ps:List (List Int)}(h:Pg n i hs ps)(hm:(i:Int)∉hs){y:Int}(hy:y∉hs)(h1:(i:Int) < y)(h2:y < n):Pg n (i + 1) (hs ++ [(i:Int),y]) (ps ++ [[(i:Int),y]]):=⟨by rw [List.flatten_append,<-h.eq];rfl,by
  rw [List.nodup_append]
  refine ⟨h.nd,by simp;walk_at "o",fun x hx z hz e=>?_⟩
  subst e
  simp only [List.mem_cons,List.not_mem_nil,or_false] at hz
  rcases hz with rfl | rfl
  ·exact hm hx
  ·exact hy hx,fun x hx=>by
  rcases List.mem_append.mp hx with hx | hx
  ·exact h.rng x hx
  ·simp only [List.mem_cons,List.not_mem_nil,or_false] at hx
   rcases hx with rfl | rfl <;> walk_at "o",fun x h0 h1=>by
  by_cases hx:x=(i:Int)
  ·rw [hx];simp
  ·exact List.mem_append_left _ (h.all x h0 (by walk_at "o"))⟩
theorem Pg.fin {n:Int}{ts:List Tie}{hs:List Int}{ps:List (List Int)}(h:Pg n n.toNat hs ps)(hn:1<=n)(hm:∀p∈ps,p∈parK n ts)(hl:ps.length<=8):PairOk n ts (sortK ps):=⟨fun p hp=>hm p ((G1 ps).mem_iff.mp hp),by rw [(G1 ps).length_eq];exact hl,by
  refine ((G1 ps).flatten).trans ?_
  rw [<-h.eq,List.perm_ext_iff_of_nodup h.nd (a1v _)]
  intro x
  rw [b0G]
  exact ⟨fun hx=>by have:=h.rng x hx;walk_at "o",fun hx=>h.all x hx.1 (by walk_at "o")⟩,a6r ps⟩
abbrev D5:Stmt:=top 42
theorem K3:FnScope ["pot","web","gains_v","held_v","found","person","free","party"] ["pot","web"] (defScope D5):=by walk_at "c"
def N5 (g:LL):Prop:=∀(b:Nat) (d:D) (n:Int) (ts:List Tie),Pot b d->b<=10000000000000->WebOk n ts->∃(ps:List (List Int)) (d':D),PairOk n ts ps/\Pot (b + 16) d'/\g d [webD n ts]=some (.v (.tup (ps.map tupI)),d')
theorem Y4 {n9:LO}{g5:LL}(m9:Fn P w K mg base "_law_gains" k n9)(n6:J7 n9)(c6:FnL P w K mg base "_law_take" k g5)(c5:r6 g5)(k8:mg "range"=none)(j4:mg "tuple"=none)(p6:mg "sorted"=none)(m_len:mg "len"=none)(F:Fun K "_law_drawn_pairing" "_law_drawn_pairing" D5 f fd)(B:Binds K fd ["pot","web"] [])(hm:mg "_law_drawn_pairing"=some (.ref f)):∃g,FnL P w K mg base "_law_drawn_pairing" (k + 1) g/\N5 g:=by
 have nd:=K3.nd
 refine ⟨_,L1 F K3 B hm rfl rfl (fun cdv A outer s H E hr=>(b8 (j0 2 nd (j6 m9 hr (a8 (a7 1) a9)))
  (b8 (j0 3 nd (w5 a9))
  (b8 (j0 4 nd (w5 a9))
  (b8 (F6 PySem.PassesOwn.never rfl (a3k k8 (a8 (c8 hr (a7 1) b0) a9)) (g9 5 nd) (b8 (a2K 6 nd (a1V (N:=["b","gains_v","held_v","person"]) (js:=[none,some 2,some 3,some 5]) (li:=none) rfl (B4 (by exact (.own (.cap rfl rfl rfl rfl (.cap rfl rfl rfl rfl (.cap rfl rfl rfl rfl .nil))))) rfl (by exact ⟨rfl,⟨rfl,⟨rfl,trivial⟩⟩⟩) (by rfl)) (a2p (b2r k8 (a8 (m6 (a7 5) b0) (a8 (c8 hr (a7 1) b0) a9)))) (fun _ _ _ _=>(g9 0 (show ((["b","gains_v","held_v","person"]:List Str) ++ [accN]).Nodup by decide +kernel))) (fun _ _ _ _=>(a7r rfl (Y0 (a6E (b21 hr (m4 (a8 (a7 3) (a8 (a7 0) a9))) (a7 1)) (a5k (a19 hr (a7 0) (a7 2))))))) (fun _ _ _ _=>(a7 0))))
  (b9 (o9 (a19 hr (a7 5) (a7 3)) (b8 (j0 7 nd (m4 (a8 (a7 5) a9)))
  (b8 (o9 (Y0 (a6E (a2V hr (a7 6) (w5 a9)) (a5k (a5x (j5 c6 hr (a8 (a7 0) (a8 b0 a9))) b0)))) (b9 (j0 7 nd (m4 (a8 (a7 5) (a8 (c8 hr (a7 6) (j5 c6 hr (a8 (a7 0) (a8 (qx_b k6 G0 m_len (a8 (a7 6) a9)) a9)))) a9))))) j7)
  (b8 (Q6 (a1X (a7 4) (a8 (a7 7) a9)))
  (b9 (Q6 (a36 (a7 3) (a8 (a7 7) a9))))))) j7))))
  (b9 (g8 (qx_t t8 N6 j4 (a8 (a2n hr rfl p6 (a8 (a7 4) a9)) a9))))))))),?_⟩
 intro b d n ts hp hb hw
 have hn:=hw.n1
 have hl:=hw.len
 have eg:=n6 n ts hw
 have lg:=a1y n ts
 have kl:(oneK n.toNat ++ ts.map tkK).length=(List.replicate n.toNat (D.int 0) ++ ts.map fun t=>D.int t.2.2).length:=by
  unfold oneK;simp
 have r1:(-(2 ^ 62:Int)<=n/\n < 2 ^ 62):=by walk_at "o"
 have ew:webD n ts= .tup [.int n,.tup (ts.map tieD)]:=rfl
 repeat (first | walk_at "z r" | simp only [eg,lg])
 rw [ew]
 repeat (first | walk_at "z r" | simp only [r1])
 generalize hK:oneK n.toNat ++ ts.map tkK=K at kl ⊢
 generalize hV:(List.replicate n.toNat (D.int 0) ++ ts.map fun t=>D.int t.2.2)=V at kl ⊢
 generalize el:loopF _ _ _=r
 refine M3 el (fun i ρ=>∃(d:D) (o5 o7:Option D) (x6:Option W) (hs:List Int) (ps:List (List Int)),ρ=[some (.l d),some (.v (.tup [.int n,.tup (ts.map tieD)])),some (.o (.dT K V)),some (.o (.lst (hs.map .int))),some (.o (.lst (ps.map tupI))),o5.map .v,x6,o7.map .v]/\freeO x6=true/\Pot (b + 2 * i) d/\hs.length<=2 * i/\ps.length<=i/\(∀p∈ps,p∈parK n ts)/\Pg n i hs ps) ⟨d,none,none,none,[],[],rfl,rfl,hp,Nat.le_refl _,Nat.le_refl _,(fun _ h=>nomatch h),⟨rfl,List.nodup_nil,(fun _ h=>nomatch h),fun x h0 h1=>by walk_at "o"⟩⟩ ?_ ?_
 ·rintro i x _ hx ⟨d,o5,o7,x6,hs,ps,rfl,f6,hd,hh,hps,hpm,hpg⟩
  obtain ⟨rfl,hi⟩:=a1Z hx
  have r2:((-(2 ^ 62:Int)<=0 + (i:Int) + 1/\0 + (i:Int) + 1 < 2 ^ 62)/\-(2 ^ 62:Int)<=n/\n < 2 ^ 62):=by walk_at "o"
  obtain ⟨fs,es,ls,hfs⟩:=a7E (Q:=fun b=>[0 + (i:Int),b]∈parK n ts/\b∉hs) (xs:=((rngD (0 + (i:Int) + 1) (n - (0 + (i:Int) + 1)).toNat).filter (freeP K hs (0 + (i:Int)))).map id) (fun x hx=>by
   obtain ⟨y,hy,rfl⟩:=List.mem_map.mp hx
   obtain ⟨hy1,hy2⟩:=List.mem_filter.mp hy
   obtain ⟨b,rfl,_⟩:=a1H hy1
   simp only [freeP,Bool.and_eq_true] at hy2
   exact ⟨b,rfl,b0E (by rw [hK];exact hy2.1),by simpa using hy2.2⟩)
  have fl:fs.length<=8:=by
   rw [ls,List.length_map]
   have:=List.length_filter_le (freeP K hs (0 + (i:Int))) (rngD (0 + (i:Int) + 1) (n - (0 + (i:Int) + 1)).toNat)
   rw [J8] at this
   walk_at "o"
  repeat (first | walk_at "z r")
  rw [t5 (ρ1:=[some (.l d),some (.v (.tup [.int n,.tup (ts.map tieD)])),some (.o (.dT K V)),some (.o (.lst (hs.map .int))),some (.o (.lst (ps.map tupI))),some (.v (.int (0 + (i:Int)))),x6,o7.map .v]) (xs:=rngD (0 + (i:Int) + 1) (n - (0 + (i:Int) + 1)).toNat) (fun B=>∃o1:Option D,B=[o1.map .v,some (.v (.dT K V)),some (.v (.lst (hs.map .int))),some (.v (.int (0 + (i:Int))))]) (freeP K hs (0 + (i:Int))) id]
  ·rw [es]
   have hin:=a7n (b:=true) (n:=0 + (i:Int)) (p8 hs)
   by_cases hm:0 + (i:Int)∈hs
   ·rw [decide_eq_true hm] at hin
    refine ⟨_,?_,d,some (.int (0 + (i:Int))),o7,some (.o (.lst (fs.map .int))),hs,ps,rfl,rfl,hd.mono (by walk_at "o"),by walk_at "o",by walk_at "o",hpm,hpg.skip (by rw [Int.zero_add] at hm;exact hm)⟩
    repeat (first | walk_at "z r" | simp only [f6,hin])
   ·rw [decide_eq_false hm] at hin
    have la:ps.length < 1000000:=by walk_at "o"
    have le1:hs.length + 1<=1000000:=by walk_at "o"
    have le1':hs.length<=999999:=by walk_at "o"
    have le2:hs.length + 2<=1000000:=by walk_at "o"
    have le2':hs.length<=999998:=by walk_at "o"
    have one:[0 + (i:Int)]∈parK n ts:=by rw [Int.zero_add];exact b1D hi
    have sn:∀k,k∈parK n ts->∀p∈ps ++ [k],p∈parK n ts:=fun k hk p hp=>by
     rcases List.mem_append.mp hp with z | z
     ·exact hpm p z
     ·rw [List.mem_singleton.mp z];exact hk
    cases fs with
    | nil=>
     refine ⟨_,?_,d,some (.int (0 + (i:Int))),some (.tup [.int (0 + (i:Int))]),some (.o (.lst [])),hs ++ [0 + (i:Int)],ps ++ [[0 + (i:Int)]],rfl,rfl,hd.mono (by walk_at "o"),by rw [List.length_append,List.length_singleton];walk_at "o",by rw [List.length_append,List.length_singleton];walk_at "o",sn _ one,by rw [Int.zero_add] at hm ⊢;exact hpg.one hm (by walk_at "o")⟩
     repeat (first | walk_at "z r" | simp only [f6,hin,la,le1,le1',List.length_map,List.map_append,tupI])
    | cons f0 fr=>
     obtain ⟨i1,d1,h1,p1,e1⟩:=c5 _ d 4 hd (by walk_at "o") (p9 (by decide) (by decide))
     have l1:=p1.lf
     by_cases hpos:0 < i1
     ·have hpos':decide (0 < i1)=true:=decide_eq_true hpos
      obtain ⟨i2,d2,h2,p2,e2⟩:=c5 _ d1 ((fr.length + 1:Nat):Int) p1 (by walk_at "o") (p9 (by walk_at "o") (by rw [List.length_cons] at fl;walk_at "o"))
      have l2:=p2.lf
      have ha:=a7H (ns:=f0 :: fr) (i:=i2) h2.1 (by rw [List.length_cons];exact h2.2)
      have hpm2:[0 + (i:Int),(f0 :: fr).getD i2.toNat 0]∈parK n ts/\(f0 :: fr).getD i2.toNat 0∉hs:=by
       refine hfs _ ?_
       rw [List.getD_eq_getElem?_getD,List.getElem?_eq_getElem (by rw [List.length_cons];walk_at "o")]
       exact List.getElem_mem _
      generalize (f0 :: fr).getD i2.toNat 0=y at ha hpm2
      rw [List.map_cons] at ha
      refine ⟨_,?_,d2,some (.int (0 + (i:Int))),some (.tup [.int (0 + (i:Int)),.int y]),some (.o (.lst ((f0 :: fr).map .int))),hs ++ [0 + (i:Int),y],ps ++ [[0 + (i:Int),y]],rfl,rfl,p2.mono (by walk_at "o"),by rw [List.length_append];show hs.length + 2<=_;walk_at "o",by rw [List.length_append,List.length_singleton];walk_at "o",sn _ hpm2.1,by
       have z:=a5J hw hpm2.1
       rw [Int.zero_add] at hm z ⊢;exact hpg.two hm hpm2.2 z.1 z.2⟩
      repeat (first | walk_at "z r" | simp only [f6,hin,la,le2,le2',e1,l1,hpos',e2,l2,ha,List.length_map,List.map_append,tupI])
     ·have hpos':decide (0 < i1)=false:=decide_eq_false hpos
      refine ⟨_,?_,d1,some (.int (0 + (i:Int))),some (.tup [.int (0 + (i:Int))]),some (.o (.lst ((f0 :: fr).map .int))),hs ++ [0 + (i:Int)],ps ++ [[0 + (i:Int)]],rfl,rfl,p1.mono (by walk_at "o"),by rw [List.length_append,List.length_singleton];walk_at "o",by rw [List.length_append,List.length_singleton];walk_at "o",sn _ one,by rw [Int.zero_add] at hm ⊢;exact hpg.one hm (by walk_at "o")⟩
      repeat (first | walk_at "z r" | simp only [f6,hin,la,le1,le1',e1,l1,hpos',List.length_map,List.map_append,tupI])
  ·repeat (first | walk_at "z r" | simp only [r2])
  ·rintro _ ⟨_,rfl⟩;rfl
  ·exact ⟨none,rfl⟩
  ·rw [J8];unfold lim;walk_at "o"
  ·rw [es];exact Q1 _
  ·rintro x hx _ zs ⟨o1,rfl⟩
   obtain ⟨y,rfl,_⟩:=a1H hx
   have t1:=a9i (b:=false) (d:=.tup [.int (0 + (i:Int)),.int y]) tk_2 kl
   have t2:=a7n (b:=true) (n:=y) (p8 hs)
   refine ⟨[some (.v (.int y)),some (.v (.dT K V)),some (.v (.lst (hs.map .int))),some (.v (.int (0 + (i:Int))))],.v (.int y),⟨some _,rfl⟩,?_,?_,fun _=>⟨?_,.inl rfl⟩⟩
   ·repeat (walk_at "z r")
   ·cases hm:memK [Sum.inl (0 + (i:Int)),Sum.inl y] K with
    | true=>rw [hm] at t1;repeat (first | walk_at "z r" | simp only [t1,t2,freeP,hm])
    | false=>rw [hm] at t1;repeat (first | walk_at "z r" | simp only [t1,t2,freeP,hm])
   ·repeat (walk_at "z r")
 ·rintro _ rfl ⟨d,o5,o7,x6,hs,ps,rfl,f6,hd,hh,hps,hpm,hpg⟩
  rw [J8] at hd hps hpg
  have so:=a0o (ks:=ps) (by walk_at "o") (fun k hk=>(a1A hw).2 k (hpm k hk))
  refine ⟨sortK ps,d,hpg.fin hn.1 hpm (by walk_at "o"),hd.mono (by walk_at "o"),?_⟩
  repeat (first | walk_at "z r" | simp only [so])
structure Shr (n:Int) (ts:List Tie) (ps:List (List Int)) (ss:List Rat):Prop where
 len:ss.length=n.toNat
 bq:∀s∈ss,Bq 160 s
 zer:∀p∈ps,slackR ts ss p=0
theorem Shr.sz {n:Int}{ts:List Tie}{ps:List (List Int)}{ss:List Rat}(h:Shr n ts ps ss):∀s∈ss,Sz 400 s:=fun s hs=>(h.bq s hs).sz.mono (by decide)
theorem Shr.pos {n:Int}{ts:List Tie}{ps:List (List Int)}{ss:List Rat}(h:Shr n ts ps ss):∀s∈ss,0<=s:=fun s hs=>(h.bq s hs).nn
theorem bq_0:Bq 160 0:=⟨Rat.le_refl,by decide,by decide⟩
theorem Shr.ok {n:Int}{ts:List Tie}{ps:List (List Int)}{ss:List Rat}(h:Shr n ts ps ss):ShOk n ss:=⟨h.len,fun s hs=>(h.sz s hs).mono (by decide)⟩
structure Sg (n:Int) (ts:List Tie) (ps:List (List Int)) (i:Nat) (ss:List Rat):Prop where
 len:ss.length=n.toNat
 bq:∀s∈ss,Bq 160 s
 zer:∀p∈ps.take i,slackR ts ss p=0
 nul:∀x∈(ps.drop i).flatten,ss.getD x.toNat 0=0
theorem Sg.start {n:Int}{ts:List Tie}{ps:List (List Int)}:Sg n ts ps 0 (List.replicate n.toNat 0):=⟨List.length_replicate,fun s hs=>by rw [(List.mem_replicate.mp hs).2];exact bq_0,fun p hp=>by simp at hp,fun x _=>by
 rw [List.getD_eq_getElem?_getD,List.getElem?_replicate];split <;> rfl⟩
theorem Sg.fin {n:Int}{ts:List Tie}{ps:List (List Int)}{i:Nat}{ss:List Rat}(h:Sg n ts ps i ss)(hi:i=ps.length):Shr n ts ps ss:=⟨h.len,h.bq,fun p hp=>h.zer p (by rw [hi,List.take_length];exact hp)⟩
theorem a4F {ts:List Tie}{ss ss':List Rat}{p:List Int}(h:∀x∈p,ss.getD x.toNat 0=ss'.getD x.toNat 0):slackR ts ss p=slackR ts ss' p:=by
 unfold slackR
 rw [List.map_congr_left h]
theorem a7g {ps:List (List Int)}{i:Nat}{k:List Int}(hk:ps[i]? =some k):ps.drop i=k :: ps.drop (i + 1):=by
 have:=(List.getElem?_eq_some_iff.mp hk)
 obtain ⟨hi,e⟩:=this
 rw [List.drop_eq_getElem_cons hi,e]
theorem Sg.one {n:Int}{ts:List Tie}{ps:List (List Int)}{i:Nat}{ss:List Rat}{a:Int}(h:Sg n ts ps i ss)(hp:PairOk n ts ps)(hk:ps[i]? =some [a]):Sg n ts ps (i + 1) ss:=by
 have hd:=a7g hk
 refine ⟨h.len,h.bq,fun p hp'=>?_,fun x hx=>h.nul x (by rw [hd,List.flatten_cons];exact List.mem_append_right _ hx)⟩
 rw [List.take_add_one,hk] at hp'
 rcases List.mem_append.mp hp' with z | z
 ·exact h.zer p z
 ·have:p=[a]:=by simpa using z
  subst this
  have e:=h.nul a (by rw [hd,List.flatten_cons];simp)
  unfold slackR
  rw [R7,List.map_cons,List.map_nil,e,sumR,sumR]
  first | grind | simp
theorem a2H {ss:List Rat}{i j:Nat}{v:Rat}(h:i≠j):(ss.set i v).getD j 0=ss.getD j 0:=by
 rw [List.getD_eq_getElem?_getD,List.getD_eq_getElem?_getD,List.getElem?_set_ne h]
theorem Sg.two {n:Int}{ts:List Tie}{ps:List (List Int)}{i:Nat}{ss:List Rat}{a c G:Int}{q q':Rat}(h:Sg n ts ps i ss)(hp:PairOk n ts ps)(hk:ps[i]? =some [a,c])(eG:gainOf ts [a,c]=G)(zq:Bq 160 q)(zr:Bq 160 q')(sq:q + q'=(G:Rat)):Sg n ts ps (i + 1) ((ss.set a.toNat q).set c.toNat q'):=by
 have hd:=a7g hk
 have nd:ps.flatten.Nodup:=(hp.prm.nodup_iff).mpr (a1v _)
 have fl:ps.flatten=(ps.take i).flatten ++ ([a,c] ++ (ps.drop (i + 1)).flatten):=by
  rw [<-List.flatten_cons,<-hd,<-List.flatten_append,List.take_append_drop]
 have inU:∀x∈ps.flatten,0<=x/\x < n.toNat:=fun x hx=>b0G.mp (hp.prm.mem_iff.mp hx)
 rw [fl] at nd inU
 rw [List.nodup_append,List.nodup_append] at nd
 obtain ⟨n1,⟨n2,n3,n4⟩,n5⟩:=nd
 have ia:=inU a (by simp)
 have ic:=inU c (by simp)
 have ac:a≠c:=by simpa using n2
 have far:∀x,0<=x->x≠a->x≠c->((ss.set a.toNat q).set c.toNat q').getD x.toNat 0=ss.getD x.toNat 0:=fun x h0 h1 h2=>by
  rw [a2H (by walk_at "o"),a2H (by walk_at "o")]
 have mem:∀s∈(ss.set a.toNat q).set c.toNat q',s∈ss\/s=q\/s=q':=fun s hs=>by
  rcases List.mem_or_eq_of_mem_set hs with z | z
  ·rcases List.mem_or_eq_of_mem_set z with z | z
   ·exact .inl z
   ·exact .inr (.inl z)
  ·exact .inr (.inr z)
 refine ⟨by rw [List.length_set,List.length_set];exact h.len,fun s hs=>?_,fun p hp'=>?_,fun x hx=>?_⟩
 ·rcases mem s hs with z | rfl | rfl
  ·exact h.bq s z
  ·exact zq
  ·exact zr
 ·rw [List.take_add_one,hk] at hp'
  rcases List.mem_append.mp hp' with z | z
  ·rw [a4F (ss':=ss) fun x hx=>?_]
   ·exact h.zer p z
   ·have hx':x∈(ps.take i).flatten:=List.mem_flatten.mpr ⟨p,z,hx⟩
    exact far x (inU x (List.mem_append_left _ hx')).1 (fun e=>n5 x hx' a (by simp) e) (fun e=>n5 x hx' c (by simp) e)
  ·have:p=[a,c]:=by simpa using z
   subst this
   have e1:((ss.set a.toNat q).set c.toNat q').getD a.toNat 0=q:=by
    rw [a2H (by walk_at "o"),List.getD_eq_getElem?_getD,List.getElem?_set_self (by rw [h.len];walk_at "o")];rfl
   have e2:((ss.set a.toNat q).set c.toNat q').getD c.toNat 0=q':=by
    rw [List.getD_eq_getElem?_getD,List.getElem?_set_self (by rw [List.length_set,h.len];walk_at "o")];rfl
   unfold slackR
   rw [eG,List.map_cons,List.map_cons,List.map_nil,e1,e2,sumR,sumR,sumR]
   grind
 ·have hx2:x∈ps.flatten:=by rw [fl];exact List.mem_append_right _ (List.mem_append_right _ hx)
  rw [far x (inU x (by rw [<-fl];exact hx2)).1 (fun e=>n4 a (by simp) x hx e.symm) (fun e=>n4 c (by simp) x hx e.symm)]
  exact h.nul x (by rw [hd,List.flatten_cons];exact List.mem_append_right _ hx)
abbrev E9:Stmt:=top 44
theorem N0:FnScope ["pot","web","pairing","gains_v","had","party","bottom"] ["pot","web","pairing"] (defScope E9):=by walk_at "c"
def O6 (g:LL):Prop:=∀(b:Nat) (d:D) (n:Int) (ts:List Tie) (ps:List (List Int)),Pot b d->b<=1000000000000->WebOk n ts->PairOk n ts ps->∃(ss:List Rat) (d':D),Shr n ts ps ss/\Pot (b + 700) d'/\g d [webD n ts,.tup (ps.map tupI)]=some (.v (.tup (ss.map ratD)),d')
theorem a0j {n9:LO}{T0:LL}{m8:LO}{D7:LO}{v5:LL}(m9:Fn P w K mg base "_law_gains" k n9)(n6:J7 n9)(R6:FnL P w K mg base "_law_bottom" k T0)(R9:a0N T0)(m7:Fn P w K mg base "_law_ratio" k m8)(n8:K0 m8)(D8:Fn P w K mg base "_law_minus" k D7)(E1:W5 D7)(v6:FnL P w K mg base "_law_wide" k v5)(v4:Q4 v5)(j4:mg "tuple"=none)(k8:mg "range"=none)(m_len:mg "len"=none)(F:Fun K "_law_drawn_shares" "_law_drawn_shares" E9 f fd)(B:Binds K fd ["pot","web","pairing"] [])(hm:mg "_law_drawn_shares"=some (.ref f)):∃g,FnL P w K mg base "_law_drawn_shares" (k + 1) g/\O6 g:=by
 have nd:=N0.nd
 refine ⟨_,L1 F N0 B hm rfl rfl (fun cdv A outer s H E hr=>(b8 (j0 3 nd (j6 m9 hr (a8 (a7 1) a9)))
  (b8 (a2K 4 nd (a1V (N:=["person"]) (js:=[none]) (li:=none) rfl (B4 (by exact (.own .nil)) rfl (by exact trivial) (by rfl)) (a2p (a3k k8 (a8 (c8 hr (a7 1) b0) a9))) (fun _ _ _ _=>(g9 0 (show ((["person"]:List Str) ++ [accN]).Nodup by decide +kernel))) (fun _ _ _ _=>A3) (fun _ _ _ _=>(m4 (a8 b0 (a8 b0 a9))))))
  (b8 (F6 PySem.PassesOwn.never rfl (O1 (a7 2)) (g9 5 nd) (b9 (o9 (M9 hr (qx_b k6 G0 m_len (a8 (a7 5) a9)) b0) (b8 (j0 6 nd (j5 R6 hr (a8 (a7 0) a9)))
  (b8 (F9 (j6 m7 hr (a8 (j5 v6 hr (a8 (a7 0) (a8 (m6 (t6 (c8 hr (a7 3) (a7 5)) (a7 6)) b0) a9))) (a8 (a7 6) a9))) (W1 (a7 4) (c8 hr (a7 5) b0)))
  (b9 (F9 (j6 D8 hr (a8 (m4 (a8 (c8 hr (a7 3) (a7 5)) (a8 b0 a9))) (a8 (c8 hr (a7 4) (c8 hr (a7 5) b0)) a9))) (W1 (a7 4) (c8 hr (a7 5) b0)))))) j7)))
  (b9 (g8 (qx_t t8 N6 j4 (a8 (a7 4) a9)))))))),?_⟩
 intro b d n ts ps hp hb hw hpo
 have hps:=hpo.mem
 have hpl:=hpo.len
 have hn:=hw.n1
 have eg:=n6 n ts hw
 have lg:=a1y n ts
 have r1:(-(2 ^ 62:Int)<=n/\n < 2 ^ 62):=by walk_at "o"
 have ew:webD n ts= .tup [.int n,.tup (ts.map tieD)]:=rfl
 have lka:∀k∈parK n ts,oIxG (.dT (oneK n.toNat ++ ts.map tkK) (List.replicate n.toNat (D.int 0) ++ ts.map fun t=>D.int t.2.2)) (tupI k)=some (.v (.int (gainOf ts k))):=fun k hk=>a9k (a2O k) (a5v hk)
 repeat (first | walk_at "z r" | simp only [eg,lg])
 generalize oneK n.toNat ++ ts.map tkK=K at lka ⊢
 generalize (List.replicate n.toNat (D.int 0) ++ ts.map fun t=>D.int t.2.2)=V at lka ⊢
 rw [ew]
 rw [t5 (ρ1:=[some (.l d),some (.v (.tup [.int n,.tup (ts.map tieD)])),some (.v (.tup (ps.map tupI))),some (.o (.dT K V)),none,none,none]) (xs:=rngD 0 n.toNat) (fun B=>∃o1:Option D,B=[o1.map .v]) (fun _=>true) (fun _=>ratD 0)]
 ·rw [had0]
  repeat (first | walk_at "z r")
  generalize el:loopF _ _ _=r
  refine M3 el (fun i ρ=>∃(d:D) (o5 o6:Option D) (ss:List Rat),ρ=[some (.l d),some (.v (.tup [.int n,.tup (ts.map tieD)])),some (.v (.tup (ps.map tupI))),some (.o (.dT K V)),some (.o (.lst (ss.map ratD))),o5.map .v,o6.map .v]/\Pot (b + 80 * i) d/\Sg n ts ps i ss) ⟨d,none,none,_,rfl,hp,Sg.start⟩ ?_ ?_
  ·rintro i x _ hx ⟨d,o5,o6,ss,rfl,hd,hss⟩
   rw [List.getElem?_map] at hx
   cases hk:ps[i]? with
   | none=>rw [hk] at hx;cases hx
   | some k=>
    rw [hk] at hx;cases hx
    have hkm:=hps k (List.mem_of_getElem? hk)
    have lt:=(List.getElem?_eq_some_iff.mp hk).1
    have lk:=lka k hkm
    rcases a9e hw hkm with ⟨a,rfl⟩ | ⟨a,c,rfl,ha,hac,hc,hg1⟩
    ·refine ⟨_,?_,d,some (tupI [a]),o6,ss,rfl,hd.mono (by walk_at "o"),hss.one hpo hk⟩
     have z12:(((1:Nat):Int) == 2)=false:=rfl
     unfold tupI
     repeat (first | walk_at "z r" | simp only [z12])
    ·have z22:(((2:Nat):Int) == 2)=true:=rfl
     have hG:=a4i hw.t [a,c]
     have lk2:oIxG (.dT K V) (.tup [.int a,.int c])=some (.v (.int (gainOf ts [a,c]))):=lk
     generalize eG:gainOf ts [a,c]=G at hG hg1 lk2
     obtain ⟨bt,d1,hbt,p1,e1⟩:=R9 _ d hd (by walk_at "o")
     obtain ⟨m1,m2⟩:=a9l hG.1 hG.2 (by walk_at "o") hbt.2
     obtain ⟨wv,d2,hwv,p2,e2⟩:=v4 _ d1 (G * bt + 1) p1 (by walk_at "o") (a91 (by walk_at "o") (by walk_at "o"))
     have er:=n8 wv bt (by walk_at "o") (big48 hbt.1 (by walk_at "o"))
     have zq:=sz300 (t:=wv) (c:=bt) hwv.1 (by walk_at "o") hbt.1 (by walk_at "o")
     have nq:0<=Rat.divInt wv bt:=Rat.divInt_nonneg hwv.1 (by walk_at "o")
     have lq:=a8n (t:=wv) (b:=bt) (c:=G) (by walk_at "o") (by walk_at "o")
     have bq:Bq 160 (Rat.divInt wv bt):=⟨nq,Rat.le_trans lq (Rat.intCast_le_intCast.mpr hG.2),Nat.lt_of_le_of_lt (a0M (by walk_at "o")) (Nat.lt_of_le_of_lt (show bt.natAbs<=10 ^ 48 by walk_at "o") (by decide))⟩
     generalize Rat.divInt wv bt=q at er zq nq lq bq
     have em:=E1 (G:Rat) q 41 300 (a6J (by walk_at "o") (by decide)) zq (by decide)
     rw [a6f] at em
     have zr:=b0x (a6J (g:=G) (m:=41) (by walk_at "o") (by decide)) zq
     have nr:0<=(G:Rat) - q:=by grind
     have sq:q + ((G:Rat) - q)=(G:Rat):=by grind
     have br:Bq 160 ((G:Rat) - q):=⟨nr,Rat.le_trans (by grind) (Rat.intCast_le_intCast.mpr hG.2),Nat.lt_of_le_of_lt (a2T G q) bq.dn⟩
     generalize (G:Rat) - q=q' at em zr nr sq br
     have hlen:=hss.len
     have x1:ixN (ss.map ratD).length a=some a.toNat:=a04 ha (by rw [List.length_map];walk_at "o")
     have x2:ixN ((ss.set a.toNat q).map ratD).length c=some c.toNat:=a04 (by walk_at "o") (by rw [List.length_map,List.length_set];walk_at "o")
     have s1:(ss.map ratD).set a.toNat (ratD q)=(ss.set a.toNat q).map ratD:=List.map_set.symm
     have s2:((ss.set a.toNat q).map ratD).set c.toNat (ratD q')=((ss.set a.toNat q).set c.toNat q').map ratD:=List.map_set.symm
     have a1:=a16 (ss:=ss.set a.toNat q) (i:=a) ha (by rw [List.length_set];walk_at "o")
     rw [show (ss.set a.toNat q).getD a.toNat 0=q by rw [List.getD_eq_getElem?_getD,List.getElem?_set_self (by walk_at "o")];rfl] at a1
     have mk:mOk G bt:=.inl (by walk_at "o")
     have l1:=p1.lf
     have l2:=p2.lf
     refine ⟨_,?_,d2,some (tupI [a,c]),some (.int bt),(ss.set a.toNat q).set c.toNat q',rfl,p2.mono (by walk_at "o"),hss.two hpo hk eG bq br sq⟩
     unfold tupI
     repeat (first | walk_at "z r" | simp only [z22,e1,l1,lk2,mk,e2,l2,er,P4,x1,s1,a1,em,x2,s2])
  ·rintro _ rfl ⟨d,o5,o6,ss,rfl,hd,hss⟩
   rw [List.length_map] at hd
   refine ⟨ss,d,hss.fin (by rw [List.length_map]),hd.mono (by walk_at "o"),?_⟩
   repeat (first | walk_at "z r")
 ·repeat (first | walk_at "z r" | simp only [r1])
 ·rintro _ ⟨_,rfl⟩;rfl
 ·exact ⟨none,rfl⟩
 ·rw [J8];unfold lim;walk_at "o"
 ·rw [had0];exact O8 _
 ·rintro x hx _ zs ⟨o1,rfl⟩
  obtain ⟨y,rfl,_⟩:=a1H hx
  refine ⟨[some (.v (.int y))],.v (.tup [.int 0,.int 1]),⟨some _,rfl⟩,?_,rfl,fun _=>⟨?_,.inl rfl⟩⟩
  ·repeat (walk_at "z r")
  ·repeat (walk_at "z r")
abbrev C8:Stmt:=top 45
theorem K2:FnScope ["pot","web","pairing"] ["pot","web"] (defScope C8):=by walk_at "c"
def N2 (g:LL):Prop:=∀(b:Nat) (d:D) (n:Int) (ts:List Tie),Pot b d->b<=100000000000->WebOk n ts->∃(ps:List (List Int)) (ss:List Rat) (d':D),PairOk n ts ps/\Shr n ts ps ss/\Pot (b + 800) d'/\g d [webD n ts]=some (.v (.tup [.tup (ps.map tupI),.tup (ss.map ratD)]),d')
theorem Y3 {B9:LL}{E7:LL}(C5:FnL P w K mg base "_law_drawn_pairing" k B9)(C2:N5 B9)(F0:FnL P w K mg base "_law_drawn_shares" k E7)(E4:O6 E7)(F:Fun K "_law_drawn_sharing" "_law_drawn_sharing" C8 f fd)(B:Binds K fd ["pot","web"] [])(hm:mg "_law_drawn_sharing"=some (.ref f)):∃g,FnL P w K mg base "_law_drawn_sharing" (k + 1) g/\N2 g:=by
 have nd:=K2.nd
 refine ⟨_,L1 F K2 B hm rfl rfl (fun cdv A outer s H E hr=>(b8 (j0 2 nd (j5 C5 hr (a8 (a7 0) (a8 (a7 1) a9))))
  (b9 (g8 (m4 (a8 (a7 2) (a8 (j5 F0 hr (a8 (a7 0) (a8 (a7 1) (a8 (a7 2) a9)))) a9))))))),?_⟩
 intro b d n ts hp hb hw
 obtain ⟨ps,d1,h1,p1,e1⟩:=C2 b d n ts hp (by walk_at "o") hw
 obtain ⟨ss,d2,hs,p2,e2⟩:=E4 _ d1 n ts ps p1 (by walk_at "o") hw h1
 have l1:=p1.lf
 have l2:=p2.lf
 have t1:=D6 ps
 have t2:=O8 ss
 refine ⟨ps,ss,d2,h1,hs,p2.mono (by walk_at "o"),?_⟩
 repeat (first | walk_at "z r" | simp only [e1,e2,l1,l2,t1,t2])
def rowB (c:Int):D->Bool
 | .tup xs=>((xs.length:Nat):Int) == c
 | _=>false
abbrev a23:Stmt:=top 2
theorem a38:FnScope ["thing","count"] ["thing","count"] (defScope a23):=by walk_at "c"
def a1I (g:LO):Prop:=∀(d:D) (c:Int),isX d=false->g [d,.int c]=some (.v (.bl (rowB c d)))
theorem a8j (c9:mg "isinstance"=none)(j4:mg "tuple"=none)(m_len:mg "len"=none)(F:Fun K "is_row" "is_row" a23 f fd)(B:Binds K fd ["thing","count"] [])(hm:mg "is_row"=some (.ref f)):∃g,Fn P w K mg base "is_row" (k + 1) g/\a1I g:=by
 have nd:=a38.nd
 refine ⟨_,u7 F a38 B hm rfl rfl (fun cdv A outer s H E hr=>(b9 (g8 (K1 (K5 (T:="tuple") (K9 (by decide)) c9 j4 (a7 0)) (L7 (T6 hr (qx_b k6 G0 m_len (a8 (a7 0) a9)) (a7 1))))))),?_⟩
 intro d c hd
 have it:=N8 hd
 cases d with
 | exn C=>cases hd
 | _=>repeat (first | walk_at "z r" | simp only [it,isT,rowB])
theorem a2I {n:Int}{ts:List Tie}:∀{xs:List D},xs.all (ptyB n ts)=true->∃ks:List (List Int),xs=ks.map tupI/\∀k∈ks,k∈parK n ts
 | [],_=>⟨[],rfl,fun _ h=>nomatch h⟩
 | x :: xs,h=>by
  rw [List.all_cons,Bool.and_eq_true] at h
  obtain ⟨ks,rfl,hk⟩:=a2I h.2
  have h1:=h.1
  unfold ptyB at h1
  split at h1
  ·rename_i ds
   split at h1
   ·rename_i k e
    refine ⟨k :: ks,by rw [w8 e];rfl,fun q hq=>?_⟩
    rcases List.mem_cons.mp hq with rfl | hq
    ·exact of_decide_eq_true h1
    ·exact hk q hq
   ·cases h1
  ·cases h1
theorem b1e {n:Int}{ts:List Tie}{ks:List (List Int)}(h:∀k∈ks,k∈parK n ts):(ks.map tupI).all (ptyB n ts)=true:=by
 rw [List.all_eq_true]
 intro x hx
 obtain ⟨k,hk,rfl⟩:=B6 hx
 rw [a0B,decide_eq_true (h k hk)]
def PDs (d:D):Prop:=isX d=false/\∀xs,d= .tup xs->(∀y∈xs,PD y)/\xs.length<=20
def ptsB (n:Int) (ts:List Tie):D->Bool
 | .tup xs=>xs.all (ptyB n ts)
 | _=>false
abbrev W0:Stmt:=top 11
theorem a0X:FnScope ["web","thing"] ["web","thing"] (defScope W0):=by walk_at "c"
def a1K (g:LO):Prop:=∀(n:Int) (ts:List Tie) (d:D),WebOk n ts->PDs d->g [webD n ts,d]=some (.v (.bl (ptsB n ts d)))
theorem a3H {L8:LO}(L3:Fn P w K mg base "is_party" k L8)(L5:a1a L8)(c9:mg "isinstance"=none)(j4:mg "tuple"=none)(m_all:mg "all"=none)(F:Fun K "is_parties" "is_parties" W0 f fd)(B:Binds K fd ["web","thing"] [])(hm:mg "is_parties"=some (.ref f)):∃g,Fn P w K mg base "is_parties" (k + 1) g/\a1K g:=by
 have nd:=a0X.nd
 refine ⟨_,u7 F a0X B hm rfl rfl (fun cdv A outer s H E hr=>(b9 (g8 (K1 (K5 (T:="tuple") (K9 (by decide)) c9 j4 (a7 1)) (L7 (qx_b (G3 rfl) M5 m_all (a8 (F2 (N:=["party","web"]) (js:=[none,some 0]) (li:=none) rfl (B4 (by exact (.own (.cap rfl rfl rfl rfl .nil))) rfl (by exact ⟨rfl,trivial⟩) (by rfl)) (B5 1) (fun _ _ _ _=>(g9 0 (show ((["party","web"]:List Str) ++ [accN]).Nodup by decide +kernel))) (fun _ _ _ _=>A3) (fun _ _ _ _=>(j6 L3 hr (a8 (a7 1) (a8 (a7 0) a9))))) a9))))))),?_⟩
 intro n ts d hw hd
 have it:=N8 hd.1
 cases d with
 | tup xs=>
  obtain ⟨hx,hl⟩:=hd.2 xs rfl
  repeat (first | walk_at "z r" | simp only [it,isT])
  rw [t5 (ρ1:=[some (.v (webD n ts)),some (.v (.tup xs))]) (xs:=xs) (fun B=>∃o1:Option D,B=[o1.map .v,some (.v (webD n ts))]) (fun _=>true) (fun y=>.bl (ptyB n ts y))]
  ·rw [o0]
   have gb:=a0t (r:=fun bs=>bs.all id) (z9 (ptyB n ts) xs)
   rw [D4] at gb
   repeat (first | walk_at "z r" | simp only [gb,ptsB])
  ·repeat (walk_at "z r")
  ·rintro _ ⟨_,rfl⟩;rfl
  ·exact ⟨none,rfl⟩
  ·unfold lim;walk_at "o"
  ·exact a0q _ _
  ·rintro x hx' _ zs ⟨o1,rfl⟩
   have e:=L5 n ts x hw (hx x hx')
   refine ⟨[some (.v x),some (.v (webD n ts))],.v (.bl (ptyB n ts x)),⟨some _,rfl⟩,?_,rfl,fun _=>⟨?_,.inl rfl⟩⟩
   ·repeat (walk_at "z r")
   ·repeat (first | walk_at "z r" | simp only [e])
 | exn C=>cases hd.1
 | _=>repeat (first | walk_at "z r" | simp only [it,isT,ptsB])
def ltT:D->Bool
 | .tup [.tup a,.tup b]=>match intsOf a,intsOf b with
  | some x,some y=>HT.lexLt x y
  | _,_=>false
 | _=>false
def riseB (ks:List (List Int)):Bool:=(zipD (ks.map tupI) ((ks.map tupI).drop 1)).all ltT
theorem a8Z (ks:List (List Int)):∀x∈zipD (ks.map tupI) ((ks.map tupI).drop 1),∃a b,x= .tup [tupI a,tupI b]:=fun x hx=>by
 unfold zipD at hx
 rw [<-List.map_drop,List.mem_iff_getElem?] at hx
 obtain ⟨i,hi⟩:=hx
 rw [List.getElem?_zipWith,List.getElem?_map,List.getElem?_map] at hi
 cases h1:ks[i]? with
 | none=>rw [h1] at hi;cases hi
 | some a=>
  cases h2:(ks.drop 1)[i]? with
  | none=>rw [h1,h2] at hi;cases hi
  | some b=>rw [h1,h2] at hi;cases hi;exact ⟨a,b,rfl⟩
theorem a4z (a b:List Int):ltT (.tup [tupI a,tupI b])=HT.lexLt a b:=by
 show (match intsOf (a.map D.int),intsOf (b.map D.int) with
  | some x,some y=>HT.lexLt x y
  | _,_=>false)=_
 rw [p8,p8]
abbrev a0l:Stmt:=top 3
theorem a1u:FnScope ["row"] ["row"] (defScope a0l):=by walk_at "c"
def a2A (g:LO):Prop:=∀ks:List (List Int),ks.length<=20->g [.tup (ks.map tupI)]=some (.v (.bl (riseB ks)))
theorem a5c (m_all:mg "all"=none)(m_zip:mg "zip"=none)(F:Fun K "is_rising" "is_rising" a0l f fd)(B:Binds K fd ["row"] [])(hm:mg "is_rising"=some (.ref f)):∃g,Fn P w K mg base "is_rising" (k + 1) g/\a2A g:=by
 have nd:=a1u.nd
 refine ⟨_,u7 F a1u B hm rfl rfl (fun cdv A outer s H E hr=>(b9 (g8 (qx_b (G3 rfl) M5 m_all (a8 (F2 (N:=["one","other"]) (js:=[none,none]) (li:=none) rfl (B4 (by exact (.own (.own .nil))) rfl (by exact trivial) (by rfl)) (a2p (b3R m_zip (a8 (a7 0) (a8 (T8 (a7 0) (a0C b0) a0x) a9)))) (fun _ _ _ _=>(R5 rfl (l7 (g9 0 (show ((["one","other"]:List Str) ++ [accN]).Nodup by decide +kernel)) (l7 (g9 1 (show ((["one","other"]:List Str) ++ [accN]).Nodup by decide +kernel)) M4)))) (fun _ _ _ _=>A3) (fun _ _ _ _=>(a5d hr (a7 0) (a7 1)))) a9))))),?_⟩
 intro ks hl
 repeat (walk_at "z r")
 rw [t5 (ρ1:=[some (.v (.tup (ks.map tupI)))]) (xs:=zipD (ks.map tupI) ((ks.map tupI).drop 1)) (fun B=>∃o1 o2:Option D,B=[o1.map .v,o2.map .v]) (fun _=>true) (fun d=>.bl (ltT d))]
 ·rw [o0]
  have gb:=a0t (r:=fun bs=>bs.all id) (z9 ltT (zipD (ks.map tupI) ((ks.map tupI).drop 1)))
  rw [D4] at gb
  repeat (first | walk_at "z r" | simp only [gb])
  rfl
 ·repeat (first | walk_at "z r" | simp only [a84])
 ·rintro _ ⟨_,_,rfl⟩;rfl
 ·exact ⟨none,none,rfl⟩
 ·rw [b19];simp [lim];walk_at "o"
 ·exact a0q _ _
 ·rintro x hx _ zs ⟨o1,o2,rfl⟩
  obtain ⟨a,b,rfl⟩:=a8Z ks x hx
  have lt:oLtT (tupI a) (tupI b)=some (.v (.bl (HT.lexLt a b))):=by
   show (intsOf (a.map D.int)).bind _=_
   rw [p8,Option.bind_some,p8,Option.map_some]
  rw [a4z]
  refine ⟨[some (.v (tupI a)),some (.v (tupI b))],.v (.bl (HT.lexLt a b)),⟨some _,some _,rfl⟩,?_,rfl,fun _=>⟨?_,.inl rfl⟩⟩
  ·repeat (walk_at "z r")
  ·repeat (first | walk_at "z r" | simp only [lt])
theorem a3c {k:Nat}{gf gf2:FG}{fi2:FI}{fe:FX}(I:Ev->Prop)(ys:D->List D)(h:D->D)(hI:∀B,I B->B.length=k):∀(xs:List D),(∀x∈xs,∀B zs,I B->∃Bm B',I B'/\gf x (B ++ acc zs)=some (Bm ++ acc zs)/\fi2 (Bm ++ acc zs)=some (ys x,B' ++ acc zs))->
  (∀x∈xs,∀y∈ys x,∀B zs,I B->∃B' w,I B'/\gf2 y (B ++ acc zs)=some (B' ++ acc zs)/\fe (B' ++ acc zs)=some (w,B' ++ acc zs)/\(w= .v (h y)\/w= .o (h y)))->
  ∀(B:Ev) (zs:List D),zs.length + (xs.flatMap ys).length<=lim->I B->∃B',I B'/\loopC (turnC2 k gf fi2 gf2 fe) xs (B ++ acc zs)=some (B' ++ acc (zs ++ (xs.flatMap ys).map h))
 | [],_,_,B,zs,hl,i=>⟨B,i,by simp [loopC]⟩
 | x :: xs,s1,s2,B,zs,hl,i=>by
  obtain ⟨Bm,B1,i1,e1,e2⟩:=s1 x List.mem_cons_self B zs i
  rw [List.flatMap_cons,List.length_append] at hl
  obtain ⟨B2,i2,e3⟩:=a0y (gf:=gf2) (t:=fun ρ=>some (true,ρ)) (fe:=fe) I (fun _=>true) h hI (ys x) (fun y hy B zs i=>by
   obtain ⟨B',w,a,b,c,d⟩:=s2 x List.mem_cons_self y hy B zs i
   exact ⟨B',w,a,b,rfl,fun _=>⟨c,d⟩⟩) B1 zs (by walk_at "o") i1
  rw [o0] at e3
  obtain ⟨B3,i3,e4⟩:=a3c I ys h hI xs (fun y hy=>s1 y (List.mem_cons_of_mem _ hy)) (fun y hy=>s2 y (List.mem_cons_of_mem _ hy)) B2 (zs ++ (ys x).map h) (by rw [List.length_append,List.length_map];walk_at "o") i2
  refine ⟨B3,i3,?_⟩
  rw [loopC,turnC2,e1]
  simp only [Option.bind_some,e2,e3]
  rw [e4,List.flatMap_cons,List.map_append,List.append_assoc]
theorem a8y {fi:FI}{js:List (Option Nat)}{gf gf2:FG}{fi2:FI}{fe:FX}{ρ ρ1:Ev}{xs:List D}(I:Ev->Prop)(ys:D->List D)(h:D->D)(ei:fi ρ=some (xs,ρ1))(hI:∀B,I B->B.length=js.length)(h0:I (capE none js ρ1))(hl:(xs.flatMap ys).length<=lim)(hf:lfL ((xs.flatMap ys).map h)=true)
  (s1:∀x∈xs,∀B zs,I B->∃Bm B',I B'/\gf x (B ++ acc zs)=some (Bm ++ acc zs)/\fi2 (Bm ++ acc zs)=some (ys x,B' ++ acc zs))
  (s2:∀x∈xs,∀y∈ys x,∀B zs,I B->∃B' w,I B'/\gf2 y (B ++ acc zs)=some (B' ++ acc zs)/\fe (B' ++ acc zs)=some (w,B' ++ acc zs)/\(w= .v (h y)\/w= .o (h y))):
  fComp2 fi js gf fi2 gf2 fe ρ=some (.o (.lst ((xs.flatMap ys).map h)),ρ1):=by
 obtain ⟨B',i',e⟩:=a3c I ys h hI xs s1 s2 (capE none js ρ1) [] (by rw [List.length_nil];walk_at "o") h0
 unfold fComp2
 rw [ei]
 simp only [Option.bind_some]
 rw [show capE none js ρ1 ++ [some (.l (.lst []))]=capE none js ρ1 ++ acc [] from rfl,e]
 simp only [Option.bind_some,List.nil_append,a6H (hI B' i'),backC,hf,if_true]
def itemsD:D->List D
 | .tup xs=>xs
 | _=>[]
theorem a2Z:∀ps:List (List Int),((ps.map tupI).flatMap itemsD).map id=ps.flatten.map .int
 | []=>rfl
 | p :: ps=>by
  have:=a2Z ps
  rw [List.map_cons,List.flatMap_cons,List.map_append,this,List.flatten_cons,List.map_append]
  rw [List.map_id];rfl
theorem a4p {ns:List Int}(h:ns.length < 64):gSort (.lst (ns.map .int))=some (.o (.lst ((sortI ns).map .int))):=by
 unfold gSort gSortI
 dsimp only
 rw [p8,Option.bind_some,if_pos h]
abbrev a63:Stmt:=top 16
theorem a7I:FnScope ["some"] ["some"] (defScope a63):=by walk_at "c"
def a9C (g:LO):Prop:=∀ps:List (List Int),ps.length<=20->ps.flatten.length<=40->g [.tup (ps.map tupI)]=some (.o (.lst ((sortI ps.flatten).map .int)))
theorem b2g (p6:mg "sorted"=none)(F:Fun K "held" "held" a63 f fd)(B:Binds K fd ["some"] [])(hm:mg "held"=some (.ref f)):∃g,Fn P w K mg base "held" (k + 1) g/\a9C g:=by
 have nd:=a7I.nd
 refine ⟨_,u7 F a7I B hm rfl rfl (fun cdv A outer s H E hr=>(b9 (g8 (a2n hr rfl p6 (a8 (a9A (N:=["party","person"]) (js:=[none,none]) rfl (B4 (by exact (.own (.own .nil))) rfl (by exact trivial) (by rfl)) (B5 0) (fun _ _ _ _=>(g9 0 (show ((["party","person"]:List Str) ++ [accN]).Nodup by decide +kernel))) (fun _ _ _ _=>(O1 (a7 0))) (fun _ _ _ _=>(g9 1 (show ((["party","person"]:List Str) ++ [accN]).Nodup by decide +kernel))) (fun _ _ _ _=>(a7 1))) a9))))),?_⟩
 intro ps hl h2
 have ef:=a2Z ps
 have so:=a4p (ns:=ps.flatten) (by walk_at "o")
 repeat (walk_at "z r")
 rw [a8y (ρ1:=[some (.v (.tup (ps.map tupI)))]) (xs:=ps.map tupI) (fun B=>∃o1 o2:Option D,B=[o1.map .v,o2.map .v]) itemsD id]
 ·rw [ef]
  repeat (first | walk_at "z r" | simp only [so])
 ·repeat (walk_at "z r")
 ·rintro _ ⟨_,_,rfl⟩;rfl
 ·exact ⟨none,none,rfl⟩
 ·have:=congrArg List.length ef
  rw [List.length_map,List.length_map] at this
  rw [this];unfold lim;walk_at "o"
 ·rw [ef];exact Q1 _
 ·rintro x hx _ zs ⟨o1,o2,rfl⟩
  obtain ⟨p,_,rfl⟩:=B6 hx
  refine ⟨[some (.v (tupI p)),o2.map .v],[some (.v (tupI p)),o2.map .v],⟨some _,o2,rfl⟩,?_,?_⟩
  ·repeat (walk_at "z r")
  ·rw [show tupI p= .tup (p.map .int) from rfl]
   repeat (first | walk_at "z r" | simp only [itemsD])
 ·rintro x hx y hy _ zs ⟨o1,o2,rfl⟩
  obtain ⟨p,_,rfl⟩:=B6 hx
  obtain ⟨i,_,rfl⟩:=J0 (show y∈p.map D.int from hy)
  refine ⟨[o1.map .v,some (.v (.int i))],.v (.int i),⟨o1,some _,rfl⟩,?_,?_,.inl rfl⟩
  ·repeat (walk_at "z r")
  ·repeat (walk_at "z r")
theorem a9j (m:Nat):(up m).map D.int=rngD 0 m:=by unfold up rngD;rw [List.map_map];rfl
theorem b3o {ks:List (List Int)}(hs:sortK ks=ks)(nd:ks.Nodup):ks.Pairwise (fun a b=>HT.lexLt a b=true):=by
 have h:=X1 ks
 rw [hs] at h
 have h2:=List.pairwise_and_iff.mpr ⟨h,nd⟩
 refine h2.imp fun {a b} ⟨h1,h3⟩=>?_
 cases e:HT.lexLt a b with
 | true=>rfl
 | false=>exact absurd (a2N a b e h1) h3
theorem PairOk.nd {n:Int}{ts:List Tie}{ps:List (List Int)}(h:PairOk n ts ps)(hw:WebOk n ts):ps.Nodup:=by
 have fn:ps.flatten.Nodup:=(h.prm.nodup_iff).mpr (a1v _)
 have ne:∀p∈ps,p≠[]:=fun p hp e=>by have:=(A9 hw (h.mem p hp)).2.1;rw [e] at this;simp at this
 clear h
 induction ps with
 | nil=>exact List.nodup_nil
 | cons p ps ih=>
  rw [List.flatten_cons,List.nodup_append] at fn
  obtain ⟨_,f2,f3⟩:=fn
  rw [List.nodup_cons]
  refine ⟨fun hp=>?_,ih f2 fun q hq=>ne q (List.mem_cons_of_mem _ hq)⟩
  obtain ⟨x,hx⟩:=List.exists_mem_of_ne_nil p (ne p List.mem_cons_self)
  exact f3 x hx x (List.mem_flatten.mpr ⟨p,hp,hx⟩) rfl
theorem a58:∀{ks:List (List Int)},ks.Pairwise (fun a b=>HT.lexLt a b=true)->∀x∈zipD (ks.map tupI) ((ks.map tupI).drop 1),∃a b,x= .tup [tupI a,tupI b]/\HT.lexLt a b=true
 | [],_,x,hx=>by simp [zipD] at hx
 | [a],_,x,hx=>by simp [zipD] at hx
 | a :: b :: r,h,x,hx=>by
  unfold zipD at hx
  rw [List.map_cons,List.map_cons,List.drop_succ_cons,List.drop_zero,List.zipWith_cons_cons] at hx
  rcases List.mem_cons.mp hx with rfl | hx
  ·exact ⟨a,b,rfl,(List.pairwise_cons.mp h).1 b List.mem_cons_self⟩
  ·exact a58 (List.pairwise_cons.mp h).2 x (by unfold zipD;rw [List.map_cons,List.drop_succ_cons,List.drop_zero];exact hx)
theorem a7Q:∀{ps:List (List Int)},ps.flatten.Nodup->(∀p∈ps,p≠[])->ps.Nodup
 | [],_,_=>List.nodup_nil
 | p :: ps,fn,ne=>by
  rw [List.flatten_cons,List.nodup_append] at fn
  obtain ⟨_,f2,f3⟩:=fn
  rw [List.nodup_cons]
  refine ⟨fun hp=>?_,a7Q f2 fun q hq=>ne q (List.mem_cons_of_mem _ hq)⟩
  obtain ⟨x,hx⟩:=List.exists_mem_of_ne_nil p (ne p List.mem_cons_self)
  exact f3 x hx x (List.mem_flatten.mpr ⟨p,hp,hx⟩) rfl
theorem a7i:∀{ks:List (List Int)},riseB ks=true->ks.Pairwise (fun a b=>HT.lexLt a b=true)
 | [],_=>.nil
 | [a],_=>List.pairwise_singleton _ _
 | a :: b :: r,h=>by
  unfold riseB zipD at h
  rw [List.map_cons,List.map_cons,List.drop_succ_cons,List.drop_zero,List.zipWith_cons_cons,List.all_cons,Bool.and_eq_true,a4z] at h
  have ih:=a7i (ks:=b :: r) (by unfold riseB zipD;rw [List.map_cons,List.drop_succ_cons,List.drop_zero];exact h.2)
  rw [List.pairwise_cons]
  refine ⟨fun c hc=>?_,ih⟩
  rcases List.mem_cons.mp hc with rfl | hc
  ·exact h.1
  ·exact a0J a b c h.1 ((List.pairwise_cons.mp ih).1 c hc)
theorem a37 {ks:List (List Int)}(nd:ks.Nodup):riseB ks=decide (ks=sortK ks):=by
 rw [Bool.eq_iff_iff,decide_eq_true_eq]
 constructor
 ·intro h
  have pw:=a7i h
  unfold sortK
  refine (List.mergeSort_of_pairwise (pw.imp fun {a b} hab=>?_)).symm
  unfold kleB
  cases e:HT.lexLt b a with
  | false=>rfl
  | true=>have:=a0J a b a hab e;rw [a5l] at this;cases this
 ·intro h
  unfold riseB
  rw [List.all_eq_true]
  intro x hx
  obtain ⟨a,b,rfl,hab⟩:=a58 (b3o h.symm nd) x hx
  rw [a4z];exact hab
def pairK (n:Int) (ks:List (List Int)):Bool:=riseB ks && decide (sortI ks.flatten=up n.toNat)
def pairB (n:Int) (ts:List Tie):D->Bool
 | .tup xs=>xs.all (ptyB n ts) && match tupsOf xs with
  | some ks=>pairK n ks
  | none=>false
 | _=>false
theorem a1b {n:Int}{ts:List Tie}{ks:List (List Int)}(h:∀k∈ks,k∈parK n ts):pairB n ts (.tup (ks.map tupI))=pairK n ks:=by
 unfold pairB
 dsimp only
 rw [b1e h,L4,Bool.true_and]
theorem a2M {n:Int}{ts:List Tie}(hw:WebOk n ts):∀{ks:List (List Int)},(∀k∈ks,k∈parK n ts)->ks.flatten.length<=2 * ks.length
 | [],_=>Nat.le_refl _
 | k :: ks,h=>by
  have h1:=a2M hw fun q hq=>h q (List.mem_cons_of_mem _ hq)
  have h2:=(A9 hw (h k List.mem_cons_self)).2.2
  rw [List.flatten_cons,List.length_append,List.length_cons];walk_at "o"
abbrev X0:Stmt:=top 15
theorem a0S:FnScope ["web","thing"] ["web","thing"] (defScope X0):=by walk_at "c"
def a1L (g:LO):Prop:=∀(n:Int) (ts:List Tie) (d:D),WebOk n ts->PDs d->g [webD n ts,d]=some (.v (.bl (pairB n ts d)))
theorem a3E {W7:LO}{a0i:LO}{a6X:LO}(W6:Fn P w K mg base "is_parties" k W7)(V4:a1K W7)(Z2:Fn P w K mg base "is_rising" k a0i)(a0p:a2A a0i)(a61:Fn P w K mg base "held" k a6X)(a6W:a9C a6X)(E5:mg "list"=none)(k8:mg "range"=none)(F:Fun K "is_pairing" "is_pairing" X0 f fd)(B:Binds K fd ["web","thing"] [])(hm:mg "is_pairing"=some (.ref f)):∃g,Fn P w K mg base "is_pairing" (k + 1) g/\a1L g:=by
 have nd:=a0S.nd
 refine ⟨_,u7 F a0S B hm rfl rfl (fun cdv A outer s H E hr=>(b9 (g8 (K1 (j6 W6 hr (a8 (a7 0) (a8 (a7 1) a9))) (K1 (j6 Z2 hr (a8 (a7 1) a9)) (L7 (T6 hr (j6 a61 hr (a8 (a7 1) a9)) (a5X rfl E5 k8 (a8 (c8 hr (a7 0) b0) a9))))))))),?_⟩
 intro n ts d hw hd
 have hn:=hw.n1
 have e1:=V4 n ts d hw hd
 have r1:(-(2 ^ 62:Int)<=n/\n < 2 ^ 62):=by walk_at "o"
 have r2:(0<=n/\n<=1000):=by walk_at "o"
 cases hb:ptsB n ts d with
 | false=>
  rw [hb] at e1
  have e0:pairB n ts d=false:=by
   cases d with
   | tup xs=>
    have hb:xs.all (ptyB n ts)=false:=hb
    unfold pairB;dsimp only;rw [hb,Bool.false_and]
   | _=>rfl
  rw [e0]
  repeat (first | walk_at "z r" | simp only [e1])
 | true=>
  rw [hb] at e1
  cases d with
  | tup xs=>
   obtain ⟨ks,rfl,hk⟩:=a2I hb
   obtain ⟨_,hl⟩:=hd.2 _ rfl
   rw [List.length_map] at hl
   have fl:=a2M hw hk
   have e2:=a0p ks hl
   have e3:=a6W ks hl (by walk_at "o")
   rw [a1b hk]
   unfold pairK
   have l1:=Q1 (sortI ks.flatten)
   have dq:deqL (deq 19) ((sortI ks.flatten).map D.int) (rngD 0 n.toNat)=some (decide (sortI ks.flatten=up n.toNat)):=by rw [<-a9j,M2]
   rw [show webD n ts= .tup [.int n,.tup (ts.map tieD)] from rfl] at e1 ⊢
   cases hr:riseB ks with
   | false=>rw [hr] at e2;repeat (first | walk_at "z r" | simp only [e1,e2])
   | true=>rw [hr] at e2;repeat (first | walk_at "z r" | simp only [e1,e2,e3,l1,r1,r2,dq])
  | _=>cases hb
def ratO:D->Option Rat
 | .tup [.int a,.int b]=>if 0 < b/\Int.gcd a b=1 then some (Rat.divInt a b) else none
 | _=>none
theorem a3t (q:Rat):ratO (ratD q)=some q:=by
 unfold ratO ratD
 dsimp only
 rw [if_pos ⟨by have:=q.den_pos;walk_at "o",q.reduced⟩,Rat.num_divInt_den]
theorem a1D {d:D}{q:Rat}(h:ratO d=some q):d=ratD q:=by
 unfold ratO at h
 split at h
 ·rename_i a b
  split at h
  ·rename_i hc
   cases h
   obtain ⟨p1,p2⟩:=J5 (t:=a) hc.1
   rw [hc.2] at p1 p2
   unfold ratD
   rw [p1,p2]
   simp
  ·cases h
 ·cases h
theorem a48 {d:D}(h:rowB 2 d=true):∃x y,d= .tup [x,y]:=by
 match d,h with
 | .tup [x,y],_=>exact ⟨x,y,rfl⟩
 | .tup (_ :: _ :: _ :: r),h=>exact absurd h (by show ¬((((_ :: _ :: _ :: r:List D).length:Nat):Int) == 2)=true;rw [List.length_cons,List.length_cons,List.length_cons,beq_iff_eq];walk_at "o")
theorem a3f {d:D}(h:rowB 2 d=false):ratO d=none:=by
 cases e:ratO d with
 | none=>rfl
 | some q=>rw [a1D e] at h;cases h
theorem a2P {x y:D}(h:whole x=false\/whole y=false):ratO (.tup [x,y])=none:=by
 cases x <;> first | rfl | skip
 cases y <;> first | rfl | skip
 rcases h with h | h <;> cases h
theorem a0E {x:D}(h:whole x=true):∃a,x= .int a:=by cases x <;> first | exact ⟨_,rfl⟩ | cases h
theorem a7v (a b:Int):(ratO (.tup [.int a,.int b])).isSome=(decide (0 < b) && decide (Int.gcd a b=1)):=by
 unfold ratO;dsimp only
 by_cases h1:0 < b
 ·by_cases h2:Int.gcd a b=1
  ·rw [if_pos ⟨h1,h2⟩];simp [h1,h2]
  ·rw [if_neg fun h=>h2 h.2];simp [h2]
 ·rw [if_neg fun h=>h1 h.1];simp [h1]
abbrev a1e:Stmt:=top 25
theorem a2z:FnScope ["thing"] ["thing"] (defScope a1e):=by walk_at "c"
def a3w (g:LO):Prop:=∀d:D,PD d->g [d]=some (.v (.bl (ratO d).isSome))
theorem a6n {G9:LO}{K8:LO}{u3:LO}(J6:Fn P w K mg base "is_row" k G9)(I0:a1I G9)(F7:Fn P w K mg base "is_whole" k K8)(F8:a1f K8)(u4:Fn P w K mg base "common_divisor" k u3)(t9:L6 u3)(m_abs:mg "abs"=none)(F:Fun K "is_ratio" "is_ratio" a1e f fd)(B:Binds K fd ["thing"] [])(hm:mg "is_ratio"=some (.ref f)):∃g,Fn P w K mg base "is_ratio" (k + 1) g/\a3w g:=by
 have nd:=a2z.nd
 refine ⟨_,u7 F a2z B hm rfl rfl (fun cdv A outer s H E hr=>(b8 (o9 (Y0 (Q7 (A5 (z5 (j6 J6 hr (a8 (a7 0) (a8 b0 a9))))) (Q7 (A5 (z5 (j6 F7 hr (a8 (c8 hr (a7 0) b0) a9)))) (V8 (A5 (z5 (j6 F7 hr (a8 (c8 hr (a7 0) b0) a9)))))))) (b9 (g8 J4)) j7)
  (b9 (g8 (K1 (b2l (c8 hr (a7 0) b0) b0) (L7 (T6 hr (j6 u4 hr (a8 (qx_b a0v a3n m_abs (a8 (c8 hr (a7 0) b0) a9)) (a8 (c8 hr (a7 0) b0) a9))) b0))))))),?_⟩
 intro d hd
 have e1:=I0 d 2 hd.1
 cases hr:rowB 2 d with
 | false=>
  rw [hr] at e1
  rw [a3f hr]
  repeat (first | walk_at "z r" | simp only [e1,Option.isSome_none])
 | true=>
  rw [hr] at e1
  obtain ⟨x,y,rfl⟩:=a48 hr
  obtain ⟨hx,_⟩:=hd.2 _ rfl
  have w1:=F8 x (hx x (by simp))
  have w2:=F8 y (hx y (by simp))
  cases hwx:whole x with
  | false=>
   rw [hwx] at w1
   rw [a2P (.inl hwx)]
   repeat (first | walk_at "z r" | simp only [e1,w1,Option.isSome_none])
  | true=>
   rw [hwx] at w1
   cases hwy:whole y with
   | false=>
    rw [hwy] at w2
    rw [a2P (.inr hwy)]
    repeat (first | walk_at "z r" | simp only [e1,w1,w2,Option.isSome_none])
   | true=>
    rw [hwy] at w2
    obtain ⟨a,rfl⟩:=a0E hwx
    obtain ⟨b,rfl⟩:=a0E hwy
    rw [a7v]
    repeat (first | walk_at "z r" | simp only [e1,w1,w2])
    cases h1:decide (0 < b) with
    | false=>repeat (first | walk_at "z r" | simp only [h1])
    | true=>
     have e2:=t9 (if a < 0 then -a else a) b (by split <;> walk_at "o") (by have:=of_decide_eq_true h1;walk_at "o")
     rw [a4W] at e2
     have z:((((Int.gcd a b:Nat):Int)) == 1)=decide (Int.gcd a b=1):=by
      rw [Bool.eq_iff_iff,beq_iff_eq,decide_eq_true_eq];walk_at "o"
     repeat (first | walk_at "z r" | simp only [h1,e2,z])
theorem a6h {α:Type} [DecidableEq α] {f:α->D}{m:Nat}(h:∀x y,deq m (f x) (f y)=some (decide (x=y))):∀xs ys:List α,deqL (deq m) (xs.map f) (ys.map f)=some (decide (xs=ys))
 | [],[]=>rfl
 | [],_ :: _=>rfl
 | _ :: _,[]=>rfl
 | x :: xs,y :: ys=>by
  rw [List.map_cons,List.map_cons,deqL,h,a6h h xs ys,Option.bind_some,Option.map_some]
  simp only [List.cons.injEq,Bool.decide_and]
theorem a59 {m:Nat}(p q:Rat):deq (m + 1) (ratD p) (ratD q)=some (decide (p=q)):=by
 show deqL (deq m) ([p.num,(p.den:Int)].map D.int) ([q.num,(q.den:Int)].map D.int)=_
 rw [M2]
 congr 1
 refine decide_eq_decide.mpr ⟨fun h=>?_,fun h=>by rw [h]⟩
 injection h with h1 h2
 injection h2 with h2 _
 exact Rat.ext h1 (by walk_at "o")
def RD (d:D):Prop:=PD d/\∀a b,d= .tup [.int a,.int b]->a.natAbs < 2 ^ 1000/\b.natAbs < 2 ^ 1000
theorem RD.sz {d:D}(h:RD d){q:Rat}(e:ratO d=some q):Sz 1000 q:=by
 have:=h.2 q.num q.den (a1D e)
 exact ⟨this.1,by have:=this.2;rwa [Int.natAbs_natCast] at this⟩
def RDs (d:D):Prop:=isX d=false/\∀xs,d= .tup xs->(∀y∈xs,RD y)/\xs.length<=20
theorem RDs.pds {d:D}(h:RDs d):PDs d:=⟨h.1,fun xs e=>⟨fun y hy=>((h.2 xs e).1 y hy).1,(h.2 xs e).2⟩⟩
def okS (d:D):Bool:=match ratO d with
 | some q=>decide (0<=q)
 | none=>false
def shsB (n:Int):D->Bool
 | .tup xs=>(((xs.length:Nat):Int) == n) && xs.all okS
 | _=>false
theorem a7K:∀{xs:List D},xs.all okS=true->∃qs:List Rat,xs=qs.map ratD/\∀q∈qs,0<=q
 | [],_=>⟨[],rfl,fun _ h=>nomatch h⟩
 | x :: xs,h=>by
  rw [List.all_cons,Bool.and_eq_true] at h
  obtain ⟨qs,rfl,hk⟩:=a7K h.2
  have h1:=h.1
  unfold okS at h1
  split at h1
  ·rename_i q e
   refine ⟨q :: qs,by rw [a1D e];rfl,fun p hp=>?_⟩
   rcases List.mem_cons.mp hp with rfl | hp
   ·exact of_decide_eq_true h1
   ·exact hk p hp
  ·cases h1
abbrev a0h:Stmt:=top 27
theorem a1C:FnScope ["web","thing"] ["web","thing"] (defScope a0h):=by walk_at "c"
def a2x (g:LO):Prop:=∀(n:Int) (ts:List Tie) (d:D),RDs d->g [webD n ts,d]=some (.v (.bl (shsB n d)))
theorem a5p {G9:LO}{a1c:LO}{a6z:LO}(J6:Fn P w K mg base "is_row" k G9)(I0:a1I G9)(a07:Fn P w K mg base "is_ratio" k a1c)(a02:a3w a1c)(a67:Fn P w K mg base "less" k a6z)(a6G:a80 a6z)(m_all:mg "all"=none)(G8:a1G mg K)(F:Fun K "is_shares" "is_shares" a0h f fd)(B:Binds K fd ["web","thing"] [])(hm:mg "is_shares"=some (.ref f)):∃g,Fn P w K mg base "is_shares" (k + 1) g/\a2x g:=by
 have nd:=a1C.nd
 refine ⟨_,u7 F a1C B hm rfl rfl (fun cdv A outer s H E hr=>(b8 (o9 (A5 (z5 (j6 J6 hr (a8 (a7 1) (a8 (c8 hr (a7 0) b0) a9))))) (b9 (g8 J4)) j7)
  (b9 (g8 (qx_b (G3 rfl) M5 m_all (a8 (F2 (N:=["share"]) (js:=[none]) (li:=none) rfl (B4 (by exact (.own .nil)) rfl (by exact trivial) (by rfl)) (B5 1) (fun _ _ _ _=>(g9 0 (show ((["share"]:List Str) ++ [accN]).Nodup by decide +kernel))) (fun _ _ _ _=>A3) (fun _ _ _ _=>(K1 (j6 a07 hr (a8 (a7 0) a9)) (L7 (a4Q (j6 a67 hr (a8 (a7 0) (a8 (a28 G8) a9)))))))) a9)))))),?_⟩
 intro n ts d hd
 have e1:=I0 d n hd.1
 have n0:D.tup [D.int 0,D.int 1]=ratD 0:=rfl
 rw [show webD n ts= .tup [.int n,.tup (ts.map tieD)] from rfl]
 cases hr:rowB n d with
 | false=>
  rw [hr] at e1
  have e0:shsB n d=false:=by
   cases d with
   | tup xs=>have hr:(((xs.length:Nat):Int) == n)=false:=hr;unfold shsB;dsimp only;rw [hr,Bool.false_and]
   | _=>rfl
  rw [e0]
  repeat (first | walk_at "z r" | simp only [e1])
 | true=>
  rw [hr] at e1
  cases d with
  | tup xs=>
   obtain ⟨hx,hl⟩:=hd.2 _ rfl
   have hr:(((xs.length:Nat):Int) == n)=true:=hr
   rw [show shsB n (.tup xs)=xs.all okS by unfold shsB;dsimp only;rw [hr,Bool.true_and]]
   repeat (first | walk_at "z r" | simp only [e1])
   rw [t5 (ρ1:=[some (.v (.tup [.int n,.tup (ts.map tieD)])),some (.v (.tup xs))]) (xs:=xs) (fun B=>∃o1:Option D,B=[o1.map .v]) (fun _=>true) (fun y=>.bl (okS y))]
   ·rw [o0]
    have gb:=a0t (r:=fun bs=>bs.all id) (z9 okS xs)
    rw [D4] at gb
    repeat (first | walk_at "z r" | simp only [gb])
   ·repeat (walk_at "z r")
   ·rintro _ ⟨_,rfl⟩;rfl
   ·exact ⟨none,rfl⟩
   ·unfold lim;walk_at "o"
   ·exact a0q _ _
   ·rintro x hx' _ zs ⟨o1,rfl⟩
    have hrd:=hx x hx'
    have e2:=a02 x hrd.1
    refine ⟨[some (.v x)],.v (.bl (okS x)),⟨some _,rfl⟩,?_,rfl,fun _=>⟨?_,.inl rfl⟩⟩
    ·repeat (walk_at "z r")
    ·cases eo:ratO x with
     | none=>
      rw [eo] at e2
      rw [show okS x=false by unfold okS;rw [eo]]
      repeat (first | walk_at "z r" | simp only [e2,Option.isSome_none])
     | some q=>
      have hz:=hrd.sz eo
      have ex:=a1D eo
      subst ex
      rw [eo] at e2
      have e3:=a6G q 0 1000 1 hz sz_0 (by decide)
      rw [show decide (q.num * ((0:Rat).den:Int) < (0:Rat).num * (q.den:Int))=decide (q < 0) from decide_eq_decide.mpr (a8C q 0)] at e3
      rw [show okS (ratD q)= !decide (q < 0) by unfold okS;rw [eo];dsimp only;rw [<-decide_not];exact decide_eq_decide.mpr Rat.not_lt.symm]
      repeat (first | walk_at "z r" | simp only [e2,n0,e3,Option.isSome_some])
  | _=>cases hr
def ratsOf:List D->Option (List Rat)
 | []=>some []
 | x :: xs=>(ratO x).bind fun q=>(ratsOf xs).map fun qs=>q :: qs
theorem a3p:∀qs:List Rat,ratsOf (qs.map ratD)=some qs
 | []=>rfl
 | q :: qs=>by rw [List.map_cons,ratsOf,a3t,a3p qs];rfl
def zerB (ts:List Tie):D->D->Bool
 | .tup xs,.tup ys=>match tupsOf xs,ratsOf ys with
  | some ks,some qs=>ks.all fun k=>decide (slackR ts qs k=0)
  | _,_=>false
 | _,_=>false
theorem a4E (ts:List Tie)(ks:List (List Int))(qs:List Rat):zerB ts (.tup (ks.map tupI)) (.tup (qs.map ratD))=ks.all fun k=>decide (slackR ts qs k=0):=by
 unfold zerB;dsimp only;rw [L4,a3p]
def sharB (n:Int) (ts:List Tie):D->Bool
 | .tup [P,S]=>pairB n ts P && (shsB n S && zerB ts P S)
 | _=>false
def TH (d:D):Prop:=isX d=false/\∀xs,d= .tup xs->∀y∈xs,RDs y
theorem a7t {n:Int}{ts:List Tie}{P:D}(h:pairB n ts P=true):∃ks:List (List Int),P= .tup (ks.map tupI)/\∀k∈ks,k∈parK n ts:=by
 cases P with
 | tup xs=>
  unfold pairB at h
  dsimp only at h
  rw [Bool.and_eq_true] at h
  obtain ⟨ks,rfl,hk⟩:=a2I h.1
  exact ⟨ks,rfl,hk⟩
 | _=>cases h
theorem a9z {n:Int}{S:D}(h:shsB n S=true)(hs:RDs S):∃qs:List Rat,S= .tup (qs.map ratD)/\((qs.length:Nat):Int)=n/\(∀q∈qs,0<=q)/\∀q∈qs,Sz 1000 q:=by
 cases S with
 | tup xs=>
  unfold shsB at h
  dsimp only at h
  rw [Bool.and_eq_true] at h
  obtain ⟨qs,rfl,hk⟩:=a7K h.2
  refine ⟨qs,rfl,by have:=h.1;rw [List.length_map] at this;simpa using this,hk,fun q hq=>?_⟩
  exact ((hs.2 _ rfl).1 (ratD q) (List.mem_map.mpr ⟨q,hq,rfl⟩)).sz (a3t q)
 | _=>cases h
theorem a4j {n:Int}{ts:List Tie}{qs:List Rat}(hn:1<=n)(hl:((qs.length:Nat):Int)=n)(hz:∀q∈qs,Sz 1000 q):ShOk n qs:=⟨by walk_at "o",fun s h=>(hz s h).mono (by decide)⟩
abbrev X9:Stmt:=top 28
theorem a0K:FnScope ["web","thing","pairing","shares"] ["web","thing"] (defScope X9):=by walk_at "c"
def a1S (g:LO):Prop:=∀(n:Int) (ts:List Tie) (d:D),WebOk n ts->TH d->g [webD n ts,d]=some (.v (.bl (sharB n ts d)))
theorem a3y {G9:LO}{W2:LO}{a0r:LO}{a4y:LO}(J6:Fn P w K mg base "is_row" k G9)(I0:a1I G9)(V2:Fn P w K mg base "is_pairing" k W2)(V9:a1L W2)(a0m:Fn P w K mg base "is_shares" k a0r)(Y5:a2x a0r)(a47:Fn P w K mg base "slack" k a4y)(a4R:a7c a4y)(m_all:mg "all"=none)(G8:a1G mg K)(F:Fun K "is_sharing" "is_sharing" X9 f fd)(B:Binds K fd ["web","thing"] [])(hm:mg "is_sharing"=some (.ref f)):∃g,Fn P w K mg base "is_sharing" (k + 1) g/\a1S g:=by
 have nd:=a0K.nd
 refine ⟨_,u7 F a0K B hm rfl rfl (fun cdv A outer s H E hr=>(b8 (o9 (A5 (z5 (j6 J6 hr (a8 (a7 1) (a8 b0 a9))))) (b9 (g8 J4)) j7)
  (b8 (F9 (a7 1) (R5 rfl (l7 (g9 2 nd) (l7 (g9 3 nd) M4))))
  (b8 (o9 (Y0 (Q7 (A5 (z5 (j6 V2 hr (a8 (a7 0) (a8 (a7 2) a9))))) (V8 (A5 (z5 (j6 a0m hr (a8 (a7 0) (a8 (a7 3) a9)))))))) (b9 (g8 J4)) j7)
  (b9 (g8 (qx_b (G3 rfl) M5 m_all (a8 (F2 (N:=["party","web","shares"]) (js:=[none,some 0,some 3]) (li:=none) rfl (B4 (by exact (.own (.cap rfl rfl rfl rfl (.cap rfl rfl rfl rfl .nil)))) rfl (by exact ⟨rfl,⟨rfl,trivial⟩⟩) (by rfl)) (B5 2) (fun _ _ _ _=>(g9 0 (show ((["party","web","shares"]:List Str) ++ [accN]).Nodup by decide +kernel))) (fun _ _ _ _=>A3) (fun _ _ _ _=>(T6 hr (j6 a47 hr (a8 (a7 1) (a8 (a7 2) (a8 (a7 0) a9)))) (a28 G8)))) a9)))))))),?_⟩
 intro n ts d hw hd
 have hn:=hw.n1
 have e1:=I0 d 2 hd.1
 have n0:D.tup [D.int 0,D.int 1]=ratD 0:=rfl
 cases hr:rowB 2 d with
 | false=>
  rw [hr] at e1
  have e0:sharB n ts d=false:=by
   match d,hr with
   | .tup [P,S],hr=>cases hr
   | .tup [],_=>rfl
   | .tup [_],_=>rfl
   | .tup (_ :: _ :: _ :: _),_=>rfl
   | .non,_=>rfl
   | .bl _,_=>rfl
   | .int _,_=>rfl
   | .str _,_=>rfl
   | .lst _,_=>rfl
   | .dT _ _,_=>rfl
   | .dK _ _,_=>rfl
   | .exn _,_=>rfl
  rw [e0]
  repeat (first | walk_at "z r" | simp only [e1])
 | true=>
  rw [hr] at e1
  obtain ⟨P,S,rfl⟩:∃P S,d= .tup [P,S]:=by
   match d,hr with
   | .tup [P,S],_=>exact ⟨P,S,rfl⟩
   | .tup (_ :: _ :: _ :: r),hr=>unfold rowB at hr;simp at hr;walk_at "o"
  have hP:=hd.2 _ rfl P (by simp)
  have hS:=hd.2 _ rfl S (by simp)
  have e2:=V9 n ts P hw hP.pds
  have e3:=Y5 n ts S hS
  rw [show sharB n ts (.tup [P,S])=(pairB n ts P && (shsB n S && zerB ts P S)) from rfl]
  cases hb:pairB n ts P with
  | false=>
   rw [hb] at e2
   repeat (first | walk_at "z r" | simp only [e1,e2])
  | true=>
   rw [hb] at e2
   cases hb2:shsB n S with
   | false=>
    rw [hb2] at e3
    repeat (first | walk_at "z r" | simp only [e1,e2,e3])
   | true=>
    rw [hb2] at e3
    obtain ⟨ks,rfl,hk⟩:=a7t hb
    obtain ⟨qs,rfl,hl,hq0,hqz⟩:=a9z hb2 hS
    have hsh:=a4j (ts:=ts) hn.1 hl hqz
    have hkl:=(hP.2 _ rfl).2
    rw [List.length_map] at hkl
    rw [a4E]
    repeat (first | walk_at "z r" | simp only [e1,e2,e3])
    rw [t5 (ρ1:=[some (.v (webD n ts)),some (.v (.tup [.tup (ks.map tupI),.tup (qs.map ratD)])),some (.v (.tup (ks.map tupI))),some (.v (.tup (qs.map ratD)))]) (xs:=ks.map tupI) (fun B=>∃o1:Option D,B=[o1.map .v,some (.v (webD n ts)),some (.v (.tup (qs.map ratD)))]) (fun _=>true) (fun y=>.bl (onT (fun k=>decide (slackR ts qs k=0)) y))]
    ·rw [o0]
     have gb:=a0t (r:=fun bs=>bs.all id) (z9 (onT fun k=>decide (slackR ts qs k=0)) (ks.map tupI))
     rw [D4,show ((ks.map tupI).all (onT fun k=>decide (slackR ts qs k=0)))=ks.all fun k=>decide (slackR ts qs k=0) by rw [List.all_map];congr 1;funext k;exact a0D _ k] at gb
     repeat (first | walk_at "z r" | simp only [gb])
    ·repeat (walk_at "z r")
    ·rintro _ ⟨_,rfl⟩;rfl
    ·exact ⟨none,rfl⟩
    ·rw [List.length_map];unfold lim;walk_at "o"
    ·exact a0q _ _
    ·rintro x hx _ zs ⟨o1,rfl⟩
     obtain ⟨k,hkk,rfl⟩:=B6 hx
     have e4:=a4R n ts qs k hw hsh (hk k hkk)
     have d0:=a59 (m:=19) (slackR ts qs k) 0
     rw [a0D]
     refine ⟨[some (.v (tupI k)),some (.v (webD n ts)),some (.v (.tup (qs.map ratD)))],.v (.bl (decide (slackR ts qs k=0))),⟨some _,rfl⟩,?_,rfl,fun _=>⟨?_,.inl rfl⟩⟩
     ·repeat (walk_at "z r")
     ·repeat (first | walk_at "z r" | simp only [e4,n0,d0,P4] | rfl)
abbrev U8:Stmt:=top 46
theorem a0V:FnScope ["thing"] ["thing"] (defScope U8):=by walk_at "c"
def V5 (g:LO):Prop:=∀d:D,isX d=false->g [d]=some (.v (.bl (whole d)))
theorem a3G (c9:mg "isinstance"=none)(m_int:mg "int"=none)(V7:mg "bool"=none)(F:Fun K "_law_whole" "_law_whole" U8 f fd)(B:Binds K fd ["thing"] [])(hm:mg "_law_whole"=some (.ref f)):∃g,Fn P w K mg base "_law_whole" (k + 1) g/\V5 g:=by
 have nd:=a0V.nd
 refine ⟨_,u7 F a0V B hm rfl rfl (fun cdv A outer s H E hr=>(b9 (g8 (K1 (K5 (T:="int") (K9 (by decide)) c9 m_int (a7 0)) (L7 (a4Q (K5 (T:="bool") (K9 (by decide)) c9 V7 (a7 0)))))))),?_⟩
 intro d hd
 have i1:=a85 hd
 have i2:=a4H hd
 cases d with
 | exn C=>cases hd
 | _=>repeat (first | walk_at "z r" | simp only [i1,i2,isI,isB,whole])
theorem b1T {a b:Int}(hb:0 < b):([(Rat.divInt a b).num,((Rat.divInt a b).den:Int)]=[a,b])↔Int.gcd a b=1:=by
 obtain ⟨p1,p2⟩:=J5 (t:=a) hb
 rw [p1,p2]
 constructor
 ·intro h
  injection h with _ h
  injection h with h _
  have hd:((Int.gcd a b:Nat):Int) ∣ b:=Int.gcd_dvd_right ..
  have h2:=Int.ediv_mul_cancel hd
  rw [h] at h2
  have h3:b * ((Int.gcd a b:Nat):Int)=b * 1:=by rw [h2,Int.mul_one]
  have:=Int.eq_of_mul_eq_mul_left (by walk_at "o") h3
  walk_at "o"
 ·intro h
  rw [h];simp
theorem a7M {d:D}(h:isT d=false):rowB 2 d=false:=by cases d <;> first | rfl | cases h
theorem a98 {d:D}(h:isT d=true):∃xs,d= .tup xs:=by cases d <;> first | exact ⟨_,rfl⟩ | cases h
abbrev O0:Stmt:=top 47
theorem U0:FnScope ["thing"] ["thing"] (defScope O0):=by walk_at "c"
def Y1 (g:LO):Prop:=∀d:D,RD d->g [d]=some (.v (.bl (ratO d).isSome))
theorem a2a {D9:LO}{m8:LO}(A6:Fn P w K mg base "_law_whole" k D9)(A2:V5 D9)(m7:Fn P w K mg base "_law_ratio" k m8)(n8:K0 m8)(c9:mg "isinstance"=none)(j4:mg "tuple"=none)(m_len:mg "len"=none)(F:Fun K "_law_is_ratio" "_law_is_ratio" O0 f fd)(B:Binds K fd ["thing"] [])(hm:mg "_law_is_ratio"=some (.ref f)):∃g,Fn P w K mg base "_law_is_ratio" (k + 1) g/\Y1 g:=by
 have nd:=U0.nd
 refine ⟨_,u7 F U0 B hm rfl rfl (fun cdv A outer s H E hr=>(b8 (o9 (Y0 (Q7 (A5 (z5 (K5 (T:="tuple") (K9 (by decide)) c9 j4 (a7 0)))) (Q7 (a2V hr (qx_b k6 G0 m_len (a8 (a7 0) a9)) b0) (Q7 (A5 (z5 (j6 A6 hr (a8 (c8 hr (a7 0) b0) a9)))) (V8 (A5 (z5 (j6 A6 hr (a8 (c8 hr (a7 0) b0) a9))))))))) (b9 (g8 J4)) j7)
  (b9 (g8 (K1 (b2l (c8 hr (a7 0) b0) b0) (L7 (T6 hr (j6 m7 hr (a8 (c8 hr (a7 0) b0) (a8 (c8 hr (a7 0) b0) a9))) (a7 0)))))))),?_⟩
 intro d hrd
 have hd:=hrd.1
 have it:=N8 hd.1
 cases hT:isT d with
 | false=>
  rw [hT] at it
  rw [a3f (a7M hT)]
  repeat (first | walk_at "z r" | simp only [it,Option.isSome_none])
 | true=>
  rw [hT] at it
  obtain ⟨xs,rfl⟩:=a98 hT
  cases hl:(((xs.length:Nat):Int) == 2) with
  | false=>
   rw [a3f (show rowB 2 (.tup xs)=false from hl)]
   repeat (first | walk_at "z r" | simp only [it,hl,Option.isSome_none])
  | true=>
   obtain ⟨x,y,exy⟩:=a48 (show rowB 2 (.tup xs)=true from hl)
   cases exy
   obtain ⟨hx,_⟩:=hd.2 _ rfl
   have w1:=A2 x (hx x (by simp))
   have w2:=A2 y (hx y (by simp))
   have z22:(((2:Nat):Int) == 2)=true:=rfl
   cases hwx:whole x with
   | false=>
    rw [hwx] at w1
    rw [a2P (.inl hwx)]
    repeat (first | walk_at "z r" | simp only [it,z22,w1,Option.isSome_none])
   | true=>
    rw [hwx] at w1
    cases hwy:whole y with
    | false=>
     rw [hwy] at w2
     rw [a2P (.inr hwy)]
     repeat (first | walk_at "z r" | simp only [it,z22,w1,w2,Option.isSome_none])
    | true=>
     rw [hwy] at w2
     obtain ⟨a,rfl⟩:=a0E hwx
     obtain ⟨b,rfl⟩:=a0E hwy
     rw [a7v]
     repeat (first | walk_at "z r" | simp only [it,z22,w1,w2])
     cases h1:decide (0 < b) with
     | false=>repeat (first | walk_at "z r" | simp only [h1])
     | true=>
      have hb:=of_decide_eq_true h1
      have er:=n8 a b hb (Nat.lt_of_lt_of_le (hrd.2 a b rfl).2 (Nat.pow_le_pow_right (by decide) (by decide)))
      have dq:deq 20 (ratD (Rat.divInt a b)) (.tup [.int a,.int b])=some (decide (Int.gcd a b=1)):=by
       show deqL (deq 19) ([(Rat.divInt a b).num,((Rat.divInt a b).den:Int)].map D.int) ([a,b].map D.int)=_
       rw [M2];congr 1;exact decide_eq_decide.mpr (b1T hb)
      repeat (first | walk_at "z r" | simp only [h1,er,P4,dq])
theorem a8X (n:Int)(ts:List Tie):oneK n.toNat ++ ts.map tkK=(parK n ts).map fun k=>k.map (Sum.inl:Int->Key):=by
 unfold parK oneK
 rw [List.map_append,List.map_map,List.map_map];rfl
theorem b0i {n:Int}{ts:List Tie}{k:List Int}:memK (k.map (Sum.inl:Int->Key)) (oneK n.toNat ++ ts.map tkK)=decide (k∈parK n ts):=by
 rw [a8X]
 unfold memK
 refine decide_eq_decide.mpr ⟨fun h=>?_,fun h=>List.mem_map.mpr ⟨k,h,rfl⟩⟩
 obtain ⟨j,hj,e⟩:=List.mem_map.mp h
 rw [a2L e] at hj;exact hj
theorem b0w {n:Int}{ts:List Tie}{xs:List D}(h:xs.all isT=false):xs.all (ptyB n ts)=false:=by
 rw [<-Bool.not_eq_true] at h ⊢
 intro h2
 apply h
 rw [List.all_eq_true] at h2 ⊢
 intro x hx
 have:=h2 x hx
 cases x <;> first | rfl | cases this
abbrev J9:Stmt:=top 48
theorem P6:FnScope ["web","thing","gains_v","party","people"] ["web","thing"] (defScope J9):=by walk_at "c"
def Q3 (g:LO):Prop:=∀(n:Int) (ts:List Tie) (d:D),WebOk n ts->PDs d->g [webD n ts,d]=some (.v (.bl (pairB n ts d)))
theorem a09 {n9:LO}{D9:LO}(m9:Fn P w K mg base "_law_gains" k n9)(n6:J7 n9)(A6:Fn P w K mg base "_law_whole" k D9)(A2:V5 D9)(c9:mg "isinstance"=none)(j4:mg "tuple"=none)(m_all:mg "all"=none)(E5:mg "list"=none)(p6:mg "sorted"=none)(k8:mg "range"=none)(F:Fun K "_law_is_pairing" "_law_is_pairing" J9 f fd)(B:Binds K fd ["web","thing"] [])(hm:mg "_law_is_pairing"=some (.ref f)):∃g,Fn P w K mg base "_law_is_pairing" (k + 1) g/\Q3 g:=by
 have nd:=P6.nd
 refine ⟨_,u7 F P6 B hm rfl rfl (fun cdv A outer s H E hr=>(b8 (o9 (Y0 (Q7 (A5 (z5 (K5 (T:="tuple") (K9 (by decide)) c9 j4 (a7 1)))) (V8 (A5 (z5 (qx_b (G3 rfl) M5 m_all (a8 (F2 (N:=["party"]) (js:=[none]) (li:=none) rfl (B4 (by exact (.own .nil)) rfl (by exact trivial) (by rfl)) (B5 1) (fun _ _ _ _=>(g9 0 (show ((["party"]:List Str) ++ [accN]).Nodup by decide +kernel))) (fun _ _ _ _=>A3) (fun _ _ _ _=>(K5 (T:="tuple") (K9 (by decide)) c9 j4 (a7 0)))) a9))))))) (b9 (g8 J4)) j7)
  (b8 (j0 2 nd (j6 m9 hr (a8 (a7 0) a9)))
  (b8 (F6 PySem.PassesOwn.never rfl (O1 (a7 1)) (g9 3 nd) (b9 (o9 (Y0 (Q7 (A5 (z5 (qx_b (G3 rfl) M5 m_all (a8 (F2 (N:=["person"]) (js:=[none]) (li:=none) rfl (B4 (by exact (.own .nil)) rfl (by exact trivial) (by rfl)) (B5 3) (fun _ _ _ _=>(g9 0 (show ((["person"]:List Str) ++ [accN]).Nodup by decide +kernel))) (fun _ _ _ _=>A3) (fun _ _ _ _=>(j6 A6 hr (a8 (a7 0) a9)))) a9)))) (V8 (a19 hr (a7 3) (a7 2))))) (b9 (g8 J4)) j7)))
  (b8 (j0 4 nd (w5 a9))
  (b8 (F6 PySem.PassesOwn.never rfl (O1 (a7 1)) (g9 3 nd) (b9 (Q6 (a36 (a7 4) (a8 (a7 3) a9)))))
  (b9 (g8 (K1 (T6 hr (a1t rfl E5 (a8 (a7 1) a9)) (P9 hr rfl p6 (a8 (a7 1) a9))) (L7 (T6 hr (P9 hr rfl p6 (a8 (a7 4) a9)) (a5X rfl E5 k8 (a8 (c8 hr (a7 0) b0) a9))))))))))))),?_⟩
 intro n ts d hw hd
 have hn:=hw.n1
 have it:=N8 hd.1
 have eg:=n6 n ts hw
 have lg:=a1y n ts
 have kl:(oneK n.toNat ++ ts.map tkK).length=(List.replicate n.toNat (D.int 0) ++ ts.map fun t=>D.int t.2.2).length:=by
  unfold oneK;simp
 have r1:(-(2 ^ 62:Int)<=n/\n < 2 ^ 62):=by walk_at "o"
 have r2:(0<=n/\n<=1000):=by walk_at "o"
 cases d with
 | tup xs=>
  obtain ⟨hx,hl⟩:=hd.2 _ rfl
  repeat (first | walk_at "z r" | simp only [it,isT])
  rw [t5 (ρ1:=[some (.v (webD n ts)),some (.v (.tup xs)),none,none,none]) (xs:=xs) (fun B=>∃o1:Option D,B=[o1.map .v]) (fun _=>true) (fun y=>.bl (isT y))]
  ·rw [o0]
   have gb:=a0t (r:=fun bs=>bs.all id) (z9 isT xs)
   rw [D4] at gb
   cases hT:xs.all isT with
   | false=>
    rw [hT] at gb
    rw [show pairB n ts (.tup xs)=false by unfold pairB;dsimp only;rw [b0w hT,Bool.false_and]]
    repeat (first | walk_at "z r" | simp only [gb])
   | true=>
    rw [hT] at gb
    have mk:∀k,memK (k.map (Sum.inl:Int->Key)) (oneK n.toNat ++ ts.map tkK)=decide (k∈parK n ts):=fun k=>b0i
    repeat (first | walk_at "z r" | simp only [gb,eg,lg])
    generalize oneK n.toNat ++ ts.map tkK=K at kl mk ⊢
    generalize (List.replicate n.toNat (D.int 0) ++ ts.map fun t=>D.int t.2.2)=V at kl ⊢
    generalize el:loopF _ _ _=r
    refine a0Q el (fun ρ=>∃o3:Option D,ρ=[some (.v (webD n ts)),some (.v (.tup xs)),some (.o (.dT K V)),o3.map .v,none]) (ptyB n ts) (.v (.bl false)) ⟨none,rfl⟩ ?_ ?_ ?_
    ·rintro x hx' _ ⟨o3,rfl⟩
     have hpd:=hx x hx'
     have hT':=List.all_eq_true.mp hT x hx'
     cases x with
     | tup ds=>
      obtain ⟨hy,hyl⟩:=hpd.2 _ rfl
      repeat (walk_at "z r")
      rw [t5 (ρ1:=[some (.v (webD n ts)),some (.v (.tup xs)),some (.o (.dT K V)),some (.v (.tup ds)),none]) (xs:=ds) (fun B=>∃o1:Option D,B=[o1.map .v]) (fun _=>true) (fun y=>.bl (whole y))]
      ·rw [o0]
       have gb:=a0t (r:=fun bs=>bs.all id) (z9 whole ds)
       rw [D4] at gb
       cases hW:ds.all whole with
       | false=>
        rw [hW] at gb
        rw [show ptyB n ts (.tup ds)=false by unfold ptyB;dsimp only;rw [a5B hW]]
        refine ⟨fun h=>(by cases h),fun _=>⟨[some (.v (webD n ts)),some (.v (.tup xs)),some (.o (.dT K V)),some (.v (.tup ds)),none],?_⟩⟩
        repeat (first | walk_at "z r" | simp only [gb])
       | true=>
        rw [hW] at gb
        obtain ⟨k,rfl⟩:=a05 hW
        have t1:=a9i (b:=true) (d:=.tup (k.map .int)) (a2O k) kl
        rw [mk k] at t1
        rw [show ptyB n ts (.tup (k.map .int))=decide (k∈parK n ts) from a0B]
        cases hm:decide (k∈parK n ts) with
        | true=>
         rw [hm] at t1
         refine ⟨fun _=>⟨_,?_,some (.tup (k.map .int)),rfl⟩,fun h=>(by cases h)⟩
         repeat (first | walk_at "z r" | simp only [gb,t1])
        | false=>
         rw [hm] at t1
         refine ⟨fun h=>(by cases h),fun _=>⟨[some (.v (webD n ts)),some (.v (.tup xs)),some (.o (.dT K V)),some (.v (.tup (k.map .int))),none],?_⟩⟩
         repeat (first | walk_at "z r" | simp only [gb,t1])
      ·repeat (walk_at "z r")
      ·rintro _ ⟨_,rfl⟩;rfl
      ·exact ⟨none,rfl⟩
      ·unfold lim;walk_at "o"
      ·exact a0q _ _
      ·rintro y hy' _ zs ⟨o1,rfl⟩
       have ew:=A2 y (hy y hy')
       refine ⟨[some (.v y)],.v (.bl (whole y)),⟨some _,rfl⟩,?_,rfl,fun _=>⟨?_,.inl rfl⟩⟩
       ·repeat (walk_at "z r")
       ·repeat (first | walk_at "z r" | simp only [ew])
     | _=>cases hT'
    ·rintro hall _ rfl ⟨o3,rfl⟩
     obtain ⟨ks,rfl,hk⟩:=a2I hall
     rw [List.length_map] at hl
     have fl:=a2M hw hk
     repeat (walk_at "z r")
     generalize el2:loopF _ _ _=r2
     refine M3 el2 (fun i ρ=>∃o3:Option D,ρ=[some (.v (webD n ts)),some (.v (.tup (ks.map tupI))),some (.o (.dT K V)),o3.map .v,some (.o (.lst ((ks.take i).flatten.map .int)))]/\i<=ks.length) ⟨o3,rfl,Nat.zero_le _⟩ ?_ ?_
     ·rintro i x _ hx' ⟨o3,rfl,hi⟩
      rw [List.getElem?_map] at hx'
      cases hki:ks[i]? with
      | none=>rw [hki] at hx';cases hx'
      | some k=>
       rw [hki] at hx';cases hx'
       have lt:=(List.getElem?_eq_some_iff.mp hki).1
       have et:(ks.take (i + 1)).flatten=(ks.take i).flatten ++ k:=by rw [List.take_add_one,hki,List.flatten_append];simp
       have f1:(ks.take i).flatten.length<=40:=by
        have:=a2M hw (ks:=ks.take i) fun q hq=>hk q (List.mem_of_mem_take hq)
        rw [List.length_take] at this;walk_at "o"
       have f2:=(A9 hw (hk k (List.mem_of_getElem? hki))).2.2
       have le1:(ks.take i).flatten.length + k.length<=1000000:=by walk_at "o"
       refine ⟨_,?_,some (tupI k),rfl,lt⟩
       rw [et,show tupI k= .tup (k.map .int) from rfl]
       repeat (first | walk_at "z r" | simp only [le1,List.length_map,List.map_append])
     ·rintro _ rfl ⟨o3,rfl,_⟩
      rw [List.length_map,List.take_length,a1b hk]
      have lt:=D6 ks
      have lt2:=D6 (sortK ks)
      have so2:=a4p (ns:=ks.flatten) (by walk_at "o")
      have l2:=Q1 (sortI ks.flatten)
      have dq1:deqL (deq 19) (ks.map tupI) ((sortK ks).map tupI)=some (decide (ks=sortK ks)):=a6h (f:=tupI) (m:=19) (fun a b=>M2 (m:=18) a b) ks (sortK ks)
      have dq2:deqL (deq 19) ((sortI ks.flatten).map D.int) (rngD 0 n.toNat)=some (decide (sortI ks.flatten=up n.toNat)):=by rw [<-a9j,M2]
      have so:=b2G (ks:=ks) (by walk_at "o") fun k h=>(a1A hw).2 k (hk k h)
      have ef:(decide (ks=sortK ks) && decide (sortI ks.flatten=up n.toNat))=pairK n ks:=by
       unfold pairK
       by_cases hs:sortI ks.flatten=up n.toNat
       ·have nd:ks.flatten.Nodup:=((A4 ks.flatten).nodup_iff).mp (by rw [hs];exact a1v _)
        rw [a37 (a7Q nd fun k h=>(a1A hw).2 k (hk k h))]
       ·rw [decide_eq_false hs,Bool.and_false,Bool.and_false]
      rw [<-ef]
      rw [show webD n ts= .tup [.int n,.tup (ts.map tieD)] from rfl]
      cases hq:decide (ks=sortK ks) with
      | false=>rw [hq] at dq1;repeat (first | walk_at "z r" | simp only [lt,lt2,so,dq1])
      | true=>rw [hq] at dq1;repeat (first | walk_at "z r" | simp only [lt,lt2,so,dq1,a9h,so2,l2,r1,r2,dq2])
    ·rintro hall _ rfl
     rw [show pairB n ts (.tup xs)=false by unfold pairB;dsimp only;rw [hall,Bool.false_and]]
     repeat (first | walk_at "z r")
  ·repeat (walk_at "z r")
  ·rintro _ ⟨_,rfl⟩;rfl
  ·exact ⟨none,rfl⟩
  ·unfold lim;walk_at "o"
  ·exact a0q _ _
  ·rintro x hx' _ zs ⟨o1,rfl⟩
   have i1:=N8 (d:=x) (hx x hx').1
   refine ⟨[some (.v x)],.v (.bl (isT x)),⟨some _,rfl⟩,?_,rfl,fun _=>⟨?_,.inl rfl⟩⟩
   ·repeat (walk_at "z r")
   ·repeat (first | walk_at "z r" | simp only [i1])
 | exn C=>cases hd.1
 | _=>repeat (first | walk_at "z r" | simp only [it,isT,pairB])
theorem a43 (ts:List Tie)(qs:List Rat)(k:List Int):decide (sumR (k.map fun i=>qs.getD i.toNat 0) 0=((gainOf ts k:Int):Rat))=decide (slackR ts qs k=0):=by
 unfold slackR
 generalize sumR (k.map fun i=>qs.getD i.toNat 0) 0=a
 generalize ((gainOf ts k:Int):Rat)=b
 exact decide_eq_decide.mpr ⟨fun h=>by rw [h];grind,fun h=>by grind⟩
theorem a9f {x:D}(h:ratO x=none):okS x=false:=by unfold okS;rw [h]
theorem a7C (q:Rat):okS (ratD q)=decide (0<=q.num):=by
 unfold okS;rw [a3t];exact decide_eq_decide.mpr Rat.num_nonneg.symm
theorem a5T {n:Int}{ts:List Tie}{d:D}(h:rowB 2 d=false):sharB n ts d=false:=by
 match d,h with
 | .tup [P,S],h=>cases h
 | .tup [],_=>rfl
 | .tup [_],_=>rfl
 | .tup (_ :: _ :: _ :: _),_=>rfl
 | .non,_=>rfl
 | .bl _,_=>rfl
 | .int _,_=>rfl
 | .str _,_=>rfl
 | .lst _,_=>rfl
 | .dT _ _,_=>rfl
 | .dK _ _,_=>rfl
 | .exn _,_=>rfl
abbrev a1j:Stmt:=top 49
theorem a2E:FnScope ["web","thing","pairing","shares","gains_v","party","had","person"] ["web","thing"] (defScope a1j):=by walk_at "c"
def a3e (g:LO):Prop:=∀(n:Int) (ts:List Tie) (d:D),WebOk n ts->TH d->g [webD n ts,d]=some (.v (.bl (sharB n ts d)))
theorem a5L {n9:LO}{G6:LO}{G4:LO}{O3:LO}(m9:Fn P w K mg base "_law_gains" k n9)(n6:J7 n9)(J3:Fn P w K mg base "_law_is_pairing" k G6)(J1:Q3 G6)(C1:Fn P w K mg base "_law_plus" k G4)(D1:Z7 G4)(N9:Fn P w K mg base "_law_is_ratio" k O3)(O4:Y1 O3)(m_all:mg "all"=none)(c9:mg "isinstance"=none)(j4:mg "tuple"=none)(m_len:mg "len"=none)(F:Fun K "_law_due" "_law_due" a1j f fd)(B:Binds K fd ["web","thing"] [])(hm:mg "_law_due"=some (.ref f)):∃g,Fn P w K mg base "_law_due" (k + 1) g/\a3e g:=by
 have nd:=a2E.nd
 refine ⟨_,u7 F a2E B hm rfl rfl (fun cdv A outer s H E hr=>(b8 (o9 (Y0 (Q7 (A5 (z5 (K5 (T:="tuple") (K9 (by decide)) c9 j4 (a7 1)))) (Q7 (a2V hr (qx_b k6 G0 m_len (a8 (a7 1) a9)) b0) (V8 (A5 (z5 (j6 J3 hr (a8 (a7 0) (a8 (c8 hr (a7 1) b0) a9))))))))) (b9 (g8 J4)) j7)
  (b8 (F9 (a7 1) (R5 rfl (l7 (g9 2 nd) (l7 (g9 3 nd) M4))))
  (b8 (o9 (Y0 (Q7 (A5 (z5 (K5 (T:="tuple") (K9 (by decide)) c9 j4 (a7 3)))) (V8 (a2V hr (qx_b k6 G0 m_len (a8 (a7 3) a9)) (c8 hr (a7 0) b0))))) (b9 (g8 J4)) j7)
  (b8 (o9 (A5 (z5 (qx_b (G3 rfl) M5 m_all (a8 (F2 (N:=["share"]) (js:=[none]) (li:=none) rfl (B4 (by exact (.own .nil)) rfl (by exact trivial) (by rfl)) (B5 3) (fun _ _ _ _=>(g9 0 (show ((["share"]:List Str) ++ [accN]).Nodup by decide +kernel))) (fun _ _ _ _=>A3) (fun _ _ _ _=>(K1 (j6 N9 hr (a8 (a7 0) a9)) (L7 (qx_ge (c8 hr (a7 0) b0) b0))))) a9)))) (b9 (g8 J4)) j7)
  (b8 (j0 4 nd (j6 m9 hr (a8 (a7 0) a9)))
  (b8 (F6 PySem.PassesOwn.never rfl (O1 (a7 2)) (g9 5 nd) (b8 (j0 6 nd (m4 (a8 b0 (a8 b0 a9))))
  (b8 (F6 PySem.PassesOwn.never rfl (O1 (a7 5)) (g9 7 nd) (b9 (j0 6 nd (j6 C1 hr (a8 (a7 6) (a8 (c8 hr (a7 3) (a7 7)) a9))))))
  (b9 (o9 (a2V hr (a7 6) (m4 (a8 (c8 hr (a7 4) (a7 5)) (a8 b0 a9)))) (b9 (g8 J4)) j7)))))
  (b9 (g8 J4))))))))),?_⟩
 intro n ts d hw hd
 have hn:=hw.n1
 have it:=N8 hd.1
 cases hT:isT d with
 | false=>
  rw [hT] at it
  rw [a5T (a7M hT)]
  repeat (first | walk_at "z r" | simp only [it])
 | true=>
  rw [hT] at it
  obtain ⟨xs,rfl⟩:=a98 hT
  cases hlT:(((xs.length:Nat):Int) == 2) with
  | false=>
   rw [a5T (show rowB 2 (.tup xs)=false from hlT)]
   repeat (first | walk_at "z r" | simp only [it,hlT])
  | true=>
   obtain ⟨P,S,exy⟩:=a48 (show rowB 2 (.tup xs)=true from hlT)
   cases exy
   have hP:=hd.2 _ rfl P (by simp)
   have hS:=hd.2 _ rfl S (by simp)
   have e2:=J1 n ts P hw hP.pds
   have z22:(((2:Nat):Int) == 2)=true:=rfl
   have it2:=N8 hS.1
   rw [show sharB n ts (.tup [P,S])=(pairB n ts P && (shsB n S && zerB ts P S)) from rfl]
   cases hb:pairB n ts P with
   | false=>
    rw [hb] at e2
    repeat (first | walk_at "z r" | simp only [it,z22,e2])
   | true=>
    rw [hb] at e2
    obtain ⟨ks,rfl,hk⟩:=a7t hb
    cases S with
    | tup ys=>
     obtain ⟨hy,hyl⟩:=hS.2 _ rfl
     rw [show shsB n (.tup ys)=((((ys.length:Nat):Int) == n) && ys.all okS) from rfl]
     have eg:=n6 n ts hw
     have lg:=a1y n ts
     rw [show webD n ts= .tup [.int n,.tup (ts.map tieD)] from rfl] at e2 eg ⊢
     cases hl:(((ys.length:Nat):Int) == n) with
     | false=>repeat (first | walk_at "z r" | simp only [it,it2,isT,z22,e2,hl])
     | true=>
      repeat (first | walk_at "z r" | simp only [it,it2,isT,z22,e2,hl])
      rw [t5 (ρ1:=[some (.v (.tup [.int n,.tup (ts.map tieD)])),some (.v (.tup [.tup (ks.map tupI),.tup ys])),some (.v (.tup (ks.map tupI))),some (.v (.tup ys)),none,none,none,none]) (xs:=ys) (fun B=>∃o1:Option D,B=[o1.map .v]) (fun _=>true) (fun y=>.bl (okS y))]
      ·rw [o0]
       have gb:=a0t (r:=fun bs=>bs.all id) (z9 okS ys)
       rw [D4] at gb
       cases ho:ys.all okS with
       | false=>
        rw [ho] at gb
        repeat (first | walk_at "z r" | simp only [gb])
       | true=>
        rw [ho] at gb
        obtain ⟨qs,hqs,hl2,hq0,hqz⟩:=a9z (n:=n) (S:=.tup ys) (by show ((((ys.length:Nat):Int) == n) && ys.all okS)=true;rw [hl,ho];rfl) hS
        cases hqs
        have hsh:=a4j (ts:=ts) hn.1 hl2 hqz
        rw [a4E]
        have lka:∀k∈parK n ts,oIxG (.dT (oneK n.toNat ++ ts.map tkK) (List.replicate n.toNat (D.int 0) ++ ts.map fun t=>D.int t.2.2)) (tupI k)=some (.v (.int (gainOf ts k))):=fun k hk=>a9k (a2O k) (a5v hk)
        repeat (first | walk_at "z r" | simp only [gb,eg,lg])
        generalize oneK n.toNat ++ ts.map tkK=K at lka ⊢
        generalize (List.replicate n.toNat (D.int 0) ++ ts.map fun t=>D.int t.2.2)=V at lka ⊢
        have ea:(ks.map tupI).all (onT fun k=>decide (slackR ts qs k=0))=ks.all fun k=>decide (slackR ts qs k=0):=by rw [List.all_map];congr 1;funext k;exact a0D _ k
        generalize el:loopF _ _ _=r
        refine a0Q el (fun ρ=>∃o5 o6 o7:Option D,ρ=[some (.v (.tup [.int n,.tup (ts.map tieD)])),some (.v (.tup [.tup (ks.map tupI),.tup (qs.map ratD)])),some (.v (.tup (ks.map tupI))),some (.v (.tup (qs.map ratD))),some (.o (.dT K V)),o5.map .v,o6.map .v,o7.map .v]) (onT fun k=>decide (slackR ts qs k=0)) (.v (.bl false)) ⟨none,none,none,rfl⟩ ?_ ?_ ?_
        ·rintro x hx _ ⟨o5,o6,o7,rfl⟩
         obtain ⟨k,hkk,rfl⟩:=B6 hx
         obtain ⟨hkp,h1,h2⟩:=A9 hw (hk k hkk)
         have lk:=lka k (hk k hkk)
         have zs:=a43 ts qs k
         have n0:D.tup [D.int 0,D.int 1]=ratD 0:=rfl
         rw [a0D]
         rw [show tupI k= .tup (k.map .int) from rfl] at lk ⊢
         repeat (first | walk_at "z r" | simp only [n0])
         generalize el2:loopF _ _ _=r2
         refine M3 el2 (fun i ρ=>∃(o:Option D),ρ=[some (.v (.tup [.int n,.tup (ts.map tieD)])),some (.v (.tup [.tup (ks.map tupI),.tup (qs.map ratD)])),some (.v (.tup (ks.map tupI))),some (.v (.tup (qs.map ratD))),some (.o (.dT K V)),some (.v (.tup (k.map .int))),some (.v (ratD (sumR ((k.take i).map fun i=>qs.getD i.toNat 0) 0))),o.map .v]/\Sz (50 + 1502 * i) (sumR ((k.take i).map fun i=>qs.getD i.toNat 0) 0)/\i<=2) ⟨o7,by simp [sumR],sz_0.mono (by decide),by decide⟩ ?_ ?_
         ·rintro i x _ hx ⟨o,rfl,hz,hi⟩
          rw [List.getElem?_map] at hx
          cases hk2:k[i]? with
          | none=>rw [hk2] at hx;cases hx
          | some p=>
           rw [hk2] at hx;cases hx
           have hpp:=hkp p (List.mem_of_getElem? hk2)
           have lt:=(List.getElem?_eq_some_iff.mp hk2).1
           have et:(k.take (i + 1)).map (fun i=>qs.getD i.toNat 0)=(k.take i).map (fun i=>qs.getD i.toNat 0) ++ [qs.getD p.toNat 0]:=by rw [List.take_add_one,hk2,List.map_append];rfl
           have sp:=hsh.get hpp.1 hpp.2
           have ha:=a16 (ss:=qs) (i:=p) hpp.1 (by walk_at "o")
           have ep:=D1 _ _ _ _ hz sp (by walk_at "o")
           refine ⟨_,?_,some (.int p),rfl,?_,by walk_at "o"⟩
           ·rw [et,T7]
            repeat (first | walk_at "z r" | simp only [ha,ep,P4])
           ·rw [et,T7]
            exact (a1h hz sp).mono (by walk_at "o")
         ·rintro _ rfl ⟨o,rfl,_⟩
          rw [List.length_map,List.take_length]
          generalize hG:gainOf ts k=G at lk zs
          have n1:D.tup [D.int G,D.int 1]=ratD ((G:Int):Rat):=rfl
          have dq:=a59 (m:=19) (sumR (k.map fun i=>qs.getD i.toNat 0) 0) ((G:Int):Rat)
          rw [zs] at dq
          generalize sumR (k.map fun i=>qs.getD i.toNat 0) 0=sm at dq ⊢
          cases hz:decide (slackR ts qs k=0) with
          | true=>
           rw [hz] at dq
           refine ⟨fun _=>⟨_,?_,some (.tup (k.map .int)),some (ratD sm),o,rfl⟩,fun h=>(by cases h)⟩
           repeat (first | walk_at "z r" | simp only [lk,n1,dq])
          | false=>
           rw [hz] at dq
           refine ⟨fun h=>(by cases h),fun _=>⟨[some (.v (.tup [.int n,.tup (ts.map tieD)])),some (.v (.tup [.tup (ks.map tupI),.tup (qs.map ratD)])),some (.v (.tup (ks.map tupI))),some (.v (.tup (qs.map ratD))),some (.o (.dT K V)),some (.v (.tup (k.map .int))),some (.v (ratD sm)),o.map .v],?_⟩⟩
           repeat (first | walk_at "z r" | simp only [lk,n1,dq])
        ·rintro hall _ rfl ⟨o5,o6,o7,rfl⟩
         rw [ea] at hall
         rw [hall]
         repeat (first | walk_at "z r")
        ·rintro hall _ rfl
         rw [ea] at hall
         rw [hall]
         repeat (first | walk_at "z r")
      ·repeat (walk_at "z r")
      ·rintro _ ⟨_,rfl⟩;rfl
      ·exact ⟨none,rfl⟩
      ·unfold lim;walk_at "o"
      ·exact a0q _ _
      ·rintro x hx' _ zs ⟨o1,rfl⟩
       have hrd:=hy x hx'
       have e3:=O4 x hrd
       refine ⟨[some (.v x)],.v (.bl (okS x)),⟨some _,rfl⟩,?_,rfl,fun _=>⟨?_,.inl rfl⟩⟩
       ·repeat (walk_at "z r")
       ·cases eo:ratO x with
        | none=>
         rw [eo] at e3
         rw [a9f eo]
         repeat (first | walk_at "z r" | simp only [e3,Option.isSome_none])
        | some q=>
         have ex:=a1D eo
         subst ex
         rw [eo] at e3
         rw [a7C]
         rw [show ratD q= .tup [.int q.num,.int q.den] from rfl] at e3 ⊢
         repeat (first | walk_at "z r" | simp only [e3,Option.isSome_some])
    | exn C=>exact absurd hS.1 (by simp [isX])
    | _=>repeat (first | walk_at "z r" | simp only [it,it2,isT,z22,e2,shsB])
theorem a8S {xs:List D}(i:Nat):cutD xs none (some (i:Int))=xs.take i:=by
 unfold cutD
 rw [HT.sIx_nat,HT.sIx_none,List.drop_zero,Nat.sub_zero]
 by_cases h:i<=xs.length
 ·rw [Nat.min_eq_left h]
 ·rw [Nat.min_eq_right (by walk_at "o"),List.take_length,List.take_of_length_le (by walk_at "o")]
theorem a3M {xs:List D}(i:Nat):cutD xs (some (i:Int)) none=xs.drop i:=by
 unfold cutD
 rw [HT.sIx_nat,HT.sIx_none]
 by_cases h:i<=xs.length
 ·rw [Nat.min_eq_left h]
  exact List.take_of_length_le (by rw [List.length_drop];walk_at "o")
 ·rw [Nat.min_eq_right (by walk_at "o"),Nat.sub_self,List.take_zero,List.drop_of_length_le (by walk_at "o")]
def EL (z:D):Prop:=(∃k:List Int,z=tupI k/\k.length<=4/\∀i∈k,0<=i/\i < 8)\/∃bs:List Bool,z= .tup (bs.map .bl)/\bs.length<=2
theorem EL.rd {z:D}(h:EL z):RD z:=by
 rcases h with ⟨k,rfl,hl,hk⟩ | ⟨bs,rfl,hl⟩
 ·refine ⟨PD.ints (by walk_at "o"),fun a b e=>?_⟩
  have e:D.tup (k.map .int)= .tup [.int a,.int b]:=e
  injection e with e
  have ha:a∈k:=by
   have:D.int a∈k.map D.int:=by rw [e];simp
   obtain ⟨i,hi,z⟩:=J0 this
   cases z;exact hi
  have hb:b∈k:=by
   have:D.int b∈k.map D.int:=by rw [e];simp
   obtain ⟨i,hi,z⟩:=J0 this
   cases z;exact hi
  have h1:=hk a ha
  have h2:=hk b hb
  exact ⟨Nat.lt_of_lt_of_le (show a.natAbs < 2 ^ 3 by walk_at "o") (Nat.pow_le_pow_right (by decide) (by decide)),Nat.lt_of_lt_of_le (show b.natAbs < 2 ^ 3 by walk_at "o") (Nat.pow_le_pow_right (by decide) (by decide))⟩
 ·refine ⟨⟨rfl,fun xs e=>?_⟩,fun a b e=>?_⟩
  ·cases e
   exact ⟨fun y hy=>by obtain ⟨b,_,rfl⟩:=List.mem_map.mp hy;rfl,by rw [List.length_map];walk_at "o"⟩
  ·injection e with e
   have:D.int a∈bs.map D.bl:=by rw [e];simp
   obtain ⟨b,_,z⟩:=List.mem_map.mp this
   cases z
theorem sh_i {k:Nat}{i:Int}(h:i.natAbs < 2 ^ 1100):Sh k 1910 (.int i):=shI (Nat.lt_of_lt_of_le h (Nat.pow_le_pow_right (by decide) (by decide)))
theorem b0n {k:Nat}{i:Int}(h0:0<=i)(h1:i < 8):Sh k 1910 (.int i):=sh_i (Nat.lt_of_lt_of_le (show i.natAbs < 2 ^ 3 by walk_at "o") (Nat.pow_le_pow_right (by decide) (by decide)))
theorem EL.sh {z:D}(h:EL z):Sh 1 10000 z:=by
 rcases h with ⟨k,rfl,hl,hk⟩ | ⟨bs,rfl,hl⟩
 ·refine shT (m:=1910) (fun x hx=>?_) (by rw [List.length_map];walk_at "o")
  obtain ⟨i,hi,rfl⟩:=J0 hx
  exact b0n (hk i hi).1 (hk i hi).2
 ·refine shT (m:=5) (fun x hx=>?_) (by rw [List.length_map];walk_at "o")
  obtain ⟨b,_,rfl⟩:=List.mem_map.mp hx
  unfold Sh;exact Nat.le_refl _
def RS (P:D):Prop:=RDs P/\Sh 2 400000 P
theorem Q0 {xs:List D}(h:∀x∈xs,RD x/\Sh 1 10000 x)(hl:xs.length<=20):RS (.tup xs):=⟨⟨rfl,fun ys e=>by cases e;exact ⟨fun y hy=>(h y hy).1,hl⟩⟩,shT (m:=10000) (fun x hx=>(h x hx).2) (by walk_at "o")⟩
theorem a24 {xs:List D}(h:∀x∈xs,RD x/\Sh 1 10000 x)(hl:xs.length<=20):RS (.lst xs):=⟨⟨rfl,fun ys e=>by cases e⟩,shL (m:=10000) (fun x hx=>(h x hx).2) (by walk_at "o")⟩
theorem a6Z {k:List Int}(hl:k.length<=4)(h:∀i∈k,0<=i/\i < 8):RD (tupI k)/\Sh 1 10000 (tupI k):=⟨EL.rd (.inl ⟨k,rfl,hl,h⟩),EL.sh (.inl ⟨k,rfl,hl,h⟩)⟩
theorem el_bl {bs:List Bool}(hl:bs.length<=2):RD (.tup (bs.map .bl))/\Sh 1 10000 (.tup (bs.map .bl)):=⟨EL.rd (.inr ⟨bs,rfl,hl⟩),EL.sh (.inr ⟨bs,rfl,hl⟩)⟩
theorem a45 {ks:List (List Int)}{i:Int}(h:0<=i)(l:i < ks.length):atI (ks.map tupI) i=some (tupI (ks.getD i.toNat [])):=by
 refine a6U h ?_
 rw [List.getElem?_map,List.getD_eq_getElem?_getD,List.getElem?_eq_getElem (by walk_at "o")]
 rfl
theorem a1r {ks:List (List Int)}{i:Int}(h:0<=i)(l:i < ks.length):ks.getD i.toNat []∈ks:=by
 rw [List.getD_eq_getElem?_getD,List.getElem?_eq_getElem (by walk_at "o")]
 exact List.getElem_mem _
theorem PairOk.pos {n:Int}{ts:List Tie}{ps:List (List Int)}(h:PairOk n ts ps)(hw:WebOk n ts):1<=ps.length:=by
 cases ps with
 | nil=>
  have:=h.prm.length_eq
  rw [b2B,List.flatten_nil,List.length_nil] at this
  have:=hw.n1
  walk_at "o"
 | cons p ps=>rw [List.length_cons];walk_at "o"
theorem a81 (k:List Int):((k.map D.int).filter fun _=>true).map one1=(k.map fun i=>[i]).map tupI:=by
 rw [o0,List.map_map,List.map_map];rfl
def isOne:D->D
 | .int i=>.bl (i == 1)
 | d=>d
theorem a8R (k:List Int):((k.map D.int).filter fun _=>true).map isOne=(k.map fun i=>i == 1).map .bl:=by
 rw [o0,List.map_map,List.map_map];rfl
abbrev D3:Stmt:=top 50
theorem K4:FnScope ["pot","pairing","made","at","turn","alone","both"] ["pot","pairing"] (defScope D3):=by walk_at "c"
def N4 (g:LL):Prop:=∀(b:Nat) (d:D) (n:Int) (ts:List Tie) (ps:List (List Int)),Pot b d->b<=1000000000000->WebOk n ts->PairOk n ts ps->∃(w:W) (P:D) (d':D),Pot (b + 2) d'/\(w= .v P\/w= .o P)/\RS P/\g d [.tup (ps.map tupI)]=some (w,d')
theorem Y2 {g5:LL}(c6:FnL P w K mg base "_law_take" k g5)(c5:r6 g5)(E5:mg "list"=none)(j4:mg "tuple"=none)(m_len:mg "len"=none)(p6:mg "sorted"=none)(F:Fun K "_law_other_pairing" "_law_other_pairing" D3 f fd)(B:Binds K fd ["pot","pairing"] [])(hm:mg "_law_other_pairing"=some (.ref f)):∃g,FnL P w K mg base "_law_other_pairing" (k + 1) g/\N4 g:=by
 have nd:=K4.nd
 refine ⟨_,L1 F K4 B hm rfl rfl (fun cdv A outer s H E hr=>(b8 (j0 2 nd (a1t rfl E5 (a8 (a7 1) a9)))
  (b8 (j0 3 nd (j5 c6 hr (a8 (a7 0) (a8 (qx_b k6 G0 m_len (a8 (a7 2) a9)) a9))))
  (b8 (j0 4 nd (j5 c6 hr (a8 (a7 0) (a8 b0 a9))))
  (b8 (o9 (M9 hr (a7 4) b0) (b9 (Q6 (a51 (a7 2) (a8 (a7 3) a9)))) j7)
  (b8 (o9 (M9 hr (a7 4) b0) (b9 (Q6 (a1X (a7 2) (a8 (c8 hr (a7 2) (a7 3)) a9)))) j7)
  (b8 (o9 (M9 hr (a7 4) b0) (b9 (Q6 (a6I (a7 2)))) j7)
  (b8 (o9 (M9 hr (a7 4) b0) (b8 (a2K 5 nd (a1V (N:=["person"]) (js:=[none]) (li:=none) rfl (B4 (by exact (.own .nil)) rfl (by exact trivial) (by rfl)) (a2p (O1 (c8 hr (a7 2) (a7 3)))) (fun _ _ _ _=>(g9 0 (show ((["person"]:List Str) ++ [accN]).Nodup by decide +kernel))) (fun _ _ _ _=>A3) (fun _ _ _ _=>(m4 (a8 (a7 0) a9)))))
  (b9 (j0 2 nd (P9 hr rfl p6 (a8 (m6 (m6 (T8 (a7 2) a0x (a0C (a7 3))) (a7 5)) (T8 (a7 2) (a0C (m6 (a7 3) b0)) a0x)) a9))))) j7)
  (b8 (o9 (M9 hr (a7 4) b0) (b8 (j0 6 nd (m6 (c8 hr (a7 2) (a7 3)) (c8 hr (a7 2) (O5 (m6 (a7 3) b0) (qx_b k6 G0 m_len (a8 (a7 2) a9))))))
  (b9 (j0 2 nd (P9 hr rfl p6 (a8 (m6 (m6 (T8 (a7 2) a0x (a0C (a7 3))) (T8 (a7 2) (a0C (m6 (a7 3) b0)) a0x)) (w5 (a8 (qx_t t8 N6 j4 (a8 (P9 hr rfl p6 (a8 (a7 6) a9)) a9)) a9))) a9))))) j7)
  (b8 (o9 (M9 hr (a7 4) b0) (b9 (g8 (a7 2))) j7)
  (b8 (o9 (M9 hr (a7 4) b0) (b9 (F9 (qx_t t8 N6 j4 (a8 (F2 (N:=["person"]) (js:=[none]) (li:=none) rfl (B4 (by exact (.own .nil)) rfl (by exact trivial) (by rfl)) (a2p (O1 (c8 hr (a7 2) (a7 3)))) (fun _ _ _ _=>(g9 0 (show ((["person"]:List Str) ++ [accN]).Nodup by decide +kernel))) (fun _ _ _ _=>A3) (fun _ _ _ _=>(T6 hr (a7 0) b0))) a9)) (W1 (a7 2) (a7 3)))) j7)
  (b9 (g8 (qx_t t8 N6 j4 (a8 (a7 2) a9))))))))))))))),?_⟩
 intro b d n ts ps hp hb hw hpo
 have hn:=hw.n1
 have hl1:=hpo.pos hw
 have hl8:=hpo.len
 have lt:=D6 ps
 obtain ⟨i,d1,h1,p1,e1⟩:=c5 b d ((ps.length:Nat):Int) hp (by walk_at "o") (p9 (by walk_at "o") (by walk_at "o"))
 obtain ⟨t,d2,h2,p2,e2⟩:=c5 _ d1 7 p1 (by walk_at "o") (p9 (by decide) (by decide))
 have l1:=p1.lf
 have l2:=p2.lf
 have at1:=a45 (ks:=ps) (i:=i) h1.1 h1.2
 have hkm:=hpo.mem _ (a1r (ks:=ps) (i:=i) h1.1 h1.2)
 have hkI:=a1r (ks:=ps) (i:=i) h1.1 h1.2
 obtain ⟨m,rfl⟩:=Int.eq_ofNat_of_zero_le h1.1
 rw [Int.toNat_natCast] at at1 hkm hkI
 have hm:m < ps.length:=by walk_at "o"
 have hge:ps[m]? =some (ps.getD m []):=by rw [List.getD_eq_getElem?_getD,List.getElem?_eq_getElem hm];rfl
 generalize ps.getD m []=k at at1 hkm hkI hge
 have ppl:∀p∈ps,p.length<=2/\∀j∈p,0<=j/\j < 8:=fun p hpp=>by
  obtain ⟨a1,a2,a3⟩:=A9 hw (hpo.mem p hpp)
  exact ⟨a3,fun j hj=>by have:=a1 j hj;walk_at "o"⟩
 have kne:k≠[]:=fun e=>by have:=(A9 hw hkm).2.1;rw [e] at this;simp at this
 have elp:∀p∈ps,RD (tupI p)/\Sh 1 10000 (tupI p):=fun p hpp=>a6Z (by have:=(ppl p hpp).1;walk_at "o") (ppl p hpp).2
 have elx:∀x∈ps.map tupI,RD x/\Sh 1 10000 x:=fun x hx=>by obtain ⟨p,hpp,rfl⟩:=B6 hx;exact elp p hpp
 have kp:=ppl k hkI
 have eq1:((m:Nat):Int) + 1=((m + 1:Nat):Int):=by walk_at "o"
 have eq2:((m:Nat):Int) + 2=((m + 2:Nat):Int):=by walk_at "o"
 have c1:cutD (ps.map tupI) none (some (m:Int))=(ps.take m).map tupI:=by rw [List.map_take];exact a8S m
 have c2:cutD (ps.map tupI) (some ((m:Int) + 1)) none=(ps.drop (m + 1)).map tupI:=by rw [List.map_drop,eq1];exact a3M (m + 1)
 have c3:cutD (ps.map tupI) (some ((m:Int) + 2)) none=(ps.drop (m + 2)).map tupI:=by rw [List.map_drop,eq2];exact a3M (m + 2)
 have lc1:(ps.take m).length<=8:=by rw [List.length_take];walk_at "o"
 have lc2:(ps.drop (m + 1)).length<=8:=by rw [List.length_drop];walk_at "o"
 have lc3:(ps.drop (m + 2)).length<=8:=by rw [List.length_drop];walk_at "o"
 have sorted:∀X:List (List Int),(∀p∈X,p≠[])->X.length<=20->gSortU (.lst (X.map tupI))=some (.o (.lst ((sortK X).map tupI))):=fun X hx hl=>by rw [a9h];exact a0o (by walk_at "o") hx
 have nep:∀p∈ps,p≠[]:=fun p hpp e=>by have:=(A9 hw (hpo.mem p hpp)).2.1;rw [e] at this;simp at this
 have rsK:∀X:List (List Int),(∀p∈X,p.length<=4/\∀j∈p,0<=j/\j < 8)->X.length<=20->RS (.tup ((sortK X).map tupI)):=fun X hx hl=>Q0 (fun x hx'=>by
  obtain ⟨p,hpp,rfl⟩:=B6 hx'
  have:=hx p ((G1 X).mem_iff.mp hpp)
  exact a6Z this.1 this.2) (by rw [List.length_map,(G1 X).length_eq];exact hl)
 have hc:t=0\/t=1\/t=2\/t=3\/t=4\/t=5\/t=6:=by walk_at "o"
 repeat (first | walk_at "z r" | simp only [lt,e1,l1,e2,l2,List.length_map])
 rcases hc with rfl | rfl | rfl | rfl | rfl | rfl | rfl
 ·refine ⟨.v (.tup ((ps.map tupI).eraseIdx m)),_,d2,p2,.inl rfl,Q0 (fun x hx=>elx x (List.mem_of_mem_eraseIdx hx)) (by have:=List.length_eraseIdx_le (ps.map tupI) m;rw [List.length_map] at this;walk_at "o"),?_⟩
  have mp:mPopAt (ps.map tupI) [.int (m:Int)]=some (.v (tupI k),(ps.map tupI).eraseIdx m):=by
   have hc:0<=(m:Int)/\(m:Int) < 2 ^ 62:=by walk_at "o"
   simp only [mPopAt,hc,and_self,if_true,Int.toNat_natCast,List.getElem?_map,hge,Option.map_some]
  have le:lfL ((ps.map tupI).eraseIdx m)=true:=F1 fun x hx=>by obtain ⟨p,_,rfl⟩:=B6 (List.mem_of_mem_eraseIdx hx);exact a2Q p
  repeat (first | walk_at "z r" | simp only [at1,mp,le,Int.reduceBEq,List.length_map])
 ·have la:ps.length < 1000000:=by walk_at "o"
  refine ⟨.v (.tup (ps.map tupI ++ [tupI k])),_,d2,p2,.inl rfl,Q0 (fun x hx=>by
   rcases List.mem_append.mp hx with z | z
   ·exact elx x z
   ·rw [List.mem_singleton.mp z];exact elp k hkI) (by rw [List.length_append,List.length_map,List.length_singleton];walk_at "o"),?_⟩
  repeat (first | walk_at "z r" | simp only [at1,la,Int.reduceBEq,List.length_map])
 ·refine ⟨.v (.tup (ps.map tupI).reverse),_,d2,p2,.inl rfl,Q0 (fun x hx=>elx x (List.mem_reverse.mp hx)) (by rw [List.length_reverse,List.length_map];walk_at "o"),?_⟩
  repeat (first | walk_at "z r" | simp only [r_rev,Int.reduceBEq,List.length_map])
 ·have fo:=a81 k
  have X3:=sorted (ps.take m ++ (k.map fun i=>[i]) ++ ps.drop (m + 1)) (fun p hpp=>by
   rcases List.mem_append.mp hpp with z | z
   ·rcases List.mem_append.mp z with z | z
    ·exact nep p (List.mem_of_mem_take z)
    ·obtain ⟨j,_,rfl⟩:=List.mem_map.mp z;simp
   ·exact nep p (List.mem_of_mem_drop z)) (by rw [List.length_append,List.length_append,List.length_map];walk_at "o")
  refine ⟨.v (.tup ((sortK (ps.take m ++ (k.map fun i=>[i]) ++ ps.drop (m + 1))).map tupI)),_,d2,p2,.inl rfl,rsK _ (fun p hpp=>by
   rcases List.mem_append.mp hpp with z | z
   ·rcases List.mem_append.mp z with z | z
    ·have:=ppl p (List.mem_of_mem_take z);exact ⟨by walk_at "o",this.2⟩
    ·obtain ⟨j,hj,rfl⟩:=List.mem_map.mp z
     exact ⟨by simp,fun i hi=>by rw [List.mem_singleton.mp hi];exact kp.2 j hj⟩
   ·have:=ppl p (List.mem_of_mem_drop z);exact ⟨by walk_at "o",this.2⟩) (by rw [List.length_append,List.length_append,List.length_map];walk_at "o"),?_⟩
  rw [List.map_append,List.map_append] at X3
  rw [show tupI k= .tup (k.map .int) from rfl] at at1
  have y1:(ps.take m).length + k.length<=1000000:=by walk_at "o"
  have y2:(ps.take m).length + k.length + (ps.drop (m + 1)).length<=1000000:=by walk_at "o"
  repeat (first | walk_at "z r" | simp only [at1,Int.reduceBEq,List.length_map])
  rw [t5 (ρ1:=[some (.l d2),some (.v (.tup (ps.map tupI))),some (.o (.lst (ps.map tupI))),some (.v (.int m)),some (.v (.int 3)),none,none]) (xs:=k.map .int) (fun B=>∃o1:Option D,B=[o1.map .v]) (fun _=>true) one1]
  ·rw [fo]
   repeat (first | walk_at "z r" | simp only [c1,c2,y1,y2,X3,D6,List.length_map,List.length_append,Int.reduceBEq])
  ·repeat (first | walk_at "z r" | simp only [at1])
  ·rintro _ ⟨_,rfl⟩;rfl
  ·exact ⟨none,rfl⟩
  ·rw [List.length_map];unfold lim;walk_at "o"
  ·rw [fo];exact D6 _
  ·rintro x hx _ zs ⟨o1,rfl⟩
   obtain ⟨y,_,rfl⟩:=J0 hx
   refine ⟨[some (.v (.int y))],.v (.tup [.int y]),⟨some _,rfl⟩,?_,rfl,fun _=>⟨?_,.inl rfl⟩⟩
   ·repeat (walk_at "z r")
   ·repeat (walk_at "z r")
 ·have hm2:0<=(((m:Nat):Int) + 1) % ((ps.length:Nat):Int)/\(((m:Nat):Int) + 1) % ((ps.length:Nat):Int) < ((ps.length:Nat):Int):=⟨Int.emod_nonneg _ (by walk_at "o"),Int.emod_lt_of_pos _ (by walk_at "o")⟩
  have lp:(0:Int) < ((ps.length:Nat):Int):=by walk_at "o"
  have at2:=a45 (ks:=ps) (i:=(((m:Nat):Int) + 1) % ((ps.length:Nat):Int)) hm2.1 hm2.2
  have hk2:=a1r (ks:=ps) (i:=(((m:Nat):Int) + 1) % ((ps.length:Nat):Int)) hm2.1 hm2.2
  generalize ps.getD ((((m:Nat):Int) + 1) % ((ps.length:Nat):Int)).toNat []=k2 at at2 hk2
  have kp2:=ppl k2 hk2
  rw [show tupI k= .tup (k.map .int) from rfl] at at1
  rw [show tupI k2= .tup (k2.map .int) from rfl] at at2
  have si:=b2M (ns:=k ++ k2) (by rw [List.length_append];walk_at "o")
  rw [List.map_append] at si
  have sl:(sortI (k ++ k2)).length<=4:=by rw [(A4 _).length_eq,List.length_append];walk_at "o"
  have sne:sortI (k ++ k2)≠[]:=fun e=>by
   have:=(A4 (k ++ k2)).length_eq
   rw [e,List.length_append,List.length_nil] at this
   exact kne (List.length_eq_zero_iff.mp (by walk_at "o"))
  have X4:=sorted (ps.take m ++ ps.drop (m + 2) ++ [sortI (k ++ k2)]) (fun p hpp=>by
   rcases List.mem_append.mp hpp with z | z
   ·rcases List.mem_append.mp z with z | z
    ·exact nep p (List.mem_of_mem_take z)
    ·exact nep p (List.mem_of_mem_drop z)
   ·rw [List.mem_singleton.mp z];exact sne) (by rw [List.length_append,List.length_append,List.length_singleton];walk_at "o")
  have y1:(ps.take m).length + (ps.drop (m + 2)).length<=1000000:=by walk_at "o"
  have y2:(ps.take m).length + (ps.drop (m + 2)).length + 1<=1000000:=by walk_at "o"
  have y2':(ps.take m).length + (ps.drop (m + 2)).length<=999999:=by walk_at "o"
  have y3:k.map D.int≠[]/\k.length + k2.length<=1000000:=⟨fun e=>kne (List.map_eq_nil_iff.mp e),by walk_at "o"⟩
  have y4:(k.map D.int≠[])=True:=eq_true y3.1
  have y5:=y3.2
  refine ⟨.v (.tup ((sortK (ps.take m ++ ps.drop (m + 2) ++ [sortI (k ++ k2)])).map tupI)),_,d2,p2,.inl rfl,rsK _ (fun p hpp=>by
   rcases List.mem_append.mp hpp with z | z
   ·rcases List.mem_append.mp z with z | z
    ·have:=ppl p (List.mem_of_mem_take z);exact ⟨by walk_at "o",this.2⟩
    ·have:=ppl p (List.mem_of_mem_drop z);exact ⟨by walk_at "o",this.2⟩
   ·rw [List.mem_singleton.mp z]
    exact ⟨sl,fun i hi=>(List.mem_append.mp ((A4 _).mem_iff.mp hi)).elim (kp.2 i) (kp2.2 i)⟩) (by rw [List.length_append,List.length_append,List.length_singleton];walk_at "o"),?_⟩
  rw [List.map_append,List.map_append,List.map_singleton,show tupI (sortI (k ++ k2))= .tup ((sortI (k ++ k2)).map .int) from rfl] at X4
  have li:=Q1 (sortI (k ++ k2))
  repeat (first | walk_at "z r" | simp only [at1,lp,at2,y4,y5,si,li,c1,c3,y1,y2,y2',X4,D6,Int.reduceBEq,List.length_map,List.length_append])
 ·refine ⟨.o (.lst (ps.map tupI)),_,d2,p2,.inr rfl,a24 elx (by rw [List.length_map];walk_at "o"),?_⟩
  repeat (first | walk_at "z r" | simp only [Int.reduceBEq,List.length_map])
 ·have fo:=a8R k
  have le:lfL ((k.map fun i=>i == 1).map .bl)=true:=F1 fun x hx=>by obtain ⟨b,_,rfl⟩:=List.mem_map.mp hx;rfl
  have ls:lfL ((ps.map tupI).set m (.tup ((k.map fun i=>i == 1).map .bl)))=true:=F1 fun x hx=>by
   rcases List.mem_or_eq_of_mem_set hx with z | rfl
   ·obtain ⟨p,_,rfl⟩:=B6 z;exact a2Q p
   ·show lfL _=true;exact le
  have ix:ixN ps.length (m:Int)=some m:=by have:=a04 (m:=ps.length) (i:=(m:Int)) (by walk_at "o") (by walk_at "o");rwa [Int.toNat_natCast] at this
  refine ⟨.v (.tup ((ps.map tupI).set m (.tup ((k.map fun i=>i == 1).map .bl)))),_,d2,p2,.inl rfl,Q0 (fun x hx=>by
   rcases List.mem_or_eq_of_mem_set hx with z | rfl
   ·exact elx x z
   ·exact el_bl (by rw [List.length_map];exact kp.1)) (by rw [List.length_set,List.length_map];walk_at "o"),?_⟩
  rw [show tupI k= .tup (k.map .int) from rfl] at at1
  repeat (first | walk_at "z r" | simp only [at1,Int.reduceBEq,List.length_map])
  rw [t5 (ρ1:=[some (.l d2),some (.v (.tup (ps.map tupI))),some (.o (.lst (ps.map tupI))),some (.v (.int m)),some (.v (.int 6)),none,none]) (xs:=k.map .int) (fun B=>∃o1:Option D,B=[o1.map .v]) (fun _=>true) isOne]
  ·rw [fo]
   repeat (first | walk_at "z r" | simp only [le,ix,ls,List.length_map,Int.reduceBEq])
  ·repeat (first | walk_at "z r" | simp only [at1])
  ·rintro _ ⟨_,rfl⟩;rfl
  ·exact ⟨none,rfl⟩
  ·rw [List.length_map];unfold lim;walk_at "o"
  ·rw [fo];exact le
  ·rintro x hx _ zs ⟨o1,rfl⟩
   obtain ⟨y,_,rfl⟩:=J0 hx
   refine ⟨[some (.v (.int y))],.v (.bl (y == 1)),⟨some _,rfl⟩,?_,rfl,fun _=>⟨?_,.inl rfl⟩⟩
   ·repeat (walk_at "z r")
   ·repeat (walk_at "z r")
theorem a4u {xs:List D}(h:∀y∈xs,isX y=false)(hl:xs.length<=1000):PD (.tup xs):=⟨rfl,fun ys e=>by cases e;exact ⟨h,hl⟩⟩
theorem a4g {a b:Int}(ha:a.natAbs < 2 ^ 900)(hb:b.natAbs < 2 ^ 900):RD (.tup [.int a,.int b])/\Sh 1 10000 (.tup [.int a,.int b]):=by
 have ha':=Nat.lt_of_lt_of_le ha (Nat.pow_le_pow_right (n:=2) (by decide) (show 900<=1000 by decide))
 have hb':=Nat.lt_of_lt_of_le hb (Nat.pow_le_pow_right (n:=2) (by decide) (show 900<=1000 by decide))
 have ha2:=Nat.lt_of_lt_of_le ha (Nat.pow_le_pow_right (n:=2) (by decide) (show 900<=1100 by decide))
 have hb2:=Nat.lt_of_lt_of_le hb (Nat.pow_le_pow_right (n:=2) (by decide) (show 900<=1100 by decide))
 refine ⟨⟨a4u (fun y hy=>by simp only [List.mem_cons,List.not_mem_nil,or_false] at hy;rcases hy with rfl | rfl <;> rfl) (by simp),fun x y e=>by cases e;exact ⟨ha',hb'⟩⟩,shT (m:=1910) (fun x hx=>?_) (show 2 * (1910 + 2) + 4<=10000 by decide)⟩
 simp only [List.mem_cons,List.not_mem_nil,or_false] at hx
 rcases hx with rfl | rfl
 ·exact sh_i ha2
 ·exact sh_i hb2
theorem sh_b {k:Nat}(b:Bool):Sh k 1910 (.bl b):=by cases k <;> (unfold Sh;decide)
theorem sh_n {k:Nat}:Sh k 10000 .non:=by cases k <;> (unfold Sh;decide)
theorem od_ib {a:Int}{b:Bool}(ha:a.natAbs < 2 ^ 900):RD (.tup [.int a,.bl b])/\Sh 1 10000 (.tup [.int a,.bl b]):=by
 have ha2:=Nat.lt_of_lt_of_le ha (Nat.pow_le_pow_right (n:=2) (by decide) (show 900<=1100 by decide))
 refine ⟨⟨a4u (fun y hy=>by simp only [List.mem_cons,List.not_mem_nil,or_false] at hy;rcases hy with rfl | rfl <;> rfl) (by simp),fun x y e=>by cases e⟩,shT (m:=1910) (fun x hx=>?_) (show 2 * (1910 + 2) + 4<=10000 by decide)⟩
 simp only [List.mem_cons,List.not_mem_nil,or_false] at hx
 rcases hx with rfl | rfl
 ·exact sh_i ha2
 ·exact sh_b b
theorem od_bi {a:Int}{b:Bool}(ha:a.natAbs < 2 ^ 900):RD (.tup [.bl b,.int a])/\Sh 1 10000 (.tup [.bl b,.int a]):=by
 have ha2:=Nat.lt_of_lt_of_le ha (Nat.pow_le_pow_right (n:=2) (by decide) (show 900<=1100 by decide))
 refine ⟨⟨a4u (fun y hy=>by simp only [List.mem_cons,List.not_mem_nil,or_false] at hy;rcases hy with rfl | rfl <;> rfl) (by simp),fun x y e=>by cases e⟩,shT (m:=1910) (fun x hx=>?_) (show 2 * (1910 + 2) + 4<=10000 by decide)⟩
 simp only [List.mem_cons,List.not_mem_nil,or_false] at hx
 rcases hx with rfl | rfl
 ·exact sh_b b
 ·exact sh_i ha2
theorem od_l {a b:Int}(ha:a.natAbs < 2 ^ 900)(hb:b.natAbs < 2 ^ 900):RD (.lst [.int a,.int b])/\Sh 1 10000 (.lst [.int a,.int b]):=by
 have ha2:=Nat.lt_of_lt_of_le ha (Nat.pow_le_pow_right (n:=2) (by decide) (show 900<=1100 by decide))
 have hb2:=Nat.lt_of_lt_of_le hb (Nat.pow_le_pow_right (n:=2) (by decide) (show 900<=1100 by decide))
 refine ⟨⟨⟨rfl,fun ys e=>by cases e⟩,fun x y e=>by cases e⟩,shL (m:=1910) (fun x hx=>?_) (show 2 * (1910 + 2) + 4<=10000 by decide)⟩
 simp only [List.mem_cons,List.not_mem_nil,or_false] at hx
 rcases hx with rfl | rfl
 ·exact sh_i ha2
 ·exact sh_i hb2
theorem od_i {a:Int}(ha:a.natAbs < 2 ^ 900):RD (.int a)/\Sh 1 10000 (.int a):=⟨⟨⟨rfl,fun ys e=>by cases e⟩,fun x y e=>by cases e⟩,a4U 1 (sh_i (Nat.lt_of_lt_of_le ha (Nat.pow_le_pow_right (by decide) (by decide)))) (by decide)⟩
theorem od_n:RD .non/\Sh 1 10000 .non:=⟨⟨⟨rfl,fun ys e=>by cases e⟩,fun x y e=>by cases e⟩,sh_n⟩
theorem od_q {q:Rat}(h:Sz 900 q):RD (ratD q)/\Sh 1 10000 (ratD q):=a4g h.1 (by rw [Int.natAbs_natCast];exact h.2)
theorem oddAt {t:Int}{x0 x1 x2 x3 x4 x5 x6 x7 x8 x9:D}{Q:D->Prop}(h0:0<=t)(h9:t < 10)(q0:Q x0)(q1:Q x1)(q2:Q x2)(q3:Q x3)(q4:Q x4)(q5:Q x5)(q6:Q x6)(q7:Q x7)(q8:Q x8)(q9:Q x9):∃z,atI [x0,x1,x2,x3,x4,x5,x6,x7,x8,x9] t=some z/\Q z:=by
 have hc:t=0\/t=1\/t=2\/t=3\/t=4\/t=5\/t=6\/t=7\/t=8\/t=9:=by walk_at "o"
 rcases hc with rfl | rfl | rfl | rfl | rfl | rfl | rfl | rfl | rfl | rfl
 ·exact ⟨_,a_0,q0⟩
 ·exact ⟨_,a_1,q1⟩
 ·exact ⟨_,a_2,q2⟩
 ·exact ⟨_,a_3,q3⟩
 ·exact ⟨_,a_4,q4⟩
 ·exact ⟨_,a_5,q5⟩
 ·exact ⟨_,a_6,q6⟩
 ·exact ⟨_,a_7,q7⟩
 ·exact ⟨_,a_8,q8⟩
 ·exact ⟨_,a_9,q9⟩
abbrev E3:Stmt:=top 51
theorem N1:FnScope ["pot","shares","made","at","top","bottom","turn","odd"] ["pot","shares"] (defScope E3):=by walk_at "c"
def O7 (g:LL):Prop:=∀(b:Nat) (d:D) (ss:List Rat),Pot b d->b<=1000000000000->1<=ss.length->ss.length<=8->(∀s∈ss,Sz 201 s)->∃(P d':D),Pot (b + 5) d'/\RS P/\g d [.tup (ss.map ratD)]=some (.v P,d')
theorem Y7 {g5:LL}(c6:FnL P w K mg base "_law_take" k g5)(c5:r6 g5)(E5:mg "list"=none)(m_len:mg "len"=none)(m_int:mg "int"=none)(j4:mg "tuple"=none)(F:Fun K "_law_other_shares" "_law_other_shares" E3 f fd)(B:Binds K fd ["pot","shares"] [])(hm:mg "_law_other_shares"=some (.ref f)):∃g,FnL P w K mg base "_law_other_shares" (k + 1) g/\O7 g:=by
 have nd:=N1.nd
 refine ⟨_,L1 F N1 B hm rfl rfl (fun cdv A outer s H E hr=>(b8 (j0 2 nd (a1t rfl E5 (a8 (a7 1) a9)))
  (b8 (j0 3 nd (j5 c6 hr (a8 (a7 0) (a8 (qx_b k6 G0 m_len (a8 (a7 2) a9)) a9))))
  (b8 (F9 (c8 hr (a7 2) (a7 3)) (R5 rfl (l7 (g9 4 nd) (l7 (g9 5 nd) M4))))
  (b8 (j0 6 nd (j5 c6 hr (a8 (a7 0) (a8 b0 a9))))
  (b8 (j0 7 nd (w5 (a8 (m4 (a8 (m6 (a7 4) (a7 5)) (a8 (a7 5) a9))) (a8 (m4 (a8 (a11 (a7 4) (a7 5)) (a8 (a7 5) a9))) (a8 (m4 (a8 (a11 (a6L b0) (a7 4)) (a8 (a7 5) a9))) (a8 (m4 (a8 (t6 b0 (a7 4)) (a8 (t6 b0 (a7 5)) a9))) (a8 (w5 (a8 (a7 4) (a8 (a7 5) a9))) a9)))))))
  (b8 (j0 7 nd (m6 (a7 7) (w5 (a8 (m4 (a8 (a7 4) (a8 J4 a9))) (a8 (m4 (a8 (a7 4) (a8 b0 a9))) (a8 (a7 4) (a8 a9K (a8 (m4 (a8 (T6 hr (a7 4) b0) (a8 (a7 5) a9))) a9))))))))
  (b8 (F9 (c8 hr (a7 7) (a7 6)) (W1 (a7 2) (a7 3)))
  (b8 (o9 (M9 hr (j5 c6 hr (a8 (a7 0) (a8 b0 a9))) b0) (b9 (j0 2 nd (m6 (a7 2) (w5 (a8 (m4 (a8 b0 (a8 b0 a9))) a9))))) j7)
  (b8 (o9 (M9 hr (j5 c6 hr (a8 (a7 0) (a8 b0 a9))) b0) (b9 (Q6 (a51 (a7 2) (a8 (a7 3) a9)))) j7)
  (b9 (g8 (c8 hr (w5 (a8 (qx_t t8 N6 j4 (a8 (a7 2) a9)) (a8 (a7 2) a9))) (qx_t a72 b4d m_int (a8 (T6 hr (j5 c6 hr (a8 (a7 0) (a8 b0 a9))) b0) a9))))))))))))))),?_⟩
 intro b d ss hp hb hl1 hl8 hz
 have lr:=O8 ss
 obtain ⟨i,d1,h1,p1,e1⟩:=c5 b d ((ss.length:Nat):Int) hp (by walk_at "o") (p9 (by walk_at "o") (by walk_at "o"))
 obtain ⟨t,d2,h2,p2,e2⟩:=c5 _ d1 10 p1 (by walk_at "o") (p9 (by decide) (by decide))
 obtain ⟨j1,d3,h3,p3,e3⟩:=c5 _ d2 6 p2 (by walk_at "o") (p9 (by decide) (by decide))
 obtain ⟨j2,d4,h4,p4,e4⟩:=c5 _ d3 6 p3 (by walk_at "o") (p9 (by decide) (by decide))
 obtain ⟨j3,d5,h5,p5,e5⟩:=c5 _ d4 9 p4 (by walk_at "o") (p9 (by decide) (by decide))
 have l1:=p1.lf
 have l2:=p2.lf
 have l3:=p3.lf
 have l4:=p4.lf
 have l5:=p5.lf
 obtain ⟨m,rfl⟩:=Int.eq_ofNat_of_zero_le h1.1
 have hm:m < ss.length:=by walk_at "o"
 have at1:=a16 (ss:=ss) (i:=(m:Int)) (by walk_at "o") (by walk_at "o")
 rw [Int.toNat_natCast] at at1
 have hq:Sz 201 (ss.getD m 0):=by rw [List.getD_eq_getElem?_getD,List.getElem?_eq_getElem hm];exact hz _ (List.getElem_mem _)
 generalize ss.getD m 0=q at at1 hq
 rw [show ratD q= .tup [.int q.num,.int q.den] from rfl] at at1
 have n1:=hq.1
 have n2:=hq.2
 have nd:((q.den:Nat):Int).natAbs < 2 ^ 201:=by rw [Int.natAbs_natCast];exact n2
 generalize q.num=A at at1 n1
 generalize ((q.den:Nat):Int)=B at at1 nd
 have n3:(2:Nat) ^ 201 + 2 ^ 201 + 2<=2 ^ 900:=by decide
 have z2:2 * (2:Nat) ^ 201<=2 ^ 900:=by decide
 obtain ⟨z,ez,hzz⟩:=oddAt (t:=t) (Q:=fun z=>RD z/\Sh 1 10000 z) h2.1 h2.2 (a4g (a:=A + B) (b:=B) (by walk_at "o") (by walk_at "o")) (a4g (a:=A - B) (b:=B) (by walk_at "o") (by walk_at "o")) (a4g (a:=-1 - A) (b:=B) (by walk_at "o") (by walk_at "o")) (a4g (a:=2 * A) (b:=2 * B) (by walk_at "o") (by walk_at "o")) (od_l (a:=A) (b:=B) (by walk_at "o") (by walk_at "o")) (od_ib (a:=A) (b:=true) (by walk_at "o")) (a4g (a:=A) (b:=0) (by walk_at "o") (by decide)) (od_i (a:=A) (by walk_at "o")) od_n (od_bi (a:=B) (b:=A == 1) (by walk_at "o"))
 have m2:∀a:Int,mOk 2 a:=fun a=>.inl (by decide)
 have xz:∀x∈(ss.map ratD).set m z,RD x/\Sh 1 10000 x:=fun x hx=>by
  rcases List.mem_or_eq_of_mem_set hx with y | rfl
  ·obtain ⟨s,hs,rfl⟩:=List.mem_map.mp y
   exact od_q ((hz s hs).mono (by decide))
  ·exact hzz
 have xl:((ss.map ratD).set m z).length=ss.length:=by rw [List.length_set,List.length_map]
 have ix:ixN ss.length (m:Int)=some m:=by have:=a04 (m:=ss.length) (i:=(m:Int)) (by walk_at "o") (by walk_at "o");rwa [Int.toNat_natCast] at this
 have xm:((ss.map ratD).set m z)[m]? =some z:=List.getElem?_set_self (by rw [List.length_map];exact hm)
 generalize hX:(ss.map ratD).set m z=X at xz xl xm
 have hc:0<=(m:Int)/\(m:Int) < 2 ^ 62:=by walk_at "o"
 have mp1:mPopAt X [.int (m:Int)]=some (.v z,X.eraseIdx m):=by
  simp only [mPopAt,hc,and_self,if_true,Int.toNat_natCast,xm,Option.map_some]
 have mp2:mPopAt (X ++ [ratD 0]) [.int (m:Int)]=some (.v z,(X ++ [ratD 0]).eraseIdx m):=by
  simp only [mPopAt,hc,and_self,if_true,Int.toNat_natCast,List.getElem?_append_left (show m < X.length by walk_at "o"),xm,Option.map_some]
 have x1:∀x∈X ++ [ratD 0],RD x/\Sh 1 10000 x:=fun x hx=>by
  rcases List.mem_append.mp hx with y | y
  ·exact xz x y
  ·rw [List.mem_singleton.mp y];exact od_q (sz_0.mono (by decide))
 have x2:∀x∈X.eraseIdx m,RD x/\Sh 1 10000 x:=fun x hx=>xz x (List.mem_of_mem_eraseIdx hx)
 have x3:∀x∈(X ++ [ratD 0]).eraseIdx m,RD x/\Sh 1 10000 x:=fun x hx=>x1 x (List.mem_of_mem_eraseIdx hx)
 have y1:(X ++ [ratD 0]).length<=20:=by rw [List.length_append,List.length_singleton];walk_at "o"
 have y2:(X.eraseIdx m).length<=20:=by have:=List.length_eraseIdx_le X m;walk_at "o"
 have y3:((X ++ [ratD 0]).eraseIdx m).length<=20:=by have:=List.length_eraseIdx_le (X ++ [ratD 0]) m;walk_at "o"
 have y0:X.length<=20:=by walk_at "o"
 have ya:ss.length + 1<=1000000:=by walk_at "o"
 have ya':ss.length<=999999:=by walk_at "o"
 have n0:D.tup [D.int 0,D.int 1]=ratD 0:=rfl
 have pz:=p5.mono (show b + 1 + 1 + 1 + 1 + 1<=b + 5 by walk_at "o")
 repeat (first | walk_at "z r" | simp only [lr,e1,l1,e2,l2,e3,l3,at1,ez,m2,ix,hX,xl,n0,List.length_map])
 cases b1:(j1 == 0)
 ·repeat (first | walk_at "z r" | simp only [e4,l4,xl,ya,ya',n0,b1,List.length_map])
  cases b2:(j2 == 0)
  ·repeat (first | walk_at "z r" | simp only [e5,l5,b2,mp1])
   cases b3:(j3 == 0)
   ·refine ⟨.tup X,d5,pz,Q0 xz y0,?_⟩
    repeat (first | walk_at "z r" | simp only [b3])
   ·refine ⟨.lst X,d5,pz,a24 xz y0,?_⟩
    repeat (first | walk_at "z r" | simp only [b3])
  ·repeat (first | walk_at "z r" | simp only [e5,l5,b2,mp1])
   cases b3:(j3 == 0)
   ·refine ⟨.tup (X.eraseIdx m),d5,pz,Q0 x2 y2,?_⟩
    repeat (first | walk_at "z r" | simp only [b3])
   ·refine ⟨.lst (X.eraseIdx m),d5,pz,a24 x2 y2,?_⟩
    repeat (first | walk_at "z r" | simp only [b3])
 ·repeat (first | walk_at "z r" | simp only [e4,l4,xl,ya,ya',n0,b1,List.length_map])
  cases b2:(j2 == 0)
  ·repeat (first | walk_at "z r" | simp only [e5,l5,b2,mp2])
   cases b3:(j3 == 0)
   ·refine ⟨.tup (X ++ [ratD 0]),d5,pz,Q0 x1 y1,?_⟩
    repeat (first | walk_at "z r" | simp only [b3])
   ·refine ⟨.lst (X ++ [ratD 0]),d5,pz,a24 x1 y1,?_⟩
    repeat (first | walk_at "z r" | simp only [b3])
  ·repeat (first | walk_at "z r" | simp only [e5,l5,b2,mp2])
   cases b3:(j3 == 0)
   ·refine ⟨.tup ((X ++ [ratD 0]).eraseIdx m),d5,pz,Q0 x3 y3,?_⟩
    repeat (first | walk_at "z r" | simp only [b3])
   ·refine ⟨.lst ((X ++ [ratD 0]).eraseIdx m),d5,pz,a24 x3 y3,?_⟩
    repeat (first | walk_at "z r" | simp only [b3])
def two1 (k:List Int):Bool:=((k.length:Nat):Int) == 2
theorem moreAt {i:Int}{s s':Rat}(h0:0<=i)(h4:i < 4)(hs:Sz 201 s)(hs':Sz 450 s'):∃mo:Rat,Sz 450 mo/\atI [ratD s,.tup [.int 1,.int 1],.tup [.int 1,.int 7],ratD s'] i=some (ratD mo):=by
 have hc:i=0\/i=1\/i=2\/i=3:=by walk_at "o"
 rcases hc with rfl | rfl | rfl | rfl
 ·exact ⟨s,hs.mono (by decide),a_0⟩
 ·exact ⟨1,⟨by decide,by decide⟩,a_1⟩
 ·exact ⟨Rat.divInt 1 7,⟨by decide,by decide⟩,a_2⟩
 ·exact ⟨s',hs',a_3⟩
abbrev T3:Stmt:=top 52
theorem a0c:FnScope ["pot","pairing","shares","pairs","a","b","more","made"] ["pot","pairing","shares"] (defScope T3):=by walk_at "c"
def a0P (g:LL):Prop:=∀(b:Nat) (d:D) (n:Int) (ts:List Tie) (ps:List (List Int)) (ss:List Rat),Pot b d->b<=1000000000000->WebOk n ts->PairOk n ts ps->ss.length=n.toNat->(∀s∈ss,Sz 201 s)->∃(qs:List Rat) (d':D),Pot (b + 2) d'/\(∀q∈qs,Sz 900 q)/\qs.length<=8/\g d [.tup (ps.map tupI),.tup (ss.map ratD)]=some (.v (.tup (qs.map ratD)),d')
theorem a3d {D7:LO}{G4:LO}{g5:LL}(D8:Fn P w K mg base "_law_minus" k D7)(E1:W5 D7)(C1:Fn P w K mg base "_law_plus" k G4)(D1:Z7 G4)(c6:FnL P w K mg base "_law_take" k g5)(c5:r6 g5)(E5:mg "list"=none)(j4:mg "tuple"=none)(m_len:mg "len"=none)(F:Fun K "_law_parted" "_law_parted" T3 f fd)(B:Binds K fd ["pot","pairing","shares"] [])(hm:mg "_law_parted"=some (.ref f)):∃g,FnL P w K mg base "_law_parted" (k + 1) g/\a0P g:=by
 have nd:=a0c.nd
 refine ⟨_,L1 F a0c B hm rfl rfl (fun cdv A outer s H E hr=>(b8 (a2K 3 nd (a1V (N:=["party"]) (js:=[none]) (li:=none) rfl (B4 (by exact (.own .nil)) rfl (by exact trivial) (by rfl)) (B5 1) (fun _ _ _ _=>(g9 0 (show ((["party"]:List Str) ++ [accN]).Nodup by decide +kernel))) (fun _ _ _ _=>(a7r rfl (M9 hr (qx_b k6 G0 m_len (a8 (a7 0) a9)) b0))) (fun _ _ _ _=>(a7 0))))
  (b8 (o9 (M9 hr (a7 3) (w5 a9)) (b9 (g8 (a7 2))) j7)
  (b8 (F9 (c8 hr (a7 3) (j5 c6 hr (a8 (a7 0) (a8 (qx_b k6 G0 m_len (a8 (a7 3) a9)) a9)))) (R5 rfl (l7 (g9 4 nd) (l7 (g9 5 nd) M4))))
  (b8 (j0 6 nd (c8 hr (w5 (a8 (c8 hr (a7 2) (a7 4)) (a8 (m4 (a8 b0 (a8 b0 a9))) (a8 (m4 (a8 b0 (a8 b0 a9))) (a8 (j6 C1 hr (a8 (c8 hr (a7 2) (a7 4)) (a8 (m4 (a8 b0 (a8 b0 a9))) a9))) a9))))) (j5 c6 hr (a8 (a7 0) (a8 b0 a9)))))
  (b8 (j0 7 nd (a1t rfl E5 (a8 (a7 2) a9)))
  (b8 (F9 (j6 D8 hr (a8 (c8 hr (a7 7) (a7 4)) (a8 (a7 6) a9))) (W1 (a7 7) (a7 4)))
  (b8 (F9 (j6 C1 hr (a8 (c8 hr (a7 7) (a7 5)) (a8 (a7 6) a9))) (W1 (a7 7) (a7 5)))
  (b9 (g8 (qx_t t8 N6 j4 (a8 (a7 7) a9)))))))))))),?_⟩
 intro b d n ts ps ss hp hb hw hpo hl hz
 have hn:=hw.n1
 have lr:=O8 ss
 have of:=a6R two1 ps
 have hl8:=hpo.len
 repeat (walk_at "z r")
 rw [t5 (ρ1:=[some (.l d),some (.v (.tup (ps.map tupI))),some (.v (.tup (ss.map ratD))),none,none,none,none,none]) (xs:=ps.map tupI) (fun B=>∃o1:Option D,B=[o1.map .v]) (onT two1) id]
 ·rw [of]
  have lt:=D6 (ps.filter two1)
  have hm:∀k∈ps.filter two1,k∈ps/\two1 k=true:=fun k hk=>List.mem_filter.mp hk
  have hfl:(ps.filter two1).length<=8:=by have:=List.length_filter_le two1 ps;walk_at "o"
  generalize ps.filter two1=K at lt hm hfl
  cases K with
  | nil=>
   refine ⟨ss,d,hp.mono (by walk_at "o"),fun q hq=>(hz q hq).mono (by decide),by walk_at "o",?_⟩
   repeat (first | walk_at "z r" | simp only [lr])
  | cons k0 K=>
   obtain ⟨i,d1,h1,p1,e1⟩:=c5 b d (((k0 :: K).length:Nat):Int) hp (by walk_at "o") (p9 (by rw [List.length_cons];walk_at "o") (by walk_at "o"))
   have at1:=a45 (ks:=k0 :: K) (i:=i) h1.1 h1.2
   obtain ⟨hk1,hk2⟩:=hm _ (a1r (ks:=k0 :: K) (i:=i) h1.1 h1.2)
   generalize (k0 :: K).getD i.toNat []=k at at1 hk1 hk2
   obtain ⟨a,c,rfl⟩:∃a c,k=[a,c]:=by
    unfold two1 at hk2
    rw [beq_iff_eq] at hk2
    match k,hk2 with
    | [a,c],_=>exact ⟨a,c,rfl⟩
    | [],h=>simp at h
    | [_],h=>simp at h
    | _ :: _ :: _ :: _,h=>simp only [List.length_cons] at h;walk_at "o"
   have kp:=(A9 hw (hpo.mem _ hk1)).1
   have ha:=kp a (by simp)
   have hc:=kp c (by simp)
   have hac:=a5J hw (hpo.mem _ hk1)
   rw [show tupI [a,c]= .tup [.int a,.int c] from rfl] at at1
   obtain ⟨i2,d2,h2,p2,e2⟩:=c5 _ d1 4 p1 (by walk_at "o") (p9 (by decide) (by decide))
   have get:∀j:Int,0<=j->j < n->Sz 201 (ss.getD j.toNat 0):=fun j h0 h1=>by
    rw [List.getD_eq_getElem?_getD,List.getElem?_eq_getElem (by walk_at "o")]
    exact hz _ (List.getElem_mem _)
   have za:=get a ha.1 ha.2
   have zc:=get c hc.1 hc.2
   have n13:D.tup [D.int 1,D.int 3]=ratD (Rat.divInt 1 3):=rfl
   have ep:=D1 (ss.getD a.toNat 0) (Rat.divInt 1 3) 201 3 za ⟨by decide,by decide⟩ (by decide)
   have zp:=a1h za (q:=Rat.divInt 1 3) (n:=3) ⟨by decide,by decide⟩
   obtain ⟨mo,zm,em⟩:=moreAt (s:=ss.getD a.toNat 0) (s':=ss.getD a.toNat 0 + Rat.divInt 1 3) h2.1 h2.2 za (zp.mono (by decide))
   have ei:=E1 (ss.getD a.toNat 0) mo 201 450 za zm (by decide)
   have zi:=b0x za zm
   have aa:=a16 (ss:=ss) (i:=a) ha.1 (by walk_at "o")
   have x1:ixN ss.length a=some a.toNat:=a04 ha.1 (by walk_at "o")
   have s1:(ss.map ratD).set a.toNat (ratD (ss.getD a.toNat 0 - mo))=(ss.set a.toNat (ss.getD a.toNat 0 - mo)).map ratD:=List.map_set.symm
   generalize ss.getD a.toNat 0 - mo=va at ei zi s1
   have ac:=a16 (ss:=ss.set a.toNat va) (i:=c) hc.1 (by rw [List.length_set];walk_at "o")
   have ge:(ss.set a.toNat va).getD c.toNat 0=ss.getD c.toNat 0:=by
    rw [List.getD_eq_getElem?_getD,List.getElem?_set_ne (by walk_at "o"),<-List.getD_eq_getElem?_getD]
   rw [ge] at ac
   have eo:=D1 (ss.getD c.toNat 0) mo 201 450 zc zm (by decide)
   have zo:=a1h zc zm
   generalize ss.getD c.toNat 0 + mo=vc at eo zo
   have x2:ixN (ss.set a.toNat va).length c=some c.toNat:=a04 hc.1 (by rw [List.length_set];walk_at "o")
   have s2:((ss.set a.toNat va).map ratD).set c.toNat (ratD vc)=((ss.set a.toNat va).set c.toNat vc).map ratD:=List.map_set.symm
   have l1:=p1.lf
   have l2:=p2.lf
   have lt0:=a2Q k0
   have lt1:=D6 K
   have lf2:=O8 ((ss.set a.toNat va).set c.toNat vc)
   refine ⟨(ss.set a.toNat va).set c.toNat vc,d2,p2,fun q hq=>?_,by rw [List.length_set,List.length_set];walk_at "o",?_⟩
   ·rcases List.mem_or_eq_of_mem_set hq with z | rfl
    ·rcases List.mem_or_eq_of_mem_set z with z | rfl
     ·exact (hz q z).mono (by decide)
     ·exact zi.mono (by decide)
    ·exact zo.mono (by decide)
   ·rw [List.map_cons] at at1
    rw [List.length_cons] at e1
    repeat (first | walk_at "z r" | simp only [lt0,lt1,lr,e1,l1,at1,aa,n13,ep,P4,e2,l2,em,ei,List.length_map,x1,s1,ac,eo,x2,s2,lf2])
 ·repeat (walk_at "z r")
 ·rintro _ ⟨_,rfl⟩;rfl
 ·exact ⟨none,rfl⟩
 ·rw [List.length_map];unfold lim;walk_at "o"
 ·rw [of];exact D6 _
 ·rintro x hx _ zs ⟨o1,rfl⟩
  obtain ⟨k,hk,rfl⟩:=B6 hx
  refine ⟨[some (.v (tupI k))],.v (tupI k),⟨some _,rfl⟩,?_,?_,fun _=>⟨?_,.inl rfl⟩⟩
  ·repeat (walk_at "z r")
  ·rw [a0D,show tupI k= .tup (k.map .int) from rfl]
   repeat (first | walk_at "z r" | simp only [List.length_map,two1])
  ·repeat (walk_at "z r")
theorem a53 {n:Int}{ts:List Tie}{ps:List (List Int)}(hw:WebOk n ts)(hp:PairOk n ts ps):RS (.tup (ps.map tupI)):=Q0 (fun x hx=>by
 obtain ⟨p,hpp,rfl⟩:=B6 hx
 obtain ⟨a1,a2,a3⟩:=A9 hw (hp.mem p hpp)
 have hn:=hw.n1
 exact a6Z (by walk_at "o") fun j hj=>by have:=a1 j hj;walk_at "o") (by rw [List.length_map];have:=hp.len;walk_at "o")
theorem a49 {qs:List Rat}(h:∀q∈qs,Sz 900 q)(hl:qs.length<=20):RS (.tup (qs.map ratD)):=Q0 (fun x hx=>by
 obtain ⟨q,hq,rfl⟩:=List.mem_map.mp hx
 exact od_q (h q hq)) (by rw [List.length_map];exact hl)
def TS (T:D):Prop:=TH T/\∃x:Str,gStrE T=some (.v (.str x))
theorem a4J {xs:List D}(h:∀x∈xs,RS x)(hl:xs.length<=5):TS (.tup xs):=⟨⟨rfl,fun ys e=>by cases e;exact fun y hy=>(h y hy).1⟩,_,by
 rw [b3r]
 exact b3u (k:=3) (n:=3000000) (shT (m:=400000) (fun x hx=>(h x hx).2) (by walk_at "o")) (by decide) (by decide)⟩
theorem b2z {xs:List D}(h:∀x∈xs,RS x)(hl:xs.length<=5):TS (.lst xs):=⟨⟨rfl,fun ys e=>by cases e⟩,_,by
 rw [b2W]
 exact b3j (k:=3) (n:=3000000) (shL (m:=400000) (fun x hx=>(h x hx).2) (by walk_at "o")) (by decide) (by decide)⟩
theorem a3s {P S:D}(hP:RS P)(hS:RS S):TS (.tup [P,S]):=a4J (fun x hx=>by
 simp only [List.mem_cons,List.not_mem_nil,or_false] at hx
 rcases hx with rfl | rfl
 ·exact hP
 ·exact hS) (by simp)
theorem str7:∃x:Str,gStrE (.int 7)=some (.v (.str x)):=⟨toString (7:Int),by
 show (if (7:Int).natAbs < 2 ^ 1900 then some (W.v (.str (toString (7:Int)))) else none)=_
 exact if_pos (by decide)⟩
abbrev R1:Stmt:=top 53
theorem Z8:FnScope ["pot","sharing","pairing","shares","turn","some"] ["pot","sharing"] (defScope R1):=by walk_at "c"
def a0Y (g:LL):Prop:=∀(b:Nat) (d:D) (n:Int) (ts:List Tie) (ps:List (List Int)) (ss:List Rat),Pot b d->b<=100000000000->WebOk n ts->PairOk n ts ps->Shr n ts ps ss->∃(T d':D),Pot (b + 8) d'/\TS T/\g d [.tup [.tup (ps.map tupI),.tup (ss.map ratD)]]=some (.v T,d')
theorem a2W {g5:LL}{S0:LL}{B7:LL}{E2:LL}(c6:FnL P w K mg base "_law_take" k g5)(c5:r6 g5)(S5:FnL P w K mg base "_law_parted" k S0)(T1:a0P S0)(B8:FnL P w K mg base "_law_other_pairing" k B7)(C0:N4 B7)(E6:FnL P w K mg base "_law_other_shares" k E2)(E8:O7 E2)(m_len:mg "len"=none)(F:Fun K "_law_spoilt" "_law_spoilt" R1 f fd)(B:Binds K fd ["pot","sharing"] [])(hm:mg "_law_spoilt"=some (.ref f)):∃g,FnL P w K mg base "_law_spoilt" (k + 1) g/\a0Y g:=by
 have nd:=Z8.nd
 refine ⟨_,L1 F Z8 B hm rfl rfl (fun cdv A outer s H E hr=>(b8 (F9 (a7 1) (R5 rfl (l7 (g9 2 nd) (l7 (g9 3 nd) M4))))
  (b8 (j0 4 nd (j5 c6 hr (a8 (a7 0) (a8 b0 a9))))
  (b8 (o9 (Y0 (a6E (M9 hr (a7 4) b0) (a5k (M9 hr (j5 c6 hr (a8 (a7 0) (a8 b0 a9))) b0)))) (b9 (g8 (m4 (a8 (a7 2) (a8 (j5 S5 hr (a8 (a7 0) (a8 (a7 2) (a8 (a7 3) a9)))) a9))))) j7)
  (b8 (o9 (a5m hr (a7 4) b0) (b9 (g8 (m4 (a8 (j5 B8 hr (a8 (a7 0) (a8 (a7 2) a9))) (a8 (a7 3) a9))))) j7)
  (b8 (o9 (a5m hr (a7 4) b0) (b9 (g8 (m4 (a8 (a7 2) (a8 (j5 E6 hr (a8 (a7 0) (a8 (a7 3) a9))) a9))))) j7)
  (b8 (j0 5 nd (w5 (a8 (w5 (a8 (a7 2) (a8 (a7 3) a9))) (a8 (m4 (a8 (a7 3) (a8 (a7 2) a9))) (a8 (m4 (a8 (a7 2) (a8 (a7 3) (a8 (a7 3) a9)))) (a8 (m4 (a8 (a7 2) a9)) (a8 a9K (a8 b3a (a8 b0 (a8 J4 (a8 b1X (a8 (m4 a9) a9))))))))))))
  (b9 (g8 (c8 hr (a7 5) (j5 c6 hr (a8 (a7 0) (a8 (qx_b k6 G0 m_len (a8 (a7 5) a9)) a9))))))))))))),?_⟩
 intro b d n ts ps ss hp hb hw hpo hs
 have hn:=hw.n1
 have hz:∀s∈ss,Sz 201 s:=fun s h=>(hs.bq s h).sz
 have hlen:=hs.len
 have rP:=a53 hw hpo
 have rS:=a49 (qs:=ss) (fun q hq=>(hz q hq).mono (by decide)) (by walk_at "o")
 have lP:=D6 ps
 have lS:=O8 ss
 obtain ⟨t,d1,h1,p1,e1⟩:=c5 b d 8 hp (by walk_at "o") (p9 (by decide) (by decide))
 have l1:=p1.lf
 have some_:∀(b':Nat) (dd:D),Pot b' dd->b'<=b + 2->∃(i:Int) (T d':D),Pot (b + 8) d'/\TS T/\g5 dd [.int 10]=some (.v (.int i),d')/\atI [.lst [.tup (ps.map tupI),.tup (ss.map ratD)],.tup [.tup (ss.map ratD),.tup (ps.map tupI)],.tup [.tup (ps.map tupI),.tup (ss.map ratD),.tup (ss.map ratD)],.tup [.tup (ps.map tupI)],.non,.str "0-1",.int 7,.bl true,.dK [] [],.tup []] i=some T:=fun b' dd hpp hbb=>by
  obtain ⟨i,d2,h2,p2,e2⟩:=c5 b' dd 10 hpp (by walk_at "o") (p9 (by decide) (by decide))
  obtain ⟨T,eT,hT⟩:=oddAt (t:=i) (Q:=TS) h2.1 h2.2
   (b2z (xs:=[.tup (ps.map tupI),.tup (ss.map ratD)]) (fun x hx=>by
    simp only [List.mem_cons,List.not_mem_nil,or_false] at hx
    rcases hx with rfl | rfl
    ·exact rP
    ·exact rS) (by simp))
   (a3s rS rP)
   (a4J (xs:=[.tup (ps.map tupI),.tup (ss.map ratD),.tup (ss.map ratD)]) (fun x hx=>by
    simp only [List.mem_cons,List.not_mem_nil,or_false] at hx
    rcases hx with rfl | rfl | rfl
    ·exact rP
    ·exact rS
    ·exact rS) (by simp))
   (a4J (xs:=[.tup (ps.map tupI)]) (fun x hx=>by rw [List.mem_singleton.mp hx];exact rP) (by simp))
   (x4:=.non) ⟨⟨rfl,fun ys e=>by cases e⟩,_,a9F⟩ (x5:=.str "0-1") ⟨⟨rfl,fun ys e=>by cases e⟩,_,a9c⟩ (x6:=.int 7) ⟨⟨rfl,fun ys e=>by cases e⟩,str7⟩ (x7:=.bl true) ⟨⟨rfl,fun ys e=>by cases e⟩,_,b2j⟩ (x8:=.dK [] []) ⟨⟨rfl,fun ys e=>by cases e⟩,_,b3I⟩ (a4J (xs:=[]) (fun x hx=>nomatch hx) (by simp))
  exact ⟨i,T,d2,p2.mono (by walk_at "o"),hT,e2,eT⟩
 by_cases h3:t < 3
 ·obtain ⟨w,P,d2,p2,hwP,rP',e2⟩:=C0 _ d1 n ts ps p1 (by walk_at "o") hw hpo
  have l2:=p2.lf
  have z7:(t == 7)=false:=by rw [beq_eq_false_iff_ne];walk_at "o"
  have z3:decide (t < 3)=true:=decide_eq_true h3
  refine ⟨.tup [P,.tup (ss.map ratD)],d2,p2.mono (by walk_at "o"),a3s rP' rS,?_⟩
  rcases hwP with rfl | rfl
  ·cases hlf:lf P
   all_goals repeat (first | walk_at "z r" | simp only [lP,lS,e1,l1,z7,z3,e2,l2,hlf])
  ·cases hlf:lfC P
   all_goals repeat (first | walk_at "z r" | simp only [lP,lS,e1,l1,z7,z3,e2,l2,hlf])
 ·have z3:decide (t < 3)=false:=decide_eq_false h3
  by_cases h6:t < 6
  ·obtain ⟨P,d2,p2,rP',e2⟩:=E8 _ d1 ss p1 (by walk_at "o") (by walk_at "o") (by walk_at "o") hz
   have l2:=p2.lf
   have z7:(t == 7)=false:=by rw [beq_eq_false_iff_ne];walk_at "o"
   have z6:decide (t < 6)=true:=decide_eq_true h6
   refine ⟨.tup [.tup (ps.map tupI),P],d2,p2.mono (by walk_at "o"),a3s rP rP',?_⟩
   cases hlf:lf P
   all_goals repeat (first | walk_at "z r" | simp only [lP,lS,e1,l1,z7,z3,z6,e2,l2,hlf])
  ·have z6:decide (t < 6)=false:=decide_eq_false h6
   by_cases h7:t=7
   ·subst h7
    obtain ⟨j,d2,h2,p2,e2⟩:=c5 _ d1 2 p1 (by walk_at "o") (p9 (by decide) (by decide))
    have l2:=p2.lf
    cases hj:(j == 0) with
    | true=>
     obtain ⟨qs,d3,p3,hq,hql,e3⟩:=T1 _ d2 n ts ps ss p2 (by walk_at "o") hw hpo hlen hz
     have l3:=p3.lf
     have lq:=O8 qs
     refine ⟨.tup [.tup (ps.map tupI),.tup (qs.map ratD)],d3,p3.mono (by walk_at "o"),a3s rP (a49 hq (by walk_at "o")),?_⟩
     repeat (first | walk_at "z r" | simp only [lP,lS,e1,l1,e2,l2,hj,e3,l3,lq,Int.reduceBEq])
    | false=>
     obtain ⟨i,T,d3,p3,hT,e3,eT⟩:=some_ _ d2 p2 (by walk_at "o")
     have e3':g5 d2 [.int ((10:Nat):Int)]=some (.v (.int i),d3):=e3
     have l3:=p3.lf
     refine ⟨T,d3,p3,hT,?_⟩
     repeat (first | walk_at "z r" | simp only [lP,lS,e1,l1,e2,l2,hj,z3,z6,e3,e3',l3,eT,Int.reduceBEq])
   ·have z7:(t == 7)=false:=by rw [beq_eq_false_iff_ne];walk_at "o"
    obtain ⟨i,T,d3,p3,hT,e3,eT⟩:=some_ _ d1 p1 (by walk_at "o")
    have e3':g5 d1 [.int ((10:Nat):Int)]=some (.v (.int i),d3):=e3
    have l3:=p3.lf
    refine ⟨T,d3,p3,hT,?_⟩
    repeat (first | walk_at "z r" | simp only [lP,lS,e1,l1,z7,z3,z6,e3,e3',l3,eT,Int.reduceBEq])
theorem a8H {n:Int}{ts:List Tie}{ps:List (List Int)}{ss:List Rat}(hw:WebOk n ts)(hp:PairOk n ts ps)(hs:Shr n ts ps ss):sharB n ts (.tup [.tup (ps.map tupI),.tup (ss.map ratD)])=true:=by
 have hn:=hw.n1
 show (pairB n ts (.tup (ps.map tupI)) && (shsB n (.tup (ss.map ratD)) && zerB ts (.tup (ps.map tupI)) (.tup (ss.map ratD))))=true
 have h1:pairB n ts (.tup (ps.map tupI))=true:=by
  rw [a1b hp.mem]
  unfold pairK
  rw [a37 (hp.nd hw),decide_eq_true hp.srt.symm,Bool.true_and,decide_eq_true_eq]
  exact List.Perm.eq_of_pairwise (le:=(·<=·)) (fun a b _ _ h1 h2=>by walk_at "o") (U4 _) ((a4o _).imp fun h=>by walk_at "o") ((A4 _).trans hp.prm)
 have h2:shsB n (.tup (ss.map ratD))=true:=by
  show (((((ss.map ratD).length:Nat):Int) == n) && (ss.map ratD).all okS)=true
  rw [List.length_map,hs.len,Bool.and_eq_true,beq_iff_eq]
  refine ⟨by walk_at "o",?_⟩
  rw [List.all_eq_true]
  intro x hx
  obtain ⟨q,hq,rfl⟩:=List.mem_map.mp hx
  rw [a7C,decide_eq_true_eq]
  exact Rat.num_nonneg.mpr (hs.pos q hq)
 rw [h1,h2,a4E,Bool.true_and,Bool.true_and,List.all_eq_true]
 intro k hk
 rw [decide_eq_true_eq];exact hs.zer k hk
abbrev a1T:Stmt:=top 54
theorem a8Y:FnScope ["script","cell","pot","web","sharing","turn","thing","kept","found"] ["script"] (defScope a1T):=by walk_at "c"
theorem b25 {R8:LO}{X7:LO}{L9:LL}{C6:LL}{V0:LO}{S3:LL}{a1i:LO}(S6:Fn P w K mg base "_law_folded" k R8)(S8:a0Z R8)(W8:Fn P w K mg base "_law_begun" k X7)(U6:a1O X7)(L0:FnL P w K mg base "_law_drawn_web" k L9)(M1:U2 L9)(D2:FnL P w K mg base "_law_drawn_sharing" k C6)(C9:N2 C6)(P1:Fn P w K mg base "is_sharing" k V0)(O9:a1S V0)(R3:FnL P w K mg base "_law_spoilt" k S3)(T5:a0Y S3)(a06:Fn P w K mg base "_law_due" k a1i)(a1l:a3e a1i)(k8:mg "range"=none)(m_str:mg "str"=none)(c9:mg "isinstance"=none)(V7:mg "bool"=none)(F:Fun K "law" "law" a1T f fd):FnOk P w K mg base CX0 (k + 1) f fd ["script"] (spLaw K):=by
 have nd:=a8Y.nd
 refine b4j F a8Y rfl rfl (fun cdv A outer s H E hr=>(b8 (F6 PySem.PassesOwn.never rfl (O1 (j6 S6 hr (a8 (a7 0) (a8 b0 a9)))) (g9 1 nd) (b8 (j0 2 nd (j6 W8 hr (a8 (a7 1) a9)))
  (b8 (j0 3 nd (j5 L0 hr (a8 (a7 2) a9)))
  (b8 (j0 4 nd (j5 D2 hr (a8 (a7 2) (a8 (a7 3) a9))))
  (b8 (o9 (a88 (j6 P1 hr (a8 (a7 3) (a8 (a7 4) a9))) J4) (b9 (g8 J4)) j7)
  (b9 (F6 PySem.PassesOwn.never rfl (a3k k8 (a8 b0 a9)) (g9 5 nd) (b8 (j0 6 nd (j5 R3 hr (a8 (a7 2) (a8 (a7 4) a9))))
  (b8 (j0 7 nd (qx_t (a3J hr) a7D m_str (a8 (a7 6) a9)))
  (b8 (j0 8 nd (j6 P1 hr (a8 (a7 3) (a8 (a7 6) a9))))
  (b9 (o9 (Y0 (Q7 (A5 (z5 (K5 (T:="bool") (K9 (by decide)) c9 V7 (a7 8)))) (Q7 (a2V hr (a7 8) (j6 a06 hr (a8 (a7 3) (a8 (a7 6) a9)))) (V8 (a2V hr (qx_t (a3J hr) a7D m_str (a8 (a7 6) a9)) (a7 7)))))) (b9 (g8 J4)) j7))))))))))))
  (b9 (g8 J4)))) ?_
 intro ns hl
 obtain ⟨cs,hc,ef⟩:=S8 ns 4 hl (by decide) (by decide)
 have l0:=Q1 cs
 repeat (first | walk_at "z r" | simp only [ef,l0])
 generalize el:loopF _ _ _=r
 refine a14 el (fun _ ρ=>∃x1 x2 x3 x4 x5 x6 x7 x8:Option W,ρ=[some (.v (.lst (ns.map .int))),x1,x2,x3,x4,x5,x6,x7,x8]/\freeO x1=true/\freeO x2=true/\freeO x3=true/\freeO x4=true/\freeO x5=true/\freeO x6=true/\freeO x7=true/\freeO x8=true) ⟨none,none,none,none,none,none,none,none,rfl,rfl,rfl,rfl,rfl,rfl,rfl,rfl,rfl⟩ ?_ ?_
 ·rintro d x _ hx _ ⟨x1,x2,x3,x4,x5,x6,x7,x8,rfl,f1,f2,f3,f4,f5,f6,f7,f8⟩
  obtain ⟨c,_,rfl⟩:=J0 hx
  obtain ⟨p0,hp0,e0⟩:=U6 c
  obtain ⟨n,ts,d1,hw,p1,e1⟩:=M1 _ p0 hp0 (by walk_at "o")
  obtain ⟨ps,ss,d2,hps,hss,p2,e2⟩:=C9 _ d1 n ts p1 (by walk_at "o") hw
  have rP:=a53 hw hps
  have hz:∀s∈ss,Sz 201 s:=fun s h=>(hss.bq s h).sz
  have hn:=hw.n1
  have hlen:=hss.len
  have rS:=a49 (qs:=ss) (fun q hq=>(hz q hq).mono (by decide)) (by walk_at "o")
  have ei:=O9 n ts _ hw (a3s rP rS).1
  rw [a8H hw hps hss] at ei
  have lp:=hp0.lf
  have l1:=p1.lf
  have l2:=p2.lf
  have lw:=b3p n ts
  have s1:=O8 ss
  have s2:=D6 ps
  have r3:(-(2 ^ 62:Int)<=4/\(4:Int) < 2 ^ 62):=by decide
  repeat (first | walk_at "z r" | simp only [f1,f2,f3,f4,f5,f6,f7,f8,e0,lp,e1,l1,lw,e2,l2,s1,s2,ei,r3])
  generalize el2:loopF _ _ _=r2
  refine M3 el2 (fun i ρ=>∃(d:D) (x5 x6 x7 x8:Option W),ρ=[some (.v (.lst (ns.map .int))),some (.v (.int c)),some (.o d),some (.v (webD n ts)),some (.v (.tup [.tup (ps.map tupI),.tup (ss.map ratD)])),x5,x6,x7,x8]/\freeO x5=true/\freeO x6=true/\freeO x7=true/\freeO x8=true/\Pot (5000 + 8 * i) d) ⟨d2,x5,x6,x7,x8,rfl,f5,f6,f7,f8,p2.mono (by walk_at "o")⟩ ?_ ?_
  ·rintro i x _ hx ⟨d,x5,x6,x7,x8,rfl,f5,f6,f7,f8,hd⟩
   obtain ⟨rfl,hi⟩:=a1Z hx
   obtain ⟨T,d',p',hT,e3⟩:=T5 _ d n ts ps ss hd (by walk_at "o") hw hps hss
   obtain ⟨hTH,tx,et⟩:=hT
   have l3:=p'.lf
   have e4:=O9 n ts T hw hTH
   have e5:=a1l n ts T hw hTH
   have ib:=a4H (d:=.bl (sharB n ts T)) rfl
   have qs:(tx == tx)=true:=beq_self_eq_true _
   generalize sharB n ts T=bb at e4 e5 ib
   have qb:(bb == bb)=true:=beq_self_eq_true _
   refine ⟨_,?_,d',some (.v (.int (0 + (i:Int)))),some (.v T),some (.v (.str tx)),some (.v (.bl bb)),rfl,rfl,rfl,rfl,rfl,p'⟩
   cases hlf:lf T
   all_goals repeat (first | walk_at "z r" | simp only [f5,f6,f7,f8,e3,l3,hlf,et,e4,ib,isB,e5,qb,qs])
  ·rintro _ rfl ⟨d,x5,x6,x7,x8,rfl,f5,f6,f7,f8,hd⟩
   refine ⟨_,?_,some (.v (.int c)),some (.o d),some (.v (webD n ts)),some (.v (.tup [.tup (ps.map tupI),.tup (ss.map ratD)])),x5,x6,x7,x8,rfl,rfl,rfl,rfl,rfl,f5,f6,f7,f8⟩
   repeat (first | walk_at "z r")
 ·rintro _ rfl ⟨x1,x2,x3,x4,x5,x6,x7,x8,rfl,_⟩
  repeat (first | walk_at "z r")
end
end Q13
namespace Q13
open PySem PySem.Spec PyProof.Rows L2 Z
structure DI (K:PySem.W.Frag) (x:Str) (st:Stmt) (f:Addr) (fd:FuncData):Prop where
 a:PySem.W.nsIn K mainGlobals x=some (some (.ref f))
 F:Fun K x x st f fd
theorem DI.mk2 {K:PySem.W.Frag}{x:Str}{st:Stmt}{f:Addr}{od an:Option Addr}{sl:Array (Option Value)}{oc kV dc pm cd ct:Value}(a:PySem.W.nsIn K mainGlobals x=some (some (.ref f)))(l:K.lookup f=some ⟨oc,od,.func (PySem.W.fnOf x x (defArgs st) (defBody st) (defScope st) .none kV dc pm an cd ct),sl⟩)(c:PySem.W.codeIn K cd x=true)(k:PySem.W.keepIn K (.ref f)=true):DI K x st f (PySem.W.fnOf x x (defArgs st) (defBody st) (defScope st) .none kV dc pm an cd ct):=⟨a,b0l l c k⟩
section
variable {P:Program}{w:World}{K:PySem.W.Frag}{mg:Str->Option Value}{base:Heap}{x:Str}{j k:Nat}
theorem _root_.Z.FnS.up {sp:Sp}(F:FnS P w K mg base x j sp)(h:j<=k:=by decide):FnS P w K mg base x k sp:=F.mono h
end
theorem b2U {l:PySem.W.OpenLaw}{w:World}{K:PySem.W.Frag}{h:Heap}{mg:Str->Option Value}{fa f1 f2 f3 f4 f5 f6 f7 f8 f9 f10 f11 f12 f13 f14 f15 f16 f17 f18 f19 f20 f21 f22 f23 f24 f25 f26 f27 f28 f29 f30 f31 f32 f33 f34 f35 f36 f37 f38 f39 f40 f41 f42 f43 f44:Addr}{d1 d2 d3 d4 d5 d6 d7 d8 d9 d10 d11 d12 d13 d14 d15 d16 d17 d18 d19 d20 d21 d22 d23 d24 d25 d26 d27 d28 d29 d30 d31 d32 d33 d34 d35 d36 d37 d38 d39 d40 d41 d42 d43:FuncData}(X:K.In h)(G:h.Ns mainGlobals mg)(hfa:mg "law"=some (.ref fa))
  {od an:Option Addr} {sl:Array (Option Value)} {oc kV dc pm cd ct:Value}
  (i1:DI K "_law_folded" R0 f1 d1) (i2:DI K "_law_begun" U9 f2 d2) (i3:DI K "_law_take" a0e f3 d3) (i4:DI K "_law_people" S4 f4 d4) (i5:DI K "_law_wide" Z9 f5 d5) (i6:DI K "_law_gain" Z1 f6 d6) (i7:DI K "_law_drawn_web" M0 f7 d7) (i8:DI K "_law_gains" V6 f8 d8) (i9:DI K "_law_drawn_pairing" D5 f9 d9) (i10:DI K "_law_bottom" S1 f10 d10) (i11:DI K "_law_ratio" X2 f11 d11) (i12:DI K "_law_minus" W4 f12 d12) (i13:DI K "_law_drawn_shares" E9 f13 d13) (i14:DI K "_law_drawn_sharing" C8 f14 d14) (i15:DI K "is_row" a23 f15 d15) (i16:DI K "parties" a2r f16 d16) (i17:DI K "is_whole" a1g f17 d17) (i18:DI K "is_party" a01 f18 d18) (i19:DI K "is_parties" W0 f19 d19) (i20:DI K "is_rising" a0l f20 d20) (i21:DI K "held" a63 f21 d21) (i22:DI K "is_pairing" X0 f22 d22) (i23:DI K "common_divisor" K7 f23 d23) (i24:DI K "is_ratio" a1e f24 d24) (i25:DI K "less" a6u f25 d25) (i26:DI K "is_shares" a0h f26 d26) (i27:DI K "gains" a4v f27 d27) (i28:DI K "gain_of" a1Y f28 d28) (i29:DI K "ratio" a4Z f29 d29) (i30:DI K "minus" a4A f30 d30) (i31:DI K "plus" a65 f31 d31) (i32:DI K "total" a5o f32 d32) (i33:DI K "slack" a4x f33 d33) (i34:DI K "is_sharing" X9 f34 d34) (i35:DI K "_law_plus" a0u f35 d35) (i36:DI K "_law_parted" T3 f36 d36) (i37:DI K "_law_other_pairing" D3 f37 d37) (i38:DI K "_law_other_shares" E3 f38 d38) (i39:DI K "_law_spoilt" R1 f39 d39) (i40:DI K "_law_whole" U8 f40 d40) (i41:DI K "_law_is_pairing" J9 f41 d41) (i42:DI K "_law_is_ratio" O0 f42 d42) (i43:DI K "_law_due" a1j f43 d43)
  (a:PySem.W.nsIn K mainGlobals "law"=some (some (.ref f44))) (ll:K.lookup f44=some ⟨oc,od,.func (PySem.W.fnOf "law" "law" (defArgs a1T) (defBody a1T) (defScope a1T) .none kV dc pm an cd ct),sl⟩) (c:PySem.W.codeIn K cd "law"=true) (k:PySem.W.keepIn K (.ref f44)=true)
  (y1:PySem.W.nsIn K mainGlobals "enumerate"=some none) (y2:PySem.W.nsIn K mainGlobals "min"=some none) (y3:PySem.W.nsIn K mainGlobals "max"=some none) (y4:PySem.W.nsIn K mainGlobals "len"=some none) (y5:PySem.W.nsIn K mainGlobals "abs"=some none) (y6:PySem.W.nsIn K mainGlobals "range"=some none) (y7:PySem.W.nsIn K mainGlobals "tuple"=some none) (y8:PySem.W.nsIn K mainGlobals "sorted"=some none) (y9:PySem.W.nsIn K mainGlobals "isinstance"=some none) (y10:PySem.W.nsIn K mainGlobals "int"=some none) (y11:PySem.W.nsIn K mainGlobals "bool"=some none) (y12:PySem.W.nsIn K mainGlobals "all"=some none) (y13:PySem.W.nsIn K mainGlobals "zip"=some none) (y14:PySem.W.nsIn K mainGlobals "list"=some none) (y15:PySem.W.nsIn K mainGlobals "str"=some none) {ga1:Addr} {gz1:Array (Option Value)} {gn1:Nat} {gt1_0 gt1_1:Tok} (n1:PySem.W.nsIn K mainGlobals "NOUGHT"=some (some (.ref ga1))) (q1:K.lookup ga1=some ⟨.type "tuple",none,.seq #[.int 0 gt1_0,.int 1 gt1_1] gn1,gz1⟩):
  ∃fd:FuncData,(∀(s:Shared) (v:Value),BindsTo s fd ⟨[v],[]⟩ [("script",v)])/\∀base:Heap,K.In base->base.Ns mainGlobals mg->FnOk l.prog w K mg base CX0 60 fa fd ["script"] (spLaw K):=by
 cases hfa.symm.trans (PySem.W.mg_of X G a)
 have a0a:=PySem.W.mg_none_of X G y1
 have m_min:=PySem.W.mg_none_of X G y2
 have m_max:=PySem.W.mg_none_of X G y3
 have m_len:=PySem.W.mg_none_of X G y4
 have m_abs:=PySem.W.mg_none_of X G y5
 have k8:=PySem.W.mg_none_of X G y6
 have j4:=PySem.W.mg_none_of X G y7
 have p6:=PySem.W.mg_none_of X G y8
 have c9:=PySem.W.mg_none_of X G y9
 have m_int:=PySem.W.mg_none_of X G y10
 have V7:=PySem.W.mg_none_of X G y11
 have m_all:=PySem.W.mg_none_of X G y12
 have m_zip:=PySem.W.mg_none_of X G y13
 have E5:=PySem.W.mg_none_of X G y14
 have m_str:=PySem.W.mg_none_of X G y15
 have G8:a1G mg K:=⟨ga1,PySem.W.mg_of X G n1,.inr ⟨_,_,_,q1,rfl,rfl,rfl,(show (2:Nat)<=sizeLine by decide),(.cons ⟨_,rfl⟩ (.cons ⟨_,rfl⟩ .nil))⟩⟩
 refine ⟨PySem.W.fnOf "law" "law" (defArgs a1T) (defBody a1T) (defScope a1T) .none kV dc pm an cd ct,fun s v=>.of_eq rfl,fun base _ _=>?_⟩
 obtain ⟨R8,S6,S8⟩:=a3a (P:=l.prog) (w:=w) (base:=base) (k:=0) a0a m_min m_max m_len i1.F (i1.F.binds (ps:=["cells","many"]) fun _ _ _ _ _ _ us hl=>us2 hl fun _ _=>rfl) (PySem.W.mg_of X G i1.a)
 obtain ⟨X7,W8,U6⟩:=a3z (P:=l.prog) (w:=w) (base:=base) (k:=0) m_abs i2.F (i2.F.binds (ps:=["cell"]) fun _ _ _ _ _ _ us hl=>us1 hl fun _=>rfl) (PySem.W.mg_of X G i2.a)
 obtain ⟨g5,c6,c5⟩:=a42 (P:=l.prog) (w:=w) (base:=base) (k:=0) i3.F (i3.F.binds (ps:=["pot","size"]) fun _ _ _ _ _ _ us hl=>us2 hl fun _ _=>rfl) (PySem.W.mg_of X G i3.a)
 obtain ⟨S7,Q9,T4⟩:=a3m (P:=l.prog) (w:=w) (base:=base) (k:=1) c6.up c5 i4.F (i4.F.binds (ps:=["pot"]) fun _ _ _ _ _ _ us hl=>us1 hl fun _=>rfl) (PySem.W.mg_of X G i4.a)
 obtain ⟨v5,v6,v4⟩:=a4X (P:=l.prog) (w:=w) (base:=base) (k:=1) c6.up c5 k8 i5.F (i5.F.binds (ps:=["pot","size"]) fun _ _ _ _ _ _ us hl=>us2 hl fun _ _=>rfl) (PySem.W.mg_of X G i5.a)
 obtain ⟨Z5,Z4,Z0⟩:=a4t (P:=l.prog) (w:=w) (base:=base) (k:=2) v6.up v4 c6.up c5 i6.F (i6.F.binds (ps:=["pot","kind"]) fun _ _ _ _ _ _ us hl=>us2 hl fun _ _=>rfl) (PySem.W.mg_of X G i6.a)
 obtain ⟨L9,L0,M1⟩:=a1s (P:=l.prog) (w:=w) (base:=base) (k:=3) Q9.up T4 c6.up c5 Z4.up Z0 k8 j4 i7.F (i7.F.binds (ps:=["pot"]) fun _ _ _ _ _ _ us hl=>us1 hl fun _=>rfl) (PySem.W.mg_of X G i7.a)
 obtain ⟨n9,m9,n6⟩:=a3D (P:=l.prog) (w:=w) (base:=base) (k:=0) k8 i8.F (i8.F.binds (ps:=["web"]) fun _ _ _ _ _ _ us hl=>us1 hl fun _=>rfl) (PySem.W.mg_of X G i8.a)
 obtain ⟨B9,C5,C2⟩:=Y4 (P:=l.prog) (w:=w) (base:=base) (k:=1) m9.up n6 c6.up c5 k8 j4 p6 m_len i9.F (i9.F.binds (ps:=["pot","web"]) fun _ _ _ _ _ _ us hl=>us2 hl fun _ _=>rfl) (PySem.W.mg_of X G i9.a)
 obtain ⟨T0,R6,R9⟩:=a25 (P:=l.prog) (w:=w) (base:=base) (k:=2) c6.up c5 v6.up v4 i10.F (i10.F.binds (ps:=["pot"]) fun _ _ _ _ _ _ us hl=>us1 hl fun _=>rfl) (PySem.W.mg_of X G i10.a)
 obtain ⟨m8,m7,n8⟩:=a3B (P:=l.prog) (w:=w) (base:=base) (k:=0) m_abs i11.F (i11.F.binds (ps:=["top","bottom"]) fun _ _ _ _ _ _ us hl=>us2 hl fun _ _=>rfl) (PySem.W.mg_of X G i11.a)
 obtain ⟨D7,D8,E1⟩:=a3F (P:=l.prog) (w:=w) (base:=base) (k:=1) m7.up n8 i12.F (i12.F.binds (ps:=["one","other"]) fun _ _ _ _ _ _ us hl=>us2 hl fun _ _=>rfl) (PySem.W.mg_of X G i12.a)
 obtain ⟨E7,F0,E4⟩:=a0j (P:=l.prog) (w:=w) (base:=base) (k:=3) m9.up n6 R6.up R9 m7.up n8 D8.up E1 v6.up v4 j4 k8 m_len i13.F (i13.F.binds (ps:=["pot","web","pairing"]) fun _ _ _ _ _ _ us hl=>us3 hl fun _ _ _=>rfl) (PySem.W.mg_of X G i13.a)
 obtain ⟨C6,D2,C9⟩:=Y3 (P:=l.prog) (w:=w) (base:=base) (k:=4) C5.up C2 F0.up E4 i14.F (i14.F.binds (ps:=["pot","web"]) fun _ _ _ _ _ _ us hl=>us2 hl fun _ _=>rfl) (PySem.W.mg_of X G i14.a)
 obtain ⟨G9,J6,I0⟩:=a8j (P:=l.prog) (w:=w) (base:=base) (k:=0) c9 j4 m_len i15.F (i15.F.binds (ps:=["thing","count"]) fun _ _ _ _ _ _ us hl=>us2 hl fun _ _=>rfl) (PySem.W.mg_of X G i15.a)
 obtain ⟨a2l,a2b,a2h⟩:=a66 (P:=l.prog) (w:=w) (base:=base) (k:=0) p6 k8 i16.F (i16.F.binds (ps:=["web"]) fun _ _ _ _ _ _ us hl=>us1 hl fun _=>rfl) (PySem.W.mg_of X G i16.a)
 obtain ⟨K8,F7,F8⟩:=a6i (P:=l.prog) (w:=w) (base:=base) (k:=0) c9 m_int V7 i17.F (i17.F.binds (ps:=["thing"]) fun _ _ _ _ _ _ us hl=>us1 hl fun _=>rfl) (PySem.W.mg_of X G i17.a)
 obtain ⟨L8,L3,L5⟩:=a6k (P:=l.prog) (w:=w) (base:=base) (k:=1) a2b.up a2h F7.up F8 c9 j4 m_all i18.F (i18.F.binds (ps:=["web","thing"]) fun _ _ _ _ _ _ us hl=>us2 hl fun _ _=>rfl) (PySem.W.mg_of X G i18.a)
 obtain ⟨W7,W6,V4⟩:=a3H (P:=l.prog) (w:=w) (base:=base) (k:=2) L3.up L5 c9 j4 m_all i19.F (i19.F.binds (ps:=["web","thing"]) fun _ _ _ _ _ _ us hl=>us2 hl fun _ _=>rfl) (PySem.W.mg_of X G i19.a)
 obtain ⟨a0i,Z2,a0p⟩:=a5c (P:=l.prog) (w:=w) (base:=base) (k:=0) m_all m_zip i20.F (i20.F.binds (ps:=["row"]) fun _ _ _ _ _ _ us hl=>us1 hl fun _=>rfl) (PySem.W.mg_of X G i20.a)
 obtain ⟨a6X,a61,a6W⟩:=b2g (P:=l.prog) (w:=w) (base:=base) (k:=0) p6 i21.F (i21.F.binds (ps:=["some"]) fun _ _ _ _ _ _ us hl=>us1 hl fun _=>rfl) (PySem.W.mg_of X G i21.a)
 obtain ⟨W2,V2,V9⟩:=a3E (P:=l.prog) (w:=w) (base:=base) (k:=3) W6.up V4 Z2.up a0p a61.up a6W E5 k8 i22.F (i22.F.binds (ps:=["web","thing"]) fun _ _ _ _ _ _ us hl=>us2 hl fun _ _=>rfl) (PySem.W.mg_of X G i22.a)
 obtain ⟨u3,u4,t9⟩:=a1M (P:=l.prog) (w:=w) (base:=base) (k:=0) i23.F (i23.F.binds (ps:=["one","other"]) fun _ _ _ _ _ _ us hl=>us2 hl fun _ _=>rfl) (PySem.W.mg_of X G i23.a)
 obtain ⟨a1c,a07,a02⟩:=a6n (P:=l.prog) (w:=w) (base:=base) (k:=1) J6.up I0 F7.up F8 u4.up t9 m_abs i24.F (i24.F.binds (ps:=["thing"]) fun _ _ _ _ _ _ us hl=>us1 hl fun _=>rfl) (PySem.W.mg_of X G i24.a)
 obtain ⟨a6z,a67,a6G⟩:=b2d (P:=l.prog) (w:=w) (base:=base) (k:=0) i25.F (i25.F.binds (ps:=["one","other"]) fun _ _ _ _ _ _ us hl=>us2 hl fun _ _=>rfl) (PySem.W.mg_of X G i25.a)
 obtain ⟨a0r,a0m,Y5⟩:=a5p (P:=l.prog) (w:=w) (base:=base) (k:=2) J6.up I0 a07.up a02 a67.up a6G m_all G8 i26.F (i26.F.binds (ps:=["web","thing"]) fun _ _ _ _ _ _ us hl=>us2 hl fun _ _=>rfl) (PySem.W.mg_of X G i26.a)
 obtain ⟨a41,a4B,a4K⟩:=b0f (P:=l.prog) (w:=w) (base:=base) (k:=0) i27.F (i27.F.binds (ps:=["web"]) fun _ _ _ _ _ _ us hl=>us1 hl fun _=>rfl) (PySem.W.mg_of X G i27.a)
 obtain ⟨a2d,a13,a2m⟩:=a7a (P:=l.prog) (w:=w) (base:=base) (k:=2) L3.up L5 a4B.up a4K i28.F (i28.F.binds (ps:=["web","party"]) fun _ _ _ _ _ _ us hl=>us2 hl fun _ _=>rfl) (PySem.W.mg_of X G i28.a)
 obtain ⟨a0F,a0I,a0A⟩:=a82 (P:=l.prog) (w:=w) (base:=base) (k:=1) u4.up t9 m_abs i29.F (i29.F.binds (ps:=["top","bottom"]) fun _ _ _ _ _ _ us hl=>us2 hl fun _ _=>rfl) (PySem.W.mg_of X G i29.a)
 obtain ⟨a4G,a5n,a4V⟩:=b0e (P:=l.prog) (w:=w) (base:=base) (k:=2) a0I.up a0A i30.F (i30.F.binds (ps:=["one","other"]) fun _ _ _ _ _ _ us hl=>us2 hl fun _ _=>rfl) (PySem.W.mg_of X G i30.a)
 obtain ⟨a6P,a6F,a69⟩:=b1j (P:=l.prog) (w:=w) (base:=base) (k:=2) a0I.up a0A i31.F (i31.F.binds (ps:=["one","other"]) fun _ _ _ _ _ _ us hl=>us2 hl fun _ _=>rfl) (PySem.W.mg_of X G i31.a)
 obtain ⟨a4D,a5i,a5f⟩:=a89 (P:=l.prog) (w:=w) (base:=base) (k:=3) a6F.up a69 G8 i32.F (i32.F.binds (ps:=["some"]) fun _ _ _ _ _ _ us hl=>us1 hl fun _=>rfl) (PySem.W.mg_of X G i32.a)
 obtain ⟨a4y,a47,a4R⟩:=a86 (P:=l.prog) (w:=w) (base:=base) (k:=4) a13.up a2m a5n.up a4V a5i.up a5f i33.F (i33.F.binds (ps:=["web","shares","party"]) fun _ _ _ _ _ _ us hl=>us3 hl fun _ _ _=>rfl) (PySem.W.mg_of X G i33.a)
 obtain ⟨V0,P1,O9⟩:=a3y (P:=l.prog) (w:=w) (base:=base) (k:=5) J6.up I0 V2.up V9 a0m.up Y5 a47.up a4R m_all G8 i34.F (i34.F.binds (ps:=["web","thing"]) fun _ _ _ _ _ _ us hl=>us2 hl fun _ _=>rfl) (PySem.W.mg_of X G i34.a)
 obtain ⟨G4,C1,D1⟩:=a5e (P:=l.prog) (w:=w) (base:=base) (k:=1) m7.up n8 i35.F (i35.F.binds (ps:=["one","other"]) fun _ _ _ _ _ _ us hl=>us2 hl fun _ _=>rfl) (PySem.W.mg_of X G i35.a)
 obtain ⟨S0,S5,T1⟩:=a3d (P:=l.prog) (w:=w) (base:=base) (k:=2) D8.up E1 C1.up D1 c6.up c5 E5 j4 m_len i36.F (i36.F.binds (ps:=["pot","pairing","shares"]) fun _ _ _ _ _ _ us hl=>us3 hl fun _ _ _=>rfl) (PySem.W.mg_of X G i36.a)
 obtain ⟨B7,B8,C0⟩:=Y2 (P:=l.prog) (w:=w) (base:=base) (k:=1) c6.up c5 E5 j4 m_len p6 i37.F (i37.F.binds (ps:=["pot","pairing"]) fun _ _ _ _ _ _ us hl=>us2 hl fun _ _=>rfl) (PySem.W.mg_of X G i37.a)
 obtain ⟨E2,E6,E8⟩:=Y7 (P:=l.prog) (w:=w) (base:=base) (k:=1) c6.up c5 E5 m_len m_int j4 i38.F (i38.F.binds (ps:=["pot","shares"]) fun _ _ _ _ _ _ us hl=>us2 hl fun _ _=>rfl) (PySem.W.mg_of X G i38.a)
 obtain ⟨S3,R3,T5⟩:=a2W (P:=l.prog) (w:=w) (base:=base) (k:=3) c6.up c5 S5.up T1 B8.up C0 E6.up E8 m_len i39.F (i39.F.binds (ps:=["pot","sharing"]) fun _ _ _ _ _ _ us hl=>us2 hl fun _ _=>rfl) (PySem.W.mg_of X G i39.a)
 obtain ⟨D9,A6,A2⟩:=a3G (P:=l.prog) (w:=w) (base:=base) (k:=0) c9 m_int V7 i40.F (i40.F.binds (ps:=["thing"]) fun _ _ _ _ _ _ us hl=>us1 hl fun _=>rfl) (PySem.W.mg_of X G i40.a)
 obtain ⟨G6,J3,J1⟩:=a09 (P:=l.prog) (w:=w) (base:=base) (k:=1) m9.up n6 A6.up A2 c9 j4 m_all E5 p6 k8 i41.F (i41.F.binds (ps:=["web","thing"]) fun _ _ _ _ _ _ us hl=>us2 hl fun _ _=>rfl) (PySem.W.mg_of X G i41.a)
 obtain ⟨O3,N9,O4⟩:=a2a (P:=l.prog) (w:=w) (base:=base) (k:=1) A6.up A2 m7.up n8 c9 j4 m_len i42.F (i42.F.binds (ps:=["thing"]) fun _ _ _ _ _ _ us hl=>us1 hl fun _=>rfl) (PySem.W.mg_of X G i42.a)
 obtain ⟨a1i,a06,a1l⟩:=a5L (P:=l.prog) (w:=w) (base:=base) (k:=2) m9.up n6 J3.up J1 C1.up D1 N9.up O4 m_all c9 j4 m_len i43.F (i43.F.binds (ps:=["web","thing"]) fun _ _ _ _ _ _ us hl=>us2 hl fun _ _=>rfl) (PySem.W.mg_of X G i43.a)
 exact b25 (P:=l.prog) (w:=w) (base:=base) (k:=59) S6.up S8 W8.up U6 L0.up M1 D2.up C9 P1.up O9 R3.up T5 a06.up a1l k8 m_str c9 V7 (b0l (st:=a1T) ll c k)
end Q13
open PySem PySem.W PyProof.Rows
namespace PySem.W.Fast
def tw12092912972904171310:=()
def tw9922117282852256695:=()
def tw18415531270610774611:=()
def tw7903750005609189660:=()
def tw13012626780268596338:=()
def tw9139900915899769014:=()
def tw6037032792116568523:=()
def tw8813039128647435902:=()
def tw10126700692948297398:=()
def tw16351653565651176671:=()
def tw6771379442468669416:=()
def tw16693660299623816541:=()
def tw6693232955134865241:=()
def tw2087645909056195527:=()
def tw531725690034439190:=()
def tw16711550664075835707:=()
def tw11831093906841242934:=()
def tw9599767623734741149:=()
def tw3218607510373976675:=()
def tw12951024138290090592:=()
def tw14914105485010582530:=()
def tw12577560959691975122:=()
def tw11943767657166405268:=()
def tw2873282458992288879:=()
def tw13762838669784259732:=()
def tw7513254414807865043:=()
def tw8840389512404734761:=()
def tw17902542187052028128:=()
def tw9858216000865549928:=()
def tw3051800386644101539:=()
def tw3673945137616874355:=()
def tw10782960123545299691:=()
def tw2834359720527947658:=()
def tw13680452515576937968:=()
def tw7771316561482713687:=()
def tw10610397252085791149:=()
def tw6129104273491683890:=()
def tw12703666419669504004:=()
def tw3857797553432501642:=()
def tw8050901277959714109:=()
def tw3746520356579597553:=()
def tw5519990481544664653:=()
def tw3868503875509614489:=()
def tw11031686220128555769:=()
def tw14300204397848645923:=()
def tw14922515127591352762:=()
def tw12560302745494428219:=()
def tw13919738964096707463:=()
def tw574621972128546271:=()
def tw5341434596448739618:=()
def tw8275124525111031422:=()
def tw128199881375326512:=()
def tw17195837511935317423:=()
def tw11336405684351264451:=()
def tw6863393452596450098:=()
def tw2652567244409242048:=()
def tw8673184458795824425:=()
def tw18032997661527236638:=()
def tw7750203588711396064:=()
def tw4696060774382220229:=()
def tw16992176166069409974:=()
def tw1776273963637676065:=()
def tw9148868983849713515:=()
def tw12319325890823243224:=()
def tw18179069461755162876:=()
def tw15872076435642290023:=()
def tw13701038460943896122:=()
def tw1047574637966202331:=()
def tw9259729611062935859:=()
def tw6476882058862194730:=()
def tw16856690357334178023:=()
def tw14382709790314965122:=()
def tw10414928824915541692:=()
def tw2685125144484911561:=()
def tw4774001848275832946:=()
def tw13847049829622261228:=()
def tw10414597773829890562:=()
def tw14373502939891123339:=()
def tw3372272363214533573:=()
def tw1381706794412879393:=()
def tw13986367446356732759:=()
def tw4001069043315577511:=()
def tw16015796795155362794:=()
def tw9185445103404120857:=()
def tw8066646505576147083:=()
def tw13523346965649150754:=()
def tw9347315891924424437:=()
def tw18356550351993503189:=()
def tw13498655204289313713:=()
def tw13310140869926210396:=()
def tw3982422481295230799:=()
def tw12245516343787349194:=()
def tw8627843232066252859:=()
def tw2625324535568110754:=()
def tw17689899517915248762:=()
def tw7396644708291173171:=()
def tw8871368272115241812:=()
def tw369722597724499064:=()
def tw16216867565902287605:=()
def tw13620732065701821963:=()
def tw14387123174384018467:=()
def tw683934727785085948:=()
def tw15940891313135972947:=()
def tw17218863699767117420:=()
def tw5254638947837611714:=()
def tw17792019502210866570:=()
def tw6266019081039245517:=()
def tw15447881325608425812:=()
def tw13268184597516565602:=()
def tw2788780040187527826:=()
def tw3434127626431291447:=()
def tw18173862538501683888:=()
def tw9975993104383466166:=()
def tw4178588079768069281:=()
def tw8638511541454441430:=()
def tw11382375496364131132:=()
def tw1110132213700746534:=()
def tw14863952419991157248:=()
def tw1126962155425926906:=()
def tw12292947563153395037:=()
def tw8385712903735994155:=()
def tw7829929981440410918:=()
def tw563076583520144604:=()
def tw5886604083919452415:=()
def tw7517394207916304928:=()
def tw6152746275495796147:=()
def tw15360033288879713441:=()
def tw13209513688446253454:=()
def tw9905977861180838198:=()
def tw9765927133419149091:=()
def tw9514991850718631728:=()
def tw9464100946760304500:=()
def tw9220628047009437216:=()
def tw8938943217311516287:=()
def tw7895301263658489666:=()
def tw7890863694260491068:=()
def tw7294231062780293679:=()
def tw6803434472148185532:=()
def tw6697373166055766076:=()
def tw6301448791480970696:=()
def tw6008566527857162170:=()
def tw5455191057300238187:=()
def tw507829452579764277:=()
def tw4702521103052799298:=()
def tw4481237995456180147:=()
def tw4190121921633358009:=()
def tw3946161949476504509:=()
def tw3838243640392830133:=()
def tw3284752500162581608:=()
def tw3133648573128426600:=()
def tw3077958264275298937:=()
def tw3066491372514296928:=()
def tw2776600856461131990:=()
def tw2693515389517111831:=()
def tw2508141532460823868:=()
def tw2232869289038342260:=()
def tw17165671370622690819:=()
def tw16737789875521750635:=()
def tw16067179235100307710:=()
def tw16054456711992897928:=()
def tw15762237558202984041:=()
def tw15437803376643302375:=()
def tw14920312433380430564:=()
def tw14865123716864621220:=()
def tw14313122742924843911:=()
def tw13731989538156900034:=()
def tw13660739347756463873:=()
def tw13585164721396464885:=()
def tw12367024795110030944:=()
def tw11922527166366304643:=()
def tw11417241786465524655:=()
def tw11175325826557639636:=()
def tw10375654642368848379:=()
def tw1016693805147944624:=()
def tw10056494836011484413:=()
def tw4949648841921174051:=()
def tw9679497463237272610:=()
def tw9106044563802315380:=()
def tw7900196374356165580:=()
def tw7298766345949803363:=()
def tw7203966062360112846:=()
def tw4462411676690415952:=()
def tw3644090596838886284:=()
def tw2491400255390633991:=()
def tw14651220271451281287:=()
def tw13027699462782492851:=()
def tw11155249501822157839:=()
def tw10523092326645974765:=()
def tw16090496073002359223:=()
def tw9177624880720504203:=()
def tw382383598441183643:=()
def tw3242577247026316651:=()
def tw16896922947914561617:=()
def tw16480101726034202607:=()
def tw14228383938728262963:=()
def tw708511283760746899:=()
def tw7034296792702706924:=()
def tw5478150758091049834:=()
def tw17362954591039006052:=()
def tw844951261915129409:=()
def tw2933745255760991027:=()
def tw16747833523197128742:=()
def tw17523619439018921150:=()
def tw16435525371133628965:=()
def tw14216914118698986062:=()
def tw10609545845406821889:=()
def tw9566642951571582838:=()
def tw8715360908409234497:=()
def tw868852880681824319:=()
def tw8641419004728649730:=()
def tw8337775342248237009:=()
def tw8284241139786652473:=()
def tw8172685947588683077:=()
def tw816623512855671415:=()
def tw7954366492448342393:=()
def tw7864945183873393485:=()
def tw7711098963368833473:=()
def tw7632317387387396661:=()
def tw7556973649714650686:=()
def tw741294757631745268:=()
def tw7336803489076752326:=()
def tw7207490381365516227:=()
def tw6601837522772105538:=()
def tw6467521707785116032:=()
def tw6348565223435103324:=()
def tw6323535487741272377:=()
def tw6034434200639591229:=()
def tw5842541308606414891:=()
def tw5667537906072704556:=()
def tw5557716736167229974:=()
def tw5486825712764189115:=()
def tw5421449486369447947:=()
def tw5147747862016039538:=()
def tw5045933961356165932:=()
def tw5045558303945272008:=()
def tw5038337795832652134:=()
def tw502927376265306239:=()
def tw4703800600997843507:=()
def tw4372781656539024457:=()
def tw4296284530363695266:=()
def tw4283790464270929491:=()
def tw4245838932943861933:=()
def tw4169454684437281103:=()
def tw4162929375778754507:=()
def tw3984449083997573763:=()
def tw384622979852530660:=()
def tw3820532430574877884:=()
def tw3682641257387927842:=()
def tw3380479411752116348:=()
def tw3333668445851722141:=()
def tw3310854215096790331:=()
def tw3306445547527409963:=()
def tw3153708152601657794:=()
def tw214733718352731085:=()
def tw210779391014781164:=()
def tw1893388340398882262:=()
def tw18139090398221732843:=()
def tw17731115206453222651:=()
def tw17711118751163266613:=()
def tw17687236990638842089:=()
def tw1755016863489564151:=()
def tw17313282641487752503:=()
def tw16787293334535185600:=()
def tw16346618040669892573:=()
def tw16194640185135962943:=()
def tw15977378077866609868:=()
def tw15611344720506369061:=()
def tw1551244203432344840:=()
def tw15001663479546760886:=()
def tw14198575718646920952:=()
def tw13565981139934805210:=()
def tw13381793337181675747:=()
def tw13264959026531354186:=()
def tw13242396629139155653:=()
def tw13217255071904971226:=()
def tw1306102499995865096:=()
def tw1290274585304165239:=()
def tw11828192649681186850:=()
def tw11807882680973772350:=()
def tw11446452255894138944:=()
def tw11238077315407281071:=()
def tw1119830754850514240:=()
def tw11008210333744050812:=()
def tw10957550484083489401:=()
def tw10729234191178707441:=()
def tw10679997372552084193:=()
def tw10353218731700452449:=()
def tw1023373306131633922:=()
def tw10210810801047251536:=()
def tw10082160597537504694:=()
def tw10022576930287424785:=()
end PySem.W.Fast
set_option maxRecDepth 100000 in
set_option maxHeartbeats 0 in
theorem PySem.Challenge.cw_twainhoard_k13_sharings_known_holds : PySem.Challenge.rw_twainhoard_k13_sharings_known.Holds := by
 w_on;o_law;k_head;(case hw=>w_witness2)
 k_fill
 refine Z.walk (l:=PySem.Challenge.rw_twainhoard_k13_sharings_known) rfl rfl (fun w h Y=>PySem.W.kIn_of Y) ?F
 case F=>
  intro w mg fa h KX G hmg
  refine' Q13.b2U KX G hmg (Q13.DI.mk2 ?_ ?_ ?_ ?_) (Q13.DI.mk2 ?_ ?_ ?_ ?_) (Q13.DI.mk2 ?_ ?_ ?_ ?_) (Q13.DI.mk2 ?_ ?_ ?_ ?_) (Q13.DI.mk2 ?_ ?_ ?_ ?_) (Q13.DI.mk2 ?_ ?_ ?_ ?_) (Q13.DI.mk2 ?_ ?_ ?_ ?_) (Q13.DI.mk2 ?_ ?_ ?_ ?_) (Q13.DI.mk2 ?_ ?_ ?_ ?_) (Q13.DI.mk2 ?_ ?_ ?_ ?_) (Q13.DI.mk2 ?_ ?_ ?_ ?_) (Q13.DI.mk2 ?_ ?_ ?_ ?_) (Q13.DI.mk2 ?_ ?_ ?_ ?_) (Q13.DI.mk2 ?_ ?_ ?_ ?_) (Q13.DI.mk2 ?_ ?_ ?_ ?_) (Q13.DI.mk2 ?_ ?_ ?_ ?_) (Q13.DI.mk2 ?_ ?_ ?_ ?_) (Q13.DI.mk2 ?_ ?_ ?_ ?_) (Q13.DI.mk2 ?_ ?_ ?_ ?_) (Q13.DI.mk2 ?_ ?_ ?_ ?_) (Q13.DI.mk2 ?_ ?_ ?_ ?_) (Q13.DI.mk2 ?_ ?_ ?_ ?_) (Q13.DI.mk2 ?_ ?_ ?_ ?_) (Q13.DI.mk2 ?_ ?_ ?_ ?_) (Q13.DI.mk2 ?_ ?_ ?_ ?_) (Q13.DI.mk2 ?_ ?_ ?_ ?_) (Q13.DI.mk2 ?_ ?_ ?_ ?_) (Q13.DI.mk2 ?_ ?_ ?_ ?_) (Q13.DI.mk2 ?_ ?_ ?_ ?_) (Q13.DI.mk2 ?_ ?_ ?_ ?_) (Q13.DI.mk2 ?_ ?_ ?_ ?_) (Q13.DI.mk2 ?_ ?_ ?_ ?_) (Q13.DI.mk2 ?_ ?_ ?_ ?_) (Q13.DI.mk2 ?_ ?_ ?_ ?_) (Q13.DI.mk2 ?_ ?_ ?_ ?_) (Q13.DI.mk2 ?_ ?_ ?_ ?_) (Q13.DI.mk2 ?_ ?_ ?_ ?_) (Q13.DI.mk2 ?_ ?_ ?_ ?_) (Q13.DI.mk2 ?_ ?_ ?_ ?_) (Q13.DI.mk2 ?_ ?_ ?_ ?_) (Q13.DI.mk2 ?_ ?_ ?_ ?_) (Q13.DI.mk2 ?_ ?_ ?_ ?_) (Q13.DI.mk2 ?_ ?_ ?_ ?_) ?_ ?_ ?_ ?_ ?_ ?_ ?_ ?_ ?_ ?_ ?_ ?_ ?_ ?_ ?_ ?_ ?_ ?_ ?_ ?_ ?_
  all_goals try k_is
