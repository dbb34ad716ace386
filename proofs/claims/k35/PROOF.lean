import PyProof.Rows.All
import Wide.All
import OpenK.AllK
import Wide.FinOn
import Lean
import PyProof.EqAt
import PyProof.EqKinds
import PyProof.TupleCall
import PyProof.CompUse
import PyProof.SumWalkG
import KE.KSort
import PyProof.EnumMake
import PyProof.Rows.ZipGen
import PyProof.Rows.RuleDivmod
import PyProof.ListRange
import KE.KDictSum
import KE.KSortTup
import PyProof.DictCompW
import PyProof.ListMulAny
import PyProof.ReprRoads
import PyProof.FitsInt
import PyProof.WalksMore
import PySem.Challenge.RW_twainhoard_k35_whole_slacks_of_swaps
set_option Elab.async false
set_option compiler.extract_closed false
set_option genSizeOf false
set_option genInjectivity false
set_option bootstrap.genMatcherCode false
set_option linter.all false
set_option maxRecDepth 100000
theorem ex5 {α β:Type}{A B C:α->β->Prop}{G:Prop}(h:∃x y,A x y/\B x y/\C x y)(k:∀x y,A x y->B x y->C x y->G):G:=by
 obtain ⟨x,y,a,b,c⟩:=h
 exact k x y a b c
noncomputable section
local macro_rules | `(tactic| walk_at "o") => `(tactic| first | lia | omega)
namespace L2
open PySem PySem.Spec PyProof.Rows
abbrev Key:=Sum Int Str
def keyIs:Key->Value->Bool
 | .inl k,v=>Value.isInt k v
 | .inr x,v=>Value.isStrOf x v
def keyH (w:World):Key->Int
 | .inl k=>hashInt k
 | .inr x=>hashStr w x
theorem r6:∀{k:Key} {v:Value},keyIs k v=true->(∃i t,k=Sum.inl i/\v=Value.int i t)\/(∃x t,k=Sum.inr x/\v=Value.str x t)
 | .inl i,v,h=>by
  obtain ⟨t,e⟩:=Value.isInt_shape (k:=i) (v:=v) h
  exact .inl ⟨i,t,rfl,e⟩
 | .inr x,v,h=>by
  obtain ⟨t,e⟩:=Value.isStrOf_shape (x:=x) (v:=v) h
  exact .inr ⟨x,t,rfl,e⟩
theorem a6L (i:Int)(t:Tok):keyIs (.inl i) (.int i t)=true:=by simp [keyIs,Value.isInt]
theorem a68 (x:Str)(t:Tok):keyIs (.inr x) (.str x t)=true:=by simp [keyIs,Value.isStrOf]
theorem b2n (a b:Int):decide ((Sum.inl a:Key)=Sum.inl b)=(a == b):=by
 by_cases e:a=b
 ·subst e;simp
 ·have h:¬(Sum.inl a:Key)=Sum.inl b:=fun q=>e (Sum.inl.inj q)
  rw [decide_eq_false h]
  exact (beq_eq_false_iff_ne.mpr e).symm
theorem b1O (a b:Str):decide ((Sum.inr a:Key)=Sum.inr b)=decide (a=b):=by
 by_cases e:a=b
 ·subst e;simp
 ·have h:¬(Sum.inr a:Key)=Sum.inr b:=fun q=>e (Sum.inr.inj q)
  rw [decide_eq_false h,decide_eq_false e]
theorem b1U (a:Int)(b:Str):decide ((Sum.inl a:Key)=Sum.inr b)=false:=decide_eq_false (fun q=>nomatch q)
theorem b2D (a:Str)(b:Int):decide ((Sum.inr a:Key)=Sum.inl b)=false:=decide_eq_false (fun q=>nomatch q)
def mixKind (prog:Program) (w:World):PySem.KeyKind prog w Key where
 is:=keyIs
 hash:=keyH w
 inj:=fun v a b ha hb=>by
  rcases r6 ha with ⟨i,t,rfl,rfl⟩ | ⟨x,t,rfl,rfl⟩
  ·rcases r6 hb with ⟨j,u,rfl,e⟩ | ⟨y,u,rfl,e⟩
   ·injection e with e1 _;rw [e1]
   ·exact nomatch e
  ·rcases r6 hb with ⟨j,u,rfl,e⟩ | ⟨y,u,rfl,e⟩
   ·exact nomatch e
   ·injection e with e1 _;rw [e1]
 byValue:=fun k v h=>by
  rcases r6 h with ⟨i,t,rfl,rfl⟩ | ⟨x,t,rfl,rfl⟩ <;> rfl
 pyHash:=fun hv h=>by
  rcases r6 hv with ⟨i,t,rfl,rfl⟩ | ⟨x,t,rfl,rfl⟩
  ·exact wpAny_pyHash_int h
  ·exact wpAny_pyHash_str h
 eqBool:=fun hu hv h=>by
  rcases r6 hu with ⟨i,t,rfl,rfl⟩ | ⟨x,t,rfl,rfl⟩
  ·rcases r6 hv with ⟨j,u,rfl,rfl⟩ | ⟨y,u,rfl,rfl⟩
   ·rw [b2n] at h;exact wpAny_eqBool_int h
   ·rw [b1U] at h;exact SeqAt.EqAt.int_str i t y u _ _ _ _ h
  ·rcases r6 hv with ⟨j,u,rfl,rfl⟩ | ⟨y,u,rfl,rfl⟩
   ·rw [b2D] at h;exact SeqAt.EqAt.str_int x t j u _ _ _ _ h
   ·rw [b1O] at h;exact wpAny_eqBool_str h
 «strs»:=fun k x t v h=>by
  rcases r6 h with ⟨i,u,rfl,e⟩ | ⟨y,u,rfl,e⟩
  ·exact nomatch e
  ·injection e with e1 _
   subst e1
   cases v <;> rfl
theorem a3U (prog:Program)(w:World)(i:Int)(t:Tok):(mixKind prog w).is (.inl i) (.int i t)=true:=a6L i t
theorem a3n (prog:Program)(w:World)(x:Str)(t:Tok):(mixKind prog w).is (.inr x) (.str x t)=true:=a68 x t
inductive V where
 | non | bl (b:Bool) | int (i:Int) | str (x:Str) | byt (b:Array UInt8) | flt (b:UInt64) | ref (a:Addr) | ty (n:String)
def RelV:V->Value->Prop
 | .non,u=>u=Value.none
 | .bl b,u=>u=Value.bool b
 | .int i,u=>∃t,u=Value.int i t
 | .str x,u=>∃t,u=Value.str x t
 | .byt b,u=>∃t,u=Value.bytes b t
 | .flt b,u=>∃t,u=Value.float b t
 | .ref a,u=>u=Value.ref a
 | .ty n,u=>u=Value.type n
abbrev Vals:List V->List Value->Prop:=Paired RelV
theorem Vals.length {xs:List V}{us:List Value}(r:Vals xs us):xs.length=us.length:=Paired.length r
theorem Vals.get:∀{xs:List V} {us:List Value} {i:Nat} {x:V},Vals xs us->xs[i]? =some x->∃u,us[i]? =some u/\RelV x u
 | _,_,_,_,.nil,e=>by simp at e
 | _,_,0,_,.cons r _,e=>by simp at e;subst e;exact ⟨_,rfl,r⟩
 | _,_,i + 1,x,.cons _ t,e=>by
  obtain ⟨u,h1,h2⟩:=Vals.get (i:=i) (x:=x) t (by simpa using e)
  exact ⟨u,by simpa using h1,h2⟩
theorem Vals.set {x:V}{u:Value}(r:RelV x u):∀{xs:List V} {us:List Value} (i:Nat),Vals xs us->Vals (xs.set i x) (us.set i u)
 | _,_,_,.nil=>.nil
 | _,_,0,.cons _ t=>.cons r t
 | _,_,i + 1,.cons q t=>.cons q (Vals.set r i t)
theorem Vals.append:∀{xs ys:List V} {us ws:List Value},Vals xs us->Vals ys ws->Vals (xs ++ ys) (us ++ ws)
 | _,_,_,_,.nil,s=>s
 | _,_,_,_,.cons r t,s=>.cons r (Vals.append t s)
theorem Vals.take:∀{xs:List V} {us:List Value} (n:Nat),Vals xs us->Vals (xs.take n) (us.take n)
 | _,_,0,_=>.nil
 | _,_,_ + 1,.nil=>.nil
 | _,_,n + 1,.cons r t=>.cons r (Vals.take n t)
theorem Vals.drop:∀{xs:List V} {us:List Value} (n:Nat),Vals xs us->Vals (xs.drop n) (us.drop n)
 | _,_,0,r=>r
 | _,_,_ + 1,.nil=>.nil
 | _,_,n + 1,.cons _ t=>Vals.drop n t
def RelO:Option V->Option Value->Prop
 | some v,some u=>RelV v u
 | none,none=>True
 | _,_=>False
def KV {κ:Type}:List (κ×V)->List (κ×Value)->Prop:=Paired fun (p:κ×V) (q:κ×Value)=>p.1=q.1/\RelV p.2 q.2
def kV:Key->V
 | .inl i=>.int i
 | .inr x=>.str x
inductive HO where
 | lst (xs:List V)
 | tup (xs:List V)
 | dK (kvs:List (Key×V)) | dT (kvs:List (List Key×V))
 | set (S:Int->Bool) (n:Nat)
 | ins (C dx:Addr) (fs:List (Str×V))
 | own (x:Addr)
 | xd (fs:List (Str×V))
 | met (f x:Addr)
 | rng (lo hi:Int)
 | frz (o:Obj) (u:HO)
 | tbl (ps:Array Value)
 | ext (φ:Heap->Prop)
abbrev Hp:=Addr->Option HO
def upd (H:Hp) (a:Addr) (o:HO):Hp:=fun b=>if b=a then some o else H b
theorem j9 {H:Hp}{a:Addr}{o:HO}:upd H a o a=some o:=by unfold upd;rw [if_pos rfl]
theorem c8 {H:Hp}{a b:Addr}{o:HO}(h:b≠a):upd H a o b=H b:=by unfold upd;rw [if_neg h]
theorem b1b {H:Hp}{a b:Addr}{o u:HO}(h:H a=some o)(h':H b=some u)(d:o≠u):a≠b:=by
 intro e;subst e;rw [h] at h';exact d (Option.some.inj h')
theorem m4 {H:Hp}{a b:Addr}{o:HO}(h:H a=some o)(h':H b=none):a≠b:=by
 intro e;subst e;rw [h] at h';cases h'
def TupN (h:Heap) (a:Addr) (its:Array Value):Prop:=∃o,h.get? a=some o/\o.cls= .type "tuple"/\(∃n,o.data= .seq its n)/\o.dict=none
theorem TupN.is {h:Heap}{a:Addr}{its:Array Value}(x:TupN h a its):IsTup h a its:=let ⟨o,e,c,d,_⟩:=x;⟨o,e,c,d⟩
theorem TupN.new (h:Heap)(its:Array Value):TupN (h.push {cls:=.type "tuple",data:=.seq its}) h.objs.size its:=⟨_,Heap.get?_push_size _ rfl,rfl,⟨_,rfl⟩,rfl⟩
section
variable (P:Program)(w:World)
def ObjOk (H:Hp) (h:Heap) (a:Addr):HO->Prop
 | .lst xs=>xs.length<=sizeLine/\∃(its:List Value) (n:Nat),Vals xs its/\h.get? a=some {cls:=.type "list",data:=.seq its.toArray n}
 | .tup xs=>xs.length<=sizeLine/\∃its:List Value,Vals xs its/\TupN h a its.toArray
 | .dK kvs=>kvs.length<=sizeLine/\(a == sysModules)=false/\∃vs,KV kvs vs/\h.DictOf (mixKind P w) a vs
 | .dT kvs=>kvs.length<=sizeLine/\(a == sysModules)=false/\∃xs:List (List Key×Addr×Value),
   Paired (fun (p:List Key×V) (q:List Key×Addr×Value)=>p.1=q.1/\H q.2.1=some (.tup (p.1.map kV))/\RelV p.2 q.2.2) kvs xs/\
   ∃o es ep,h.get? a=some o/\o.ExactDict/\o.data= .dict es ep/\es.toList=xs.map (entryOfKey (tupleKind (mixKind P w)))/\(xs.map (·.1)).Nodup
 | .set S n=>h.SetOf (intKind P w) a S n
 | .ins C dx fs=>H dx=some (.own a)/\fs.length<=1000/\dx≠a/\h.get? a=some (PySem.W.instObj C dx)/\
   ∃mA,h.Ns1 dx mA/\(∀f,RelO (fs.lookup f) (mA f))/\PySem.Within mA (fs.map (·.1))
 | .own _=>∃o,h.get? a=some o
 | .xd fs=>∃mA,h.Ns1 a mA/\∀f,RelO (fs.lookup f) (mA f)
 | .rng lo hi=>∃t u v,h.get? a=some {cls:=.type "range",data:=.fields #[.int lo t,.int hi u,.int 1 v]}
 | .frz o u=>h.get? a=some o/\ObjOk H h a u
 | .tbl ps=>h.get? a=some {cls:=.none,data:=.fields ps}
 | .met f x=>h.get? a=some (PySem.W.methodObj (.ref f) (.ref x))
 | .ext φ=>φ h/\(∃o,h.get? a=some o)/\∀h1 h2:Heap,φ h1->(∀o,h1.get? a=some o->h2.get? a=some o)->φ h2
def HOk (H:Hp) (h:Heap):Prop:=∀a o,H a=some o->ObjOk P w H h a o
end
section
variable {P:Program}{w:World}{H H':Hp}{h h':Heap}{a:Addr}{o:HO}
theorem ObjOk.lt (x:ObjOk P w H h a o):a < h.objs.size:=by
 cases o with
 | lst xs=>obtain ⟨_,_,_,_,e⟩:=x;exact Heap.lt_size e
 | tup xs=>obtain ⟨_,_,_,p⟩:=x;exact p.is.lt
 | dK kvs=>obtain ⟨_,_,_,_,o,_,_,e,_⟩:=x;exact Heap.lt_size e
 | dT kvs=>obtain ⟨_,_,_,_,o,_,_,e,_⟩:=x;exact Heap.lt_size e
 | set S n=>obtain ⟨o,_,_,_,e,_⟩:=x;exact Heap.lt_size e
 | ins C dx fs=>obtain ⟨_,_,_,e,_⟩:=x;exact Heap.lt_size e
 | own y=>obtain ⟨_,e⟩:=x;exact Heap.lt_size e
 | xd fs=>obtain ⟨_,⟨_,_,_,e,_⟩,_⟩:=x;exact Heap.lt_size e
 | rng lo hi=>obtain ⟨_,_,_,e⟩:=x;exact Heap.lt_size e
 | frz ob u=>obtain ⟨e,_⟩:=x;exact Heap.lt_size e
 | tbl ps=>exact Heap.lt_size (show h.get? a=some _ from x)
 | met f y=>exact Heap.lt_size (show h.get? a=some _ from x)
 | ext φ=>obtain ⟨_,⟨_,e⟩,_⟩:=x;exact Heap.lt_size e
theorem Paired.mapP {α β:Type}{F G:α->β->Prop}:∀{l₁:List α} {l₂:List β},Paired F l₁ l₂->(∀a b,F a b->G a b)->Paired G l₁ l₂
 | _,_,.nil,_=>.nil
 | _,_,.cons r t,f=>.cons (f _ _ r) (Paired.mapP t f)
theorem ObjOk.stay (x:ObjOk P w H h a o)(k:∀b u,(b=a\/H b=some (.own a))->h.get? b=some u->h'.get? b=some u)
  (ho:∀b,H b=some (.own a)->H' b=some (.own a)) (ht:∀b xs,H b=some (.tup xs)->H' b=some (.tup xs)):ObjOk P w H' h' a o:=by
 induction o with
 | lst xs=>obtain ⟨z,its,n,r,e⟩:=x;exact ⟨z,its,n,r,k _ _ (.inl rfl) e⟩
 | tup xs=>obtain ⟨z,its,r,ob,e,c⟩:=x;exact ⟨z,its,r,ob,k _ _ (.inl rfl) e,c⟩
 | dK kvs=>obtain ⟨z,y,vs,r,ob,es,ep,e,c⟩:=x;exact ⟨z,y,vs,r,ob,es,ep,k _ _ (.inl rfl) e,c⟩
 | dT kvs=>
  obtain ⟨z,y,xs,r,ob,es,ep,e,c⟩:=x
  exact ⟨z,y,xs,Paired.mapP r fun p q z=>⟨z.1,ht _ _ z.2.1,z.2.2⟩,ob,es,ep,k _ _ (.inl rfl) e,c⟩
 | set S n=>obtain ⟨ob,es,ep,t,e,c⟩:=x;exact ⟨ob,es,ep,t,k _ _ (.inl rfl) e,c⟩
 | ins C dx fs=>
  obtain ⟨d,z,ne,e,mA,⟨od,es,ep,e2,c⟩,r⟩:=x
  exact ⟨ho _ d,z,ne,k _ _ (.inl rfl) e,mA,⟨od,es,ep,k _ _ (.inr d) e2,c⟩,r⟩
 | own y=>obtain ⟨ob,e⟩:=x;exact ⟨ob,k _ _ (.inl rfl) e⟩
 | xd fs=>obtain ⟨mA,⟨od,es,ep,e,c⟩,r⟩:=x;exact ⟨mA,⟨od,es,ep,k _ _ (.inl rfl) e,c⟩,r⟩
 | rng lo hi=>obtain ⟨t,u,v,e⟩:=x;exact ⟨t,u,v,k _ _ (.inl rfl) e⟩
 | frz ob u ih=>obtain ⟨e,q⟩:=x;exact ⟨k _ _ (.inl rfl) e,ih q⟩
 | tbl ps=>
  have e:h.get? a=some {cls:=.none,data:=.fields ps}:=x
  show h'.get? a=some {cls:=.none,data:=.fields ps}
  exact k a _ (.inl rfl) e
 | met f y=>
  have e:h.get? a=some (PySem.W.methodObj (.ref f) (.ref y)):=x
  show h'.get? a=some (PySem.W.methodObj (.ref f) (.ref y))
  exact k a _ (.inl rfl) e
 | ext φ=>obtain ⟨p,⟨o,e⟩,st⟩:=x;exact ⟨st _ _ p fun o q=>k _ _ (.inl rfl) q,⟨o,k _ _ (.inl rfl) e⟩,st⟩
theorem HOk.lt (x:HOk P w H h)(e:H a=some o):a < h.objs.size:=(x a o e).lt
theorem HOk.fresh (x:HOk P w H h)(e:h.objs.size<=a):H a=none:=by
 cases q:H a with
 | none=>rfl
 | some u=>exact absurd (Nat.lt_of_lt_of_le (x.lt q) e) (Nat.lt_irrefl _)
theorem HOk.kept (x:HOk P w H h)(k:∀b u,h.get? b=some u->h'.get? b=some u):HOk P w H h':=fun a o e=>
 (x a o e).stay (fun b u _ q=>k b u q) (fun _ q=>q) fun _ _ q=>q
theorem HOk.laid (x:HOk P w H h)(k:∀b u,h.get? b=some u->h'.get? b=some u)(hp:h.objs.size<=a)(new:ObjOk P w (upd H a o) h' a o):HOk P w (upd H a o) h':=fun b u e=>by
 have hn:=x.fresh hp
 by_cases hb:b=a
 ·subst hb;rw [j9] at e;cases e;exact new
 ·rw [c8 hb] at e
  exact (x b u e).stay (fun c v _ q=>k c v q) (fun c q=>by rw [c8 (m4 q hn)];exact q) fun c xs q=>by rw [c8 (m4 q hn)];exact q
end
def Rd (H:Hp) (a:Addr) (u:HO):Prop:=H a=some u\/∃o,H a=some (.frz o u)
theorem Rd.ok {P:Program}{w:World}{H:Hp}{h:Heap}{a:Addr}{u:HO}(r:Rd H a u)(x:HOk P w H h):ObjOk P w H h a u:=by
 rcases r with r | ⟨o,r⟩
 ·exact x a u r
 ·obtain ⟨_,q⟩:=x a _ r
  exact q
def Mut:Option HO->Prop
 | some (.lst _)=>True
 | some (.dK _)=>True
 | some (.dT _)=>True
 | some (.set _ _)=>True
 | some (.ins _ _ _)=>True
 | some (.ext _)=>True
 | _=>False
section
variable {P:Program}{w:World}{H:Hp}{h h':Heap}{x e:Addr}{o':HO}
theorem HOk.write (ok:HOk P w H h)(mu:Mut (H x))(he:e=x\/H e=some (.own x))(k:∀b u,b≠e->h.get? b=some u->h'.get? b=some u)(heo:∃u,h'.get? e=some u)
  (new:ObjOk P w (upd H x o') h' x o'):HOk P w (upd H x o') h':=fun b u q=>by
 have nown:∀c y,H c=some (.own y)->c≠x:=fun c y r z=>by subst z;rw [r] at mu;exact mu
 have ntup:∀c xs,H c=some (.tup xs)->c≠x:=fun c xs r z=>by subst z;rw [r] at mu;exact mu
 by_cases hb:b=x
 ·subst hb;rw [j9] at q;cases q;exact new
 ·rw [c8 hb] at q
  by_cases hbe:b=e
  ·have q':H b=some (.own x):=by
    rcases he with z | z
    ·exact absurd (hbe.trans z) hb
    ·rw [hbe];exact z
   rw [q] at q';cases q'
   obtain ⟨v,hv⟩:=heo
   exact ⟨v,by rw [hbe];exact hv⟩
  ·refine (ok b u q).stay (fun c v hc r=>k c v ?_ r) (fun c r=>by rw [c8 (nown c b r)];exact r) fun c xs r=>by rw [c8 (ntup c xs r)];exact r
   rcases hc with rfl | hc
   ·exact hbe
   ·rintro rfl
    rcases he with z | z
    ·exact nown c b hc z
    ·rw [hc] at z;cases z;exact hb rfl
end
structure Un (fs ex:List Addr) (H H':Hp) (h h':Heap):Prop where
 keep:∀b o,h.get? b=some o->H b=none->b∉fs->b∉ex->h'.get? b=some o
 slot:∀b o,h.get? b=some o->H b=none->b∈fs->b∉ex->∃sl,h'.get? b=some {o with slots:=sl}
 free:∀b o,h.get? b=some o->H b=none->b∉ex->H' b=none
 there:∀b o,h.get? b=some o->b∉ex->∃o',h'.get? b=some o'
 tups:∀b xs,H b=some (.tup xs)->H' b=some (.tup xs)
 frzs:∀b o u,H b=some (.frz o u)->H' b=some (.frz o u)
 tbls:∀b ps,H b=some (.tbl ps)->∃more,H' b=some (.tbl (ps ++ more))
section
variable {fs fs' ex ex':List Addr}{H H1 H2:Hp}{h h1 h2 h':Heap}{a x e:Addr}{o:HO}
theorem Un.any (u:Un fs ex H H1 h h1){b:Addr}{ob:Obj}(q:h.get? b=some ob)(n:H b=none)(hx:b∉ex):∃sl,h1.get? b=some {ob with slots:=sl}:=by
 by_cases hb:b∈fs
 ·exact u.slot b ob q n hb hx
 ·exact ⟨ob.slots,u.keep b ob q n hb hx⟩
theorem Un.kept (k:∀b u,h.get? b=some u->h'.get? b=some u):Un fs ex H H h h':=
 ⟨fun b ob q _ _ _=>k b ob q,fun b ob q _ _ _=>⟨ob.slots,k b ob q⟩,fun _ _ _ n _=>n,fun b ob q _=>⟨ob,k b ob q⟩,fun _ _ q=>q,fun _ _ _ q=>q,fun _ ps q=>⟨#[],by rw [q];simp⟩⟩
theorem Un.refl:Un fs ex H H h h:=Un.kept fun _ _ q=>q
theorem Un.laid (k:∀b u,h.get? b=some u->h'.get? b=some u)(hp:h.objs.size<=a)(hn:H a=none):Un fs ex H (upd H a o) h h' where
 keep:=fun b u q _ _ _=>k b u q
 slot:=fun b u q _ _ _=>⟨u.slots,k b u q⟩
 free:=fun b u q n _=>by rw [c8 (Nat.ne_of_lt (Nat.lt_of_lt_of_le (Heap.lt_size q) hp))];exact n
 there:=fun b u q _=>⟨u,k b u q⟩
 tups:=fun b xs q=>by rw [c8 (m4 q hn)];exact q
 frzs:=fun b u xs q=>by rw [c8 (m4 q hn)];exact q
 tbls:=fun b ps q=>⟨#[],by rw [c8 (m4 q hn),q];simp⟩
theorem Un.write (mu:Mut (H x))(he:e=x\/H e=some (.own x))(k:∀b u,b≠e->h.get? b=some u->h'.get? b=some u)(heo:∃u,h'.get? e=some u):Un fs ex H (upd H x o) h h':=by
 have hx:∀b,H b=none->b≠x:=fun b n z=>by subst z;rw [n] at mu;exact mu
 have hb:∀b,H b=none->b≠e:=fun b n z=>by
  subst z
  rcases he with r | r
  ·exact hx b n r
  ·rw [n] at r;cases r
 have hm:∀b u,H b=some u->¬Mut (some u)->b≠x:=fun b u q nm z=>by subst z;rw [q] at mu;exact nm mu
 refine ⟨fun b u q n _ _=>k b u (hb b n) q,fun b u q n _ _=>⟨u.slots,k b u (hb b n) q⟩,fun b u q n _=>by rw [c8 (hx b n)];exact n,fun b u q _=>?_,
  fun b xs q=>by rw [c8 (hm b _ q fun z=>z)];exact q,fun b u xs q=>by rw [c8 (hm b _ q fun z=>z)];exact q,fun b ps q=>⟨#[],by rw [c8 (hm b _ q fun z=>z),q];simp⟩⟩
 by_cases hbe:b=e
 ·subst hbe;exact heo
 ·exact ⟨u,k b u hbe q⟩
end
def trk (h:Heap) (H:Hp):List Addr:=(List.range h.objs.size).filter fun a=>(H a).isSome
def hidT (h:Heap) (H:Hp):Heap:=PySem.W.hideAll h (trk h H)
theorem a6s (h:Heap)(H:Hp):(hidT h H).objs.size=h.objs.size:=PySem.W.hideAll_size _ _
theorem a9n {h:Heap}{H:Hp}{b:Addr}{o:Obj}(e:h.get? b=some o)(n:H b=none):(hidT h H).get? b=some o:=
 PySem.W.hideAll_get _ e fun hm=>by
  have q:(H b).isSome=true:=(List.mem_filter.mp hm).2
  rw [n] at q;simp at q
theorem a91 {h:Heap}{H:Hp}{b:Addr}{o:Obj}(e:(hidT h H).get? b=some o):h.get? b=some o/\H b=none:=by
 have e':h.get? b=some o:=PySem.W.of_hideAll (trk h H) e
 refine ⟨e',?_⟩
 cases q:H b with
 | none=>rfl
 | some x=>
  have hm:b∈trk h H:=List.mem_filter.mpr ⟨List.mem_range.mpr (Heap.lt_size e'),by simp [q]⟩
  have z:(hidT h H).get? b=none:=PySem.W.hideAll_none (trk h H) hm
  rw [z] at e;cases e
def allNews (g h:Heap) (L:Addr):List (Addr×Obj):=(List.range h.objs.size).filterMap fun a=>if a=L\/(g.get? a).isSome=true then none else (h.get? a).map fun o=>(a,o)
theorem a3X {g h:Heap}{L a:Addr}{o:Obj}(h1:a≠L)(h2:g.get? a=none)(h3:h.get? a=some o):(a,o)∈allNews g h L:=
 List.mem_filterMap.mpr ⟨a,List.mem_range.mpr (Heap.lt_size h3),by simp [h1,h2,h3]⟩
theorem a0U {g h:Heap}{L:Addr}{p:Addr×Obj}(hp:p∈allNews g h L):p.1≠L/\g.get? p.1=none/\h.get? p.1=some p.2:=by
 obtain ⟨b,_,e⟩:=List.mem_filterMap.mp hp
 split at e
 ·cases e
 ·rename_i hn
  cases q:h.get? b with
  | none=>rw [q] at e;simp at e
  | some u=>
   rw [q] at e
   simp only [Option.map_some,Option.some.injEq] at e
   subst e
   refine ⟨fun z=>hn (.inl z),?_,q⟩
   show g.get? b=none
   cases r:g.get? b with
   | none=>rfl
   | some v=>exact (hn (.inr (by simp [r]))).elim
def rest (g h:Heap) (L d:Addr):List (Addr×Obj):=(allNews g h L).filter fun p=>decide (p.1≠d)
theorem a5A {g h:Heap}{L d:Addr}:∀p∈rest g h L d,p.1≠d:=fun p hp=>of_decide_eq_true (List.mem_filter.mp hp).2
theorem a8m {g h:Heap}{L d a:Addr}{o:Obj}(h1:a≠L)(h2:g.get? a=none)(h3:h.get? a=some o)(h4:a≠d):(a,o)∈rest g h L d:=
 List.mem_filter.mpr ⟨a3X h1 h2 h3,decide_eq_true h4⟩
theorem a7q {g h:Heap}{L:Addr}:News g L h (allNews g h L):=fun p hp=>let ⟨a,b,c⟩:=a0U hp;⟨c,a,b⟩
theorem a9Z {g h:Heap}{L d:Addr}{o:Obj}(h1:d≠L)(h2:g.get? d=none)(h3:h.get? d=some o):News g L h ((d,o) :: rest g h L d):=fun p hp=>by
 rcases List.mem_cons.mp hp with rfl | hp
 ·exact ⟨h3,h1,h2⟩
 ·exact a7q p (List.mem_filter.mp hp).1
theorem a2g {g h h':Heap}{L d:Addr}{m:Str->Option Value}(k:∀b o,g.get? b=some o->h.get? b=some o)(F:Fr g L h' m)(N:News g L h' (rest g h L d)):
  ∀b o,b≠L->b≠d->h.get? b=some o->h'.get? b=some o:=fun b o h1 h2 e=>by
 cases q:g.get? b with
 | some u=>
  have:=k b u q
  rw [e] at this;cases this
  exact F.keep b _ q
 | none=>exact (N (b,o) (a8m h1 q e h2)).1
structure Mod (K:PySem.W.Frag) (mg:Str->Option Value) (base:Heap):Prop where
 kin:K.In base
 glob:base.Ns mainGlobals mg
 blt:∃mb,base.Ns builtinsNs mb/\∀x:Str,x≠"__name__"->mb x=bootBuiltins x
 nolimit:base.NoLimit
structure Cx where
 prog:Program
 w:World
 K:PySem.W.Frag
 mg:Str->Option Value
 base:Heap
 A:Around
 N:List Str
 s₀:Shared
 H₀:Hp
 env:Env
 outer:List Env
 stack:List Env
 ex:List Addr
 fn:Str->Bool
 calm:Bool
 pn:List (Addr×Obj)
 xe:Value->Shared->Prop
def frs (l:List Env):List Addr:=l.filterMap (·.frame)
abbrev Cx.fs (X:Cx):List Addr:=frs X.outer
def Vis (sc:Scope) (x:Str):Prop:=sc.names.lookup x=some .local\/sc.names.lookup x=some .cell\/sc.names.lookup x=some .free
def Loc (sc:Scope) (x:Str):Prop:=sc.names.lookup x=some .local\/sc.names.lookup x=some .cell
def Look (env:Env) (h:Heap) (m:Str->Option Value) (x:Str) (u:Value):Prop:=
 (env.kindOf x=some .local/\m x=some u)\/((env.kindOf x=some .cell\/env.kindOf x=some .free)/\∃c,env.cells.lookup x=some c/\h.IsCell c (some u))
structure Cx.Ok (X:Cx):Prop where
 mod:Mod X.K X.mg X.base
 kind:X.env.scope.kind= .function
 glob:X.env.globals=mainGlobals
 blt:X.env.builtins=builtinsNs
 above:X.s₀.heap.objs.size<=X.env.locals
 inj:∀x y c,X.env.cells.lookup x=some c->X.env.cells.lookup y=some c->x=y
 has:∀x,(X.env.kindOf x=some .cell\/X.env.kindOf x=some .free)->∃c,X.env.cells.lookup x=some c
 cab:∀x c,X.fn x=true->X.env.cells.lookup x=some c->X.s₀.heap.objs.size<=c
 hd:X.calm=true->X.A.handled=none
 frames:X.A.frames=some X.stack
 stk:X.stack=X.outer\/(X.stack=X.env :: X.outer/\X.env.frame=some X.env.locals)
 exf:∀b∈X.ex,b≠X.env.locals/\∀x c,X.env.cells.lookup x=some c->c≠b
 bs:∀b o,X.base.get? b=some o->X.s₀.heap.get? b=some o/\X.H₀ b=none
 bsz:X.base.objs.size<=X.s₀.heap.objs.size
 noex:∀b o,X.base.get? b=some o->b∉X.ex
 exfs:∀b∈X.ex,b∉X.fs
 funs:X.s₀.heap.FunFrames X.base X.outer
 frf:∀b∈X.fs,X.H₀ b=none
structure Inv (X:Cx) (pins:List (Addr×Obj)) (σ:List (Option V)) (H:Hp) (s:Shared):Prop where
 ok:X.Ok
 os:s.os=X.s₀.os
 bare:AllBare s.gens
 base:Un X.fs X.ex X.H₀ H X.s₀.heap s.heap
 loc:∃m,s.heap.Ns X.env.locals m/\∀(i:Nat) (x:Str) (v:V),X.N[i]? =some x->σ[i]? =some (some v)->Vis X.env.scope x->∃u,RelV v u/\Look X.env s.heap m x u
 cell:∀x c,X.env.cells.lookup x=some c->∃v,s.heap.IsCell c v
 free:H X.env.locals=none
 freeC:∀x c,X.env.cells.lookup x=some c->H c=none
 pin:∀p∈X.pn ++ pins,s.heap.get? p.1=some p.2/\H p.1=none/\p.1≠X.env.locals/\p.1∉X.fs/\∀v,p.2.data≠.cell v
 hok:HOk X.prog X.w H s.heap
 len:σ.length=X.N.length
section
variable {X:Cx}{pins:List (Addr×Obj)}{σ:List (Option V)}{H H':Hp}{s:Shared}{h':Heap}
theorem Cx.Ok.nofr (ok:X.Ok){b:Addr}{o:Obj}(e:X.base.get? b=some o):b∉X.fs:=fun hb=>by
 have:=(ok.funs.mem hb).1
 rw [e] at this;cases this
theorem Inv.bs (I:Inv X pins σ H s):∀b o,X.base.get? b=some o->s.heap.get? b=some o/\H b=none:=fun b o e=>
 ⟨I.base.keep b o (I.ok.bs b o e).1 (I.ok.bs b o e).2 (I.ok.nofr e) (I.ok.noex b o e),I.base.free b o (I.ok.bs b o e).1 (I.ok.bs b o e).2 (I.ok.noex b o e)⟩
theorem Inv.bk (I:Inv X pins σ H s):∀b o,X.base.get? b=some o->s.heap.get? b=some o:=fun b o e=>(I.bs b o e).1
theorem Inv.mod (I:Inv X pins σ H s):Mod X.K X.mg X.base:=I.ok.mod
theorem Inv.kIn (I:Inv X pins σ H s):X.K.In s.heap:=I.ok.mod.kin.keeps I.bk
theorem Inv.fr (I:Inv X pins σ H s):∃m,Fr X.base X.env.locals s.heap m:=
 let ⟨m,hn,_⟩:=I.loc
 ⟨m,hn,I.bk,Nat.le_trans I.ok.bsz I.ok.above⟩
theorem Inv.lt (I:Inv X pins σ H s):X.env.locals < s.heap.objs.size:=let ⟨_,hn,_⟩:=I.loc;hn.lt
theorem Inv.sz (I:Inv X pins σ H s):X.s₀.heap.objs.size<=s.heap.objs.size:=Nat.le_trans I.ok.above (Nat.le_of_lt I.lt)
theorem Inv.nofs (I:Inv X pins σ H s){a:Addr}(h:s.heap.objs.size<=a):a∉X.fs:=fun hb=>by
 obtain ⟨_,o,ho,_⟩:=I.ok.funs.mem hb
 exact absurd (Nat.lt_of_lt_of_le (Heap.lt_size ho) (Nat.le_trans I.sz h)) (Nat.lt_irrefl _)
theorem Inv.cne (I:Inv X pins σ H s):∀x c,X.env.cells.lookup x=some c->c≠X.env.locals:=fun x c e z=>by
 obtain ⟨v,o,ho,hd⟩:=I.cell x c e
 obtain ⟨m,⟨o',es,ep,ho',hd',_⟩,_⟩:=I.loc
 rw [z,ho'] at ho;cases ho;rw [hd'] at hd;cases hd
theorem Inv.funs (I:Inv X pins σ H s):s.heap.FunFrames X.base X.outer:=by
 have all:∀(l:List Env),(∀b∈frs l,b∈X.fs)->X.s₀.heap.FunFrames X.base l->s.heap.FunFrames X.base l:=by
  intro l
  induction l with
  | nil=>intro _ _;trivial
  | cons env r ih=>
   intro hs hl
   obtain ⟨hk,⟨L,o,hf,hn,ho,hd⟩,hr⟩:=hl
   have hL:L∈X.fs:=hs L (by unfold frs;rw [List.filterMap_cons,hf];exact List.mem_cons_self)
   obtain ⟨sl,e⟩:=I.base.slot L o ho (I.ok.frf L hL) hL fun z=>I.ok.exfs L z hL
   exact ⟨hk,⟨L,_,hf,hn,e,hd⟩,ih (fun b hb=>hs b (by unfold frs;rw [List.filterMap_cons,hf];exact List.mem_cons_of_mem _ hb)) hr⟩
 exact all X.outer (fun _ hb=>hb) I.ok.funs
theorem Inv.stack (I:Inv X pins σ H s):s.heap.FunFrames X.base X.stack:=by
 rcases I.ok.stk with e | ⟨e,hf⟩
 ·rw [e];exact I.funs
 ·rw [e]
  obtain ⟨m,hn,_⟩:=I.loc
  refine .cons (by rw [I.ok.kind];decide) hf hn ?_ I.funs
  exact Heap.get?_none_of_le (Nat.le_trans I.ok.bsz I.ok.above)
theorem Inv.stkSub (I:Inv X pins σ H s):∀b∈frs X.stack,b∈X.env.locals :: X.fs:=fun b hb=>by
 rcases I.ok.stk with e | ⟨e,hf⟩
 ·rw [e] at hb;exact List.mem_cons_of_mem _ hb
 ·rw [e] at hb
  unfold frs at hb
  rw [List.filterMap_cons,hf] at hb
  exact hb
theorem Inv.stkFree (I:Inv X pins σ H s):∀b∈frs X.stack,H b=none:=fun b hb=>by
 rcases List.mem_cons.mp (I.stkSub b hb) with e | hb
 ·rw [e];exact I.free
 ·obtain ⟨_,o,ho,_⟩:=I.ok.funs.mem hb
  exact I.base.free b o ho (I.ok.frf b hb) fun z=>I.ok.exfs b z hb
theorem Inv.step {g':Array GenState}{t':Nat}{d':Drawn}{ch:List Addr}(I:Inv X pins σ H s)
  (hch:∀b∈ch,(b∈X.ex\/X.s₀.heap.objs.size<=b)/\b≠X.env.locals/\(∀x c,X.env.cells.lookup x=some c->c≠b)/\∀p∈X.pn ++ pins,p.1≠b)
  (keep:∀b o,b≠X.env.locals->b∉X.fs->b∉ch->s.heap.get? b=some o->H b=none->h'.get? b=some o)
  (slot:∀b o,b≠X.env.locals->b∈X.fs->b∉ch->s.heap.get? b=some o->H b=none->∃sl,h'.get? b=some {o with slots:=sl}) (free:∀b o,b∉ch->s.heap.get? b=some o->H b=none->H' b=none)
  (there:∀b o,b∉ch->s.heap.get? b=some o->∃o',h'.get? b=some o')
  (tups:∀b xs,H b=some (.tup xs)->H' b=some (.tup xs)) (frzs:∀b o u,H b=some (.frz o u)->H' b=some (.frz o u)) (tbls:∀b ps,H b=some (.tbl ps)->∃more,H' b=some (.tbl (ps ++ more)))
  (ns:∀m,s.heap.Ns X.env.locals m->h'.Ns X.env.locals m) (hok:HOk X.prog X.w H' h') (hg:AllBare g'):
  Inv X pins σ H' {s with heap:=h',gens:=g',drawn:=d',toks:=t'}:=by
 have neL:∀b o,X.s₀.heap.get? b=some o->b≠X.env.locals:=fun b o e=>Nat.ne_of_lt (Nat.lt_of_lt_of_le (Heap.lt_size e) I.ok.above)
 have neC:∀b o,X.s₀.heap.get? b=some o->b∉X.ex->b∉ch:=fun b o e hx hb=>by
  rcases (hch b hb).1 with z | z
  ·exact hx z
  ·exact absurd (Nat.lt_of_lt_of_le (Heap.lt_size e) z) (Nat.lt_irrefl _)
 have cellK:∀x c,X.env.cells.lookup x=some c->∀v,s.heap.IsCell c v->h'.IsCell c v:=fun x c e v ⟨o,ho,hd⟩=>by
  have nch:c∉ch:=fun z=>(hch c z).2.2.1 x c e rfl
  by_cases hc:c∈X.fs
  ·obtain ⟨sl,q⟩:=slot c o (I.cne x c e) hc nch ho (I.freeC x c e)
   exact ⟨_,q,hd⟩
  ·exact ⟨o,keep c o (I.cne x c e) hc nch ho (I.freeC x c e),hd⟩
 refine ⟨I.ok,I.os,hg,⟨fun b o e n hb hx=>?_,fun b o e n hb hx=>?_,fun b o e n hx=>?_,fun b o e hx=>?_,fun b xs e=>tups b xs (I.base.tups b xs e),fun b o xs e=>frzs b o xs (I.base.frzs b o xs e),fun b ps e=>?_⟩,?_,fun x c e=>?_,?_,fun x c e=>?_,fun p hp=>?_,hok,I.len⟩
 ·exact keep b o (neL b o e) hb (neC b o e hx) (I.base.keep b o e n hb hx) (I.base.free b o e n hx)
 ·obtain ⟨sl,e1⟩:=I.base.slot b o e n hb hx
  obtain ⟨sl',e2⟩:=slot b _ (neL b o e) hb (neC b o e hx) e1 (I.base.free b o e n hx)
  exact ⟨sl',e2⟩
 ·obtain ⟨o',e1⟩:=I.base.there b o e hx
  exact free b o' (neC b o e hx) e1 (I.base.free b o e n hx)
 ·obtain ⟨o',e1⟩:=I.base.there b o e hx
  exact there b o' (neC b o e hx) e1
 ·obtain ⟨m1,e1⟩:=I.base.tbls b ps e
  obtain ⟨m2,e2⟩:=tbls b _ e1
  exact ⟨m1 ++ m2,by rw [e2,Array.append_assoc]⟩
 ·obtain ⟨m,hn,hl⟩:=I.loc
  refine ⟨m,ns m hn,fun i x v e1 e2 e3=>?_⟩
  obtain ⟨u,r,l⟩:=hl i x v e1 e2 e3
  refine ⟨u,r,?_⟩
  rcases l with l | ⟨k,c,e,z⟩
  ·exact .inl l
  ·exact .inr ⟨k,c,e,cellK x c e _ z⟩
 ·obtain ⟨v,z⟩:=I.cell x c e
  exact ⟨v,cellK x c e v z⟩
 ·obtain ⟨m,⟨o,_,_,ho,_⟩,_⟩:=I.loc
  exact free _ o (fun z=>(hch _ z).2.1 rfl) ho I.free
 ·obtain ⟨v,o,ho,hd⟩:=I.cell x c e
  exact free c o (fun z=>(hch c z).2.2.1 x c e rfl) ho (I.freeC x c e)
 ·obtain ⟨e,n,ne,nf,d⟩:=I.pin p hp
  have nch:p.1∉ch:=fun z=>(hch p.1 z).2.2.2 p hp rfl
  exact ⟨keep p.1 p.2 ne nf nch e n,free p.1 p.2 nch e n,ne,nf,d⟩
theorem Inv.un {t':Nat}(I:Inv X pins σ H s)(u:Un X.fs [] H H' s.heap h')(hok:HOk X.prog X.w H' h'):Inv X pins σ H' {s with heap:=h',toks:=t'}:=by
 obtain ⟨m,⟨o,es,ep,ho,r⟩,_⟩:=id I.loc
 obtain ⟨sl,hL⟩:=u.any ho I.free (by simp)
 exact I.step (g':=s.gens) (d':=s.drawn) (ch:=[]) (fun _ z=>nomatch z) (fun b o _ hb _ e n=>u.keep b o e n hb (by simp)) (fun b o _ hb _ e n=>u.slot b o e n hb (by simp)) (fun b o _ e n=>u.free b o e n (by simp)) (fun b o _ e=>u.there b o e (by simp)) u.tups u.frzs u.tbls (fun m' hm=>by
  obtain ⟨o',es',ep',ho',r'⟩:=hm
  rw [ho] at ho';cases ho'
  exact ⟨_,es',ep',hL,r'⟩) hok I.bare
theorem Inv.call {g':Array GenState}{t':Nat}{d':Drawn}{ch:List Addr}(I:Inv X pins σ H s)(u:Un (frs X.stack) ch H H' s.heap h')(hok:HOk X.prog X.w H' h')(hg:AllBare g')
  (hch:∀b∈ch,(b∈X.ex\/X.s₀.heap.objs.size<=b)/\b≠X.env.locals/\(∀x c,X.env.cells.lookup x=some c->c≠b)/\∀p∈X.pn ++ pins,p.1≠b):
  Inv X pins σ H' {s with heap:=h',gens:=g',drawn:=d',toks:=t'}:=by
 obtain ⟨m,⟨o,es,ep,ho,r⟩,_⟩:=id I.loc
 obtain ⟨sl,hL⟩:=u.any ho I.free fun z=>(hch _ z).2.1 rfl
 exact I.step (ch:=ch) hch (fun b o hL hb hc e n=>u.keep b o e n (fun z=>(List.mem_cons.mp (I.stkSub b z)).elim hL hb) hc) (fun b o _ _ hc e n=>u.any e n hc) (fun b o hc e n=>u.free b o e n hc) (fun b o hc e=>u.there b o e hc) u.tups u.frzs u.tbls (fun m' hm=>by
  obtain ⟨o',es',ep',ho',r'⟩:=hm
  rw [ho] at ho';cases ho'
  exact ⟨_,es',ep',hL,r'⟩) hok hg
theorem Inv.turned {t':Nat}{it:Addr}(I:Inv X pins σ H s)(k:∀b o,b≠it->s.heap.get? b=some o->h'.get? b=some o)(hn:H it=none)(hL:it≠X.env.locals)
  (h1:it∈X.ex\/X.s₀.heap.objs.size<=it) (h2:∀x c,X.env.cells.lookup x=some c->c≠it) (h3:∀p∈X.pn ++ pins,p.1≠it):Inv X pins σ H {s with heap:=h',toks:=t'}:=by
 have nit:∀b u,H b=some u->b≠it:=fun b u e z=>by rw [z,hn] at e;cases e
 refine I.step (g':=s.gens) (d':=s.drawn) (ch:=[it]) (fun b hb=>?_) (fun b o _ _ hc e _=>k b o (fun z=>hc (by simp [z])) e) (fun b o _ _ hc e _=>⟨o.slots,k b o (fun z=>hc (by simp [z])) e⟩) (fun _ _ _ _ n=>n)
  (fun b o hc e=>⟨o,k b o (fun z=>hc (by simp [z])) e⟩) (fun _ _ e=>e) (fun _ _ _ e=>e) (fun b ps e=>⟨#[],by rw [e];simp⟩) (fun m hm=>?_) (fun b u e=>?_) I.bare
 ·have e:b=it:=by simpa using hb
  subst e
  exact ⟨h1,hL,h2,h3⟩
 ·obtain ⟨o,es,ep,ho,r⟩:=hm
  exact ⟨o,es,ep,k _ o (Ne.symm hL) ho,r⟩
 ·refine (I.hok b u e).stay (fun c v hc q=>k c v ?_ q) (fun _ q=>q) fun _ _ q=>q
  rcases hc with z | z
  ·rw [z];exact nit b u e
  ·exact nit c _ z
theorem Inv.tok (I:Inv X pins σ H s)(t:Nat):Inv X pins σ H {s with toks:=t}:=I.un (h':=s.heap) (t':=t) Un.refl I.hok
theorem Inv.kept {t':Nat}(I:Inv X pins σ H s)(k:∀b u,s.heap.get? b=some u->h'.get? b=some u):Inv X pins σ H {s with heap:=h',toks:=t'}:=I.un (Un.kept k) (I.hok.kept k)
theorem Inv.laid {a:Addr}{o:HO}{t':Nat}(I:Inv X pins σ H s)(k:∀b u,s.heap.get? b=some u->h'.get? b=some u)(hp:s.heap.objs.size<=a)(new:ObjOk X.prog X.w (upd H a o) h' a o):
  Inv X pins σ (upd H a o) {s with heap:=h',toks:=t'}:=I.un (Un.laid k hp (I.hok.fresh hp)) (I.hok.laid k hp new)
theorem Inv.write {x e:Addr}{o:HO}{t':Nat}(I:Inv X pins σ H s)(mu:Mut (H x))(he:e=x\/H e=some (.own x))(k:∀b u,b≠e->s.heap.get? b=some u->h'.get? b=some u)(heo:∃u,h'.get? e=some u)
  (new:ObjOk X.prog X.w (upd H x o) h' x o):Inv X pins σ (upd H x o) {s with heap:=h',toks:=t'}:=I.un (Un.write mu he k heo) (I.hok.write mu he k heo new)
theorem Inv.pins_of {pins':List (Addr×Obj)}(I:Inv X pins σ H s)(h:∀p∈pins',s.heap.get? p.1=some p.2/\H p.1=none/\p.1≠X.env.locals/\p.1∉X.fs/\∀v,p.2.data≠.cell v):Inv X pins' σ H s:=
 ⟨I.ok,I.os,I.bare,I.base,I.loc,I.cell,I.free,I.freeC,fun p hp=>(List.mem_append.mp hp).elim (fun z=>I.pin p (List.mem_append_left _ z)) (h p),I.hok,I.len⟩
theorem a3g {N:List Str}(hN:N.Nodup){i j:Nat}{x:Str}(a:N[i]? =some x)(b:N[j]? =some x):i=j:=by
 obtain ⟨h1,e1⟩:=List.getElem?_eq_some_iff.mp a
 obtain ⟨h2,e2⟩:=List.getElem?_eq_some_iff.mp b
 exact (List.getElem_inj hN).mp (e1.trans e2.symm)
theorem a6Y {M:Model}{A:Around}{E:Value->Shared->Prop}{i:Nat}{x:Str}{v:V}{u:Value}{Q:Unit->Shared->Prop}(I:Inv X pins σ H s)(hN:X.N.Nodup)(hi:X.N[i]? =some x)(hx:Loc X.env.scope x)(r:RelV v u)
  (h:∀s',Inv X pins (σ.set i (some v)) H s'->(∃a,Heap.SameBut a s.heap s'.heap/\(a=X.env.locals\/X.env.cells.lookup x=some a))->Q () s') (hf:X.fn x=true\/X.env.scope.names.lookup x=some .local:=by first | exact .inl rfl | exact .inr rfl | assumption):wpAny M A (storeName X.env x u) Q E s:=by
 obtain ⟨m,hn,hl⟩:=id I.loc
 have hcls:(X.env.scope.kind == .class || (X.env.scope.kind == .module && X.env.locals != X.env.globals))=false:=by rw [I.ok.kind];rfl
 have hiσ:i < σ.length:=by rw [I.len];exact (List.getElem?_eq_some_iff.mp hi).1
 have cne:=I.cne
 have tracked:∀{a:Addr} {h':Heap},(∃o,s.heap.get? a=some o/\H a=none)->Heap.SameBut a s.heap h'->HOk X.prog X.w H h':=fun {a h'} ha hs b ob e=>by
  obtain ⟨_,_,hfree⟩:=ha
  refine (I.hok b ob e).stay (fun c w' hc q=>(hs.2 c ?_).trans q) (fun _ q=>q) fun _ _ q=>q
  rintro rfl
  rcases hc with rfl | hc
  ·rw [hfree] at e;cases e
  ·rw [hfree] at hc;cases hc
 rcases hx with hk | hk
 ·refine wpAny_storeName_local hk hn (fun h' hn' hs=>?_) hcls
  obtain ⟨oL,_,_,hoL,_⟩:=id hn
  refine h _ ⟨I.ok,I.os,I.bare,⟨fun b o e n hb hx=>?_,fun b o e n hb hx=>?_,I.base.free,fun b o e hx=>?_,I.base.tups,I.base.frzs,I.base.tbls⟩,⟨_,hn',fun j y v' e1 e2 e3=>?_⟩,fun y c e=>?_,I.free,I.freeC,fun p hp=>?_,tracked ⟨oL,hoL,I.free⟩ hs,by simpa using I.len⟩ ⟨_,hs,.inl rfl⟩
  ·exact (hs.2 b (Nat.ne_of_lt (Nat.lt_of_lt_of_le (Heap.lt_size e) I.ok.above))).trans (I.base.keep b o e n hb hx)
  ·obtain ⟨sl,e1⟩:=I.base.slot b o e n hb hx
   exact ⟨sl,(hs.2 b (Nat.ne_of_lt (Nat.lt_of_lt_of_le (Heap.lt_size e) I.ok.above))).trans e1⟩
  ·obtain ⟨o',e1⟩:=I.base.there b o e hx
   exact ⟨o',(hs.2 b (Nat.ne_of_lt (Nat.lt_of_lt_of_le (Heap.lt_size e) I.ok.above))).trans e1⟩
  ·by_cases hj:j=i
   ·subst hj
    rw [hi] at e1;cases e1
    rw [List.getElem?_set_self hiσ] at e2
    cases e2
    exact ⟨u,r,.inl ⟨hk,by simp⟩⟩
   ·rw [List.getElem?_set_ne (Ne.symm hj)] at e2
    obtain ⟨u',r',q⟩:=hl j y v' e1 e2 e3
    refine ⟨u',r',?_⟩
    rcases q with ⟨k,e⟩ | ⟨k,c,e,z⟩
    ·refine .inl ⟨k,?_⟩
     have:y≠x:=fun e=>hj (a3g hN e1 (e▸hi))
     simp [this,e]
    ·exact .inr ⟨k,c,e,z.sameBut hs (cne y c e)⟩
  ·obtain ⟨w',z⟩:=I.cell y c e
   exact ⟨w',z.sameBut hs (cne y c e)⟩
  ·obtain ⟨e,n,ne,nf,d⟩:=I.pin p hp
   exact ⟨(hs.2 p.1 ne).trans e,n,ne,nf,d⟩
 ·have hfn:X.fn x=true:=by
   rcases hf with z | z
   ·exact z
   ·rw [z] at hk;cases hk
  obtain ⟨c,hc⟩:=I.ok.has x (.inl hk)
  obtain ⟨w',z⟩:=I.cell x c hc
  refine wpAny_storeName_cell I.ok.kind hk hc z (fun h' hc' hs=>?_)
  obtain ⟨oc,hoc,hocd⟩:=id z
  refine h {s with heap:=h'} ⟨I.ok,I.os,I.bare,⟨fun b o e n hb hx=>?_,fun b o e n hb hx=>?_,I.base.free,fun b o e hx=>?_,I.base.tups,I.base.frzs,I.base.tbls⟩,⟨m,hn.sameBut hs (Ne.symm (cne x c hc)),fun j y v' e1 e2 e3=>?_⟩,fun y c' e=>?_,I.free,I.freeC,fun p hp=>?_,tracked ⟨oc,hoc,I.freeC x c hc⟩ hs,by simpa using I.len⟩ ⟨c,hs,.inr hc⟩
  ·exact (hs.2 b (Nat.ne_of_lt (Nat.lt_of_lt_of_le (Heap.lt_size e) (I.ok.cab x c hfn hc)))).trans (I.base.keep b o e n hb hx)
  ·obtain ⟨sl,e1⟩:=I.base.slot b o e n hb hx
   exact ⟨sl,(hs.2 b (Nat.ne_of_lt (Nat.lt_of_lt_of_le (Heap.lt_size e) (I.ok.cab x c hfn hc)))).trans e1⟩
  ·obtain ⟨o',e1⟩:=I.base.there b o e hx
   exact ⟨o',(hs.2 b (Nat.ne_of_lt (Nat.lt_of_lt_of_le (Heap.lt_size e) (I.ok.cab x c hfn hc)))).trans e1⟩
  ·by_cases hj:j=i
   ·subst hj
    rw [hi] at e1;cases e1
    rw [List.getElem?_set_self hiσ] at e2
    cases e2
    exact ⟨u,r,.inr ⟨.inl hk,c,hc,hc'⟩⟩
   ·rw [List.getElem?_set_ne (Ne.symm hj)] at e2
    obtain ⟨u',r',q⟩:=hl j y v' e1 e2 e3
    refine ⟨u',r',?_⟩
    rcases q with q | ⟨k,c',e,z'⟩
    ·exact .inl q
    ·refine .inr ⟨k,c',e,z'.sameBut hs ?_⟩
     rintro rfl
     exact hj (a3g hN e1 (I.ok.inj _ _ _ e hc▸hi))
  ·by_cases hcc:c'=c
   ·subst hcc;exact ⟨_,hc'⟩
   ·obtain ⟨w2,z2⟩:=I.cell y c' e
    exact ⟨w2,z2.sameBut hs hcc⟩
  ·obtain ⟨e,n,ne,nf,d⟩:=I.pin p hp
   refine ⟨(hs.2 p.1 ?_).trans e,n,ne,nf,d⟩
   intro q
   rw [q,hoc] at e
   have q':oc=p.2:=Option.some.inj e
   exact d w' (by rw [<-q'];exact hocd)
theorem U2 {M:Model}{A:Around}{E:Value->Shared->Prop}{i:Nat}{x:Str}{v:V}{u:Value}{Q:Unit->Shared->Prop}(I:Inv X pins σ H s)(hN:X.N.Nodup)(hi:X.N[i]? =some x)(hx:Loc X.env.scope x)(r:RelV v u)
  (h:∀s',Inv X pins (σ.set i (some v)) H s'->Q () s') (hf:X.fn x=true\/X.env.scope.names.lookup x=some .local:=by first | exact .inl rfl | exact .inr rfl | assumption):wpAny M A (storeName X.env x u) Q E s:=
 a6Y I hN hi hx r (fun s' I' _=>h s' I') hf
theorem Inv.call' {s':Shared}{ch:List Addr}(I:Inv X pins σ H s)(ho:s'.os=s.os)(u:Un (frs X.stack) ch H H' s.heap s'.heap)(hok:HOk X.prog X.w H' s'.heap)(hg:AllBare s'.gens)
  (hch:∀b∈ch,(b∈X.ex\/X.s₀.heap.objs.size<=b)/\b≠X.env.locals/\(∀x c,X.env.cells.lookup x=some c->c≠b)/\∀p∈X.pn ++ pins,p.1≠b):Inv X pins σ H' s':=by
 obtain ⟨h',g',d',t',o'⟩:=s'
 have e:o'=s.os:=ho
 subst e
 exact I.call (g':=g') (t':=t') (d':=d') u hok hg hch
end
abbrev XK:=Value->Option Addr->Hp->Prop
abbrev St:=List (Option V)
abbrev VK:=V->Hp->Prop
abbrev TE:=St->Hp->VK->Prop
abbrev TT:=St->Hp->(Bool->Hp->Prop)->Prop
abbrev TA:=St->Hp->(List V->Hp->Prop)->Prop
structure Ends where
 nx:St->Hp->Prop
 rt:VK
 bk:St->Hp->Prop:=fun _ _=>False
 ct:St->Hp->Prop:=fun _ _=>False
abbrev TS:=Ends->St->Hp->Prop
def EP (X:Cx) (pins:List (Addr×Obj)) (σ:St) (Q:VK) (u:Value) (s':Shared):Prop:=∃v H',Inv X pins σ H' s'/\RelV v u/\Q v H'
def TP (X:Cx) (pins:List (Addr×Obj)) (σ:St) (Q:Bool->Hp->Prop) (b:Bool) (s':Shared):Prop:=∃H',Inv X pins σ H' s'/\Q b H'
def AP (X:Cx) (pins:List (Addr×Obj)) (σ:St) (Q:List V->Hp->Prop) (us:List Value) (s':Shared):Prop:=∃vs H',Inv X pins σ H' s'/\Vals vs us/\Q vs H'
def SP (X:Cx) (pins:List (Addr×Obj)) (D:Ends) (f:Flow) (s':Shared):Prop:=
 match f with
 | .next=>∃σ' H',Inv X pins σ' H' s'/\D.nx σ' H'
 | .brk=>∃σ' H',Inv X pins σ' H' s'/\D.bk σ' H'
 | .cont=>∃σ' H',Inv X pins σ' H' s'/\D.ct σ' H'
 | .ret u=>∃v σ' H',Inv X pins σ' H' s'/\RelV v u/\D.rt v H'
def PE (X:Cx) (e:Expr) (t:TE):Prop:=
 ∀(pins:List (Addr×Obj)) (s:Shared) (σ:St) (H:Hp) (Q:VK),Inv X pins σ H s->t σ H Q->wpAny (model X.prog X.w) X.A (eval e X.env) (EP X pins σ Q) X.xe s
def PT (X:Cx) (e:Expr) (t:TT):Prop:=
 ∀(pins:List (Addr×Obj)) (s:Shared) (σ:St) (H:Hp) (Q:Bool->Hp->Prop),Inv X pins σ H s->t σ H Q->wpAny (model X.prog X.w) X.A (isTrue e X.env (eval e X.env)) (TP X pins σ Q) X.xe s
def PW (X:Cx) (e:Expr) (t:TT):Prop:=
 ∀(whole:Sem Value) (pins:List (Addr×Obj)) (s:Shared) (σ:St) (H:Hp) (Q:Bool->Hp->Prop),Inv X pins σ H s->t σ H Q->wpAny (model X.prog X.w) X.A (isTrue e X.env whole) (TP X pins σ Q) X.xe s
theorem PW.pt {X:Cx}{e:Expr}{t:TT}(h:PW X e t):PT X e t:=h _
def PA (X:Cx) (es:List Expr) (t:TA):Prop:=
 ∀(pos:Pos) (pins:List (Addr×Obj)) (s:Shared) (σ:St) (H:Hp) (Q:List V->Hp->Prop),Inv X pins σ H s->t σ H Q->wpAny (model X.prog X.w) X.A (spliced (backTo pos (starEach es X.env))) (AP X pins σ Q) X.xe s
def PS (X:Cx) (st:Stmt) (t:TS):Prop:=
 ∀(pins:List (Addr×Obj)) (s:Shared) (σ:St) (H:Hp) (D:Ends),Inv X pins σ H s->t D σ H->wpAny (model X.prog X.w) X.A (exec st X.env) (SP X pins D) X.xe s
def PSs (X:Cx) (st:List Stmt) (t:TS):Prop:=
 ∀(pins:List (Addr×Obj)) (s:Shared) (σ:St) (H:Hp) (D:Ends),Inv X pins σ H s->t D σ H->wpAny (model X.prog X.w) X.A (execs st X.env) (SP X pins D) X.xe s
theorem thn {α:Type}{t:Sem α}{Q Q':α->Shared->Prop}{M:Model}{A:Around}{E:Value->Shared->Prop}{s:Shared}(h:wpAny M A t Q E s)(hQ:∀a s,Q a s->Q' a s):wpAny M A t Q' E s:=wpAny_mono h hQ fun _ _ x=>x
section
variable {X:Cx}
def tVar (i:Nat):TE:=fun σ H Q=>∃v,σ[i]? =some (some v)/\Q v H
def tC (v:V):TE:=fun _ H Q=>Q v H
theorem a2T {i:Nat}{x:Str}{pos:Pos}(hN:X.N[i]? =some x)(hv:Vis X.env.scope x)(hd:(x == ("__debug__":Str))=false:=by decide)(hcd:(x == ("__classdict__":Str))=false:=by decide):PE X (.Name x pos) (tVar i):=by
 intro pins s σ H Q I h
 obtain ⟨v,e,h⟩:=h
 obtain ⟨m,hn,hl⟩:=I.loc
 obtain ⟨u,r,l⟩:=hl i x v hN e hv
 have fin:EP X pins σ Q u s:=⟨v,H,I,r,h⟩
 rcases l with ⟨hk,hm⟩ | ⟨hk,c,hc,hcell⟩
 ·exact wpAny_Name (wpAny_loadName_local I.ok.kind hk hn hm fin) hd
 ·rcases hk with hk | hk
  ·exact wpAny_Name (wpAny_loadName_cell I.ok.kind hk hc hcell fin) hd
  ·exact wpAny_Name (wpAny_loadName_free I.ok.kind hk hc hcell fin hcd) hd
theorem b2b {i j pos}:PE X (.Constant (.int i) j pos) (tC (.int i)):=fun _ _ _ H _ I h=>wpAny_Constant_int ⟨.int i,H,I.tok _,⟨_,rfl⟩,h⟩
theorem pe_bl {b j pos}:PE X (.Constant (.bool b) j pos) (tC (.bl b)):=fun _ _ _ H _ I h=>Constant_bool ⟨.bl b,H,I,rfl,h⟩
def Gl (X:Cx) (x:Str):Prop:=X.env.kindOf x=some .globalImplicit
theorem a5h {E:Value->Shared->Prop}{pins:List (Addr×Obj)}{s:Shared}{σ:St}{H:Hp}{x:Str}{u:Value}{pos:Pos}{Q:Value->Shared->Prop}(I:Inv X pins σ H s)(hg:Gl X x)(hm:X.mg x=some u)(h:Q u s)
  (hd:(x == ("__debug__":Str))=false:=by decide):wpAny (model X.prog X.w) X.A (eval (.Name x pos) X.env) Q E s:=
 Calls.Name_function_global I.ok.kind hg (Calls.loadGlobal_global (by rw [I.ok.glob];exact I.mod.glob.keeps I.bk) hm h) hd
theorem N0 {E:Value->Shared->Prop}{pins:List (Addr×Obj)}{s:Shared}{σ:St}{H:Hp}{x:Str}{u:Value}{pos:Pos}{Q:Value->Shared->Prop}(I:Inv X pins σ H s)(hg:Gl X x)(hm:X.mg x=none)(hv:bootBuiltins x=some u)(h:Q u s)
  (hn:x≠"__name__":=by decide) (hd:(x == ("__debug__":Str))=false:=by decide):wpAny (model X.prog X.w) X.A (eval (.Name x pos) X.env) Q E s:=by
 obtain ⟨mb,h1,h2⟩:=I.mod.blt
 exact Calls.Name_function_global I.ok.kind hg (Calls.loadGlobal_builtin (by rw [I.ok.glob];exact I.mod.glob.keeps I.bk) hm (by rw [I.ok.blt];exact h1.keeps I.bk) ((h2 x hn).trans hv) h) hd
theorem a95 {x:Str}{v:V}{u:Value}{pos:Pos}(hg:Gl X x)(hm:X.mg x=some u)(r:RelV v u)(hd:(x == ("__debug__":Str))=false:=by decide):PE X (.Name x pos) (tC v):=
 fun _ _ _ H _ I h=>a5h I hg hm ⟨v,H,I,r,h⟩ hd
theorem a99 {x:Str}{v:V}{u:Value}{pos:Pos}(hg:Gl X x)(hm:X.mg x=none)(hv:bootBuiltins x=some u)(r:RelV v u)(hn:x≠"__name__":=by decide)(hd:(x == ("__debug__":Str))=false:=by decide):PE X (.Name x pos) (tC v):=
 fun _ _ _ H _ I h=>N0 I hg hm hv ⟨v,H,I,r,h⟩ hn hd
variable {a b:Expr}{ta tb:TE}{pos:Pos}
variable {tA tB':TT}{rest:List Expr}
def tAnd (t u:TT):TT:=fun σ H Q=>t σ H fun c H1=>if c=true then u σ H1 Q else Q false H1
def tOr (t u:TT):TT:=fun σ H Q=>t σ H fun c H1=>if c=true then Q true H1 else u σ H1 Q
def tNot (t:TT):TT:=fun σ H Q=>t σ H fun c H1=>Q (!c) H1
theorem pw_and1 (ha:PT X a tA):PW X (.BoolOp .And [a] pos) tA:=by
 intro wh pins s σ H Q I h
 refine isTrue_and (thn (ha pins s σ H Q I h) fun c s1 e=>?_)
 cases c with
 | true=>exact isTrue_and_nil e
 | false=>exact e
theorem pw_or1 (ha:PT X a tA):PW X (.BoolOp .Or [a] pos) tA:=by
 intro wh pins s σ H Q I h
 refine isTrue_or (thn (ha pins s σ H Q I h) fun c s1 e=>?_)
 cases c with
 | false=>exact isTrue_or_nil e
 | true=>exact e
theorem pw_and (ha:PT X a tA)(hb:PW X (.BoolOp .And (b :: rest) pos) tB'):PW X (.BoolOp .And (a :: b :: rest) pos) (tAnd tA tB'):=by
 intro wh pins s σ H Q I h
 refine isTrue_and (thn (ha pins s σ H _ I h) fun c s1 ⟨H1,I1,q1⟩=>?_)
 cases c with
 | true=>exact hb wh pins s1 σ H1 Q I1 q1
 | false=>exact ⟨H1,I1,q1⟩
theorem pw_or (ha:PT X a tA)(hb:PW X (.BoolOp .Or (b :: rest) pos) tB'):PW X (.BoolOp .Or (a :: b :: rest) pos) (tOr tA tB'):=by
 intro wh pins s σ H Q I h
 refine isTrue_or (thn (ha pins s σ H _ I h) fun c s1 ⟨H1,I1,q1⟩=>?_)
 cases c with
 | true=>exact ⟨H1,I1,q1⟩
 | false=>exact hb wh pins s1 σ H1 Q I1 q1
theorem b1N (ha:PT X a tA):PT X (.UnaryOp .Not a pos) (tNot tA):=by
 intro pins s σ H Q I h
 exact isTrue_not (ha pins s σ H (fun c H1=>Q (!c) H1) I h)
def tAndV (ta tb:TE):TE:=fun σ H Q=>ta σ H fun x H1=>∃c,x= .bl c/\if c=true then tb σ H1 Q else Q (.bl false) H1
theorem b2d {op}{t:TE}(h:PE X a t):PE X (.BoolOp op [a] pos) t:=fun pins s σ H Q I hw=>BoolOp_one (h pins s σ H Q I hw)
theorem b1X (ha:PE X a ta)(hb:PE X (.BoolOp .And (b :: rest) pos) tb):PE X (.BoolOp .And (a :: b :: rest) pos) (tAndV ta tb):=by
 intro pins s σ H Q I h
 refine BoolOp_and (thn (ha pins s σ H _ I h) fun v s1 h0=>ex5 h0 fun x H1 I1 r1 q1=>?_)
 obtain ⟨c,rfl,q1⟩:=q1
 cases r1
 refine wpAny_truthy_bool ?_
 cases c with
 | true=>exact hb pins s1 σ H1 Q I1 q1
 | false=>exact ⟨.bl false,H1,I1,rfl,q1⟩
end
def SqL (K:PySem.W.Frag) (H:Hp) (a:Addr) (xs:List V):Prop:=
 Rd H a (.lst xs)\/
  ∃(o:Obj) (its:Array Value) (n:Nat),K.lookup a=some o/\o.cls= .type "list"/\o.dict=none/\o.data= .seq its n/\its.size<=sizeLine/\Vals xs its.toList
def SqT (K:PySem.W.Frag) (H:Hp) (a:Addr) (xs:List V):Prop:=
 Rd H a (.tup xs)\/
  ∃(o:Obj) (its:Array Value) (n:Nat),K.lookup a=some o/\o.cls= .type "tuple"/\o.dict=none/\o.data= .seq its n/\its.size<=sizeLine/\Vals xs its.toList
def absV:Value->Option V
 | .none=>some .non
 | .bool b=>some (.bl b)
 | .int i _=>some (.int i)
 | .str x _=>some (.str x)
 | .bytes b _=>some (.byt b)
 | .float b _=>some (.flt b)
 | .ref a=>some (.ref a)
 | .type n=>some (.ty n)
 | _=>none
theorem RelV.abs {x:V}{u:Value}(r:RelV x u):absV u=some x:=by
 cases x with
 | non=>cases r;rfl
 | bl _=>cases r;rfl
 | int _=>obtain ⟨t,rfl⟩:=r;rfl
 | str _=>obtain ⟨t,rfl⟩:=r;rfl
 | byt _=>obtain ⟨t,rfl⟩:=r;rfl
 | flt _=>obtain ⟨t,rfl⟩:=r;rfl
 | ref _=>cases r;rfl
 | ty _=>cases r;rfl
theorem RelV.inj {x y:V}{u:Value}(r:RelV x u)(q:RelV y u):x=y:=Option.some.inj (r.abs.symm.trans q.abs)
theorem Vals.inj:∀{xs ys:List V} {us:List Value},Vals xs us->Vals ys us->xs=ys
 | _,_,_,.nil,.nil=>rfl
 | _,_,_,.cons r t,.cons r' t'=>by rw [r.inj r',Vals.inj t t']
section
variable {X:Cx}{pins:List (Addr×Obj)}{σ:St}{H:Hp}{s:Shared}{a:Addr}{xs ys:List V}
theorem Inv.list (I:Inv X pins σ H s)(h:SqL X.K H a xs):∃its:List Value,Vals xs its/\PlainL s.heap a its.toArray/\xs.length<=sizeLine:=by
 rcases h with h | ⟨o,its,n,hk,hc,hd,hs,hz,r⟩
 ·obtain ⟨z,its,n,r,e⟩:=h.ok I.hok
  exact ⟨its,r,⟨_,n,e,rfl,rfl,rfl⟩,z⟩
 ·refine ⟨its.toList,r,⟨o,n,I.kIn a o hk,hc,hd,by simpa using hs⟩,?_⟩
  have e:=r.length
  simp only [Array.length_toList] at e
  walk_at "o"
theorem Inv.tupN (I:Inv X pins σ H s)(h:SqT X.K H a xs):∃its:List Value,Vals xs its/\TupN s.heap a its.toArray/\xs.length<=sizeLine:=by
 rcases h with h | ⟨o,its,n,hk,hc,hd,hs,hz,r⟩
 ·obtain ⟨z,its,r,p⟩:=h.ok I.hok
  exact ⟨its,r,p,z⟩
 ·refine ⟨its.toList,r,⟨o,I.kIn a o hk,hc,⟨n,by simpa using hs⟩,hd⟩,?_⟩
  have e:=r.length
  simp only [Array.length_toList] at e
  walk_at "o"
theorem Inv.tuple (I:Inv X pins σ H s)(h:SqT X.K H a xs):∃its:List Value,Vals xs its/\IsTup s.heap a its.toArray/\xs.length<=sizeLine:=let ⟨its,r,p,z⟩:=I.tupN h;⟨its,r,p.is,z⟩
theorem Inv.list_inj (I:Inv X pins σ H s)(h:SqL X.K H a xs)(h':SqL X.K H a ys):xs=ys:=by
 obtain ⟨its,r,⟨o,n,e,_,_,d⟩,_⟩:=I.list h
 obtain ⟨its',r',⟨o',n',e',_,_,d'⟩,_⟩:=I.list h'
 rw [e] at e';cases e'
 rw [d] at d'
 injection d' with d1 _
 have:its=its':=by simpa using congrArg Array.toList d1
 subst this
 exact r.inj r'
theorem Inv.tuple_inj (I:Inv X pins σ H s)(h:SqT X.K H a xs)(h':SqT X.K H a ys):xs=ys:=by
 obtain ⟨its,r,⟨o,e,_,n,d⟩,_⟩:=I.tuple h
 obtain ⟨its',r',⟨o',e',_,n',d'⟩,_⟩:=I.tuple h'
 rw [e] at e';cases e'
 rw [d] at d'
 injection d' with d1 _
 have:its=its':=by simpa using congrArg Array.toList d1
 subst this
 exact r.inj r'
end
abbrev Cx.wish (X:Cx) (E:Value->Shared->Prop):Cx:={X with xe:=E}
abbrev Cx.nox (X:Cx):Cx:=X.wish fun _ _=>False
theorem Cx.Ok.wish {X:Cx}(ok:X.Ok)(E:Value->Shared->Prop):(X.wish E).Ok:=
 ⟨ok.mod,ok.kind,ok.glob,ok.blt,ok.above,ok.inj,ok.has,ok.cab,ok.hd,ok.frames,ok.stk,ok.exf,ok.bs,ok.bsz,ok.noex,ok.exfs,ok.funs,ok.frf⟩
theorem Cx.Ok.unwish {X:Cx}{E:Value->Shared->Prop}(ok:(X.wish E).Ok):X.Ok:=
 ⟨ok.mod,ok.kind,ok.glob,ok.blt,ok.above,ok.inj,ok.has,ok.cab,ok.hd,ok.frames,ok.stk,ok.exf,ok.bs,ok.bsz,ok.noex,ok.exfs,ok.funs,ok.frf⟩
section
variable {X:Cx}{pins:List (Addr×Obj)}{σ:St}{H:Hp}{s:Shared}{E:Value->Shared->Prop}
theorem Inv.wish (I:Inv X pins σ H s)(E:Value->Shared->Prop):Inv (X.wish E) pins σ H s:=⟨I.ok.wish E,I.os,I.bare,I.base,I.loc,I.cell,I.free,I.freeC,I.pin,I.hok,I.len⟩
theorem Inv.unwish (I:Inv (X.wish E) pins σ H s):Inv X pins σ H s:=⟨I.ok.unwish,I.os,I.bare,I.base,I.loc,I.cell,I.free,I.freeC,I.pin,I.hok,I.len⟩
theorem SP.unwish {D:Ends}{f:Flow}{s':Shared}(h:SP (X.wish E) pins D f s'):SP X pins D f s':=by
 cases f with
 | next=>obtain ⟨σ',H',I,q⟩:=h;exact ⟨σ',H',I.unwish,q⟩
 | brk=>obtain ⟨σ',H',I,q⟩:=h;exact ⟨σ',H',I.unwish,q⟩
 | cont=>obtain ⟨σ',H',I,q⟩:=h;exact ⟨σ',H',I.unwish,q⟩
 | ret u=>obtain ⟨v,σ',H',I,r,q⟩:=h;exact ⟨v,σ',H',I.unwish,r,q⟩
theorem PSs.nox {st:List Stmt}{t:TS}(h:PSs X.nox st t):PSs X st t:=fun pins s σ H D I hw=>
 wpAny_mono (h pins s σ H D (I.wish _) hw) (fun _ _ q=>q.unwish) fun _ _ z=>False.elim z
end
section
variable {X:Cx}{st:Stmt}{rest:List Stmt}{t u:TS}{e:Expr}{te:TE}{pos:Pos}
def tNext:TS:=fun D σ H=>D.nx σ H
def tSeq (t u:TS):TS:=fun D σ H=>t {D with nx:=u D} σ H
theorem b0s:PSs X [] tNext:=fun _ _ σ H _ I h=>wpAny_execs_nil ⟨σ,H,I,h⟩
theorem a9p (h1:PS X st t)(h2:PSs X rest u):PSs X (st :: rest) (tSeq t u):=by
 intro pins s σ H D I h
 refine wpAny_execs_cons (thn (h1 pins s σ H {D with nx:=u D} I h) fun f s1 q=>?_)
 cases f with
 | next=>
  obtain ⟨σ',H',I',q⟩:=q
  exact h2 pins s1 σ' H' D I' q
 | ret v=>exact q
 | brk=>exact q
 | cont=>exact q
theorem a9O (h1:PS X st t):PSs X [st] t:=by
 intro pins s σ H D I h
 refine wpAny_execs_cons (thn (h1 pins s σ H D I h) fun f s1 q=>?_)
 cases f with
 | next=>exact wpAny_execs_nil q
 | ret v=>exact q
 | brk=>exact q
 | cont=>exact q
theorem Inv.quiet {pins:List (Addr×Obj)}{σ:St}{H:Hp}{s:Shared}(I:Inv X pins σ H s):interactive X.env=false:=by simp [interactive,I.ok.kind]
def tDrop (te:TE):TS:=fun D σ H=>te σ H fun _ H1=>D.nx σ H1
theorem b0w (he:PE X e te)(hs:swapsWith e none pos.line X.env=pure false:=by rfl):PS X (.Expr e pos) (tDrop te):=by
 intro pins s σ H D I h
 exact wpAny_Expr_any (thn (he pins s σ H _ I h) fun v s1 h0=>ex5 h0 fun x H1 I1 r1 q1=>⟨σ,H1,I1,q1⟩) I.quiet hs
def tRet (te:TE):TS:=fun D σ H=>te σ H D.rt
theorem b2p (he:PE X e te):PS X (.Return (some e) pos) (tRet te):=by
 intro pins s σ H D I h
 exact wpAny_Return_some (thn (he pins s σ H _ I h) fun v s1 h0=>ex5 h0 fun x H1 I1 r1 q1=>⟨x,σ,H1,I1,r1,q1⟩)
def tIfS (c:TT) (t u:TS):TS:=fun D σ H=>c σ H fun b H1=>if b=true then t D σ H1 else u D σ H1
theorem ps_if {c:Expr}{a b:List Stmt}{tc:TT}(hc:PT X c tc)(ha:PSs X a t)(hb:PSs X b u):PS X (.If c a b pos) (tIfS tc t u):=by
 intro pins s σ H D I h
 refine wpAny_If (thn (hc pins s σ H _ I h) fun d s1 ⟨H1,I1,q1⟩=>?_)
 cases d with
 | true=>exact ha pins s1 σ H1 D I1 q1
 | false=>exact hb pins s1 σ H1 D I1 q1
def tNever:TS:=fun _ _ _=>False
theorem a8J:PS X st tNever:=fun _ _ _ _ _ _ h=>h.elim
end
abbrev TG:=V->St->Hp->(St->Hp->Prop)->Prop
abbrev TGs:=List V->St->Hp->(St->Hp->Prop)->Prop
def PG (X:Cx) (target:Expr) (t:TG):Prop:=
 ∀(pins:List (Addr×Obj)) (s:Shared) (σ:St) (H:Hp) (v:V) (u:Value) (Q:St->Hp->Prop),Inv X pins σ H s->RelV v u->t v σ H Q->
  wpAny (model X.prog X.w) X.A (assign target X.env u) (fun _ s'=>∃σ' H',Inv X pins σ' H' s'/\Q σ' H') X.xe s
def PGs (X:Cx) (ts:List Expr) (t:TGs):Prop:=
 ∀(pins:List (Addr×Obj)) (s:Shared) (σ:St) (H:Hp) (vs:List V) (us:List Value) (Q:St->Hp->Prop),Inv X pins σ H s->Vals vs us->t vs σ H Q->
  wpAny (model X.prog X.w) X.A (assignInOrder ((assignEach ts X.env).map (·.2)) us) (fun _ s'=>∃σ' H',Inv X pins σ' H' s'/\Q σ' H') X.xe s
abbrev TSet:=V->V->V->Hp->(Hp->Prop)->Prop
def PSet (X:Cx) (t:TSet):Prop:=
 ∀(pins:List (Addr×Obj)) (s:Shared) (σ:St) (H:Hp) (o i v:V) (ov iv u:Value) (Q:Hp->Prop),Inv X pins σ H s->RelV o ov->RelV i iv->RelV v u->t o i v H Q->
  wpAny (model X.prog X.w) X.A (setItem ov iv u) (fun _ s'=>∃H',Inv X pins σ H' s'/\Q H') X.xe s
section
variable {X:Cx}{pos:Pos}
def gName (i:Nat):TG:=fun v σ H Q=>Q (σ.set i (some v)) H
theorem a5B {i:Nat}{x:Str}(hN:X.N.Nodup)(hi:X.N[i]? =some x)(hx:Loc X.env.scope x)(hf:X.fn x=true\/X.env.scope.names.lookup x=some .local:=by first | exact .inl rfl | exact .inr rfl | assumption):PG X (.Name x pos) (gName i):=by
 intro pins s σ H v u Q I r h
 exact wpAny_assign_Name (U2 I hN hi hx r (fun s' I'=>⟨_,H,I',h⟩) hf)
def gNil:TGs:=fun vs σ H Q=>vs=[]/\Q σ H
def gCons (t:TG) (u:TGs):TGs:=fun vs σ H Q=>∃v r,vs=v :: r/\t v σ H fun σ' H'=>u r σ' H' Q
theorem a9L:PGs X [] gNil:=by
 intro pins s σ H vs us Q I r h
 obtain ⟨e,h⟩:=h
 subst e
 cases r
 exact assignInOrder_nil ⟨σ,H,I,h⟩
theorem a79 {e:Expr}{es:List Expr}{t:TG}{u:TGs}(h1:PG X e t)(h2:PGs X es u)
  (hs:(assignEach (e :: es) X.env).map (·.2)=assign e X.env :: (assignEach es X.env).map (·.2):=by rfl):PGs X (e :: es) (gCons t u):=by
 intro pins s σ H vs us Q I r h
 obtain ⟨v,vr,e1,h⟩:=h
 subst e1
 cases r with
 | cons r rr=>
  rw [hs]
  refine assignInOrder_cons (thn (h1 pins s σ H _ _ _ I r h) fun _ s1 ⟨σ1,H1,I1,q1⟩=>?_)
  exact h2 pins s1 σ1 H1 _ _ Q I1 rr q1
def gTup (K:PySem.W.Frag) (n:Nat) (t:TGs):TG:=fun v σ H Q=>∃a xs,v= .ref a/\SqT K H a xs/\xs.length=n/\t xs σ H Q
theorem b1Z {es:List Expr}{k:Nat}{t:TGs}{n:Nat}(hc:X.calm=true)(h:PGs X es t)
  (hn:(assignEach es X.env).length=n:=by rfl) (hst:(assignEach es X.env).findIdx? (·.1)=none:=by rfl):PG X (.Tuple es k pos) (gTup X.K n t):=by
 intro pins s σ H v u Q I r hw
 obtain ⟨a,xs,e1,hq,hl,hw⟩:=hw
 subst e1
 cases r
 obtain ⟨its,rv,ht,hz⟩:=I.tuple hq
 refine assign_Tuple_tuple (I.ok.hd hc) ht (by simp [hn,<-hl,rv.length]) hst fun h' hx=>?_
 have I1:Inv X pins σ H {s with heap:=h'}:=I.kept (t':=s.toks) fun b o e=>hx b o (Nat.ne_of_lt (Heap.lt_size e)) e
 exact h pins _ σ H xs _ Q I1 (by simpa using rv) hw
def gSub (to ti:TE) (t:TSet):TG:=fun v σ H Q=>to σ H fun o H1=>ti σ H1 fun i H2=>t o i v H2 fun H3=>Q σ H3
theorem b2B {o i:Expr}{to ti:TE}{t:TSet}(ho:PE X o to)(hi:PE X i ti)(hs:PSet X t)
  (ha:∀v,assign (.Subscript o i pos) X.env v=(do
   let ov <-holding [v] (eval o X.env)
   let iv <-holding [v,ov] (eval i X.env)
   standAt pos
   holding [v,ov,iv] (setItem ov iv v)
   release [v,ov,iv] []):=by intro _;rfl):PG X (.Subscript o i pos) (gSub to ti t):=by
 intro pins s σ H v u Q I r h
 rw [ha]
 refine wpAny_bind (wpAny_holding (thn (ho pins s σ H _ I h) fun ov s1 h0=>ex5 h0 fun x H1 I1 r1 q1=>?_))
 refine wpAny_bind (wpAny_holding (thn (hi pins s1 σ H1 _ I1 q1) fun iv s2 h0=>ex5 h0 fun y H2 I2 r2 q2=>?_))
 refine wpAny_bind (wpAny_standAt (wpAny_bind (wpAny_holding (thn (hs pins s2 σ H2 x y v ov iv u _ I2 r1 r2 r q2) fun _ s3 ⟨H3,I3,q3⟩=>?_))))
 exact wpAny_release ⟨σ,H3,I3,q3⟩
def tAsg (te:TE) (g:TG):TS:=fun D σ H=>te σ H fun x H1=>g x σ H1 D.nx
theorem b1V {tg e:Expr}{te:TE}{g:TG}(he:PE X e te)(hg:PG X tg g)(hs:swapsWithSole [tg] e pos.line X.env=pure false:=by rfl)(hw:swappedStores [tg] e X.env=pure none:=by rfl)
  (h1:(assignEach [tg] X.env).map (·.2)=[assign tg X.env]:=by rfl):PS X (.Assign [tg] e pos) (tAsg te g):=by
 intro pins s σ H D I h
 refine wpAny_Assign_stores (thn (he pins s σ H _ I h) fun v s1 h0=>ex5 h0 fun x H1 I1 r1 q1=>?_) hs hw
 rw [h1]
 exact thn (hg pins s1 σ H1 x v _ I1 r1 q1) fun _ s2 q=>q
theorem b12 {i:Nat}{x:Str}{e:Expr}{te:TE}{pos':Pos}(hN:X.N.Nodup)(hi:X.N[i]? =some x)(hx:Loc X.env.scope x)(he:PE X e te)(hs:swapsWith e (some (.Name x pos')) pos.line X.env=pure false:=by rfl)(hf:X.fn x=true\/X.env.scope.names.lookup x=some .local:=by first | exact .inl rfl | exact .inr rfl | assumption):
  PS X (.Assign [.Name x pos'] e pos) (tAsg te (gName i)):=by
 intro pins s σ H D I h
 refine wpAny_Assign_Name (thn (he pins s σ H _ I h) fun v s1 h0=>ex5 h0 fun y H1 I1 r1 q1=>?_) hs
 exact U2 I1 hN hi hx r1 (fun s2 I2=>⟨_,H1,I2,q1⟩) hf
def tPar (i j:Nat) (ta:TA):TS:=fun D σ H=>ta σ H fun vs H1=>∃v w,vs=[v,w]/\D.nx ((σ.set i (some v)).set j (some w)) H1
theorem b2k {i j:Nat}{x y:Str}{a b:Expr}{ta:TA}{px py pt:Pos}{kt k2 pt2}(hc:X.calm=true)(hN:X.N.Nodup)(hi:X.N[i]? =some x)(hj:X.N[j]? =some y)(hij:i≠j)
  (hx:X.env.scope.names.lookup x=some .local) (hy:X.env.scope.names.lookup y=some .local) (ha:PA X [a,b] ta)
  (hw:swappedStores [.Tuple [.Name x px,.Name y py] kt pt] (.Tuple [a,b] k2 pt2) X.env=pure (some [x,y]))
  (hs:swapsWithSole [.Tuple [.Name x px,.Name y py] kt pt] (.Tuple [a,b] k2 pt2) pos.line X.env=pure false:=by rfl):
  PS X (.Assign [.Tuple [.Name x px,.Name y py] kt pt] (.Tuple [a,b] k2 pt2) pos) (tPar i j ta):=by
 intro pins s σ H D I h
 rw [exec_Assign_arm]
 refine wpAny_bind (wpAny_standAt ?_)
 rw [hs]
 refine wpAny_bind (wpAny_pure ?_)
 rw [if_neg (by decide)]
 refine wpAny_bind (Tuple_ (thn (ha _ pins s σ H _ I h) fun us s1 h0=>ex5 h0 fun vs H1 I1 r1 q1=>?_))
 obtain ⟨v,w,e1,q1⟩:=q1
 subst e1
 obtain ⟨u1,u2,rfl,rv,rw'⟩:∃u1 u2,us=[u1,u2]/\RelV v u1/\RelV w u2:=by
  cases r1 with
  | cons p q=>
   cases q with
   | cons p' q'=>
    cases q'
    exact ⟨_,_,rfl,p,p'⟩
 refine wpAny_newObj_type ?_ (by show 2<=sizeLine;decide)
 have I2:Inv X pins σ H1 {s1 with heap:=s1.heap.push {cls:=.type "tuple",data:=.seq [u1,u2].toArray}}:=I1.kept (t':=s1.toks) fun b o e=>Heap.get?_push_of_some _ e
 rw [hw]
 refine wpAny_bind (wpAny_pure ?_)
 show wpAny (model X.prog X.w) X.A (do rule "assign.swapped-stores";let items <-unpackItems (.ref s1.heap.objs.size) 2 none;assignInOrder [fun v=>bindName X.env y v,fun v=>bindName X.env x v] items.reverse;pure Flow.next) _ _ _
 refine wpAny_bind (wpAny_rule (wpAny_bind (unpackItems_tuple (items:= #[u1,u2]) (I.ok.hd hc) (IsTup.new s1.heap _) fun h' hx'=>?_)))
 have I3:=I2.kept (h':=h') (t':=s1.toks) fun b o e=>hx' b o (Nat.ne_of_lt (Heap.lt_size e)) e
 show wpAny _ _ (assignInOrder [fun v=>bindName X.env y v,fun v=>bindName X.env x v] [u2,u1] >>=fun _=>pure Flow.next) _ _ _
 refine wpAny_bind (assignInOrder_cons (wpAny_bindName (U2 I3 hN hj (.inl hy) rw' (fun s2 I4=>?_) (.inr hy))))
 refine assignInOrder_cons (wpAny_bindName (U2 I4 hN hi (.inl hx) rv (fun s3 I5=>assignInOrder_nil (wpAny_pure ?_)) (.inr hx)))
 rw [List.set_comm _ _ (Ne.symm hij)] at I5
 exact ⟨_,H1,I5,q1⟩
end
section
variable {X:Cx}{pos:Pos}
def tWhile (c:TT) (tb:TS):TS:=fun D σ H=>∃W:Nat->St->Hp->Prop,(∃m,W m σ H)/\∀m σ H,W m σ H->
 c σ H fun b H1=>if b=true then ∃N:St->Hp->Prop,(∀σ' H',N σ' H'->∃m',m' < m/\W m' σ' H')/\tb {D with nx:=N,ct:=N,bk:=D.nx} σ H1 else D.nx σ H1
theorem a7h {c:Expr}{body:List Stmt}{tc:TT}{tb:TS}(hp:PassesOwn (model X.prog X.w) X.A X.env X.xe)(hc:PT X c tc)(hb:PSs X body tb):PS X (.While c body [] pos) (tWhile tc tb):=by
 intro pins s σ H D I h
 obtain ⟨W,⟨m0,w0⟩,turn⟩:=h
 refine wpAny_While (codeAny_whileLoop (fun n s'=>∃σ' H',Inv X pins σ' H' s'/\W n σ' H') ?_ m0 ⟨σ,H,I,w0⟩)
 rintro n s1 ⟨σ1,H1,I1,w1⟩
 refine wpAny_passesOwn hp (thn (hc pins s1 σ1 H1 _ I1 (turn n σ1 H1 w1)) fun b s2 ⟨H2,I2,q2⟩=>?_)
 cases b with
 | true=>
  obtain ⟨N,hN,q2⟩:=q2
  rw [if_pos rfl]
  refine wpAny_passesOwn hp (thn (hb pins s2 σ1 H2 _ I2 q2) fun f s3 q3=>?_)
  cases f with
  | next=>
   obtain ⟨σ3,H3,I3,n3⟩:=q3
   obtain ⟨m',hm,w3⟩:=hN σ3 H3 n3
   exact ⟨m',hm,σ3,H3,I3,w3⟩
  | cont=>
   obtain ⟨σ3,H3,I3,n3⟩:=q3
   obtain ⟨m',hm,w3⟩:=hN σ3 H3 n3
   exact ⟨m',hm,σ3,H3,I3,w3⟩
  | brk=>exact q3
  | ret v=>exact q3
 | false=>
  rw [if_neg Bool.false_ne_true]
  exact wpAny_execs_nil ⟨σ1,H2,I2,q2⟩
end
structure It where
 go:Nat->Hp->Prop
 yld:Nat->Hp->V->Hp->Prop
 stop:Nat->Hp->Prop
def FpOk (X:Cx) (pins:List (Addr×Obj)) (H:Hp) (b:Addr):Prop:=
 H b=none/\b≠X.env.locals/\b∉X.fs/\(b∈X.ex\/X.s₀.heap.objs.size<=b)/\(∀x c,X.env.cells.lookup x=some c->c≠b)/\∀p∈X.pn ++ pins,p.1≠b
theorem Inv.fpOk {X:Cx}{pins:List (Addr×Obj)}{σ:St}{H H':Hp}{s:Shared}{b:Addr}(I:Inv X pins σ H s)(hb:s.heap.objs.size<=b)(hn:H' b=none):FpOk X pins H' b:=by
 refine ⟨hn,Nat.ne_of_gt (Nat.lt_of_lt_of_le I.lt hb),I.nofs hb,.inr (Nat.le_trans I.sz hb),fun x c e z=>?_,fun p hp z=>?_⟩
 ·obtain ⟨v,q⟩:=I.cell x c e
  exact absurd (Nat.lt_of_lt_of_le q.lt (by rw [z];exact hb)) (Nat.lt_irrefl _)
 ·exact absurd (Nat.lt_of_lt_of_le (Heap.lt_size (I.pin p hp).1) (by rw [z];exact hb)) (Nat.lt_irrefl _)
structure Turn (P:Program) (w:World) (K:PySem.W.Frag) (tg:Expr) (J:It) (fp:List Addr) (it:Addr) (tn:Nat->Heap->Prop):Prop where
 mem:it∈fp
 obj:∀i h,tn i h->∀b∈fp,∃o,h.get? b=some o/\∀v,o.data≠.cell v
 keep:∀i h h',tn i h->(∀b∈fp,∀o,h.get? b=some o->h'.get? b=some o)->tn i h'
 item:∀(X:Cx),X.prog=P->X.w=w->X.K=K->X.calm=true->∀(i:Nat) (pins:List (Addr×Obj)) (s:Shared) (σ:St) (H:Hp) (E:Value->Shared->Prop),Inv X pins σ H s->(∀b∈fp,FpOk X pins H b)->tn i s.heap->J.go i H->
  wpAny (model P w) X.A (pyNext (.ref it)) (fun r s1=>∃u,r=some u/\
   wpAny (model P w) X.A (letOwnedTupleGo tg (.ref it) u) (fun _ s2=>∃x H',Inv X pins σ H' s2/\RelV x u/\J.yld i H x H'/\tn (i + 1) s2.heap/\∀b∈fp,H' b=none) E s1) E s
 done:∀(X:Cx),X.prog=P->X.w=w->X.K=K->X.calm=true->∀(i:Nat) (pins:List (Addr×Obj)) (s:Shared) (σ:St) (H:Hp) (E:Value->Shared->Prop),Inv X pins σ H s->(∀b∈fp,FpOk X pins H b)->tn i s.heap->J.stop i H->
  wpAny (model P w) X.A (pyNext (.ref it)) (fun r s1=>r=none/\Inv X pins σ H s1) E s
 self:∀(A:Around) (i:Nat) (s:Shared) (Q:Value->Shared->Prop) (E:Value->Shared->Prop),tn i s.heap->Q (.ref it) s->wpAny (model P w) A (pyIter (.ref it)) Q E s
abbrev TI:=St->Hp->(It->Hp->Prop)->Prop
def PIE (X:Cx) (pins:List (Addr×Obj)) (σ:St) (tg:Expr) (R:It->Hp->Prop) (itv:Value) (s2:Shared):Prop:=
 ∃(it:Addr) (fp:List Addr) (tn:Nat->Heap->Prop) (J:It) (H':Hp),itv= .ref it/\Inv X pins σ H' s2/\Turn X.prog X.w X.K tg J fp it tn/\tn 0 s2.heap/\(∀b∈fp,FpOk X pins H' b)/\R J H'
def PI (X:Cx) (tg iter:Expr) (wi:TI):Prop:=
 ∀(pins:List (Addr×Obj)) (s:Shared) (σ:St) (H:Hp) (R:It->Hp->Prop),Inv X pins σ H s->wi σ H R->
  wpAny (model X.prog X.w) X.A (eval iter X.env) (fun v s1=>wpAny (model X.prog X.w) X.A (pyIter v) (PIE X pins σ tg R) X.xe s1) X.xe s
theorem a8a {M:Model}{A:Around}{E:Value->Shared->Prop}{s:Shared}{tg:Expr}{it:Addr}{u:Value}{o:Obj}{n:String}{vs:Array Value}{Q:Unit->Shared->Prop}(ho:s.heap.get? it=some o)(hc:o.cls= .type n)(hd:o.data= .fields vs)
  (hn:["enumerate","zip","dict_itemiterator","dict_reverseitemiterator","odict_iterator","itertools.zip_longest","itertools.pairwise"].contains n=false) (hQ:Q () s):wpAny M A (letOwnedTupleGo tg (.ref it) u) Q E s:=by
 unfold letOwnedTupleGo
 cases tg <;> first
  | exact wpAny_pure hQ
  | (cases u <;> first
    | exact wpAny_pure hQ
    | (refine wpAny_bind (wpAny_load ho ?_)
       rw [hc,hd]
       show wpAny M A (if (["enumerate","zip","dict_itemiterator","dict_reverseitemiterator","odict_iterator","itertools.zip_longest","itertools.pairwise"].contains n && vs[0]? == some (rawInt _))=true then _ else _) Q E s
       rw [if_neg (by intro h;rw [hn,Bool.false_and] at h;cases h)]
       exact wpAny_pure hQ))
def Itl (K:PySem.W.Frag) (a:Addr):It:=
 ⟨fun i H=>∃xs x,SqL K H a xs/\xs[i]? =some x,fun i H x H'=>H'=H/\∀xs,SqL K H a xs->xs[i]? =some x,fun i H=>∃xs,SqL K H a xs/\xs.length<=i⟩
def Itt (K:PySem.W.Frag) (a:Addr):It:=
 ⟨fun i H=>∃xs x,SqT K H a xs/\xs[i]? =some x,fun i H x H'=>H'=H/\∀xs,SqT K H a xs->xs[i]? =some x,fun i H=>∃xs,SqT K H a xs/\xs.length<=i⟩
def Itr (lo:Int) (n:Nat):It:=⟨fun i _=>i < n,fun i H x H'=>H'=H/\x= .int (lo + i),fun i _=>n<=i⟩
theorem a6T {P:Program}{w:World}{K:PySem.W.Frag}{tg:Expr}(a it:Addr):Turn P w K tg (Itl K a) [it] it (fun i h=>h.IsListIter it a i) where
 mem:=by simp
 obj:=fun i h st b hb=>by
  have e:b=it:=by simpa using hb
  subst e
  obtain ⟨o,e,c,d⟩:=st
  exact ⟨o,e,fun v z=>by rw [d] at z;cases z⟩
 keep:=fun i h h' st k=>st.at fun o e=>k it (by simp) o e
 item:=by
  intro X hP hw hK hc i pins s σ H E I hf st hg
  subst hP hw hK
  obtain ⟨xs,x,hq,hx⟩:=hg
  obtain ⟨its,rv,p,hz⟩:=I.list hq
  obtain ⟨u,hu,ru⟩:=rv.get hx
  obtain ⟨f0,f1,f2,f3,f4,f5⟩:=hf it (by simp)
  refine wpAny_pyNext_list_item st p.isList (x:=u) (by simpa using hu) fun h' st' sb=>?_
  have I1:Inv X pins σ H {s with heap:=h'}:=I.turned (t':=s.toks) (fun b o hb e=>(sb.2 b hb).trans e) f0 f1 f3 f4 f5
  obtain ⟨o,e,c,d⟩:=id st'
  exact ⟨u,rfl,a8a (s:={s with heap:=h'}) e c d (by decide) ⟨x,H,I1,ru,⟨rfl,fun ys hy=>by rw [I.list_inj hy hq];exact hx⟩,st',fun b hb=>(hf b hb).1⟩⟩
 done:=by
  intro X hP hw hK hc i pins s σ H E I hf st hg
  subst hP hw hK
  obtain ⟨xs,hq,hx⟩:=hg
  obtain ⟨its,rv,p,hz⟩:=I.list hq
  obtain ⟨f0,f1,f2,f3,f4,f5⟩:=hf it (by simp)
  have hl:=rv.length
  exact wpAny_pyNext_list_end (I.ok.hd hc) st p.isList (by simp;walk_at "o") fun h' eb=>⟨rfl,I.turned (t':=s.toks) (fun b o hb e=>eb b o hb e) f0 f1 f3 f4 f5⟩
 self:=fun _ _ _ _ _ st h=>wpAny_pyIter_listiter st h
theorem a4x {P:Program}{w:World}{K:PySem.W.Frag}{tg:Expr}(a it:Addr):Turn P w K tg (Itt K a) [it] it (fun i h=>h.IsTupleIter it a i) where
 mem:=by simp
 obj:=fun i h st b hb=>by
  have e:b=it:=by simpa using hb
  subst e
  obtain ⟨o,e,c,d⟩:=st
  exact ⟨o,e,fun v z=>by rw [d] at z;cases z⟩
 keep:=fun i h h' st k=>st.at fun o e=>k it (by simp) o e
 item:=by
  intro X hP hw hK hc i pins s σ H E I hf st hg
  subst hP hw hK
  obtain ⟨xs,x,hq,hx⟩:=hg
  obtain ⟨its,rv,p,hz⟩:=I.tuple hq
  obtain ⟨u,hu,ru⟩:=rv.get hx
  obtain ⟨f0,f1,f2,f3,f4,f5⟩:=hf it (by simp)
  refine wpAny_pyNext_tuple_item st (show s.heap.IsTuple a its.toArray from p) (x:=u) (by simpa using hu) fun h' st' sb=>?_
  have I1:Inv X pins σ H {s with heap:=h'}:=I.turned (t':=s.toks) (fun b o hb e=>(sb.2 b hb).trans e) f0 f1 f3 f4 f5
  obtain ⟨o,e,c,d⟩:=id st'
  exact ⟨u,rfl,a8a (s:={s with heap:=h'}) e c d (by decide) ⟨x,H,I1,ru,⟨rfl,fun ys hy=>by rw [I.tuple_inj hy hq];exact hx⟩,st',fun b hb=>(hf b hb).1⟩⟩
 done:=by
  intro X hP hw hK hc i pins s σ H E I hf st hg
  subst hP hw hK
  obtain ⟨xs,hq,hx⟩:=hg
  obtain ⟨its,rv,p,hz⟩:=I.tuple hq
  obtain ⟨f0,f1,f2,f3,f4,f5⟩:=hf it (by simp)
  have hl:=rv.length
  exact wpAny_pyNext_tuple_end (I.ok.hd hc) st (show s.heap.IsTuple a its.toArray from p) (by simp;walk_at "o") fun h' eb=>⟨rfl,I.turned (t':=s.toks) (fun b o hb e=>eb b o hb e) f0 f1 f3 f4 f5⟩
 self:=fun _ _ _ _ _ st h=>wpAny_pyIter_tupleiter st h
theorem a4X {P:Program}{w:World}{K:PySem.W.Frag}{tg:Expr}(it:Addr)(lo:Int)(n:Nat):Turn P w K tg (Itr lo n) [it] it (fun i h=>IsRangeIter h it (lo + (i:Nat) * 1) ((n:Int) - (i:Nat)) 1) where
 mem:=by simp
 obj:=fun i h st b hb=>by
  have e:b=it:=by simpa using hb
  subst e
  exact ⟨_,st,fun v z=>by
   have z':Data.fields _=Data.cell v:=z
   cases z'⟩
 keep:=fun i h h' st k=>k it (by simp) _ st
 item:=by
  intro X hP hw hK hc i pins s σ H E I hf st hg
  subst hP hw hK
  obtain ⟨f0,f1,f2,f3,f4,f5⟩:=hf it (by simp)
  have W:=Walks.range (prog:=X.prog) (w:=X.w) (I.ok.hd hc) it lo 1 n
  refine W.item i s _ _ hg st fun v h' tk hv st' kk=>?_
  obtain ⟨t,rfl⟩:=hv
  have I1:Inv X pins σ H {s with heap:=h',toks:=tk}:=I.turned (fun b o hb e=>kk b o (by simpa using hb) e) f0 f1 f3 f4 f5
  refine ⟨_,rfl,a8a (s:={s with heap:=h',toks:=tk}) (n:="range_iterator") st' rfl rfl (by decide) ⟨.int (lo + i),H,I1,⟨t,?_⟩,⟨rfl,rfl⟩,st',fun b hb=>(hf b hb).1⟩⟩
  rw [Int.mul_one]
 done:=by
  intro X hP hw hK hc i pins s σ H E I hf st hg
  subst hP hw hK
  obtain ⟨f0,f1,f2,f3,f4,f5⟩:=hf it (by simp)
  exact wpAny_pyNext_range_end (I.ok.hd hc) st (by have:n<=i:=hg;walk_at "o") fun h' eb=>⟨rfl,I.turned (t':=s.toks) (fun b o hb e=>eb b o hb e) f0 f1 f3 f4 f5⟩
 self:=fun _ _ _ _ _ st h=>wpAny_pyIter_rangeiter st h
section
variable {X:Cx}{tg:Expr}
theorem a3z {pins:List (Addr×Obj)}{σ:St}{H:Hp}{s:Shared}{R:It->Hp->Prop}{E:Value->Shared->Prop}{lo hi:Int}{t u v:Tok}{tk:Nat}(I:Inv X pins σ H s)(h1:-(2 ^ 62)<=lo)(h2:lo < 2 ^ 62)(h3:-(2 ^ 62)<=hi)(h4:hi < 2 ^ 62)
  (q:R (Itr lo (hi - lo).toNat) H):wpAny (model X.prog X.w) X.A (pyIter (.ref s.heap.objs.size)) (PIE X pins σ tg R) E {s with heap:=s.heap.push {cls:=.type "range",data:=.fields #[.int lo t,.int hi u,.int 1 v]},toks:=tk}:=by
 refine wpAny_pyIter_range (IsRange.new ..) (small_one h1 h2 h3 h4) ?_
 have I1:Inv X pins σ H {s with heap:=s.heap.push {cls:=.type "range",data:=.fields #[.int lo t,.int hi u,.int 1 v]},toks:=tk}:=I.kept fun b o e=>Heap.get?_push_of_some _ e
 refine ⟨(s.heap.push {cls:=.type "range",data:=.fields #[.int lo t,.int hi u,.int 1 v]}).objs.size,[(s.heap.push {cls:=.type "range",data:=.fields #[.int lo t,.int hi u,.int 1 v]}).objs.size],_,_,H,rfl,
  I1.kept (t':=tk) fun b o e=>Heap.get?_push_of_some _ e,a4X _ lo (hi - lo).toNat,?_,fun b hb=>?_,q⟩
 ·have e1:lo + ((0:Nat):Int) * 1=lo:=by simp
  have e2:(((hi - lo).toNat:Nat):Int) - ((0:Nat):Int)=Builtin.Range.rangeSize lo hi 1:=by rw [rangeSize_one];split <;> walk_at "o"
  show IsRangeIter _ _ (lo + ((0:Nat):Int) * 1) ((((hi - lo).toNat:Nat):Int) - ((0:Nat):Int)) 1
  rw [e1,e2]
  exact Heap.get?_push_size _ rfl
 ·have e:b=(s.heap.push {cls:=.type "range",data:=.fields #[.int lo t,.int hi u,.int 1 v]}).objs.size:=by simpa using hb
  subst e
  exact I1.fpOk (Nat.le_refl _) (I1.hok.fresh (Nat.le_refl _))
def iRng1 (ta:TA):TI:=fun σ H R=>ta σ H fun vs H1=>∃j:Int,vs=[.int j]/\-(2 ^ 62)<=j/\j < 2 ^ 62/\R (Itr 0 j.toNat) H1
def iRng2 (ta:TA):TI:=fun σ H R=>ta σ H fun vs H1=>∃i j:Int,vs=[.int i,.int j]/\(-(2 ^ 62)<=i/\i < 2 ^ 62/\-(2 ^ 62)<=j/\j < 2 ^ 62)/\R (Itr i (j - i).toNat) H1
theorem a6A {a:Expr}{ta:TA}{p pos:Pos}(hg:Gl X "range")(hm:X.mg "range"=none)(ha:PA X [a] ta)(hs:starEach [a] X.env=[(false,eval a X.env)]:=by rfl):PI X tg (.Call (.Name "range" p) [a] [] pos) (iRng1 ta):=by
 intro pins s σ H R I h
 refine Call_ (N0 I hg hm boot_range (PyProof.Rows.callWith_type1 (thn (ha pos pins s σ H _ I h) fun us s1 h0=>ex5 h0 fun vs H1 I1 r1 q1=>?_) hs rfl))
 obtain ⟨j,e,q1,q2,q⟩:=q1
 subst e
 cases r1 with
 | cons r rr=>
  cases rr
  obtain ⟨t,rfl⟩:=r
  exact call_range_1 (a3z I1 (by walk_at "o") (by walk_at "o") q1 q2 (by simpa using q))
theorem a7b {a b:Expr}{ta:TA}{p pos:Pos}(hg:Gl X "range")(hm:X.mg "range"=none)(ha:PA X [a,b] ta)(hs:starEach [a,b] X.env=[(false,eval a X.env),(false,eval b X.env)]:=by rfl)(hs2:starEach [b] X.env=[(false,eval b X.env)]:=by rfl):
  PI X tg (.Call (.Name "range" p) [a,b] [] pos) (iRng2 ta):=by
 intro pins s σ H R I h
 refine Call_ (N0 I hg hm boot_range (PyProof.Rows.callWith_type1 (thn (ha pos pins s σ H _ I h) fun us s1 h0=>ex5 h0 fun vs H1 I1 r1 q1=>?_) (by rw [hs,hs2]) (by rw [hs2];rfl)))
 obtain ⟨i,j,e,⟨q1,q2,q3,q4⟩,q⟩:=q1
 subst e
 cases r1 with
 | cons r rr=>
  cases rr with
  | cons r' rr=>
   cases rr
   obtain ⟨t,rfl⟩:=r
   obtain ⟨t',rfl⟩:=r'
   exact call_range_2 (a3z I1 q1 q2 q3 q4 q)
def tFor (wi:TI) (g:TG) (tb:TS):TS:=fun D σ H=>wi σ H fun J H1=>∃W:Nat->Nat->St->Hp->Prop,(∃m,W 0 m σ H1)/\∀i m σ H,W i m σ H->
 (J.stop i H/\D.nx σ H)\/(J.go i H/\∃N:St->Hp->Prop,(∀σ' H',N σ' H'->∃m',m' < m/\W (i + 1) m' σ' H')/\∀x H',J.yld i H x H'->g x σ H' fun σ2 H2=>tb {D with nx:=N,ct:=N,bk:=D.nx} σ2 H2)
def pinsAt (fp:List Addr) (h:Heap):List (Addr×Obj):=fp.filterMap fun b=>(h.get? b).map fun o=>(b,o)
theorem t5 {fp:List Addr}{h:Heap}{b:Addr}{o:Obj}(hb:b∈fp)(e:h.get? b=some o):(b,o)∈pinsAt fp h:=List.mem_filterMap.mpr ⟨b,hb,by rw [e];rfl⟩
theorem a6E {fp:List Addr}{h:Heap}{p:Addr×Obj}(hp:p∈pinsAt fp h):p.1∈fp/\h.get? p.1=some p.2:=by
 obtain ⟨b,hb,e⟩:=List.mem_filterMap.mp hp
 cases q:h.get? b with
 | none=>rw [q] at e;cases e
 | some o=>
  rw [q] at e
  have e':(b,o)=p:=Option.some.inj e
  subst e'
  exact ⟨hb,q⟩
theorem Inv.pinned {pins:List (Addr×Obj)}{σ:St}{H:Hp}{s:Shared}{fp:List Addr}(I:Inv X pins σ H s)(hf:∀b∈fp,FpOk X pins H b)(ho:∀b∈fp,∃o,s.heap.get? b=some o/\∀v,o.data≠.cell v):Inv X (pins ++ pinsAt fp s.heap) σ H s:=
 I.pins_of fun p hp=>(List.mem_append.mp hp).elim (fun z=>I.pin p (List.mem_append_right _ z)) fun z=>by
  obtain ⟨hb,e⟩:=a6E z
  obtain ⟨f0,f1,f2,_⟩:=hf p.1 hb
  obtain ⟨o,e',d⟩:=ho p.1 hb
  rw [e] at e';cases e'
  exact ⟨e,f0,f1,f2,d⟩
theorem Inv.unpinned {pins pl:List (Addr×Obj)}{σ:St}{H:Hp}{s:Shared}(I:Inv X (pins ++ pl) σ H s):Inv X pins σ H s:=I.pins_of fun p hp=>I.pin p (List.mem_append_right _ (List.mem_append_left _ hp))
theorem b2h {iter:Expr}{body:List Stmt}{wi:TI}{g:TG}{tb:TS}{pos:Pos}(hp:PassesOwn (model X.prog X.w) X.A X.env X.xe)(hc:X.calm=true)(hi:PI X tg iter wi)(hg:PG X tg g)(hb:PSs X body tb)
  (hs:∀x,foldedSetIterable iter X.env x=pure x:=by intro _;rfl):PS X (.For tg iter body [] pos) (tFor wi g tb):=by
 intro pins s σ H D I h
 refine wpAny_For (thn (hi pins s σ H _ I h) fun v s1 h1=>thn h1 fun itv s2 h2=>?_) hs
 obtain ⟨it,fp,tn,J,H2,e,I2,T,st2,f2,W,⟨m0,w0⟩,turn⟩:=h2
 subst e
 have stat:∀{H':Hp},(∀b∈fp,H' b=none)->∀b∈fp,FpOk X pins H' b:=fun hn b hb=>⟨hn b hb,(f2 b hb).2⟩
 refine codeAny_forLoop_any (fun n s'=>∃i σ' H',Inv X pins σ' H' s'/\tn i s'.heap/\(∀b∈fp,H' b=none)/\W i n σ' H') ?_ m0 ⟨0,σ,H2,I2,st2,fun b hb=>(f2 b hb).1,w0⟩
 rintro n s3 ⟨i,σ3,H3,I3,st3,fr3,w3⟩
 rcases turn i n σ3 H3 w3 with ⟨stop,qn⟩ | ⟨go,N,hN,step⟩
 ·refine wpAny_passesOwn hp (thn (T.done X rfl rfl rfl hc i pins s3 σ3 H3 X.xe I3 (stat fr3) st3 stop) fun r s4 ⟨hr,I4⟩=>?_)
  subst hr
  exact wpAny_execs_nil ⟨σ3,H3,I4,qn⟩
 ·refine wpAny_passesOwn hp (thn (T.item X rfl rfl rfl hc i pins s3 σ3 H3 X.xe I3 (stat fr3) st3 go) fun r s4 ⟨u,hr,h4⟩=>?_)
  subst hr
  refine wpAny_passesOwn hp (thn h4 fun _ s5 ⟨x,H5,I5,r5,y5,st5,fr5⟩=>?_)
  have I5':=I5.pinned (stat fr5) (T.obj _ _ st5)
  refine wpAny_passesOwn hp (thn (hg _ s5 σ3 H5 x u _ I5' r5 (step x H5 y5)) fun _ s6 ⟨σ6,H6,I6,q6⟩=>?_)
  refine wpAny_passesOwn hp (thn (hb _ s6 σ6 H6 _ I6 q6) fun f s7 q7=>?_)
  have again:∀{σ7:St} {H7:Hp},Inv X (pins ++ pinsAt fp s5.heap) σ7 H7 s7->N σ7 H7->∃m,m < n/\∃i σ' H',Inv X pins σ' H' s7/\tn i s7.heap/\(∀b∈fp,H' b=none)/\W i m σ' H':=fun {σ7 H7} I7 n7=>by
   obtain ⟨m',hm,w7⟩:=hN σ7 H7 n7
   refine ⟨m',hm,i + 1,σ7,H7,I7.unpinned,T.keep _ _ _ st5 fun b hb o e=>(I7.pin (b,o) (List.mem_append_right _ (List.mem_append_right _ (t5 hb e)))).1,fun b hb=>?_,w7⟩
   obtain ⟨o,e,d⟩:=T.obj _ _ st5 b hb
   exact (I7.pin (b,o) (List.mem_append_right _ (List.mem_append_right _ (t5 hb e)))).2.1
  cases f with
  | next=>obtain ⟨σ7,H7,I7,n7⟩:=q7;exact again I7 n7
  | cont=>obtain ⟨σ7,H7,I7,n7⟩:=q7;exact again I7 n7
  | brk=>obtain ⟨σ7,H7,I7,q7⟩:=q7;exact ⟨σ7,H7,I7.unpinned,q7⟩
  | ret v=>obtain ⟨x7,σ7,H7,I7,r7,q7⟩:=q7;exact ⟨x7,σ7,H7,I7.unpinned,r7,q7⟩
end
abbrev R2:=V->V->Hp->VK->Prop
def OpR (X:Cx) (f:Value->Value->Sem Value) (r:R2):Prop:=
 ∀(pins:List (Addr×Obj)) (s:Shared) (σ:St) (H:Hp) (x y:V) (v u:Value) (Q:VK),Inv X pins σ H s->RelV x v->RelV y u->r x y H Q->
  wpAny (model X.prog X.w) X.A (f v u) (EP X pins σ Q) X.xe s
def UnR (X:Cx) (f:Value->Sem Value) (r:V->Hp->VK->Prop):Prop:=
 ∀(pins:List (Addr×Obj)) (s:Shared) (σ:St) (H:Hp) (x:V) (v:Value) (Q:VK),Inv X pins σ H s->RelV x v->r x H Q->
  wpAny (model X.prog X.w) X.A (f v) (EP X pins σ Q) X.xe s
def CallR (X:Cx) (f:Value) (r:List V->Hp->VK->Prop):Prop:=
 ∀(pins:List (Addr×Obj)) (s:Shared) (σ:St) (H:Hp) (xs:List V) (us:List Value) (Q:VK),Inv X pins σ H s->Vals xs us->r xs H Q->
  wpAny (model X.prog X.w) X.A (call f us) (EP X pins σ Q) X.xe s
def TruR (X:Cx) (r:V->Hp->(Bool->Hp->Prop)->Prop):Prop:=
 ∀(pins:List (Addr×Obj)) (s:Shared) (σ:St) (H:Hp) (x:V) (v:Value) (Q:Bool->Hp->Prop),Inv X pins σ H s->RelV x v->r x H Q->
  wpAny (model X.prog X.w) X.A (truthy v) (TP X pins σ Q) X.xe s
def tOp (r:R2) (ta tb:TE):TE:=fun σ H Q=>ta σ H fun x H1=>tb σ H1 fun y H2=>r x y H2 Q
def tUn (r:V->Hp->VK->Prop) (ta:TE):TE:=fun σ H Q=>ta σ H fun x H1=>r x H1 Q
def rI (C:Int->Int->Prop) (g:Int->Int->V):R2:=fun x y H Q=>∃i j,x= .int i/\y= .int j/\C i j/\Q (g i j) H
def rI0 (g:Int->Int->V):R2:=fun x y H Q=>∃i j,x= .int i/\y= .int j/\Q (g i j) H
def rU (g:Int->V):V->Hp->VK->Prop:=fun x H Q=>∃i,x= .int i/\Q (g i) H
section
variable {X:Cx}{a b c:Expr}{ta tb tc:TE}{pos:Pos}
theorem binT (ha:PE X a ta)(hb:PE X b tb){pins:List (Addr×Obj)}{s:Shared}{σ:St}{H:Hp}{R:V->V->Hp->Prop}(I:Inv X pins σ H s)
  (h:ta σ H fun x H1=>tb σ H1 fun y H2=>R x y H2) {Q:Value->Shared->Prop} {f:Value->Value->Sem Value}
  (hf:∀v u s2 x y H2,Inv X pins σ H2 s2->RelV x v->RelV y u->R x y H2->wpAny (model X.prog X.w) X.A (f v u) Q X.xe s2):
  wpAny (model X.prog X.w) X.A (eval a X.env) (fun v s₁=>wpAny (model X.prog X.w) X.A (eval b X.env) (fun u s₂=>wpAny (model X.prog X.w) X.A (f v u) Q X.xe s₂) X.xe s₁) X.xe s:=by
 refine thn (ha pins s σ H _ I h) fun v s1 h0=>ex5 h0 fun x H1 I1 r1 q1=>?_
 refine thn (hb pins s1 σ H1 _ I1 q1) fun u s2 h0=>ex5 h0 fun y H2 I2 r2 q2=>?_
 exact hf v u s2 x y H2 I2 r1 r2 q2
theorem pe_op {op:Operator}{r:R2}(ho:OpR X (binaryOp op) r)(ha:PE X a ta)(hb:PE X b tb):PE X (.BinOp a op b pos) (tOp r ta tb):=by
 intro pins s σ H Q I h
 exact wpAny_BinOp (binT ha hb I h fun v u s2 x y H2 I2 rx ry q=>ho pins s2 σ H2 x y v u Q I2 rx ry q)
theorem pe_un {op:UnaryOp}{r:V->Hp->VK->Prop}(ho:UnR X (unaryOp op) r)(ha:PE X a ta):PE X (.UnaryOp op a pos) (tUn r ta):=by
 intro pins s σ H Q I h
 exact UnaryOp_ (thn (ha pins s σ H _ I h) fun v s1 h0=>ex5 h0 fun x H1 I1 r1 q1=>ho pins s1 σ H1 x v Q I1 r1 q1)
theorem opI {f:Value->Value->Sem Value}{C:Int->Int->Prop}{g:Int->Int->Int}
  (rule:∀(i j:Int) (t u:Tok) (s:Shared) (Q:Value->Shared->Prop) (E:Value->Shared->Prop),C i j->Q (.int (g i j) s.toks) {s with toks:=s.toks + 1}->wpAny (model X.prog X.w) X.A (f (.int i t) (.int j u)) Q E s):
  OpR X f (rI C fun i j=>.int (g i j)):=by
 intro pins s σ H x y v u Q I rx ry h
 obtain ⟨i,j,rfl,rfl,hc,q⟩:=h
 obtain ⟨t,rfl⟩:=rx
 obtain ⟨t',rfl⟩:=ry
 exact rule i j t t' s _ _ hc ⟨.int (g i j),H,I.tok _,⟨_,rfl⟩,q⟩
theorem opI0 {f:Value->Value->Sem Value}{g:Int->Int->Int}
  (rule:∀(i j:Int) (t u:Tok) (s:Shared) (Q:Value->Shared->Prop) (E:Value->Shared->Prop),Q (.int (g i j) s.toks) {s with toks:=s.toks + 1}->wpAny (model X.prog X.w) X.A (f (.int i t) (.int j u)) Q E s):
  OpR X f (rI0 fun i j=>.int (g i j)):=by
 intro pins s σ H x y v u Q I rx ry h
 obtain ⟨i,j,rfl,rfl,q⟩:=h
 obtain ⟨t,rfl⟩:=rx
 obtain ⟨t',rfl⟩:=ry
 exact rule i j t t' s _ _ ⟨.int (g i j),H,I.tok _,⟨_,rfl⟩,q⟩
theorem opB0 {f:Value->Value->Sem Value}{g:Int->Int->Bool}
  (rule:∀(i j:Int) (t u:Tok) (s:Shared) (Q:Value->Shared->Prop) (E:Value->Shared->Prop),Q (.bool (g i j)) s->wpAny (model X.prog X.w) X.A (f (.int i t) (.int j u)) Q E s):
  OpR X f (rI0 fun i j=>.bl (g i j)):=by
 intro pins s σ H x y v u Q I rx ry h
 obtain ⟨i,j,rfl,rfl,q⟩:=h
 obtain ⟨t,rfl⟩:=rx
 obtain ⟨t',rfl⟩:=ry
 exact rule i j t t' s _ _ ⟨.bl (g i j),H,I,rfl,q⟩
def CPow (i j:Int):Prop:=0<=j/\j<=1000000/\i.natAbs < 2 ^ 64
theorem b2H:OpR X (binaryOp .Add) (rI0 fun i j=>.int (i + j)):=opI0 fun _ _ _ _ _ _ _ q=>add_int q
theorem b14:OpR X (binaryOp .Sub) (rI0 fun i j=>.int (i - j)):=opI0 fun _ _ _ _ _ _ _ q=>sub_int q
theorem b2g:OpR X (binaryOp .Mod) (rI (fun _ j=>0 < j) fun i j=>.int (i % j)):=opI fun i j _ _ _ _ _ hc q=>by
 have h1:(0:Int) < j:=hc
 exact mod_int' (by walk_at "o") (by rw [Int.fmod_eq_emod_of_nonneg i (by walk_at "o")];exact q)
theorem b2m:OpR X (binaryOp .Pow) (rI CPow fun i j=>.int (i ^ j.toNat)):=opI fun _ _ _ _ _ _ _ hc q=>pow_int_small hc.1 hc.2.1 hc.2.2 q
theorem unI {f:Value->Sem Value}{g:Int->Int}
  (rule:∀(i:Int) (t:Tok) (s:Shared) (Q:Value->Shared->Prop) (E:Value->Shared->Prop),Q (.int (g i) s.toks) {s with toks:=s.toks + 1}->wpAny (model X.prog X.w) X.A (f (.int i t)) Q E s):
  UnR X f (rU fun i=>.int (g i)):=by
 intro pins s σ H x v Q I rx h
 obtain ⟨i,rfl,q⟩:=h
 obtain ⟨t,rfl⟩:=rx
 exact rule i t s _ _ ⟨.int (g i),H,I.tok _,⟨_,rfl⟩,q⟩
theorem b16:UnR X (unaryOp .USub) (rU fun i=>.int (-i)):=unI fun _ _ _ _ _ q=>neg_int q
end
section
variable {X:Cx}{a b c:Expr}{ta tb tc:TE}{pos:Pos}
theorem b01:OpR X (compareOp .Lt) (rI0 fun i j=>.bl (decide (i < j))):=opB0 fun _ _ _ _ _ _ _ q=>lt_int q
theorem b0A:OpR X (compareOp .Gt) (rI0 fun i j=>.bl (decide (j < i))):=opB0 fun _ _ _ _ _ _ _ q=>gt_int q
theorem op_ge:OpR X (compareOp .GtE) (rI0 fun i j=>.bl (decide (j<=i))):=opB0 fun _ _ _ _ _ _ _ q=>ge_int q
theorem OpR.or {f:Value->Value->Sem Value}{r r':R2}(h:OpR X f r)(h':OpR X f r'):OpR X f (fun x y H Q=>r x y H Q\/r' x y H Q):=by
 intro pins s σ H x y v u Q I rx ry q
 rcases q with q | q
 ·exact h pins s σ H x y v u Q I rx ry q
 ·exact h' pins s σ H x y v u Q I rx ry q
theorem nomark (b:Expr){op:CmpOp}(h:op≠.In:=by decide)(h2:op≠.NotIn:=by decide):behindInMarks op b=false:=by
 have e1:(op == CmpOp.In)=false:=by cases op <;> first | rfl | exact absurd rfl h
 have e2:(op == CmpOp.NotIn)=false:=by cases op <;> first | rfl | exact absurd rfl h2
 cases b <;> simp [behindInMarks,e1,e2]
theorem b0q {op:CmpOp}{r:R2}(ho:OpR X (compareOp op) r)(ha:PE X a ta)(hb:PE X b tb)(hm:behindInMarks op b=false):PE X (.Compare a [op] [b] pos) (tOp r ta tb):=by
 intro pins s σ H Q I h
 exact wpAny_Compare1 (binT ha hb I h fun v u s2 x y H2 I2 rx ry q=>ho pins s2 σ H2 x y v u Q I2 rx ry q) hm
def tTest (t:TE):TT:=fun σ H Q=>t σ H fun x H'=>∃k,x= .bl k/\Q k H'
theorem b0g {op:CmpOp}{r:R2}(ho:OpR X (compareOp op) r)(ha:PE X a ta)(hb:PE X b tb)(hm:behindInMarks op b=false):PT X (.Compare a [op] [b] pos) (tTest (tOp r ta tb)):=by
 intro pins s σ H Q I h
 refine wpAny_isTrue_Compare1 (thn (ha pins s σ H _ I h) fun v s1 h0=>ex5 h0 fun x H1 I1 r1 q1=>thn (hb pins s1 σ H1 _ I1 q1) fun u s2 h0=>ex5 h0 fun y H2 I2 r2 q2=>
  thn (ho pins s2 σ H2 x y v u _ I2 r1 r2 q2) fun c s3 ⟨z,H3,I3,r3,k,e,q3⟩=>?_) hm
 subst e
 cases r3
 exact wpAny_truthy_bool ⟨H3,I3,q3⟩
def TruV (K:PySem.W.Frag) (x:V) (H:Hp) (k:Bool):Prop:=
 match x with
 | .non=>k=false
 | .bl b=>k=b
 | .int i=>k=(i != 0)
 | .str y=>y.length<=sizeLine/\k=((y.length:Int) != 0)
 | .byt y=>y.size<=sizeLine/\k=((y.size:Int) != 0)
 | .ref p=>(∃xs,SqL K H p xs/\k= !xs.isEmpty)\/(∃xs,SqT K H p xs/\k= !xs.isEmpty)\/∃kvs,H p=some (.dK kvs)/\k= !kvs.isEmpty
 | _=>False
theorem a4w {κ:Type}{kvs:List (κ×V)}{vs:List (κ×Value)}(r:KV kvs vs):(!vs.isEmpty)= !kvs.isEmpty:=by
 cases r <;> rfl
theorem a0T {xs:List V}{its:List Value}(r:Vals xs its):(!its.toArray.isEmpty)= !xs.isEmpty:=by
 cases r <;> simp
theorem line63:(sizeLine:Nat) < 2 ^ 63:=by rw [sizeLine_eq];decide
theorem a8n:TruR X (fun x H Q=>∃k,TruV X.K x H k/\Q k H):=by
 intro pins s σ H x v Q I rx h
 obtain ⟨k,e,q⟩:=h
 have hl:=line63
 have hs:sizeLine=16777216:=sizeLine_eq
 cases x with
 | non=>
  cases rx
  have e':k=false:=e
  subst e'
  exact truthy_none ⟨H,I,q⟩
 | bl b=>
  cases rx
  have e':k=b:=e
  subst e'
  exact wpAny_truthy_bool ⟨H,I,q⟩
 | int i=>
  obtain ⟨t,rfl⟩:=rx
  have e':k=(i != 0):=e
  subst e'
  exact PySem.P.truthy_int ⟨H,I,q⟩
 | str y=>
  obtain ⟨t,rfl⟩:=rx
  obtain ⟨hy,e'⟩:y.length<=sizeLine/\k=((y.length:Int) != 0):=e
  subst e'
  exact PySem.P.truthy_str (by walk_at "o") ⟨H,I.tok _,q⟩
 | byt y=>
  obtain ⟨t,rfl⟩:=rx
  obtain ⟨hy,e'⟩:y.size<=sizeLine/\k=((y.size:Int) != 0):=e
  subst e'
  exact PySem.W.truthy_bytes (by walk_at "o") ⟨H,I.tok _,q⟩
 | ref p=>
  cases rx
  have e':(∃xs,SqL X.K H p xs/\k= !xs.isEmpty)\/(∃xs,SqT X.K H p xs/\k= !xs.isEmpty)\/∃kvs,H p=some (.dK kvs)/\k= !kvs.isEmpty:=e
  rcases e' with ⟨xs,hx,e'⟩ | ⟨xs,hx,e'⟩ | ⟨kvs,hx,e'⟩
  ·subst e'
   obtain ⟨its,r,pl,hz⟩:=I.list hx
   have hlen:=r.length
   exact wpAny_truthy_list pl.isList (by simp only [List.size_toArray];walk_at "o") ⟨H,I.tok _,by rw [a0T r];exact q⟩
  ·subst e'
   obtain ⟨its,r,pl,hz⟩:=I.tuple hx
   have hlen:=r.length
   exact truthy_tuple pl (by simp only [List.size_toArray];walk_at "o") ⟨H,I.tok _,by rw [a0T r];exact q⟩
  ·subst e'
   obtain ⟨hz,hS,vs,r,m⟩:kvs.length<=sizeLine/\(p == sysModules)=false/\∃vs,KV kvs vs/\s.heap.DictOf (mixKind X.prog X.w) p vs:=I.hok p _ hx
   have hlen:kvs.length=vs.length:=Paired.length r
   exact wpAny_truthy_dict hS m (by walk_at "o") ⟨H,I.tok _,by rw [a4w r];exact q⟩
 | _=>exact (show False from e).elim
theorem a8y (ha:PE X a ta)(he:∀whole,isTrue a X.env whole=(do let v <-whole;standAt a.pos;holding [v] (truthy v))):
  PT X a (fun σ H Q=>ta σ H fun x H'=>∃k,TruV X.K x H' k/\Q k H'):=by
 intro pins s σ H Q I h
 exact isTrue_plain (thn (ha pins s σ H _ I h) fun v s1 h0=>ex5 h0 fun x H1 I1 r1 q1=>a8n pins s1 σ H1 x v Q I1 r1 q1) (he _)
theorem vals1 {x:V}{us:List Value}(r:Vals [x] us):∃u,us=[u]/\RelV x u:=by
 cases r with
 | cons r1 r2=>cases r2;exact ⟨_,rfl,r1⟩
theorem vals2 {x y:V}{us:List Value}(r:Vals [x,y] us):∃u w',us=[u,w']/\RelV x u/\RelV y w':=by
 cases r with
 | cons r1 r2=>
  cases r2 with
  | cons r3 r4=>cases r4;exact ⟨_,_,rfl,r1,r3⟩
theorem a37:CallR X (.builtin "abs") (fun xs H Q=>∃i,xs=[.int i]/\Q (.int (if i < 0 then -i else i)) H):=by
 intro pins s σ H xs us Q I r h
 obtain ⟨i,rfl,q⟩:=h
 obtain ⟨u,rfl,t,rfl⟩:=vals1 r
 exact call_abs_int fun u tk=>⟨.int (if i < 0 then -i else i),H,I.tok _,⟨_,rfl⟩,q⟩
theorem X0 (hc:X.calm=true):CallR X (.builtin "max") (fun xs H Q=>∃i j,xs=[.int i,.int j]/\Q (.int (if j > i then j else i)) H):=by
 intro pins s σ H xs us Q I r h
 obtain ⟨i,j,rfl,q⟩:=h
 obtain ⟨u,w',rfl,⟨t,rfl⟩,⟨t',rfl⟩⟩:=vals2 r
 refine max_two_ints (I.ok.hd hc) fun h' tk k=>⟨_,H,I.kept k,?_,q⟩
 by_cases hj:j > i
 ·rw [if_pos hj,if_pos hj];exact ⟨_,rfl⟩
 ·rw [if_neg hj,if_neg hj];exact ⟨_,rfl⟩
theorem P1 (hc:X.calm=true):CallR X (.builtin "min") (fun xs H Q=>∃i j,xs=[.int i,.int j]/\Q (.int (if j < i then j else i)) H):=by
 intro pins s σ H xs us Q I r h
 obtain ⟨i,j,rfl,q⟩:=h
 obtain ⟨u,w',rfl,⟨t,rfl⟩,⟨t',rfl⟩⟩:=vals2 r
 refine min_two_ints (I.ok.hd hc) fun h' tk k=>⟨_,H,I.kept k,?_,q⟩
 by_cases hj:j < i
 ·rw [if_pos hj,if_pos hj];exact ⟨_,rfl⟩
 ·rw [if_neg hj,if_neg hj];exact ⟨_,rfl⟩
end
section
variable {prog:Program}{w:World}{A:Around}{E:Value->Shared->Prop}{s:Shared}{K:PySem.W.Frag}{x dx C f:Addr}{mA:Str->Option Value}{name:Str}{v:Value}
end
theorem RelO.some_of {v:V}{o:Option Value}(r:RelO (some v) o):∃u,o=some u/\RelV v u:=by
 cases o with
 | none=>exact (show False from r).elim
 | some u=>exact ⟨u,rfl,r⟩
section
variable {P:Program}{w:World}{H H':Hp}{h h':Heap}{a C dx:Addr}{fs fs':List (Str×V)}
end
structure Cls (K:PySem.W.Frag) (C:Addr):Prop where
 pg:PySem.W.plainGet K C Str.empty=true
 hd:PySem.W.hasDictIn K C=true
 po:PySem.W.plainOver K C=true
 sa:PySem.W.findIn K (.ref C) "__setattr__"=some (some (.builtin "object.__setattr__"))
section
variable {X:Cx}{pins:List (Addr×Obj)}{σ:St}{H:Hp}{s:Shared}{a C dx:Addr}{fs:List (Str×V)}{f:Str}{v:V}{A:Around}{E:Value->Shared->Prop}
end
section
variable {X:Cx}{o e value:Expr}{f:Str}{pos pos' tpos:Pos}{ta tv:TE}
end
section
variable {X:Cx}{pins:List (Addr×Obj)}{σ:St}{H:Hp}{s:Shared}{A:Around}{E:Value->Shared->Prop}{Q:Value->Shared->Prop}{c:Value}{b:Bool}
inductive TyOf (K:PySem.W.Frag) (H:Hp):V->Value->Prop where
 | non:TyOf K H .non (.type "NoneType")
 | bl (x:Bool):TyOf K H (.bl x) (.type "bool")
 | int (i:Int):TyOf K H (.int i) (.type "int")
 | str (x:Str):TyOf K H (.str x) (.type "str")
 | flt (x:UInt64):TyOf K H (.flt x) (.type "float")
 | lst {a:Addr} {xs:List V} (e:H a=some (.lst xs)):TyOf K H (.ref a) (.type "list")
 | frz {a:Addr} {o:Obj} {xs:List V} (e:H a=some (.frz o (.lst xs))):TyOf K H (.ref a) (.type "list")
 | tup {a:Addr} {xs:List V} (e:H a=some (.tup xs)):TyOf K H (.ref a) (.type "tuple")
 | dK {a:Addr} {kvs:List (Key×V)} (e:H a=some (.dK kvs)):TyOf K H (.ref a) (.type "dict")
 | dT {a:Addr} {kvs:List (List Key×V)} (e:H a=some (.dT kvs)):TyOf K H (.ref a) (.type "dict")
 | ins {a C dx:Addr} {fs:List (Str×V)} (e:H a=some (.ins C dx fs)) (cl:Cls K C) (ha:PySem.W.findIn K (.ref C) "__class__"=some (some (.builtin "object.__class__")))
   (hn:PySem.W.specialIn K (.builtin "object.__class__") "__get__"=some (some (.builtin "getset_descriptor.__get__"))) (htk:PySem.W.takesIn K (.builtin "object.__class__")=some true)
   (hm:PySem.W.mroIn K C (.type "object")=some true):TyOf K H (.ref a) (.ref C)
end
structure Room (k:Nat) (A:Around):Prop where
 hd:A.handled=none
 dp:A.depth + 3 * k + 5 < recursionLimit
 un:A.units + 16 * k + 200 < cLine
 gd:A.guards=some []
theorem Room.mono {j k:Nat}{A:Around}(r:Room k A)(h:j<=k):Room j A:=⟨r.hd,by have:=r.dp;walk_at "o",by have:=r.un;walk_at "o",r.gd⟩
theorem Room.deeper {k:Nat}{A:Around}(r:Room (k + 1) A)(env:Env):Room k (A.deeper env):=
 ⟨r.hd,by have:=r.dp;show A.depth + 1 + 3 * k + 5 < _;walk_at "o",by have:=r.un;show A.units + 3 + 16 * k + 200 < _;walk_at "o",r.gd⟩
theorem Room.depth {k:Nat}{A:Around}(r:Room k A):A.depth < recursionLimit:=by have:=r.dp;walk_at "o"
theorem Room.units {k:Nat}{A:Around}(r:Room k A):A.units + 64 < cLine:=by have:=r.un;walk_at "o"
def tNil:TA:=fun _ H Q=>Q [] H
def tCons (ta:TE) (tr:TA):TA:=fun σ H Q=>ta σ H fun x H1=>tr σ H1 fun xs H2=>Q (x :: xs) H2
section
variable {X:Cx}{e:Expr}{es:List Expr}{te:TE}{t:TA}{pos:Pos}
theorem a4I:PA X [] tNil:=fun _ _ _ _ H Q I h=>Calls.spliced_nil ⟨[],H,I,.nil,h⟩
theorem a2v (ha:PE X e te)(hr:PA X es t)(hs:starEach (e :: es) X.env=(false,eval e X.env) :: starEach es X.env:=by rfl):PA X (e :: es) (tCons te t):=by
 intro pos pins s σ H Q I h
 rw [hs]
 show wpAny _ _ (spliced ((false,eval e X.env) :: backTo pos (starEach es X.env))) _ _ s
 refine Calls.spliced_cons (thn (ha pins s σ H _ I h) fun u s1 h0=>ex5 h0 fun x H1 I1 r1 q1=>?_)
 exact thn (hr pos pins s1 σ H1 _ I1 q1) fun us s2 h0=>ex5 h0 fun xs H2 I2 r2 q2=>⟨x :: xs,H2,I2,.cons r1 r2,q2⟩
def tTup (t:TA):TE:=fun σ H Q=>t σ H fun xs H1=>xs.length<=sizeLine/\∀p,H1 p=none->Q (.ref p) (upd H1 p (.tup xs))
def tLst (t:TA):TE:=fun σ H Q=>t σ H fun xs H1=>xs.length<=sizeLine/\∀p,H1 p=none->Q (.ref p) (upd H1 p (.lst xs))
theorem a4W {x1}(h:PA X es t):PE X (.Tuple es x1 pos) (tTup t):=by
 intro pins s σ H Q I hq
 refine wpAny_Tuple_spliced (thn (h pos pins s σ H _ I hq) fun us s1 ⟨xs,H1,I1,r,z,q⟩=>⟨by rw [<-r.length];exact z,?_⟩)
 have hf:H1 s1.heap.objs.size=none:=I1.hok.fresh (Nat.le_refl _)
 refine ⟨.ref s1.heap.objs.size,upd H1 s1.heap.objs.size (.tup xs),I1.laid (t':=s1.toks) (fun b u e=>Heap.get?_push_of_some _ e) (Nat.le_refl _) ?_,rfl,q _ hf⟩
 exact ⟨z,us,r,TupN.new _ _⟩
theorem a74 (h:PA X es t):PE X (.List es pos) (tLst t):=by
 intro pins s σ H Q I hq
 refine wpAny_List_spliced (thn (h pos pins s σ H _ I hq) fun us s1 ⟨xs,H1,I1,r,z,q⟩=>⟨by rw [<-r.length];exact z,?_⟩)
 have hf:H1 s1.heap.objs.size=none:=I1.hok.fresh (Nat.le_refl _)
 refine ⟨.ref s1.heap.objs.size,upd H1 s1.heap.objs.size (.lst xs),I1.laid (t':=s1.toks) (fun b u e=>Heap.get?_push_of_some _ e) (Nat.le_refl _) ?_,rfl,q _ hf⟩
 exact ⟨z,us,0,r,Heap.get?_push_size _ rfl⟩
end
abbrev Sp:=List V->Hp->VK->XK->Prop
abbrev CXT:=List Env->Hp->Shared->XK->Value->Shared->Prop
structure Env0 (P:Program) (w:World) (K:PySem.W.Frag) (mg:Str->Option Value) (base:Heap) (A:Around) (outer:List Env) (s:Shared) (H:Hp):Prop where
 frames:A.frames=some outer
 mod:Mod K mg base
 bs:∀b o,base.get? b=some o->s.heap.get? b=some o/\H b=none
 bsz:base.objs.size<=s.heap.objs.size
 funs:s.heap.FunFrames base outer
 frf:∀b∈frs outer,H b=none
 hok:HOk P w H s.heap
 bare:AllBare s.gens
def CE (outer:List Env) (P:Program) (w:World) (H:Hp) (s:Shared) (Q:VK) (u:Value) (s':Shared):Prop:=
 ∃v H',s'.os=s.os/\AllBare s'.gens/\Un (frs outer) [] H H' s.heap s'.heap/\HOk P w H' s'.heap/\RelV v u/\Q v H'
def CR (CX:CXT) (outer:List Env) (P:Program) (w:World) (H:Hp) (s:Shared) (Q:VK) (E:XK) (r:Result) (s':Shared):Prop:=
 match r with
 | .ok (.ret u)=>CE outer P w H s Q u s'
 | .ok _=>False
 | .error e=>CX outer H s E e s'
structure FnOk (P:Program) (w:World) (K:PySem.W.Frag) (mg:Str->Option Value) (base:Heap) (CX:CXT) (k:Nat) (f:Addr) (fd:FuncData) (ps:List Str) (sp:Sp):Prop where
 len:∀vs H Q E,sp vs H Q E->vs.length=ps.length
 run:∀(A:Around) (outer:List Env) (s:Shared) (H:Hp) (args:Args) (us:List Value) (vs:List V) (Q:VK) (E:XK),Room k A->Env0 P w K mg base A outer s H->BindsTo s fd args (ps.zip us)->Vals vs us->sp vs H Q E->
  codeAny (model P w) A (.call (.ref f) args) (CR CX outer P w H s Q E) s
theorem FnOk.mono {P:Program}{w:World}{K:PySem.W.Frag}{mg:Str->Option Value}{base:Heap}{CX:CXT}{j k:Nat}{f:Addr}{fd:FuncData}{ps:List Str}{sp:Sp}(F:FnOk P w K mg base CX j f fd ps sp)(h:j<=k):
  FnOk P w K mg base CX k f fd ps sp:=⟨F.len,fun A outer s H args us vs Q E hr=>F.run A outer s H args us vs Q E (hr.mono h)⟩
section
variable {X:Cx}{pins:List (Addr×Obj)}{σ:St}{H:Hp}{s s':Shared}
theorem Inv.env0 (I:Inv X pins σ H s):Env0 X.prog X.w X.K X.mg X.base X.A X.stack s H:=
 ⟨I.ok.frames,I.ok.mod,I.bs,Nat.le_trans I.ok.bsz I.sz,I.stack,I.stkFree,I.hok,I.bare⟩
theorem Inv.after {Q:VK}{u:Value}(I:Inv X pins σ H s)(h:CE X.stack X.prog X.w H s Q u s'):EP X pins σ Q u s':=by
 obtain ⟨v,H',os,bare,un,hok,r,q⟩:=h
 obtain ⟨hh,g,d,t,os'⟩:=s'
 obtain rfl:os'=s.os:=os
 exact ⟨v,H',I.call (h':=hh) (g':=g) (d':=d) (t':=t) (ch:=[]) un hok bare (fun b z=>absurd z (by simp)),r,q⟩
end
def tCall (sp:Sp) (dvs:List V) (E:XK) (t:TA):TE:=fun σ H Q=>t σ H fun vs H1=>sp (vs ++ dvs) H1 Q E
def Binds (K:PySem.W.Frag) (fd:FuncData) (ps:List Str) (ds:List Value):Prop:=
 ∀(s:Shared) (us:List Value),K.In s.heap->(us ++ ds).length=ps.length->BindsTo s fd ⟨us,[]⟩ (ps.zip (us ++ ds))
theorem Binds.all {K:PySem.W.Frag}{fd:FuncData}{ps:List Str}(h:∀us:List Value,us.length=ps.length->bindArgs fd ⟨us,[]⟩=pure (ps.zip us)):Binds K fd ps []:=fun s us _ hl=>by
 rw [List.append_nil] at hl ⊢
 exact .of_eq (h us hl)
def Passes (CX:CXT) (X:Cx) (E:XK):Prop:=∀(pins:List (Addr×Obj)) (σ:St) (H:Hp) (s:Shared) (e:Value) (s':Shared),Inv X pins σ H s->CX X.stack H s E e s'->X.xe e s'
section
variable {X:Cx}{CX:CXT}{k:Nat}{f C:Addr}{fd:FuncData}{ps:List Str}{sp:Sp}{dvs:List V}{ds:List Value}{E:XK}{x m:Str}{p pos apos:Pos}{e o:Expr}{es:List Expr}{ta:TE}{t:TA}
theorem b19 {pins:List (Addr×Obj)}{σ:St}{H:Hp}{s:Shared}{Q:VK}{us:List Value}{vs:List V}(F:FnOk X.prog X.w X.K X.mg X.base CX k f fd ps sp)(hr:Room k X.A)(hb:Binds X.K fd ps ds)(hd:Vals dvs ds)(hx:Passes CX X E)
  (I:Inv X pins σ H s) (r:Vals vs us) (h:sp (vs ++ dvs) H Q E):wpAny (model X.prog X.w) X.A (call (.ref f) us) (EP X pins σ Q) X.xe s:=by
 have r2:Vals (vs ++ dvs) (us ++ ds):=r.append hd
 have hl:(us ++ ds).length=ps.length:=by rw [<-r2.length];exact F.len _ _ _ _ h
 refine wpAny_call (codeAny_mono (F.run X.A X.stack s H ⟨us,[]⟩ (us ++ ds) (vs ++ dvs) Q E hr I.env0 (hb s us I.kIn hl) r2 h) fun r s' hq=>?_)
 cases r with
 | error e=>exact hx pins σ H s e s' I hq
 | ok fl=>
  cases fl with
  | ret u=>exact I.after hq
  | next=>exact False.elim hq
  | brk=>exact False.elim hq
  | cont=>exact False.elim hq
theorem b0a (F:FnOk X.prog X.w X.K X.mg X.base CX k f fd ps sp)(hr:Room k X.A)(hg:Gl X x)(hm:X.mg x=some (.ref f))(hk:PySem.W.keepIn X.K (.ref f)=true)(hb:Binds X.K fd ps ds)(hd:Vals dvs ds)(hx:Passes CX X E)
  (ha:PA X (e :: es) t) (hdb:(x == ("__debug__":Str))=false:=by decide) (he:starEach (e :: es) X.env=(false,eval e X.env) :: starEach es X.env:=by rfl) (hpl:(backTo pos (starEach es X.env)).any (·.1)=false:=by rfl):
  PE X (.Call (.Name x p) (e :: es) [] pos) (tCall sp dvs E t):=by
 intro pins s σ H Q I h
 refine wpAny_Call_Name_kw (a5h I hg hm ?_ hdb)
 refine PySem.W.callWith_K (h₀:=X.base) I.ok.mod.kin hk (thn (ha pos pins s σ H _ I h) fun us s1 h0=>ex5 h0 fun vs H1 I1 r q=>⟨I1.kIn,?_⟩) he hpl
 exact b19 F hr hb hd hx I1 r q
end
section
variable {X:Cx}{CX:CXT}{k:Nat}{f C:Addr}{fd:FuncData}{ps ks:List Str}{sp:Sp}{E:XK}{x m:Str}{p pos apos kpos:Pos}{e o:Expr}{es:List Expr}{kws:List Keyword}{te ta:TE}{t tk:TA}{nm:Option Str}
variable {g:List Value->List Value->List Value}{gV:List V->List V->List V}
end
structure FnScope (N P:List Str) (sc:Scope):Prop where
 kind:sc.kind= .function
 co:sc.isCoroutine=false
 gen:sc.isGenerator=false
 nd:N.Nodup
 pre:N.take P.length=P
 par:∀x∈P,sc.names.lookup x=some .local\/sc.names.lookup x=some .cell
 nofree:∀y∈sc.names,y.2≠.free
theorem a10 {kindOf:Str->Option NameKind}{x:Str}:∀{binds:List (Str×Value)} {m:Str->Option Value},(∀v,(x,v)∉binds)->bindL kindOf binds m x=m x
 | [],_,_=>rfl
 | (n,v) :: r,m,h=>by
  unfold bindL
  rw [a10 fun w hw=>h w (List.mem_cons_of_mem _ hw)]
  split
  ·have:x≠n:=by rintro rfl;exact h v List.mem_cons_self
   simp [this]
  ·rfl
theorem a1P {kindOf:Str->Option NameKind}{x:Str}:∀{binds:List (Str×Value)} {m:Str->Option Value},(∀v,(x,v)∉binds)->bindC kindOf binds m x=m x
 | [],_,_=>rfl
 | (n,v) :: r,m,h=>by
  unfold bindC
  rw [a1P fun w hw=>h w (List.mem_cons_of_mem _ hw)]
  split
  ·rfl
  ·have:x≠n:=by rintro rfl;exact h v List.mem_cons_self
   simp [this]
theorem a1I {kindOf:Str->Option NameKind}{x:Str}{v:Value}:∀{P:List Str} {vs:List Value} {i:Nat} {m:Str->Option Value},P.Nodup->P[i]? =some x->vs[i]? =some v->kindOf x=some .local->
  bindL kindOf (P.zip vs) m x=some v
 | [],_,_,_,_,h,_,_=>by simp at h
 | _ :: _,[],_,_,_,_,h,_=>by simp at h
 | p :: P,w :: vs,0,m,nd,h1,h2,hk=>by
  simp at h1 h2;subst h1;subst h2
  show bindL kindOf ((p,w) :: P.zip vs) m p=_
  unfold bindL
  rw [a10 fun v hv=>(List.nodup_cons.mp nd).1 (List.of_mem_zip hv).1,if_pos hk]
  simp
 | p :: P,w :: vs,i + 1,m,nd,h1,h2,hk=>by
  show bindL kindOf ((p,w) :: P.zip vs) m x=_
  unfold bindL
  exact a1I (i:=i) (List.nodup_cons.mp nd).2 (by simpa using h1) (by simpa using h2) hk
theorem a1N {kindOf:Str->Option NameKind}{x:Str}{v:Value}:∀{P:List Str} {vs:List Value} {i:Nat} {m:Str->Option Value},P.Nodup->P[i]? =some x->vs[i]? =some v->kindOf x≠some .local->
  bindC kindOf (P.zip vs) m x=some v
 | [],_,_,_,_,h,_,_=>by simp at h
 | _ :: _,[],_,_,_,_,h,_=>by simp at h
 | p :: P,w :: vs,0,m,nd,h1,h2,hk=>by
  simp at h1 h2;subst h1;subst h2
  show bindC kindOf ((p,w) :: P.zip vs) m p=_
  unfold bindC
  rw [a1P fun v hv=>(List.nodup_cons.mp nd).1 (List.of_mem_zip hv).1,if_neg hk]
  simp
 | p :: P,w :: vs,i + 1,m,nd,h1,h2,hk=>by
  show bindC kindOf ((p,w) :: P.zip vs) m x=_
  unfold bindC
  exact a1N (i:=i) (List.nodup_cons.mp nd).2 (by simpa using h1) (by simpa using h2) hk
def start (N:List Str) (vs:List V):St:=vs.map some ++ List.replicate (N.length - vs.length) none
def cxOf (CX:CXT) (P:Program) (w:World) (K:PySem.W.Frag) (mg:Str->Option Value) (base:Heap) (N:List Str) (qual:Str) (scope:Scope) (f:Addr) (cd:Value) (A:Around) (outer:List Env) (s:Shared) (H:Hp) (E:XK):Cx where
 prog:=P
 w:=w
 K:=K
 mg:=mg
 base:=base
 A:=A.deeper (envOfC qual scope s.heap.objs.size f cd)
 N:=N
 s₀:=s
 H₀:=H
 env:=envOfC qual scope s.heap.objs.size f cd
 outer:=outer
 stack:=envOfC qual scope s.heap.objs.size f cd :: outer
 ex:=[]
 calm:=true
 fn:=fun _=>true
 pn:=[]
 xe:=fun e s'=>wpAny (model P w) (A.deeper (envOfC qual scope s.heap.objs.size f cd)) (leaving (envOfC qual scope s.heap.objs.size f cd) e) (fun _ s''=>CX outer H s E e s'') (fun e' s''=>CX outer H s E e' s'') s'
theorem a3D {sc:Scope}{n:Nat}{x:Str}(h:sc.names.lookup x=some .cell):∃c,(cellsFrom n sc.names []).lookup x=some c:=by
 have q:=PySem.W.cellsFrom_some sc.names n [] (.inl h)
 exact Option.isSome_iff_exists.mp q
theorem a69 {CX:CXT}{P:Program}{w:World}{K:PySem.W.Frag}{mg:Str->Option Value}{base:Heap}{N ps:List Str}{qual:Str}{scope:Scope}{f:Addr}{cd:Value}{A:Around}{outer:List Env}{s s1:Shared}{H:Hp}{E:XK}{us:List Value}{vs:List V}
  (S:FnScope N ps scope) (hd:A.handled=none) (e0:Env0 P w K mg base A outer s H) (hl:vs.length=ps.length) (r:Vals vs us)
  (x:InCallC s s.heap.objs.size (bindL (envOfC qual scope s.heap.objs.size f cd).kindOf (ps.zip us) fun _=>none) (cellsFrom (s.heap.objs.size + 1) scope.names []) (bindC (envOfC qual scope s.heap.objs.size f cd).kindOf (ps.zip us) fun _=>none) s1):
  Inv (cxOf CX P w K mg base N qual scope f cd A outer s H E) [] (start N vs) H s1:=by
 have hpl:ps.length<=N.length:=by have:=congrArg List.length S.pre;rw [List.length_take] at this;walk_at "o"
 obtain ⟨h1,tk,rfl,hk⟩:=x.done
 have noA:∀b:Addr,b∉(cxOf CX P w K mg base N qual scope f cd A outer s H E).ex:=fun b z=>absurd (show b∈([]:List Addr) from z) (by simp)
 refine ⟨⟨e0.mod,S.kind,rfl,rfl,Nat.le_refl _,fun y z c h1 h2=>?_,fun y hy=>?_,fun y c _ h=>?_,fun _=>hd,Around.frames_deeper e0.frames,.inr ⟨rfl,rfl⟩,fun b z=>absurd z (noA b),e0.bs,e0.bsz,fun b _ _=>noA b,fun b z=>absurd z (noA b),e0.funs,e0.frf⟩,
  rfl,e0.bare,Un.kept hk,⟨_,x.toInCall.ns,fun i y v h1 h2 h3=>?_⟩,fun y c h=>⟨_,x.cell y c h⟩,e0.hok.fresh (Nat.le_refl _),fun y c h=>?_,fun p hp=>absurd (show p∈([]:List (Addr×Obj)) from hp) (by simp),e0.hok.kept hk,?_⟩
 ·exact name_of_addr x.apart (PySem.mem_of_lookup h1) (PySem.mem_of_lookup h2)
 ·have hy:scope.names.lookup y=some .cell\/scope.names.lookup y=some .free:=hy
  rcases hy with hy | hy
  ·exact a3D hy
  ·exact absurd rfl (S.nofree _ (PySem.mem_of_lookup hy))
 ·exact Nat.le_of_lt (x.above y c (PySem.mem_of_lookup h))
 ·have hi:i < vs.length:=by
   unfold start at h2
   by_cases hi:i < vs.length
   ·exact hi
   ·rw [List.getElem?_append_right (by simpa using hi)] at h2
    rw [List.getElem?_replicate] at h2
    split at h2 <;> cases h2
  have ha:vs[i]? =some v:=by
   unfold start at h2
   rw [List.getElem?_append_left (by simpa using hi),List.getElem?_map] at h2
   cases e:vs[i]? with
   | none=>rw [e] at h2;cases h2
   | some a=>rw [e] at h2;cases h2;rfl
  obtain ⟨u,hu,rv⟩:=r.get ha
  have hp:ps[i]? =some y:=by
   rw [<-S.pre,List.getElem?_take_of_lt (by walk_at "o")];exact h1
  have ndP:ps.Nodup:=by rw [<-S.pre];exact S.nd.sublist (List.take_sublist _ _)
  refine ⟨u,rv,?_⟩
  rcases S.par y (List.mem_of_getElem? hp) with k | k
  ·exact .inl ⟨k,a1I ndP hp hu k⟩
  ·obtain ⟨c,e⟩:=a3D (n:=s.heap.objs.size + 1) k
   refine .inr ⟨.inl k,c,e,?_⟩
   have q:=x.cell y c e
   rw [a1N ndP hp hu (by show scope.names.lookup y≠_;rw [k];decide)] at q
   exact q
 ·exact e0.hok.fresh (Nat.le_of_lt (x.above y c (PySem.mem_of_lookup h)))
 ·unfold start
  show _=N.length
  rw [List.length_append,List.length_map,List.length_replicate]
  walk_at "o"
theorem fn_of {CX:CXT}{P:Program}{w:World}{K:PySem.W.Frag}{mg:Str->Option Value}{base:Heap}{k:Nat}{f:Addr}{name qual:Str}{params:Arguments}{body:List Stmt}{scope:Scope}{dV kV doc pm cdv ct oc:Value}{an od:Option Addr}
  {osl:Array (Option Value)} {N ps:List Str} {sp:Sp} (lk:K.lookup f=some ⟨oc,od,.func (PySem.W.fnOf name qual params body scope dV kV doc pm an cdv ct),osl⟩) (hcd:PySem.W.codeIn K cdv qual=true) (S:FnScope N ps scope)
  (len:∀vs H Q E,sp vs H Q E->vs.length=ps.length)
  (hbody:∀(A:Around) (outer:List Env) (s:Shared) (H:Hp) (vs:List V) (Q:VK) (E:XK),Room k (A.deeper (envOfC qual scope s.heap.objs.size f cdv))->sp vs H Q E->
   ∃t,PSs (cxOf CX P w K mg base N qual scope f cdv A outer s H E) body t/\t {nx:=fun _ H'=>Q .non H',rt:=Q} (start N vs) H):
  FnOk P w K mg base CX (k + 1) f (PySem.W.fnOf name qual params body scope dV kV doc pm an cdv ct) ps sp:=by
 refine ⟨len,fun A outer s H args us vs Q E hr e0 hb r hsp=>?_⟩
 have hl:=len _ _ _ _ hsp
 have KX:K.In s.heap:=e0.mod.kin.keeps fun b o e=>(e0.bs b o e).1
 have lim:s.heap.NoLimit:=e0.mod.nolimit.keeps fun b o e=>(e0.bs b o e).1
 have hkind:∀y∈ps.zip us,scope.names.lookup y.1=some .local\/(scope.names.lookup y.1=some .cell/\((cellsFrom (s.heap.objs.size + 1) scope.names []).lookup y.1).isSome=true):=fun ⟨n,v⟩ hy=>by
  rcases S.par n (List.of_mem_zip hy).1 with q | q
  ·exact .inl q
  ·exact .inr ⟨q,PySem.W.cellsFrom_some _ _ _ (.inl q)⟩
 refine codeAny_call_function hr.depth (KX _ _ lk) rfl S.co S.gen rfl (PySem.W.codeRec_of KX hcd) (hb _ _ _ _ ?_)
 refine wpAny_newFunctionEnv_cells S.kind hkind fun env he s1 x=>?_
 subst he
 refine ⟨lim.keeps x.toInCall.keep,codeAny_func ?_⟩
 obtain ⟨t,ht,hq⟩:=hbody A outer s H vs Q E (hr.deeper _) hsp
 have I:Inv (cxOf CX P w K mg base N qual scope f cdv A outer s H E) [] (start N vs) H s1:=a69 S hr.hd e0 hl r x
 refine wpAny_mono (ht [] s1 (start N vs) H _ I hq) (fun fl s' hs=>?_) fun e s' hs=>hs
 have fin:∀{σ':St} {H':Hp} {v:V} {u:Value},Inv (cxOf CX P w K mg base N qual scope f cdv A outer s H E) [] σ' H' s'->RelV v u->Q v H'->CE outer P w H s Q u s':=
  fun {σ' H' v u} J rv q=>⟨v,H',J.os,J.bare,J.base,J.hok,rv,q⟩
 cases fl with
 | ret u=>
  obtain ⟨v,σ',H',J,rv,q⟩:=hs
  exact fin J rv q
 | next=>
  obtain ⟨σ',H',J,q⟩:=hs
  exact fin (v:=V.non) (u:=Value.none) J rfl q
 | brk=>
  obtain ⟨_,_,_,q⟩:=hs
  exact False.elim q
 | cont=>
  obtain ⟨_,_,_,q⟩:=hs
  exact False.elim q
section
variable {X:Cx}{x:Str}{p pos:Pos}{e:Expr}{es:List Expr}{t:TA}{id T:String}{r:List V->Hp->VK->Prop}
def tCB (r:List V->Hp->VK->Prop) (t:TA):TE:=fun σ H Q=>t σ H fun vs H1=>r vs H1 Q
theorem a3o (hc:CallR X (.builtin id) r)(hg:Gl X x)(hm:X.mg x=none)(hv:bootBuiltins x=some (.builtin id))(ha:PA X (e :: es) t)(hn:x≠"__name__":=by decide)(hdb:(x == ("__debug__":Str))=false:=by decide)
  (he:starEach (e :: es) X.env=(false,eval e X.env) :: starEach es X.env:=by rfl) (hpl:(backTo pos (starEach es X.env)).any (·.1)=false:=by rfl):PE X (.Call (.Name x p) (e :: es) [] pos) (tCB r t):=by
 intro pins s σ H Q I h
 refine wpAny_Call_Name_kw (N0 I hg hm hv ?_ hn hdb)
 exact PyProof.Rows.callWith_builtin1 (thn (ha pos pins s σ H _ I h) fun us s1 h0=>ex5 h0 fun vs H1 I1 r1 q1=>hc pins s1 σ H1 vs us Q I1 r1 q1) he hpl
theorem a6G (hc:CallR X (.type T) r)(hg:Gl X x)(hm:X.mg x=none)(hv:bootBuiltins x=some (.type T))(ha:PA X (e :: es) t)(hn:x≠"__name__":=by decide)(hdb:(x == ("__debug__":Str))=false:=by decide)
  (he:starEach (e :: es) X.env=(false,eval e X.env) :: starEach es X.env:=by rfl) (hpl:(backTo pos (starEach es X.env)).any (·.1)=false:=by rfl):PE X (.Call (.Name x p) (e :: es) [] pos) (tCB r t):=by
 intro pins s σ H Q I h
 refine wpAny_Call_Name_kw (N0 I hg hm hv ?_ hn hdb)
 exact PyProof.Rows.callWith_type1 (thn (ha pos pins s σ H _ I h) fun us s1 h0=>ex5 h0 fun vs H1 I1 r1 q1=>hc pins s1 σ H1 vs us Q I1 r1 q1) he hpl
end
end L2
namespace HT
open PySem PyProof.Rows
def lexLt:List Int->List Int->Bool
 | [],[]=>false
 | [],_ :: _=>true
 | _ :: _,[]=>false
 | x :: xs,y :: ys=>if x=y then lexLt xs ys else decide (x < y)
theorem lexLt_cons (x y:Int)(xs ys:List Int):lexLt (x :: xs) (y :: ys)=if x=y then lexLt xs ys else decide (x < y):=rfl
theorem a1k:lexLt [] []=false:=rfl
theorem a0J (y:Int)(ys:List Int):lexLt [] (y :: ys)=true:=rfl
theorem a0O (x:Int)(xs:List Int):lexLt (x :: xs) []=false:=rfl
theorem a8h (A:Around)(s:Shared)(a:Int)(t:Tok)(c:Int)(u:Tok):∃e,SeqAt.EqAt A s (.int a t) (.int c u) e/\(e=true↔a=c):=
 ⟨(a == c),SeqAt.EqAt.int_int a t c u,by simp⟩
theorem a9k (A:Around)(s:Shared)(a:Int)(t:Tok)(c:Int)(u:Tok)(prog:Program)(w:World)(E:Value->Shared->Prop)(Q:Value->Shared->Prop)(h:Q (.bool (decide (a < c))) s):
  wpAny (model prog w) A (richCompare .Lt (.int a t) (.int c u)) Q E s:=
 (PyProof.Rows.lt_int h:wpAny (model prog w) A (compareOp .Lt (.int a t) (.int c u)) Q E s)
section
open PySem.SeqAt
open PySem.AutoSeq1 (wpAny_loadPart')
open PySem.MeetsSeq PySem.MeetsSeq2 PySem.MeetsSeq3
theorem a1m (l b:Addr)(items items2:Array Value)(n n2:Nat)(dd dd2:Option Addr)(sl sl2:Array (Option Value))(ns ms:List Int)(hi:IntsAre items.toList ns)(hj:IntsAre items2.toList ms):
  Meets (Builtin.«tuple.__lt__» ⟨[.ref l,.ref b],[]⟩)
   (fun _ R s=>s.heap.get? l=some {cls:=.type "tuple",dict:=dd,data:=.seq items n,slots:=sl}/\s.heap.get? b=some {cls:=.type "tuple",dict:=dd2,data:=.seq items2 n2,slots:=sl2}/\
    R (.ok (.ret (.bool (lexLt ns ms)))) s):=
 .of_wp fun prog w A R s h=>by
  obtain ⟨hp,g,d,tk,os⟩:=s;obtain ⟨hl,hb,h⟩:=h
  have f2:=AutoSeq1.sub_tuple_tuple
  have z1:items.size=ns.length:=by rw [<-hi.length];simp
  have z2:items2.size=ms.length:=by rw [<-hj.length];simp
  wp_walk using wpAny_loadPart' hl,wpAny_loadPart' hb,wpAny_forIn_list _ (fun rest b s'=>b.1=none/\s'=⟨hp,g,d,tk,os⟩/\∃(vs ws:List Value) (ns' ms':List Int),rest=vs.zip ws/\
   IntsAre vs ns'/\IntsAre ws ms'/\ns'.length + items2.size=ms'.length + items.size/\R (.ok (.ret (.bool (lexLt ns' ms')))) ⟨hp,g,d,tk,os⟩) _
  case turn=>
   rintro ⟨y,x⟩ rest b s' ⟨hb',rfl,vs,ws,ns',ms',hz,hvi,hwi,hlen,hR⟩
   cases hvi with
   | nil=>rw [List.zip_nil_left] at hz;cases hz
   | cons a t hvi'=>
    cases hwi with
    | nil=>rw [List.zip_nil_right] at hz;cases hz
    | cons c u hwi'=>
     rw [List.zip_cons_cons] at hz
     injection hz with hyx hrest
     injection hyx with hy hx
     subst hy hx
     rw [lexLt_cons] at hR
     simp only [List.length_cons] at hlen
     obtain ⟨e,he,hiff⟩:=a8h A.in1 ⟨hp,g,d,tk,os⟩ a t c u
     refine wpAny_bind (he prog w _ _ ?_)
     cases e with
     | true=>
      rw [if_pos (hiff.mp rfl)] at hR
      wp_walk
      exact ⟨rfl,rfl,_,_,_,_,hrest,hvi',hwi',by walk_at "o",hR⟩
     | false=>
      rw [if_neg (fun q=>absurd (hiff.mpr q) Bool.false_ne_true)] at hR
      have hri:=a9k A.in1 ⟨hp,g,d,tk,os⟩ a t c u prog w
      wp_walk using hri
      exact ⟨_,rfl,by simpa using hR⟩
  case fin=>
   rintro ⟨b1,b2⟩ s' ⟨hb',rfl,vs,ws,ns',ms',hz,hvi,hwi,hlen,hR⟩
   simp only at hb'
   subst hb'
   have hv:lexLt ns' ms'=decide (items.size < items2.size):=by
    cases hvi with
    | nil=>
     cases hwi with
     | nil=>
      simp only [List.length_nil] at hlen
      rw [a1k]
      exact (decide_eq_false (by walk_at "o")).symm
     | cons c u hw=>
      simp only [List.length_nil,List.length_cons] at hlen
      rw [a0J]
      exact (decide_eq_true (by walk_at "o")).symm
    | cons a t hv=>
     cases hwi with
     | nil=>
      simp only [List.length_nil,List.length_cons] at hlen
      rw [a0O]
      exact (decide_eq_false (by walk_at "o")).symm
     | cons c u hw=>
      rw [List.zip_cons_cons] at hz
      cases hz
   rw [hv] at hR
   wp_walk
   exact ⟨_,rfl,by simpa [Builtin.Tuple.tupleCompareSizes] using hR⟩
  case h=>
   exact ⟨rfl,rfl,items.toList,items2.toList,ns,ms,rfl,hi,hj,by walk_at "o",h⟩
end
section
variable {prog:Program}{w:World}{A:Around}{E:Value->Shared->Prop}{s:Shared}
theorem lt_tupInts {l b:Addr}{items items2:Array Value}{ns ms:List Int}{Q:Value->Shared->Prop}(hl:IsTup s.heap l items)(hb:IsTup s.heap b items2)(hi:IntsAre items.toList ns)(hj:IntsAre items2.toList ms)
  (hu:A.units < cLine) (h:Q (.bool (lexLt ns ms)) s):wpAny (model prog w) A (compareOp .Lt (.ref l) (.ref b)) Q E s:=by
 obtain ⟨⟨cls,dd,data,sl⟩,ho,hc,n,hd⟩:=id hl
 obtain ⟨⟨cls2,dd2,data2,sl2⟩,ho2,hc2,n2,hd2⟩:=id hb
 simp only at hc hd hc2 hd2
 subst hc hd hc2 hd2
 exact richCompare_meets_room (op:=.Lt) ⟨_,ho,rfl⟩ ⟨_,ho2,rfl⟩ PySem.F.slot_tuple_lt PySem.F.entry_tuple_lt (PySem.F.args_tuple_lt_2 _ _) (a1m l b items items2 n n2 dd dd2 sl sl2 ns ms hi hj)
  ⟨ho,ho2,show Value.bool (lexLt ns ms)≠Value.notImplemented/\Q (.bool (lexLt ns ms)) s from ⟨(fun x=>nomatch x),h⟩⟩ hu
theorem cat_tup {t b:Addr}{vs ws:List Value}{Q:Value->Shared->Prop}(ht:IsTup s.heap t vs.toArray)(hb:IsTup s.heap b ws.toArray)(hv:vs≠[])
  (h1:ws=[]->Q (.ref t) s) (h2:ws≠[]->Q (.ref s.heap.objs.size) {s with heap:=s.heap.push {cls:=.type "tuple",data:=.seq (vs ++ ws).toArray}})
  (hsz:vs.length + ws.length<=sizeLine):wpAny (model prog w) A (binaryOp .Add (.ref t) (.ref b)) Q E s:=by
 obtain ⟨⟨cls,dd,data,sl⟩,ho,hc,n,hd⟩:=id ht
 obtain ⟨⟨cls2,dd2,data2,sl2⟩,ho2,hc2,n2,hd2⟩:=id hb
 simp only at hc hd hc2 hd2
 subst hc hd hc2 hd2
 have e:vs.toArray ++ ws.toArray=(vs ++ ws).toArray:=by simp
 by_cases hw:ws=[]
 ·exact concat_meets ⟨_,ho,rfl⟩ ⟨_,ho2,rfl⟩ noFill_tuple_add seq_tuple_add PySem.F.slot_tuple_add PySem.F.entry_tuple_add (PySem.F.args_tuple_add_2 _ _)
   (tuple_addW1 t b vs.toArray ws.toArray n n2 dd dd2 sl sl2 (by simpa using hv) (by simp [hw])) ⟨ho,ho2,h1 hw⟩
 ·refine concat_meets ⟨_,ho,rfl⟩ ⟨_,ho2,rfl⟩ noFill_tuple_add seq_tuple_add PySem.F.slot_tuple_add PySem.F.entry_tuple_add (PySem.F.args_tuple_add_2 _ _)
   (tuple_addW2 t b vs.toArray ws.toArray n n2 dd dd2 sl sl2 (by simpa using hv) (by simpa using hw) (by rw [List.size_toArray,List.size_toArray];exact hsz)) ⟨ho,ho2,?_⟩
  rw [e]
  exact h2 hw
def sIx (n d:Nat):Option Int->Nat
 | none=>d
 | some v=>if v < 0 then (v + (n:Int)).toNat else min v.toNat n
theorem sIx_none (n d:Nat):sIx n d none=d:=rfl
theorem sIx_nat (n d k:Nat):sIx n d (some (k:Int))=min k n:=by
 show (if (k:Int) < 0 then ((k:Int) + (n:Int)).toNat else min (k:Int).toNat n)=min k n
 rw [if_neg (by walk_at "o"),Int.toNat_natCast]
theorem b1S (n d:Nat)(hd:d<=n)(o:Option Int):sIx n d o<=n:=by
 cases o with
 | none=>exact hd
 | some v=>
  show (if v < 0 then (v + (n:Int)).toNat else min v.toNat n)<=n
  by_cases hv:v < 0
  ·rw [if_pos hv];walk_at "o"
  ·rw [if_neg hv];exact Nat.min_le_right _ _
theorem a6d (v:Int)(n d:Nat):(if v < 0 then max (v + (n:Int)) 0 else min v (n:Int))=((sIx n d (some v):Nat):Int):=by
 show (if v < 0 then max (v + (n:Int)) 0 else min v (n:Int))=(((if v < 0 then (v + (n:Int)).toNat else min v.toNat n):Nat):Int)
 by_cases hv:v < 0
 ·simp only [if_pos hv];walk_at "o"
 ·simp only [if_neg hv];walk_at "o"
theorem a48 (lo hi:Option Int)(n:Nat):Builtin.Slice.sliceAdjust lo hi 1 (n:Int)=(((sIx n 0 lo:Nat):Int),((sIx n n hi:Nat):Int)):=by
 have h1:¬((1:Int) < 0):=by walk_at "o"
 unfold Builtin.Slice.sliceAdjust
 simp only [h1,if_false]
 refine Prod.ext ?_ ?_
 ·cases lo with
  | none=>rfl
  | some v=>exact a6d v n 0
 ·cases hi with
  | none=>rfl
  | some v=>exact a6d v n n
theorem a4s (i j:Nat):Builtin.Slice.slicePlaces (i:Int) (j:Int) 1=j - i:=by
 unfold Builtin.Slice.slicePlaces
 have h1:(1:Int) > 0:=by walk_at "o"
 simp only [h1,if_true,Int.ediv_one]
 split <;> walk_at "o"
theorem a0G {v:Value}{o:Option Int}{Q:Option Int->Shared->Prop}(p:IsPart v o)(h:Q o s):wpAny (model prog w) A (Builtin.Slice.slicePartIndex v) Q E s:=by
 cases p with
 | none=>exact slicePart_none h
 | int i t=>exact slicePart_int h
theorem sliceApplied_gen {sl:Addr}{vl vu:Value}{lo hi:Option Int}{n:Nat}{Q:Int×Int×Nat->Shared->Prop}(hs:s.heap.IsSliceOf sl vl vu .none)(pl:IsPart vl lo)(pu:IsPart vu hi)
  (h:Q (((sIx n 0 lo:Nat):Int),1,sIx n n hi - sIx n 0 lo) s):wpAny (model prog w) A (Builtin.Slice.sliceApplied (.ref sl) (pure (n:Int))) Q E s:=by
 obtain ⟨os,hos,hcs,hds⟩:=id hs
 unfold Builtin.Slice.sliceApplied Builtin.Slice.sliceFields
 refine wpAny_bind (wpAny_bind (wpAny_field hos hds (x:=vl) rfl (wpAny_bind (wpAny_field hos hds (x:=vu) rfl (wpAny_bind (wpAny_field hos hds (x:=.none) rfl (wpAny_pure ?_)))))))
 refine wpAny_bind (slicePart_none ?_)
 show wpAny _ _ (if ((1:Int) == 0)=true then _ else _) _ _ s
 rw [if_neg (by decide)]
 refine wpAny_bind (a0G pl (wpAny_bind (a0G pu (wpAny_bind (wpAny_pure ?_)))))
 show wpAny _ _ (match Builtin.Slice.sliceAdjust lo hi 1 (n:Int) with | (lo,hi)=>pure (lo,(1:Int),Builtin.Slice.slicePlaces lo hi 1)) _ _ s
 rw [a48 lo hi n]
 show wpAny _ _ (pure (((sIx n 0 lo:Nat):Int),(1:Int),Builtin.Slice.slicePlaces ((sIx n 0 lo:Nat):Int) ((sIx n n hi:Nat):Int) 1)) _ _ s
 rw [a4s]
 exact wpAny_pure h
theorem a7P (xs:Array Value)(i k:Nat):((List.range k).filterMap fun (m:Nat)=>xs[((i:Int) + (m:Int) * 1).toNat]?).toArray=((xs.toList.drop i).take k).toArray:=by
 have e:(fun (m:Nat)=>xs[((i:Int) + (m:Int) * 1).toNat]?)=fun m=>xs[i + m]?:=by
  funext m
  have:((i:Int) + (m:Int) * 1).toNat=i + m:=by walk_at "o"
  rw [this]
 rw [e]
 have:=pick_run xs i k
 rw [List.filterMap_map] at this
 have e2:((fun x=>xs[x]?) ∘ fun x=>i + x)=fun m=>xs[i + m]?:=rfl
 rw [e2] at this
 rw [this]
theorem getItem_tuple_cut {t sl:Addr}{items:Array Value}{vl vu:Value}{lo hi:Option Int}{Q:Value->Shared->Prop}(ht:IsTup s.heap t items)(hs:s.heap.IsSliceOf sl vl vu .none)(pl:IsPart vl lo)(pu:IsPart vu hi)
  (hw:¬(sIx items.size 0 lo=0/\sIx items.size items.size hi=items.size))
  (h:Q (.ref s.heap.objs.size) {s with heap:=s.heap.push {cls:=.type "tuple",data:=.seq ((items.toList.drop (sIx items.size 0 lo)).take (sIx items.size items.size hi - sIx items.size 0 lo)).toArray}})
  (hsz:items.size<=sizeLine):wpAny (model prog w) A (getItem (.ref t) (.ref sl)) Q E s:=by
 have htake:sizeOk (.seq ((items.toList.drop (sIx items.size 0 lo)).take (sIx items.size items.size hi - sIx items.size 0 lo)).toArray):=by
  show ((items.toList.drop (sIx items.size 0 lo)).take (sIx items.size items.size hi - sIx items.size 0 lo)).toArray.size<=sizeLine
  rw [List.size_toArray,List.length_take,List.length_drop,Array.length_toList]
  omega
 have hj:sIx items.size items.size hi<=items.size:=b1S _ _ (Nat.le_refl _) hi
 obtain ⟨os,hos,hcs,hds⟩:=id hs
 have hTs:s.TypeIs (.ref sl) "slice":=⟨os,hos,hcs⟩
 unfold getItem
 try with_reducible refine wpAny_holding ?_
 first | refine wpAny_bind (wpAny_pure ?_) | skip
 refine wpAny_bind (wpAny_sequenceKey ht.typeIs (by decide) ?_)
 refine wpAny_bind (wpAny_callSpecial?_slot (name:=Str.ofString "__getitem__") ht.typeIs PyProof.Rows.slot_tuple_getitem
  (wpAny_call_entry PyProof.Rows.slot_tuple_getitem ht.typeIs entry_tuple_getitem ?_ (args_tuple_getitem _ _)))
 show wpAny _ _ (Builtin.Tuple.tupleItemsOf (.ref t) >>=_) _ _ s
 refine wpAny_bind (tupleItemsOf_ ht ?_)
 refine wpAny_bind (wpAny_typeOf hTs ?_)
 rw [if_pos (by decide)]
 refine wpAny_bind (sliceApplied_gen hs pl pu ?_)
 have hno:¬((((sIx items.size 0 lo:Nat):Int) == 0 && (1:Int) == 1 && (sIx items.size items.size hi - sIx items.size 0 lo) == items.size)=true):=by
  intro q
  rw [Bool.and_eq_true,Bool.and_eq_true] at q
  have q1:((sIx items.size 0 lo:Nat):Int)=0:=eq_of_beq q.1.1
  have q2:sIx items.size items.size hi - sIx items.size 0 lo=items.size:=eq_of_beq q.2
  exact hw ⟨by omega,by omega⟩
 show wpAny _ _ (if (((sIx items.size 0 lo:Nat):Int) == 0 && (1:Int) == 1 && (sIx items.size items.size hi - sIx items.size 0 lo) == items.size)=true then _ else _) _ _ s
 rw [if_neg hno,a7P]
 first
  | exact wpAny_bind (m:=Builtin.Tuple.tupleExact _) (wpAny_newObj_type (wpAny_pure ⟨_,rfl,wpAny_pure h⟩) htake)
  | exact wpAny_bind (m:=Builtin.Tuple.tupleExact _) (wpAny_newObj_type (wpAny_bind (wpAny_pure (wpAny_pure ⟨_,rfl,wpAny_pure h⟩))) htake)
  | exact wpAny_bind (wpAny_bind (m:=Builtin.Tuple.tupleExact _) (wpAny_newObj_type (wpAny_pure (wpAny_pure ⟨_,rfl,wpAny_pure h⟩)) htake))
  | exact wpAny_bind (wpAny_bind (m:=Builtin.Tuple.tupleExact _) (wpAny_newObj_type (wpAny_pure ⟨_,rfl,wpAny_pure h⟩) htake))
end
end HT
namespace L2
open PySem PySem.Spec PyProof.Rows
abbrev TO:=St->Hp->(Option Int->Hp->Prop)->Prop
def PO (X:Cx) (e:Option Expr) (t:TO):Prop:=
 ∀(pins:List (Addr×Obj)) (s:Shared) (σ:St) (H:Hp) (Q:Option Int->Hp->Prop),Inv X pins σ H s->t σ H Q->
  wpAny (model X.prog X.w) X.A (evalPart e X.env) (fun u s'=>∃o H',Inv X pins σ H' s'/\IsPart u o/\Q o H') X.xe s
def tNoPart:TO:=fun _ H Q=>Q none H
def tPart (t:TE):TO:=fun σ H Q=>t σ H fun x H1=>∃i,x= .int i/\Q (some i) H1
theorem J0 {ns:List Int}:∀{us:List Value},Vals (ns.map V.int) us->IntsAre us ns:=by
 induction ns with
 | nil=>intro us r;rw [List.map_nil] at r;cases r;exact .nil
 | cons n ns ih=>
  intro us r
  rw [List.map_cons] at r
  cases r with
  | cons r1 r2=>
   obtain ⟨t,e⟩:=r1
   subst e
   exact .cons n t (ih r2)
section
variable {X:Cx}{e:Expr}{te:TE}{lo hi:Option Expr}{tl th:TO}{pos p2:Pos}
theorem a9G:PO X none tNoPart:=by
 intro pins s σ H Q I h
 rw [evalPart_none]
 exact wpAny_pure ⟨none,H,I,.none,h⟩
theorem a96 (h:PE X e te):PO X (some e) (tPart te):=by
 intro pins s σ H Q I hw
 rw [evalPart_some]
 refine thn (h pins s σ H _ I hw) fun u s1 h0=>ex5 h0 fun x H1 I1 r1 q1=>?_
 obtain ⟨i,rfl,q⟩:=q1
 obtain ⟨t,rfl⟩:=r1
 exact ⟨some i,H1,I1,.int i t,q⟩
def SlR (X:Cx) (r:V->Option Int->Option Int->Hp->VK->Prop):Prop:=
 ∀(pins:List (Addr×Obj)) (s:Shared) (σ:St) (H:Hp) (x:V) (v vl vu:Value) (lo hi:Option Int) (sl:Addr) (Q:VK),Inv X pins σ H s->RelV x v->s.heap.IsSliceOf sl vl vu .none->IsPart vl lo->IsPart vu hi->r x lo hi H Q->
  ∃T id,typeLookup (.type T) "__getitem__"=pure (some (.builtin id))/\s.TypeIs v T/\wpAny (model X.prog X.w) X.A (getItem v (.ref sl)) (EP X pins σ Q) X.xe s
theorem SlR.or {r r':V->Option Int->Option Int->Hp->VK->Prop}(h:SlR X r)(h':SlR X r'):SlR X (fun x lo hi H Q=>r x lo hi H Q\/r' x lo hi H Q):=by
 intro pins s σ H x v vl vu lo hi sl Q I rx hs pl pu q
 rcases q with q | q
 ·exact h pins s σ H x v vl vu lo hi sl Q I rx hs pl pu q
 ·exact h' pins s σ H x v vl vu lo hi sl Q I rx hs pl pu q
def tSl (r:V->Option Int->Option Int->Hp->VK->Prop) (te:TE) (tl th:TO):TE:=fun σ H Q=>te σ H fun x H1=>tl σ H1 fun l H2=>th σ H2 fun u H3=>r x l u H3 Q
theorem a8A {r:V->Option Int->Option Int->Hp->VK->Prop}(hr:SlR X r)(he:PE X e te)(hl:PO X lo tl)(hu:PO X hi th):PE X (.Subscript e (.Slice lo hi none p2) pos) (tSl r te tl th):=by
 intro pins s σ H Q I h
 refine Subscript_ (thn (he pins s σ H _ I h) fun v s1 h0=>ex5 h0 fun x H1 I1 r1 q1=>?_)
 refine wpAny_Slice (thn (hl pins s1 σ H1 _ I1 q1) fun vl s2 ⟨l,H2,I2,pl,q2⟩=>thn (hu pins s2 σ H2 _ I2 q2) fun vu s3 ⟨u,H3,I3,pu,q3⟩=>?_)
 rw [evalPart_none]
 refine wpAny_pure ?_
 have I4:Inv X pins σ H3 {s3 with heap:=s3.heap.push {cls:=.type "slice",data:=.fields #[vl,vu,.none]}}:=I3.kept (t':=s3.toks) fun b ob q=>Heap.get?_push_of_some _ q
 obtain ⟨T,id,hT,ht,hg⟩:=hr pins {s3 with heap:=s3.heap.push {cls:=.type "slice",data:=.fields #[vl,vu,.none]}} σ H3 x v vl vu l u s3.heap.objs.size Q I4 r1 (Heap.IsSliceOf.new ..) pl pu q3
 show wpAny (model X.prog X.w) X.A (subscriptTail e (.Slice lo hi none p2) v (.ref s3.heap.objs.size)) (EP X pins σ Q) X.xe {s3 with heap:=s3.heap.push {cls:=.type "slice",data:=.fields #[vl,vu,.none]}}
 exact tail_any (ops:=[.ref s3.heap.objs.size,v]) ht hT hg (by with_unfolding_all rfl)
def cutV (xs:List V) (lo hi:Option Int):List V:=(xs.drop (HT.sIx xs.length 0 lo)).take (HT.sIx xs.length xs.length hi - HT.sIx xs.length 0 lo)
theorem Z9 (xs:List V)(lo hi:Option Int):(cutV xs lo hi).length<=xs.length:=by
 unfold cutV
 rw [List.length_take,List.length_drop]
 walk_at "o"
def rSlT (K:PySem.W.Frag):V->Option Int->Option Int->Hp->VK->Prop:=fun x lo hi H Q=>∃a xs,x= .ref a/\SqT K H a xs/\
 ¬(HT.sIx xs.length 0 lo=0/\HT.sIx xs.length xs.length hi=xs.length)/\∀p,H p=none->Q (.ref p) (upd H p (.tup (cutV xs lo hi)))
theorem b1Q:SlR X (rSlT X.K):=by
 intro pins s σ H x v vl vu lo hi sl Q I rx hs pl pu h
 obtain ⟨a,xs,rfl,hx,hw,q⟩:=h
 cases rx
 obtain ⟨its,r,ht,hz⟩:=I.tuple hx
 have hlen:its.toArray.size=xs.length:=by rw [List.size_toArray];exact r.length.symm
 refine ⟨"tuple",_,PyProof.Rows.slot_tuple_getitem.lookup,ht.typeIs,?_⟩
 refine HT.getItem_tuple_cut ht hs pl pu (by rw [hlen];exact hw) ?_ (by rw [hlen];exact hz)
 rw [hlen]
 refine ⟨.ref s.heap.objs.size,_,I.laid (t':=s.toks) (o:=.tup (cutV xs lo hi)) (fun b ob q=>Heap.get?_push_of_some _ q) (Nat.le_refl _) ?_,rfl,q _ (I.hok.fresh (Nat.le_refl _))⟩
 exact ⟨Nat.le_trans (Z9 xs lo hi) hz,_,(r.drop (HT.sIx xs.length 0 lo)).take (HT.sIx xs.length xs.length hi - HT.sIx xs.length 0 lo),TupN.new _ _⟩
def rLtT (K:PySem.W.Frag):R2:=fun x y H Q=>∃a b ns ms,x= .ref a/\y= .ref b/\SqT K H a (ns.map V.int)/\SqT K H b (ms.map V.int)/\Q (.bl (HT.lexLt ns ms)) H
theorem a8f (hu:X.A.units < cLine):OpR X (compareOp .Lt) (rLtT X.K):=by
 intro pins s σ H x y v u Q I rx ry h
 obtain ⟨a,b,ns,ms,rfl,rfl,ha,hb,q⟩:=h
 cases rx
 cases ry
 obtain ⟨its,r1,p1,_⟩:=I.tuple ha
 obtain ⟨its2,r2,p2,_⟩:=I.tuple hb
 have i1:IntsAre its.toArray.toList ns:=J0 r1
 have i2:IntsAre its2.toArray.toList ms:=J0 r2
 exact HT.lt_tupInts p1 p2 i1 i2 hu ⟨.bl (HT.lexLt ns ms),H,I,rfl,q⟩
def rCatT (K:PySem.W.Frag):R2:=fun x y H Q=>∃a b xs ys,x= .ref a/\y= .ref b/\SqT K H a xs/\SqT K H b ys/\xs≠[]/\xs.length + ys.length<=sizeLine/\
 (ys=[]->Q (.ref a) H)/\(ys≠[]->∀p,H p=none->Q (.ref p) (upd H p (.tup (xs ++ ys))))
theorem Vals.nil_iff {xs:List V}{us:List Value}(r:Vals xs us):us=[]↔xs=[]:=by
 cases r with
 | nil=>simp
 | cons _ _=>simp
theorem b0u:OpR X (binaryOp .Add) (rCatT X.K):=by
 intro pins s σ H x y v u Q I rx ry h
 obtain ⟨a,b,xs,ys,rfl,rfl,ha,hb,hx,hz,q1,q2⟩:=h
 cases rx
 cases ry
 obtain ⟨its,r1,p1,_⟩:=I.tuple ha
 obtain ⟨its2,r2,p2,_⟩:=I.tuple hb
 refine HT.cat_tup p1 p2 (fun z=>hx (r1.nil_iff.mp z)) (fun z=>⟨.ref a,H,I,rfl,q1 (r2.nil_iff.mp z)⟩) (fun z=>?_) (by rw [<-r1.length,<-r2.length];exact hz)
 refine ⟨.ref s.heap.objs.size,_,I.laid (t':=s.toks) (o:=.tup (xs ++ ys)) (fun b ob q=>Heap.get?_push_of_some _ q) (Nat.le_refl _) ?_,rfl,q2 (fun w=>z (r2.nil_iff.mpr w)) _ (I.hok.fresh (Nat.le_refl _))⟩
 exact ⟨by rw [List.length_append];exact hz,_,r1.append r2,TupN.new _ _⟩
end
def ixN (n:Nat) (i:Int):Option Nat:=if 0<=i then (if i < n then some i.toNat else none) else if -(n:Int)<=i then some (i + n).toNat else none
def atI {α:Type} (xs:List α) (i:Int):Option α:=(ixN xs.length i).bind fun j=>xs[j]?
theorem a5q {n:Nat}{i:Int}{j:Nat}(h:ixN n i=some j):seqIndex? i n=some j/\j < n/\-(n:Int)<=i/\i < n:=by
 unfold ixN at h
 by_cases h0:0<=i
 ·rw [if_pos h0] at h
  by_cases h1:i < n
  ·rw [if_pos h1] at h
   have e:i.toNat=j:=Option.some.inj h
   exact ⟨by rw [seqIndex_of h0 h1,e],by walk_at "o",by walk_at "o",h1⟩
  ·rw [if_neg h1] at h;cases h
 ·rw [if_neg h0] at h
  by_cases h1:-(n:Int)<=i
  ·rw [if_pos h1] at h
   have e:(i + n).toNat=j:=Option.some.inj h
   exact ⟨by rw [seqIndex_neg (by walk_at "o") h1,e],by walk_at "o",h1,by walk_at "o"⟩
  ·rw [if_neg h1] at h;cases h
theorem a2N {α:Type}{xs:List α}{i:Int}{v:α}(h:atI xs i=some v):∃j,seqIndex? i xs.length=some j/\xs[j]? =some v/\j < xs.length/\-(xs.length:Int)<=i/\i < xs.length:=by
 unfold atI at h
 cases e:ixN xs.length i with
 | none=>rw [e] at h;cases h
 | some j=>
  rw [e] at h
  obtain ⟨h1,h2,h3,h4⟩:=a5q e
  exact ⟨j,h1,h,h2,h3,h4⟩
theorem u4 {α:Type}{xs:List α}{j:Nat}{v:α}(h:xs[j]? =some v):atI xs (j:Int)=some v:=by
 have hj:j < xs.length:=(List.getElem?_eq_some_iff.mp h).1
 have e:ixN xs.length (j:Int)=some j:=by
  unfold ixN
  rw [if_pos (by walk_at "o"),if_pos (by walk_at "o")];simp
 unfold atI;rw [e];exact h
def PlainIx (b:Expr):Prop:=∀o i,subscripted b false o i=operate [o,i] (getItem o i)
def IxR (X:Cx) (r:R2):Prop:=
 ∀(value slice:Expr) (pins:List (Addr×Obj)) (s:Shared) (σ:St) (H:Hp) (x y:V) (v u:Value) (Q:VK),Inv X pins σ H s->RelV x v->RelV y u->r x y H Q->
  subscripted slice false v u=operate [v,u] (getItem v u)->wpAny (model X.prog X.w) X.A (subscriptTail value slice v u) (EP X pins σ Q) X.xe s
def MtR (X:Cx) (id:String) (r:V->List V->Hp->VK->Prop):Prop:=
 ∀(pins:List (Addr×Obj)) (s:Shared) (σ:St) (H:Hp) (x:V) (xs:List V) (v:Value) (us:List Value) (Q:VK),Inv X pins σ H s->RelV x v->Vals xs us->r x xs H Q->
  wpAny (model X.prog X.w) X.A (call (.builtin id) (v :: us)) (EP X pins σ Q) X.xe s
section
variable {X:Cx}{a b:Expr}{ta tb:TE}{pos:Pos}
theorem IxR.or {r r':R2}(h:IxR X r)(h':IxR X r'):IxR X (fun x y H Q=>r x y H Q\/r' x y H Q):=by
 intro value slice pins s σ H x y v u Q I rx ry q hs
 rcases q with q | q
 ·exact h value slice pins s σ H x y v u Q I rx ry q hs
 ·exact h' value slice pins s σ H x y v u Q I rx ry q hs
theorem b0Y {r:R2}(hr:IxR X r)(ha:PE X a ta)(hb:PE X b tb)(hs:PlainIx b):PE X (.Subscript a b pos) (tOp r ta tb):=by
 intro pins s σ H Q I h
 exact Subscript_ (binT ha hb I h fun v u s2 x y H2 I2 rx ry q=>hr a b pins s2 σ H2 x y v u Q I2 rx ry q (hs _ _))
def rIxL (K:PySem.W.Frag):R2:=fun x y H Q=>∃p xs i v,x= .ref p/\y= .int i/\SqL K H p xs/\atI xs i=some v/\Q v H
def rIxT (K:PySem.W.Frag):R2:=fun x y H Q=>∃p xs i v,x= .ref p/\y= .int i/\SqT K H p xs/\atI xs i=some v/\Q v H
def rIxS:R2:=fun x y H Q=>∃z i c,x= .str z/\y= .int i/\z.length<=sizeLine/\atI z.cps.toList i=some c/\Q (.str ⟨#[c]⟩) H
theorem a9T:IxR X (rIxL X.K):=by
 intro value slice pins s σ H x y v u Q I rx ry h hs
 obtain ⟨p,xs,i,z,rfl,rfl,hq,he,q⟩:=h
 cases rx
 obtain ⟨t,rfl⟩:=ry
 obtain ⟨its,r,pl,hz⟩:=I.list hq
 obtain ⟨j,h1,h2,h3,h4,h5⟩:=a2N he
 obtain ⟨w,ew,rw'⟩:=r.get h2
 have hl:=r.length
 have hn:=line63
 have fin:EP X pins σ Q w s:=⟨z,H,I,rw',q⟩
 by_cases h0:0<=i
 ·have hj:i.toNat=j:=by
   rw [seqIndex_of h0 h5] at h1
   exact Option.some.inj h1
  exact item_listR pl.isList h0 (by walk_at "o") (by rw [hj];simpa using ew) fin hs
 ·have hj:(i + (its.toArray.size:Int)).toNat=j:=by
   rw [seqIndex_neg (by walk_at "o") h4] at h1
   rw [List.size_toArray,<-hl]
   exact Option.some.inj h1
  exact subscriptTail_builtinR (x:=w) pl.isList.typeIs slot_list_getitem.lookup
   (wpAny_getItem_list_neg (Q:=fun r s'=>r=w/\EP X pins σ Q r s') pl.isList (by walk_at "o") (by rw [List.size_toArray] <;> walk_at "o") (by walk_at "o") (by rw [hj];simpa using ew) ⟨rfl,fin⟩) hs
theorem b2i:IxR X (rIxT X.K):=by
 intro value slice pins s σ H x y v u Q I rx ry h hs
 obtain ⟨p,xs,i,z,rfl,rfl,hq,he,q⟩:=h
 cases rx
 obtain ⟨t,rfl⟩:=ry
 obtain ⟨its,r,pl,hz⟩:=I.tuple hq
 obtain ⟨j,h1,h2,h3,h4,h5⟩:=a2N he
 obtain ⟨w,ew,rw'⟩:=r.get h2
 have hl:=r.length
 have hn:=line63
 have fin:EP X pins σ Q w s:=⟨z,H,I,rw',q⟩
 exact subscriptTail_builtinR (x:=w) pl.typeIs slot_tuple_getitem.lookup
  (getItem_tuple (j:=j) (Q:=fun r s'=>r=w/\EP X pins σ Q r s') pl (by walk_at "o") (by walk_at "o") (by rw [List.size_toArray,<-hl];exact h1) (by simpa using ew) ⟨rfl,fin⟩) hs
theorem b2I:IxR X rIxS:=by
 intro value slice pins s σ H x y v u Q I rx ry h hs
 obtain ⟨z,i,c,rfl,rfl,hz,he,q⟩:=h
 obtain ⟨t,rfl⟩:=rx
 obtain ⟨t',rfl⟩:=ry
 obtain ⟨j,h1,h2,h3,h4,h5⟩:=a2N he
 have hl:z.cps.toList.length=z.length:=by simp [Str.length]
 rw [hl] at h1 h4 h5
 have hn:=line63
 exact tail_any (typeIs_str s z t) slot_str_getitem.lookup (getItem_str (c:=c) (by
  have e1:decide (i < -(2 ^ 63:Int))=false:=decide_eq_false (by walk_at "o")
  have e2:decide (i≥2 ^ 63)=false:=decide_eq_false (by walk_at "o")
  rw [e1,e2,Bool.or_false]) (by rw [h1];simpa using h2) ⟨.str ⟨#[c]⟩,H,I.tok _,⟨_,rfl⟩,q⟩) hs
def rIx (K:PySem.W.Frag):R2:=fun x y H Q=>rIxL K x y H Q\/rIxT K x y H Q\/rIxS x y H Q
theorem a7N:IxR X (rIx X.K):=a9T.or (b2i.or b2I)
theorem a4R (its:List Value)(n j:Nat)(u:Value):Obj.mapSeq (·.setIfInBounds j u) {cls:=.type "list",data:=.seq its.toArray n}={cls:=.type "list",data:=.seq (its.set j u).toArray n}:=by
 simp [Obj.mapSeq]
theorem Inv.lst {pins:List (Addr×Obj)}{σ:St}{H:Hp}{s:Shared}{p:Addr}{xs:List V}(I:Inv X pins σ H s)(h:H p=some (.lst xs)):
  ∃(its:List Value) (n:Nat),Vals xs its/\s.heap.get? p=some {cls:=.type "list",data:=.seq its.toArray n}/\xs.length<=sizeLine:=by
 obtain ⟨z,its,n,r,e⟩:=I.hok p _ h
 exact ⟨its,n,r,e,z⟩
theorem Inv.lstUpd {pins:List (Addr×Obj)}{σ:St}{H:Hp}{s:Shared}{p:Addr}{xs ys:List V}{its its':List Value}{n n':Nat}{f:Obj->Obj}(I:Inv X pins σ H s)(h:H p=some (.lst xs))
  (ho:s.heap.get? p=some {cls:=.type "list",data:=.seq its.toArray n}) (hf:f {cls:=.type "list",data:=.seq its.toArray n}={cls:=.type "list",data:=.seq its'.toArray n'}) (r:Vals ys its') (hz:ys.length<=sizeLine) (t:Nat):
  Inv X pins σ (upd H p (.lst ys)) {s with heap:=s.heap.update p f,toks:=t}:=by
 have e:(s.heap.update p f).get? p=some {cls:=.type "list",data:=.seq its'.toArray n'}:=by
  rw [Heap.get?_update_self f ho (by rw [hf] <;> rfl),hf]
 refine I.write (x:=p) (e:=p) (by rw [h];trivial) (.inl rfl) (fun b u hb q=>(Heap.get?_update_other _ _ (Ne.symm hb)).trans q) ⟨_,e⟩ ?_
 exact ⟨hz,its',n',r,e⟩
def rSetL:V->V->V->Hp->(Hp->Prop)->Prop:=fun o i v H Q=>∃p xs k j,o= .ref p/\i= .int k/\H p=some (.lst xs)/\ixN xs.length k=some j/\Q (upd H p (.lst (xs.set j v)))
theorem a7M:PSet X rSetL:=by
 intro pins s σ H o i v ov iv u Q I ro ri rv h
 obtain ⟨p,xs,k,j,rfl,rfl,hp,hj,q⟩:=h
 cases ro
 obtain ⟨t,rfl⟩:=ri
 obtain ⟨its,n,r,ho,hz⟩:=I.lst hp
 obtain ⟨h1,h2,h3,h4⟩:=a5q hj
 have hl:=r.length
 have hn:=line63
 have I':Inv X pins σ (upd H p (.lst (xs.set j v))) {s with heap:=s.heap.update p (Obj.mapSeq (·.setIfInBounds j u))}:=
  I.lstUpd hp ho (a4R its n j u) (r.set rv j) (by rw [List.length_set];exact hz) s.toks
 by_cases h0:0<=k
 ·have hk:k.toNat=j:=by
   rw [seqIndex_of h0 h4] at h1
   exact Option.some.inj h1
  exact PySem.W.ki_setAt ho h0 (by walk_at "o") (by rw [List.size_toArray,<-hl];exact h4) (by rw [hk];exact ⟨_,I',q⟩)
 ·have hk:(k + (its.toArray.size:Int)).toNat=j:=by
   rw [seqIndex_neg (by walk_at "o") h3] at h1
   rw [List.size_toArray,<-hl]
   exact Option.some.inj h1
  exact PySem.W.ki_setBack ho (by walk_at "o") (by rw [List.size_toArray,<-hl];exact h3) (by walk_at "o") (by rw [hk];exact ⟨_,I',q⟩)
theorem a2G (lo hi:Option Int)(n:Nat):(sliceBounds lo hi none n).1=((HT.sIx n 0 lo:Nat):Int)/\(sliceBounds lo hi none n).2.1=((HT.sIx n n hi:Nat):Int)/\(sliceBounds lo hi none n).2.2=1:=by
 refine ⟨?_,?_,rfl⟩
 ·cases lo with
  | none=>simp [sliceBounds,HT.sIx]
  | some i=>
   simp only [sliceBounds,HT.sIx,Option.getD_none,show (1:Int) > 0 by decide,if_true]
   by_cases h:i < 0
   ·simp only [h,if_true] <;> walk_at "o"
   ·simp only [h,if_false] <;> walk_at "o"
 ·cases hi with
  | none=>simp [sliceBounds,HT.sIx]
  | some i=>
   simp only [sliceBounds,HT.sIx,Option.getD_none,show (1:Int) > 0 by decide,if_true]
   by_cases h:i < 0
   ·simp only [h,if_true] <;> walk_at "o"
   ·simp only [h,if_false] <;> walk_at "o"
theorem a1n (its:List Value)(lo hi:Option Int):slicePick its.toArray lo hi none=((its.drop (HT.sIx its.length 0 lo)).take (HT.sIx its.length its.length hi - HT.sIx its.length 0 lo)).toArray:=by
 obtain ⟨h1,h2,h3⟩:=a2G lo hi its.toArray.size
 unfold slicePick
 rw [h1,h2,h3]
 simp only [sliceRange_one,pick_run,List.size_toArray] <;> rfl
def rSlL (K:PySem.W.Frag):V->Option Int->Option Int->Hp->VK->Prop:=fun x lo hi H Q=>∃a xs,x= .ref a/\SqL K H a xs/\∀p,H p=none->Q (.ref p) (upd H p (.lst (cutV xs lo hi)))
theorem a9H:SlR X (rSlL X.K):=by
 intro pins s σ H x v vl vu lo hi sl Q I rx hs pl pu h
 obtain ⟨a,xs,rfl,hx,q⟩:=h
 cases rx
 obtain ⟨its,r,ht,hz⟩:=I.list hx
 have hlen:=r.length
 refine ⟨"list",_,slot_list_getitem.lookup,ht.isList.typeIs,?_⟩
 refine wpAny_getItem_list_slice ht.isList hs pl pu .none (by simp) ?_ (by rw [List.size_toArray] <;> walk_at "o")
 rw [a1n,<-hlen]
 refine ⟨.ref s.heap.objs.size,_,I.laid (t':=s.toks) (o:=.lst (cutV xs lo hi)) (fun b ob q=>Heap.get?_push_of_some _ q) (Nat.le_refl _) ?_,rfl,q _ (I.hok.fresh (Nat.le_refl _))⟩
 exact ⟨Nat.le_trans (Z9 xs lo hi) hz,_,0,(r.drop (HT.sIx xs.length 0 lo)).take (HT.sIx xs.length xs.length hi - HT.sIx xs.length 0 lo),Heap.get?_push_size _ rfl⟩
def flatV:V->Bool
 | .non=>true
 | .bl _=>true
 | .int _=>true
 | .str _=>true
 | _=>false
def eqV:V->V->Bool
 | .non,.non=>true
 | .bl a,.bl b=>a == b
 | .bl a,.int b=>(if a then 1 else 0) == b
 | .int a,.bl b=>a == (if b then 1 else 0)
 | .int a,.int b=>a == b
 | .str a,.str b=>a == b
 | _,_=>false
theorem b2q {A:Around}{s:Shared}{y x:V}{u v:Value}(ry:RelV y u)(rx:RelV x v)(fy:flatV y=true)(fx:flatV x=true):SeqAt.EqAt A s u v (eqV y x):=by
 cases y with
 | non=>
  cases ry
  cases x with
  | non=>cases rx;exact SeqAt.EqAt.same _
  | bl b=>cases rx;exact SeqAt.EqAt.none_bool b
  | int b=>obtain ⟨t,rfl⟩:=rx;exact SeqAt.EqAt.none_int b t
  | str b=>obtain ⟨t,rfl⟩:=rx;exact SeqAt.EqAt.none_str b t
  | _=>exact absurd (show false=true from fx) Bool.false_ne_true
 | bl a=>
  cases ry
  cases x with
  | non=>cases rx;exact SeqAt.EqAt.bool_none a
  | bl b=>cases rx;exact SeqAt.EqAt.bool_bool a b
  | int b=>obtain ⟨t,rfl⟩:=rx;exact SeqAt.EqAt.bool_int a b t
  | str b=>obtain ⟨t,rfl⟩:=rx;exact SeqAt.EqAt.bool_str a b t
  | _=>exact absurd (show false=true from fx) Bool.false_ne_true
 | int a=>
  obtain ⟨t',rfl⟩:=ry
  cases x with
  | non=>cases rx;exact SeqAt.EqAt.int_none a t'
  | bl b=>cases rx;exact SeqAt.EqAt.int_bool a t' b
  | int b=>obtain ⟨t,rfl⟩:=rx;exact SeqAt.EqAt.int_int a t' b t
  | str b=>obtain ⟨t,rfl⟩:=rx;exact SeqAt.EqAt.int_str a t' b t
  | _=>exact absurd (show false=true from fx) Bool.false_ne_true
 | str a=>
  obtain ⟨t',rfl⟩:=ry
  cases x with
  | non=>cases rx;exact SeqAt.EqAt.str_none a t'
  | bl b=>cases rx;exact SeqAt.EqAt.str_bool a t' b
  | int b=>obtain ⟨t,rfl⟩:=rx;exact SeqAt.EqAt.str_int a t' b t
  | str b=>obtain ⟨t,rfl⟩:=rx;exact SeqAt.EqAt.str_str a t' b t
  | _=>exact absurd (show false=true from fx) Bool.false_ne_true
 | _=>exact absurd (show false=true from fy) Bool.false_ne_true
def eqU (x:V) (u:Value):Bool:=match u with
 | .none=>eqV .non x
 | .bool b=>eqV (.bl b) x
 | .int i _=>eqV (.int i) x
 | .str z _=>eqV (.str z) x
 | _=>false
theorem a9m {x y:V}{u:Value}(r:RelV y u)(f:flatV y=true):eqU x u=eqV y x:=by
 cases y with
 | non=>cases r;rfl
 | bl b=>cases r;rfl
 | int i=>obtain ⟨t,rfl⟩:=r;rfl
 | str z=>obtain ⟨t,rfl⟩:=r;rfl
 | _=>exact absurd (show false=true from f) Bool.false_ne_true
theorem T8 {x:V}:∀{xs:List V} {us:List Value},Vals xs us->xs.all flatV=true->us.any (eqU x)=xs.any fun y=>eqV y x
 | _,_,.nil,_=>rfl
 | y :: xs,u :: us,.cons r t,f=>by
  rw [List.all_cons,Bool.and_eq_true] at f
  rw [List.any_cons,List.any_cons,a9m r f.1,T8 t f.2]
theorem O8 {A:Around}{s:Shared}{x:V}{v:Value}(rx:RelV x v)(fx:flatV x=true):∀{xs:List V} {us:List Value},Vals xs us->xs.all flatV=true->∀u∈us,SeqAt.EqAt A s u v (eqU x u)
 | _,_,.nil,_=>fun u hu=>by cases hu
 | y :: xs,u :: us,.cons r t,f=>fun u' hu=>by
  rw [List.all_cons,Bool.and_eq_true] at f
  rcases List.mem_cons.mp hu with rfl | hu
  ·rw [a9m r f.1];exact b2q r rx f.1 fx
  ·exact O8 rx fx t f.2 u' hu
def inV (x:V) (xs:List V):Bool:=xs.any fun y=>eqV y x
def rIn (K:PySem.W.Frag) (neg:Bool):R2:=fun x y H Q=>∃p xs,y= .ref p/\(SqL K H p xs\/SqT K H p xs)/\flatV x=true/\xs.all flatV=true/\Q (.bl (if neg then !inV x xs else inV x xs)) H
theorem a1C:OpR X (compareOp .In) (rIn X.K false):=by
 intro pins s σ H x y v u Q I rx ry h
 obtain ⟨p,xs,rfl,hq,fx,fs,q⟩:=h
 cases ry
 rcases hq with hq | hq
 ·obtain ⟨its,r,pl,hz⟩:=I.list hq
  refine SeqAt.in_listAt (eqU x) pl.isList (fun w hw=>O8 rx fx r fs w (by simpa using hw)) ⟨.bl _,H,I,rfl,?_⟩
  rw [show its.toArray.any (eqU x)=its.any (eqU x) by simp,T8 r fs]
  exact q
 ·obtain ⟨its,r,pl,hz⟩:=I.tuple hq
  refine SeqAt.in_tupleAt (eqU x) pl (fun w hw=>O8 rx fx r fs w (by simpa using hw)) ⟨.bl _,H,I,rfl,?_⟩
  rw [show its.toArray.any (eqU x)=its.any (eqU x) by simp,T8 r fs]
  exact q
theorem a3e:OpR X (compareOp .NotIn) (rIn X.K true):=by
 intro pins s σ H x y v u Q I rx ry h
 obtain ⟨p,xs,rfl,hq,fx,fs,q⟩:=h
 cases ry
 rcases hq with hq | hq
 ·obtain ⟨its,r,pl,hz⟩:=I.list hq
  refine SeqAt.notIn_listAt (eqU x) pl.isList (fun w hw=>O8 rx fx r fs w (by simpa using hw)) ⟨.bl _,H,I,rfl,?_⟩
  rw [show its.toArray.any (eqU x)=its.any (eqU x) by simp,T8 r fs]
  exact q
 ·obtain ⟨its,r,pl,hz⟩:=I.tuple hq
  refine SeqAt.notIn_tupleAt (eqU x) pl (fun w hw=>O8 rx fx r fs w (by simpa using hw)) ⟨.bl _,H,I,rfl,?_⟩
  rw [show its.toArray.any (eqU x)=its.any (eqU x) by simp,T8 r fs]
  exact q
theorem u5:CallR X (.builtin "len") (fun xs H Q=>∃p ys,xs=[.ref p]/\(SqL X.K H p ys\/SqT X.K H p ys)/\Q (.int ys.length) H):=by
 intro pins s σ H xs us Q I r h
 obtain ⟨p,ys,rfl,hq,q⟩:=h
 obtain ⟨u,rfl,rx⟩:=vals1 r
 cases rx
 have hn:=line63
 rcases hq with hq | hq
 ·obtain ⟨its,r',pl,hz⟩:=I.list hq
  have hlen:=r'.length
  exact Calls.call_len_list pl.isList (by simp only [List.size_toArray] <;> walk_at "o") ⟨.int ys.length,H,I.tok _,⟨s.toks + 1,by rw [List.size_toArray,hlen]⟩,q⟩
 ·obtain ⟨its,r',pl,hz⟩:=I.tuple hq
  have hlen:=r'.length
  exact len_tuple pl (by simp only [List.size_toArray] <;> walk_at "o") ⟨.int ys.length,H,I.tok _,⟨s.toks + 1,by rw [List.size_toArray,hlen]⟩,q⟩
theorem CallR.or {f:Value}{r r':List V->Hp->VK->Prop}(h:CallR X f r)(h':CallR X f r'):CallR X f (fun xs H Q=>r xs H Q\/r' xs H Q):=by
 intro pins s σ H xs us Q I rs q
 rcases q with q | q
 ·exact h pins s σ H xs us Q I rs q
 ·exact h' pins s σ H xs us Q I rs q
theorem w6:CallR X (.type "tuple") (fun xs H Q=>∃p ys,xs=[.ref p]/\((SqL X.K H p ys/\∀l,H l=none->Q (.ref l) (upd H l (.tup ys)))\/(SqT X.K H p ys/\Q (.ref p) H))):=by
 intro pins s σ H xs us Q I r h
 obtain ⟨p,ys,rfl,h⟩:=h
 obtain ⟨u,rfl,rx⟩:=vals1 r
 cases rx
 rcases h with ⟨hq,q⟩ | ⟨hq,q⟩
 ·obtain ⟨its,r',pl,hz⟩:=I.list hq
  have hlen:=r'.length
  refine call_tuple_list pl.isList (fun h' kp=>?_) (by simp only [List.size_toArray] <;> walk_at "o")
  have I1:Inv X pins σ H {s with heap:=h'}:=I.kept (t':=s.toks) kp
  have I2:Inv X pins σ (upd H h'.objs.size (.tup ys)) {s with heap:=h'.push {cls:=.type "tuple",data:=.seq its.toArray}}:=
   I1.laid (t':=s.toks) (fun b o e=>Heap.get?_push_of_some _ e) (Nat.le_refl _) (show ObjOk X.prog X.w _ _ _ (.tup ys) from ⟨hz,its,r',TupN.new _ _⟩)
  exact ⟨.ref h'.objs.size,_,I2,rfl,q _ (I1.hok.fresh (Nat.le_refl _))⟩
 ·obtain ⟨its,r',pl,hz⟩:=I.tuple hq
  exact call_tuple_same pl ⟨.ref p,H,I,rfl,q⟩
def tyV (K:PySem.W.Frag) (T:String) (x:V) (H:Hp):Prop:=match x with
 | .str _=>T="str"
 | .int _=>T="int"
 | .ref p=>(T="list"/\∃xs,SqL K H p xs)\/(T="tuple"/\∃o,K.lookup p=some o/\o.cls= .type "tuple"/\o.dict=none)\/
   (T="dict"/\((∃kvs,H p=some (.dK kvs))\/∃kvs,H p=some (.dT kvs)))\/(T="set"/\∃S n,H p=some (.set S n))
 | _=>False
theorem b2G {pins:List (Addr×Obj)}{σ:St}{H:Hp}{s:Shared}{T:String}{x:V}{v:Value}(I:Inv X pins σ H s)(r:RelV x v)(ty:tyV X.K T x H):
  s.TypeIs v T/\∀a,v= .ref a->∃ob,s.heap.get? a=some ob/\ob.dict=none:=by
 cases x with
 | str z=>
  obtain ⟨t,rfl⟩:=r
  cases (show T="str" from ty)
  exact ⟨typeIs_str s z t,fun _ e=>nomatch e⟩
 | int i=>
  obtain ⟨t,rfl⟩:=r
  cases (show T="int" from ty)
  exact ⟨typeIs_int s i t,fun _ e=>nomatch e⟩
 | ref p=>
  cases r
  rcases ty with ⟨rfl,xs,hq⟩ | ⟨rfl,o,hk,hc,hd⟩ | ⟨rfl,hk⟩ | ⟨rfl,S,n,hk⟩
  ·obtain ⟨its,_,pl,_⟩:=I.list hq
   refine ⟨pl.isList.typeIs,fun a e=>?_⟩
   cases e
   obtain ⟨o,n,e,c,hd,_⟩:=pl
   exact ⟨o,e,hd⟩
  ·refine ⟨⟨o,I.kIn p o hk,hc⟩,fun a e=>?_⟩
   cases e
   exact ⟨o,I.kIn _ o hk,hd⟩
  ·have z:∃o,s.heap.get? p=some o/\o.ExactDict:=by
    rcases hk with ⟨kvs,hk⟩ | ⟨kvs,hk⟩
    ·obtain ⟨_,_,_,_,o,_,_,e,ex,_⟩:=I.hok p _ hk
     exact ⟨o,e,ex⟩
    ·obtain ⟨_,_,_,_,o,_,_,e,ex,_⟩:=I.hok p _ hk
     exact ⟨o,e,ex⟩
   obtain ⟨o,e,ex⟩:=z
   refine ⟨⟨o,e,ex.1⟩,fun a e2=>?_⟩
   cases e2
   exact ⟨o,e,ex.2.1⟩
  ·obtain ⟨o,_,_,_,e,ex,_⟩:=I.hok p _ hk
   refine ⟨⟨o,e,ex.1⟩,fun a e2=>?_⟩
   cases e2
   exact ⟨o,e,ex.2.1⟩
 | _=>exact False.elim ty
def tBM (K:PySem.W.Frag) (T:String) (r:V->List V->Hp->VK->Prop) (to:TE) (t:TA):TE:=fun σ H Q=>to σ H fun x H1=>tyV K T x H1/\t σ H1 fun xs H2=>r x xs H2 Q
variable {o e:Expr}{es:List Expr}{to:TE}{t:TA}{name:Str}{apos cpos:Pos}{T id:String}{r:V->List V->Hp->VK->Prop}
theorem a70 (pa:PlainAttrs T)(slot:Slot T name id)(hty:typeOf (.builtin id)=pure (.type "method_descriptor"))(hm:MtR X id r)(ho:PE X o to)(ha:PA X (e :: es) t)
  (hbase:attributeBase o name X.env (eval o X.env)=eval o X.env:=by rfl)
  (hfew:((backTo cpos (starEach (e :: es) X.env)).all (fun x=>!x.1) && (backToKw cpos (keywordEach [] X.env)).all (fun x=>x.1.isSome)
   && decide ((e :: es).length + ([]:List Keyword).length + (if ([]:List Keyword).isEmpty then 0 else 1) < 30))=true:=by rfl)
  (hline:(apos.endLine == cpos.line)=true:=by rfl) (hs:starEach (e :: es) X.env=(false,eval e X.env) :: starEach es X.env:=by rfl) (hplain:(backTo cpos (starEach es X.env)).any (·.1)=false:=by rfl):
  PE X (.Call (.Attribute o name apos) (e :: es) [] cpos) (tBM X.K T r to t):=by
 intro pins s σ H Q I h
 refine wpAny_Call_method_late hbase hfew hline rfl (thn (ho pins s σ H _ I h) fun v s1 ⟨x,H1,I1,r1,ty,q1⟩=>?_)
 obtain ⟨h1,h2⟩:=b2G I1 r1 ty
 refine ⟨T,id,pa,slot,hty,h1,h2,?_⟩
 have hA:=ha cpos pins s1 σ H1 _ I1 q1
 rw [hs] at hA ⊢
 refine Calls.callWith_builtin (by show (false || (backTo cpos (starEach es X.env)).any (·.1))=false;rw [hplain] <;> rfl) (Calls.evalArgs_plain ?_)
 exact thn hA fun us s2 h0=>ex5 h0 fun vs H2 I2 r2 q2=>hm pins s2 σ H2 x vs v us Q I2 r1 r2 q2
end
def MtM (X:Cx) (id:String) (r:V->List V->Hp->VK->Prop):Prop:=
 ∀(pins:List (Addr×Obj)) (s:Shared) (σ:St) (H:Hp) (x:V) (xs:List V) (v:Value) (us:List Value) (Q:VK),Inv X pins σ H s->RelV x v->Vals xs us->r x xs H Q->
  wpAny (model X.prog X.w) X.A (call (.builtin id) (v :: us)) (EP X pins σ Q) X.xe s
theorem Vals.one:∀{x:V} {us:List Value},Vals [x] us->∃u,us=[u]/\RelV x u
 | _,_,.cons r .nil=>⟨_,rfl,r⟩
theorem Vals.eraseIdx:∀{xs:List V} {us:List Value} (i:Nat),Vals xs us->Vals (xs.eraseIdx i) (us.eraseIdx i)
 | _,_,_,.nil=>.nil
 | _,_,0,.cons _ t=>t
 | _,_,i + 1,.cons r t=>.cons r (Vals.eraseIdx i t)
theorem Vals.rep {xs:List V}{us:List Value}(h:Vals xs us):∀k:Nat,Vals (List.replicate k xs).flatten (List.replicate k us).flatten
 | 0=>.nil
 | k + 1=>by
  rw [List.replicate_succ,List.replicate_succ,List.flatten_cons,List.flatten_cons]
  exact Vals.append h (Vals.rep h k)
theorem O9 {α:Type}:∀(l:List α) (i:Nat),(l.eraseIdx i).length<=l.length
 | [],_=>Nat.le_refl _
 | _ :: _,0=>Nat.le_succ _
 | _ :: r,i + 1=>Nat.succ_le_succ (O9 r i)
theorem a1t (its:List Value):∀(k:Nat) (acc:List Value),
  List.foldl (fun x1 x2=>x1 ++ x2) acc.toArray (List.replicate k its.toArray)=(acc ++ (List.replicate k its).flatten).toArray
 | 0,acc=>by simp
 | k + 1,acc=>by
  have e:acc.toArray ++ its.toArray=(acc ++ its).toArray:=by simp
  have e2:(acc ++ its) ++ (List.replicate k its).flatten=acc ++ (List.replicate (k + 1) its).flatten:=by
   rw [List.replicate_succ,List.flatten_cons,List.append_assoc]
  rw [<-e2,<-a1t its k (acc ++ its),<-e,List.replicate_succ,List.foldl_cons]
section
variable {X:Cx}{pins:List (Addr×Obj)}{σ:St}{H:Hp}{s:Shared}{l b:Addr}{xs ys zs:List V}
theorem Inv.lset {its its':List Value}{n:Nat}{f:Array Value->Array Value}{t':Nat}(I:Inv X pins σ H s)(hH:H l=some (.lst xs))
  (e:s.heap.get? l=some {cls:=.type "list",data:=.seq its.toArray n}) (hf:f its.toArray=its'.toArray) (hv:Vals ys its') (hz:ys.length<=sizeLine):
  Inv X pins σ (upd H l (.lst ys)) {s with heap:=s.heap.update l (Obj.mapSeq f),toks:=t'}:=by
 have q:=PySem.IsL.update e f
 rw [hf] at q
 refine I.write (x:=l) (e:=l) (by rw [hH];exact trivial) (.inl rfl) (fun b' u hb hu=>(Heap.get?_update_other s.heap (Obj.mapSeq f) (Ne.symm hb)).trans hu) ⟨_,q⟩ ?_
 exact ⟨hz,its',_,hv,q⟩
theorem Inv.lnew {its:List Value}{t':Nat}(I:Inv X pins σ H s)(hv:Vals ys its)(hz:ys.length<=sizeLine):
  Inv X pins σ (upd H s.heap.objs.size (.lst ys)) {s with heap:=s.heap.push {cls:=.type "list",data:=.seq its.toArray},toks:=t'}:=
 I.laid (fun _ _ q=>Heap.get?_push_of_some _ q) (Nat.le_refl _) ⟨hz,its,0,hv,Heap.get?_push_size _ rfl⟩
theorem Inv.fresh (I:Inv X pins σ H s):H s.heap.objs.size=none:=I.hok.fresh (Nat.le_refl _)
theorem Inv.lstM (I:Inv X pins σ H s)(hH:H l=some (.lst xs)):xs.length<=sizeLine/\∃(its:List Value) (n:Nat),Vals xs its/\xs.length=its.length/\s.heap.get? l=some {cls:=.type "list",data:=.seq its.toArray n}:=by
 obtain ⟨z,its,n,r,e⟩:=I.hok l _ hH
 exact ⟨z,its,n,r,r.length,e⟩
theorem notLongL {n:Nat}(h:n<=sizeLine):Builtin.List.listTooLong n=false:=by
 unfold Builtin.List.listTooLong
 exact decide_eq_false (by walk_at "o")
end
section
variable {X:Cx}
def rAppend:V->List V->Hp->VK->Prop:=fun x vs H Q=>∃l xs y,x= .ref l/\vs=[y]/\H l=some (.lst xs)/\xs.length < sizeLine/\Q .non (upd H l (.lst (xs ++ [y])))
theorem X5:MtM X "list.append" rAppend:=by
 intro pins s σ H x vs v us Q I rx rv h
 obtain ⟨l,xs,y,rfl,rfl,hH,hz,q⟩:=h
 cases rx
 obtain ⟨u,rfl,ru⟩:=rv.one
 obtain ⟨z,its,n,r,hl,e⟩:=I.lstM hH
 refine call_meets F.slot_list_append ⟨_,e,rfl⟩ F.entry_list_append (F.args_list_append_2 _ _) (PySem.list_append l its.toArray n u (by rw [List.size_toArray];walk_at "o")) ⟨e,?_⟩
 refine ⟨.non,_,I.lset (its':=its ++ [u]) hH e (by simp) (r.append (.cons ru .nil)) ?_,rfl,q⟩
 rw [List.length_append,List.length_singleton]
 walk_at "o"
def rPopAt:V->List V->Hp->VK->Prop:=fun x vs H Q=>∃l xs i k y,x= .ref l/\vs=[.int i]/\H l=some (.lst xs)/\-(2 ^ 63)<=i/\i < 2 ^ 63/\seqIndex? i xs.length=some k/\xs[k]? =some y/\Q y (upd H l (.lst (xs.eraseIdx k)))
theorem a9s:MtM X "list.pop" rPopAt:=by
 intro pins s σ H x vs v us Q I rx rv h
 obtain ⟨l,xs,i,k,y,rfl,rfl,hH,h1,h2,hk,hy,q⟩:=h
 cases rx
 obtain ⟨u,rfl,ru⟩:=rv.one
 obtain ⟨t,rfl⟩:=ru
 obtain ⟨z,its,n,r,hl,e⟩:=I.lstM hH
 obtain ⟨w,hw,rw'⟩:=r.get hy
 refine call_meets F.slot_list_pop ⟨_,e,rfl⟩ F.entry_list_pop (F.args_list_pop_2 _ _)
  (MeetsSeq.list_pop_at l its.toArray n i t k w (fitsIndex_both h1 h2) (by rw [List.size_toArray,<-hl];exact hk) (by rw [<-Array.getElem?_toList];exact hw) (by rw [List.size_toArray];walk_at "o")) ⟨e,?_⟩
 refine ⟨y,_,I.lset (its':=its.eraseIdx k) hH e ?_ (r.eraseIdx k) ?_,rw',q⟩
 ·show its.toArray.eraseIdxIfInBounds k=(its.eraseIdx k).toArray
  rw [List.eraseIdxIfInBounds_toArray]
 ·have:=O9 xs k
  walk_at "o"
theorem b0t {α:Type}(xs:List α)(k:Nat):(List.replicate k xs).flatten.length=k * xs.length:=by
 induction k with
 | zero=>simp
 | succ k ih=>rw [List.replicate_succ,List.flatten_cons,List.length_append,ih,Nat.succ_mul,Nat.add_comm]
end
section
variable {prog:Program}{w:World}{A:Around}{E:Value->Shared->Prop}{s:Shared}
set_option maxRecDepth 100000 in
end
section
variable {X:Cx}
end
end L2
namespace Att
open PySem PySem.W PySem.Calls PyProof.Rows
theorem a0n {P:Params}{h:Heap}:∀(ns:List Int) (vs:List Value),WellAll P h vs (ns.map WData.int)->IntsAre vs ns:=by
 intro ns
 induction ns with
 | nil=>
  intro vs w
  rw [List.map_nil] at w
  cases w
  exact .nil
 | cons n ns ih=>
  intro vs w
  rw [List.map_cons] at w
  cases w with
  | cons a b=>
   cases a
   exact .cons _ _ (ih _ b)
theorem a61 {l:OpenLaw}{n:Nat}(hn:l.most=some n){P:Params}{h:Heap}{args:List WData}{vals:List Value}
  (hpre:l.row.toRowW.claim.pre args=true) (hwl:WellAll P h vals args):
  ∃a vs ns,vals=[Value.ref a]/\args=[WData.list (ns.map WData.int)]/\h.get? a=some {cls:=.type "list",data:=.seq vs.toArray}/\IntsAre vs ns/\ns.length<=n:=by
 have hsh:WShape.hasAll [] args [.list .int]=true:=(pre_splitW hpre).1
 have hc:l.pre.holds [] {args:=args}=true:=(pre_splitW hpre).2
 obtain ⟨d,r,rfl,h1,h2⟩:=hasAllW_cons hsh
 obtain rfl:=hasAllW_nil h2
 obtain ⟨xs,rfl,h3⟩:=hasW_list h1
 obtain ⟨ns,rfl⟩:=items_int h3
 have hlen:ns.length<=n:=by
  unfold OpenLaw.pre at hc
  have h4:(WTm.not (.lt (.lit (.int (n:Int))) (.len (.arg 0)))).holds [] {args:=[.list (ns.map .int)]}=true:=by
   have h4:=(holds_andW hc).1
   rw [hn] at h4
   exact h4
  have h5:=condW_of h4 (w_not (w_lt w_lit (w_len_list (w_arg rfl))))
  rw [List.length_map] at h5
  refine Nat.le_of_not_lt fun q=>?_
  have q':(n:Int) < ((ns.length:Nat):Int):=by walk_at "o"
  first
   | (rw [decide_eq_true q'] at h5;exact absurd h5 (by decide))
   | (simp at h5;walk_at "o")
 cases hwl with
 | cons w1 w2=>
  cases w2
  cases w1 with
  | list ho hall=>exact ⟨_,_,ns,rfl,rfl,ho,a0n ns _ hall,hlen⟩
theorem a65 (l:OpenLaw)(args:List WData):l.row.toRowW.claim.post args (.bool true) args=true:=
 postW_of (r:=l.row.toRowW) (X:=(true == true))
  (show WShape.has [] (.bool true) .bool=true by first | rfl | decide | simp [WShape.has,WShape.arms,WShape.armsAll])
  (show (WTm.eq .res (.lit (.bool true))).value [] {args:=args,res:=some (.bool true),after:=args}=some (.bool (true == true)) from w_eq_bool (w_res rfl) w_lit) rfl
theorem attach_call {l:OpenLaw}{n:Nat}{q:Program}{loose:List Str}{XP:(Str->Option Value)->Heap->Prop}{YP:World->Heap->Prop}{d:DefRec}
  (hn:l.most=some n) (hdf:d.params.defaults=[])
  (call:∀(w:World) (s₀ s₁:Shared) (mg mb:Str->Option Value) (fa:Addr) (o:Obj) (pm cd doc:Value) (a:Addr) (vs:List Value) (ns:List Int),
   Ground q loose [] XP w s₀ mg mb s₁.heap->YP w s₁.heap->
   s₁.heap.get? fa=some o->o.data= .func (docDef d.name d.params d.body d.scope pm cd doc)->s₁.heap.CodeRec cd d.name->mg d.name=some (.ref fa)->
   s₁.heap.get? a=some {cls:=.type "list",data:=.seq vs.toArray}->IntsAre vs ns->ns.length<=n->s₁.gens= #[]->
   codeAny (model l.prog w) callerA (.call (.ref fa) ⟨[.ref a],[]⟩) (fun r s'=>r= .ok (.ret (.bool true))/\OldK s₁.heap s'.heap/\s'.os=s₁.os/\AllBare s'.gens) s₁):
  WalkO q loose XP YP l.row.toRowW d [] (fun f vs=>PySem.call f vs):=by
 intro w s₀ s₁ mg mb G Y fa o pm cd doc dV kV ho hd hcd hD hmg hg args vals as hpre hlay hrd hwl hlo
 obtain rfl:dV= .none:=Dflts.none hD hdf
 obtain rfl:kV= .none:=Dflts.noKw hD
 obtain ⟨a,vs,ns,rfl,rfl,hobj,hints,hlen⟩:=a61 hn hpre hwl
 refine enter_call (codeAny_mono (call w s₀ s₁ mg mb fa o pm cd doc a vs ns G Y ho (fd_plain hd) hcd hmg hobj hints hlen hg) fun r s' hq=>?_)
 obtain ⟨rfl,h2,h3,h4⟩:=hq
 exact ⟨.inl ⟨.bool true,.bool true,[],rfl,fun _=>rfl,.bool true,a65 l _,fun _=>⟨List.Pairwise.nil,fun _ hm=>(nomatch hm)⟩⟩,h2,h3,h4⟩
section
variable {prog:Program}{w:World}{A:Around}{E:Value->Shared->Prop}{s:Shared}{K:Frag}
def ledger (h:Heap) (L d:Addr):List (Addr×Obj):=(List.range h.objs.size).filterMap fun a=>if a=L\/a=d then none else (h.get? a).map fun o=>(a,o)
end
end Att
namespace L2
open PySem PySem.Spec PyProof.Rows
theorem a1D:∀{vs:List Value} {ns:List Int},IntsAre vs ns->Vals (ns.map V.int) vs
 | _,_,.nil=>.nil
 | _,_,.cons n t h=>.cons ⟨t,rfl⟩ (a1D h)
def Only (H:Hp):Prop:=∀b,H b=none\/∃o xs,H b=some (.frz o (.lst xs))
theorem a7D {P:Program}{w:World}{K:PySem.W.Frag}{mg mb:Str->Option Value}{CX:CXT}{k:Nat}{fa a:Addr}{fd:FuncData}{x:Str}{sp:Sp}{s₁:Shared}{vs:List Value}{ns:List Int}
  (KX:K.In s₁.heap) (hns:s₁.heap.Ns mainGlobals mg) (hb:s₁.heap.Ns builtinsNs mb) (hbb:∀x:Str,x≠"__name__"->mb x=bootBuiltins x) (hlim:s₁.heap.NoLimit) (hg:s₁.gens= #[])
  (ha:s₁.heap.get? a=some {cls:=.type "list",data:=.seq vs.toArray}) (hi:IntsAre vs ns) (hl:ns.length<=sizeLine) (hr:Room k callerA)
  (F:∀base:Heap,K.In base->base.Ns mainGlobals mg->FnOk P w K mg base CX k fa fd [x] sp) (hbind:∀(s:Shared) (u:Value),BindsTo s fd ⟨[u],[]⟩ [(x,u)])
  (hsp:∀H:Hp,Only H->SqL K H a (ns.map V.int)->sp [.ref a] H (fun v _=>v= .bl true) fun _ _ _=>False)
  (hCX:∀H e s',CX [] H s₁ (fun _ _ _=>False) e s'->False):
  codeAny (model P w) callerA (.call (.ref fa) ⟨[.ref a],[]⟩) (fun r s'=>r= .ok (.ret (.bool true))/\OldK s₁.heap s'.heap/\s'.os=s₁.os/\AllBare s'.gens) s₁:=by
 have rv:=a1D hi
 have lenV:=hi.length
 have core:∀H:Hp,Only H->SqL K H a (ns.map V.int)->HOk P w H s₁.heap->(∀b,H b≠none->b=a)->(H a≠none->K.lookup a=none)->
   codeAny (model P w) callerA (.call (.ref fa) ⟨[.ref a],[]⟩) (fun r s'=>r= .ok (.ret (.bool true))/\OldK s₁.heap s'.heap/\s'.os=s₁.os/\AllBare s'.gens) s₁:=by
  intro H hO hS hok hA hK
  have base_of:∀{b:Addr} {o:Obj},s₁.heap.get? b=some o->H b=none->(hidT s₁.heap H).get? b=some o:=fun e n=>a9n e n
  have noA:∀{b:Addr} {o:Obj} {es:Array DictEntry} {ep:Nat},s₁.heap.get? b=some o->o.data= .dict es ep->H b=none:=fun {b o es ep} e d=>by
   cases q:H b with
   | none=>rfl
   | some u=>
    have e':b=a:=hA b (by rw [q];simp)
    subst e'
    rw [ha] at e;cases e
    have d':Data.seq vs.toArray _=Data.dict es ep:=d
    cases d'
  have nsK:∀{b:Addr} {m:Str->Option Value},s₁.heap.Ns b m->(hidT s₁.heap H).Ns b m:=fun {b m} ⟨o,es,ep,e,d,r⟩=>⟨o,es,ep,base_of e (noA e d),d,r⟩
  have hKb:K.In (hidT s₁.heap H):=fun b o e=>base_of (KX b o e) (by
   cases q:H b with
   | none=>rfl
   | some u=>
    have e':b=a:=hA b (by rw [q];simp)
    subst e'
    rw [hK (by rw [q];simp)] at e;cases e)
  have hM:Mod K mg (hidT s₁.heap H):=⟨hKb,nsK hns,⟨mb,nsK hb,hbb⟩,let ⟨mc,h1,h2⟩:=hlim;⟨mc,nsK h1,h2⟩⟩
  have e0:Env0 P w K mg (hidT s₁.heap H) callerA [] s₁ H:=⟨rfl,hM,fun b o e=>a91 e,Nat.le_of_eq (a6s _ _),trivial,fun b hb=>absurd (show b∈([]:List Addr) from hb) (by simp),hok,.of_eq hg⟩
  refine codeAny_mono ((F _ hKb (nsK hns)).run callerA [] s₁ H ⟨[.ref a],[]⟩ [.ref a] [.ref a] _ _ hr e0 (hbind s₁ (.ref a)) (.cons rfl .nil) (hsp H hO hS)) fun r s' h=>?_
  cases r with
  | error e=>exact (hCX H e s' h).elim
  | ok fl=>
   cases fl with
   | next=>exact False.elim h
   | brk=>exact False.elim h
   | cont=>exact False.elim h
   | ret u=>
    obtain ⟨v,H',os,bare,un,hok',r',q⟩:=h
    have q':v= .bl true:=q
    subst q'
    obtain rfl:u=Value.bool true:=r'
    refine ⟨rfl,OldK.of_keep fun b o e=>?_,os,bare⟩
    cases q:H b with
    | none=>exact un.keep b o e q (by intro z;exact absurd (show b∈([]:List Addr) from z) (by simp)) (by simp)
    | some u=>
     rcases hO b with z | ⟨ob,xs,z⟩
     ·rw [q] at z;cases z
     ·have z2:=un.frzs b ob _ z
      obtain ⟨e1,_⟩:=hok b _ z
      obtain ⟨e2,_⟩:=hok' b _ z2
      rw [e] at e1;cases e1
      exact e2
 cases hk:K.lookup a with
 | some o=>
  have e:=KX a o hk
  rw [ha] at e
  cases e
  refine core (fun _=>none) (fun _=>.inl rfl) (.inr ⟨_,vs.toArray,_,hk,rfl,rfl,rfl,by rw [List.size_toArray,lenV];exact hl,by simpa using rv⟩) (fun b u z=>by have z':(none:Option HO)=some u:=z;cases z') (fun b z=>absurd rfl z) fun z=>absurd rfl z
 | none=>
  refine core (fun b=>if b=a then some (.frz {cls:=.type "list",data:=.seq vs.toArray} (.lst (ns.map V.int))) else none) (fun b=>?_) (.inl (.inr ⟨{cls:=.type "list",data:=.seq vs.toArray},if_pos rfl⟩)) (fun b u z=>?_) (fun b z=>?_) fun _=>hk
  ·by_cases hb:b=a
   ·exact .inr ⟨_,_,if_pos hb⟩
   ·exact .inl (if_neg hb)
  ·by_cases hb:b=a
   ·have z':=(if_pos hb).symm.trans z
    cases z'
    subst hb
    exact ⟨ha,by rw [List.length_map];exact hl,vs,_,rv,ha⟩
   ·have z':=(if_neg hb).symm.trans z
    cases z'
  ·by_cases hb:b=a
   ·exact hb
   ·exact absurd (if_neg hb) z
abbrev KOf {K:PySem.W.Frag} {h:Heap} (_:K.In h):PySem.W.Frag:=K
theorem b0r {l:PySem.W.OpenLaw}{n k:Nat}{q:Program}{loose:List Str}{XP:(Str->Option Value)->Heap->Prop}{YP:World->Heap->Prop}{d:DefRec}{K:Params->PySem.W.Frag}{CX:World->CXT}{sp:World->Sp}{x:Str}
  (hn:l.most=some n) (hn2:n<=sizeLine) (hdf:d.params.defaults=[]) (hr:Room k callerA)
  (hY:∀(w:World) (h:Heap),YP w h->(K w.params).In h)
  (F:∀(w:World) (mg:Str->Option Value) (fa:Addr) (h:Heap),(K w.params).In h->h.Ns mainGlobals mg->mg d.name=some (.ref fa)->
   ∃fd:FuncData,(∀(s:Shared) (u:Value),BindsTo s fd ⟨[u],[]⟩ [(x,u)])/\
    ∀base:Heap,(K w.params).In base->base.Ns mainGlobals mg->FnOk l.prog w (K w.params) mg base (CX w) k fa fd [x] (sp w))
  (hsp:∀(w:World) (H:Hp) (a:Addr) (ns:List Int),ns.length<=n->Only H->SqL (K w.params) H a (ns.map V.int)->sp w [.ref a] H (fun v _=>v= .bl true) fun _ _ _=>False)
  (hCX:∀(w:World) (H:Hp) (s:Shared) (e:Value) (s':Shared),CX w [] H s (fun _ _ _=>False) e s'->False):
  PySem.W.WalkO q loose XP YP l.row.toRowW d [] (fun f vs=>PySem.call f vs):=by
 refine Att.attach_call hn hdf fun w s₀ s₁ mg mb fa o pm cd doc a vs ns G Y ho hd hcd hmg hobj hints hlen hg=>?_
 have KX:=hY w _ Y
 obtain ⟨fd,hb,hF⟩:=F w mg fa _ KX G.T.g hmg
 exact a7D KX G.T.g G.T.b G.T.builtins G.T.nolimit hg hobj hints (Nat.le_trans hlen hn2) hr hF hb (fun H hO hS=>hsp w H a ns hlen hO hS) fun H e s'=>hCX w H s₁ e s'
def defArgs (s:Stmt):Arguments:=match s with
 | .FunctionDef _ a _ _ _ _ _ _ _ _=>a
 | _=>{posonlyargs:=[],args:=[],vararg:=none,kwonlyargs:=[],kw_defaults:=[],kwarg:=none,defaults:=[]}
def defBody (s:Stmt):List Stmt:=match s with
 | .FunctionDef _ _ b _ _ _ _ _ _ _=>b
 | _=>[]
def defScope (s:Stmt):Scope:=match s with
 | .FunctionDef _ _ _ _ _ _ sc _ _ _=>sc
 | _=>{kind:=.function,names:=[],isGenerator:=false,isCoroutine:=false}
abbrev CX0:CXT:=fun _ _ _ _ _ _=>False
abbrev E0:XK:=fun _ _ _=>False
theorem pass0 {X:Cx}:Passes CX0 X E0:=fun _ _ _ _ _ _ _ h=>h.elim
structure Fun (K:PySem.W.Frag) (x qual:Str) (st:Stmt) (f:Addr) (fd:FuncData):Prop where
 ex:∃(oc:Value) (od:Option Addr) (kV doc pm:Value) (an:Option Addr) (cdv ct:Value) (osl:Array (Option Value)),
  fd=PySem.W.fnOf x qual (defArgs st) (defBody st) (defScope st) .none kV doc pm an cdv ct/\K.lookup f=some ⟨oc,od,.func fd,osl⟩/\PySem.W.codeIn K cdv qual=true
 kp:PySem.W.keepIn K (.ref f)=true
section
variable {P:Program}{w:World}{K:PySem.W.Frag}{mg:Str->Option Value}{base:Heap}
theorem Fun.ok {x qual:Str}{st:Stmt}{f:Addr}{fd:FuncData}{N ps:List Str}{k:Nat}{sp:Sp}(F:Fun K x qual st f fd)(S:FnScope N ps (defScope st))(len:∀vs H Q E,sp vs H Q E->vs.length=ps.length)
  (hbody:∀(cdv:Value) (A:Around) (outer:List Env) (s:Shared) (H:Hp) (vs:List V) (Q:VK) (E:XK),Room k (A.deeper (envOfC qual (defScope st) s.heap.objs.size f cdv))->sp vs H Q E->
   ∃t,PSs (cxOf CX0 P w K mg base N qual (defScope st) f cdv A outer s H E).nox (defBody st) t/\t {nx:=fun _ H'=>Q .non H',rt:=Q} (start N vs) H):FnOk P w K mg base CX0 (k + 1) f fd ps sp:=by
 obtain ⟨oc,od,kV,doc,pm,an,cdv,ct,osl,rfl,lk,hcd⟩:=F.ex
 refine fn_of lk hcd S len fun A outer s H vs Q E hr hsp=>?_
 obtain ⟨t,h,q⟩:=hbody cdv A outer s H vs Q E hr hsp
 exact ⟨t,h.nox,q⟩
theorem Fun.binds {x qual:Str}{st:Stmt}{f:Addr}{fd:FuncData}{ps:List Str}(F:Fun K x qual st f fd)
  (h:∀(kV doc pm:Value) (an:Option Addr) (cdv ct:Value) (us:List Value),us.length=ps.length->bindArgs (PySem.W.fnOf x qual (defArgs st) (defBody st) (defScope st) .none kV doc pm an cdv ct) ⟨us,[]⟩=pure (ps.zip us)):Binds K fd ps []:=by
 obtain ⟨oc,od,kV,doc,pm,an,cdv,ct,osl,rfl,lk,hcd⟩:=F.ex
 exact .all (h kV doc pm an cdv ct)
theorem a85 {x qual:Str}{st:Stmt}{f:Addr}{oc:Value}{od an:Option Addr}{osl:Array (Option Value)}{kV doc pm cdv ct:Value}(l:K.lookup f=some ⟨oc,od,.func (PySem.W.fnOf x qual (defArgs st) (defBody st) (defScope st) .none kV doc pm an cdv ct),osl⟩)
  (c:PySem.W.codeIn K cdv qual=true) (k:PySem.W.keepIn K (.ref f)=true):Fun K x qual st f (PySem.W.fnOf x qual (defArgs st) (defBody st) (defScope st) .none kV doc pm an cdv ct):=⟨⟨oc,od,kV,doc,pm,an,cdv,ct,osl,rfl,l,c⟩,k⟩
end
theorem a11 {A:Around}{k:Nat}(hr:Room k A):A.units + 1 < cLine:=Nat.lt_of_le_of_lt (Nat.add_le_add_left (by decide:1<=64) _) hr.units
section
variable {X:Cx}
end
def Same (H H':Hp):Prop:=∀b o,H b=some o->H' b=some o
theorem Same.refl (H:Hp):Same H H:=fun _ _ h=>h
theorem Same.trans {H H1 H2:Hp}(a:Same H H1)(b:Same H1 H2):Same H H2:=fun c o h=>b c o (a c o h)
section
variable {κ:Type} [DecidableEq κ]
def valV (kvs:List (κ×V)) (k:κ):Option V:=(kvs.find? fun kv=>decide (kv.1=k)).map (·.2)
def putK (kvs:List (κ×V)) (k:κ) (v:V):List (κ×V):=
 if (kvs.any fun kv=>decide (kv.1=k))=true then kvs.map (fun kv=>if kv.1=k then (kv.1,v) else kv) else kvs ++ [(k,v)]
theorem U3 {p:κ×V}{r:List (κ×V)}{k:κ}(e:p.1=k):valV (p :: r) k=some p.2:=by simp [valV,List.find?_cons,e]
theorem M8 {p:κ×V}{r:List (κ×V)}{k:κ}(e:¬p.1=k):valV (p :: r) k=valV r k:=by simp [valV,List.find?_cons,e]
theorem a31 (k:κ):∀kvs:List (κ×V),(kvs.any fun kv=>decide (kv.1=k))=(valV kvs k).isSome
 | []=>rfl
 | p :: r=>by
  rw [List.any_cons]
  by_cases e:p.1=k
  ·simp only [U3 e,decide_eq_true e,Bool.true_or,Option.isSome_some]
  ·rw [M8 e,decide_eq_false e,Bool.false_or];exact a31 k r
theorem O0 (kvs:List (κ×V))(k:κ)(v:V):(putK kvs k v).length<=kvs.length + 1:=by
 unfold putK
 split
 ·rw [List.length_map];walk_at "o"
 ·rw [List.length_append,List.length_cons,List.length_nil];walk_at "o"
theorem RelO.isSome_eq {o:Option V}{u:Option Value}(r:RelO o u):o.isSome=u.isSome:=by
 cases o with
 | none=>cases u with
  | none=>rfl
  | some _=>exact (show False from r).elim
 | some _=>cases u with
  | none=>exact (show False from r).elim
  | some _=>rfl
theorem RelO.getD {o:Option V}{u:Option Value}{d:V}{d':Value}(r:RelO o u)(rd:RelV d d'):RelV (o.getD d) (u.getD d'):=by
 cases o with
 | none=>cases u with
  | none=>exact rd
  | some _=>exact (show False from r).elim
 | some _=>cases u with
  | none=>exact (show False from r).elim
  | some _=>exact r
theorem KV.val {kvs:List (κ×V)}{vs:List (κ×Value)}(r:KV kvs vs)(k:κ):RelO (valV kvs k) (valueAt vs k):=by
 unfold KV at r
 induction r with
 | nil=>exact True.intro
 | @cons p q ps qs h t ih=>
  obtain ⟨h1,h2⟩:=h
  by_cases e:p.1=k
  ·have e':q.1=k:=h1.symm.trans e
   have b:valueAt (q :: qs) k=some q.2:=by simp [valueAt,List.find?_cons,e']
   rw [U3 e,b];exact h2
  ·have e':¬q.1=k:=fun z=>e (h1.trans z)
   have b:valueAt (q :: qs) k=valueAt qs k:=by simp [valueAt,List.find?_cons,e']
   rw [M8 e,b];exact ih
theorem KV.any {kvs:List (κ×V)}{vs:List (κ×Value)}(r:KV kvs vs)(k:κ):(kvs.any fun kv=>decide (kv.1=k))=vs.any fun kv=>decide (kv.1=k):=by
 unfold KV at r
 induction r with
 | nil=>rfl
 | cons h t ih=>rw [List.any_cons,List.any_cons,ih,h.1]
theorem KV.repl {kvs:List (κ×V)}{vs:List (κ×Value)}(r:KV kvs vs)(k:κ){y:V}{u:Value}(ry:RelV y u):
  KV (kvs.map fun kv=>if kv.1=k then (kv.1,y) else kv) (vs.map fun kv=>if kv.1=k then (kv.1,u) else kv):=by
 unfold KV at r ⊢
 induction r with
 | nil=>exact .nil
 | @cons p q ps qs h t ih=>
  rw [List.map_cons,List.map_cons]
  refine .cons ?_ ih
  obtain ⟨h1,h2⟩:=h
  by_cases e:p.1=k
  ·rw [if_pos e,if_pos (h1.symm.trans e)];exact ⟨h1,ry⟩
  ·rw [if_neg e,if_neg (fun z=>e (h1.trans z))];exact ⟨h1,h2⟩
theorem KV.put {kvs:List (κ×V)}{vs:List (κ×Value)}(r:KV kvs vs)(k:κ){y:V}{u:Value}(ry:RelV y u):KV (putK kvs k y) (stored vs k u):=by
 unfold putK stored
 rw [r.any k]
 by_cases e:(vs.any fun kv=>decide (kv.1=k))=true
 ·rw [if_pos e,if_pos e];exact r.repl k ry
 ·rw [if_neg e,if_neg e];exact Paired.snoc r ⟨rfl,ry⟩
theorem KV.length {kvs:List (κ×V)}{vs:List (κ×Value)}(r:KV kvs vs):kvs.length=vs.length:=Paired.length r
end
theorem a2f {P:Program}{w:World}{k:Key}{u:Value}(r:RelV (kV k) u):(mixKind P w).is k u=true:=by
 cases k with
 | inl i=>obtain ⟨t,e⟩:=(show ∃t,u=Value.int i t from r);subst e;exact a3U P w i t
 | inr x=>obtain ⟨t,e⟩:=(show ∃t,u=Value.str x t from r);subst e;exact a3n P w x t
theorem X2 {P:Program}{w:World}:∀{ks:List Key} {us:List Value},Vals (ks.map kV) us->ItemsAre (mixKind P w) ks us
 | [],_,r=>by rw [List.map_nil] at r;cases r;exact .nil
 | k :: ks,_,r=>by
  rw [List.map_cons] at r
  cases r with
  | cons h t=>exact .cons (a2f h) (X2 t)
abbrev KT (H:Hp):List (List Key×V)->List (List Key×Addr×Value)->Prop:=Paired fun p q=>p.1=q.1/\H q.2.1=some (.tup (p.1.map kV))/\RelV p.2 q.2.2
theorem KT.val {H:Hp}{kvs:List (List Key×V)}{xs:List (List Key×Addr×Value)}(r:KT H kvs xs)(k:List Key):RelO (valV kvs k) ((atKey xs k).map (·.2)):=by
 induction r with
 | nil=>exact True.intro
 | @cons p q ps qs h t ih=>
  obtain ⟨h1,_,h2⟩:=h
  by_cases e:p.1=k
  ·have e':q.1=k:=h1.symm.trans e
   have b:atKey (q :: qs) k=some q.2:=by simp [atKey,List.find?_cons,e']
   rw [U3 e,b];exact h2
  ·have e':¬q.1=k:=fun z=>e (h1.trans z)
   have b:atKey (q :: qs) k=atKey qs k:=by simp [atKey,List.find?_cons,e']
   rw [M8 e,b];exact ih
theorem KT.repl {H:Hp}{kvs:List (List Key×V)}{xs:List (List Key×Addr×Value)}(r:KT H kvs xs)(k:List Key){y:V}{u:Value}(ry:RelV y u):
  KT H (kvs.map fun kv=>if kv.1=k then (kv.1,y) else kv) (xs.map (putAt k u)):=by
 induction r with
 | nil=>exact .nil
 | @cons p q ps qs h t ih=>
  rw [List.map_cons,List.map_cons]
  refine .cons ?_ ih
  obtain ⟨h1,h2,h3⟩:=h
  unfold putAt
  by_cases e:p.1=k
  ·rw [if_pos e,if_pos (h1.symm.trans e)];exact ⟨h1,h2,ry⟩
  ·rw [if_neg e,if_neg (fun z=>e (h1.trans z))];exact ⟨h1,h2,h3⟩
theorem KT.put {H:Hp}{kvs:List (List Key×V)}{xs:List (List Key×Addr×Value)}(r:KT H kvs xs)(k:List Key){b:Addr}{y:V}{u:Value}(hb:H b=some (.tup (k.map kV)))(ry:RelV y u):
  KT H (putK kvs k y) (storedH xs k b u):=by
 have e:(kvs.any fun kv=>decide (kv.1=k))=(atKey xs k).isSome:=by
  rw [a31,(r.val k).isSome_eq,Option.isSome_map]
 unfold putK storedH
 rw [e]
 by_cases q:(atKey xs k).isSome=true
 ·rw [if_pos q,if_pos q];exact r.repl k ry
 ·rw [if_neg q,if_neg q];exact Paired.snoc r ⟨rfl,hb,ry⟩
theorem KT.keeps {H H':Hp}{kvs:List (List Key×V)}{xs:List (List Key×Addr×Value)}(r:KT H kvs xs)(ht:∀b ys,H b=some (.tup ys)->H' b=some (.tup ys)):KT H' kvs xs:=
 Paired.mapP r fun _ _ z=>⟨z.1,ht _ _ z.2.1,z.2.2⟩
section
variable {P:Program}{w:World}{H:Hp}{h:Heap}{a:Addr}
theorem b1G {u:HO}(ok:HOk P w H h)(e:Rd H a u):ObjOk P w H h a u:=e.ok ok
theorem dk_rd {kvs:List (Key×V)}(ok:HOk P w H h)(e:Rd H a (.dK kvs)):kvs.length<=sizeLine/\(a == sysModules)=false/\∃vs,KV kvs vs/\h.DictOf (mixKind P w) a vs:=
 show ObjOk P w H h a (.dK kvs) from b1G ok e
theorem a3N {kvs:List (Key×V)}(ok:HOk P w H h)(e:H a=some (.dK kvs)):kvs.length<=sizeLine/\(a == sysModules)=false/\∃vs,KV kvs vs/\h.DictOf (mixKind P w) a vs:=dk_rd ok (.inl e)
theorem a40 {ks:List Key}(ok:HOk P w H h)(e:H a=some (.tup (ks.map kV))):(tupleKind (mixKind P w)).is h ks a:=by
 obtain ⟨_,its,r,o,h1,h2,⟨n,h3⟩,_⟩:=(show ObjOk P w H h a (.tup (ks.map kV)) from ok a _ e)
 exact ⟨o,its.toArray,n,h1,h2,h3,by simpa using X2 r⟩
theorem dt_rd {kvs:List (List Key×V)}(ok:HOk P w H h)(e:Rd H a (.dT kvs)):kvs.length<=sizeLine/\(a == sysModules)=false/\
  ∃xs,KT H kvs xs/\h.DictOfH (tupleKind (mixKind P w)) a xs:=by
 obtain ⟨z,y,xs,r,o,es,ep,h1,h2,h3,h4,h5⟩:=(show ObjOk P w H h a (.dT kvs) from b1G ok e)
 refine ⟨z,y,xs,r,o,es,ep,h1,h2,h3,h4,fun x hx=>?_,h5⟩
 have all:∀{l:List (List Key×V)} {m:List (List Key×Addr×Value)},KT H l m->∀x∈m,(tupleKind (mixKind P w)).is h x.1 x.2.1:=by
  intro l m q
  induction q with
  | nil=>intro x hx;exact nomatch hx
  | @cons p q ps qs hq t ih=>
   intro x hx
   rcases List.mem_cons.mp hx with e | hx
   ·subst e
    exact a40 ok (by rw [<-hq.1];exact hq.2.1)
   ·exact ih x hx
 exact all r x hx
theorem a1G {kvs:List (List Key×V)}(ok:HOk P w H h)(e:H a=some (.dT kvs)):kvs.length<=sizeLine/\(a == sysModules)=false/\
  ∃xs,KT H kvs xs/\h.DictOfH (tupleKind (mixKind P w)) a xs:=dt_rd ok (.inl e)
end
def DPut (H:Hp) (a:Addr) (y v:V) (H':Hp):Prop:=
 (∃kvs k,H a=some (.dK kvs)/\y=kV k/\kvs.length < sizeLine/\H'=upd H a (.dK (putK kvs k v)))\/
 ∃kvs k b,H a=some (.dT kvs)/\y= .ref b/\H b=some (.tup (k.map kV))/\kvs.length < sizeLine/\H'=upd H a (.dT (putK kvs k v))
theorem DPut.t {H:Hp}{a b:Addr}{kvs:List (List Key×V)}{k:List Key}{v:V}(e:H a=some (.dT kvs))(eb:H b=some (.tup (k.map kV)))(hl:kvs.length < sizeLine):
  DPut H a (.ref b) v (upd H a (.dT (putK kvs k v))):=.inr ⟨kvs,k,b,e,rfl,eb,hl,rfl⟩
section
variable {X:Cx}{pins:List (Addr×Obj)}{σ:St}{H:Hp}{s:Shared}{a:Addr}{y v:V}{u r:Value}{o:Option V}{A:Around}{E:Value->Shared->Prop}
theorem Inv.big (I:Inv X pins σ H s):sysModules < s.heap.objs.size:=by
 have h:mainGlobals < s.heap.objs.size:=(I.mod.glob.keeps I.bk).lt
 exact Nat.lt_trans (by decide) h
theorem a2B {h':Heap}{t':Nat}{ob:HO}(I:Inv X pins σ H s)(mu:Mut (H a))(hs:Heap.SameBut a s.heap h')(he:∃q,h'.get? a=some q)(new:ObjOk X.prog X.w (upd H a ob) h' a ob):
  Inv X pins σ (upd H a ob) {s with heap:=h',toks:=t'}:=
 I.write (x:=a) (e:=a) mu (.inl rfl) (fun b q hb z=>(hs.2 b hb).trans z) he new
theorem b2v {P:Program}{w:World}{H':Hp}{h':Heap}{kvs:List (Key×V)}{vs:List (Key×Value)}(z:kvs.length<=sizeLine)(hd:(a == sysModules)=false)(rel:KV kvs vs)(dd:h'.DictOf (mixKind P w) a vs):
  ObjOk P w H' h' a (.dK kvs):=⟨z,hd,vs,rel,dd⟩
theorem a6R {H':Hp}{Q:Unit->Shared->Prop}(hu:A.units + 1 < cLine)(I:Inv X pins σ H s)(g:DPut H a y v H')(ry:RelV y u)(rv:RelV v r)(h:∀s',Inv X pins σ H' s'->Q () s'):
  wpAny (model X.prog X.w) A (setItem (.ref a) u r) Q E s:=by
 rcases g with ⟨kvs,k,e,ey,l,eH⟩ | ⟨kvs,k,b,e,ey,eb,l,eH⟩
 ·subst ey eH
  obtain ⟨z,hd,vs,rel,dd⟩:=a3N I.hok e
  have hz:vs.length<=sizeLine:=by rw [<-rel.length];exact z
  have hl:(putK kvs k v).length<=sizeLine:=by have:=O0 kvs k v;walk_at "o"
  refine wpAny_setItem_pairs (hsz:=hz) (a2f ry) dd fun h' dd' hs=>h _ ?_
  have he:∃q,h'.get? a=some q:=let ⟨q,_,_,hq,_⟩:=dd';⟨q,hq⟩
  exact a2B I (by rw [e];exact True.intro) hs he (b2v hl hd (rel.put k rv) dd')
 ·subst ey eH
  cases (show u=Value.ref b from ry)
  obtain ⟨z,hd,xs,rel,dd⟩:=a1G I.hok e
  have hz:xs.length<=sizeLine:=by rw [<-Paired.length rel];exact z
  have hl:(putK kvs k v).length<=sizeLine:=by have:=O0 kvs k v;walk_at "o"
  refine wpAny_setItem_heap (hsz:=hz) (tupleKind_room_in1 hu) (a40 I.hok eb) dd fun h' dd' hs=>h _ ?_
  obtain ⟨q,es,ep,hq,h2,h3,h4,_,h5⟩:=dd'
  refine a2B I (by rw [e];exact True.intro) hs ⟨q,hq⟩ ⟨hl,hd,_,(rel.put k eb rv).keeps fun c ys ec=>?_,q,es,ep,hq,h2,h3,h4,h5⟩
  rw [c8 (b1b ec e (fun z=>nomatch z))]
  exact ec
end
section
variable {X:Cx}{pins:List (Addr×Obj)}{σ:St}{H:Hp}{s:Shared}{a:Addr}{kvs:List (Key×V)}{k:Key}{u:Value}{A:Around}{E:Value->Shared->Prop}
end
def sDPut (td ty tv:TE):TS:=fun D σ H=>tv σ H fun v H1=>td σ H1 fun x H2=>ty σ H2 fun y H3=>∃a H4,x= .ref a/\DPut H3 a y v H4/\D.nx σ H4
section
variable {X:Cx}{o i e value:Expr}{pos pos' tpos:Pos}{td ty tv:TE}
theorem b0h (hu:X.A.units + 1 < cLine)(ho:PE X o td)(hi:PE X i ty)(hv:PE X value tv)(hs:swapsWith value (some (.Subscript o i pos')) pos.line X.env=pure false):
  PS X (.Assign [.Subscript o i pos'] value pos) (sDPut td ty tv):=by
 intro pins s σ H D I h
 refine wpAny_Assign_Subscript (thn (hv pins s σ H _ I h) fun r s1 ⟨v,H1,I1,rv,q1⟩=>thn (ho pins s1 σ H1 _ I1 q1) fun u s2 ⟨x,H2,I2,rx,q2⟩=>thn (hi pins s2 σ H2 _ I2 q2) fun iv s3 ⟨y,H3,I3,ry,a,H4,ex,g,q3⟩=>?_) hs
 subst ex
 obtain rfl:u=Value.ref a:=rx
 exact a6R hu I3 g ry rv fun s4 I4=>⟨σ,H4,I4,q3⟩
end
theorem a3H {P:Program}{w:World}{H:Hp}(h:Heap)(hb:sysModules < h.objs.size):ObjOk P w H (h.push {cls:=.type "dict",data:=.dict #[]}) h.objs.size (.dT []):=
 ⟨Nat.zero_le _,beq_eq_false_iff_ne.mpr (Ne.symm (Nat.ne_of_lt hb)),[],.nil,_, #[],0,Heap.get?_push_size _ rfl,⟨rfl,rfl,rfl⟩,rfl,rfl,List.nodup_nil⟩
def tDNewT:TE:=fun _ H Q=>∀p,H p=none->Q (.ref p) (upd H p (.dT []))
section
variable {X:Cx}{pos:Pos}
theorem a8i:PE X (.Dict [] [] pos) tDNewT:=fun pins s σ H Q I h=>
 wpAny_Dict_empty ⟨.ref s.heap.objs.size,_,I.laid (a:=s.heap.objs.size) (o:=.dT []) (t':=s.toks) (fun _ _ q=>Heap.get?_push_of_some _ q) (Nat.le_refl _) (a3H s.heap I.big),rfl,h _ (I.hok.fresh (Nat.le_refl _))⟩
end
end L2
set_option maxHeartbeats 1000000
namespace Z
open PySem PySem.Spec PyProof.Rows L2
theorem obs {α β:Type}{o:Option α}{k:α->Option β}{y:β}(h:o.bind k=some y):∃a,o=some a/\k a=some y:=Option.bind_eq_some_iff.mp h
theorem oms {α β:Type}{o:Option α}{k:α->β}{y:β}(h:o.map k=some y):∃a,o=some a/\k a=y:=Option.map_eq_some_iff.mp h
set_option genInjectivity true in
inductive D where
 | non | bl (b:Bool) | int (i:Int) | str (x:Str) | tup (xs:List D) | lst (xs:List D) | dT (ks:List (List Key)) (xs:List D) | dK (ks:List Key) (xs:List D) | exn (C:Addr)
set_option genInjectivity true in
inductive W where
 | v (d:D) | o (d:D) | l (d:D) | r (i:Nat)
abbrev Ev:=List (Option W)
abbrev Av:=Addr->Prop
def ExcAt (a C:Addr) (h:Heap):Prop:=∃o vs,h.get? a=some o/\o.cls= .ref C/\o.data= .fields vs
def Mu:HO->Prop
 | .lst _=>True
 | .dT _=>True
 | .dK _=>True
 | _=>False
abbrev Emp:Hp:=fun _=>none
mutual
def Den (K:PySem.W.Frag) (A:Av) (H:Hp):D->V->Prop
 | .non,v=>v= .non
 | .bl b,v=>v= .bl b
 | .int i,v=>v= .int i
 | .str x,v=>v= .str x
 | .tup xs,v=>∃a vs,v= .ref a/\SqT K H a vs/\DenL K A H xs vs
 | .lst xs,v=>∃a vs,v= .ref a/\((H a=some (.lst vs)/\¬A a)\/(∃o,H a=some (.frz o (.lst vs)))\/SqL K Emp a vs)/\DenL K A H xs vs
 | .dT ks xs,v=>∃a vs,v= .ref a/\(H a=some (.dT (ks.zip vs))/\¬A a)/\ks.length=xs.length/\DenL K A H xs vs
 | .dK ks xs,v=>∃a vs,v= .ref a/\(H a=some (.dK (ks.zip vs))/\¬A a)/\ks.length=xs.length/\DenL K A H xs vs
 | .exn C,v=>∃a,v= .ref a/\H a=some (.ext (ExcAt a C))
def DenL (K:PySem.W.Frag) (A:Av) (H:Hp):List D->List V->Prop
 | [],vs=>vs=[]
 | d :: ds,vs=>∃v r,vs=v :: r/\Den K A H d v/\DenL K A H ds r
end
section
variable {K:PySem.W.Frag}{A A' M:Av}{H H':Hp}
structure Go (A A' M:Av) (H H':Hp):Prop where
 k:∀b o,H b=some o->¬M b->H' b=some o
 m:∀b,M b->A b/\∃u,H b=some u/\Mu u
 n:∀b,A' b->A b\/H b=none
theorem Go.not (g:Go A A' M H H'){b:Addr}{u:HO}(e:H b=some u)(n:¬Mu u):H' b=some u:=g.k b u e fun z=>by
 obtain ⟨_,u',e',m⟩:=g.m b z;rw [e] at e';cases e';exact n m
theorem Go.lone (g:Go A A' M H H'){b:Addr}{u:HO}(h:H b=some u/\¬A b):H' b=some u/\¬A' b:=
 ⟨g.k b u h.1 fun z=>h.2 (g.m b z).1,fun z=>(g.n b z).elim h.2 fun z=>by rw [h.1] at z;cases z⟩
mutual
theorem m7 (g:Go A A' M H H'):∀(d:D) (v:V),Den K A H d v->Den K A' H' d v
 | .non,v,h=>by rw [Den] at h ⊢;exact h
 | .bl b,v,h=>by rw [Den] at h ⊢;exact h
 | .int i,v,h=>by rw [Den] at h ⊢;exact h
 | .str x,v,h=>by rw [Den] at h ⊢;exact h
 | .tup xs,v,h=>by
  rw [Den] at h ⊢
  obtain ⟨a,vs,e,q,l⟩:=h
  refine ⟨a,vs,e,?_,q8 g xs vs l⟩
  rcases q with (q | ⟨o,q⟩) | q
  ·exact .inl (.inl (g.not q id))
  ·exact .inl (.inr ⟨o,g.not q id⟩)
  ·exact .inr q
 | .lst xs,v,h=>by
  rw [Den] at h ⊢
  obtain ⟨a,vs,e,q,l⟩:=h
  refine ⟨a,vs,e,?_,q8 g xs vs l⟩
  rcases q with q | ⟨o,q⟩ | q
  ·exact .inl (g.lone q)
  ·exact .inr (.inl ⟨o,g.not q id⟩)
  ·exact .inr (.inr q)
 | .dT ks xs,v,h=>by
  rw [Den] at h ⊢
  obtain ⟨a,vs,e,q,hl,l⟩:=h
  exact ⟨a,vs,e,g.lone q,hl,q8 g xs vs l⟩
 | .dK ks xs,v,h=>by
  rw [Den] at h ⊢
  obtain ⟨a,vs,e,q,hl,l⟩:=h
  exact ⟨a,vs,e,g.lone q,hl,q8 g xs vs l⟩
 | .exn C,v,h=>by
  rw [Den] at h ⊢
  obtain ⟨a,e,q⟩:=h
  exact ⟨a,e,g.not q id⟩
theorem q8 (g:Go A A' M H H'):∀(ds:List D) (vs:List V),DenL K A H ds vs->DenL K A' H' ds vs
 | [],vs,h=>by rw [DenL] at h ⊢;exact h
 | d :: ds,vs,h=>by
  rw [DenL] at h ⊢
  obtain ⟨v,r,e,q,l⟩:=h
  exact ⟨v,r,e,m7 g d v q,q8 g ds r l⟩
end
theorem a26 (s:Same H H'):Go A A (fun _=>False) H H':=⟨fun b o e _=>s b o e,fun _ z=>z.elim,fun _ z=>.inl z⟩
theorem w4 (h:∀b,A' b->A b):Go A A' (fun _=>False) H H:=⟨fun _ _ e _=>e,fun _ z=>z.elim,fun b z=>.inl (h b z)⟩
theorem T9 (s:Same H H'){d:D}{v:V}(h:Den K A H d v):Den K A H' d v:=m7 (a26 s) d v h
theorem a6t (s:Same H H'){d:List D}{v:List V}(h:DenL K A H d v):DenL K A H' d v:=q8 (a26 s) d v h
theorem g8 {d:D}{ds:List D}{v:V}{vs:List V}(h:Den K A H d v)(t:DenL K A H ds vs):DenL K A H (d :: ds) (v :: vs):=by rw [DenL];exact ⟨v,vs,rfl,h,t⟩
theorem j4:DenL K A H [] []:=by rw [DenL]
theorem t3:∀{ds es:List D} {vs ws:List V},DenL K A H ds vs->DenL K A H es ws->DenL K A H (ds ++ es) (vs ++ ws)
 | [],_,_,_,h,t=>by rw [DenL] at h;subst h;exact t
 | d :: ds,_,_,_,h,t=>by
  rw [DenL] at h
  obtain ⟨v,r,rfl,q,l⟩:=h
  exact g8 q (t3 l t)
theorem c5:∀{ds:List D} {vs:List V},DenL K A H ds vs->ds.length=vs.length
 | [],_,h=>by rw [DenL] at h;subst h;rfl
 | d :: ds,_,h=>by
  rw [DenL] at h
  obtain ⟨v,r,rfl,q,l⟩:=h
  rw [List.length_cons,List.length_cons,c5 l]
theorem v4:∀{ds:List D} {vs:List V} {i:Nat} {d:D},DenL K A H ds vs->ds[i]? =some d->∃v,vs[i]? =some v/\Den K A H d v
 | [],_,_,_,_,e=>by simp at e
 | d :: ds,_,0,_,h,e=>by
  rw [DenL] at h
  obtain ⟨v,r,rfl,q,l⟩:=h
  simp at e;subst e
  exact ⟨v,rfl,q⟩
 | d :: ds,_,i + 1,x,h,e=>by
  rw [DenL] at h
  obtain ⟨v,r,rfl,q,l⟩:=h
  obtain ⟨u,h1,h2⟩:=v4 (i:=i) (d:=x) l (by simpa using e)
  exact ⟨u,by simpa using h1,h2⟩
theorem a4b {d:D}{v:V}(hd:Den K A H d v):∀{ds:List D} {vs:List V} (i:Nat),DenL K A H ds vs->DenL K A H (ds.set i d) (vs.set i v)
 | [],_,_,h=>by rw [DenL] at h;subst h;exact j4
 | _ :: _,_,0,h=>by
  rw [DenL] at h
  obtain ⟨v,r,rfl,q,l⟩:=h
  exact g8 hd l
 | _ :: _,_,i + 1,h=>by
  rw [DenL] at h
  obtain ⟨v,r,rfl,q,l⟩:=h
  exact g8 q (a4b hd i l)
theorem a1S:∀{ds:List D} {vs:List V} (n:Nat),DenL K A H ds vs->DenL K A H (ds.take n) (vs.take n)
 | [],_,n,h=>by rw [DenL] at h;subst h;simp;exact j4
 | d :: ds,_,0,h=>by simp;exact j4
 | d :: ds,_,n + 1,h=>by
  rw [DenL] at h
  obtain ⟨v,r,rfl,q,l⟩:=h
  exact g8 q (a1S n l)
theorem a1J:∀{ds:List D} {vs:List V} (n:Nat),DenL K A H ds vs->DenL K A H (ds.drop n) (vs.drop n)
 | [],_,n,h=>by rw [DenL] at h;subst h;simp;exact j4
 | d :: ds,_,0,h=>h
 | d :: ds,_,n + 1,h=>by
  rw [DenL] at h
  obtain ⟨v,r,rfl,q,l⟩:=h
  exact a1J n l
theorem v3 {i:Int}{v:V}:Den K A H (.int i) v↔v= .int i:=by rw [Den]
theorem a05 {i:Bool}{v:V}:Den K A H (.bl i) v↔v= .bl i:=by rw [Den]
theorem a9V {v:V}:Den K A H .non v↔v= .non:=by rw [Den]
theorem a24 {i:Str}{v:V}:Den K A H (.str i) v↔v= .str i:=by rw [Den]
theorem denL1 {d:D}{vs:List V}(l:DenL K A H [d] vs):∃v,vs=[v]/\Den K A H d v:=by
 rw [DenL] at l;obtain ⟨v,r,rfl,h,l⟩:=l;rw [DenL] at l;subst l;exact ⟨v,rfl,h⟩
theorem denL2 {d e:D}{vs:List V}(l:DenL K A H [d,e] vs):∃v u,vs=[v,u]/\Den K A H d v/\Den K A H e u:=by
 rw [DenL] at l;obtain ⟨v,r,rfl,h,l⟩:=l;obtain ⟨u,rfl,h'⟩:=denL1 l;exact ⟨v,u,rfl,h,h'⟩
end
mutual
def lf:D->Bool
 | .tup xs=>lfL xs
 | .lst _=>false
 | .dT _ _=>false
 | .dK _ _=>false
 | _=>true
def lfL:List D->Bool
 | []=>true
 | d :: ds=>lf d && lfL ds
end
section
variable {K:PySem.W.Frag}{A A':Av}{H H':Hp}
mutual
theorem a8b (g:∀b o,H b=some o->¬Mu o->H' b=some o):∀(d:D) (v:V),lf d=true->Den K A H d v->Den K A' H' d v
 | .non,v,_,h=>by rw [Den] at h ⊢;exact h
 | .bl b,v,_,h=>by rw [Den] at h ⊢;exact h
 | .int i,v,_,h=>by rw [Den] at h ⊢;exact h
 | .str x,v,_,h=>by rw [Den] at h ⊢;exact h
 | .tup xs,v,f,h=>by
  rw [Den] at h ⊢
  obtain ⟨a,vs,e,q,l⟩:=h
  refine ⟨a,vs,e,?_,V5 g xs vs (by rw [lf] at f;exact f) l⟩
  rcases q with (q | ⟨o,q⟩) | q
  ·exact .inl (.inl (g _ _ q id))
  ·exact .inl (.inr ⟨o,g _ _ q id⟩)
  ·exact .inr q
 | .lst xs,v,f,h=>by rw [lf] at f;cases f
 | .dT _ xs,v,f,h=>by rw [lf] at f;cases f
 | .dK _ xs,v,f,h=>by rw [lf] at f;cases f
 | .exn _,v,_,h=>by rw [Den] at h ⊢;obtain ⟨a,e,q⟩:=h;exact ⟨a,e,g _ _ q id⟩
theorem V5 (g:∀b o,H b=some o->¬Mu o->H' b=some o):∀(d:List D) (v:List V),lfL d=true->DenL K A H d v->DenL K A' H' d v
 | [],v,_,h=>by rw [DenL] at h ⊢;exact h
 | d :: ds,v,f,h=>by
  rw [lfL,Bool.and_eq_true] at f
  rw [DenL] at h ⊢
  obtain ⟨u,r,e,q,l⟩:=h
  exact ⟨u,r,e,a8b g d u f.1 q,V5 g ds r f.2 l⟩
end
end
def Obj (K:PySem.W.Frag) (A:Av) (H:Hp) (a:Addr):D->Prop
 | .lst xs=>∃vs,H a=some (.lst vs)/\DenL K A H xs vs
 | .dT ks xs=>∃vs,H a=some (.dT (ks.zip vs))/\ks.length=xs.length/\DenL K A H xs vs
 | .dK ks xs=>∃vs,H a=some (.dK (ks.zip vs))/\ks.length=xs.length/\DenL K A H xs vs
 | _=>False
def DenR (K:PySem.W.Frag) (A:Av) (H:Hp):D->V->Prop
 | .lst xs,v=>∃a vs,v= .ref a/\SqL K H a vs/\DenL K A H xs vs
 | .dT ks xs,v=>∃a vs,v= .ref a/\H a=some (.dT (ks.zip vs))/\ks.length=xs.length/\DenL K A H xs vs
 | .dK ks xs,v=>∃a vs,v= .ref a/\H a=some (.dK (ks.zip vs))/\ks.length=xs.length/\DenL K A H xs vs
 | d,v=>Den K A H d v
section
variable {K:PySem.W.Frag}{A A' M:Av}{H H':Hp}{d:D}{v:V}{a:Addr}
theorem t4 (g:Go A A' M H H')(hk:H' a=H a)(h:Obj K A H a d):Obj K A' H' a d:=by
 cases d with
 | lst xs=>obtain ⟨vs,e,l⟩:=h;exact ⟨vs,hk.trans e,q8 g _ _ l⟩
 | dT ks xs=>obtain ⟨vs,e,hl,l⟩:=h;exact ⟨vs,hk.trans e,hl,q8 g _ _ l⟩
 | dK ks xs=>obtain ⟨vs,e,hl,l⟩:=h;exact ⟨vs,hk.trans e,hl,q8 g _ _ l⟩
 | _=>exact h
theorem v5 (h:Obj K A H a d):∃u,H a=some u/\Mu u:=by
 cases d with
 | lst xs=>obtain ⟨vs,e,l⟩:=h;exact ⟨_,e,trivial⟩
 | dT ks xs=>obtain ⟨vs,e,hl,l⟩:=h;exact ⟨_,e,trivial⟩
 | dK ks xs=>obtain ⟨vs,e,hl,l⟩:=h;exact ⟨_,e,trivial⟩
 | _=>exact h.elim
theorem J1 (h:Obj K A H a d)(n:¬A a):Den K A H d (.ref a):=by
 cases d with
 | lst xs=>obtain ⟨vs,e,l⟩:=h;rw [Den];exact ⟨a,vs,rfl,.inl ⟨e,n⟩,l⟩
 | dT ks xs=>obtain ⟨vs,e,hl,l⟩:=h;rw [Den];exact ⟨a,vs,rfl,⟨e,n⟩,hl,l⟩
 | dK ks xs=>obtain ⟨vs,e,hl,l⟩:=h;rw [Den];exact ⟨a,vs,rfl,⟨e,n⟩,hl,l⟩
 | _=>exact h.elim
theorem obj_r (h:Obj K A H a d):DenR K A H d (.ref a):=by
 cases d with
 | lst xs=>obtain ⟨vs,e,l⟩:=h;exact ⟨a,vs,rfl,.inl (.inl e),l⟩
 | dT ks xs=>obtain ⟨vs,e,hl,l⟩:=h;exact ⟨a,vs,rfl,e,hl,l⟩
 | dK ks xs=>obtain ⟨vs,e,hl,l⟩:=h;exact ⟨a,vs,rfl,e,hl,l⟩
 | _=>exact h.elim
theorem E8 (h:Den K A H d v):DenR K A H d v:=by
 cases d with
 | lst xs=>
  rw [Den] at h
  obtain ⟨a,vs,e,q,l⟩:=h
  refine ⟨a,vs,e,?_,l⟩
  rcases q with q | ⟨o,q⟩ | (q | ⟨o,q⟩) | q
  ·exact .inl (.inl q.1)
  ·exact .inl (.inr ⟨o,q⟩)
  ·cases q
  ·cases q
  ·exact .inr q
 | dT ks xs=>rw [Den] at h;obtain ⟨a,vs,e,q,l⟩:=h;exact ⟨a,vs,e,q.1,l⟩
 | dK ks xs=>rw [Den] at h;obtain ⟨a,vs,e,q,l⟩:=h;exact ⟨a,vs,e,q.1,l⟩
 | _=>exact h
end
def W.own:W->Option D
 | .o d=>some d
 | .l d=>some d
 | _=>none
def Ow (ρ:Ev) (σ:L2.St):Av:=fun b=>∃(i:Nat) (w:W) (d:D),ρ[i]? =some (some w)/\w.own=some d/\σ[i]? =some (some (V.ref b))
abbrev AvO (O:Av) (ρ:Ev) (σ:L2.St):Av:=fun b=>O b\/Ow ρ σ b
def SlotOk (K:PySem.W.Frag) (A:Av) (H:Hp):W->V->Prop
 | .v d,v=>Den K A H d v
 | .o d,v=>∃a,v= .ref a/\Obj K A H a d
 | .l d,v=>∃a,v= .ref a/\Obj K A H a d
 | .r _,_=>False
structure Rep (X:Cx) (P:List (D×V)) (O:Av) (L:List (Nat×Addr)) (ρ:Ev) (σ:L2.St) (H:Hp):Prop where
 same:∀b o,X.H₀ b=some o->(∀i,(i,b)∉L)->H b=some o
 amb:∀b,O b->(∃o,X.H₀ b=some o)/\∀i,(i,b)∉L
 len:ρ.length=σ.length
 slot:∀(i:Nat) (w:W),ρ[i]? =some (some w)->∃v,σ[i]? =some (some v)/\SlotOk X.K (AvO O ρ σ) H w v
 inj:∀(i j:Nat) (w w':W) (d d':D) (b:Addr),ρ[i]? =some (some w)->w.own=some d->σ[i]? =some (some (.ref b))->ρ[j]? =some (some w')->w'.own=some d'->σ[j]? =some (some (.ref b))->i=j
 new:∀(i:Nat) (d:D) (b:Addr),ρ[i]? =some (some (.o d))->σ[i]? =some (some (.ref b))->X.H₀ b=none
 lnt:∀(i:Nat) (d:D),ρ[i]? =some (some (.l d))->∃b,σ[i]? =some (some (.ref b))/\(i,b)∈L
 lnd:∀(i:Nat) (b:Addr),(i,b)∈L->∃d,ρ[i]? =some (some (.l d))/\σ[i]? =some (some (.ref b))
 prot:∀p∈P,Den X.K (AvO O ρ σ) H p.1 p.2
section
variable {X:Cx}{P:List (D×V)}{O:Av}{L:List (Nat×Addr)}{ρ:Ev}{σ:L2.St}{H H':Hp}
theorem a4Z {K:PySem.W.Frag}{A:Av}{H:Hp}{w:W}{d:D}{v:V}(h:SlotOk K A H w v)(e:w.own=some d):∃a,v= .ref a/\Obj K A H a d:=by
 cases w <;> simp only [W.own] at e <;> first | (cases e;exact h) | cases e
theorem Rep.obj (r:Rep X P O L ρ σ H){i:Nat}{w:W}{d:D}(e:ρ[i]? =some (some w))(ew:w.own=some d):∃a,σ[i]? =some (some (.ref a))/\Obj X.K (AvO O ρ σ) H a d:=by
 obtain ⟨v,h1,h2⟩:=r.slot i w e
 obtain ⟨a,rfl,h3⟩:=a4Z h2 ew
 exact ⟨a,h1,h3⟩
theorem Rep.owMu (r:Rep X P O L ρ σ H){b:Addr}(z:Ow ρ σ b):∃u,H b=some u/\Mu u:=by
 obtain ⟨i,w,d,e1,e2,e3⟩:=z
 obtain ⟨a,h1,h2⟩:=r.obj e1 e2
 rw [e3] at h1;cases h1
 exact v5 h2
theorem Rep.ambN (r:Rep X P O L ρ σ H){b:Addr}(z:O b):¬Ow ρ σ b:=fun ⟨i,w,d,e1,e2,e3⟩=>by
 obtain ⟨⟨o,h0⟩,hl⟩:=r.amb b z
 cases w with
 | o d'=>have:=r.new i d' b e1 e3;rw [h0] at this;cases this
 | l d'=>obtain ⟨c,h1,h2⟩:=r.lnt i d' e1;rw [e3] at h1;cases h1;exact hl i h2
 | _=>cases e2
theorem Rep.there (r:Rep X P O L ρ σ H){b:Addr}(z:AvO O ρ σ b):∃o,H b=some o:=by
 rcases z with z | z
 ·obtain ⟨⟨o,h0⟩,hl⟩:=r.amb b z;exact ⟨o,r.same b o h0 hl⟩
 ·obtain ⟨u,e,_⟩:=r.owMu z;exact ⟨u,e⟩
theorem Rep.fresh (r:Rep X P O L ρ σ H){b:Addr}(n:H b=none):¬AvO O ρ σ b:=fun z=>by obtain ⟨o,e⟩:=r.there z;rw [n] at e;cases e
theorem Rep.fresh0 (r:Rep X P O L ρ σ H){b:Addr}(n:H b=none):X.H₀ b=none:=by
 cases q:X.H₀ b with
 | none=>rfl
 | some o=>
  have:H b=some o:=r.same b o q fun i e=>by
   obtain ⟨d,h1,h2⟩:=r.lnd i b e
   obtain ⟨a,h3,h4⟩:=r.obj h1 rfl
   rw [h2] at h3;cases h3
   obtain ⟨u,e,_⟩:=v5 h4
   rw [n] at e;cases e
  rw [n] at this;cases this
theorem D1 {K:PySem.W.Frag}{A A' M:Av}{H H':Hp}(g:Go A A' M H H'){w:W}{v:V}(hk:∀a d,w.own=some d->v= .ref a->H' a=H a)(h:SlotOk K A H w v):SlotOk K A' H' w v:=by
 cases w with
 | v d=>exact m7 g _ _ h
 | o d=>obtain ⟨a,e,q⟩:=h;exact ⟨a,e,t4 g (hk a d rfl e) q⟩
 | l d=>obtain ⟨a,e,q⟩:=h;exact ⟨a,e,t4 g (hk a d rfl e) q⟩
 | r i=>exact h
theorem Rep.grow (r:Rep X P O L ρ σ H)(s:Same H H'):Rep X P O L ρ σ H' where
 same:=fun b o e hl=>s b o (r.same b o e hl)
 amb:=r.amb
 len:=r.len
 slot:=fun i w e=>by
  obtain ⟨v,h1,h2⟩:=r.slot i w e
  refine ⟨v,h1,D1 (a26 s) (fun a d ew ev=>?_) h2⟩
  subst ev
  obtain ⟨b,h3,h4⟩:=r.obj e ew
  rw [h1] at h3;cases h3
  obtain ⟨u,eu,_⟩:=v5 h4
  rw [eu,s _ _ eu]
 inj:=r.inj
 new:=r.new
 lnt:=r.lnt
 lnd:=r.lnd
 prot:=fun p hp=>T9 s (r.prot p hp)
theorem Rep.more {p:D×V}(r:Rep X P O L ρ σ H)(h:Den X.K (AvO O ρ σ) H p.1 p.2):Rep X (p :: P) O L ρ σ H:=
 ⟨r.same,r.amb,r.len,r.slot,r.inj,r.new,r.lnt,r.lnd,fun q hq=>(List.mem_cons.mp hq).elim (fun e=>by rw [e];exact h) (r.prot q)⟩
theorem Rep.less {p:D×V}(r:Rep X (p :: P) O L ρ σ H):Rep X P O L ρ σ H:=
 ⟨r.same,r.amb,r.len,r.slot,r.inj,r.new,r.lnt,r.lnd,fun q hq=>r.prot q (List.mem_cons_of_mem _ hq)⟩
theorem Rep.head {p:D×V}(r:Rep X (p :: P) O L ρ σ H):Den X.K (AvO O ρ σ) H p.1 p.2:=r.prot p List.mem_cons_self
theorem l7 {α:Type}{l:List α}{i j:Nat}{x y:α}(e:(l.set i x)[j]? =some y):(j=i/\y=x/\i < l.length)\/(j≠i/\l[j]? =some y):=by
 by_cases q:i=j
 ·subst q
  rw [List.getElem?_set,if_pos rfl] at e
  split at e
  ·cases e;rename_i h;exact .inl ⟨rfl,rfl,h⟩
  ·cases e
 ·rw [List.getElem?_set_ne q] at e;exact .inr ⟨Ne.symm q,e⟩
theorem n8 {α:Type}{l:List α}{i:Nat}{x:α}(h:i < l.length):(l.set i x)[i]? =some x:=by rw [List.getElem?_set,if_pos rfl,if_pos h]
def freeSlot (ρ:Ev) (i:Nat):Bool:=match ρ[i]? with
 | some (some (.l _))=>false
 | _=>true
theorem Rep.put (r:Rep X P O L ρ σ H){i:Nat}{d:D}{v:V}(hf:freeSlot ρ i=true)(h:Den X.K (AvO O ρ σ) H d v):Rep X P O L (ρ.set i (some (.v d))) (σ.set i (some v)) H:=by
 have sub:∀b,AvO O (ρ.set i (some (.v d))) (σ.set i (some v)) b->AvO O ρ σ b:=fun b z=>by
  rcases z with z | ⟨j,w,c,e1,e2,e3⟩
  ·exact .inl z
  ·rcases l7 e1 with ⟨rfl,z,_⟩ | ⟨n,e1⟩
   ·cases z;cases e2
   ·rw [List.getElem?_set_ne (Ne.symm n)] at e3;exact .inr ⟨j,w,c,e1,e2,e3⟩
 have g:=w4 (H:=H) sub
 have st:∀{j:Nat} {w:W} {c:D},(ρ.set i (some (.v d)))[j]? =some (some w)->w.own=some c->j≠i/\ρ[j]? =some (some w):=fun {j w c} e1 e2=>by
  rcases l7 e1 with ⟨rfl,z,_⟩ | z
  ·cases z;cases e2
  ·exact z
 refine ⟨r.same,r.amb,by rw [List.length_set,List.length_set];exact r.len,fun j w e=>?_,fun j k w w' c c' b e1 e2 e3 e4 e5 e6=>?_,fun j c b e1 e2=>?_,fun j c e=>?_,fun j b e=>?_,fun p hp=>m7 g _ _ (r.prot p hp)⟩
 ·rcases l7 e with ⟨rfl,z,hl⟩ | ⟨n,e⟩
  ·cases z;exact ⟨v,n8 (by rw [<-r.len];exact hl),m7 g _ _ h⟩
  ·obtain ⟨u,h1,h2⟩:=r.slot j w e
   exact ⟨u,by rw [List.getElem?_set_ne (Ne.symm n)];exact h1,D1 g (fun _ _ _ _=>rfl) h2⟩
 ·obtain ⟨n1,e1⟩:=st e1 e2
  obtain ⟨n2,e4⟩:=st e4 e5
  rw [List.getElem?_set_ne (Ne.symm n1)] at e3
  rw [List.getElem?_set_ne (Ne.symm n2)] at e6
  exact r.inj j k w w' c c' b e1 e2 e3 e4 e5 e6
 ·obtain ⟨n1,e1⟩:=st (c:=c) e1 rfl
  rw [List.getElem?_set_ne (Ne.symm n1)] at e2
  exact r.new j c b e1 e2
 ·obtain ⟨n1,e1⟩:=st (c:=c) e rfl
  rw [List.getElem?_set_ne (Ne.symm n1)]
  exact r.lnt j c e1
 ·obtain ⟨c,h1,h2⟩:=r.lnd j b e
  have n:i≠j:=fun z=>by subst z;unfold freeSlot at hf;rw [h1] at hf;cases hf
  exact ⟨c,by rw [List.getElem?_set_ne n];exact h1,by rw [List.getElem?_set_ne n];exact h2⟩
theorem Rep.putO (r:Rep X P O L ρ σ H)(s:Same H H'){i:Nat}{d:D}{a:Addr}(hf:freeSlot ρ i=true)(hn:H a=none)(h:Obj X.K (fun b=>AvO O ρ σ b\/b=a) H' a d):Rep X P O L (ρ.set i (some (.o d))) (σ.set i (some (.ref a))) H':=by
 have nA:=r.fresh hn
 have sub:∀b,AvO O (ρ.set i (some (.o d))) (σ.set i (some (.ref a))) b->AvO O ρ σ b\/b=a:=fun b z=>by
  rcases z with z | ⟨j,w,c,e1,e2,e3⟩
  ·exact .inl (.inl z)
  ·rcases l7 e1 with ⟨rfl,z,hl⟩ | ⟨n,e1⟩
   ·rw [n8 (by rw [<-r.len];exact hl)] at e3;cases e3;exact .inr rfl
   ·rw [List.getElem?_set_ne (Ne.symm n)] at e3;exact .inl (.inr ⟨j,w,c,e1,e2,e3⟩)
 have g:Go (AvO O ρ σ) (AvO O (ρ.set i (some (.o d))) (σ.set i (some (.ref a)))) (fun _=>False) H H':=⟨fun b o e _=>s b o e,fun _ z=>z.elim,fun b z=>(sub b z).imp id fun z=>by rw [z];exact hn⟩
 have old:∀{j:Nat} {w:W} {b:Addr},ρ[j]? =some (some w)->σ[j]? =some (some (.ref b))->w.own≠none->b≠a:=fun {j w b} e1 e2 e3 z=>by
  cases q:w.own with
  | none=>exact e3 q
  | some c=>exact nA (.inr ⟨j,w,c,e1,q,by rw [<-z];exact e2⟩)
 refine ⟨fun b o e hl=>s b o (r.same b o e hl),r.amb,by rw [List.length_set,List.length_set];exact r.len,fun j w e=>?_,fun j k w w' c c' b e1 e2 e3 e4 e5 e6=>?_,fun j c b e1 e2=>?_,fun j c e=>?_,fun j b e=>?_,fun p hp=>m7 g _ _ (r.prot p hp)⟩
 ·rcases l7 e with ⟨rfl,z,hl⟩ | ⟨n,e⟩
  ·cases z;exact ⟨.ref a,n8 (by rw [<-r.len];exact hl),a,rfl,t4 (w4 sub) rfl h⟩
  ·obtain ⟨u,h1,h2⟩:=r.slot j w e
   refine ⟨u,by rw [List.getElem?_set_ne (Ne.symm n)];exact h1,D1 g (fun b c ec eb=>?_) h2⟩
   subst eb
   obtain ⟨o,eo,_⟩:=r.owMu ⟨j,w,c,e,ec,h1⟩
   rw [eo,s _ _ eo]
 ·rcases l7 e1 with ⟨rfl,z,hl⟩ | ⟨n1,e1⟩
  ·rw [n8 (by rw [<-r.len];exact hl)] at e3;cases e3
   rcases l7 e4 with ⟨rfl,_,_⟩ | ⟨n2,e4⟩
   ·rfl
   ·rw [List.getElem?_set_ne (Ne.symm n2)] at e6
    exact absurd rfl (old e4 e6 (by rw [e5];exact nofun))
  ·rw [List.getElem?_set_ne (Ne.symm n1)] at e3
   have f1:=old e1 e3 (by rw [e2];exact nofun)
   rcases l7 e4 with ⟨rfl,_,hl⟩ | ⟨n2,e4⟩
   ·rw [n8 (by rw [<-r.len];exact hl)] at e6;cases e6
    exact absurd rfl f1
   ·rw [List.getElem?_set_ne (Ne.symm n2)] at e6
    exact r.inj j k w w' c c' b e1 e2 e3 e4 e5 e6
 ·rcases l7 e1 with ⟨rfl,z,hl⟩ | ⟨n1,e1⟩
  ·rw [n8 (by rw [<-r.len];exact hl)] at e2;cases e2;exact r.fresh0 hn
  ·rw [List.getElem?_set_ne (Ne.symm n1)] at e2;exact r.new j c b e1 e2
 ·rcases l7 e with ⟨rfl,z,hl⟩ | ⟨n1,e⟩
  ·cases z
  ·rw [List.getElem?_set_ne (Ne.symm n1)];exact r.lnt j c e
 ·obtain ⟨c,h1,h2⟩:=r.lnd j b e
  have n:i≠j:=fun z=>by subst z;unfold freeSlot at hf;rw [h1] at hf;cases hf
  exact ⟨c,by rw [List.getElem?_set_ne n];exact h1,by rw [List.getElem?_set_ne n];exact h2⟩
def setOwn (ρ:Ev) (i:Nat) (d:D):Ev:=match ρ[i]? with
 | some (some (.l _))=>ρ.set i (some (.l d))
 | _=>ρ.set i (some (.o d))
def ownAt (ρ:Ev) (i:Nat):Option D:=match ρ[i]? with
 | some (some w)=>w.own
 | _=>none
theorem n9 {ρ:Ev}{i:Nat}{c:D}(e:ownAt ρ i=some c):∃w,ρ[i]? =some (some w)/\w.own=some c:=by
 unfold ownAt at e
 split at e
 ·rename_i w q;exact ⟨w,q,e⟩
 ·cases e
theorem a0P {ρ:Ev}{i:Nat}{c d:D}(e:ownAt ρ i=some c):∃w,w.own=some d/\setOwn ρ i d=ρ.set i (some w)/\((∃x,w= .l x)↔∃x,ρ[i]? =some (some (.l x))):=by
 obtain ⟨w,q,e⟩:=n9 e
 unfold setOwn
 cases w with
 | v d=>cases e
 | r d=>cases e
 | o x=>rw [q];exact ⟨.o d,rfl,rfl,by simp⟩
 | l x=>rw [q];exact ⟨.l d,rfl,rfl,by simp⟩
theorem Z2 {ρ:Ev}{σ:L2.St}{i:Nat}{c d:D}(e:ownAt ρ i=some c)(b:Addr):Ow (setOwn ρ i d) σ b↔Ow ρ σ b:=by
 obtain ⟨w,h1,h2,_⟩:=a0P (d:=d) e
 obtain ⟨w0,q,e0⟩:=n9 e
 rw [h2]
 constructor
 ·rintro ⟨j,w',c',e1,e2,e3⟩
  rcases l7 e1 with ⟨rfl,z,_⟩ | ⟨n,e1⟩
  ·exact ⟨j,w0,c,q,e0,e3⟩
  ·exact ⟨j,w',c',e1,e2,e3⟩
 ·rintro ⟨j,w',c',e1,e2,e3⟩
  by_cases n:j=i
  ·subst n
   exact ⟨j,w,d,n8 (List.getElem?_eq_some_iff.mp q).1,h1,e3⟩
  ·exact ⟨j,w',c',by rw [List.getElem?_set_ne (Ne.symm n)];exact e1,e2,e3⟩
theorem Rep.mut (r:Rep X P O L ρ σ H){i:Nat}{a:Addr}{c d:D}(e:ownAt ρ i=some c)(ea:σ[i]? =some (some (.ref a)))(hk:∀b o,H b=some o->b≠a->H' b=some o)(h:Obj X.K (AvO O ρ σ) H' a d):
  Rep X P O L (setOwn ρ i d) σ H':=by
 obtain ⟨w,h1,h2,h3⟩:=a0P (d:=d) e
 obtain ⟨w0,q,e0⟩:=n9 e
 have av:AvO O (setOwn ρ i d) σ=AvO O ρ σ:=funext fun b=>propext (or_congr Iff.rfl (Z2 e b))
 have ma:Ow ρ σ a:=⟨i,w0,c,q,e0,ea⟩
 have g:Go (AvO O ρ σ) (AvO O ρ σ) (fun b=>b=a) H H':=⟨hk,fun b z=>by rw [z];exact ⟨.inr ma,r.owMu ma⟩,fun b z=>.inl z⟩
 have st:∀{j:Nat} {w':W} {c':D},(setOwn ρ i d)[j]? =some (some w')->w'.own=some c'->∃w'' c'',ρ[j]? =some (some w'')/\w''.own=some c'':=fun {j w' c'} e1 e2=>by
  rw [h2] at e1
  rcases l7 e1 with ⟨rfl,_,_⟩ | ⟨_,e1⟩
  ·exact ⟨w0,c,q,e0⟩
  ·exact ⟨w',c',e1,e2⟩
 refine ⟨fun b o eb hl=>hk b o (r.same b o eb hl) fun z=>?_,r.amb,by rw [h2,List.length_set];exact r.len,fun j w' e'=>?_,fun j k w1 w2 c1 c2 b e1 e2 e3 e4 e5 e6=>?_,fun j c' b e1 e2=>?_,fun j c' e'=>?_,fun j b e'=>?_,fun p hp=>by rw [av];exact m7 g _ _ (r.prot p hp)⟩
 ·subst z
  cases w0 with
  | o x=>have:=r.new i x b q ea;rw [eb] at this;cases this
  | l x=>obtain ⟨c',q1,q2⟩:=r.lnt i x q;rw [ea] at q1;cases q1;exact hl i q2
  | _=>cases e0
 ·rw [av]
  rw [h2] at e'
  rcases l7 e' with ⟨rfl,z,_⟩ | ⟨n,e'⟩
  ·cases z
   refine ⟨.ref a,ea,?_⟩
   cases w with
   | o x=>cases h1;exact ⟨a,rfl,h⟩
   | l x=>cases h1;exact ⟨a,rfl,h⟩
   | _=>cases h1
  ·obtain ⟨u,q1,q2⟩:=r.slot j w' e'
   refine ⟨u,q1,D1 g (fun b c' ec eb=>?_) q2⟩
   subst eb
   have nb:b≠a:=fun z=>n (r.inj j i w' w0 c' c a e' ec (by rw [<-z];exact q1) q e0 ea)
   obtain ⟨o,eo,_⟩:=r.owMu ⟨j,w',c',e',ec,q1⟩
   rw [eo,hk _ _ eo nb]
 ·obtain ⟨u1,v1,q1,q2⟩:=st e1 e2
  obtain ⟨u2,v2,q3,q4⟩:=st e4 e5
  exact r.inj j k u1 u2 v1 v2 b q1 q2 e3 q3 q4 e6
 ·rw [h2] at e1
  rcases l7 e1 with ⟨rfl,z,_⟩ | ⟨n,e1⟩
  ·cases z
   cases w0 with
   | o x=>exact r.new j x b q e2
   | l x=>exact absurd (h3.mpr ⟨x,q⟩) (by simp)
   | _=>cases e0
  ·exact r.new j c' b e1 e2
 ·rw [h2] at e'
  rcases l7 e' with ⟨rfl,z,_⟩ | ⟨n,e'⟩
  ·cases z
   obtain ⟨x,qx⟩:=h3.mp ⟨_,rfl⟩
   exact r.lnt j x qx
  ·exact r.lnt j c' e'
 ·obtain ⟨c',q1,q2⟩:=r.lnd j b e'
  by_cases n:j=i
  ·subst n
   obtain ⟨x,rfl⟩:=h3.mpr ⟨c',q1⟩
   exact ⟨x,by rw [h2];exact n8 (List.getElem?_eq_some_iff.mp q).1,q2⟩
  ·exact ⟨c',by rw [h2,List.getElem?_set_ne (Ne.symm n)];exact q1,q2⟩
def frzAt (ρ:Ev) (i:Nat):Option Ev:=match ρ[i]? with
 | some (some (.o d))=>some (ρ.set i (some (.v d)))
 | some (some (.v _))=>some ρ
 | _=>none
theorem Rep.frz (r:Rep X P O L ρ σ H){i:Nat}{ρ':Ev}(e:frzAt ρ i=some ρ'):Rep X P O L ρ' σ H/\∀(j:Nat) (w:W) (d:D),ρ'[j]? =some (some w)->w.own=some d->ρ[j]? =some (some w)/\j≠i:=by
 unfold frzAt at e
 split at e
 ·rename_i d q
  cases e
  obtain ⟨a,h1,h2⟩:=r.obj q rfl
  have hl:i < σ.length:=by rw [<-r.len];exact (List.getElem?_eq_some_iff.mp q).1
  have es:σ.set i (some (.ref a))=σ:=by
   apply List.ext_getElem?
   intro j
   by_cases z:i=j
   ·subst z;rw [n8 hl,h1]
   ·rw [List.getElem?_set_ne z]
  have hw:¬AvO O (ρ.set i (some (.v d))) σ a:=fun z=>by
   rcases z with z | ⟨j,w,c,e1,e2,e3⟩
   ·exact r.ambN z ⟨i,_,d,q,rfl,h1⟩
   ·rcases l7 e1 with ⟨rfl,z,_⟩ | ⟨n,e1⟩
    ·cases z;cases e2
    ·exact n (r.inj j i w (.o d) c d a e1 e2 e3 q rfl h1)
  have sub:∀b,AvO O (ρ.set i (some (.v d))) σ b->AvO O ρ σ b:=fun b z=>by
   rcases z with z | ⟨j,w,c,e1,e2,e3⟩
   ·exact .inl z
   ·rcases l7 e1 with ⟨rfl,z,_⟩ | ⟨n,e1⟩
    ·cases z;cases e2
    ·exact .inr ⟨j,w,c,e1,e2,e3⟩
  have g:=w4 (H:=H) sub
  refine ⟨⟨r.same,r.amb,by rw [List.length_set];exact r.len,fun j w e=>?_,fun j k w w' c c' b e1 e2 e3 e4 e5 e6=>?_,fun j c b e1 e2=>?_,fun j c e=>?_,fun j b e=>?_,fun p hp=>m7 g _ _ (r.prot p hp)⟩,fun j w c e1 e2=>?_⟩
  ·rcases l7 e with ⟨rfl,z,_⟩ | ⟨n,e⟩
   ·cases z;exact ⟨.ref a,h1,J1 (t4 g rfl h2) hw⟩
   ·obtain ⟨u,q1,q2⟩:=r.slot j w e
    exact ⟨u,q1,D1 g (fun _ _ _ _=>rfl) q2⟩
  ·rcases l7 e1 with ⟨rfl,z,_⟩ | ⟨n1,e1⟩
   ·cases z;cases e2
   ·rcases l7 e4 with ⟨rfl,z,_⟩ | ⟨n2,e4⟩
    ·cases z;cases e5
    ·exact r.inj j k w w' c c' b e1 e2 e3 e4 e5 e6
  ·rcases l7 e1 with ⟨rfl,z,_⟩ | ⟨n1,e1⟩
   ·cases z
   ·exact r.new j c b e1 e2
  ·rcases l7 e with ⟨rfl,z,_⟩ | ⟨n1,e⟩
   ·cases z
   ·exact r.lnt j c e
  ·obtain ⟨c,q1,q2⟩:=r.lnd j b e
   have n:i≠j:=fun z=>by subst z;rw [q] at q1;cases q1
   exact ⟨c,by rw [List.getElem?_set_ne n];exact q1,q2⟩
  ·rcases l7 e1 with ⟨rfl,z,_⟩ | ⟨n,e1⟩
   ·cases z;cases e2
   ·exact ⟨e1,n⟩
 ·rename_i d q
  cases e
  exact ⟨r,fun j w c e1 e2=>⟨e1,fun z=>by subst z;rw [q] at e1;cases e1;cases e2⟩⟩
 ·cases e
end
abbrev FX:=Ev->Option (W×Ev)
abbrev FT:=Ev->Option (Bool×Ev)
abbrev FA:=Ev->Option (List W×Ev)
def DenW (K:PySem.W.Frag) (A:Av) (σ:L2.St) (H1 H':Hp):W->V->Prop
 | .v d,v=>Den K A H' d v
 | .o d,v=>∃a,v= .ref a/\H1 a=none/\Obj K (fun b=>A b\/b=a) H' a d
 | .r i,v=>σ[i]? =some (some v)
 | .l _,_=>False
def DenP (K:PySem.W.Frag) (A:Av) (σ:L2.St) (H:Hp):W->V->Prop
 | .v d,v=>Den K A H d v
 | .r i,v=>σ[i]? =some (some v)
 | _,_=>False
def DenA (K:PySem.W.Frag) (A:Av) (σ:L2.St) (H:Hp):List W->List V->Prop
 | [],vs=>vs=[]
 | w :: ws,vs=>∃v r,vs=v :: r/\DenP K A σ H w v/\DenA K A σ H ws r
def W.fz:W->W
 | .o d=>.v d
 | w=>w
def tX (X:Cx) (f:FX):TE:=fun σ H Q=>∃P O L ρ w ρ',Rep X P O L ρ σ H/\f ρ=some (w,ρ')/\∀v H1 H',Rep X P O L ρ' σ H1->Same H1 H'->DenW X.K (AvO O ρ' σ) σ H1 H' w v->Q v H'
def tT (X:Cx) (f:FT):TT:=fun σ H Q=>∃P O L ρ b ρ',Rep X P O L ρ σ H/\f ρ=some (b,ρ')/\∀H',Rep X P O L ρ' σ H'->Q b H'
def tA (X:Cx) (f:FA):TA:=fun σ H Q=>∃P O L ρ ws ρ',Rep X P O L ρ σ H/\f ρ=some (ws,ρ')/\∀vs H',Rep X P O L ρ' σ H'->DenA X.K (AvO O ρ' σ) σ H' ws vs->Q vs H'
theorem tXe {X:Cx}{f:FX}{σ:L2.St}{H:Hp}{Q:VK}{C:Prop}(h:tX X f σ H Q)(k:∀P O L ρ w ρ',Rep X P O L ρ σ H->f ρ=some (w,ρ')->(∀v H1 H',Rep X P O L ρ' σ H1->Same H1 H'->DenW X.K (AvO O ρ' σ) σ H1 H' w v->Q v H')->C):C:=by
 obtain ⟨P,O,L,ρ,w,ρ',r,e,q⟩:=h
 exact k P O L ρ w ρ' r e q
theorem tTe {X:Cx}{f:FT}{σ:L2.St}{H:Hp}{Q:Bool->Hp->Prop}{C:Prop}(h:tT X f σ H Q)(k:∀P O L ρ b ρ',Rep X P O L ρ σ H->f ρ=some (b,ρ')->(∀H',Rep X P O L ρ' σ H'->Q b H')->C):C:=by
 obtain ⟨P,O,L,ρ,w,ρ',r,e,q⟩:=h
 exact k P O L ρ w ρ' r e q
theorem tAe {X:Cx}{f:FA}{σ:L2.St}{H:Hp}{Q:List V->Hp->Prop}{C:Prop}(h:tA X f σ H Q)(k:∀P O L ρ ws ρ',Rep X P O L ρ σ H->f ρ=some (ws,ρ')->(∀vs H',Rep X P O L ρ' σ H'->DenA X.K (AvO O ρ' σ) σ H' ws vs->Q vs H')->C):C:=by
 obtain ⟨P,O,L,ρ,w,ρ',r,e,q⟩:=h
 exact k P O L ρ w ρ' r e q
structure QX (X:Cx) (e:Expr) (f:FX):Prop where
 to:PE X e (tX X f)
structure QT (X:Cx) (e:Expr) (f:FT):Prop where
 to:PT X e (tT X f)
structure QW (X:Cx) (e:Expr) (f:FT):Prop where
 to:PW X e (tT X f)
structure QA (X:Cx) (e:List Expr) (f:FA):Prop where
 to:PA X e (tA X f)
theorem PE.weak {X:Cx}{e:Expr}{t u:TE}(h:PE X e t)(w:∀σ H Q,u σ H Q->t σ H Q):PE X e u:=fun pins s σ H Q I q=>h pins s σ H Q I (w σ H Q q)
theorem PT.weak {X:Cx}{e:Expr}{t u:TT}(h:PT X e t)(w:∀σ H Q,u σ H Q->t σ H Q):PT X e u:=fun pins s σ H Q I q=>h pins s σ H Q I (w σ H Q q)
theorem PW.weak {X:Cx}{e:Expr}{t u:TT}(h:PW X e t)(w:∀σ H Q,u σ H Q->t σ H Q):PW X e u:=fun wh pins s σ H Q I q=>h wh pins s σ H Q I (w σ H Q q)
theorem PA.weak {X:Cx}{e:List Expr}{t u:TA}(h:PA X e t)(w:∀σ H Q,u σ H Q->t σ H Q):PA X e u:=fun pos pins s σ H Q I q=>h pos pins s σ H Q I (w σ H Q q)
def dr (ρ:Ev):W->Option D
 | .v d=>some d
 | .r i=>match ρ[i]? with
  | some (some (.v d))=>some d
  | some (some w)=>w.own
  | _=>none
 | _=>none
def drs (ρ:Ev):List W->Option (List D)
 | []=>some []
 | w :: ws=>(dr ρ w).bind fun d=>(drs ρ ws).map fun ds=>d :: ds
section
variable {X:Cx}{P:List (D×V)}{O:Av}{L:List (Nat×Addr)}{ρ ρ':Ev}{σ:L2.St}{H H1 H':Hp}{w:W}{d:D}{v:V}
theorem DenW.fz (r:Rep X P O L ρ σ H1)(s:Same H1 H')(h:DenW X.K (AvO O ρ σ) σ H1 H' w v):DenP X.K (AvO O ρ σ) σ H' w.fz v:=by
 cases w with
 | v d=>exact h
 | o d=>
  obtain ⟨a,rfl,n,ob⟩:=h
  exact J1 (t4 (w4 fun b z=>.inl z) rfl ob) (r.fresh n)
 | r i=>exact h
 | l d=>exact h.elim
theorem hold (r:Rep X P O L ρ σ H)(h:DenP X.K (AvO O ρ σ) σ H w v):∃P',Rep X P' O L ρ σ H/\∀ρ2 H2,Rep X P' O L ρ2 σ H2->Rep X P O L ρ2 σ H2/\DenP X.K (AvO O ρ2 σ) σ H2 w v:=by
 cases w with
 | v d=>exact ⟨(d,v) :: P,r.more h,fun ρ2 H2 r2=>⟨r2.less,r2.head⟩⟩
 | r i=>exact ⟨P,r,fun ρ2 H2 r2=>⟨r2,h⟩⟩
 | _=>exact h.elim
theorem F1 (r:Rep X P O L ρ σ H)(e:dr ρ w=some d)(h:DenP X.K (AvO O ρ σ) σ H w v):DenR X.K (AvO O ρ σ) H d v:=by
 cases w with
 | v c=>cases e;exact E8 h
 | r i=>
  rw [dr] at e
  have h:σ[i]? =some (some v):=h
  cases q:ρ[i]? with
  | none=>rw [q] at e;cases e
  | some o=>
   rw [q] at e
   cases o with
   | none=>cases e
   | some w'=>
    cases w' with
    | v c=>
     cases e
     obtain ⟨u,h1,h2⟩:=r.slot i _ q
     rw [h1] at h;cases h
     exact E8 h2
    | _=>
     obtain ⟨a,h1,h2⟩:=r.obj q e
     rw [h1] at h;cases h
     exact obj_r h2
 | _=>cases e
def DenRL (K:PySem.W.Frag) (A:Av) (H:Hp):List D->List V->Prop
 | [],vs=>vs=[]
 | d :: ds,vs=>∃v r,vs=v :: r/\DenR K A H d v/\DenRL K A H ds r
theorem a6j (r:Rep X P O L ρ σ H):∀{ws:List W} {ds:List D} {vs:List V},drs ρ ws=some ds->DenA X.K (AvO O ρ σ) σ H ws vs->DenRL X.K (AvO O ρ σ) H ds vs
 | [],ds,vs,e,h=>by cases e;exact h
 | w :: ws,ds,vs,e,h=>by
  obtain ⟨v,rs,rfl,h1,h2⟩:=h
  rw [drs] at e
  cases e1:dr ρ w with
  | none=>rw [e1] at e;cases e
  | some d=>
   cases e2:drs ρ ws with
   | none=>rw [e1,e2] at e;cases e
   | some dd=>
    rw [e1,e2] at e;cases e
    exact ⟨v,rs,rfl,F1 r e1 h1,a6j r e2 h2⟩
end
section
variable {K:PySem.W.Frag}{A:Av}{σ:L2.St}{H H':Hp}
theorem w5 {i:Int}:DenW K A σ H H' (.v (.int i)) (.int i):=by show Den _ _ _ _ _;rw [Den]
theorem A2 {i:Bool}:DenW K A σ H H' (.v (.bl i)) (.bl i):=by show Den _ _ _ _ _;rw [Den]
theorem a8j {i:Str}:DenW K A σ H H' (.v (.str i)) (.str i):=by show Den _ _ _ _ _;rw [Den]
theorem U9:DenW K A σ H H' (.v .non) .non:=by show Den _ _ _ _ _;rw [Den]
end
def fVar (i:Nat):FX:=fun ρ=>match ρ[i]? with
 | some (some (.v d))=>some (.v d,ρ)
 | some (some (.r _))=>none
 | some (some _)=>some (.r i,ρ)
 | _=>none
def fC (d:D):FX:=fun ρ=>some (.v d,ρ)
section
variable {X:Cx}{a b c e:Expr}{pos:Pos}{f g h:FX}{t u:FT}{fa:FA}{es rest:List Expr}
theorem a7 (i:Nat){x:Str}(hN:X.N[i]? =some x:=by rfl)(hv:Vis X.env.scope x:=by first | exact Or.inl rfl | exact Or.inr (Or.inl rfl) | exact Or.inr (Or.inr rfl))(hd:(x == ("__debug__":Str))=false:=by decide)(hcd:(x == ("__classdict__":Str))=false:=by decide):QX X (.Name x pos) (fVar i):=by
 refine ⟨PE.weak (a2T hN hv hd hcd) fun σ H Q h0=>tXe h0 fun P O L ρ w ρ' r e q=>?_⟩
 unfold fVar at e
 split at e
 ·rename_i d0 e0
  cases e
  obtain ⟨v,h1,h2⟩:=r.slot i _ e0
  exact ⟨v,h1,q v H H r (Same.refl H) h2⟩
 ·cases e
 ·rename_i w' _ _ e0
  cases e
  obtain ⟨v,h1,h2⟩:=r.slot i _ e0
  exact ⟨v,h1,q v H H r (Same.refl H) h1⟩
 ·cases e
theorem a7u {d:D}{v:V}(hd:∀A H,Den X.K A H d v):∀σ H Q,tX X (fC d) σ H Q->tC v σ H Q:=fun σ H Q h0=>tXe h0 fun P O L ρ w ρ' r e q=>by cases e;exact q v H H r (Same.refl H) (hd _ H)
theorem b0 {i:Int}{j:Nat}:QX X (.Constant (.int i) j pos) (fC (.int i)):=⟨PE.weak b2b (a7u fun A H=>v3.mpr rfl)⟩
theorem a3u {i:Bool}{j:Nat}:QX X (.Constant (.bool i) j pos) (fC (.bl i)):=⟨PE.weak pe_bl (a7u fun A H=>a05.mpr rfl)⟩
def fBin (op:D->D->Option W) (f g:FX):FX:=fun ρ=>(f ρ).bind fun p=>(g p.2).bind fun q=>(dr q.2 p.1.fz).bind fun x=>(dr q.2 q.1.fz).bind fun y=>(op x y).map fun w=>(w,q.2)
def Pr2 (X:Cx) (op:D->D->Option W) (r:R2):Prop:=∀(A:Av) (x y:D) (w:W) (v u:V) (H:Hp) (Q:VK),(∀b,A b->∃o,H b=some o)->op x y=some w->DenR X.K A H x v->DenR X.K A H y u->(∀z H',Same H H'->DenW X.K A [] H H' w z->Q z H')->r v u H Q
theorem DenW.st {K:PySem.W.Frag}{A:Av}{σ:L2.St}{H1 H':Hp}{w:W}{v:V}(h:DenW K A [] H1 H' w v):DenW K A σ H1 H' w v:=by
 cases w with
 | r i=>exact absurd h (by simp [DenW])
 | _=>exact h
theorem V2 {r:R2}{op:D->D->Option W}(k:Pr2 X op r):∀σ H Q,tX X (fBin op f g) σ H Q->tOp r (tX X f) (tX X g) σ H Q:=fun σ H Q h0=>tXe h0 fun P O L ρ w ρ' r e q=>by
 unfold fBin at e
 obtain ⟨⟨w1,ρ1⟩,e1,e⟩:=obs e
 dsimp only at e
 refine ⟨P,O,L,ρ,w1,ρ1,r,e1,fun v H1 H1' r1 s1 d1=>?_⟩
 obtain ⟨P',r1',k1⟩:=hold (r1.grow s1) (d1.fz r1 s1)
 obtain ⟨⟨w2,ρ2⟩,e2,e⟩:=obs e
 dsimp only at e
 refine ⟨P',O,L,ρ1,w2,ρ2,r1',e2,fun u H2 H2' r2 s2 d2=>?_⟩
 have d2':=d2.fz r2 s2
 obtain ⟨r3,d1'⟩:=k1 ρ2 H2' (r2.grow s2)
 cases e3:dr ρ2 w1.fz with
 | none=>rw [e3] at e;cases e
 | some x=>
  cases e4:dr ρ2 w2.fz with
  | none=>rw [e3,e4] at e;cases e
  | some y=>
   rw [e3,e4] at e
   simp only [Option.bind_some] at e
   cases e5:op x y with
   | none=>rw [e5] at e;cases e
   | some w'=>
    rw [e5] at e;cases e
    exact k _ x y w v u H2' Q (fun b z=>r3.there z) e5 (F1 r3 e3 d1') (F1 r3 e4 d2') fun z H' s d=>q z H2' H' r3 s d.st
theorem T4 {op:Operator}{r:R2}{o:D->D->Option W}(ho:OpR X (binaryOp op) r)(k:Pr2 X o r)(ha:QX X a f)(hb:QX X b g):QX X (.BinOp a op b pos) (fBin o f g):=⟨PE.weak (pe_op ho ha.to hb.to) (V2 k)⟩
theorem a2D {op:CmpOp}{r:R2}{o:D->D->Option W}(ho:OpR X (compareOp op) r)(k:Pr2 X o r)(ha:QX X a f)(hb:QX X b g)(hm:behindInMarks op b=false:=by first | exact nomark _ | rfl):QX X (.Compare a [op] [b] pos) (fBin o f g):=⟨PE.weak (b0q ho ha.to hb.to hm) (V2 k)⟩
def fTest (f:FX):FT:=fun ρ=>(f ρ).bind fun p=>match p.1 with | .v (.bl k)=>some (k,p.2) | _=>none
theorem a1c {f:FX}{ρ ρ':Ev}{k:Bool}(e:fTest f ρ=some (k,ρ')):f ρ=some (.v (.bl k),ρ'):=by
 unfold fTest at e
 cases q:f ρ with
 | none=>rw [q] at e;cases e
 | some p=>
  rw [q] at e
  obtain ⟨w,ρ1⟩:=p
  simp only [Option.bind_some] at e
  split at e
  ·cases e;rfl
  ·cases e
theorem L5 {op:CmpOp}{r:R2}{o:D->D->Option W}(ho:OpR X (compareOp op) r)(k:Pr2 X o r)(ha:QX X a f)(hb:QX X b g)(hm:behindInMarks op b=false:=by first | exact nomark _ | rfl):QT X (.Compare a [op] [b] pos) (fTest (fBin o f g)):=by
 refine ⟨PT.weak (b0g ho ha.to hb.to hm) fun σ H Q h0=>tTe h0 fun P O L ρ t ρ' r e q=>?_⟩
 refine V2 k σ H _ ⟨P,O,L,ρ,_,ρ',r,a1c e,fun v H1 H' r1 s1 d1=>⟨t,?_,q H' (r1.grow s1)⟩⟩
 have d1':Den X.K (AvO O ρ' σ) H' (.bl t) v:=d1
 exact a05.mp d1'
def big:Nat:=2 ^ 8000
def mOk (i j:Int):Prop:=i.natAbs < 2 ^ 64\/j.natAbs < 2 ^ 64\/(i.natAbs < big/\j.natAbs < big)
instance (i j:Int):Decidable (mOk i j):=by unfold mOk;infer_instance
theorem mOk.ok {i j:Int}(m:mOk i j):IntMulOk i j:=by
 rcases m with m | m | ⟨m,n⟩
 ·exact .of_left (KE_bits m)
 ·exact .of_right (KE_bits m)
 ·exact .of_bits (Nat.le_trans (KE_bits m) (by decide)) (Nat.le_trans (KE_bits n) (by decide))
where KE_bits {x:Int} {m:Nat} (h:x.natAbs < 2 ^ m):Builtin.Int.intBits x<=m:=intBits_le_iff.mpr h
theorem b0o:OpR X (binaryOp .Mult) (rI mOk fun i j=>.int (i * j)):=opI fun _ _ _ _ _ _ _ hc q=>mul_int q hc.ok
def dOk (j:Int):Prop:=0 < j/\j.natAbs < big
instance (j:Int):Decidable (dOk j):=by unfold dOk;infer_instance
theorem a9Y:OpR X (binaryOp .FloorDiv) (rI (fun _ j=>dOk j) fun i j=>.int (i / j)):=opI fun i j _ _ _ _ _ hc q=>by
 have e:i.fdiv j=i / j:=Int.fdiv_eq_ediv_of_nonneg i (Int.le_of_lt hc.1)
 refine floordiv_int (Int.ne_of_gt hc.1) (by rw [e];exact q) (.inl (PyProof.noPylong_of_log2 ?_))
 by_cases z:j.natAbs=0
 ·rw [z];decide
 ·exact Nat.lt_of_lt_of_le ((Nat.log2_lt z).mpr (show j.natAbs < 2 ^ 8000 from hc.2)) (by decide)
def oI (C:Int->Int->Prop) [∀i j,Decidable (C i j)] (g:Int->Int->D):D->D->Option W
 | .int i,.int j=>if C i j then some (.v (g i j)) else none
 | _,_=>none
def oI0 (g:Int->Int->D):D->D->Option W
 | .int i,.int j=>some (.v (g i j))
 | _,_=>none
theorem g7 {K:PySem.W.Frag}{A:Av}{H:Hp}{i:Int}{v:V}(h:DenR K A H (.int i) v):v= .int i:=by
 have h:Den K A H (.int i) v:=h
 exact v3.mp h
theorem kI {C:Int->Int->Prop} [∀i j,Decidable (C i j)] {g:Int->Int->Int}:Pr2 X (oI C fun i j=>.int (g i j)) (rI C fun i j=>.int (g i j)):=by
 intro A x y w v u H Q _ e hx hy q
 cases x <;> cases y <;> simp only [oI] at e <;> try cases e
 rename_i i j
 split at e
 ·rename_i hc
  cases e
  exact ⟨i,j,g7 hx,g7 hy,hc,q _ H (Same.refl H) w5⟩
 ·cases e
theorem kI0 {g:Int->Int->Int}:Pr2 X (oI0 fun i j=>.int (g i j)) (rI0 fun i j=>.int (g i j)):=by
 intro A x y w v u H Q _ e hx hy q
 cases x <;> cases y <;> simp only [oI0] at e <;> cases e
 rename_i i j
 exact ⟨i,j,g7 hx,g7 hy,q _ H (Same.refl H) w5⟩
theorem kB0 {g:Int->Int->Bool}:Pr2 X (oI0 fun i j=>.bl (g i j)) (rI0 fun i j=>.bl (g i j)):=by
 intro A x y w v u H Q _ e hx hy q
 cases x <;> cases y <;> simp only [oI0] at e <;> cases e
 rename_i i j
 exact ⟨i,j,g7 hx,g7 hy,q _ H (Same.refl H) A2⟩
abbrev fSub:=fBin (oI0 fun i j=>.int (i - j))
abbrev fMul:=fBin (oI mOk fun i j=>.int (i * j))
abbrev fDiv:=fBin (oI (fun _ j=>dOk j) fun i j=>.int (i / j))
abbrev fMod:=fBin (oI (fun _ j=>0 < j) fun i j=>.int (i % j))
instance (i j:Int):Decidable (CPow i j):=by unfold CPow;infer_instance
abbrev fPow:=fBin (oI CPow fun i j=>.int (i ^ j.toNat))
theorem R7 (ha:QX X a f)(hb:QX X b g):QX X (.BinOp a .Sub b pos) (fSub f g):=T4 b14 kI0 ha hb
theorem p0 (ha:QX X a f)(hb:QX X b g):QX X (.BinOp a .Mult b pos) (fMul f g):=T4 b0o kI ha hb
theorem W7 (ha:QX X a f)(hb:QX X b g):QX X (.BinOp a .FloorDiv b pos) (fDiv f g):=T4 a9Y kI ha hb
theorem K1 (ha:QX X a f)(hb:QX X b g):QX X (.BinOp a .Mod b pos) (fMod f g):=T4 b2g kI ha hb
theorem Z6 (ha:QX X a f)(hb:QX X b g):QX X (.BinOp a .Pow b pos) (fPow f g):=T4 b2m kI ha hb
abbrev oGt:=oI0 fun i j=>.bl (decide (j < i))
abbrev oGe:=oI0 fun i j=>.bl (decide (j<=i))
theorem qx_gt (ha:QX X a f)(hb:QX X b g):QX X (.Compare a [.Gt] [b] pos) (fBin oGt f g):=a2D b0A kB0 ha hb
theorem a7p (ha:QX X a f)(hb:QX X b g):QT X (.Compare a [.Gt] [b] pos) (fTest (fBin oGt f g)):=L5 b0A kB0 ha hb
theorem qt_ge (ha:QX X a f)(hb:QX X b g):QT X (.Compare a [.GtE] [b] pos) (fTest (fBin oGe f g)):=L5 op_ge kB0 ha hb
def lim:Nat:=1000000
theorem q9:lim<=sizeLine:=by unfold lim;rw [sizeLine_eq];decide
theorem j3 {H:Hp}{p:Addr}(h:H p=none)(o:HO):Same H (upd H p o):=fun b u q=>by rw [c8 (m4 q h)];exact q
theorem D9 {K:PySem.W.Frag}{A:Av}{σ:L2.St}{H:Hp}{p:Addr}{xs:List D}{vs:List V}(hp:H p=none)(l:DenL K A H xs vs):DenW K A σ H (upd H p (.lst vs)) (.o (.lst xs)) (.ref p):=
 ⟨p,rfl,hp,vs,j9,q8 (M:=fun _=>False) ⟨fun b o q _=>j3 hp _ b o q,fun _ z=>z.elim,fun b z=>z.imp id fun z=>by rw [z];exact hp⟩ _ _ l⟩
theorem K8 {K:PySem.W.Frag}{A:Av}{σ:L2.St}{H H0:Hp}{p:Addr}{xs:List D}{vs:List V}(hp:H p=none)(l:DenL K A H xs vs):DenW K A σ H0 (upd H p (.tup vs)) (.v (.tup xs)) (.ref p):=by
 show Den _ _ _ _ _;rw [Den]
 exact ⟨p,vs,rfl,.inl (.inl j9),a6t (j3 hp _) l⟩
theorem a93:OpR X (binaryOp .Add) (fun x y H Q=>∃l b xs zs,x= .ref l/\y= .ref b/\SqL X.K H l xs/\SqL X.K H b zs/\xs.length + zs.length<=sizeLine/\∀p,H p=none->Q (.ref p) (upd H p (.lst (xs ++ zs)))):=by
 intro pins s σ H x y v u Q I rx ry h
 obtain ⟨l,b,xs,zs,rfl,rfl,hH,hB,hz,q⟩:=h
 cases rx
 cases ry
 obtain ⟨its,r,⟨⟨c1,d1,e1,s1⟩,n1,g1,k1,_,w1⟩,_⟩:=I.list hH
 obtain ⟨its2,r2,⟨⟨c2,d2,e2,s2⟩,n2,g2,k2,_,w2⟩,_⟩:=I.list hB
 simp only at k1 w1 k2 w2
 subst k1 w1 k2 w2
 have l1:=r.length
 have l2:=r2.length
 refine concat_meets ⟨_,g1,rfl⟩ ⟨_,g2,rfl⟩ noFill_list_add seq_list_add PySem.F.slot_list_add PySem.F.entry_list_add (PySem.F.args_list_add_2 _ _) (list_addW l b its.toArray its2.toArray n1 n2 d1 d2 s1 s2 (by rw [List.size_toArray,List.size_toArray];walk_at "o")) ⟨g1,g2,?_⟩
 have ea:its.toArray ++ its2.toArray=(its ++ its2).toArray:=by simp
 rw [ea]
 exact ⟨.ref _,_,I.lnew (t':=s.toks) (r.append r2) (by rw [List.length_append];walk_at "o"),rfl,q _ I.fresh⟩
def oCat (xs ys:List D):Option W:=if xs.length + ys.length<=lim then some (.o (.lst (xs ++ ys))) else none
def oAdd:D->D->Option W
 | .int i,.int j=>some (.v (.int (i + j)))
 | .lst xs,.lst ys=>oCat xs ys
 | .tup xs,.tup ys=>if xs≠[]/\xs.length + ys.length<=lim then some (.v (.tup (xs ++ ys))) else none
 | _,_=>none
instance (xs:List D):Decidable (xs≠[]):=match xs with
 | []=>.isFalse fun h=>h rfl
 | _ :: _=>.isTrue nofun
theorem k6 (ha:QX X a f)(hb:QX X b g):QX X (.BinOp a .Add b pos) (fBin oAdd f g):=T4 (b2H.or (a93.or b0u)) (by
 intro A x y w v u H Q _ e hx hy q
 cases x <;> cases y <;> simp only [oAdd] at e <;> try cases e
 ·rename_i i j
  exact .inl ⟨i,j,g7 hx,g7 hy,q _ H (Same.refl H) w5⟩
 ·rename_i xs ys
  split at e
  ·rename_i hl
   cases e
   have hx:Den X.K A H (.tup xs) v:=hx
   have hy:Den X.K A H (.tup ys) u:=hy
   rw [Den] at hx hy
   obtain ⟨a,vs,ev,ha,la⟩:=hx
   obtain ⟨b,us,eu,hb,lb⟩:=hy
   refine .inr (.inr ⟨a,b,vs,us,ev,eu,ha,hb,fun z=>?_,?_,fun z=>?_,fun _ p hp=>q _ _ (j3 hp _) (K8 hp (t3 la lb))⟩)
   rotate_left 2
   ·subst z
    have z:ys=[]:=List.length_eq_zero_iff.mp (c5 lb)
    subst z
    refine q _ H (Same.refl H) ?_
    show Den _ _ _ _ _
    rw [List.append_nil,Den]
    exact ⟨a,vs,rfl,ha,la⟩
   ·subst z;exact hl.1 (List.length_eq_zero_iff.mp (c5 la))
   ·rw [<-c5 la,<-c5 lb];exact Nat.le_trans hl.2 q9
  ·cases e
 ·rename_i xs ys
  unfold oCat at e
  split at e
  ·rename_i hl
   cases e
   obtain ⟨a,vs,ev,ha,la⟩:=hx
   obtain ⟨b,us,eu,hb,lb⟩:=hy
   refine .inr (.inl ⟨a,b,vs,us,ev,eu,ha,hb,?_,fun p hp=>q _ _ (j3 hp _) (D9 hp (t3 la lb))⟩)
   rw [<-c5 la,<-c5 lb];exact Nat.le_trans hl q9
  ·cases e) ha hb
def fUn (op:D->Option W) (f:FX):FX:=fun ρ=>(f ρ).bind fun p=>(dr p.2 p.1.fz).bind fun x=>(op x).map fun w=>(w,p.2)
def Pr1 (X:Cx) (op:D->Option W) (r:V->Hp->VK->Prop):Prop:=∀(A:Av) (x:D) (w:W) (v:V) (H:Hp) (Q:VK),(∀b,A b->∃o,H b=some o)->op x=some w->DenR X.K A H x v->(∀z H',Same H H'->DenW X.K A [] H H' w z->Q z H')->r v H Q
theorem a49 {r:V->Hp->VK->Prop}{op:D->Option W}(k:Pr1 X op r):∀σ H Q,tX X (fUn op f) σ H Q->tUn r (tX X f) σ H Q:=fun σ H Q h0=>tXe h0 fun P O L ρ w ρ' r e q=>by
 unfold fUn at e
 obtain ⟨⟨w1,ρ1⟩,e1,e⟩:=obs e
 dsimp only at e
 refine ⟨P,O,L,ρ,w1,ρ1,r,e1,fun v H1 H1' r1 s1 d1=>?_⟩
 have r3:=r1.grow s1
 cases e3:dr ρ1 w1.fz with
 | none=>rw [e3] at e;cases e
 | some x=>
  rw [e3] at e
  simp only [Option.bind_some] at e
  cases e5:op x with
  | none=>rw [e5] at e;cases e
  | some w'=>
   rw [e5] at e;cases e
   exact k _ x w v H1' Q (fun b z=>r3.there z) e5 (F1 r3 e3 (d1.fz r1 s1)) fun z H' s d=>q z H1' H' r3 s d.st
def oNeg:D->Option W
 | .int i=>some (.v (.int (-i)))
 | _=>none
theorem a4N (ha:QX X a f):QX X (.UnaryOp .USub a pos) (fUn oNeg f):=⟨PE.weak (pe_un b16 ha.to) (a49 fun A x w v H Q _ e hx q=>by
 cases x <;> simp only [oNeg] at e <;> cases e
 rename_i i
 exact ⟨i,g7 hx,q _ H (Same.refl H) w5⟩)⟩
end
section
variable {X:Cx}{a b c e:Expr}{pos:Pos}{f g h:FX}{t u:FT}{fa:FA}{es rest:List Expr}
def truth:D->Option Bool
 | .non=>some false
 | .bl b=>some b
 | .int i=>some (!decide (i=0))
 | .tup xs=>some (!xs.isEmpty)
 | .lst xs=>some (!xs.isEmpty)
 | .dK ks _=>some (!ks.isEmpty)
 | _=>none
def fTru (f:FX):FT:=fun ρ=>(f ρ).bind fun p=>(dr p.2 p.1.fz).bind fun d=>(truth d).map fun k=>(k,p.2)
theorem a06 {K:PySem.W.Frag}{A:Av}{H:Hp}{xs:List D}{vs:List V}(l:DenL K A H xs vs):(!xs.isEmpty)= !vs.isEmpty:=by
 have:=c5 l
 cases xs <;> cases vs <;> simp_all
theorem a5c {K:PySem.W.Frag}{A:Av}{H:Hp}{d:D}{v:V}{k:Bool}(e:truth d=some k)(h:DenR K A H d v):TruV K v H k:=by
 cases d with
 | non=>cases e;have h:Den K A H .non v:=h;rw [Den] at h;subst h;rfl
 | bl b=>cases e;have h:Den K A H (.bl k) v:=h;rw [Den] at h;subst h;rfl
 | int i=>cases e;have h:Den K A H (.int i) v:=h;rw [Den] at h;subst h;rfl
 | tup xs=>cases e;have h:Den K A H (.tup xs) v:=h;rw [Den] at h;obtain ⟨a,vs,rfl,hq,l⟩:=h;exact .inr (.inl ⟨vs,hq,a06 l⟩)
 | lst xs=>cases e;obtain ⟨a,vs,rfl,hq,l⟩:=h;exact .inl ⟨vs,hq,a06 l⟩
 | dK ks xs=>
  cases e;obtain ⟨a,vs,rfl,hq,hl,l⟩:=h
  refine .inr (.inr ⟨_,hq,?_⟩)
  have:=c5 l
  cases ks <;> cases vs <;> cases xs <;> simp_all
 | _=>cases e
theorem a7x (ha:QX X a f)(he:∀whole,isTrue a X.env whole=(do let v <-whole;standAt a.pos;holding [v] (truthy v)):=by intro _;rfl):QT X a (fTru f):=⟨PT.weak (a8y ha.to he) fun σ H Q h0=>tTe h0 fun P O L ρ k ρ' r e q=>by
 unfold fTru at e
 obtain ⟨⟨w,ρ1⟩,e1,e⟩:=obs e
 dsimp only at e
 cases e2:dr ρ1 w.fz with
 | none=>rw [e2] at e;cases e
 | some d=>
  rw [e2] at e
  simp only [Option.bind_some] at e
  cases e3:truth d with
  | none=>rw [e3] at e;cases e
  | some k'=>
   rw [e3] at e;cases e
   exact ⟨P,O,L,ρ,w,_,r,e1,fun v H1 H' r1 s1 d1=>⟨k,a5c e3 (F1 (r1.grow s1) e2 (d1.fz r1 s1)),q H' (r1.grow s1)⟩⟩⟩
def fNot (t:FT):FT:=fun ρ=>(t ρ).map fun p=>(!p.1,p.2)
theorem b15 (ha:QT X a t):QT X (.UnaryOp .Not a pos) (fNot t):=⟨PT.weak (L2.b1N ha.to) fun σ H Q h0=>tTe h0 fun P O L ρ k ρ' r e q=>by
 unfold fNot at e
 cases e1:t ρ with
 | none=>rw [e1] at e;cases e
 | some p=>rw [e1] at e;obtain ⟨k1,ρ1⟩:=p;cases e;exact ⟨P,O,L,ρ,k1,_,r,e1,q⟩⟩
def fAnd (t u:FT):FT:=fun ρ=>(t ρ).bind fun p=>if p.1=true then u p.2 else some (false,p.2)
def fOr (t u:FT):FT:=fun ρ=>(t ρ).bind fun p=>if p.1=true then some (true,p.2) else u p.2
theorem a21 (ha:QT X a t):QW X (.BoolOp .And [a] pos) t:=⟨pw_and1 ha.to⟩
theorem a7j (ha:QT X a t):QW X (.BoolOp .Or [a] pos) t:=⟨pw_or1 ha.to⟩
theorem a4S (ha:QT X a t)(hb:QW X (.BoolOp .And (b :: rest) pos) u):QW X (.BoolOp .And (a :: b :: rest) pos) (fAnd t u):=⟨PW.weak (pw_and ha.to hb.to) fun σ H Q h0=>tTe h0 fun P O L ρ k ρ' r e q=>by
 unfold fAnd at e
 obtain ⟨⟨k1,ρ1⟩,e1,e⟩:=obs e
 dsimp only at e
 refine ⟨P,O,L,ρ,k1,ρ1,r,e1,fun H' r'=>?_⟩
 cases k1 with
 | true=>rw [if_pos rfl] at e ⊢;exact ⟨P,O,L,ρ1,k,ρ',r',e,q⟩
 | false=>rw [if_neg Bool.false_ne_true] at e ⊢;cases e;exact q H' r'⟩
theorem b1j (ha:QT X a t)(hb:QW X (.BoolOp .Or (b :: rest) pos) u):QW X (.BoolOp .Or (a :: b :: rest) pos) (fOr t u):=⟨PW.weak (pw_or ha.to hb.to) fun σ H Q h0=>tTe h0 fun P O L ρ k ρ' r e q=>by
 unfold fOr at e
 obtain ⟨⟨k1,ρ1⟩,e1,e⟩:=obs e
 dsimp only at e
 refine ⟨P,O,L,ρ,k1,ρ1,r,e1,fun H' r'=>?_⟩
 cases k1 with
 | true=>rw [if_pos rfl] at e ⊢;cases e;exact q H' r'
 | false=>rw [if_neg Bool.false_ne_true] at e ⊢;exact ⟨P,O,L,ρ1,k,ρ',r',e,q⟩⟩
theorem a3m (ha:QW X a t):QT X a t:=⟨PW.pt ha.to⟩
theorem a0R {op}(ha:QX X a f):QX X (.BoolOp op [a] pos) f:=⟨b2d ha.to⟩
def fAndV (f g:FX):FX:=fun ρ=>(fTest f ρ).bind fun p=>if p.1=true then g p.2 else some (.v (.bl false),p.2)
def fOrV (f g:FX):FX:=fun ρ=>(fTest f ρ).bind fun p=>if p.1=true then some (.v (.bl true),p.2) else g p.2
def fNotV (f:FX):FX:=fun ρ=>(fTest f ρ).map fun p=>(.v (.bl (!p.1)),p.2)
theorem a04 {K:PySem.W.Frag}{A:Av}{σ:L2.St}{H H':Hp}{k:Bool}{v:V}(h:DenW K A σ H H' (.v (.bl k)) v):v= .bl k:=by
 have h:Den K A H' (.bl k) v:=h
 exact a05.mp h
theorem T0 (ha:QX X a f)(hb:QX X (.BoolOp .And (b :: rest) pos) g):QX X (.BoolOp .And (a :: b :: rest) pos) (fAndV f g):=⟨PE.weak (b1X ha.to hb.to) fun σ H Q h0=>tXe h0 fun P O L ρ w ρ' r e q=>by
 unfold fAndV at e
 obtain ⟨⟨k,ρ1⟩,e1,e⟩:=obs e
 dsimp only at e
 refine ⟨P,O,L,ρ,_,ρ1,r,a1c e1,fun v H1 H' r1 s1 d1=>⟨k,a04 d1,?_⟩⟩
 cases k with
 | true=>rw [if_pos rfl] at e ⊢;exact ⟨P,O,L,ρ1,w,ρ',r1.grow s1,e,q⟩
 | false=>rw [if_neg Bool.false_ne_true] at e ⊢;cases e;exact q _ H' H' (r1.grow s1) (Same.refl _) A2⟩
def fIf (t:FT) (f g:FX):FX:=fun ρ=>(t ρ).bind fun p=>if p.1=true then f p.2 else g p.2
def fNil:FA:=fun ρ=>some ([],ρ)
def fCons (f:FX) (fa:FA):FA:=fun ρ=>(f ρ).bind fun p=>(fa p.2).map fun q=>(p.1.fz :: q.1,q.2)
theorem a9:QA X [] fNil:=⟨PA.weak a4I fun σ H Q h0=>tAe h0 fun P O L ρ ws ρ' r e q=>by cases e;exact q [] H r rfl⟩
theorem a8 (ha:QX X e f)(hr:QA X es fa)(hs:starEach (e :: es) X.env=(false,eval e X.env) :: starEach es X.env:=by rfl):QA X (e :: es) (fCons f fa):=⟨PA.weak (a2v ha.to hr.to hs) fun σ H Q h0=>tAe h0 fun P O L ρ ws ρ' r e q=>by
 unfold fCons at e
 obtain ⟨⟨w,ρ1⟩,e1,e⟩:=obs e
 dsimp only at e
 obtain ⟨⟨ws2,ρ2⟩,e2,e⟩:=oms e
 cases e
 refine ⟨P,O,L,ρ,w,ρ1,r,e1,fun v H1 H' r1 s1 d1=>?_⟩
 obtain ⟨P',r1',k1⟩:=hold (r1.grow s1) (d1.fz r1 s1)
 refine ⟨P',O,L,ρ1,ws2,_,r1',e2,fun vs H2 r2 l2=>?_⟩
 obtain ⟨r3,d3⟩:=k1 _ H2 r2
 exact q _ H2 r3 ⟨v,vs,rfl,d3,l2⟩⟩
def takeAll:Ev->List W->Option (List D×Ev)
 | ρ,[]=>some ([],ρ)
 | ρ,.v d :: ws=>(takeAll ρ ws).map fun p=>(d :: p.1,p.2)
 | ρ,.r i :: ws=>(frzAt ρ i).bind fun ρ1=>match ρ1[i]? with
  | some (some (.v d))=>(takeAll ρ1 ws).map fun p=>(d :: p.1,p.2)
  | _=>none
 | _,_=>none
theorem a4u {ρ ρ':Ev}{σ:L2.St}{O:Av}(h:∀(j:Nat) (w:W) (d:D),ρ'[j]? =some (some w)->w.own=some d->ρ[j]? =some (some w)):∀b,AvO O ρ' σ b->AvO O ρ σ b:=fun b z=>z.imp id fun ⟨j,w,d,e1,e2,e3⟩=>⟨j,w,d,h j w d e1 e2,e2,e3⟩
theorem k8 {P:List (D×V)}{O:Av}{L:List (Nat×Addr)}{σ:L2.St}{H:Hp}:∀{ws:List W} {ds:List D} {vs:List V} {ρ ρ':Ev},Rep X P O L ρ σ H->takeAll ρ ws=some (ds,ρ')->DenA X.K (AvO O ρ σ) σ H ws vs->
  Rep X P O L ρ' σ H/\DenL X.K (AvO O ρ' σ) H ds vs/\∀(j:Nat) (w:W) (d:D),ρ'[j]? =some (some w)->w.own=some d->ρ[j]? =some (some w)
 | [],ds,vs,ρ,ρ',r,e,h=>by cases e;have h:vs=[]:=h;subst h;exact ⟨r,j4,fun j w d e _=>e⟩
 | .v d :: ws,ds,vs,ρ,ρ',r,e,h=>by
  obtain ⟨v,rs,rfl,h1,h2⟩:=h
  rw [takeAll] at e
  obtain ⟨⟨ds1,ρ1⟩,e1,e⟩:=oms e
  cases e
  obtain ⟨r1,l1,k1⟩:=k8 r e1 h2
  exact ⟨r1,g8 (m7 (w4 (a4u k1)) _ _ h1) l1,k1⟩
 | .r i :: ws,ds,vs,ρ,ρ',r,e,h=>by
  obtain ⟨v,rs,rfl,h1,h2⟩:=h
  have h1:σ[i]? =some (some v):=h1
  rw [takeAll] at e
  cases e0:frzAt ρ i with
  | none=>rw [e0] at e;cases e
  | some ρ1=>
   rw [e0] at e
   simp only [Option.bind_some] at e
   obtain ⟨r1,k1⟩:=r.frz e0
   split at e
   ·rename_i d q
    obtain ⟨⟨ds1,ρ2⟩,e1,e⟩:=oms e
    cases e
    have go1:∀{ws:List W} {vs:List V},DenA X.K (AvO O ρ σ) σ H ws vs->DenA X.K (AvO O ρ1 σ) σ H ws vs:=fun {ws}=>by
     induction ws with
     | nil=>exact fun h=>h
     | cons w ws ih=>
      intro vs h
      obtain ⟨v,rs,rfl,h1,h2⟩:=h
      refine ⟨v,rs,rfl,?_,ih h2⟩
      cases w with
      | v d=>exact m7 (w4 (a4u fun j w d e1 e2=>(k1 j w d e1 e2).1)) _ _ h1
      | _=>exact h1
    obtain ⟨r2,l2,k2⟩:=k8 r1 e1 (go1 h2)
    obtain ⟨u,q1,q2⟩:=r1.slot i _ q
    rw [h1] at q1;cases q1
    have q2:Den X.K (AvO O ρ1 σ) H d v:=q2
    exact ⟨r2,g8 (m7 (w4 (a4u k2)) _ _ q2) l2,fun j w d e1 e2=>(k1 j w d (k2 j w d e1 e2) e2).1⟩
   ·cases e
 | .o _ :: ws,ds,vs,ρ,ρ',r,e,h=>by rw [takeAll] at e <;> first | cases e | (intros;nofun)
 | .l _ :: ws,ds,vs,ρ,ρ',r,e,h=>by rw [takeAll] at e <;> first | cases e | (intros;nofun)
def fTup (fa:FA):FX:=fun ρ=>(fa ρ).bind fun p=>(takeAll p.2 p.1).bind fun q=>if q.1.length<=lim then some (.v (.tup q.1),q.2) else none
def fLst (fa:FA):FX:=fun ρ=>(fa ρ).bind fun p=>(takeAll p.2 p.1).bind fun q=>if q.1.length<=lim then some (.o (.lst q.1),q.2) else none
theorem a1L {mk:List D->W}{σ:L2.St}{H:Hp}{Q:VK}{R:List V->Hp->Prop}(hq:∀(A:Av) (ds:List D) (vs:List V) (H:Hp),(∀v H',Same H H'->DenW X.K A σ H H' (mk ds) v->Q v H')->vs.length<=sizeLine->DenL X.K A H ds vs->R vs H)
  (h:tX X (fun ρ=>(fa ρ).bind fun p=>(takeAll p.2 p.1).bind fun q=>if q.1.length<=lim then some (mk q.1,q.2) else none) σ H Q):tA X fa σ H R:=by
 obtain ⟨P,O,L,ρ,w,ρ',r,e,q⟩:=h
 dsimp only at e
 obtain ⟨⟨ws,ρ1⟩,e1,e⟩:=obs e
 dsimp only at e
 obtain ⟨⟨ds,ρ2⟩,e2,e⟩:=obs e
 dsimp only at e
 split at e
 ·rename_i hl
  cases e
  refine ⟨P,O,L,ρ,ws,ρ1,r,e1,fun vs H1 r1 l1=>?_⟩
  obtain ⟨r2,l2,_⟩:=k8 r1 e2 l1
  exact hq _ ds vs H1 (fun v H' s d=>q v H1 H' r2 s d) (by rw [<-c5 l2];exact Nat.le_trans hl q9) l2
 ·cases e
theorem j8 {k:Nat}(ha:QA X es fa):QX X (.Tuple es k pos) (fTup fa):=⟨PE.weak (a4W ha.to) fun σ H Q h=>a1L (mk:=fun ds=>.v (.tup ds)) (fun A ds vs H q hl l=>⟨hl,fun p hp=>q _ _ (j3 hp _) (K8 hp l)⟩) h⟩
theorem z7 (ha:QA X es fa):QX X (.List es pos) (fLst fa):=⟨PE.weak (a74 ha.to) fun σ H Q h=>a1L (mk:=fun ds=>.o (.lst ds)) (fun A ds vs H q hl l=>⟨hl,fun p hp=>q _ _ (j3 hp _) (D9 hp l)⟩) h⟩
def items:D->Option (List D)
 | .tup xs=>some xs
 | .lst xs=>some xs
 | _=>none
theorem F8 {K:PySem.W.Frag}{A:Av}{H:Hp}{d:D}{xs:List D}{v:V}(e:items d=some xs)(h:DenR K A H d v):∃a vs,v= .ref a/\(SqL K H a vs\/SqT K H a vs)/\DenL K A H xs vs:=by
 cases d <;> simp only [items] at e <;> cases e
 ·have h:Den K A H (.tup xs) v:=h
  rw [Den] at h;obtain ⟨a,vs,e,hq,l⟩:=h;exact ⟨a,vs,e,.inr hq,l⟩
 ·obtain ⟨a,vs,e,hq,l⟩:=h;exact ⟨a,vs,e,.inl hq,l⟩
def strAt (x:Str) (i:Int):Option W:=if x.length<=lim then (atI x.cps.toList i).map fun c=>.v (.str ⟨#[c]⟩) else none
def oIx (x y:D):Option W:=match x,y with
 | .str x,.int i=>strAt x i
 | x,.int i=>(items x).bind fun xs=>(atI xs i).map .v
 | _,_=>none
theorem b0b {K:PySem.W.Frag}{A:Av}{H:Hp}{xs:List D}{vs:List V}{i:Int}{d:D}(l:DenL K A H xs vs)(e:atI xs i=some d):∃v,atI vs i=some v/\Den K A H d v:=by
 unfold atI at e ⊢
 rw [<-c5 l]
 cases q:ixN xs.length i with
 | none=>rw [q] at e;cases e
 | some j=>rw [q] at e;exact v4 l e
theorem k_ix:Pr2 X oIx (rIx X.K):=by
 intro A x y w v u H Q _ e hx hy q
 unfold oIx at e
 split at e
 ·rename_i z i
  unfold strAt at e
  split at e
  ·rename_i hl
   obtain ⟨ch,e1,e⟩:=oms e
   cases e
   have hx:Den X.K A H (.str z) v:=hx
   exact .inr (.inr ⟨z,i,ch,a24.mp hx,g7 hy,Nat.le_trans hl q9,e1,q _ H (Same.refl H) a8j⟩)
  ·cases e
 ·rename_i i _
  cases e1:items x with
  | none=>rw [e1] at e;cases e
  | some xs=>
   rw [e1] at e
   simp only [Option.bind_some] at e
   obtain ⟨d,e2,e⟩:=oms e
   cases e
   obtain ⟨a,vs,rfl,hq,l⟩:=F8 e1 hx
   obtain ⟨v',h1,h2⟩:=b0b l e2
   rcases hq with hq | hq
   ·exact .inl ⟨a,vs,i,v',rfl,g7 hy,hq,h1,q _ H (Same.refl H) h2⟩
   ·exact .inr (.inl ⟨a,vs,i,v',rfl,g7 hy,hq,h1,q _ H (Same.refl H) h2⟩)
 ·cases e
def fCall (k:List D->Option W) (fa:FA):FX:=fun ρ=>(fa ρ).bind fun p=>(drs p.2 p.1).bind fun ds=>(k ds).map fun w=>(w,p.2)
def PrA (X:Cx) (k:List D->Option W) (r:List V->Hp->VK->Prop):Prop:=∀(A:Av) (ds:List D) (w:W) (vs:List V) (H:Hp) (Q:VK),(∀b,A b->∃o,H b=some o)->k ds=some w->DenRL X.K A H ds vs->(∀z H',Same H H'->DenW X.K A [] H H' w z->Q z H')->r vs H Q
theorem a1y {r:List V->Hp->VK->Prop}{k:List D->Option W}(hk:PrA X k r):∀σ H Q,tX X (fCall k fa) σ H Q->tCB r (tA X fa) σ H Q:=fun σ H Q h0=>tXe h0 fun P O L ρ w ρ' r e q=>by
 unfold fCall at e
 obtain ⟨⟨ws,ρ1⟩,e1,e⟩:=obs e
 dsimp only at e
 cases e2:drs ρ1 ws with
 | none=>rw [e2] at e;cases e
 | some ds=>
  rw [e2] at e
  simp only [Option.bind_some] at e
  cases e3:k ds with
  | none=>rw [e3] at e;cases e
  | some w'=>
   rw [e3] at e;cases e
   exact ⟨P,O,L,ρ,ws,ρ',r,e1,fun vs H1 r1 l1=>hk _ ds w vs H1 Q (fun b z=>r1.there z) e3 (a6j r1 e2 l1) fun z H2 s2 d2=>q z H1 H2 r1 s2 d2.st⟩
theorem a0N {x:Str}{p:Pos}{id:String}{r:List V->Hp->VK->Prop}{k:List D->Option W}(hc:CallR X (.builtin id) r)(hk:PrA X k r)(hv:bootBuiltins x=some (.builtin id))(hm:X.mg x=none)(ha:QA X (e :: es) fa)(hg:Gl X x)(hn:x≠"__name__")(hdb:(x == ("__debug__":Str))=false)
  (he:starEach (e :: es) X.env=(false,eval e X.env) :: starEach es X.env) (hpl:(backTo pos (starEach es X.env)).any (·.1)=false):QX X (.Call (.Name x p) (e :: es) [] pos) (fCall k fa):=⟨PE.weak (a3o hc hg hm hv ha.to hn hdb he hpl) (a1y hk)⟩
theorem a8p {x:Str}{p:Pos}{T:String}{r:List V->Hp->VK->Prop}{k:List D->Option W}(hc:CallR X (.type T) r)(hk:PrA X k r)(hv:bootBuiltins x=some (.type T))(hm:X.mg x=none)(ha:QA X (e :: es) fa)(hg:Gl X x)(hn:x≠"__name__")(hdb:(x == ("__debug__":Str))=false)
  (he:starEach (e :: es) X.env=(false,eval e X.env) :: starEach es X.env) (hpl:(backTo pos (starEach es X.env)).any (·.1)=false):QX X (.Call (.Name x p) (e :: es) [] pos) (fCall k fa):=⟨PE.weak (a6G hc hg hm hv ha.to hn hdb he hpl) (a1y hk)⟩
theorem denRL1 {K:PySem.W.Frag}{A:Av}{H:Hp}{d:D}{vs:List V}(l:DenRL K A H [d] vs):∃v,vs=[v]/\DenR K A H d v:=by
 obtain ⟨v,r,rfl,h,l⟩:=l
 have l:r=[]:=l
 subst l;exact ⟨v,rfl,h⟩
theorem denRL2 {K:PySem.W.Frag}{A:Av}{H:Hp}{d d':D}{vs:List V}(l:DenRL K A H [d,d'] vs):∃v v',vs=[v,v']/\DenR K A H d v/\DenR K A H d' v':=by
 obtain ⟨v,r,rfl,h,l⟩:=l
 obtain ⟨v',rfl,h'⟩:=denRL1 l
 exact ⟨v,v',rfl,h,h'⟩
end
inductive R where
 | nx (ρ:Ev) | bk (ρ:Ev) | ct (ρ:Ev) | rt (w:W) (ρ:Ev)
abbrev FS:=Ev->Option R
abbrev A0 (O:Av) (L:List (Nat×Addr)):Av:=fun b=>O b\/∃i,(i,b)∈L
def EndsOk (X:Cx) (P:List (D×V)) (O:Av) (L:List (Nat×Addr)) (E:Ends):R->Prop
 | .nx ρ=>∀σ H,Rep X P O L ρ σ H->E.nx σ H
 | .bk ρ=>∀σ H,Rep X P O L ρ σ H->E.bk σ H
 | .ct ρ=>∀σ H,Rep X P O L ρ σ H->E.ct σ H
 | .rt w ρ=>∀v H,(∀b o,X.H₀ b=some o->(∀i,(i,b)∉L)->H b=some o)->(∀i b,(i,b)∈L->∃c,ownAt ρ i=some c/\Obj X.K (A0 O L) H b c)->DenW X.K (A0 O L) [] X.H₀ H w v->E.rt v H
def tS (X:Cx) (F:FS):TS:=fun E σ H=>∃P O L ρ r,Rep X P O L ρ σ H/\F ρ=some r/\EndsOk X P O L E r
theorem tSe {X:Cx}{F:FS}{E:Ends}{σ:L2.St}{H:Hp}{C:Prop}(h:tS X F E σ H)(k:∀P O L ρ r,Rep X P O L ρ σ H->F ρ=some r->EndsOk X P O L E r->C):C:=by
 obtain ⟨P,O,L,ρ,r,rp,e,q⟩:=h
 exact k P O L ρ r rp e q
structure QS (X:Cx) (st:Stmt) (F:FS):Prop where
 to:PS X st (tS X F)
structure QSs (X:Cx) (st:List Stmt) (F:FS):Prop where
 to:PSs X st (tS X F)
theorem PS.weak {X:Cx}{e:Stmt}{t u:TS}(h:PS X e t)(w:∀E σ H,u E σ H->t E σ H):PS X e u:=fun pins s σ H E I q=>h pins s σ H E I (w E σ H q)
theorem PSs.weak {X:Cx}{e:List Stmt}{t u:TS}(h:PSs X e t)(w:∀E σ H,u E σ H->t E σ H):PSs X e u:=fun pins s σ H E I q=>h pins s σ H E I (w E σ H q)
def fThen (F G:FS):FS:=fun ρ=>(F ρ).bind fun r=>match r with
 | .nx ρ'=>G ρ'
 | r=>some r
section
variable {X:Cx}{P:List (D×V)}{O:Av}{L:List (Nat×Addr)}{ρ ρ':Ev}{σ:L2.St}{H H1 H':Hp}{w:W}{d:D}{v:V}
theorem Rep.a0 (r:Rep X P O L ρ σ H){b:Addr}(z:A0 O L b):AvO O ρ σ b:=z.imp id fun ⟨i,z⟩=>by
 obtain ⟨d,h1,h2⟩:=r.lnd i b z
 exact ⟨i,_,d,h1,rfl,h2⟩
theorem Rep.lents (r:Rep X P O L ρ σ H):∀i b,(i,b)∈L->∃c,ownAt ρ i=some c/\Obj X.K (A0 O L) H b c:=fun i b z=>by
 obtain ⟨d,h1,h2⟩:=r.lnd i b z
 obtain ⟨a,h3,h4⟩:=r.obj h1 rfl
 rw [h2] at h3;cases h3
 exact ⟨d,by unfold ownAt;rw [h1];rfl,t4 (w4 fun b z=>r.a0 z) rfl h4⟩
def bindW (ρ:Ev) (i:Nat):W->Option Ev
 | .v d=>if freeSlot ρ i=true then some (ρ.set i (some (.v d))) else none
 | .o d=>if freeSlot ρ i=true then some (ρ.set i (some (.o d))) else none
 | .r j=>(frzAt ρ j).bind fun ρ1=>match ρ1[j]? with
  | some (some (.v d))=>if freeSlot ρ1 i=true then some (ρ1.set i (some (.v d))) else none
  | _=>none
 | .l _=>none
theorem a5d {i:Nat}(r:Rep X P O L ρ σ H1)(s:Same H1 H')(h:DenW X.K (AvO O ρ σ) σ H1 H' w v)(e:bindW ρ i w=some ρ'):Rep X P O L ρ' (σ.set i (some v)) H':=by
 cases w with
 | v d=>
  rw [bindW] at e
  split at e
  ·rename_i hf;cases e;exact (r.grow s).put hf h
  ·cases e
 | o d=>
  rw [bindW] at e
  split at e
  ·rename_i hf;cases e;obtain ⟨a,rfl,hn,ob⟩:=h;exact r.putO s hf hn ob
  ·cases e
 | r j=>
  rw [bindW] at e
  cases e1:frzAt ρ j with
  | none=>rw [e1] at e;cases e
  | some ρ1=>
   rw [e1] at e
   simp only [Option.bind_some] at e
   obtain ⟨r1,_⟩:=(r.grow s).frz e1
   split at e
   ·rename_i d q
    split at e
    ·rename_i hf
     cases e
     obtain ⟨u,q1,q2⟩:=r1.slot j _ q
     have h:σ[j]? =some (some v):=h
     rw [h] at q1;cases q1
     exact r1.put hf q2
    ·cases e
   ·cases e
 | l d=>cases e
def retW (ρ:Ev):W->Option R
 | .v d=>some (.rt (.v d) ρ)
 | .o d=>some (.rt (.o d) ρ)
 | .r i=>match ρ[i]? with
  | some (some (.o d))=>some (.rt (.o d) ρ)
  | some (some (.v d))=>some (.rt (.v d) ρ)
  | _=>none
 | .l _=>none
theorem b2z {E:Ends}{q:R}(r:Rep X P O L ρ σ H1)(s:Same H1 H')(h:DenW X.K (AvO O ρ σ) σ H1 H' w v)(e:retW ρ w=some q)(hq:EndsOk X P O L E q):E.rt v H':=by
 have r':=r.grow s
 cases w with
 | v d=>cases e;exact hq v H' r'.same r'.lents (m7 (w4 fun b z=>r.a0 z) _ _ h)
 | o d=>
  cases e
  obtain ⟨a,rfl,hn,ob⟩:=h
  exact hq _ H' r'.same r'.lents ⟨a,rfl,r.fresh0 hn,t4 (w4 fun b z=>z.imp (fun z=>r.a0 z) id) rfl ob⟩
 | r i=>
  rw [retW] at e
  have h:σ[i]? =some (some v):=h
  split at e
  ·rename_i d q
   cases e
   obtain ⟨a,h1,h2⟩:=r'.obj q rfl
   rw [h] at h1;cases h1
   refine hq _ H' r'.same r'.lents ⟨a,rfl,r'.new i d a q h,t4 (w4 fun b z=>?_) rfl h2⟩
   rcases z with z | z
   ·exact r.a0 z
   ·rw [z];exact .inr ⟨i,_,d,q,rfl,h⟩
  ·rename_i d q
   cases e
   obtain ⟨u,q1,q2⟩:=r'.slot i _ q
   rw [h] at q1;cases q1
   exact hq v H' r'.same r'.lents (m7 (w4 fun b z=>r.a0 z) _ _ q2)
  ·cases e
 | l d=>cases e
end
section
variable {X:Cx}{a b c e:Expr}{es:List Expr}{st:Stmt}{rest bd els:List Stmt}{pos:Pos}{f g:FX}{t:FT}{fa:FA}{F G:FS}
theorem w8:QSs X [] (fun ρ=>some (.nx ρ)):=⟨PSs.weak b0s fun E σ H h0=>tSe h0 fun P O L ρ r rp e q=>by cases e;exact q σ H rp⟩
theorem b8 (h1:QS X st F)(h2:QSs X rest G):QSs X (st :: rest) (fThen F G):=⟨PSs.weak (a9p h1.to h2.to) fun E σ H h0=>tSe h0 fun P O L ρ r rp e q=>by
 unfold fThen at e
 obtain ⟨r1,e1,e⟩:=obs e
 refine ⟨P,O,L,ρ,r1,rp,e1,?_⟩
 cases r1 with
 | nx ρ'=>exact fun σ' H' rp'=>⟨P,O,L,ρ',r,rp',e,q⟩
 | bk ρ'=>cases e;exact q
 | ct ρ'=>cases e;exact q
 | rt d ρ'=>cases e;exact q⟩
theorem c7 (h1:QS X st F):QSs X [st] F:=⟨a9O h1.to⟩
theorem a7H:QS X st (fun _=>none):=⟨PS.weak a8J fun E σ H h0=>tSe h0 fun P O L ρ r rp e q=>by cases e⟩
theorem a3V {e c:Option Expr}:QS X (.Raise e c pos) (fun _=>none):=a7H
def fRet (f:FX):FS:=fun ρ=>(f ρ).bind fun p=>retW p.2 p.1
theorem g9 (ha:QX X e f):QS X (.Return (some e) pos) (fRet f):=⟨PS.weak (b2p ha.to) fun E σ H h0=>tSe h0 fun P O L ρ r rp e q=>by
 unfold fRet at e
 obtain ⟨⟨w,ρ1⟩,e1,e⟩:=obs e
 exact ⟨P,O,L,ρ,w,ρ1,rp,e1,fun v H1 H' r1 s1 d1=>b2z r1 s1 d1 e q⟩⟩
def fIfS (t:FT) (F G:FS):FS:=fun ρ=>(t ρ).bind fun p=>if p.1=true then F p.2 else G p.2
theorem G0 (hc:QT X c t)(ha:QSs X bd F)(hb:QSs X els G):QS X (.If c bd els pos) (fIfS t F G):=⟨PS.weak (ps_if hc.to ha.to hb.to) fun E σ H h0=>tSe h0 fun P O L ρ r rp e q=>by
 unfold fIfS at e
 obtain ⟨⟨k,ρ1⟩,e1,e⟩:=obs e
 dsimp only at e
 refine ⟨P,O,L,ρ,k,ρ1,rp,e1,fun H1 r1=>?_⟩
 cases k with
 | true=>rw [if_pos rfl] at e ⊢;exact ⟨P,O,L,ρ1,r,r1,e,q⟩
 | false=>rw [if_neg Bool.false_ne_true] at e ⊢;exact ⟨P,O,L,ρ1,r,r1,e,q⟩⟩
def fAsg (i:Nat) (f:FX):FS:=fun ρ=>(f ρ).bind fun p=>(bindW p.2 i p.1).map .nx
theorem j7 (i:Nat){x:Str}{pos':Pos}(hN:X.N.Nodup)(ha:QX X e f)(hi:X.N[i]? =some x:=by rfl)(hx:Loc X.env.scope x:=by first | exact Or.inl rfl | exact Or.inr rfl)(hs:swapsWith e (some (.Name x pos')) pos.line X.env=pure false:=by rfl)(hf:X.fn x=true\/X.env.scope.names.lookup x=some .local:=by first | exact .inl rfl | exact .inr rfl):
  QS X (.Assign [.Name x pos'] e pos) (fAsg i f):=⟨PS.weak (b12 hN hi hx ha.to hs hf) fun E σ H h0=>tSe h0 fun P O L ρ r rp e q=>by
 unfold fAsg at e
 obtain ⟨⟨w,ρ1⟩,e1,e⟩:=obs e
 dsimp only at e
 obtain ⟨ρ2,e2,e⟩:=oms e
 cases e
 exact ⟨P,O,L,ρ,w,ρ1,rp,e1,fun v H1 H' r1 s1 d1=>q _ H' (a5d r1 s1 d1 e2)⟩⟩
abbrev FG:=D->Ev->Option Ev
def GOk (X:Cx) (g:TG) (gf:FG):Prop:=∀(P:List (D×V)) (O:Av) (L:List (Nat×Addr)) (d:D) (v:V) (ρ ρ':Ev) (σ:L2.St) (H:Hp) (Q:L2.St->Hp->Prop),Rep X P O L ρ σ H->Den X.K (AvO O ρ σ) H d v->gf d ρ=some ρ'->(∀σ' H',Rep X P O L ρ' σ' H'->Q σ' H')->g v σ H Q
structure QG (X:Cx) (tg:Expr) (gf:FG):Prop where
 to:∃g,PG X tg g/\GOk X g gf
abbrev FGs:=List D->Ev->Option Ev
structure QGs (X:Cx) (tgs:List Expr) (n:Nat) (gf:FGs):Prop where
 to:∃g,PGs X tgs g/\∀(P:List (D×V)) (O:Av) (L:List (Nat×Addr)) (ds:List D) (vs:List V) (ρ ρ':Ev) (σ:L2.St) (H:Hp) (Q:L2.St->Hp->Prop),Rep X P O L ρ σ H->DenL X.K (AvO O ρ σ) H ds vs->gf ds ρ=some ρ'->(∀σ' H',Rep X P O L ρ' σ' H'->Q σ' H')->g vs σ H Q
 len:∀ds ρ ρ',gf ds ρ=some ρ'->ds.length=n
def gfName (i:Nat):FG:=fun d ρ=>if freeSlot ρ i=true then some (ρ.set i (some (.v d))) else none
theorem b9 (i:Nat){x:Str}(hN:X.N.Nodup)(hi:X.N[i]? =some x:=by rfl)(hx:Loc X.env.scope x:=by first | exact Or.inl rfl | exact Or.inr rfl)(hf:X.fn x=true\/X.env.scope.names.lookup x=some .local:=by first | exact .inl rfl | exact .inr rfl):QG X (.Name x pos) (gfName i):=
 ⟨gName i,a5B hN hi hx hf,fun P O L d v ρ ρ' σ H Q r h e q=>by
  unfold gfName at e
  split at e
  ·rename_i hf;cases e;exact q _ H (r.put hf h)
  ·cases e⟩
def gfNil:FGs:=fun ds ρ=>match ds with
 | []=>some ρ
 | _=>none
def gfCons (gf:FG) (gs:FGs):FGs:=fun ds ρ=>match ds with
 | d :: ds=>(gf d ρ).bind (gs ds)
 | _=>none
def gfTup (gs:FGs):FG:=fun d ρ=>match d with
 | .tup ds=>gs ds ρ
 | _=>none
theorem j5:QGs X [] 0 gfNil:=⟨⟨gNil,a9L,fun P O L ds vs ρ ρ' σ H Q r l e q=>by
 cases ds with
 | nil=>cases e;rw [DenL] at l;exact ⟨l,q σ H r⟩
 | cons d ds=>cases e⟩,fun ds ρ ρ' e=>by cases ds with | nil=>rfl | cons d ds=>cases e⟩
theorem holdL {P:List (D×V)}{O:Av}{L:List (Nat×Addr)}{σ:L2.St}:∀{ds:List D} {vs:List V} {ρ:Ev} {H:Hp},Rep X P O L ρ σ H->DenL X.K (AvO O ρ σ) H ds vs->∃P',Rep X P' O L ρ σ H/\∀ρ2 σ2 H2,Rep X P' O L ρ2 σ2 H2->Rep X P O L ρ2 σ2 H2/\DenL X.K (AvO O ρ2 σ2) H2 ds vs
 | [],vs,ρ,H,r,l=>⟨P,r,fun ρ2 σ2 H2 r2=>⟨r2,by rw [DenL] at l ⊢;exact l⟩⟩
 | d :: ds,vs,ρ,H,r,l=>by
  rw [DenL] at l
  obtain ⟨v,rs,rfl,h,l⟩:=l
  obtain ⟨P',r1,k1⟩:=holdL r l
  exact ⟨(d,v) :: P',r1.more h,fun ρ2 σ2 H2 r2=>by
   obtain ⟨r3,l3⟩:=k1 ρ2 σ2 H2 r2.less
   exact ⟨r3,g8 r2.head l3⟩⟩
theorem c6 {n:Nat}{tgs:List Expr}{tg:Expr}{gf:FG}{gs:FGs}(h:QG X tg gf)(t:QGs X tgs n gs)(hs:(assignEach (tg :: tgs) X.env).map (·.2)=assign tg X.env :: (assignEach tgs X.env).map (·.2):=by rfl):QGs X (tg :: tgs) (n + 1) (gfCons gf gs):=by
 obtain ⟨g,p,k⟩:=h.to
 obtain ⟨gg,pp,kk⟩:=t.to
 refine ⟨⟨gCons g gg,a79 p pp hs,fun P O L ds vs ρ ρ' σ H Q r l e q=>?_⟩,fun ds ρ ρ' e=>?_⟩
 ·cases ds with
  | nil=>cases e
  | cons d ds=>
   rw [DenL] at l
   obtain ⟨v,rs,rfl,hd,l⟩:=l
   simp only [gfCons] at e
   obtain ⟨ρ1,e1,e⟩:=obs e
   obtain ⟨P',r1,k1⟩:=holdL r l
   refine ⟨v,rs,rfl,k P' O L d v ρ ρ1 σ H _ r1 hd e1 fun σ' H' r2=>?_⟩
   obtain ⟨r3,l3⟩:=k1 _ _ _ r2
   exact kk P O L ds rs ρ1 ρ' σ' H' Q r3 l3 e q
 ·cases ds with
  | nil=>cases e
  | cons d ds=>
   simp only [gfCons] at e
   cases e1:gf d ρ with
   | none=>rw [e1] at e;cases e
   | some ρ1=>rw [e1] at e;rw [List.length_cons,t.len ds ρ1 ρ' e]
theorem k7 {tgs:List Expr}{n k:Nat}{gs:FGs}(hc:X.calm=true)(h:QGs X tgs n gs)(hn:(assignEach tgs X.env).length=n:=by rfl)(hst:(assignEach tgs X.env).findIdx? (·.1)=none:=by rfl):QG X (.Tuple tgs k pos) (gfTup gs):=by
 obtain ⟨gg,pp,kk⟩:=h.to
 refine ⟨gTup X.K n gg,b1Z hc pp hn hst,fun P O L d v ρ ρ' σ H Q r hd e q=>?_⟩
 cases d with
 | tup ds=>
  rw [Den] at hd
  obtain ⟨a,vs,ev,hq,l⟩:=hd
  exact ⟨a,vs,ev,hq,by rw [<-c5 l];exact h.len ds ρ ρ' e,kk P O L ds vs ρ ρ' σ H Q r l e q⟩
 | _=>cases e
def gfSub (f g:FX):FG:=fun d ρ=>(f ρ).bind fun p=>match p.1 with
 | .r j=>(g p.2).bind fun q=>(dr q.2 q.1.fz).bind fun k=>match k,ownAt q.2 j with
  | .int k,some (.lst xs)=>(ixN xs.length k).map fun n=>setOwn q.2 j (.lst (xs.set n d))
  | _,_=>none
 | _=>none
theorem a7o (ha:QX X a f)(hb:QX X b g)(hs:∀v,assign (.Subscript a b pos) X.env v=(do
   let ov <-holding [v] (eval a X.env)
   let iv <-holding [v,ov] (eval b X.env)
   standAt pos
   holding [v,ov,iv] (setItem ov iv v)
   release [v,ov,iv] []):=by intro _;rfl):QG X (.Subscript a b pos) (gfSub f g):=by
 refine ⟨_,b2B ha.to hb.to a7M hs,fun P O L d v ρ ρ' σ H Q r hd e q=>?_⟩
 unfold gfSub at e
 obtain ⟨⟨w1,ρ1⟩,e1,e⟩:=obs e
 dsimp only at e
 split at e
 ·rename_i w1 j
  obtain ⟨⟨w2,ρ2⟩,e2,e⟩:=obs e
  dsimp only at e
  cases e3:dr ρ2 w2.fz with
  | none=>rw [e3] at e;cases e
  | some k=>
   rw [e3] at e
   simp only [Option.bind_some] at e
   split at e
   ·rename_i _ _ i xs e4
    obtain ⟨n,e5,e⟩:=oms e
    cases e
    have r0:Rep X ((d,v) :: P) O L ρ σ H:=r.more hd
    refine ⟨(d,v) :: P,O,L,ρ,_,ρ1,r0,e1,fun o H1 H1' r1 s1 d1=>?_⟩
    have d1:σ[j]? =some (some o):=d1
    refine ⟨(d,v) :: P,O,L,ρ1,w2,ρ2,r1.grow s1,e2,fun u H2 H2' r2 s2 d2=>?_⟩
    have r3:=r2.grow s2
    have ki:=g7 (F1 r3 e3 (d2.fz r2 s2))
    obtain ⟨w0,q0,ow⟩:=n9 e4
    obtain ⟨pa,h1,vs,h2,l⟩:=r3.obj q0 ow
    rw [d1] at h1;cases h1
    have av:∀b,AvO O (setOwn ρ2 j (.lst (xs.set n d))) σ b->AvO O ρ2 σ b:=fun b z=>z.imp id fun z=>(Z2 e4 b).mp z
    refine ⟨pa,vs,i,n,rfl,ki,h2,by rw [<-c5 l];exact e5,q σ _ ((r3.less).mut e4 d1 (fun b o eb nb=>by rw [c8 nb];exact eb) ⟨_,j9,?_⟩)⟩
    have g0:Go (AvO O ρ2 σ) (AvO O ρ2 σ) (fun b=>b=pa) H2' (upd H2' pa (.lst (vs.set n v))):=⟨fun b o eb nb=>by rw [c8 nb];exact eb,fun b z=>by rw [z];exact ⟨.inr ⟨j,w0,_,q0,ow,d1⟩,_,h2,trivial⟩,fun b z=>.inl z⟩
    exact q8 g0 _ _ (a4b r3.head n l)
   ·cases e
 ·cases e
def fAsgG (f:FX) (gf:FG):FS:=fun ρ=>(f ρ).bind fun p=>(takeAll p.2 [p.1.fz]).bind fun q=>match q.1 with
 | [d]=>(gf d q.2).map .nx
 | _=>none
theorem o9 {tg:Expr}{gf:FG}(ha:QX X e f)(hg:QG X tg gf)(hs:swapsWithSole [tg] e pos.line X.env=pure false:=by rfl)(hw:swappedStores [tg] e X.env=pure none:=by rfl)(h1:(assignEach [tg] X.env).map (·.2)=[assign tg X.env]:=by rfl):QS X (.Assign [tg] e pos) (fAsgG f gf):=by
 obtain ⟨g,p,k⟩:=hg.to
 refine ⟨PS.weak (b1V ha.to p hs hw h1) fun E σ H h0=>tSe h0 fun P O L ρ r rp e q=>?_⟩
 unfold fAsgG at e
 obtain ⟨⟨w,ρ1⟩,e1,e⟩:=obs e
 dsimp only at e
 obtain ⟨⟨ds,ρ2⟩,e2,e⟩:=obs e
 dsimp only at e
 split at e
 ·rename_i d
  obtain ⟨ρ3,e3,e⟩:=oms e
  cases e
  refine ⟨P,O,L,ρ,w,ρ1,rp,e1,fun v H1 H' r1 s1 d1=>?_⟩
  obtain ⟨r2,l2,_⟩:=k8 (vs:=[v]) (r1.grow s1) e2 ⟨v,[],rfl,d1.fz r1 s1,rfl⟩
  obtain ⟨v',ev,h'⟩:=denL1 l2
  cases ev
  exact k P O L d v ρ2 ρ3 σ H' _ r2 h' e3 fun σ' H' r'=>q σ' H' r'
 ·cases e
def fDrop (f:FX):FS:=fun ρ=>(f ρ).map fun p=>.nx p.2
theorem C6 (ha:QX X e f)(hs:swapsWith e none pos.line X.env=pure false:=by rfl):QS X (.Expr e pos) (fDrop f):=⟨PS.weak (b0w ha.to hs) fun E σ H h0=>tSe h0 fun P O L ρ r rp e q=>by
 unfold fDrop at e
 obtain ⟨p,e1,e⟩:=oms e
 cases e
 exact ⟨P,O,L,ρ,p.1,p.2,rp,e1,fun v H1 H' r1 s1 d1=>q σ H' (r1.grow s1)⟩⟩
def fPar (i j:Nat) (fa:FA):FS:=fun ρ=>(fa ρ).bind fun p=>(takeAll p.2 p.1).bind fun q=>match q.1 with
 | [d,d']=>if freeSlot q.2 i=true/\freeSlot (q.2.set i (some (.v d))) j=true then some (.nx ((q.2.set i (some (.v d))).set j (some (.v d')))) else none
 | _=>none
theorem a2M (i j:Nat){x y:Str}{px py pt:Pos}{kt k2 pt2}(hc:X.calm=true)(hN:X.N.Nodup)(ha:QA X [a,b] fa)(hw:swappedStores [.Tuple [.Name x px,.Name y py] kt pt] (.Tuple [a,b] k2 pt2) X.env=pure (some [x,y]))(hi:X.N[i]? =some x:=by rfl)(hj:X.N[j]? =some y:=by rfl)(hij:i≠j:=by decide)
  (hx:X.env.scope.names.lookup x=some .local:=by rfl) (hy:X.env.scope.names.lookup y=some .local:=by rfl)
  (hs:swapsWithSole [.Tuple [.Name x px,.Name y py] kt pt] (.Tuple [a,b] k2 pt2) pos.line X.env=pure false:=by rfl):
  QS X (.Assign [.Tuple [.Name x px,.Name y py] kt pt] (.Tuple [a,b] k2 pt2) pos) (fPar i j fa):=⟨PS.weak (b2k hc hN hi hj hij hx hy ha.to hw hs) fun E σ H h0=>tSe h0 fun P O L ρ r rp e q=>by
 unfold fPar at e
 obtain ⟨⟨ws,ρ1⟩,e1,e⟩:=obs e
 dsimp only at e
 obtain ⟨⟨ds,ρ2⟩,e2,e⟩:=obs e
 dsimp only at e
 split at e
 ·rename_i d d'
  split at e
  ·rename_i hf
   cases e
   refine ⟨P,O,L,ρ,ws,ρ1,rp,e1,fun vs H1 r1 l1=>?_⟩
   obtain ⟨r2,l2,_⟩:=k8 r1 e2 l1
   obtain ⟨v,v',rfl,h,h'⟩:=denL2 l2
   have r3:=(r2.more (p:=(d',v')) h').put (i:=i) hf.1 h
   exact ⟨v,v',rfl,q _ H1 (r3.less.put (i:=j) hf.2 r3.head)⟩
  ·cases e
 ·cases e⟩
end
def whileF (c:FT) (b:FS):Nat->Ev->Option R
 | 0,_=>none
 | n + 1,ρ=>(c ρ).bind fun k=>if k.1=true then (b k.2).bind (fun r=>match r with
   | .nx ρ'=>whileF c b n ρ'
   | .ct ρ'=>whileF c b n ρ'
   | .bk ρ'=>some (.nx ρ')
   | .rt d ρ'=>some (.rt d ρ')) else some (.nx k.2)
theorem N5 {c:FT}{b:FS}:∀{n:Nat} {ρ:Ev} {r:R},whileF c b n ρ=some r->whileF c b (n + 1) ρ=some r
 | 0,ρ,r,h=>by cases h
 | n + 1,ρ,r,h=>by
  rw [whileF] at h ⊢
  cases e:c ρ with
  | none=>rw [e] at h;cases h
  | some k=>
   rw [e] at h
   obtain ⟨k,ρ1⟩:=k
   cases k with
   | false=>exact h
   | true=>
    simp only [Option.bind_some,if_true] at h ⊢
    cases e2:b ρ1 with
    | none=>rw [e2] at h;cases h
    | some r2=>
     rw [e2] at h
     cases r2 with
     | nx ρ'=>exact N5 (n:=n) h
     | ct ρ'=>exact N5 (n:=n) h
     | bk ρ'=>exact h
     | rt d ρ'=>exact h
theorem a1A {c:FT}{b:FS}{n m:Nat}{ρ:Ev}{r:R}(h:whileF c b n ρ=some r)(hm:n<=m):whileF c b m ρ=some r:=by
 induction hm with
 | refl=>exact h
 | step _ ih=>exact N5 ih
open Classical in
def whileV (c:FT) (b:FS):FS:=fun ρ=>if h:∃r,∃n,whileF c b n ρ=some r then some h.choose else none
theorem a1T {c:FT}{b:FS}{n:Nat}{ρ:Ev}{r:R}(h:whileF c b n ρ=some r):whileV c b ρ=some r:=by
 have z:∃r,∃n,whileF c b n ρ=some r:=⟨r,n,h⟩
 unfold whileV
 rw [dif_pos z]
 obtain ⟨m,hm⟩:=z.choose_spec
 have h1:=a1A h (Nat.le_max_left n m)
 have h2:=a1A hm (Nat.le_max_right n m)
 rw [h1] at h2
 exact h2.symm
theorem a7a {c:FT}{b:FS}{ρ:Ev}{r:R}(h:whileV c b ρ=some r):∃n,whileF c b n ρ=some r:=by
 unfold whileV at h
 split at h
 ·rename_i z
  cases h
  exact z.choose_spec
 ·cases h
section
variable {X:Cx}{a b c e:Expr}{es:List Expr}{st:Stmt}{rest bd els body:List Stmt}{pos:Pos}{f g:FX}{t:FT}{fa:FA}{F G:FS}
theorem W1 (hp:PassesOwn (model X.prog X.w) X.A X.env X.xe)(hc:QT X c t)(hb:QSs X body F):QS X (.While c body [] pos) (whileV t F):=⟨PS.weak (a7h hp hc.to hb.to) fun E σ H h0=>tSe h0 fun P O L ρ r rp e q=>by
 obtain ⟨n,e⟩:=a7a e
 refine ⟨fun m σ H=>∃ρ,Rep X P O L ρ σ H/\whileF t F m ρ=some r,⟨n,ρ,rp,e⟩,fun m σ H ⟨ρ,rp,e⟩=>?_⟩
 cases m with
 | zero=>cases e
 | succ m=>
  rw [whileF] at e
  obtain ⟨⟨k,ρ1⟩,e1,e⟩:=obs e
  refine ⟨P,O,L,ρ,k,ρ1,rp,e1,fun H1 r1=>?_⟩
  cases k with
  | false=>
   rw [if_neg Bool.false_ne_true]
   cases e
   exact q σ H1 r1
  | true=>
   rw [if_pos rfl]
   simp only [Option.bind_some,if_true] at e
   obtain ⟨r2,e2,e⟩:=obs e
   refine ⟨fun σ' H'=>∃ρ,Rep X P O L ρ σ' H'/\whileF t F m ρ=some r,fun σ' H' h=>⟨m,Nat.lt_succ_self m,h⟩,P,O,L,ρ1,r2,r1,e2,?_⟩
   cases r2 with
   | nx ρ'=>exact fun σ' H' rp'=>⟨ρ',rp',e⟩
   | ct ρ'=>exact fun σ' H' rp'=>⟨ρ',rp',e⟩
   | bk ρ'=>cases e;exact fun σ' H' rp'=>q σ' H' rp'
   | rt d ρ'=>cases e;exact q⟩
abbrev FI:=Ev->Option (List D×Ev)
def Wks (K:PySem.W.Frag) (P:List (D×V)) (xs:List D) (J:It):Prop:=∀(Y:Cx) (O:Av) (L:List (Nat×Addr)) (ρ:Ev) (σ:L2.St) (H:Hp),Y.K=K->Rep Y P O L ρ σ H->
 (∀(i:Nat) (x:D),xs[i]? =some x->J.go i H/\∀v H',J.yld i H v H'->Same H H'/\Den K (AvO O ρ σ) H' x v)/\J.stop xs.length H
def Holds (P P':List (D×V)):Prop:=∀p∈P',p∈P
theorem Rep.holds {P P':List (D×V)}{O:Av}{L:List (Nat×Addr)}{ρ:Ev}{σ:L2.St}{H:Hp}(r:Rep X P O L ρ σ H)(h:Holds P P'):Rep X P' O L ρ σ H:=⟨r.same,r.amb,r.len,r.slot,r.inj,r.new,r.lnt,r.lnd,fun p hp=>r.prot p (h p hp)⟩
def tI (X:Cx) (fi:FI):TI:=fun σ H R=>∃P O L ρ xs ρ',Rep X P O L ρ σ H/\fi ρ=some (xs,ρ')/\∀J H1 P',Rep X P' O L ρ' σ H1->Holds P' P->Wks X.K P' xs J->R J H1
theorem tIe {X:Cx}{fi:FI}{σ:L2.St}{H:Hp}{R:It->Hp->Prop}{C:Prop}(h:tI X fi σ H R)(k:∀P O L ρ xs ρ',Rep X P O L ρ σ H->fi ρ=some (xs,ρ')->(∀J H1 P',Rep X P' O L ρ' σ H1->Holds P' P->Wks X.K P' xs J->R J H1)->C):C:=by
 obtain ⟨P,O,L,ρ,w,ρ',r,e,q⟩:=h
 exact k P O L ρ w ρ' r e q
structure QI (X:Cx) (tg iter:Expr) (fi:FI):Prop where
 to:PI X tg iter (tI X fi)
theorem PI.weak {tg e:Expr}{t u:TI}(h:PI X tg e t)(w:∀σ H Q,u σ H Q->t σ H Q):PI X tg e u:=fun pins s σ H Q I q=>h pins s σ H Q I (w σ H Q q)
def iSeq (K:PySem.W.Frag) (tl:TE):TI:=fun σ H R=>tl σ H fun x H1=>(∃a,x= .ref a/\(∃xs,SqL K H1 a xs)/\R (Itl K a) H1)\/∃a,x= .ref a/\(∃xs,SqT K H1 a xs)/\R (Itt K a) H1
theorem a7r {tg l:Expr}{tl:TE}(hl:PE X l tl):PI X tg l (iSeq X.K tl):=by
 intro pins s σ H R I h
 refine thn (hl pins s σ H _ I h) fun v s1 ⟨x,H1,I1,r1,q1⟩=>?_
 rcases q1 with ⟨a,e,⟨xs,hq⟩,q⟩ | ⟨a,e,⟨xs,hq⟩,q⟩
 ·subst e
  cases r1
  obtain ⟨its,rv,p,hz⟩:=I1.list hq
  refine wpAny_pyIter_list p.isList ?_
  refine ⟨s1.heap.objs.size,[s1.heap.objs.size],_,_,H1,rfl,I1.kept (t':=s1.toks) fun b o e=>Heap.get?_push_of_some _ e,a6T a _,⟨_,Heap.get?_push_size _ rfl,rfl,rfl⟩,fun b hb=>?_,q⟩
  have e:b=s1.heap.objs.size:=by simpa using hb
  subst e
  exact I1.fpOk (Nat.le_refl _) (I1.hok.fresh (Nat.le_refl _))
 ·subst e
  cases r1
  obtain ⟨its,rv,p,hz⟩:=I1.tuple hq
  refine wpAny_pyIter_tuple (show s1.heap.IsTuple a its.toArray from p) ?_
  refine ⟨s1.heap.objs.size,[s1.heap.objs.size],_,_,H1,rfl,I1.kept (t':=s1.toks) fun b o e=>Heap.get?_push_of_some _ e,a4x a _,⟨_,Heap.get?_push_size _ rfl,rfl,rfl⟩,fun b hb=>?_,q⟩
  have e:b=s1.heap.objs.size:=by simpa using hb
  subst e
  exact I1.fpOk (Nat.le_refl _) (I1.hok.fresh (Nat.le_refl _))
def fiSeq (f:FX):FI:=fun ρ=>(f ρ).bind fun p=>(takeAll p.2 [p.1.fz]).bind fun q=>match q.1 with
 | [d]=>(items d).map fun xs=>(xs,q.2)
 | _=>none
theorem A1 {tg l:Expr}(hl:QX X l f):QI X tg l (fiSeq f):=⟨PI.weak (a7r hl.to) fun σ H R h0=>tIe h0 fun P O L ρ xs ρ' r e q=>by
 unfold fiSeq at e
 obtain ⟨⟨w,ρ1⟩,e1,e⟩:=obs e
 dsimp only at e
 obtain ⟨⟨ds,ρ2⟩,e2,e⟩:=obs e
 dsimp only at e
 split at e
 ·rename_i d
  obtain ⟨ys,e3,e⟩:=oms e
  cases e
  refine ⟨P,O,L,ρ,w,ρ1,r,e1,fun v H1 H' r1 s1 d1=>?_⟩
  obtain ⟨r2,l2,_⟩:=k8 (vs:=[v]) (r1.grow s1) e2 ⟨v,[],rfl,d1.fz r1 s1,rfl⟩
  obtain ⟨v',ev,h'⟩:=denL1 l2
  cases ev
  have r3:=r2.more (p:=(d,v)) h'
  have hh:Holds ((d,v) :: P) P:=fun p hp=>List.mem_cons_of_mem _ hp
  cases d with
  | tup zs=>
   cases e3
   have z:=h'
   rw [Den] at z
   obtain ⟨a,vs,rfl,hq,l⟩:=z
   refine .inr ⟨a,rfl,⟨vs,hq⟩,q _ H' _ r3 hh fun Y O' L' ρ' σ' Hh hY rr=>?_⟩
   have z:=rr.head
   rw [hY] at z
   rw [Den] at z
   obtain ⟨a',vs,ea,hq,l⟩:=z
   cases ea
   refine ⟨fun i x ex=>?_,vs,hq,by rw [<-c5 l];exact Nat.le_refl _⟩
   obtain ⟨v0,hv,dv⟩:=v4 l ex
   exact ⟨⟨vs,v0,hq,hv⟩,fun w H' ⟨y1,y2⟩=>by subst y1;have:=y2 vs hq;rw [hv] at this;cases this;exact ⟨Same.refl _,dv⟩⟩
  | lst zs=>
   cases e3
   obtain ⟨a,vs,rfl,hq,l⟩:=E8 h'
   refine .inl ⟨a,rfl,⟨vs,hq⟩,q _ H' _ r3 hh fun Y O' L' ρ' σ' Hh hY rr=>?_⟩
   have z:=rr.head
   rw [hY] at z
   obtain ⟨a',vs,ea,hq,l⟩:=E8 z
   cases ea
   refine ⟨fun i x ex=>?_,vs,hq,by rw [<-c5 l];exact Nat.le_refl _⟩
   obtain ⟨v0,hv,dv⟩:=v4 l ex
   exact ⟨⟨vs,v0,hq,hv⟩,fun w H' ⟨y1,y2⟩=>by subst y1;have:=y2 vs hq;rw [hv] at this;cases this;exact ⟨Same.refl _,dv⟩⟩
  | _=>cases e3
 ·cases e⟩
def rngD (lo:Int) (n:Nat):List D:=(List.range n).map fun (i:Nat)=>D.int (lo + i)
theorem a13 {K:PySem.W.Frag}{P:List (D×V)}(lo:Int)(n:Nat):Wks K P (rngD lo n) (Itr lo n):=fun Y O L ρ σ H _ _=>by
 unfold rngD
 refine ⟨fun i x ex=>?_,by show (List.length _)≥n;simp⟩
 rw [List.getElem?_map] at ex
 by_cases hi:i < n
 ·rw [List.getElem?_range hi] at ex
  cases ex
  exact ⟨hi,fun v H' ⟨y1,y2⟩=>by subst y1;exact ⟨Same.refl _,v3.mpr y2⟩⟩
 ·rw [List.getElem?_eq_none (by simpa using hi)] at ex;cases ex
def fiR1 (fa:FA):FI:=fun ρ=>(fa ρ).bind fun p=>match p.1 with
 | [.v (.int n)]=>if -(2 ^ 62)<=n/\n < 2 ^ 62 then some (rngD 0 n.toNat,p.2) else none
 | _=>none
theorem a0W {tg:Expr}{p:Pos}(hm:X.mg "range"=none)(ha:QA X [a] fa)(hg:Gl X "range":=by rfl)(hs:starEach [a] X.env=[(false,eval a X.env)]:=by rfl):QI X tg (.Call (.Name "range" p) [a] [] pos) (fiR1 fa):=⟨PI.weak (a6A hg hm ha.to hs) fun σ H R h0=>tIe h0 fun P O L ρ xs ρ' r e q=>by
 unfold fiR1 at e
 obtain ⟨⟨ws,ρ1⟩,e1,e⟩:=obs e
 dsimp only at e
 split at e
 ·rename_i n
  split at e
  ·rename_i hn
   cases e
   refine ⟨P,O,L,ρ,_,_,r,e1,fun vs H1 r1 l1=>?_⟩
   obtain ⟨v,rs,rfl,h1,l1⟩:=l1
   have l1:rs=[]:=l1
   have h1:Den X.K (AvO O ρ' σ) H1 (.int n) v:=h1
   subst l1
   exact ⟨n,by rw [v3.mp h1],hn.1,hn.2,q _ H1 P r1 (fun p hp=>hp) (a13 0 _)⟩
  ·cases e
 ·cases e⟩
def fiR2 (fa:FA):FI:=fun ρ=>(fa ρ).bind fun p=>match p.1 with
 | [.v (.int m),.v (.int n)]=>if (-(2 ^ 62)<=m/\m < 2 ^ 62)/\-(2 ^ 62)<=n/\n < 2 ^ 62 then some (rngD m (n - m).toNat,p.2) else none
 | _=>none
theorem qi_r2 {tg:Expr}{p:Pos}(hm:X.mg "range"=none)(ha:QA X [a,b] fa)(hg:Gl X "range":=by rfl)(hs:starEach [a,b] X.env=[(false,eval a X.env),(false,eval b X.env)]:=by rfl)(hs2:starEach [b] X.env=[(false,eval b X.env)]:=by rfl):QI X tg (.Call (.Name "range" p) [a,b] [] pos) (fiR2 fa):=⟨PI.weak (a7b hg hm ha.to hs hs2) fun σ H R h0=>tIe h0 fun P O L ρ xs ρ' r e q=>by
 unfold fiR2 at e
 obtain ⟨⟨ws,ρ1⟩,e1,e⟩:=obs e
 dsimp only at e
 split at e
 ·rename_i m n
  split at e
  ·rename_i hn
   cases e
   refine ⟨P,O,L,ρ,_,_,r,e1,fun vs H1 r1 l1=>?_⟩
   obtain ⟨v,rs,rfl,h1,u,rs',rfl,h2,l1⟩:=l1
   have l1:rs'=[]:=l1
   have h1:Den X.K (AvO O ρ' σ) H1 (.int m) v:=h1
   have h2:Den X.K (AvO O ρ' σ) H1 (.int n) u:=h2
   subst l1
   exact ⟨m,n,by rw [v3.mp h1,v3.mp h2],⟨hn.1.1,hn.1.2,hn.2.1,hn.2.2⟩,q _ H1 P r1 (fun p hp=>hp) (a13 m _)⟩
  ·cases e
 ·cases e⟩
def loopF (b:D->FS):List D->Ev->Option R
 | [],ρ=>some (.nx ρ)
 | x :: xs,ρ=>(b x ρ).bind fun r=>match r with
  | .nx ρ'=>loopF b xs ρ'
  | .ct ρ'=>loopF b xs ρ'
  | .bk ρ'=>some (.nx ρ')
  | .rt d ρ'=>some (.rt d ρ')
def turnF (gf:FG) (b:FS):D->FS:=fun x ρ=>(gf x ρ).bind b
def fFor (fi:FI) (gf:FG) (b:FS):FS:=fun ρ=>(fi ρ).bind fun p=>loopF (turnF gf b) p.1 p.2
theorem F4 {tg iter:Expr}{fi:FI}{gf:FG}(hp:PassesOwn (model X.prog X.w) X.A X.env X.xe)(hc:X.calm=true)(hi:QI X tg iter fi)(hg:QG X tg gf)(hb:QSs X body F)(hs:∀x,foldedSetIterable iter X.env x=pure x:=by intro _;rfl):
  QS X (.For tg iter body [] pos) (fFor fi gf F):=by
 obtain ⟨g,pg,kg⟩:=hg.to
 refine ⟨PS.weak (b2h hp hc hi.to pg hb.to hs) fun E σ H h0=>tSe h0 fun P O L ρ r rp e q=>?_⟩
 unfold fFor at e
 obtain ⟨⟨xs,ρ1⟩,e1,e⟩:=obs e
 dsimp only at e
 refine ⟨P,O,L,ρ,xs,ρ1,rp,e1,fun J H1 P' r1 hh wk=>?_⟩
 refine ⟨fun i m σ H=>m=xs.length - i/\i<=xs.length/\∃ρ,Rep X P' O L ρ σ H/\loopF (turnF gf F) (xs.drop i) ρ=some r,⟨xs.length,by simp,Nat.zero_le _,ρ1,r1,by simpa using e⟩,?_⟩
 rintro i m σ H ⟨rfl,hi,ρ,rp,e⟩
 obtain ⟨wi,ws⟩:=wk X O L ρ σ H rfl rp
 by_cases hlt:i < xs.length
 ·obtain ⟨go,yl⟩:=wi i xs[i] (by simp [hlt])
  refine .inr ⟨go,fun σ' H'=>∃ρ,Rep X P' O L ρ σ' H'/\loopF (turnF gf F) (xs.drop (i + 1)) ρ=some r,fun σ' H' h=>⟨xs.length - (i + 1),by omega,rfl,hlt,h⟩,fun v H' y=>?_⟩
  obtain ⟨sm,dv⟩:=yl v H' y
  rw [List.drop_eq_getElem_cons hlt,loopF] at e
  cases e1:turnF gf F xs[i] ρ with
  | none=>rw [e1] at e;cases e
  | some r1=>
   rw [e1] at e
   simp only [Option.bind_some] at e
   unfold turnF at e1
   obtain ⟨ρ1,e2,e1⟩:=obs e1
   refine kg P' O L xs[i] v ρ ρ1 σ _ _ (rp.grow sm) dv e2 fun σ' H2 rp'=>⟨P',O,L,ρ1,r1,rp',e1,?_⟩
   cases r1 with
   | nx ρ2=>exact fun σ2 H2 rp2=>⟨ρ2,rp2,e⟩
   | ct ρ2=>exact fun σ2 H2 rp2=>⟨ρ2,rp2,e⟩
   | bk ρ2=>cases e;exact fun σ2 H2 rp2=>q σ2 H2 (rp2.holds hh)
   | rt d ρ2=>cases e;exact q
 ·have ei:i=xs.length:=by omega
  subst ei
  rw [List.drop_length,loopF] at e
  cases e
  exact .inl ⟨ws,q σ H (rp.holds hh)⟩
end
def spF (K:PySem.W.Frag) (g:List D->Option W):Sp:=fun vs H Q _=>∃(A:Av) (ds:List D) (w:W),(∀b,A b->∃o,H b=some o)/\DenL K A H ds vs/\g ds=some w/\∀v H',Same H H'->DenW K A [] H H' w v->Q v H'
structure FnS (P:Program) (w:World) (K:PySem.W.Frag) (mg:Str->Option Value) (base:Heap) (x:Str) (k:Nat) (sp:Sp):Prop where
 ex:∃(f:Addr) (fd:FuncData) (ps:List Str),FnOk P w K mg base CX0 k f fd ps sp/\Binds K fd ps []/\PySem.W.keepIn K (.ref f)=true/\mg x=some (.ref f)
abbrev Fn (P:Program) (w:World) (K:PySem.W.Frag) (mg:Str->Option Value) (base:Heap) (x:Str) (k:Nat) (g:List D->Option W):Prop:=FnS P w K mg base x k (spF K g)
section
variable {P:Program}{w:World}{K:PySem.W.Frag}{mg:Str->Option Value}{base:Heap}{x:Str}{j k:Nat}
theorem FnS.mono {sp:Sp}(F:FnS P w K mg base x j sp)(h:j<=k):FnS P w K mg base x k sp:=by
 obtain ⟨f,fd,ps,a,b,c,d⟩:=F.ex
 exact ⟨f,fd,ps,a.mono h,b,c,d⟩
end
def lfC:D->Bool
 | .lst xs=>lfL xs
 | .dT _ xs=>lfL xs
 | .dK _ xs=>lfL xs
 | _=>false
def lfW:W->Bool
 | .v d=>lf d
 | .o d=>lfC d
 | _=>false
def frzL:List W->Ev->Option Ev
 | [],ρ=>some ρ
 | .r i :: ws,ρ=>(frzAt ρ i).bind (frzL ws)
 | _ :: ws,ρ=>frzL ws ρ
def fDef (g:List D->Option W) (fa:FA):FX:=fun ρ=>(fa ρ).bind fun p=>(drs p.2 p.1).bind fun ds=>(g ds).bind fun w=>if lfW w=true then some (w,p.2) else (frzL p.1 p.2).map fun ρ2=>(w,ρ2)
def noR (i:Nat):List W->Bool
 | []=>true
 | .r j :: ws=>i != j && noR i ws
 | _ :: ws=>noR i ws
def fDefL (g:D->List D->Option (W×D)) (fa:FA):FX:=fun ρ=>(fa ρ).bind fun p=>match p.1 with
 | .r i :: ws=>(ownAt p.2 i).bind fun c=>(drs p.2 ws).bind fun ds=>(g c ds).bind fun z=>if noR i ws=true/\lfC z.2=true then (if lfW z.1=true then some (z.1,setOwn p.2 i z.2) else (frzL ws (setOwn p.2 i z.2)).map fun ρ2=>(z.1,ρ2)) else none
 | _=>none
section
variable {K:PySem.W.Frag}{A A':Av}{H H' H0 H1:Hp}
theorem T5 (g:∀b o,H b=some o->¬Mu o->H' b=some o){a:Addr}{d:D}(f:lfC d=true)(hk:H' a=H a)(h:Obj K A H a d):Obj K A' H' a d:=by
 cases d with
 | lst xs=>obtain ⟨vs,e,l⟩:=h;exact ⟨vs,hk.trans e,V5 g _ _ f l⟩
 | dT ks xs=>obtain ⟨vs,e,hl,l⟩:=h;exact ⟨vs,hk.trans e,hl,V5 g _ _ f l⟩
 | dK ks xs=>obtain ⟨vs,e,hl,l⟩:=h;exact ⟨vs,hk.trans e,hl,V5 g _ _ f l⟩
 | _=>exact h.elim
end
section
variable {X:Cx}{P:List (D×V)}{O:Av}{L:List (Nat×Addr)}{ρ ρ':Ev}{σ:L2.St}{H H1 H':Hp}
theorem G7:∀{ws:List W} {ρ ρ':Ev},Rep X P O L ρ σ H->frzL ws ρ=some ρ'->Rep X P O L ρ' σ H/\∀(j:Nat) (w:W) (d:D),ρ'[j]? =some (some w)->w.own=some d->ρ[j]? =some (some w)/\W.r j∉ws
 | [],ρ,ρ',r,e=>by cases e;exact ⟨r,fun j w d e1 _=>⟨e1,by simp⟩⟩
 | .r i :: ws,ρ,ρ',r,e=>by
  rw [frzL] at e
  obtain ⟨ρ1,e1,e⟩:=obs e
  obtain ⟨r1,k1⟩:=r.frz e1
  obtain ⟨r2,k2⟩:=G7 r1 e
  refine ⟨r2,fun j w d e1 e2=>?_⟩
  obtain ⟨a1,a2⟩:=k2 j w d e1 e2
  obtain ⟨b1,b2⟩:=k1 j w d a1 e2
  exact ⟨b1,fun z=>(List.mem_cons.mp z).elim (fun z=>by cases z;exact b2 rfl) a2⟩
 | .v _ :: ws,ρ,ρ',r,e=>by
  obtain ⟨r2,k2⟩:=G7 (ws:=ws) r e
  exact ⟨r2,fun j w d e1 e2=>⟨(k2 j w d e1 e2).1,fun z=>(List.mem_cons.mp z).elim (fun z=>by cases z) (k2 j w d e1 e2).2⟩⟩
 | .o _ :: ws,ρ,ρ',r,e=>by
  obtain ⟨r2,k2⟩:=G7 (ws:=ws) r e
  exact ⟨r2,fun j w d e1 e2=>⟨(k2 j w d e1 e2).1,fun z=>(List.mem_cons.mp z).elim (fun z=>by cases z) (k2 j w d e1 e2).2⟩⟩
 | .l _ :: ws,ρ,ρ',r,e=>by
  obtain ⟨r2,k2⟩:=G7 (ws:=ws) r e
  exact ⟨r2,fun j w d e1 e2=>⟨(k2 j w d e1 e2).1,fun z=>(List.mem_cons.mp z).elim (fun z=>by cases z) (k2 j w d e1 e2).2⟩⟩
def Handed (ρ:Ev) (σ:L2.St) (ws:List W) (b:Addr):Prop:=∃(i:Nat) (w:W) (d:D),W.r i∈ws/\ρ[i]? =some (some w)/\w.own=some d/\σ[i]? =some (some (V.ref b))
theorem a2d {B:Av}(r:Rep X P O L ρ σ H)(hB:∀b,B b->AvO O ρ σ b):∀{ws:List W} {ds:List D} {vs:List V},(∀b,B b->¬Handed ρ σ ws b)->drs ρ ws=some ds->DenA X.K (AvO O ρ σ) σ H ws vs->DenL X.K B H ds vs
 | [],ds,vs,n,e,h=>by cases e;have h:vs=[]:=h;subst h;exact j4
 | w :: ws,ds,vs,n,e,h=>by
  obtain ⟨v,rs,rfl,h1,h2⟩:=h
  rw [drs] at e
  cases e1:dr ρ w with
  | none=>rw [e1] at e;cases e
  | some d=>
   cases e2:drs ρ ws with
   | none=>rw [e1,e2] at e;cases e
   | some dd=>
    rw [e1,e2] at e;cases e
    refine g8 ?_ (a2d r hB (fun b z y=>n b z (let ⟨i,w,d,m,q⟩:=y;⟨i,w,d,List.mem_cons_of_mem _ m,q⟩)) e2 h2)
    cases w with
    | v c=>cases e1;exact m7 (w4 hB) _ _ h1
    | r i=>
     have h1:σ[i]? =some (some v):=h1
     rw [dr] at e1
     cases q:ρ[i]? with
     | none=>rw [q] at e1;cases e1
     | some o=>
      rw [q] at e1
      cases o with
      | none=>cases e1
      | some w'=>
       cases w' with
       | v c=>
        cases e1
        obtain ⟨u,q1,q2⟩:=r.slot i _ q
        rw [h1] at q1;cases q1
        exact m7 (w4 hB) _ _ q2
       | _=>
        obtain ⟨a,q1,q2⟩:=r.obj q e1
        rw [h1] at q1;cases q1
        exact J1 (t4 (w4 hB) rfl q2) fun z=>n a z ⟨i,_,d,List.mem_cons_self,q,e1,h1⟩
    | _=>cases e1
theorem R6 {ws:List W}(r:Rep X P O L ρ σ H)(k:∀(j:Nat) (w:W) (d:D),ρ'[j]? =some (some w)->w.own=some d->ρ[j]? =some (some w)/\W.r j∉ws){b:Addr}(z:AvO O ρ' σ b):AvO O ρ σ b/\¬Handed ρ σ ws b:=by
 refine ⟨z.imp id fun ⟨j,w,d,e1,e2,e3⟩=>⟨j,w,d,(k j w d e1 e2).1,e2,e3⟩,fun ⟨i,w,d,m,q1,q2,q3⟩=>?_⟩
 rcases z with z | ⟨j,w',d',e1,e2,e3⟩
 ·exact r.ambN z ⟨i,w,d,q1,q2,q3⟩
 ·obtain ⟨a1,a2⟩:=k j w' d' e1 e2
  have:=r.inj i j w w' d d' b q1 q2 q3 a1 e2 e3
  subst this;exact a2 m
end
section
variable {X:Cx}{e:Expr}{es:List Expr}{pos p:Pos}{fa:FA}{x:Str}{k:Nat}
theorem c9 {g:List D->Option W}(F:Fn X.prog X.w X.K X.mg X.base x k g)(hr:Room k X.A)(ha:QA X (e :: es) fa)(hg:Gl X x:=by rfl)(hdb:(x == ("__debug__":Str))=false:=by decide)
  (he:starEach (e :: es) X.env=(false,eval e X.env) :: starEach es X.env:=by rfl) (hpl:(backTo pos (starEach es X.env)).any (·.1)=false:=by rfl):QX X (.Call (.Name x p) (e :: es) [] pos) (fDef g fa):=by
 obtain ⟨f,fd,ps,F,b,kp,hm⟩:=F.ex
 refine ⟨PE.weak (b0a F hr hg hm kp b .nil pass0 ha.to hdb he hpl) fun σ H Q h0=>tXe h0 fun P O L ρ w ρ' r e q=>?_⟩
 unfold fDef at e
 obtain ⟨⟨ws,ρ1⟩,e1,e⟩:=obs e
 dsimp only at e
 cases e2:drs ρ1 ws with
 | none=>rw [e2] at e;cases e
 | some ds=>
  rw [e2] at e
  simp only [Option.bind_some] at e
  cases e3:g ds with
  | none=>rw [e3] at e;cases e
  | some w1=>
   rw [e3] at e
   simp only [Option.bind_some] at e
   refine ⟨P,O,L,ρ,ws,ρ1,r,e1,fun vs H1 r1 l1=>?_⟩
   refine ⟨fun b=>AvO O ρ1 σ b/\¬Handed ρ1 σ ws b,ds,w1,fun b z=>r1.there z.1,by rw [List.append_nil];exact a2d r1 (fun b z=>z.1) (fun b z=>z.2) e2 l1,e3,fun v H2 s2 d2=>?_⟩
   split at e
   ·rename_i hl
    cases e
    refine q v H1 H2 r1 s2 ?_
    cases w with
    | v d=>exact a8b (fun _ _ e _=>e) _ _ hl d2
    | o d=>obtain ⟨a,ev,hn,ob⟩:=d2;exact ⟨a,ev,hn,T5 (fun _ _ e _=>e) hl rfl ob⟩
    | _=>cases hl
   ·obtain ⟨ρ2,e4,e⟩:=oms e
    cases e
    obtain ⟨r2,k2⟩:=G7 r1 e4
    refine q v H1 H2 r2 s2 ?_
    have sub:=fun b (z:AvO O ρ' σ b)=>R6 r1 k2 z
    cases w with
    | v d=>exact m7 (w4 sub) _ _ d2
    | o d=>obtain ⟨a,ev,hn,ob⟩:=d2;exact ⟨a,ev,hn,t4 (w4 fun b z=>z.imp (sub b) id) rfl ob⟩
    | r i=>exact absurd d2 (by simp [DenW])
    | l d=>exact d2.elim
end
def start0 (n:Nat) (ds:List D):Ev:=ds.map (fun d=>some (.v d)) ++ List.replicate (n - ds.length) none
def runD (np n:Nat) (G:FS):List D->Option W:=fun ds=>if ds.length=np then match G (start0 n ds) with
 | some (.rt w _)=>some w
 | some (.nx _)=>some (.v .non)
 | _=>none else none
def runL (np n:Nat) (G:FS):D->List D->Option (W×D):=fun c ds=>if ds.length + 1=np then match G (some (.l c) :: start0 (n - 1) ds) with
 | some (.rt w ρ)=>(ownAt ρ 0).map fun c'=>(w,c')
 | some (.nx ρ)=>(ownAt ρ 0).map fun c'=>(.v .non,c')
 | _=>none else none
section
variable {P:Program}{w:World}{K:PySem.W.Frag}{mg:Str->Option Value}{base:Heap}
theorem D5 {n i:Nat}{ds:List D}{w:W}(e:(start0 n ds)[i]? =some (some w)):∃d,ds[i]? =some d/\w= .v d:=by
 unfold start0 at e
 by_cases hi:i < ds.length
 ·rw [List.getElem?_append_left (by simpa using hi),List.getElem?_map] at e
  cases q:ds[i]? with
  | none=>rw [q] at e;cases e
  | some d0=>rw [q] at e;cases e;exact ⟨d0,rfl,rfl⟩
 ·rw [List.getElem?_append_right (by simpa using hi),List.getElem?_replicate] at e
  split at e <;> cases e
theorem a1H {X:Cx}{ds:List D}{vs:List V}{n:Nat}{N:List Str}{H:Hp}{A:Av}(hH:X.H₀=H)(hN:N.length=n)(hA:∀b,A b->∃o,H b=some o)(l:DenL X.K A H ds vs):Rep X [] A [] (start0 n ds) (start N vs) H where
 same:=fun b o e _=>by rw [<-hH];exact e
 amb:=fun b z=>by rw [hH];exact ⟨hA b z,fun i=>by simp⟩
 len:=by unfold start0 L2.start;simp [c5 l,hN]
 slot:=fun i w e=>by
  obtain ⟨d,q,rfl⟩:=D5 e
  obtain ⟨v,h1,h2⟩:=v4 l q
  refine ⟨v,?_,m7 (w4 fun b z=>?_) _ _ h2⟩
  ·unfold L2.start
   rw [List.getElem?_append_left (by have:=(List.getElem?_eq_some_iff.mp h1).1;simpa using this),List.getElem?_map,h1];rfl
  ·rcases z with z | ⟨j,w,c,e1,e2,e3⟩
   ·exact z
   ·obtain ⟨d',q',rfl⟩:=D5 e1;cases e2
 inj:=fun i j w w' d d' b e1 e2=>by obtain ⟨_,_,rfl⟩:=D5 e1;cases e2
 new:=fun i d b e=>by obtain ⟨_,_,z⟩:=D5 e;cases z
 lnt:=fun i d e=>by obtain ⟨_,_,z⟩:=D5 e;cases z
 lnd:=fun i b e=>by simp at e
 prot:=fun p hp=>by cases hp
theorem o0 {x:Str}{st:Stmt}{f:Addr}{fd:FuncData}{N ps:List Str}{k np n:Nat}{G:FS}(F:Fun K x x st f fd)(S:FnScope N ps (defScope st))(B:Binds K fd ps [])(hm:mg x=some (.ref f))(hp:ps.length=np)(hn:N.length=n)
  (body:∀(cdv:Value) (A:Around) (outer:List Env) (s:Shared) (H:Hp) (E:XK),Room k (A.deeper (envOfC x (defScope st) s.heap.objs.size f cdv))->
   QSs (cxOf CX0 P w K mg base N x (defScope st) f cdv A outer s H E).nox (defBody st) G):Fn P w K mg base x (k + 1) (runD np n G):=by
 refine ⟨f,fd,ps,F.ok S (fun vs H Q E h0=>?_) (fun cdv A outer s H vs Q E hr h0=>⟨_,(body cdv A outer s H E hr).to,?_⟩),B,F.kp,hm⟩
 ·obtain ⟨A,ds,d,hA,l,e,q⟩:=h0
  unfold runD at e
  split at e
  ·rename_i hl;rw [<-c5 l,hl,hp]
  ·cases e
 ·obtain ⟨A',ds,d,hA,l,e,q⟩:=h0
  unfold runD at e
  split at e
  ·rename_i hl
   cases e1:G (start0 n ds) with
   | none=>rw [e1] at e;cases e
   | some r=>
    rw [e1] at e
    refine ⟨[],A',[],_,r,a1H rfl hn hA l,e1,?_⟩
    have hz:∀{w:W} {v:V} {H':Hp},DenW K (A0 A' []) [] H H' w v->DenW K A' [] H H' w v:=fun {w v H'} h=>by
     have e0:A0 A' []=A':=funext fun b=>propext ⟨fun z=>z.elim id fun ⟨i,z⟩=>by simp at z,.inl⟩
     rw [e0] at h;exact h
    cases r with
    | rt w ρ'=>cases e;exact fun v H' s' _ d1=>q v H' (fun b o eb=>s' b o eb fun i=>by simp) (hz d1)
    | nx ρ'=>cases e;exact fun σ' H' rp'=>q .non H' (fun b o eb=>rp'.same b o eb fun i=>by simp) U9
    | bk ρ'=>cases e
    | ct ρ'=>cases e
  ·cases e
end
@[elab_as_elim] theorem us1 {α:Type} {C:List α->Prop} {us:List α} (h:us.length=1) (k:∀a,C [a]):C us:=by
 match us,h with
 | [a],_=>exact k a
@[elab_as_elim] theorem us2 {α:Type} {C:List α->Prop} {us:List α} (h:us.length=2) (k:∀a b,C [a,b]):C us:=by
 match us,h with
 | [a,b],_=>exact k a b
@[elab_as_elim] theorem us3 {α:Type} {C:List α->Prop} {us:List α} (h:us.length=3) (k:∀a b c,C [a,b,c]):C us:=by
 match us,h with
 | [a,b,c],_=>exact k a b c
section
variable {X:Cx}{a b c e:Expr}{es rest:List Expr}{pos:Pos}{f g h:FX}{t u:FT}{fa:FA}
theorem a0u {K:PySem.W.Frag}{A:Av}{H:Hp}{i:Bool}{v:V}(h:DenR K A H (.bl i) v):v= .bl i:=by
 have h:Den K A H (.bl i) v:=h
 exact a05.mp h
theorem a07 {K:PySem.W.Frag}{A:Av}{H:Hp}{i:Str}{v:V}(h:DenR K A H (.str i) v):v= .str i:=by
 have h:Den K A H (.str i) v:=h
 exact a24.mp h
theorem a1f {K:PySem.W.Frag}{A:Av}{H:Hp}{v:V}(h:DenR K A H .non v):v= .non:=by
 have h:Den K A H .non v:=h
 exact a9V.mp h
def tyD:D->String
 | .non=>"NoneType"
 | .bl _=>"bool"
 | .int _=>"int"
 | .str _=>"str"
 | .tup _=>"tuple"
 | .dT _ _=>"dict"
 | .dK _ _=>"dict"
 | _=>"list"
def isX:D->Bool
 | .exn _=>true
 | _=>false
def isiB (T:String) (d:D):Bool:=tyD d == T || (tyD d == "bool" && T == "int")
def Kit (K:PySem.W.Frag) (T:String):Prop:=∀d:D,PySem.W.kitOne K (.type (tyD d)) (.type T)=some (isiB T d)
theorem a28 {K:PySem.W.Frag}{T:String}(h:T="int"\/T="bool"\/T="str"\/T="tuple"\/T="list"):Kit K T:=by
 rcases h with h | h | h | h | h <;> subst h <;> intro d <;> cases d <;> rfl
theorem a8t {T:String}(hk:Kit X.K T):CallR X (.builtin "isinstance") (fun xs H Q=>∃x A d,xs=[x,.ty T]/\isX d=false/\DenR X.K A H d x/\Q (.bl (isiB T d)) H):=by
 intro pins s σ H xs us Q I r h
 obtain ⟨x,A,d,rfl,nx,hd,q⟩:=h
 obtain ⟨u,w,rfl,ru,rw'⟩:=vals2 r
 cases (show w=Value.type T from rw')
 have e:=hk d
 have fin:∀tk,EP X pins σ Q (.bool (isiB T d)) {s with toks:=tk}:=fun tk=>⟨.bl _,H,I.tok _,rfl,q⟩
 cases d with
 | non=>have hd:=a1f hd;subst hd;cases (show u=Value.none from ru);exact PySem.W.kia_one PySem.W.kitx_none I.kIn True.intro e (fun z=>nomatch z) fin
 | bl y=>have hd:=a0u hd;subst hd;cases (show u=Value.bool y from ru);exact PySem.W.kia_one PySem.W.kitx_bool I.kIn True.intro e (fun z=>nomatch z) fin
 | int i=>have hd:=g7 hd;subst hd;obtain ⟨t,z⟩:=(show ∃t,u=Value.int i t from ru);cases z;exact PySem.W.kia_one PySem.W.kitx_int I.kIn True.intro e (fun z=>nomatch z) fin
 | str y=>have hd:=a07 hd;subst hd;obtain ⟨t,z⟩:=(show ∃t,u=Value.str y t from ru);cases z;exact PySem.W.kia_one PySem.W.kitx_str I.kIn True.intro e (fun z=>nomatch z) fin
 | tup ys=>
  have hd:Den X.K A H (.tup ys) x:=hd
  rw [Den] at hd
  obtain ⟨a,vs,rfl,hq,_⟩:=hd
  cases (show u=Value.ref a from ru)
  obtain ⟨its,_,p,_⟩:=I.tuple hq
  obtain ⟨o,h1,h2,_⟩:=p
  exact PySem.W.kia_one PySem.W.kitx_tuple I.kIn ⟨o,h1,h2⟩ e (fun z=>nomatch z) fin
 | lst ys=>
  obtain ⟨a,vs,rfl,hq,_⟩:=hd
  cases (show u=Value.ref a from ru)
  obtain ⟨its,_,p,_⟩:=I.list hq
  obtain ⟨o,n,h1,h2,_⟩:=p
  exact PySem.W.kia_one PySem.W.kitx_list I.kIn ⟨o,h1,h2⟩ e (fun z=>nomatch z) fin
 | dK ks ys=>
  obtain ⟨a,vs,rfl,hq,_⟩:=hd
  cases (show u=Value.ref a from ru)
  obtain ⟨_,_,vs,_,p⟩:=(show ObjOk X.prog X.w H s.heap a (.dK _) from I.hok a _ hq)
  obtain ⟨o,es,ep,h1,h2,_⟩:=p
  exact PySem.W.kia_one PySem.W.kitx_dict I.kIn ⟨o,h1,h2.1⟩ e (fun z=>nomatch z) fin
 | dT ks ys=>
  obtain ⟨a,vs,rfl,hq,_⟩:=hd
  cases (show u=Value.ref a from ru)
  obtain ⟨_,_,xs,_,o,es,ep,h1,h2,_⟩:=(show ObjOk X.prog X.w H s.heap a (.dT _) from I.hok a _ hq)
  exact PySem.W.kia_one PySem.W.kitx_dict I.kIn ⟨o,h1,h2.1⟩ e (fun z=>nomatch z) fin
 | exn C=>cases nx
def oIsi (T:String) (d:D):Option W:=if isX d=true then none else some (.v (.bl (isiB T d)))
theorem a2Z {T:String}{x:Str}{p p2:Pos}(hk:Kit X.K T)(hm:X.mg "isinstance"=none)(hmT:X.mg x=none)(ha:QX X e f)(hT:bootBuiltins x=some (.type T):=by rfl)(hb:bootBuiltins "isinstance"=some (.builtin "isinstance"):=by rfl)(hg:Gl X "isinstance":=by rfl)(hgT:Gl X x:=by rfl)(hn:x≠"__name__":=by decide)(hdb:(x == ("__debug__":Str))=false:=by decide)
  (he:starEach [e,.Name x p2] X.env=(false,eval e X.env) :: starEach [.Name x p2] X.env:=by rfl) (hpl:(backTo pos (starEach [.Name x p2] X.env)).any (·.1)=false:=by rfl) (hs:starEach [.Name x p2] X.env=(false,eval (.Name x p2) X.env) :: starEach [] X.env:=by rfl):QX X (.Call (.Name "isinstance" p) [e,.Name x p2] [] pos) (fUn (oIsi T) f):=
 ⟨PE.weak (a3o (a8t hk) hg hm hb (a2v ha.to (a2v (a99 (v:=.ty T) hgT hmT hT rfl hn hdb) a4I hs) he) (by decide) (by decide) he hpl) fun σ H Q h=>
  a49 (r:=fun v H Q=>∃x A d,[v,V.ty T]=[x,.ty T]/\isX d=false/\DenR X.K A H d x/\Q (.bl (isiB T d)) H) (fun A x w v H Q _ e hx q=>by
   unfold oIsi at e
   split at e
   ·cases e
   ·rename_i nx;cases e;exact ⟨v,A,x,rfl,by simpa using nx,hx,q _ H (Same.refl H) A2⟩) σ H Q h⟩
def isD:D->D->Option Bool
 | .non,.non=>some true
 | d,.non=>some false
 | .bl a,.bl b=>some (a == b)
 | _,.bl _=>some false
 | _,_=>none
theorem a8c {M:Model}{A:Around}{E:Value->Shared->Prop}{s:Shared}{x y:Value}{k:Bool}{Q:Value->Shared->Prop}(h:isSame x y=pure k)(q:Q (.bool (!k)) s):wpAny M A (compareOp .IsNot x y) Q E s:=by
 show wpAny M A (isSame x y >>=fun b=>pure (Value.bool (!b))) Q E s
 rw [h]
 exact wpAny_pure q
theorem a8C {K:PySem.W.Frag}{A:Av}{H:Hp}{x:D}{v:V}{vv:Value}(hx:DenR K A H x v)(rx:RelV v vv):(x= .non/\vv= .none)\/(∃b,x= .bl b/\vv= .bool b)\/(∃i t,x= .int i/\vv= .int i t)\/(∃y t,x= .str y/\vv= .str y t)\/((∀b,x≠.bl b)/\x≠.non/\∃a,v= .ref a/\vv= .ref a):=by
 cases x with
 | non=>have h:=a1f hx;subst h;exact .inl ⟨rfl,rx⟩
 | bl b=>have h:=a0u hx;subst h;exact .inr (.inl ⟨b,rfl,rx⟩)
 | int i=>have h:=g7 hx;subst h;obtain ⟨t,e⟩:=(show ∃t,vv=Value.int i t from rx);exact .inr (.inr (.inl ⟨i,t,rfl,e⟩))
 | str i=>have h:=a07 hx;subst h;obtain ⟨t,e⟩:=(show ∃t,vv=Value.str i t from rx);exact .inr (.inr (.inr (.inl ⟨i,t,rfl,e⟩)))
 | tup xs=>
  have hx:Den K A H (.tup xs) v:=hx
  rw [Den] at hx;obtain ⟨a,vs,rfl,_⟩:=hx;exact .inr (.inr (.inr (.inr ⟨nofun,nofun,a,rfl,rx⟩)))
 | lst xs=>obtain ⟨a,vs,rfl,_⟩:=hx;exact .inr (.inr (.inr (.inr ⟨nofun,nofun,a,rfl,rx⟩)))
 | dT ks xs=>obtain ⟨a,vs,rfl,_⟩:=hx;exact .inr (.inr (.inr (.inr ⟨nofun,nofun,a,rfl,rx⟩)))
 | dK ks xs=>obtain ⟨a,vs,rfl,_⟩:=hx;exact .inr (.inr (.inr (.inr ⟨nofun,nofun,a,rfl,rx⟩)))
 | exn C=>
  have hx:Den K A H (.exn C) v:=hx
  rw [Den] at hx;obtain ⟨a,rfl,_⟩:=hx;exact .inr (.inr (.inr (.inr ⟨nofun,nofun,a,rfl,rx⟩)))
theorem a9I {K:PySem.W.Frag}{A:Av}{H:Hp}{x y:D}{v u:V}{vv uu:Value}{k:Bool}(e:isD x y=some k)(hx:DenR K A H x v)(hy:DenR K A H y u)(rx:RelV v vv)(ry:RelV u uu):isSame vv uu=pure k:=by
 cases y with
 | non=>
  have hy:=a1f hy;subst hy;cases (show uu=Value.none from ry)
  rw [PySem.isSame_none]
  rcases a8C hx rx with ⟨rfl,rfl⟩ | ⟨b,rfl,rfl⟩ | ⟨i,t,rfl,rfl⟩ | ⟨i,t,rfl,rfl⟩ | ⟨n1,n2,a,rfl,rfl⟩
  ·cases e;rfl
  ·cases e;rfl
  ·cases e;rfl
  ·cases e;rfl
  ·cases x <;> simp only [isD] at e <;> first | (cases e;rfl) | exact absurd rfl n2
 | bl q=>
  have hy:=a0u hy;subst hy;cases (show uu=Value.bool q from ry)
  rcases a8C hx rx with ⟨rfl,rfl⟩ | ⟨b,rfl,rfl⟩ | ⟨i,t,rfl,rfl⟩ | ⟨i,t,rfl,rfl⟩ | ⟨n1,n2,a,rfl,rfl⟩
  ·cases e;rfl
  ·cases e;cases b <;> cases q <;> rfl
  ·cases e;rfl
  ·cases e;rfl
  ·cases x <;> simp only [isD] at e <;> first | (cases e;rfl) | exact absurd rfl (n1 _)
 | _=>cases x <;> simp only [isD] at e <;> cases e
def rD2 (K:PySem.W.Frag) (t:D->D->Option Bool) (neg:Bool):R2:=fun v u H Q=>∃A x y k,t x y=some k/\DenR K A H x v/\DenR K A H y u/\Q (.bl (if neg then !k else k)) H
def oD2 (t:D->D->Option Bool) (neg:Bool) (x y:D):Option W:=(t x y).map fun k=>.v (.bl (if neg then !k else k))
theorem kD2 {t:D->D->Option Bool}{neg:Bool}:Pr2 X (oD2 t neg) (rD2 X.K t neg):=by
 intro A x y w v u H Q _ e hx hy q
 unfold oD2 at e
 cases e1:t x y with
 | none=>rw [e1] at e;cases e
 | some k=>rw [e1] at e;cases e;exact ⟨A,x,y,k,e1,hx,hy,q _ H (Same.refl H) A2⟩
theorem a6z:OpR X (compareOp .IsNot) (rD2 X.K isD true):=by
 intro pins s σ H x y v u Q I rx ry ⟨A,dx,dy,k,e,hx,hy,q⟩
 exact a8c (a9I e hx hy rx ry) ⟨.bl (!k),H,I,rfl,q⟩
theorem a3S (ha:QX X a f)(hb:QX X b g):QT X (.Compare a [.IsNot] [b] pos) (fTest (fBin (oD2 isD true) f g)):=L5 a6z kD2 ha hb
def flatE:D->D->Option Bool
 | .non,.non=>some true
 | .non,.int _=>some false
 | .int _,.non=>some false
 | .bl a,.bl b=>some (a == b)
 | .bl a,.int b=>some ((if a then 1 else 0) == b)
 | .int a,.bl b=>some (a == (if b then 1 else 0))
 | .int a,.int b=>some (a == b)
 | .str a,.str b=>some (a == b)
 | _,_=>none
def deqL (eq:D->D->Option Bool):List D->List D->Option Bool
 | [],[]=>some true
 | [],_ :: _=>some false
 | _ :: _,[]=>some false
 | x :: xs,y :: ys=>(eq x y).bind fun p=>(deqL eq xs ys).map fun q=>p && q
def deq:Nat->D->D->Option Bool
 | 0,x,y=>flatE x y
 | n + 1,.tup xs,.tup ys=>deqL (deq n) xs ys
 | n + 1,.lst xs,.lst ys=>deqL (deq n) xs ys
 | _ + 1,x,y=>flatE x y
theorem a5r {K:PySem.W.Frag}{A:Av}{H:Hp}{x y:D}{v u:V}{k:Bool}(e:flatE x y=some k)(hx:DenR K A H x v)(hy:DenR K A H y u):Den K A H x v/\Den K A H y u:=by
 cases x <;> cases y <;> simp only [flatE] at e <;> cases e <;> exact ⟨hx,hy⟩
theorem a1p {K:PySem.W.Frag}{O:Av}{H:Hp}{A:Around}{s:Shared}{x y:D}{v u:V}{vv uu:Value}{k:Bool}(e:flatE x y=some k)(hx:DenR K O H x v)(hy:DenR K O H y u)(rx:RelV v vv)(ry:RelV u uu):SeqAt.EqAt A s vv uu k/\SeqAt.RcAt A s vv uu k/\SeqAt.RcNeAt A s vv uu (!k):=by
 obtain ⟨hx,hy⟩:=a5r e hx hy
 cases x <;> cases y <;> simp only [flatE] at e <;> cases e <;> rw [Den] at hx <;> rw [Den] at hy <;> subst hx <;> subst hy
 ·cases (show vv=Value.none from rx);cases (show uu=Value.none from ry);exact ⟨.same _,.none_none,.none_none⟩
 ·cases (show vv=Value.none from rx);obtain ⟨t,z⟩:=(show ∃t,uu=Value.int _ t from ry);cases z;exact ⟨.none_int _ _,.none_int _ _,.none_int _ _⟩
 ·cases (show vv=Value.bool _ from rx);cases (show uu=Value.bool _ from ry);exact ⟨.bool_bool _ _,.bool_bool _ _,.bool_bool _ _⟩
 ·cases (show vv=Value.bool _ from rx);obtain ⟨t,z⟩:=(show ∃t,uu=Value.int _ t from ry);cases z;exact ⟨.bool_int _ _ _,.bool_int _ _ _,.bool_int _ _ _⟩
 ·cases (show uu=Value.none from ry);obtain ⟨t,z⟩:=(show ∃t,vv=Value.int _ t from rx);cases z;exact ⟨.int_none _ _,.int_none _ _,.int_none _ _⟩
 ·cases (show uu=Value.bool _ from ry);obtain ⟨t,z⟩:=(show ∃t,vv=Value.int _ t from rx);cases z;exact ⟨.int_bool _ _ _,.int_bool _ _ _,.int_bool _ _ _⟩
 ·obtain ⟨t,z⟩:=(show ∃t,vv=Value.int _ t from rx);cases z;obtain ⟨t,z⟩:=(show ∃t,uu=Value.int _ t from ry);cases z;exact ⟨.int_int _ _ _ _,.int_int _ _ _ _,.int_int _ _ _ _⟩
 ·obtain ⟨t,z⟩:=(show ∃t,vv=Value.str _ t from rx);cases z;obtain ⟨t,z⟩:=(show ∃t,uu=Value.str _ t from ry);cases z;exact ⟨.str_str _ _ _ _,.str_str _ _ _ _,.str_str _ _ _ _⟩
theorem a1K {K:PySem.W.Frag}{O:Av}{H:Hp}{x y:D}{v:V}{k:Bool}(e:flatE x y=some k)(hx:DenR K O H x v)(hy:DenR K O H y v):k=true:=by
 obtain ⟨hx,hy⟩:=a5r e hx hy
 cases x <;> cases y <;> simp only [flatE] at e <;> cases e <;> rw [Den] at hx <;> rw [Den] at hy
 all_goals first
  | rfl
  | (rw [hx] at hy;cases hy;simp)
  | (rw [hx] at hy;cases hy)
theorem a2m {K:PySem.W.Frag}{O:Av}{H:Hp}{A:Around}{s:Shared}{eq:D->D->Option Bool}(hq:∀x y v u vv uu k,eq x y=some k->Den K O H x v->Den K O H y u->RelV v vv->RelV u uu->SeqAt.EqAt A s vv uu k):
  ∀{xs ys:List D} {vs us:List V} {its jts:List Value} {k:Bool},deqL eq xs ys=some k->DenL K O H xs vs->DenL K O H ys us->Vals vs its->Vals us jts->
   ∃e:Nat->Bool,(∀j (h1:j < its.toArray.size) (h2:j < jts.toArray.size),SeqAt.EqAt A s its.toArray[j] jts.toArray[j] (e j))/\k=((List.range (min its.toArray.size jts.toArray.size)).all e && its.toArray.size == jts.toArray.size)
 | [],[],vs,us,its,jts,k,e,hx,hy,rx,ry=>by
  rw [DenL] at hx hy;subst hx;subst hy;cases rx;cases ry
  cases e
  exact ⟨fun _=>true,fun j h1 h2=>absurd h1 (by simp),rfl⟩
 | [],y :: ys,vs,us,its,jts,k,e,hx,hy,rx,ry=>by
  rw [DenL] at hx;rw [DenL] at hy;subst hx
  obtain ⟨u,r,rfl,_,_⟩:=hy
  cases rx;cases ry
  cases e
  exact ⟨fun _=>true,fun j h1 h2=>absurd h1 (by simp),by simp⟩
 | x :: xs,[],vs,us,its,jts,k,e,hx,hy,rx,ry=>by
  rw [DenL] at hx;rw [DenL] at hy;subst hy
  obtain ⟨u,r,rfl,_,_⟩:=hx
  cases rx;cases ry
  cases e
  exact ⟨fun _=>true,fun j h1 h2=>absurd h2 (by simp),by simp⟩
 | x :: xs,y :: ys,vs,us,its,jts,k,e,hx,hy,rx,ry=>by
  rw [DenL] at hx hy
  obtain ⟨v,r,rfl,dx,lx⟩:=hx
  obtain ⟨u,q,rfl,dy,ly⟩:=hy
  cases rx with
  | cons r1 rs1=>
   cases ry with
   | cons r2 rs2=>
    rw [deqL] at e
    cases e1:eq x y with
    | none=>rw [e1] at e;cases e
    | some p=>
     cases e2:deqL eq xs ys with
     | none=>rw [e1,e2] at e;cases e
     | some q2=>
      rw [e1,e2] at e;cases e
      obtain ⟨w,h1,h2⟩:=a2m hq e2 lx ly rs1 rs2
      refine ⟨fun j=>if j=0 then p else w (j - 1),fun j g1 g2=>?_,?_⟩
      ·cases j with
       | zero=>simpa using hq x y v u _ _ p e1 dx dy r1 r2
       | succ j=>
        have z:=h1 j (by simpa using g1) (by simpa using g2)
        simp only [List.getElem_toArray] at z ⊢
        simpa using z
      ·rw [h2]
       simp only [List.size_toArray,List.length_cons]
       rw [show min (_ + 1) (_ + 1)=min _ _ + 1 from Nat.succ_min_succ _ _,List.range_succ_eq_map,List.all_cons,List.all_map]
       simp [Function.comp_def,Bool.and_assoc]
theorem Y9 {K:PySem.W.Frag}{O:Av}{H:Hp}{eq:D->D->Option Bool}(hq:∀x y v k,eq x y=some k->Den K O H x v->Den K O H y v->k=true):
  ∀{xs ys:List D} {vs:List V} {k:Bool},deqL eq xs ys=some k->DenL K O H xs vs->DenL K O H ys vs->k=true
 | [],[],vs,k,e,hx,hy=>by cases e;rfl
 | [],y :: ys,vs,k,e,hx,hy=>by have:=c5 hx;have:=c5 hy;simp at *;walk_at "o"
 | x :: xs,[],vs,k,e,hx,hy=>by have:=c5 hx;have:=c5 hy;simp at *;walk_at "o"
 | x :: xs,y :: ys,vs,k,e,hx,hy=>by
  rw [DenL] at hx hy
  obtain ⟨v,r,rfl,dx,lx⟩:=hx
  obtain ⟨u,q,e0,dy,ly⟩:=hy
  cases e0
  rw [deqL] at e
  cases e1:eq x y with
  | none=>rw [e1] at e;cases e
  | some p=>
   cases e2:deqL eq xs ys with
   | none=>rw [e1,e2] at e;cases e
   | some q2=>
    rw [e1,e2] at e;cases e
    rw [hq x y v p e1 dx dy,Y9 hq e2 lx ly];rfl
theorem a2e {n:Nat}{x y:D}{k:Bool}(e:deq (n + 1) x y=some k):flatE x y=some k\/(∃xs ys,x= .tup xs/\y= .tup ys/\deqL (deq n) xs ys=some k)\/∃xs ys,x= .lst xs/\y= .lst ys/\deqL (deq n) xs ys=some k:=by
 cases x <;> cases y <;> first
  | exact .inl e
  | exact .inr (.inl ⟨_,_,rfl,rfl,e⟩)
  | exact .inr (.inr ⟨_,_,rfl,rfl,e⟩)
theorem A3 {K:PySem.W.Frag}{O:Av}{H:Hp}{xs:List D}{v:V}(h:DenR K O H (.tup xs) v):∃a vs,v= .ref a/\SqT K H a vs/\DenL K O H xs vs:=by
 have h:Den K O H (.tup xs) v:=h
 rw [Den] at h;exact h
theorem a4m {O:Av}{pins:List (Addr×PySem.Obj)}{σ:L2.St}{H:Hp}{s:Shared}(I:Inv X pins σ H s):∀(n:Nat) (x y:D) (v:V) (k:Bool),deq n x y=some k->DenR X.K O H x v->DenR X.K O H y v->k=true
 | 0,x,y,v,k,e,hx,hy=>a1K e hx hy
 | n + 1,x,y,v,k,e,hx,hy=>by
  have hs:∀x y v k,deq n x y=some k->Den X.K O H x v->Den X.K O H y v->k=true:=fun x y v k e hx hy=>a4m I n x y v k e (E8 hx) (E8 hy)
  rcases a2e e with e | ⟨xs,ys,rfl,rfl,e⟩ | ⟨xs,ys,rfl,rfl,e⟩
  ·exact a1K e hx hy
  ·obtain ⟨a,vs,rfl,q1,l1⟩:=A3 hx
   obtain ⟨b,us,z,q2,l2⟩:=A3 hy
   cases z
   rw [I.tuple_inj q2 q1] at l2
   exact Y9 hs e l1 l2
  ·obtain ⟨a,vs,rfl,q1,l1⟩:=hx
   obtain ⟨b,us,z,q2,l2⟩:=hy
   cases z
   rw [I.list_inj q2 q1] at l2
   exact Y9 hs e l1 l2
theorem a2j {O:Av}{pins:List (Addr×PySem.Obj)}{σ:L2.St}{H:Hp}{s:Shared}(I:Inv X pins σ H s):∀(n:Nat) (A:Around),A.units + n + 1 < cLine->∀(x y:D) (v u:V) (vv uu:Value) (k:Bool),deq n x y=some k->DenR X.K O H x v->DenR X.K O H y u->RelV v vv->RelV u uu->
  SeqAt.EqAt A s vv uu k/\SeqAt.RcAt A s vv uu k/\SeqAt.RcNeAt A s vv uu (!k)
 | 0,A,hA,x,y,v,u,vv,uu,k,e,hx,hy,rx,ry=>a1p e hx hy rx ry
 | n + 1,A,hA,x,y,v,u,vv,uu,k,e,hx,hy,rx,ry=>by
  have hin:∀x y v u vv uu k,deq n x y=some k->Den X.K O H x v->Den X.K O H y u->RelV v vv->RelV u uu->SeqAt.EqAt A.in1 s vv uu k:=fun x y v u vv uu k e hx hy rx ry=>(a2j I n A.in1 (by show A.units + 1 + n + 1 < _;walk_at "o") x y v u vv uu k e (E8 hx) (E8 hy) rx ry).1
  have hu:A.units < cLine:=by walk_at "o"
  have done:∀(p q:Addr),v= .ref p->u= .ref q->SeqAt.RcAt A s (.ref p) (.ref q) k->SeqAt.RcNeAt A s (.ref p) (.ref q) (!k)->SeqAt.EqAt A s vv uu k/\SeqAt.RcAt A s vv uu k/\SeqAt.RcNeAt A s vv uu (!k):=fun p q ev eu rc rn=>by
   subst ev;subst eu
   cases (show vv=Value.ref p from rx);cases (show uu=Value.ref q from ry)
   refine ⟨?_,rc,rn⟩
   by_cases pq:p=q
   ·subst pq
    rw [a4m I (n + 1) x y _ k e hx hy]
    exact .same _
   ·exact .of_refs pq rc
  rcases a2e e with e | ⟨xs,ys,rfl,rfl,e⟩ | ⟨xs,ys,rfl,rfl,e⟩
  ·exact a1p e hx hy rx ry
  ·obtain ⟨p,vs,ev,q1,l1⟩:=A3 hx
   obtain ⟨q,us,eu,q2,l2⟩:=A3 hy
   obtain ⟨its,r1,t1,_⟩:=I.tuple q1
   obtain ⟨jts,r2,t2,_⟩:=I.tuple q2
   obtain ⟨w,h1,h2⟩:=a2m hin e l1 l2 r1 r2
   refine done p q ev eu ?_ ?_
   ·rw [h2]
    exact SeqAt.RcAt.tuples t1 t2 hu h1
   ·rw [h2]
    exact SeqAt.RcNeAt.tuples t1 t2 hu h1
  ·obtain ⟨p,vs,ev,q1,l1⟩:=id hx
   obtain ⟨q,us,eu,q2,l2⟩:=id hy
   obtain ⟨its,r1,t1,_⟩:=I.list q1
   obtain ⟨jts,r2,t2,_⟩:=I.list q2
   obtain ⟨w,h1,h2⟩:=a2m hin e l1 l2 r1 r2
   by_cases sz:its.toArray.size=jts.toArray.size
   ·have r1:=SeqAt.RcAt.lists t1.isList t2.isList sz hu h1
    have r2:=SeqAt.RcNeAt.lists t1.isList t2.isList sz hu h1
    rw [sz,Nat.min_self,show (jts.toArray.size == jts.toArray.size)=true by simp,Bool.and_true] at h2
    rw [sz,<-h2] at r1 r2
    exact done p q ev eu r1 r2
   ·have r1:=SeqAt.RcAt.lists_lengths (A:=A) t1.isList t2.isList (by simpa using sz) hu
    have r2:=SeqAt.RcNeAt.lists_lengths (A:=A) t1.isList t2.isList (by simpa using sz) hu
    rw [show (its.toArray.size == jts.toArray.size)=false by simpa using sz,Bool.and_false] at h2
    subst h2
    exact done p q ev eu r1 r2
theorem a7I {k:Nat}(hr:Room k X.A):OpR X (compareOp .Eq) (rD2 X.K (deq 20) false):=by
 intro pins s σ H x y v u Q I rx ry ⟨A,dx,dy,k,e,hx,hy,q⟩
 have:=(a2j I 20 X.A (by have:=hr.units;walk_at "o") dx dy x y v u k e hx hy rx ry).2.1
 exact this X.prog X.w X.xe _ ⟨.bl k,H,I,rfl,q⟩
theorem b13 {k:Nat}(hr:Room k X.A):OpR X (compareOp .NotEq) (rD2 X.K (deq 20) true):=by
 intro pins s σ H x y v u Q I rx ry ⟨A,dx,dy,k,e,hx,hy,q⟩
 have:=(a2j I 20 X.A (by have:=hr.units;walk_at "o") dx dy x y v u k e hx hy rx ry).2.2
 exact this X.prog X.w X.xe _ ⟨.bl (!k),H,I,rfl,q⟩
theorem qx_eq {k:Nat}(hr:Room k X.A)(ha:QX X a f)(hb:QX X b g):QX X (.Compare a [.Eq] [b] pos) (fBin (oD2 (deq 20) false) f g):=a2D (a7I hr) kD2 ha hb
theorem a1E {k:Nat}(hr:Room k X.A)(ha:QX X a f)(hb:QX X b g):QT X (.Compare a [.Eq] [b] pos) (fTest (fBin (oD2 (deq 20) false) f g)):=L5 (a7I hr) kD2 ha hb
theorem a3h {k:Nat}(hr:Room k X.A)(ha:QX X a f)(hb:QX X b g):QT X (.Compare a [.NotEq] [b] pos) (fTest (fBin (oD2 (deq 20) true) f g)):=L5 (b13 hr) kD2 ha hb
end
section
variable {prog:Program}{w:World}{A:Around}{R:Result->Shared->Prop}{s:Shared}
abbrev Fa:Value->Shared->Prop:=fun _ _=>False
theorem a6r {elt tg iter:Expr}{ifs:List Expr}{scope:Scope}{pos:Pos}{it acc:Value}{env:Env}(I:Nat->Shared->Prop)
  (turn:∀n s,I n s->wpAny (model prog w) A (pyNext it) (fun r s1=>match r with
   | none=>R (.ok .next) s1
   | some v=>wpAny (model prog w) A (letOwnedTupleGo tg it v) (fun _ s2=>wpAny (model prog w) A (assign tg env v) (fun _ s3=>
     wpAny (model prog w) A (forIn ifs true fun c r=>if r=true then do let ok <-isTrue c env (eval c env);pure (ForInStep.yield ok) else pure (ForInStep.yield r)) (fun ok s4=>
      if ok=true then wpAny (model prog w) A (eval elt env) (fun x s5=>wpAny (model prog w) A (call (.builtin "list.append") [acc,x]) (fun _ s6=>∃m,m < n/\I m s6) Fa s5) Fa s4
      else ∃m,m < n/\I m s4) Fa s3) Fa s2) Fa s1) Fa s)
  (n:Nat) (h:I n s):codeAny (model prog w) A (.compLoop (.ListComp elt [⟨tg,iter,ifs,0⟩] scope pos) 0 it acc env) R s:=by
 refine codeAny_loop rfl I (fun n s hI=>?_) n h
 show wpAny _ A ((compTurn (.ListComp elt [⟨tg,iter,ifs,0⟩] scope pos) 0 it acc env).onRaise (fun x=>do noteFrame x env;theTreesLotGoes x)) _ _ s
 refine wpAny_noted ?_
 rw [compTurn_list]
 refine wpAny_bind (wpAny_standAt (wpAny_bind (wpAny_mono (turn n s hI) (fun r s1 h1=>?_) fun _ _ z=>z.elim)))
 cases r with
 | none=>exact wpAny_pure h1
 | some v=>
  refine wpAny_bind (wpAny_mono h1 (fun _ s2 h2=>wpAny_bind (wpAny_mono h2 (fun _ s3 h3=>wpAny_bind (wpAny_mono h3 (fun ok s4 h4=>?_) fun _ _ z=>z.elim)) fun _ _ z=>z.elim)) fun _ _ z=>z.elim)
  cases ok with
  | true=>
   rw [if_pos rfl] at h4 ⊢
   exact wpAny_bind (wpAny_bind (wpAny_mono h4 (fun x s5 h5=>wpAny_bind (wpAny_mono h5 (fun _ s6 h6=>wpAny_pure (wpAny_pure ⟨rfl,h6⟩)) fun _ _ z=>z.elim)) fun _ _ z=>z.elim))
  | false=>
   rw [if_neg Bool.false_ne_true] at h4 ⊢
   exact wpAny_bind (wpAny_pure (wpAny_pure ⟨rfl,h4⟩))
end
def blk (X:Cx) (scope:Scope) (cl:List (Str×Addr)) (s2:Shared) (H2:Hp) (fp:List Addr) (C:Addr) (N:List Str):Cx where
 prog:=X.prog
 w:=X.w
 K:=X.K
 mg:=X.mg
 base:=X.base
 A:=X.A
 N:=N
 s₀:=s2
 H₀:=H2
 env:=compEnvC scope cl C X.env
 outer:=X.stack
 stack:=X.stack
 ex:=fp
 fn:=fun _=>false
 calm:=X.calm
 pn:=[]
 xe:=fun _ _=>False
abbrev accN:Str:=" acc"
inductive Cap (X:Cx) (sc:Scope) (cl:List (Str×Addr)):List Str->List (Option Nat)->Prop where
 | nil:Cap X sc cl [] []
 | own {n:Str} {N:List Str} {js:List (Option Nat)} (t:Cap X sc cl N js):Cap X sc cl (n :: N) (none :: js)
 | cap {n:Str} {N:List Str} {j:Nat} {js:List (Option Nat)} (hj:X.N[j]? =some n) (hk:X.env.scope.names.lookup n=some .cell) (hl:sc.names.lookup n=some .cell) (hc:cl.lookup n=X.env.cells.lookup n) (t:Cap X sc cl N js):Cap X sc cl (n :: N) (some j :: js)
theorem Cap.len {X:Cx}{sc:Scope}{cl:List (Str×Addr)}{N:List Str}{js:List (Option Nat)}(h:Cap X sc cl N js):js.length=N.length:=by
 induction h with
 | nil=>rfl
 | own t ih=>simp [ih]
 | cap _ _ _ _ t ih=>simp [ih]
theorem Cap.get {X:Cx}{sc:Scope}{cl:List (Str×Addr)}{N:List Str}{js:List (Option Nat)}(h:Cap X sc cl N js):∀{i j:Nat} {n:Str},N[i]? =some n->js[i]? =some (some j)->X.N[j]? =some n/\X.env.scope.names.lookup n=some .cell/\sc.names.lookup n=some .cell/\cl.lookup n=X.env.cells.lookup n:=by
 induction h with
 | nil=>intro i j n e1 _;simp at e1
 | own t ih=>
  intro i j n e1 e2
  cases i with
  | zero=>simp at e2
  | succ i=>exact ih (by simpa using e1) (by simpa using e2)
 | cap hj hk hl hc t ih=>
  intro i j n e1 e2
  cases i with
  | zero=>simp at e1 e2;subst e1;subst e2;exact ⟨hj,hk,hl,hc⟩
  | succ i=>exact ih (by simpa using e1) (by simpa using e2)
def capS (js:List (Option Nat)) (σ:L2.St):L2.St:=js.map fun o=>o.bind fun j=>(σ[j]?).join
structure Blk (X:Cx) (scope:Scope) (cl:List (Str×Addr)) (N:List Str) (js:List (Option Nat)):Prop where
 clos:closureFor scope X.env=pure cl
 kind:scope.kind= .function
 cell:∀y∈scope.names,y.2≠.cell
 nms:∀y∈scope.names,y.2= .local->scope.names.lookup y.1=some .local
 cap:Cap X (relabel scope X.env) cl N js
 sub:∀y c,cl.lookup y=some c->X.env.cells.lookup y=some c
 has:∀y,((relabel scope X.env).names.lookup y=some .cell\/(relabel scope X.env).names.lookup y=some .free)->∃c,cl.lookup y=some c
 acc:∀k,(relabel scope X.env).names.lookup accN≠some k
section
variable {X:Cx}{pins:List (Addr×PySem.Obj)}{σ:L2.St}{H2:Hp}{s2 s4:Shared}{scope:Scope}{cl:List (Str×Addr)}{N:List Str}{js:List (Option Nat)}{fp:List Addr}{Dd C:Addr}{m:Str->Option Value}
theorem a9A (I:Inv X pins σ H2 s2)(b:Blk X scope cl N js)(f2:∀y∈fp,FpOk X pins H2 y)(fl:∀y∈fp,y < s2.heap.objs.size)(hC:s2.heap.objs.size<=C):(blk X scope cl s2 H2 fp C (N ++ [accN])).Ok where
 mod:=I.ok.mod
 kind:=b.kind
 glob:=I.ok.glob
 blt:=I.ok.blt
 above:=hC
 inj:=fun x y c e1 e2=>I.ok.inj x y c (b.sub x c e1) (b.sub y c e2)
 has:=fun x h=>b.has x h
 cab:=fun x c h=>nomatch h
 hd:=I.ok.hd
 frames:=I.ok.frames
 stk:=.inl rfl
 exf:=fun y hy=>⟨Nat.ne_of_lt (Nat.lt_of_lt_of_le (fl y hy) hC),fun x c e=>(f2 y hy).2.2.2.2.1 x c (b.sub x c e)⟩
 bs:=I.bs
 bsz:=Nat.le_trans I.ok.bsz I.sz
 noex:=fun y o e hy=>by
  rcases (f2 y hy).2.2.2.1 with z | z
  ·exact I.ok.noex y o e z
  ·exact absurd (Nat.lt_of_lt_of_le (Heap.lt_size e) (Nat.le_trans I.ok.bsz z)) (Nat.lt_irrefl _)
 exfs:=fun y hy z=>(List.mem_cons.mp (I.stkSub y z)).elim (f2 y hy).2.1 (f2 y hy).2.2.1
 funs:=I.stack
 frf:=I.stkFree
theorem a5Q (I:Inv X pins σ H2 s2)(b:Blk X scope cl N js)(f2:∀y∈fp,FpOk X pins H2 y)(fl:∀y∈fp,y < s2.heap.objs.size)(hC:s2.heap.objs.size<=C)(hD:s2.heap.objs.size<=Dd)(ne:Dd≠C)
  (ho:s4.os=s2.os) (hg:AllBare s4.gens) (kp:∀y o,s2.heap.get? y=some o->s4.heap.get? y=some o) (hn:s4.heap.Ns C m) (hk:HOk X.prog X.w (upd H2 Dd (.lst [])) s4.heap):
  Inv (blk X scope cl s2 H2 fp C (N ++ [accN])) [] (capS js σ ++ [some (.ref Dd)]) (upd H2 Dd (.lst [])) s4:=by
 have nD:∀y o,s2.heap.get? y=some o->y≠Dd:=fun y o e=>Nat.ne_of_lt (Nat.lt_of_lt_of_le (Heap.lt_size e) hD)
 have nH:∀y u,H2 y=some u->y≠Dd:=fun y u e=>Nat.ne_of_lt (Nat.lt_of_lt_of_le (I.hok.lt e) hD)
 have cD:∀x c,X.env.cells.lookup x=some c->c≠Dd:=fun x c e=>by
  obtain ⟨v,o,e1,_⟩:=I.cell x c e
  exact nD c o e1
 refine ⟨a9A I b f2 fl hC,ho,hg,⟨fun y o e _ _ _=>kp y o e,fun y o e _ _ _=>⟨o.slots,kp y o e⟩,fun y o e n _=>?_,fun y o e _=>⟨o,kp y o e⟩,fun y xs e=>?_,fun y o u e=>?_,fun y ps e=>?_⟩,⟨m,hn,fun i x v e1 e2 e3=>?_⟩,fun x c e=>?_,?_,fun x c e=>?_,fun p hp=>absurd (show p∈([]:List (Addr×PySem.Obj)) from hp) (by simp),hk,?_⟩
 ·rw [c8 (nD y o e)];exact n
 ·rw [c8 (nH _ _ e)];exact e
 ·rw [c8 (nH _ _ e)];exact e
 ·have e':H2 y=some (.tbl ps):=e
  exact ⟨#[],by rw [c8 (nH _ _ e'),e'];simp⟩
 ·have hl:js.length=N.length:=b.cap.len
  by_cases hi:i < N.length
  ·have e1':N[i]? =some x:=by
    have z:(N ++ [accN])[i]? =some x:=e1
    rw [List.getElem?_append_left hi] at z;exact z
   rw [List.getElem?_append_left (by unfold capS;simp;walk_at "o")] at e2
   unfold capS at e2
   rw [List.getElem?_map] at e2
   cases ej:js[i]? with
   | none=>rw [ej] at e2;cases e2
   | some o=>
    rw [ej] at e2
    cases o with
    | none=>cases e2
    | some j=>
     obtain ⟨c1,c2,c3,c4⟩:=b.cap.get e1' ej
     simp only [Option.map_some,Option.bind_some] at e2
     have e2':σ[j]? =some (some v):=by
      cases q:σ[j]? with
      | none=>rw [q] at e2;cases e2
      | some o=>rw [q] at e2;simp at e2;rw [e2]
     obtain ⟨m2,_,hl2⟩:=I.loc
     obtain ⟨u,r,lk⟩:=hl2 j x v c1 e2' (.inr (.inl c2))
     refine ⟨u,r,.inr ⟨.inl c3,?_⟩⟩
     rcases lk with ⟨k,_⟩ | ⟨_,c,e,z⟩
     ·have k':X.env.scope.names.lookup x=some .local:=k
      rw [c2] at k';cases k'
     ·exact ⟨c,c4.trans e,z.keeps kp⟩
  ·have hx:x=accN:=by
    have z:(N ++ [accN])[i]? =some x:=e1
    rw [List.getElem?_append_right (by walk_at "o")] at z
    cases q:i - N.length with
    | zero=>rw [q] at z;simp at z;exact z.symm
    | succ k=>rw [q] at z;simp at z
   subst hx
   rcases e3 with z | z | z
   ·exact absurd z (b.acc _)
   ·exact absurd z (b.acc _)
   ·exact absurd z (b.acc _)
 ·obtain ⟨v,z⟩:=I.cell x c (b.sub x c e)
  exact ⟨v,z.keeps kp⟩
 ·show upd H2 Dd (.lst []) C=none
  rw [c8 (Ne.symm ne)]
  exact I.hok.fresh hC
 ·rw [c8 (cD x c (b.sub x c e))]
  exact I.freeC x c (b.sub x c e)
 ·show (capS js σ ++ [some (V.ref Dd)]).length=(N ++ [accN]).length
  unfold capS
  simp [b.cap.len]
end
def AllC (X:Cx):List (Str×Addr)->Prop
 | []=>True
 | p :: r=>X.env.cells.lookup p.1=some p.2/\AllC X r
theorem AllC.sub {X:Cx}:∀{cl:List (Str×Addr)},AllC X cl->∀y c,cl.lookup y=some c->X.env.cells.lookup y=some c
 | [],_,y,c,e=>by simp at e
 | (n,c0) :: r,h,y,c,e=>by
  rw [List.lookup_cons] at e
  cases q:y == n with
  | true=>
   rw [q] at e
   cases e
   have:y=n:=by simpa using q
   rw [this];exact h.1
  | false=>rw [q] at e;exact AllC.sub h.2 y c e
theorem a0E {α:Type}:∀{l:List (Str×α)} {y:Str} {k:α},l.lookup y=some k->(y,k)∈l
 | [],y,k,e=>by simp at e
 | (n,a) :: r,y,k,e=>by
  rw [List.lookup_cons] at e
  cases q:y == n with
  | true=>
   rw [q] at e;cases e
   have:y=n:=by simpa using q
   rw [this];exact List.mem_cons_self
  | false=>rw [q] at e;exact List.mem_cons_of_mem _ (a0E e)
section
variable {X:Cx}{scope:Scope}{cl:List (Str×Addr)}{N:List Str}{js:List (Option Nat)}
theorem t9 (cap:Cap X (relabel scope X.env) cl N js)(clos:closureFor scope X.env=pure cl)(sub:AllC X cl)(has:(relabel scope X.env).names.all (fun p=>(p.2 != .cell && p.2 != .free) || (cl.lookup p.1).isSome)=true)(kind:scope.kind= .function:=by rfl)(cell:scope.names.all (fun y=>y.2 != .cell)=true:=by decide +kernel)
  (nms:scope.names.all (fun y=>y.2 != .local || scope.names.lookup y.1 == some .local)=true:=by decide +kernel) (acc:(relabel scope X.env).names.lookup accN=none:=by rfl):Blk X scope cl N js where
 clos:=clos
 kind:=kind
 cell:=fun y hy=>by have:=List.all_eq_true.mp cell y hy;simpa using this
 nms:=fun y hy hl=>by have:=List.all_eq_true.mp nms y hy;rw [hl] at this;simpa using this
 cap:=cap
 sub:=sub.sub
 has:=fun y h=>by
  have key:∀k,(relabel scope X.env).names.lookup y=some k->k= .cell\/k= .free->∃c,cl.lookup y=some c:=fun k e hk=>by
   have:=List.all_eq_true.mp has (y,k) (a0E e)
   rcases hk with rfl | rfl <;> simpa [Option.isSome_iff_exists] using this
  rcases h with h | h
  ·exact key _ h (.inl rfl)
  ·exact key _ h (.inr rfl)
 acc:=fun k e=>by rw [acc] at e;cases e
end
def capW (k:Bool):W->Option W
 | .v d=>some (.v d)
 | .o d=>some (if k then .l d else .v d)
 | .l d=>some (if k then .l d else .v d)
 | .r _=>none
def capE (lj:Option Nat) (js:List (Option Nat)) (ρ:Ev):Ev:=js.map fun o=>o.bind fun j=>((ρ[j]?).join).bind (capW (lj == some j))
def Capd (ρ:Ev) (σ:L2.St) (js:List (Option Nat)) (b:Addr):Prop:=∃(j:Nat) (w:W) (d:D),some j∈js/\ρ[j]? =some (some w)/\w.own=some d/\σ[j]? =some (some (V.ref b))
def lentL (li:Option (Nat×Nat)) (σ:L2.St):List (Nat×Addr):=match li with
 | some (i,j)=>match σ[j]? with
  | some (some (.ref a))=>[(i,a)]
  | _=>[]
 | none=>[]
structure LiOk (li:Option (Nat×Nat)) (js:List (Option Nat)) (ρ:Ev):Prop where
 own:∀i j,li=some (i,j)->∃c,ownAt ρ j=some c
 at':∀i j,li=some (i,j)->js[i]? =some (some j)
 one:∀i j k,li=some (i,j)->js[k]? =some (some j)->k=i
section
variable {X:Cx}{P:List (D×V)}{O:Av}{L:List (Nat×Addr)}{ρ:Ev}{σ:L2.St}{H2:Hp}{s2:Shared}{scope:Scope}{cl:List (Str×Addr)}{N:List Str}{js:List (Option Nat)}{fp:List Addr}{Dd C:Addr}{li:Option (Nat×Nat)}
theorem B8 {lj:Option Nat}{i:Nat}{w:W}(e:(capE lj js ρ)[i]? =some (some w)):∃j w0,js[i]? =some (some j)/\ρ[j]? =some (some w0)/\capW (lj == some j) w0=some w:=by
 unfold capE at e
 rw [List.getElem?_map] at e
 cases ej:js[i]? with
 | none=>rw [ej] at e;cases e
 | some o=>
  rw [ej] at e
  cases o with
  | none=>cases e
  | some j=>
   simp only [Option.map_some,Option.bind_some] at e
   cases q:ρ[j]? with
   | none=>rw [q] at e;cases e
   | some o=>
    rw [q] at e
    cases o with
    | none=>cases e
    | some w0=>exact ⟨j,w0,rfl,q,Option.some.inj e⟩
theorem B7 {i j:Nat}{v:V}(ej:js[i]? =some (some j))(e:σ[j]? =some (some v)):(capS js σ)[i]? =some (some v):=by
 unfold capS
 rw [List.getElem?_map,ej]
 simp only [Option.map_some,Option.bind_some]
 rw [e];rfl
theorem u9 {i:Nat}{b:Addr}:(i,b)∈lentL li σ↔∃j,li=some (i,j)/\σ[j]? =some (some (.ref b)):=by
 unfold lentL
 cases li with
 | none=>simp
 | some p=>
  obtain ⟨i',j'⟩:=p
  dsimp only
  constructor
  ·intro h
   split at h
   ·rename_i a q
    rw [List.mem_singleton] at h;cases h
    exact ⟨j',rfl,q⟩
   ·cases h
  ·rintro ⟨j,e,q⟩
   cases e
   rw [q];exact List.mem_singleton.mpr rfl
theorem J3 (r:Rep X P O L ρ σ H2)(hl:LiOk li js ρ){i:Nat}{w:W}{d:D}{v:V}(e1:(capE (li.map (·.2)) js ρ ++ [some (.l (.lst []))])[i]? =some (some w))(e2:w.own=some d)(e3:(capS js σ ++ [some (.ref Dd)])[i]? =some (some v)):
  (i=js.length/\w= .l (.lst [])/\v= .ref Dd)\/∃j a w0,li=some (i,j)/\i < js.length/\w= .l d/\js[i]? =some (some j)/\ρ[j]? =some (some w0)/\w0.own=some d/\σ[j]? =some (some (.ref a))/\v= .ref a:=by
 have hcl:(capE (li.map (·.2)) js ρ).length=js.length:=by unfold capE;simp
 have hsl:(capS js σ).length=js.length:=by unfold capS;simp
 by_cases hi:i < js.length
 ·rw [List.getElem?_append_left (by walk_at "o")] at e1 e3
  obtain ⟨j,w0,ej,q,ew⟩:=B8 e1
  have own0:w0.own≠none/\li.map (·.2)=some j/\w= .l d/\w0.own=some d:=by
   cases w0 with
   | v c=>cases ew;cases e2
   | r c=>cases ew
   | o c=>
    simp only [capW] at ew
    split at ew
    ·rename_i hk;cases ew;cases e2;exact ⟨nofun,by simpa using hk,rfl,rfl⟩
    ·cases ew;cases e2
   | l c=>
    simp only [capW] at ew
    split at ew
    ·rename_i hk;cases ew;cases e2;exact ⟨nofun,by simpa using hk,rfl,rfl⟩
    ·cases ew;cases e2
  obtain ⟨_,hlj,rfl,ow⟩:=own0
  obtain ⟨a,h1,h2⟩:=r.obj q ow
  rw [B7 ej h1] at e3;cases e3
  cases li with
  | none=>cases hlj
  | some p=>
   obtain ⟨i',j'⟩:=p
   cases hlj
   have:=hl.one i' _ i rfl ej
   subst this
   exact .inr ⟨_,a,w0,rfl,hi,rfl,ej,q,ow,h1,rfl⟩
 ·have hi':i=js.length:=by
   have:=(List.getElem?_eq_some_iff.mp e1).1
   rw [List.length_append,hcl] at this;simp at this;walk_at "o"
  subst hi'
  rw [List.getElem?_append_right (by walk_at "o"),hcl,Nat.sub_self] at e1
  rw [List.getElem?_append_right (by walk_at "o"),hsl,Nat.sub_self] at e3
  simp only [List.getElem?_cons_zero,Option.some.injEq] at e1 e3
  exact .inl ⟨rfl,e1.symm,e3.symm⟩
theorem a5H (r:Rep X P O L ρ σ H2)(hl:LiOk li js ρ)(hn:H2 Dd=none):
  Rep (blk X scope cl s2 H2 fp C (N ++ [accN])) P (fun b=>AvO O ρ σ b/\¬Capd ρ σ js b) ((js.length,Dd) :: lentL li σ) (capE (li.map (·.2)) js ρ ++ [some (.l (.lst []))]) (capS js σ ++ [some (.ref Dd)]) (upd H2 Dd (.lst [])):=by
 have hcl:(capE (li.map (·.2)) js ρ).length=js.length:=by unfold capE;simp
 have hsl:(capS js σ).length=js.length:=by unfold capS;simp
 have acc1:(capE (li.map (·.2)) js ρ ++ [some (.l (.lst []))])[js.length]? =some (some (.l (.lst []))):=by rw [List.getElem?_append_right (by walk_at "o"),hcl,Nat.sub_self];rfl
 have acc2:(capS js σ ++ [some (V.ref Dd)])[js.length]? =some (some (.ref Dd)):=by rw [List.getElem?_append_right (by walk_at "o"),hsl,Nat.sub_self];rfl
 have lnt2:∀{i j:Nat} {a:Addr},li=some (i,j)->σ[j]? =some (some (.ref a))->∃w0 d,ρ[j]? =some (some w0)/\w0.own=some d/\(capE (li.map (·.2)) js ρ ++ [some (.l (.lst []))])[i]? =some (some (.l d))/\(capS js σ ++ [some (V.ref Dd)])[i]? =some (some (.ref a)):=fun {i j a} e1 e2=>by
  obtain ⟨c,ec⟩:=hl.own i j e1
  obtain ⟨w0,q,ow⟩:=n9 ec
  have ej:=hl.at' i j e1
  have hi:i < js.length:=(List.getElem?_eq_some_iff.mp ej).1
  refine ⟨w0,c,q,ow,?_,by rw [List.getElem?_append_left (by walk_at "o")];exact B7 ej e2⟩
  rw [List.getElem?_append_left (by walk_at "o")]
  unfold capE
  rw [List.getElem?_map,ej]
  simp only [Option.map_some,Option.bind_some,q,Option.join_some,e1,beq_self_eq_true]
  cases w0 with
  | o x=>cases ow;rfl
  | l x=>cases ow;rfl
  | _=>cases ow
 have av:∀b,AvO (fun b=>AvO O ρ σ b/\¬Capd ρ σ js b) (capE (li.map (·.2)) js ρ ++ [some (.l (.lst []))]) (capS js σ ++ [some (V.ref Dd)]) b->AvO O ρ σ b\/H2 b=none:=fun b z=>by
  rcases z with z | ⟨i,w,d,e1,e2,e3⟩
  ·exact .inl z.1
  ·rcases J3 r hl e1 e2 e3 with ⟨_,_,e⟩ | ⟨j,a,w0,_,_,_,_,q,ow,qs,e⟩
   ·cases e;exact .inr hn
   ·cases e;exact .inl (.inr ⟨j,w0,d,q,ow,qs⟩)
 have g:Go (AvO O ρ σ) (AvO (fun b=>AvO O ρ σ b/\¬Capd ρ σ js b) (capE (li.map (·.2)) js ρ ++ [some (.l (.lst []))]) (capS js σ ++ [some (V.ref Dd)])) (fun _=>False) H2 (upd H2 Dd (.lst [])):=⟨fun b o e _=>j3 hn _ b o e,fun _ z=>z.elim,av⟩
 refine ⟨fun b o e _=>j3 hn _ b o e,fun b z=>⟨r.there z.1,fun i m=>?_⟩,by simp [hcl,hsl],fun i w e=>?_,fun i i' w w' d d' b e1 e2 e3 e4 e5 e6=>?_,fun i d b e=>?_,fun i d e=>?_,fun i b e=>?_,fun p hp=>m7 g _ _ (r.prot p hp)⟩
 ·rcases List.mem_cons.mp m with m | m
  ·cases m;exact r.fresh hn z.1
  ·obtain ⟨j,e1,e2⟩:=u9.mp m
   obtain ⟨w0,d,q,ow,_⟩:=lnt2 e1 e2
   exact z.2 ⟨j,w0,d,List.mem_of_getElem? (hl.at' i j e1),q,ow,e2⟩
 ·by_cases hi:i < js.length
  ·have e':=e
   rw [List.getElem?_append_left (by walk_at "o")] at e'
   obtain ⟨j,w0,ej,q,ew⟩:=B8 e'
   obtain ⟨v,h1,h2⟩:=r.slot j w0 q
   refine ⟨v,by rw [List.getElem?_append_left (by walk_at "o")];exact B7 ej h1,?_⟩
   cases w0 with
   | v c=>cases ew;exact m7 g _ _ h2
   | r c=>cases ew
   | o c=>
    simp only [capW] at ew
    obtain ⟨a,rfl,ob⟩:=h2
    have hk:upd H2 Dd (.lst []) a=H2 a:=c8 fun z=>by obtain ⟨u,eu,_⟩:=v5 ob;rw [z,hn] at eu;cases eu
    split at ew
    ·cases ew;exact ⟨a,rfl,t4 g hk ob⟩
    ·rename_i nk
     cases ew
     refine J1 (t4 g hk ob) fun z=>?_
     rcases z with z | ⟨i2,w2,d2,e1,e2,e3⟩
     ·exact z.2 ⟨j,_,c,List.mem_of_getElem? ej,q,rfl,h1⟩
     ·rcases J3 r hl e1 e2 e3 with ⟨_,_,e⟩ | ⟨j2,a2,w0,l2,_,_,ej2,q2,ow2,qs2,e⟩
      ·cases e;obtain ⟨u,eu,_⟩:=v5 ob;rw [hn] at eu;cases eu
      ·cases e
       have:=r.inj j j2 _ w0 c d2 a q rfl h1 q2 ow2 qs2
       subst this
       rw [l2] at nk;simp at nk
   | l c=>
    simp only [capW] at ew
    obtain ⟨a,rfl,ob⟩:=h2
    have hk:upd H2 Dd (.lst []) a=H2 a:=c8 fun z=>by obtain ⟨u,eu,_⟩:=v5 ob;rw [z,hn] at eu;cases eu
    split at ew
    ·cases ew;exact ⟨a,rfl,t4 g hk ob⟩
    ·rename_i nk
     cases ew
     refine J1 (t4 g hk ob) fun z=>?_
     rcases z with z | ⟨i2,w2,d2,e1,e2,e3⟩
     ·exact z.2 ⟨j,_,c,List.mem_of_getElem? ej,q,rfl,h1⟩
     ·rcases J3 r hl e1 e2 e3 with ⟨_,_,e⟩ | ⟨j2,a2,w0,l2,_,_,ej2,q2,ow2,qs2,e⟩
      ·cases e;obtain ⟨u,eu,_⟩:=v5 ob;rw [hn] at eu;cases eu
      ·cases e
       have:=r.inj j j2 _ w0 c d2 a q rfl h1 q2 ow2 qs2
       subst this
       rw [l2] at nk;simp at nk
  ·have hi':i=js.length:=by
    have:=(List.getElem?_eq_some_iff.mp e).1
    rw [List.length_append,hcl] at this;simp at this;walk_at "o"
   subst hi'
   rw [acc1] at e;cases e
   exact ⟨.ref Dd,acc2,Dd,rfl,[],j9,j4⟩
 ·rcases J3 r hl e1 e2 e3 with ⟨rfl,_,e⟩ | ⟨j,a,w0,l1,_,_,_,q,ow,qs,e⟩
  ·cases e
   rcases J3 r hl e4 e5 e6 with ⟨rfl,_,_⟩ | ⟨j,a,w0,l1,_,_,_,q,ow,qs,e⟩
   ·rfl
   ·cases e;obtain ⟨u,eu,_⟩:=r.owMu ⟨j,w0,d',q,ow,qs⟩;rw [hn] at eu;cases eu
  ·cases e
   rcases J3 r hl e4 e5 e6 with ⟨rfl,_,e⟩ | ⟨j',a',w0',l1',_,_,_,q',ow',qs',e⟩
   ·cases e;obtain ⟨u,eu,_⟩:=r.owMu ⟨j,w0,d,q,ow,qs⟩;rw [hn] at eu;cases eu
   ·rw [l1] at l1';cases l1';rfl
 ·by_cases hi:i < js.length
  ·rw [List.getElem?_append_left (by walk_at "o")] at e
   obtain ⟨j,w0,ej,q,ew⟩:=B8 e
   cases w0 <;> simp only [capW] at ew <;> first | cases ew | (split at ew <;> cases ew)
  ·rw [List.getElem?_append_right (by walk_at "o")] at e
   cases q:i - (capE (li.map (·.2)) js ρ).length with
   | zero=>rw [q] at e;cases e
   | succ n=>rw [q] at e;simp at e
 ·by_cases hi:i < js.length
  ·have e':=e
   rw [List.getElem?_append_left (by walk_at "o")] at e'
   obtain ⟨j,w0,ej,q,ew⟩:=B8 e'
   obtain ⟨v,h1,h2⟩:=r.slot j w0 q
   have e3:(capS js σ ++ [some (V.ref Dd)])[i]? =some (some v):=by rw [List.getElem?_append_left (by walk_at "o")];exact B7 ej h1
   rcases J3 r hl e rfl e3 with ⟨rfl,_⟩ | ⟨j,a,w0,l1,_,_,_,q,ow,qs,rfl⟩
   ·walk_at "o"
   ·exact ⟨a,e3,List.mem_cons_of_mem _ (u9.mpr ⟨j,l1,qs⟩)⟩
  ·have hi':i=js.length:=by
    have:=(List.getElem?_eq_some_iff.mp e).1
    rw [List.length_append,hcl] at this;simp at this;walk_at "o"
   subst hi'
   exact ⟨Dd,acc2,List.mem_cons_self⟩
 ·rcases List.mem_cons.mp e with e | e
  ·cases e;exact ⟨_,acc1,acc2⟩
  ·obtain ⟨j,e1,e2⟩:=u9.mp e
   obtain ⟨w0,d,_,_,q1,q2⟩:=lnt2 e1 e2
   exact ⟨d,q1,q2⟩
end
structure Tst (Y:Cx) (ifs:List Expr) (t:FT):Prop where
 to:∀(pins:List (Addr×PySem.Obj)) (s:Shared) (σ:L2.St) (H:Hp) (P:List (D×V)) (O:Av) (L:List (Nat×Addr)) (ρ ρ':Ev) (k:Bool) (Q:Bool->Hp->Prop),Inv Y pins σ H s->Rep Y P O L ρ σ H->t ρ=some (k,ρ')->(∀H',Rep Y P O L ρ' σ H'->Q k H')->
  wpAny (model Y.prog Y.w) Y.A (forIn ifs true fun c r=>if r=true then do let ok <-isTrue c Y.env (eval c Y.env);pure (ForInStep.yield ok) else pure (ForInStep.yield r)) (TP Y pins σ Q) Fa s
theorem u3 {Y:Cx}:Tst Y [] (fun ρ=>some (true,ρ)):=⟨fun pins s σ H P O L ρ ρ' k Q I r e q=>by cases e;exact wpAny_tests_nil ⟨H,I,q H r⟩⟩
theorem a0z {Y:Cx}{c:Expr}{t:FT}(hx:Y.xe=Fa)(h:QT Y c t):Tst Y [c] t:=⟨fun pins s σ H P O L ρ ρ' k Q I r e q=>by
 have z:=h.to pins s σ H Q I ⟨P,O,L,ρ,k,ρ',r,e,q⟩
 rw [hx] at z
 exact wpAny_tests_one z⟩
def WksB (li:Option (Nat×Nat)) (K:PySem.W.Frag) (P:List (D×V)) (O:Av) (ρ:Ev) (σ:L2.St) (H:Hp) (xs:List D) (J:It):Prop:=∀(Y:Cx) (O':Av) (L:List (Nat×Addr)) (ρ':Ev) (σ':L2.St) (H':Hp),Y.K=K->Y.H₀=H->Rep Y P O' L ρ' σ' H'->(∀b,O' b->AvO O ρ σ b)->(li=none->∀i b,(i,b)∈L->H b=none)->
 (∀(i:Nat) (x:D),xs[i]? =some x->J.go i H'/\∀v H'',J.yld i H' v H''->Same H' H''/\Den K (AvO O' ρ' σ') H'' x v)/\J.stop xs.length H'
def tIB (X:Cx) (li:Option (Nat×Nat)) (fi:FI):TI:=fun σ H R=>∃P O L ρ xs ρ',Rep X P O L ρ σ H/\fi ρ=some (xs,ρ')/\∀J H1 P',Rep X P' O L ρ' σ H1->Holds P' P->WksB li X.K P' O ρ' σ H1 xs J->R J H1
theorem tIBe {X:Cx}{li:Option (Nat×Nat)}{fi:FI}{σ:L2.St}{H:Hp}{R:It->Hp->Prop}{C:Prop}(h:tIB X li fi σ H R)(k:∀P O L ρ xs ρ',Rep X P O L ρ σ H->fi ρ=some (xs,ρ')->(∀J H1 P',Rep X P' O L ρ' σ H1->Holds P' P->WksB li X.K P' O ρ' σ H1 xs J->R J H1)->C):C:=by
 obtain ⟨P,O,L,ρ,w,ρ',r,e,q⟩:=h
 exact k P O L ρ w ρ' r e q
structure QIB (X:Cx) (li:Option (Nat×Nat)) (tg iter:Expr) (fi:FI):Prop where
 to:PI X tg iter (tIB X li fi)
theorem Wks.b {li:Option (Nat×Nat)}{K:PySem.W.Frag}{P:List (D×V)}{O:Av}{ρ:Ev}{σ:L2.St}{H:Hp}{xs:List D}{J:It}(w:Wks K P xs J):WksB li K P O ρ σ H xs J:=fun Y O' L ρ' σ' H' hY _ r _ _=>w Y O' L ρ' σ' H' hY r
theorem E7 {X:Cx}{li:Option (Nat×Nat)}{tg iter:Expr}{fi:FI}(h:QI X tg iter fi):QIB X li tg iter fi:=⟨PI.weak h.to fun σ H R h0=>tIBe h0 fun P O L ρ xs ρ' r e q=>⟨P,O,L,ρ,xs,ρ',r,e,fun J H1 P' r1 hh w=>q J H1 P' r1 hh w.b⟩⟩
def fiName (i:Nat):FI:=fun ρ=>match ρ[i]? with
 | some (some (.v d))=>(items d).map fun xs=>(xs,ρ)
 | some (some (.r _))=>none
 | some (some w)=>match w.own with
  | some (.lst xs)=>some (xs,ρ)
  | _=>none
 | _=>none
theorem b2t {Y:Cx}{P:List (D×V)}{O O':Av}{L:List (Nat×Addr)}{ρ ρ':Ev}{σ σ':L2.St}{H H':Hp}(hH:Y.H₀=H)(r:Rep Y P O' L ρ' σ' H')(ho:∀b,O' b->AvO O ρ σ b)(hn:∀i b,(i,b)∈L->H b=none):Go (AvO O ρ σ) (AvO O' ρ' σ') (fun _=>False) H H' where
 k:=fun b o e _=>r.same b o (by rw [hH];exact e) fun i m=>by rw [hn i b m] at e;cases e
 m:=fun _ z=>z.elim
 n:=fun b z=>by
  rcases z with z | ⟨i,w,d,e1,e2,e3⟩
  ·exact .inl (ho b z)
  ·cases w with
   | o c=>exact .inr (by rw [<-hH];exact r.new i c b e1 e3)
   | l c=>obtain ⟨b',q1,q2⟩:=r.lnt i c e1;rw [e3] at q1;cases q1;exact .inr (hn i b q2)
   | _=>cases e2
theorem C0 {X:Cx}{tg:Expr}{pos:Pos}(i:Nat){x:Str}(hN:X.N[i]? =some x:=by rfl)(hv:Vis X.env.scope x:=by first | exact Or.inl rfl | exact Or.inr (Or.inl rfl) | exact Or.inr (Or.inr rfl))(hd:(x == ("__debug__":Str))=false:=by decide)(hcd:(x == ("__classdict__":Str))=false:=by decide):QIB X none tg (.Name x pos) (fiName i):=⟨PI.weak (a7r (a2T hN hv hd hcd)) fun σ H R h0=>tIBe h0 fun P O L ρ xs ρ' r e q=>by
 unfold fiName at e
 split at e
 ·rename_i d0 e0
  obtain ⟨v,h1,h2⟩:=r.slot i _ e0
  have h2:Den X.K (AvO O ρ σ) H d0 v:=h2
  obtain ⟨ys,e3,e⟩:=oms e
  cases e
  have r3:=r.more (p:=(d0,v)) h2
  have hh:Holds ((d0,v) :: P) P:=fun p hp=>List.mem_cons_of_mem _ hp
  refine ⟨v,h1,?_⟩
  cases d0 with
  | tup zs=>
   cases e3
   have z:=h2
   rw [Den] at z
   obtain ⟨a,vs,rfl,hq,l⟩:=z
   refine .inr ⟨a,rfl,⟨vs,hq⟩,q _ H _ r3 hh (Wks.b fun Y O' L' ρ' σ' Hh hY rr=>?_)⟩
   have z:=rr.head
   rw [hY] at z
   rw [Den] at z
   obtain ⟨a',vs,ea,hq,l⟩:=z
   cases ea
   refine ⟨fun i x ex=>?_,vs,hq,by rw [<-c5 l];exact Nat.le_refl _⟩
   obtain ⟨v0,hv,dv⟩:=v4 l ex
   exact ⟨⟨vs,v0,hq,hv⟩,fun w H' ⟨y1,y2⟩=>by subst y1;have:=y2 vs hq;rw [hv] at this;cases this;exact ⟨Same.refl _,dv⟩⟩
  | lst zs=>
   cases e3
   obtain ⟨a,vs,rfl,hq,l⟩:=E8 h2
   refine .inl ⟨a,rfl,⟨vs,hq⟩,q _ H _ r3 hh (Wks.b fun Y O' L' ρ' σ' Hh hY rr=>?_)⟩
   have z:=rr.head
   rw [hY] at z
   obtain ⟨a',vs,ea,hq,l⟩:=E8 z
   cases ea
   refine ⟨fun i x ex=>?_,vs,hq,by rw [<-c5 l];exact Nat.le_refl _⟩
   obtain ⟨v0,hv,dv⟩:=v4 l ex
   exact ⟨⟨vs,v0,hq,hv⟩,fun w H' ⟨y1,y2⟩=>by subst y1;have:=y2 vs hq;rw [hv] at this;cases this;exact ⟨Same.refl _,dv⟩⟩
  | _=>cases e3
 ·cases e
 ·rename_i w0 _ _ e0
  cases ew:w0.own with
  | none=>rw [ew] at e;cases e
  | some c=>
   rw [ew] at e
   cases c with
   | lst zs=>
    cases e
    obtain ⟨a,h1,h2⟩:=r.obj e0 ew
    refine ⟨.ref a,h1,?_⟩
    obtain ⟨vs,h4,lz⟩:=h2
    refine .inl ⟨a,rfl,⟨vs,.inl (.inl h4)⟩,q _ H P r (fun p hp=>hp) fun Y O' L' ρ2 σ2 Hh hY hH rr ho hn=>?_⟩
    have g:=b2t hH rr ho (hn rfl)
    have l2:=q8 g _ _ lz
    have h5:Hh a=some (.lst vs):=g.k a _ h4 id
    have hq:SqL X.K Hh a vs:=.inl (.inl h5)
    refine ⟨fun i x ex=>?_,vs,hq,by rw [<-c5 lz];exact Nat.le_refl _⟩
    obtain ⟨v0,hv,dv⟩:=v4 l2 ex
    exact ⟨⟨vs,v0,hq,hv⟩,fun w H' ⟨y1,y2⟩=>by subst y1;have:=y2 vs hq;rw [hv] at this;cases this;exact ⟨Same.refl _,dv⟩⟩
   | _=>cases e
 ·cases e⟩
def appTo (k:Nat) (p:W×Ev):Option Ev:=(takeAll p.2 [p.1.fz]).bind fun q=>match q.1,ownAt q.2 k with
 | [d],some (.lst zs)=>if zs.length < lim then some (setOwn q.2 k (.lst (zs ++ [d]))) else none
 | _,_=>none
def turnC (k:Nat) (gf:FG) (t:FT) (fe:FX):D->Ev->Option Ev:=fun x ρ=>(gf x ρ).bind fun ρ1=>(t ρ1).bind fun p=>if p.1=true then (fe p.2).bind (appTo k) else some p.2
def loopC (st:D->Ev->Option Ev):List D->Ev->Option Ev
 | [],ρ=>some ρ
 | x :: xs,ρ=>(st x ρ).bind (loopC st xs)
section
variable {X:Cx}{pins:List (Addr×PySem.Obj)}{σ:L2.St}{H2:Hp}{s2:Shared}{scope:Scope}{cl:List (Str×Addr)}{N:List Str}{js:List (Option Nat)}{fp:List Addr}{it:Addr}{tn:Nat->Heap->Prop}{J:It}
 {elt tg iter:Expr} {ifs:List Expr} {pos:Pos} {P:List (D×V)} {O:Av} {L:List (Nat×Addr)} {ρ ρe:Ev} {xs:List D} {gf:FG} {t:FT} {fe:FX} {Qq:Value->Shared->Prop} {use:Option (Value->Sem Unit)} {li:Option (Nat×Nat)}
theorem a72 (hcalm:X.calm=true)(I2:Inv X pins σ H2 s2)(T:Turn X.prog X.w X.K tg J fp it tn)(st2:tn 0 s2.heap)(f2:∀y∈fp,FpOk X pins H2 y)(b:Blk X scope cl N js)(r:Rep X P O L ρ σ H2)(hl:LiOk li js ρ)(wk:WksB li X.K P O ρ σ H2 xs J)
  (hg:∀C,QG (blk X scope cl s2 H2 fp C (N ++ [accN])) tg gf) (ht:∀C,Tst (blk X scope cl s2 H2 fp C (N ++ [accN])) ifs t) (he:∀C,QX (blk X scope cl s2 H2 fp C (N ++ [accN])) elt fe)
  (e:loopC (turnC js.length gf t fe) xs (capE (li.map (·.2)) js ρ ++ [some (.l (.lst []))])=some ρe)
  (fin:∀(Dd C:Addr) (σe:L2.St) (He:Hp) (s1:Shared),H2 Dd=none->s2.heap.objs.size<=C->Inv (blk X scope cl s2 H2 fp C (N ++ [accN])) [] σe He s1->Rep (blk X scope cl s2 H2 fp C (N ++ [accN])) P (fun b=>AvO O ρ σ b/\¬Capd ρ σ js b) ((js.length,Dd) :: lentL li σ) ρe σe He->
   compPost (model X.prog X.w) X.A X.xe use Qq (.ref Dd) C (.ok .next) s1):
  wpAny (model X.prog X.w) X.A (newList []) (fun acc s3=>wpAny (model X.prog X.w) X.A (newFunctionEnv scope X.env.globals cl [] X.env.qual none .none (some X.env)) (fun cenv s4=>
   codeAny (model X.prog X.w) X.A (.compStart (.ListComp elt [⟨tg,iter,ifs,0⟩] scope pos) 0 (.ref it) acc {cenv with scope:=relabel scope X.env}) (compPost (model X.prog X.w) X.A X.xe use Qq acc cenv.locals) s4) X.xe s3) X.xe s2:=by
 have fl:∀y∈fp,y < s2.heap.objs.size:=fun y hy=>by obtain ⟨o,eo,_⟩:=T.obj _ _ st2 y hy;exact Heap.lt_size eo
 refine wpAny_newObj_type (wpAny_newFunctionEnv b.cell (by intro y hy;simp at hy) (fun h' hns hsb=>?_) b.kind)
 dsimp only at hns hsb ⊢
 generalize hH:s2.heap.push {cls:=.type "list",dict:=none,data:=.seq ([]:List Value).toArray}=H3 at hns hsb ⊢
 have hC:H3.objs.size=s2.heap.objs.size + 1:=by rw [<-hH,Heap.size_push]
 have ne:s2.heap.objs.size≠H3.objs.size:=by rw [hC];exact Nat.ne_of_lt (Nat.lt_succ_self _)
 have leC:s2.heap.objs.size<=H3.objs.size:=by rw [hC];exact Nat.le_succ _
 have kp3:∀y o,s2.heap.get? y=some o->H3.get? y=some o:=fun y o e=>hH▸Heap.get?_push_of_some _ e
 have kp4:∀y o,H3.get? y=some o->h'.get? y=some o:=fun y o e=>hsb.extBut y o (Nat.ne_of_lt (Heap.lt_size e)) (Heap.get?_push_of_some _ e)
 have hDn:H2 s2.heap.objs.size=none:=I2.hok.fresh (Nat.le_refl _)
 have ok3:HOk X.prog X.w (upd H2 s2.heap.objs.size (.lst [])) H3:=I2.hok.laid kp3 (Nat.le_refl _) ⟨Nat.zero_le _,[],0,.nil,by rw [<-hH];exact Heap.get?_push_size _ rfl⟩
 have I4:=a5Q (s4:={s2 with heap:=h',toks:=s2.toks + ([]:List (Str×Value)).length}) (Dd:=s2.heap.objs.size) (C:=H3.objs.size) I2 b f2 fl leC (Nat.le_refl _) ne rfl I2.bare (fun y o e=>kp4 y o (kp3 y o e)) hns (ok3.kept kp4)
 have R4:=a5H (scope:=scope) (cl:=cl) (N:=N) (s2:=s2) (fp:=fp) (C:=H3.objs.size) (Dd:=s2.heap.objs.size) r hl hDn
 have hfree:∀{H':Hp},(∀y∈fp,H' y=none)->∀y∈fp,FpOk (blk X scope cl s2 H2 fp H3.objs.size (N ++ [accN])) [] H' y:=fun hn y hy=>
  ⟨hn y hy,Nat.ne_of_lt (Nat.lt_of_lt_of_le (fl y hy) leC),fun z=>(List.mem_cons.mp (I2.stkSub y z)).elim (f2 y hy).2.1 (f2 y hy).2.2.1,.inl hy,fun x c ec=>(f2 y hy).2.2.2.2.1 x c (b.sub x c ec),fun p hp=>absurd (show p∈([]:List (Addr×PySem.Obj)) from hp) (by simp)⟩
 obtain ⟨gg,pg,kg⟩:=(hg H3.objs.size).to
 have loop:∀s5:Shared,s5={s2 with heap:=h',toks:=s2.toks + ([]:List (Str×Value)).length}->
   codeAny (model X.prog X.w) X.A (.compLoop (.ListComp elt [⟨tg,iter,ifs,0⟩] scope pos) 0 (.ref it) (.ref s2.heap.objs.size) (compEnvC scope cl H3.objs.size X.env))
    (compPost (model X.prog X.w) X.A X.xe use Qq (.ref s2.heap.objs.size) H3.objs.size) s5:=by
  rintro s5 rfl
  let Y:=blk X scope cl s2 H2 fp H3.objs.size (N ++ [accN])
  let O':Av:=fun b=>AvO O ρ σ b/\¬Capd ρ σ js b
  let L':=(js.length,s2.heap.objs.size) :: lentL li σ
  refine a6r (fun n s=>∃i σ' H' ρ',n=xs.length - i/\i<=xs.length/\Inv Y [] σ' H' s/\tn i s.heap/\(∀y∈fp,H' y=none)/\Rep Y P O' L' ρ' σ' H'/\loopC (turnC js.length gf t fe) (xs.drop i) ρ'=some ρe) ?_ xs.length
   ⟨0,_,_,_,by simp,Nat.zero_le _,I4,T.keep 0 _ _ st2 fun y hy o eo=>kp4 y o (kp3 y o eo),fun y hy=>by rw [c8 (Nat.ne_of_lt (fl y hy))];exact (f2 y hy).1,R4,by simpa using e⟩
  rintro n s ⟨i,σ',H',ρ',rfl,hi,I,st,fr,rp,el⟩
  obtain ⟨wi,ws⟩:=wk Y O' L' ρ' σ' H' rfl rfl rp (fun b z=>z.1) (fun z i b m=>by subst z;exact (List.mem_cons.mp m).elim (fun m=>by cases m;exact hDn) (fun m=>by cases m))
  by_cases hlt:i < xs.length
  ·obtain ⟨go,yl⟩:=wi i xs[i] (by simp [hlt])
   refine wpAny_mono (T.item Y rfl rfl rfl hcalm i [] s σ' H' Fa I (hfree fr) st go) (fun r s1 ⟨u,hr,h1⟩=>?_) fun _ _ z=>z
   subst hr
   refine wpAny_mono h1 (fun _ s3 ⟨x,H5,I5,r5,y5,st5,fr5⟩=>?_) fun _ _ z=>z
   obtain ⟨sm5,dx⟩:=yl x H5 y5
   replace rp:=rp.grow sm5
   rw [List.drop_eq_getElem_cons hlt,loopC] at el
   cases e1:turnC js.length gf t fe xs[i] ρ' with
   | none=>rw [e1] at el;cases el
   | some ρt=>
    rw [e1] at el
    simp only [Option.bind_some] at el
    unfold turnC at e1
    cases e2:gf xs[i] ρ' with
    | none=>rw [e2] at e1;cases e1
    | some ρ1=>
     rw [e2] at e1
     simp only [Option.bind_some] at e1
     obtain ⟨⟨k,ρ2⟩,e3,e1⟩:=obs e1
     dsimp only at e1
     have I5':=I5.pinned (hfree fr5) (T.obj _ _ st5)
     have gq:=kg P O' L' xs[i] x ρ' ρ1 σ' H5 (fun σ2 Hh=>Rep Y P O' L' ρ1 σ2 Hh) rp dx e2 (fun σ2 H2' rp2=>rp2)
     refine wpAny_mono (pg _ s3 σ' H5 x u _ I5' r5 gq) (fun _ s6 ⟨σ6,H6,I6,rp6⟩=>?_) fun _ _ z=>z
     have back:∀{s7:Shared} {H7:Hp} {ρ7:Ev},Inv Y ([] ++ pinsAt fp s3.heap) σ6 H7 s7->Rep Y P O' L' ρ7 σ6 H7->loopC (turnC js.length gf t fe) (xs.drop (i + 1)) ρ7=some ρe->
       ∃m,m < xs.length - i/\∃i σ' H' ρ',m=xs.length - i/\i<=xs.length/\Inv Y [] σ' H' s7/\tn i s7.heap/\(∀y∈fp,H' y=none)/\Rep Y P O' L' ρ' σ' H'/\loopC (turnC js.length gf t fe) (xs.drop i) ρ'=some ρe:=fun {s7 H7 ρ7} I7 rp7 e7=>by
      refine ⟨xs.length - (i + 1),by omega,i + 1,σ6,H7,ρ7,rfl,hlt,I7.unpinned,T.keep _ _ _ st5 fun y hy o eo=>(I7.pin (y,o) (List.mem_append_right _ (List.mem_append_right _ (t5 hy eo)))).1,fun y hy=>?_,rp7,e7⟩
      obtain ⟨o,eo,_⟩:=T.obj _ _ st5 y hy
      exact (I7.pin (y,o) (List.mem_append_right _ (List.mem_append_right _ (t5 hy eo)))).2.1
     refine wpAny_mono ((ht H3.objs.size).to _ s6 σ6 H6 P O' L' ρ1 ρ2 k (fun k' Hh=>k'=k/\Rep Y P O' L' ρ2 σ6 Hh) I6 rp6 e3 (fun H' rr=>⟨rfl,rr⟩)) (fun ok s7 ⟨H7,I7,hk,rp7⟩=>?_) fun _ _ z=>z
     subst hk
     cases ok with
     | false=>
      rw [if_neg Bool.false_ne_true] at e1 ⊢
      cases e1
      exact back I7 rp7 el
     | true=>
      rw [if_pos rfl] at e1 ⊢
      obtain ⟨⟨w,ρ3⟩,e4,e1⟩:=obs e1
      simp only [appTo] at e1
      obtain ⟨⟨ds,ρ4⟩,e5,e1⟩:=obs e1
      dsimp only at e1
      split at e1
      ·rename_i d zs e6
       split at e1
       ·rename_i hl
        cases e1
        refine wpAny_mono ((he H3.objs.size).to _ s7 σ6 H7 (fun v H8=>Rep Y P O' L' ρ4 σ6 H8/\Den X.K (AvO O' ρ4 σ6) H8 d v) I7 ⟨P,O',L',ρ2,w,ρ3,rp7,e4,fun v H8 H8' r8 s8 d8=>?_⟩) (fun u8 s8 ⟨v8,H8,I8,r8,rp8,d8⟩=>?_) fun _ _ z=>z
        ·obtain ⟨r9,l9,_⟩:=k8 (vs:=[v]) (r8.grow s8) e5 ⟨v,[],rfl,d8.fz r8 s8,rfl⟩
         obtain ⟨v',ev,h'⟩:=denL1 l9
         cases ev
         exact ⟨r9,h'⟩
        ·obtain ⟨d0,q1,q2⟩:=rp8.lnd js.length s2.heap.objs.size List.mem_cons_self
         have e6':=e6
         unfold ownAt at e6'
         rw [q1] at e6'
         cases e6'
         obtain ⟨a,h1,vs,h4,lz⟩:=rp8.obj q1 rfl
         rw [q2] at h1
         cases h1
         have h9:=X5 (X:=Y) _ s8 σ6 H8 (.ref s2.heap.objs.size) [v8] (.ref s2.heap.objs.size) [u8] (fun v H9=>H9=upd H8 s2.heap.objs.size (.lst (vs ++ [v8]))) I8 rfl (.cons r8 .nil) ⟨_,vs,v8,rfl,rfl,h4,by rw [<-c5 lz];exact Nat.lt_of_lt_of_le hl q9,rfl⟩
         refine wpAny_mono h9 (fun _ s9 ⟨v9,H9,I9,_,e9⟩=>?_) fun _ _ z=>z
         subst e9
         have g0:Go (AvO O' ρ4 σ6) (AvO O' ρ4 σ6) (fun b=>b=s2.heap.objs.size) H8 (upd H8 s2.heap.objs.size (.lst (vs ++ [v8]))):=⟨fun b o eb nb=>by rw [c8 nb];exact eb,fun b z=>by rw [z];exact ⟨.inr ⟨js.length,_,_,q1,rfl,q2⟩,_,h4,trivial⟩,fun b z=>.inl z⟩
         exact back I9 (rp8.mut (d:=.lst (zs ++ [d])) e6 q2 (fun b o eb nb=>by rw [c8 nb];exact eb) ⟨_,j9,q8 g0 _ _ (t3 lz (g8 d8 j4))⟩) el
       ·cases e1
      ·cases e1
  ·have hie:i=xs.length:=by omega
   subst hie
   refine wpAny_mono (T.done Y rfl rfl rfl hcalm _ [] s σ' H' Fa I (hfree fr) st ws) (fun r s1 ⟨hr,I1⟩=>?_) fun _ _ z=>z
   subst hr
   rw [List.drop_eq_nil_of_le (Nat.le_refl _),loopC] at el
   cases el
   exact fin _ _ σ' H' s1 hDn leC I1 rp
 exact codeAny_compStart_list (loop _ rfl) (T.self _ 0 _ _ _ (T.keep 0 _ _ st2 fun y hy o eo=>kp4 y o (kp3 y o eo)) (loop _ rfl))
theorem a0K {C:Addr}{σe:L2.St}{He:Hp}{s1:Shared}{h9:Heap}(I2:Inv X pins σ H2 s2)(f2:∀y∈fp,FpOk X pins H2 y)(leC:s2.heap.objs.size<=C)(I1:Inv (blk X scope cl s2 H2 fp C (N ++ [accN])) [] σe He s1)(hs9:∀y,y≠C->h9.get? y=s1.heap.get? y):
  Inv X pins σ He {s1 with heap:=h9}:=by
 have neC:∀y,He y≠none->y≠C:=fun y z w=>z (by rw [w];exact I1.free)
 have inS:∀y o,s2.heap.get? y=some o->y≠C:=fun y o e0=>Nat.ne_of_lt (Nat.lt_of_lt_of_le (Heap.lt_size e0) leC)
 have B:=I1.base
 have un:Un (frs X.stack) fp H2 He s2.heap h9:=⟨fun y o e0 n hb hx=>(hs9 y (inS y o e0)).trans (B.keep y o e0 n hb hx),fun y o e0 n hb hx=>by
   obtain ⟨sl',z⟩:=B.slot y o e0 n hb hx
   exact ⟨sl',(hs9 y (inS y o e0)).trans z⟩,B.free,fun y o e0 hx=>by
   obtain ⟨o',z⟩:=B.there y o e0 hx
   exact ⟨o',(hs9 y (inS y o e0)).trans z⟩,B.tups,B.frzs,B.tbls⟩
 have hok:HOk X.prog X.w He h9:=fun y u0 q0=>(I1.hok y u0 q0).stay (fun c v hc z=>(hs9 c (neC c (by
   rcases hc with w | w
   ·rw [w,q0];exact fun z=>nomatch z
   ·rw [w];exact fun z=>nomatch z))).trans z) (fun _ z=>z) fun _ _ z=>z
 exact I2.call' (s':={s1 with heap:=h9}) (ch:=fp) I1.os un hok I1.bare (fun y hy=>⟨(f2 y hy).2.2.2.1,(f2 y hy).2.1,(f2 y hy).2.2.2.2.1,(f2 y hy).2.2.2.2.2⟩)
end
def capR (js:List (Option Nat)):List W:=js.filterMap fun o=>o.map W.r
def backC (li:Option (Nat×Nat)) (js:List (Option Nat)) (ρe ρ1:Ev) (ys:List D):Option (W×Ev):=match li with
 | none=>if lfL ys=true then some (.o (.lst ys),ρ1) else (frzL (capR js) ρ1).map fun ρ2=>(.o (.lst ys),ρ2)
 | some (i,j)=>if lfL ys=true then (ownAt ρe i).bind fun c=>if lfC c=true then some (.o (.lst ys),setOwn ρ1 j c) else none else none
def liJ (li:Option (Nat×Nat)) (js:List (Option Nat)):Bool:=match li with
 | none=>true
 | some (i,j)=>js[i]? == some (some j) && (List.range js.length).all fun k=>js[k]? != some (some j) || k == i
def liB (li:Option (Nat×Nat)) (ρ:Ev):Bool:=match li with
 | none=>true
 | some (_,j)=>(ownAt ρ j).isSome
def fComp (fi:FI) (li:Option (Nat×Nat)) (js:List (Option Nat)) (gf:FG) (t:FT) (fe:FX):FX:=fun ρ=>(fi ρ).bind fun p=>if liB li p.2=true then
  (loopC (turnC js.length gf t fe) p.1 (capE (li.map (·.2)) js p.2 ++ [some (.l (.lst []))])).bind fun ρe=>match ownAt ρe js.length with
   | some (.lst ys)=>backC li js ρe p.2 ys
   | _=>none
 else none
section
variable {X:Cx}{pins:List (Addr×PySem.Obj)}{σ σe:L2.St}{H2 He:Hp}{s2:Shared}{scope:Scope}{cl:List (Str×Addr)}{N:List Str}{js:List (Option Nat)}{fp:List Addr}{Dd C:Addr}
 {elt tg iter:Expr} {ifs:List Expr} {pos:Pos} {P:List (D×V)} {O:Av} {L:List (Nat×Addr)} {ρ ρ2 ρe:Ev} {w:W} {ys:List D} {fi:FI} {gf:FG} {t:FT} {fe:FX} {li:Option (Nat×Nat)}
theorem b0E (h:liJ li js=true)(hb:liB li ρ=true):LiOk li js ρ:=by
 cases li with
 | none=>exact ⟨nofun,nofun,nofun⟩
 | some p=>
  obtain ⟨i,j⟩:=p
  simp only [liJ,Bool.and_eq_true,beq_iff_eq,List.all_eq_true,List.mem_range,Bool.or_eq_true,bne_iff_ne] at h
  simp only [liB,Option.isSome_iff_exists] at hb
  refine ⟨fun i' j' e=>by cases e;exact hb,fun i' j' e=>by cases e;exact h.1,fun i' j' k e ek=>?_⟩
  cases e
  rcases h.2 k (List.getElem?_eq_some_iff.mp ek).1 with z | z
  ·exact absurd ek z
  ·exact z
theorem a4k {j:Nat}:W.r j∈capR js↔some j∈js:=by
 unfold capR
 rw [List.mem_filterMap]
 constructor
 ·rintro ⟨o,h1,h2⟩
  cases o with
  | none=>cases h2
  | some k=>cases h2;exact h1
 ·exact fun h=>⟨some j,h,rfl⟩
theorem a54 (r:Rep X P O L ρ σ H2)(hl:LiOk li js ρ)(hn:H2 Dd=none)(rp:Rep (blk X scope cl s2 H2 fp C (N ++ [accN])) P (fun b=>AvO O ρ σ b/\¬Capd ρ σ js b) ((js.length,Dd) :: lentL li σ) ρe σe He)
  (ey:ownAt ρe js.length=some (.lst ys)) (e:backC li js ρe ρ ys=some (w,ρ2)):∃Hx,Rep X P O L ρ2 σ Hx/\Same Hx He/\DenW X.K (AvO O ρ2 σ) σ Hx He w (.ref Dd):=by
 obtain ⟨c0,q0,ob⟩:=rp.lents js.length Dd List.mem_cons_self
 rw [ey] at q0;cases q0
 cases li with
 | none=>
  have sm:Same H2 He:=fun b o eb=>rp.same b o eb fun i m=>by
   rcases List.mem_cons.mp m with m | m
   ·cases m;rw [hn] at eb;cases eb
   ·cases m
  unfold backC at e
  simp only at e
  split at e
  ·rename_i hf
   cases e
   exact ⟨H2,r,sm,Dd,rfl,hn,T5 (d:=.lst ys) (fun _ _ e _=>e) hf rfl ob⟩
  ·obtain ⟨ρ3,e4,e⟩:=oms e
   cases e
   obtain ⟨r2,k2⟩:=G7 r e4
   refine ⟨H2,r2,sm,Dd,rfl,hn,t4 (w4 fun b z=>?_) rfl ob⟩
   rcases z with z | z
   ·obtain ⟨z1,z2⟩:=R6 r k2 z
    exact .inl ⟨z1,fun ⟨j,w,d,m,q⟩=>z2 ⟨j,w,d,a4k.mpr m,q⟩⟩
   ·exact .inr ⟨js.length,by rw [z];exact List.mem_cons_self⟩
 | some p=>
  obtain ⟨i,j⟩:=p
  unfold backC at e
  simp only at e
  split at e
  ·rename_i hf
   cases e5:ownAt ρe i with
   | none=>rw [e5] at e;cases e
   | some c=>
    rw [e5] at e
    simp only [Option.bind_some] at e
    split at e
    ·rename_i hc
     cases e
     obtain ⟨c1,ec1⟩:=hl.own i j rfl
     obtain ⟨w0,q1,ow⟩:=n9 ec1
     obtain ⟨a,h1,oba⟩:=r.obj q1 ow
     obtain ⟨u0,eu0,_⟩:=v5 oba
     have na:a≠Dd:=fun z=>by rw [z,hn] at eu0;cases eu0
     have mem:(i,a)∈lentL (some (i,j)) σ:=u9.mpr ⟨j,rfl,h1⟩
     obtain ⟨c2,ec2,ob2⟩:=rp.lents i a (List.mem_cons_of_mem _ mem)
     rw [e5] at ec2;cases ec2
     obtain ⟨ur,eur,mur⟩:=v5 ob
     have keep:∀b o,H2 b=some o->b≠a->He b=some o:=fun b o eb nb=>rp.same b o eb fun k m=>by
      rcases List.mem_cons.mp m with m | m
      ·cases m;rw [hn] at eb;cases eb
      ·obtain ⟨j',e1,e2⟩:=u9.mp m
       cases e1
       rw [h1] at e2;cases e2;exact nb rfl
     refine ⟨fun b=>if b=Dd then none else He b,r.mut ec1 h1 (fun b o eb nb=>?_) (T5 (fun b o eb nm=>?_) hc (if_neg na) ob2),fun b o eb=>?_,Dd,rfl,if_pos rfl,T5 (d:=.lst ys) (fun _ _ e _=>e) hf rfl ob⟩
     ·have:b≠Dd:=fun z=>by rw [z,hn] at eb;cases eb
      show (if b=Dd then none else He b)=some o
      rw [if_neg this];exact keep b o eb nb
     ·have:b≠Dd:=fun z=>by rw [z,eur] at eb;cases eb;exact nm mur
      show (if b=Dd then none else He b)=some o
      rw [if_neg this];exact eb
     ·dsimp only at eb;split at eb
      ·cases eb
      ·exact eb
    ·cases e
  ·cases e
theorem a3w {Q:VK}{Qq:Value->Shared->Prop}{use:Option (Value->Sem Unit)}{H:Hp}{s:Shared}{newPos:Pos}(hc:X.calm=true)(b:Blk X scope cl N js)(hj:liJ li js=true)(hi:QIB X li tg iter fi)
  (hg:∀s2 H2 fp C,QG (blk X scope cl s2 H2 fp C (N ++ [accN])) tg gf) (ht:∀s2 H2 fp C,Tst (blk X scope cl s2 H2 fp C (N ++ [accN])) ifs t) (he:∀s2 H2 fp C,QX (blk X scope cl s2 H2 fp C (N ++ [accN])) elt fe) (hs:∀x,foldedSetIterable iter X.env x=pure x)
  (I:Inv X pins σ H s) (h:tX X (fComp fi li js gf t fe) σ H Q)
  (fin:∀(C:Addr) (v:V) (He:Hp) (s1:Shared),Q v He->(∀h9:Heap,(∀y,y≠C->h9.get? y=s1.heap.get? y)->Inv X pins σ He {s1 with heap:=h9})->FpOk X pins He C->(∃m,s1.heap.Ns C m)->∀vv,RelV v vv->compPost (model X.prog X.w) X.A X.xe use Qq vv C (.ok .next) s1):
  wpAny (model X.prog X.w) X.A (comprehension (.ListComp elt [⟨tg,iter,ifs,0⟩] scope pos) scope X.env newPos (newList []) false (eval iter X.env) use) Qq X.xe s:=by
 obtain ⟨P,O,L,ρ,w,ρ',r,e,q⟩:=h
 unfold fComp at e
 obtain ⟨⟨xs,ρ1⟩,e1,e⟩:=obs e
 dsimp only at e
 split at e
 ·rename_i hb
  cases e2:loopC (turnC js.length gf t fe) xs (capE (li.map (·.2)) js ρ1 ++ [some (.l (.lst []))]) with
  | none=>rw [e2] at e;cases e
  | some ρe=>
   rw [e2] at e
   simp only [Option.bind_some] at e
   split at e
   ·rename_i ys ey
    have hl:=b0E hj hb
    refine wpAny_comprehension_free rfl hs b.clos b.kind b.nms ?_
    refine wpAny_mono (hi.to pins s σ H _ I ⟨P,O,L,ρ,xs,ρ1,r,e1,fun J H1 P' r1 hh wk=>(⟨P',r1,hh,wk⟩:∃P',Rep X P' O L ρ1 σ H1/\Holds P' P/\WksB li X.K P' O ρ1 σ H1 xs J)⟩) (fun v s1 h1=>wpAny_mono h1 (fun itv s2 h2=>?_) fun _ _ z=>z) fun _ _ z=>z
    obtain ⟨it,fp,tn,J,H2,rfl,I2,T,st2,f2,P',r1,hh,wk⟩:=h2
    refine a72 hc I2 T st2 f2 b r1 hl wk (hg s2 H2 fp) (ht s2 H2 fp) (he s2 H2 fp) e2 fun Dd C σe He s3 hn leC I1 rp=>?_
    obtain ⟨Hx,rx,sx,dx⟩:=a54 r1 hl hn rp ey e
    obtain ⟨m,hm,_⟩:=id I1.loc
    refine fin C (.ref Dd) He s3 (q _ Hx He (rx.holds hh) sx dx) (fun h9 k9=>a0K I2 f2 leC I1 k9) ?_ ⟨m,hm⟩ (.ref Dd) rfl
    exact I2.fpOk leC I1.free
   ·cases e
 ·cases e
theorem s0 (hc:X.calm=true)(b:Blk X scope cl N js)(hi:QIB X li tg iter fi)(hg:∀s2 H2 fp C,QG (blk X scope cl s2 H2 fp C (N ++ [accN])) tg gf)(ht:∀s2 H2 fp C,Tst (blk X scope cl s2 H2 fp C (N ++ [accN])) ifs t)(he:∀s2 H2 fp C,QX (blk X scope cl s2 H2 fp C (N ++ [accN])) elt fe)
  (hj:liJ li js=true:=by rfl) (hs:∀x,foldedSetIterable iter X.env x=pure x:=by intro _;rfl):QX X (.ListComp elt [⟨tg,iter,ifs,0⟩] scope pos) (fComp fi li js gf t fe):=⟨fun pins s σ H Q I h=>by
 rw [eval_ListComp]
 refine a3w (use:=none) hc b hj hi hg ht he hs I h fun C v He s1 hq back fp ⟨m,hm⟩ vv rv=>?_
 exact ⟨m,hm,fun h9 k9=>⟨v,He,back h9 fun y ny=>k9.2 y ny,rv,hq⟩⟩⟩
def UseOk (X:Cx) (pins:List (Addr×PySem.Obj)) (σ:L2.St) (Q:VK) (u:Value->Sem Unit) (Rr:Shared->Prop):Prop:=
 ∀(C:Addr) (m:Str->Option Value) (s':Shared) (H':Hp) (v:V) (vv:Value),FpOk X pins H' C->s'.heap.Ns C m->Inv X pins σ H' s'->RelV v vv->Q v H'->
  wpAny (model X.prog X.w) X.A (u vv) (fun _ s2=>∃m,s2.heap.Ns C m/\∀h',Heap.SameBut C s2.heap h'->Rr {s2 with heap:=h'}) X.xe s'
structure QXU (X:Cx) (e:Expr) (f:FX):Prop where
 to:∀(pins:List (Addr×PySem.Obj)) (s:Shared) (σ:L2.St) (H:Hp) (Q:VK) (u:Value->Sem Unit) (Rr:Shared->Prop),Inv X pins σ H s->tX X f σ H Q->UseOk X pins σ Q u Rr->
  wpAny (model X.prog X.w) X.A (evalThenUse e X.env u) (fun _ s'=>Rr s') X.xe s
theorem a71 {M:Model}{A:Around}{E:Value->Shared->Prop}{s:Shared}{env:Env}{elt:Expr}{g:Comprehension}{gs:List Comprehension}{scope:Scope}{pos:Pos}{u:Value->Sem Unit}{Rr:Shared->Prop}
  (h:wpAny M A (comprehension (.ListComp elt (g :: gs) scope pos) scope env (firstIterPos (g :: gs) pos) (newList []) (firstAsync (g :: gs)) (firstIter (g :: gs) env) (some u)) (fun _ s'=>Rr s') E s):
  wpAny M A (evalThenUse (.ListComp elt (g :: gs) scope pos) env u) (fun _ s'=>Rr s') E s:=by
 show wpAny M A (do let _ <-comprehension (.ListComp elt (g :: gs) scope pos) scope env (firstIterPos (g :: gs) pos) (newList []) (firstAsync (g :: gs)) (firstIter (g :: gs) env) (some u)) _ _ s
 exact wpAny_bind (wpAny_mono h (fun _ s' hq=>wpAny_pure hq) fun _ _ e=>e)
theorem a9o (hc:X.calm=true)(b:Blk X scope cl N js)(hi:QIB X li tg iter fi)(hg:∀s2 H2 fp C,QG (blk X scope cl s2 H2 fp C (N ++ [accN])) tg gf)(ht:∀s2 H2 fp C,Tst (blk X scope cl s2 H2 fp C (N ++ [accN])) ifs t)(he:∀s2 H2 fp C,QX (blk X scope cl s2 H2 fp C (N ++ [accN])) elt fe)
  (hj:liJ li js=true:=by rfl) (hs:∀x,foldedSetIterable iter X.env x=pure x:=by intro _;rfl):QXU X (.ListComp elt [⟨tg,iter,ifs,0⟩] scope pos) (fComp fi li js gf t fe):=⟨fun pins s σ H Q u Rr I h hU=>by
 refine a71 (a3w (use:=some u) hc b hj hi hg ht he hs I h fun C v He s1 hq back fp ⟨m,hm⟩ vv rv=>?_)
 exact hU C m s1 He v vv fp hm (back s1.heap fun y _=>rfl) rv hq⟩
end
theorem Y1 {prog:Program}{w:World}{A:Around}(hh:A.handled=none){l I:Addr}{its:Array Value}(ne:l≠I):
  Walks prog w A I [I,l] [I] its.size (fun i v=>its[i]? =some v) (fun i h=>h.IsListIter I l i/\h.IsList l its) where
 sub:=fun b hb=>by rw [List.mem_singleton.mp hb];exact List.mem_cons_self
 frame:=fun i h h' ⟨⟨o,e,r⟩,⟨o2,e2,r2⟩⟩ k=>⟨⟨o,k I List.mem_cons_self o e,r⟩,⟨o2,k l (List.mem_cons_of_mem _ List.mem_cons_self) o2 e2,r2⟩⟩
 item:=fun i s Q E hi ⟨h1,h2⟩ q=>wpAny_pyNext_list_item h1 h2 (x:=its[i]) (by simp [hi]) fun h' hit hs=>q its[i] h' s.toks (by simp [hi]) ⟨hit,h2.extBut hs.extBut ne⟩ fun b o hb e=>hs.extBut b o (fun z=>hb (by rw [z];exact List.mem_singleton.mpr rfl)) e
 done:=fun s Q E ⟨h1,h2⟩ q=>wpAny_pyNext_list_end hh h1 h2 (by simp) fun h' hx=>q h' s.toks fun b o hb e=>hx b o (fun z=>hb (by rw [z];exact List.mem_singleton.mpr rfl)) e
 self:=fun i s Q E ⟨h1,_⟩ q=>wpAny_pyIter_listiter h1 q
theorem a35 {bs:List Bool}{its:List Value}(r:Vals (bs.map V.bl) its){i:Nat}{v:Value}(e:its.toArray[i]? =some v):v= .bool (bs.getD i false):=by
 rw [List.getElem?_toArray] at e
 induction bs generalizing its i with
 | nil=>cases r;simp at e
 | cons b bs ih=>
  cases r with
  | cons r1 r2=>
   cases i with
   | zero=>simp at e;subst e;exact r1
   | succ i=>exact ih r2 (by simpa using e)
theorem a6C (bs:List Bool)(n:Nat)(hn:n=bs.length):(List.range n).all (fun i=>bs.getD i false)=bs.all id:=by
 subst hn
 apply Bool.eq_iff_iff.mpr
 simp only [List.all_eq_true,List.mem_range,id]
 constructor
 ·intro h x hx
  obtain ⟨i,hi,e⟩:=List.mem_iff_getElem.mp hx
  have:=h i hi
  rw [List.getD_eq_getElem?_getD,List.getElem?_eq_getElem hi] at this
  simpa [e] using this
 ·intro h i hi
  rw [List.getD_eq_getElem?_getD,List.getElem?_eq_getElem hi]
  exact h _ (List.getElem_mem hi)
theorem a6I (bs:List Bool)(n:Nat)(hn:n=bs.length):(List.range n).any (fun i=>bs.getD i false)=bs.any id:=by
 subst hn
 apply Bool.eq_iff_iff.mpr
 simp only [List.any_eq_true,List.mem_range,id]
 constructor
 ·rintro ⟨i,hi,h⟩
  rw [List.getD_eq_getElem?_getD,List.getElem?_eq_getElem hi] at h
  exact ⟨_,List.getElem_mem hi,by simpa using h⟩
 ·rintro ⟨x,hx,h⟩
  obtain ⟨i,hi,e⟩:=List.mem_iff_getElem.mp hx
  refine ⟨i,hi,?_⟩
  rw [List.getD_eq_getElem?_getD,List.getElem?_eq_getElem hi]
  simpa [e] using h
section
variable {X:Cx}
theorem a1F (hc:X.calm=true):CallR X (.builtin "all") (fun xs H Q=>∃(p:Addr) (bs:List Bool),xs=[.ref p]/\SqL X.K H p (bs.map V.bl)/\Q (.bl (bs.all id)) H):=by
 intro pins s σ H xs us Q I r h
 obtain ⟨p,bs,rfl,hq,q⟩:=h
 obtain ⟨u,rfl,ru⟩:=vals1 r
 cases ru
 obtain ⟨its,rv,⟨o,m,h1,h2,_,h4⟩,hz⟩:=I.list hq
 have hl:s.heap.IsList p its.toArray:=⟨o,h1,h2,m,h4⟩
 have ne:p≠s.heap.objs.size:=Nat.ne_of_lt (Heap.lt_size h1)
 refine call_all_walk (wpAny_pyIter_list hl ⟨s.heap.objs.size,_,_,_,_,_,fun i=>bs.getD i false,rfl,Y1 (show X.A.in1.handled=none from I.ok.hd hc) ne,⟨⟨_,Heap.get?_push_size _ rfl,rfl,rfl⟩,hl.push _⟩,fun i v s' Q' E' hv hq'=>?_,fun h' tk hk=>?_⟩)
 ·rw [a35 rv hv];exact wpAny_truthy_bool hq'
 ·have I1:Inv X pins σ H {s with heap:=h',toks:=tk}:=I.kept (t':=tk) fun b ob e=>hk b ob (fun z=>absurd (Heap.lt_size e) (by rw [List.mem_singleton.mp z];exact Nat.lt_irrefl _)) (Heap.get?_push_of_some _ e)
  refine ⟨.bl _,H,I1,?_,q⟩
  show Value.bool _=Value.bool _
  rw [a6C bs _ (by rw [List.size_toArray,<-rv.length,List.length_map])]
theorem a6X (hc:X.calm=true):CallR X (.builtin "any") (fun xs H Q=>∃(p:Addr) (bs:List Bool),xs=[.ref p]/\SqL X.K H p (bs.map V.bl)/\Q (.bl (bs.any id)) H):=by
 intro pins s σ H xs us Q I r h
 obtain ⟨p,bs,rfl,hq,q⟩:=h
 obtain ⟨u,rfl,ru⟩:=vals1 r
 cases ru
 obtain ⟨its,rv,⟨o,m,h1,h2,_,h4⟩,hz⟩:=I.list hq
 have hl:s.heap.IsList p its.toArray:=⟨o,h1,h2,m,h4⟩
 have ne:p≠s.heap.objs.size:=Nat.ne_of_lt (Heap.lt_size h1)
 refine call_any_walk (wpAny_pyIter_list hl ⟨s.heap.objs.size,_,_,_,_,_,fun i=>bs.getD i false,rfl,Y1 (show X.A.in1.handled=none from I.ok.hd hc) ne,⟨⟨_,Heap.get?_push_size _ rfl,rfl,rfl⟩,hl.push _⟩,fun i v s' Q' E' hv hq'=>?_,fun h' tk hk=>?_⟩)
 ·rw [a35 rv hv];exact wpAny_truthy_bool hq'
 ·have I1:Inv X pins σ H {s with heap:=h',toks:=tk}:=I.kept (t':=tk) fun b ob e=>hk b ob (fun z=>absurd (Heap.lt_size e) (by rw [List.mem_singleton.mp z];exact Nat.lt_irrefl _)) (Heap.get?_push_of_some _ e)
  refine ⟨.bl _,H,I1,?_,q⟩
  show Value.bool _=Value.bool _
  rw [a6I bs _ (by rw [List.size_toArray,<-rv.length,List.length_map])]
end
section
variable {X:Cx}{a b c e:Expr}{es rest:List Expr}{pos p:Pos}{f g h:FX}{t u:FT}{fa:FA}{x:Str}
theorem a6U:CallR X (.type "int") (fun xs H Q=>∃b,xs=[.bl b]/\Q (.int (if b then 1 else 0)) H):=by
 intro pins s σ H xs us Q I r h
 obtain ⟨b,rfl,q⟩:=h
 obtain ⟨u,rfl,rx⟩:=vals1 r
 cases (show u=Value.bool b from rx)
 exact call_int_bool ⟨.int _,H,I.tok _,⟨_,rfl⟩,q⟩
theorem a3k (i:Int):∀ns:List Int,inV (.int i) (ns.map V.int)=decide (i∈ns)
 | []=>rfl
 | n :: ns=>by
  have ih:=a3k i ns
  unfold inV at ih ⊢
  rw [List.map_cons,List.any_cons,ih]
  show ((n == i) || _)=_
  by_cases h:n=i
  ·simp [h]
  ·have h':¬i=n:=fun z=>h z.symm
   simp [h,h']
theorem a1u:∀ns:List Int,(ns.map V.int).all flatV=true
 | []=>rfl
 | n :: ns=>by rw [List.map_cons,List.all_cons,a1u ns];rfl
theorem a0m:∀(ns:List Int),preSum (fun i=>ns.getD i 0) ns.length=ns.sum:=by
 have key:∀(ns:List Int) (k:Nat),k<=ns.length->preSum (fun i=>ns.getD i 0) k=(ns.take k).sum:=by
  intro ns k
  induction k with
  | zero=>intro _;simp [preSum]
  | succ k ih=>
   intro h
   have h':k < ns.length:=by walk_at "o"
   rw [preSum,ih (by walk_at "o"),List.take_add_one,List.getElem?_eq_getElem h',List.sum_append]
   simp [List.getD_eq_getElem?_getD,List.getElem?_eq_getElem h']
 intro ns
 rw [key ns ns.length (Nat.le_refl _),List.take_length]
theorem a2O {ns:List Int}{its:List Value}(r:Vals (ns.map V.int) its){i:Nat}{v:Value}(e:its.toArray[i]? =some v):∃t,v= .int (ns.getD i 0) t:=by
 rw [List.getElem?_toArray] at e
 induction ns generalizing its i with
 | nil=>cases r;simp at e
 | cons n ns ih=>
  cases r with
  | cons r1 r2=>
   cases i with
   | zero=>simp at e;subst e;exact r1
   | succ i=>exact ih r2 (by simpa using e)
theorem a6N (hc:X.calm=true):CallR X (.builtin "sum") (fun xs H Q=>∃(p:Addr) (ns:List Int),xs=[.ref p]/\SqL X.K H p (ns.map V.int)/\Q (.int ns.sum) H):=by
 intro pins s σ H xs us Q I r h
 obtain ⟨p,ns,rfl,hq,q⟩:=h
 obtain ⟨u,rfl,ru⟩:=vals1 r
 cases ru
 obtain ⟨its,rv,⟨o,m,h1,h2,_,h4⟩,hz⟩:=I.list hq
 have hl:s.heap.IsList p its.toArray:=⟨o,h1,h2,m,h4⟩
 have lt:p < s.heap.objs.size:=Heap.lt_size h1
 refine call_sum_walkG (wpAny_pyIter_list hl ⟨s.heap.objs.size,_,_,_,_,_,fun i=>ns.getD i 0,rfl,Y1 (show X.A.in1.handled=none from I.ok.hd hc) (Nat.ne_of_lt lt),⟨⟨_,Heap.get?_push_size _ rfl,rfl,rfl⟩,hl.push _⟩,fun c hb=>?_,fun i v hv=>a2O rv hv,fun h' tk t' hk=>?_⟩)
 ·show c < (s.heap.push _).objs.size
  rw [Heap.size_push]
  rcases List.mem_cons.mp hb with rfl | hb
  ·exact Nat.lt_succ_self _
  ·rw [List.mem_singleton.mp hb];exact Nat.lt_succ_of_lt lt
 ·have I1:Inv X pins σ H {s with heap:=h',toks:=tk}:=I.kept (t':=tk) fun b ob e=>hk b ob (fun z=>absurd (Heap.lt_size e) (by rw [List.mem_singleton.mp z];exact Nat.lt_irrefl _)) (Heap.get?_push_of_some _ e)
  refine ⟨.int ns.sum,H,I1,⟨t',?_⟩,q⟩
  have len:its.toArray.size=ns.length:=by rw [List.size_toArray,<-rv.length,List.length_map]
  rw [len,a0m]
end
def sortI (ns:List Int):List Int:=ns.mergeSort fun a b=>decide (a<=b)
theorem D6 (ns:List Int):(sortI ns).Perm ns:=List.mergeSort_perm ns _
theorem J6 (ns:List Int):(sortI ns).Pairwise (·<=·):=by
 have z:=List.pairwise_mergeSort (le:=fun a b:Int=>decide (a<=b)) (fun a b c h1 h2=>by
  simp only [decide_eq_true_eq] at *;walk_at "o") (fun a b=>by
  simp only [Bool.or_eq_true,decide_eq_true_eq];walk_at "o") ns
 exact z.imp fun h=>by simpa using h
theorem U7:∀{its:List Value} {ns:List Int},IntsAre its ns->Vals (ns.map V.int) its
 | _,_,.nil=>.nil
 | _,_,.cons a t r=>.cons ⟨t,rfl⟩ (U7 r)
section
variable {X:Cx}{e:Expr}{pos p:Pos}{fa:FA}
theorem a23:CallR X (.builtin "sorted") (fun xs H Q=>∃(p:Addr) (ns:List Int),xs=[.ref p]/\SqL X.K H p (ns.map V.int)/\ns.length < 64/\∀l,H l=none->Q (.ref l) (upd H l (.lst ((sortI ns).map V.int)))):=by
 intro pins s σ H xs us Q I r h
 obtain ⟨p,ns,rfl,hq,h64,q⟩:=h
 obtain ⟨u,rfl,ru⟩:=vals1 r
 cases ru
 refine Calls.call_function_entry kind_sorted plain_sorted entry_sorted (args_sorted1 _) ?_
 unfold Builtin.«sorted»
 refine wpAny_bind (m:=checkCount "sorted" 1 1 _) (wpAny_pure ?_)
 obtain ⟨its,rv,⟨o,m,h1,h2,_,h4⟩,hz⟩:=I.list hq
 have len:its.length=ns.length:=by rw [<-rv.length,List.length_map]
 have hL:s.heap.IsList p its.toArray:=⟨o,h1,h2,m,h4⟩
 have sz:its.length<=sizeLine:=by rw [len,sizeLine_eq];walk_at "o"
 refine wpAny_bind (collect_list hL ?_ sz)
 refine wpAny_bind (wpAny_newList ?_ sz)
 have I1:Inv X pins σ H {s with heap:=(s.heap.push (seqObj "list" #[] 0)).update s.heap.objs.size (PySem.Obj.mapSeq (· ++ its.toArray))}:=I.kept (t':=s.toks) fun b o e=>by
  rw [Heap.get?_update_ne _ _ _ _ (Nat.ne_of_lt (Heap.lt_size e))];exact Heap.get?_push_of_some _ e
 generalize hG:(s.heap.push (seqObj "list" #[] 0)).update s.heap.objs.size (PySem.Obj.mapSeq (· ++ its.toArray))=G at I1 ⊢
 have ho:(G.push (seqObj "list" its.toArray 0)).get? G.objs.size=some (seqObj "list" its.toArray 0):=Heap.get?_push_size _ rfl
 refine wpAny_bind (wpAny_holding ?_)
 refine wpAny_call_entry PyProof.Rows.slot_list_sort ⟨_,ho,rfl⟩ PyProof.Rows.entry_list_sort (list_sort_tree (n:=0) (vs:=its) ho (J0 rv) (by walk_at "o") fun out ns' hI hp hP=>⟨.none,rfl,?_⟩) (PyProof.Rows.args_list_sort _)
 have es:ns'=sortI ns:=PySem.W.lks_uniq (hp.trans (D6 ns).symm) hP (J6 ns)
 subst es
 have g1:=get?_update_seq ho (fun _=> #[])
 have g2:=get?_update_seq (Heap.get?_push_of_some (seqObj "list" #[] 0) (Heap.get?_push_of_some (seqObj "tuple" its.toArray 0) g1)) (fun _=>out)
 have kept:∀b o,G.get? b=some o->(sortedHeap (G.push (seqObj "list" its.toArray 0)) G.objs.size its out).get? b=some o:=fun b o e=>by
  have ne:b≠G.objs.size:=Nat.ne_of_lt (Heap.lt_size e)
  unfold sortedHeap
  rw [Heap.get?_update_ne _ _ _ _ ne]
  refine Heap.get?_push_of_some _ (Heap.get?_push_of_some _ ?_)
  rw [Heap.get?_update_ne _ _ _ _ ne]
  exact Heap.get?_push_of_some _ e
 refine wpAny_pure ⟨_,rfl,.ref G.objs.size,_,I1.laid (t':=s.toks) (o:=.lst ((sortI ns).map V.int)) kept (Nat.le_refl _) ?_,rfl,q _ (I1.hok.fresh (Nat.le_refl _))⟩
 obtain ⟨ep,g3⟩:∃ep,(sortedHeap (G.push (seqObj "list" its.toArray 0)) G.objs.size its out).get? G.objs.size=some (seqObj "list" out.toList.toArray ep):=⟨_,by rw [Array.toArray_toList];exact g2⟩
 exact ⟨by rw [List.length_map,(D6 ns).length_eq,sizeLine_eq];walk_at "o",out.toList,_,U7 hI,g3⟩
end
section
variable {prog:Program}{w:World}{A:Around}{E:Value->Shared->Prop}{s:Shared}
theorem a4K {t sl:Addr}{items:Array Value}{vl vu:Value}{lo hi:Option Int}{Q:Value->Shared->Prop}(ht:IsTup s.heap t items)(hs:s.heap.IsSliceOf sl vl vu .none)(pl:IsPart vl lo)(pu:IsPart vu hi)
  (hw:HT.sIx items.size 0 lo=0/\HT.sIx items.size items.size hi=items.size) (h:Q (.ref t) s):wpAny (model prog w) A (getItem (.ref t) (.ref sl)) Q E s:=by
 obtain ⟨os,hos,hcs,hds⟩:=id hs
 have hTs:s.TypeIs (.ref sl) "slice":=⟨os,hos,hcs⟩
 unfold getItem
 try with_reducible refine wpAny_holding ?_
 first | refine wpAny_bind (wpAny_pure ?_) | skip
 refine wpAny_bind (wpAny_sequenceKey ht.typeIs (by decide) ?_)
 refine wpAny_bind (wpAny_callSpecial?_slot (name:=Str.ofString "__getitem__") ht.typeIs PyProof.Rows.slot_tuple_getitem
  (wpAny_call_entry PyProof.Rows.slot_tuple_getitem ht.typeIs entry_tuple_getitem ?_ (args_tuple_getitem _ _)))
 show wpAny _ _ (Builtin.Tuple.tupleItemsOf (.ref t) >>=_) _ _ s
 refine wpAny_bind (tupleItemsOf_ ht ?_)
 refine wpAny_bind (wpAny_typeOf hTs ?_)
 rw [if_pos (by decide)]
 refine wpAny_bind (HT.sliceApplied_gen hs pl pu ?_)
 show wpAny _ _ (if (((HT.sIx items.size 0 lo:Nat):Int) == 0 && (1:Int) == 1 && (HT.sIx items.size items.size hi - HT.sIx items.size 0 lo) == items.size)=true then _ else _) _ _ s
 rw [if_pos (by rw [hw.1,hw.2];simp)]
 unfold Builtin.Tuple.tupleIsExact
 refine wpAny_bind (wpAny_bind (wpAny_typeOf ht.typeIs (wpAny_pure ?_)))
 rw [if_pos (by decide)]
 first
  | exact wpAny_bind (wpAny_rule (wpAny_pure ⟨_,rfl,wpAny_pure h⟩))
  | exact wpAny_bind (wpAny_rule (wpAny_bind (wpAny_pure (wpAny_pure ⟨_,rfl,wpAny_pure h⟩))))
end
section
variable {X:Cx}{a b c e:Expr}{es rest:List Expr}{pos p:Pos}{f g h:FX}{t u:FT}{fa:FA}{x:Str}
def rSlF (K:PySem.W.Frag):V->Option Int->Option Int->Hp->VK->Prop:=fun x lo hi H Q=>∃a xs,x= .ref a/\SqT K H a xs/\(HT.sIx xs.length 0 lo=0/\HT.sIx xs.length xs.length hi=xs.length)/\Q (.ref a) H
theorem a9K:SlR X (rSlF X.K):=by
 intro pins s σ H x v vl vu lo hi sl Q I rx hs pl pu h
 obtain ⟨a,xs,rfl,hx,hw,q⟩:=h
 cases rx
 obtain ⟨its,r,ht,hz⟩:=I.tuple hx
 have hlen:its.toArray.size=xs.length:=by rw [List.size_toArray];exact r.length.symm
 refine ⟨"tuple",_,PyProof.Rows.slot_tuple_getitem.lookup,ht.typeIs,?_⟩
 exact a4K ht hs pl pu (by rw [hlen];exact hw) ⟨.ref a,H,I,rfl,q⟩
theorem qx_b {id:String}{r:List V->Hp->VK->Prop}{k:List D->Option W}(hc:CallR X (.builtin id) r)(hk:PrA X k r)(hm:X.mg x=none)(ha:QA X (e :: es) fa)(hv:bootBuiltins x=some (.builtin id):=by rfl)(hg:Gl X x:=by rfl)(hn:x≠"__name__":=by decide)(hdb:(x == ("__debug__":Str))=false:=by decide)
  (he:starEach (e :: es) X.env=(false,eval e X.env) :: starEach es X.env:=by rfl) (hpl:(backTo pos (starEach es X.env)).any (·.1)=false:=by rfl):QX X (.Call (.Name x p) (e :: es) [] pos) (fCall k fa):=a0N hc hk hv hm ha hg hn hdb he hpl
theorem qx_t {T:String}{r:List V->Hp->VK->Prop}{k:List D->Option W}(hc:CallR X (.type T) r)(hk:PrA X k r)(hm:X.mg x=none)(ha:QA X (e :: es) fa)(hv:bootBuiltins x=some (.type T):=by rfl)(hg:Gl X x:=by rfl)(hn:x≠"__name__":=by decide)(hdb:(x == ("__debug__":Str))=false:=by decide)
  (he:starEach (e :: es) X.env=(false,eval e X.env) :: starEach es X.env:=by rfl) (hpl:(backTo pos (starEach es X.env)).any (·.1)=false:=by rfl):QX X (.Call (.Name x p) (e :: es) [] pos) (fCall k fa):=a8p hc hk hv hm ha hg hn hdb he hpl
def k1 (g:D->Option W):List D->Option W
 | [d]=>g d
 | _=>none
theorem pr1 {g:D->Option W}{r:List V->Hp->VK->Prop}(h:∀(A:Av) (d:D) (w:W) (v:V) (H:Hp) (Q:VK),g d=some w->DenR X.K A H d v->(∀z H',Same H H'->DenW X.K A [] H H' w z->Q z H')->r [v] H Q):PrA X (k1 g) r:=fun A ds w vs H Q _ e l q=>by
 unfold k1 at e
 split at e
 ·obtain ⟨v,rfl,h1⟩:=denRL1 l;exact h A _ w v H Q e h1 q
 ·cases e
def k2 (g:Int->Int->D):List D->Option W
 | [.int i,.int j]=>some (.v (g i j))
 | _=>none
theorem pr2 {g:Int->Int->Int}{r:List V->Hp->VK->Prop}(h:∀i j (H:Hp) (Q:VK),Q (.int (g i j)) H->r [.int i,.int j] H Q):PrA X (k2 fun i j=>.int (g i j)) r:=fun A ds w vs H Q _ e l q=>by
 unfold k2 at e
 split at e
 ·rename_i i j
  cases e
  obtain ⟨v,v',rfl,h1,h2⟩:=denRL2 l
  rw [g7 h1,g7 h2]
  exact h i j H Q (q _ H (Same.refl H) w5)
 ·cases e
def gLen (d:D):Option W:=(items d).map fun xs=>.v (.int xs.length)
theorem S9:PrA X (k1 gLen) (fun xs H Q=>∃p ys,xs=[.ref p]/\(SqL X.K H p ys\/SqT X.K H p ys)/\Q (.int ys.length) H):=pr1 fun A d w v H Q e h q=>by
 unfold gLen at e
 obtain ⟨xs,e1,e⟩:=oms e
 cases e
 obtain ⟨a,ws,rfl,hq,lw⟩:=F8 e1 h
 exact ⟨a,ws,rfl,hq,by rw [<-c5 lw];exact q _ H (Same.refl H) w5⟩
def gAbs:D->Option W
 | .int i=>some (.v (.int (if i < 0 then -i else i)))
 | _=>none
theorem a8v:PrA X (k1 gAbs) (fun xs H Q=>∃i,xs=[.int i]/\Q (.int (if i < 0 then -i else i)) H):=pr1 fun A d w v H Q e h q=>by
 cases d <;> simp only [gAbs] at e <;> cases e
 exact ⟨_,by rw [g7 h],q _ H (Same.refl H) w5⟩
abbrev gMax:=k2 fun i j=>.int (if j > i then j else i)
abbrev gMin:=k2 fun i j=>.int (if j < i then j else i)
theorem a4F:PrA X gMax (fun xs H Q=>∃i j,xs=[.int i,.int j]/\Q (.int (if j > i then j else i)) H):=pr2 fun i j H Q q=>⟨i,j,rfl,q⟩
theorem a2V:PrA X gMin (fun xs H Q=>∃i j,xs=[.int i,.int j]/\Q (.int (if j < i then j else i)) H):=pr2 fun i j H Q q=>⟨i,j,rfl,q⟩
def gInt:D->Option W
 | .bl b=>some (.v (.int (if b then 1 else 0)))
 | _=>none
theorem b2f:PrA X (k1 gInt) (fun xs H Q=>∃b,xs=[.bl b]/\Q (.int (if b then 1 else 0)) H):=pr1 fun A d w v H Q e h q=>by
 cases d <;> simp only [gInt] at e <;> cases e
 exact ⟨_,by rw [a0u h],q _ H (Same.refl H) w5⟩
def gTuple (d:D):Option W:=(items d).map fun xs=>.v (.tup xs)
theorem K9:PrA X (k1 gTuple) (fun xs H Q=>∃p ys,xs=[.ref p]/\((SqL X.K H p ys/\∀l,H l=none->Q (.ref l) (upd H l (.tup ys)))\/(SqT X.K H p ys/\Q (.ref p) H))):=pr1 fun A d w v H Q e h q=>by
 cases d <;> simp only [gTuple,items,Option.map_none] at e <;> first | cases e | skip
 ·rename_i xs
  obtain ⟨a,vs,rfl,hq,l⟩:=A3 h
  exact ⟨a,vs,rfl,.inr ⟨hq,q _ H (Same.refl H) h⟩⟩
 ·rename_i xs
  obtain ⟨a,vs,rfl,hq,l⟩:=h
  exact ⟨a,vs,rfl,.inl ⟨hq,fun l' hl=>q _ _ (j3 hl _) (K8 hl l)⟩⟩
def gList (d:D):Option W:=(items d).map fun xs=>.o (.lst xs)
def intsOf:List D->Option (List Int)
 | []=>some []
 | .int i :: ds=>(intsOf ds).map fun is=>i :: is
 | _=>none
theorem p9:∀{ds:List D} {is:List Int},intsOf ds=some is->ds=is.map D.int
 | [],is,e=>by cases e;rfl
 | .int i :: ds,is,e=>by
  rw [intsOf] at e
  cases e1:intsOf ds with
  | none=>rw [e1] at e;cases e
  | some js=>rw [e1] at e;cases e;rw [List.map_cons,<-p9 e1]
 | .non :: ds,is,e=>by cases e
 | .bl _ :: ds,is,e=>by cases e
 | .str _ :: ds,is,e=>by cases e
 | .tup _ :: ds,is,e=>by cases e
 | .lst _ :: ds,is,e=>by cases e
 | .dT _ _ :: ds,is,e=>by cases e
 | .dK _ _ :: ds,is,e=>by cases e
 | .exn _ :: ds,is,e=>by cases e
theorem j6:∀is:List Int,intsOf (is.map D.int)=some is
 | []=>rfl
 | i :: is=>by rw [List.map_cons,intsOf,j6 is];rfl
theorem m8 {K:PySem.W.Frag}{A:Av}{H:Hp}:∀{is:List Int} {vs:List V},DenL K A H (is.map D.int) vs->vs=is.map V.int
 | [],vs,l=>by rw [List.map_nil,DenL] at l;exact l
 | i :: is,vs,l=>by
  rw [List.map_cons,DenL] at l
  obtain ⟨v,r,rfl,h,l⟩:=l
  rw [v3.mp h,m8 l];rfl
theorem z8 {K:PySem.W.Frag}{A:Av}{H:Hp}:∀ns:List Int,DenL K A H (ns.map D.int) (ns.map V.int)
 | []=>by rw [List.map_nil,List.map_nil];exact j4
 | n :: ns=>by rw [List.map_cons,List.map_cons];exact g8 (by rw [Den]) (z8 ns)
def boolsOf:List D->Option (List Bool)
 | []=>some []
 | .bl i :: ds=>(boolsOf ds).map fun is=>i :: is
 | _=>none
theorem a0F:∀{ds:List D} {is:List Bool},boolsOf ds=some is->ds=is.map D.bl
 | [],is,e=>by cases e;rfl
 | .bl i :: ds,is,e=>by
  rw [boolsOf] at e
  cases e1:boolsOf ds with
  | none=>rw [e1] at e;cases e
  | some js=>rw [e1] at e;cases e;rw [List.map_cons,<-a0F e1]
 | .non :: ds,is,e=>by cases e
 | .int _ :: ds,is,e=>by cases e
 | .str _ :: ds,is,e=>by cases e
 | .tup _ :: ds,is,e=>by cases e
 | .lst _ :: ds,is,e=>by cases e
 | .dT _ _ :: ds,is,e=>by cases e
 | .dK _ _ :: ds,is,e=>by cases e
 | .exn _ :: ds,is,e=>by cases e
theorem a0e:∀is:List Bool,boolsOf (is.map D.bl)=some is
 | []=>rfl
 | i :: is=>by rw [List.map_cons,boolsOf,a0e is];rfl
theorem Q6 {K:PySem.W.Frag}{A:Av}{H:Hp}:∀{is:List Bool} {vs:List V},DenL K A H (is.map D.bl) vs->vs=is.map V.bl
 | [],vs,l=>by rw [List.map_nil,DenL] at l;exact l
 | i :: is,vs,l=>by
  rw [List.map_cons,DenL] at l
  obtain ⟨v,r,rfl,h,l⟩:=l
  rw [a05.mp h,Q6 l];rfl
def gBools (r:List Bool->Bool):D->Option W
 | .lst xs=>(boolsOf xs).map fun bs=>.v (.bl (r bs))
 | _=>none
theorem a1d {r:List Bool->Bool}:PrA X (k1 (gBools r)) (fun xs H Q=>∃(p:Addr) (bs:List Bool),xs=[.ref p]/\SqL X.K H p (bs.map V.bl)/\Q (.bl (r bs)) H):=pr1 fun A d w v H Q e h q=>by
 cases d with
 | lst xs=>
  simp only [gBools] at e
  obtain ⟨bs,e1,e⟩:=oms e
  cases e
  obtain ⟨a,vs,rfl,hq,l⟩:=h
  rw [a0F e1] at l
  rw [Q6 l] at hq
  exact ⟨a,bs,rfl,hq,q _ H (Same.refl H) A2⟩
 | _=>cases e
def gSortI:D->Option W
 | .lst xs=>(intsOf xs).bind fun ns=>if ns.length < 64 then some (.o (.lst ((sortI ns).map D.int))) else none
 | _=>none
theorem a7J:PrA X (k1 gSortI) (fun xs H Q=>∃(p:Addr) (ns:List Int),xs=[.ref p]/\SqL X.K H p (ns.map V.int)/\ns.length < 64/\∀l,H l=none->Q (.ref l) (upd H l (.lst ((sortI ns).map V.int)))):=pr1 fun A d w v H Q e h q=>by
 cases d with
 | lst xs=>
  simp only [gSortI] at e
  cases e1:intsOf xs with
  | none=>rw [e1] at e;cases e
  | some bs=>
   rw [e1] at e
   simp only [Option.bind_some] at e
   split at e
   ·rename_i hl
    cases e
    obtain ⟨a,vs,rfl,hq,l⟩:=h
    rw [p9 e1] at l
    rw [m8 l] at hq
    exact ⟨a,bs,rfl,hq,hl,fun l hl=>q _ _ (j3 hl _) (D9 hl (z8 _))⟩
   ·cases e
 | _=>cases e
def oLtT:D->D->Option W
 | .int i,.int j=>some (.v (.bl (decide (i < j))))
 | .tup xs,.tup ys=>(intsOf xs).bind fun ns=>(intsOf ys).map fun ms=>.v (.bl (HT.lexLt ns ms))
 | _,_=>none
theorem kLtT:Pr2 X oLtT (fun v u H Q=>rI0 (fun i j=>.bl (decide (i < j))) v u H Q\/rLtT X.K v u H Q):=by
 intro A x y w v u H Q _ e hx hy q
 unfold oLtT at e
 split at e
 ·cases e;exact .inl ⟨_,_,g7 hx,g7 hy,q _ H (Same.refl H) A2⟩
 ·rename_i xs ys
  cases e1:intsOf xs with
  | none=>rw [e1] at e;cases e
  | some ns=>
   cases e2:intsOf ys with
   | none=>rw [e1,e2] at e;cases e
   | some ms=>
    rw [e1,e2] at e;cases e
    obtain ⟨a,vs,rfl,h1,l1⟩:=A3 hx
    obtain ⟨b,us,rfl,h2,l2⟩:=A3 hy
    rw [p9 e1] at l1;rw [p9 e2] at l2
    rw [m8 l1] at h1;rw [m8 l2] at h2
    exact .inr ⟨a,b,ns,ms,rfl,rfl,h1,h2,q _ H (Same.refl H) A2⟩
 ·cases e
theorem a9z {k:Nat}(hr:Room k X.A)(ha:QX X a f)(hb:QX X b g):QX X (.Compare a [.Lt] [b] pos) (fBin oLtT f g):=a2D (b01.or (a8f (by have:=hr.units;walk_at "o"))) kLtT ha hb
theorem a2l {k:Nat}(hr:Room k X.A)(ha:QX X a f)(hb:QX X b g):QT X (.Compare a [.Lt] [b] pos) (fTest (fBin oLtT f g)):=L5 (b01.or (a8f (by have:=hr.units;walk_at "o"))) kLtT ha hb
def oInI (neg:Bool) (x y:D):Option W:=match x with
 | .int i=>(items y).bind fun ys=>(intsOf ys).map fun ns=>.v (.bl (if neg then !decide (i∈ns) else decide (i∈ns)))
 | _=>none
theorem kInI {neg:Bool}:Pr2 X (oInI neg) (rIn X.K neg):=by
 intro A x y w v u H Q _ e hx hy q
 cases x with
 | int i=>
  simp only [oInI] at e
  cases e1:items y with
  | none=>rw [e1] at e;cases e
  | some ys=>
   rw [e1] at e
   simp only [Option.bind_some] at e
   obtain ⟨ns,e2,e⟩:=oms e
   cases e
   obtain ⟨p,vs,rfl,hq,l⟩:=F8 e1 hy
   rw [p9 e2] at l
   rw [m8 l] at hq
   rw [g7 hx]
   exact ⟨p,ns.map V.int,rfl,hq,rfl,a1u ns,by rw [a3k];exact q _ H (Same.refl H) A2⟩
 | _=>cases e
def fChain (o o':D->D->Option W) (f g h:FX):FX:=fun ρ=>(f ρ).bind fun p=>(g p.2).bind fun q=>(dr q.2 p.1.fz).bind fun x=>(dr q.2 q.1.fz).bind fun y=>(o x y).bind fun d=>match d with
 | .v (.bl k)=>if k=true then (h q.2).bind fun z=>(dr z.2 q.1.fz).bind fun y=>(dr z.2 z.1.fz).bind fun z'=>(o' y z').map fun w=>(w,z.2) else some (.v (.bl false),q.2)
 | _=>none
abbrev FO:=Ev->Option (Option Int×Ev)
def tO (X:Cx) (f:FO):TO:=fun σ H Q=>∃P O L ρ o ρ',Rep X P O L ρ σ H/\f ρ=some (o,ρ')/\∀H',Rep X P O L ρ' σ H'->Q o H'
theorem tOe {X:Cx}{f:FO}{σ:L2.St}{H:Hp}{Q:Option Int->Hp->Prop}{C:Prop}(h:tO X f σ H Q)(k:∀P O L ρ o ρ',Rep X P O L ρ σ H->f ρ=some (o,ρ')->(∀H',Rep X P O L ρ' σ H'->Q o H')->C):C:=by
 obtain ⟨P,O,L,ρ,w,ρ',r,e,q⟩:=h
 exact k P O L ρ w ρ' r e q
structure QO (X:Cx) (e:Option Expr) (f:FO):Prop where
 to:PO X e (tO X f)
theorem PO.weak {X:Cx}{e:Option Expr}{t u:TO}(h:PO X e t)(w:∀σ H Q,u σ H Q->t σ H Q):PO X e u:=fun pins s σ H Q I q=>h pins s σ H Q I (w σ H Q q)
def fO0:FO:=fun ρ=>some (none,ρ)
def fO1 (f:FX):FO:=fun ρ=>(f ρ).bind fun p=>match p.1 with | .v (.int i)=>some (some i,p.2) | _=>none
theorem a0t:QO X none fO0:=⟨PO.weak a9G fun σ H Q h0=>tOe h0 fun P O L ρ o ρ' r e q=>by cases e;exact q H r⟩
theorem a0q (ha:QX X e f):QO X (some e) (fO1 f):=⟨PO.weak (a96 ha.to) fun σ H Q h0=>tOe h0 fun P O L ρ o ρ' r e q=>by
 unfold fO1 at e
 obtain ⟨⟨w,ρ1⟩,e1,e⟩:=obs e
 dsimp only at e
 split at e
 ·rename_i i
  cases e
  refine ⟨P,O,L,ρ,_,_,r,e1,fun v H1 H' r1 s1 d1=>⟨i,?_,q H' (r1.grow s1)⟩⟩
  have d1:Den X.K (AvO O ρ' σ) H' (.int i) v:=d1
  exact v3.mp d1
 ·cases e⟩
def cutD (xs:List D) (lo hi:Option Int):List D:=(xs.drop (HT.sIx xs.length 0 lo)).take (HT.sIx xs.length xs.length hi - HT.sIx xs.length 0 lo)
theorem a33 {K:PySem.W.Frag}{A:Av}{H:Hp}{xs:List D}{vs:List V}(lo hi:Option Int)(l:DenL K A H xs vs):DenL K A H (cutD xs lo hi) (cutV vs lo hi):=by
 unfold cutD cutV
 rw [c5 l]
 exact a1S _ (a1J _ l)
def slD (x:D) (lo hi:Option Int):Option W:=match x with
 | .tup xs=>some (.v (.tup (cutD xs lo hi)))
 | .lst xs=>some (.o (.lst (cutD xs lo hi)))
 | _=>none
def fSl (f:FX) (lo hi:FO):FX:=fun ρ=>(f ρ).bind fun p=>(lo p.2).bind fun l=>(hi l.2).bind fun u=>(dr u.2 p.1.fz).bind fun x=>(slD x l.1 u.1).map fun w=>(w,u.2)
theorem U8 {lo hi:Option Expr}{fl fu:FO}{p2:Pos}(ha:QX X a f)(hl:QO X lo fl)(hu:QO X hi fu):QX X (.Subscript a (.Slice lo hi none p2) pos) (fSl f fl fu):=⟨PE.weak (a8A ((a9H.or b1Q).or a9K) ha.to hl.to hu.to) fun σ H Q h0=>tXe h0 fun P O L ρ w ρ' r e q=>by
 unfold fSl at e
 obtain ⟨⟨w1,ρ1⟩,e1,e⟩:=obs e
 dsimp only at e
 obtain ⟨⟨l,ρ2⟩,e2,e⟩:=obs e
 dsimp only at e
 obtain ⟨⟨u,ρ3⟩,e3,e⟩:=obs e
 dsimp only at e
 refine ⟨P,O,L,ρ,w1,ρ1,r,e1,fun v H1 H1' r1 s1 d1=>?_⟩
 obtain ⟨P',r1',k1⟩:=hold (r1.grow s1) (d1.fz r1 s1)
 refine ⟨P',O,L,ρ1,l,ρ2,r1',e2,fun H2 r2=>⟨P',O,L,ρ2,u,ρ3,r2,e3,fun H3 r3=>?_⟩⟩
 obtain ⟨r4,d4⟩:=k1 ρ3 H3 r3
 cases e4:dr ρ3 w1.fz with
 | none=>rw [e4] at e;cases e
 | some x=>
  rw [e4] at e
  simp only [Option.bind_some] at e
  have dx:=F1 r4 e4 d4
  cases x with
  | tup xs=>
   cases e
   obtain ⟨a,vs,ev,hq,la⟩:=A3 dx
   by_cases hn:HT.sIx xs.length 0 l=0/\HT.sIx xs.length xs.length u=xs.length
   ·refine .inr ⟨a,vs,ev,hq,by rw [<-c5 la];exact hn,q _ H3 H3 r4 (Same.refl _) ?_⟩
    have ec:cutD xs l u=xs:=by
     unfold cutD
     rw [hn.1,hn.2,List.drop_zero,Nat.sub_zero,List.take_length]
    rw [ec,<-ev]
    exact dx
   ·exact .inl (.inr ⟨a,vs,ev,hq,by rw [<-c5 la];exact hn,fun p hp=>q _ H3 _ r4 (j3 hp _) (K8 hp (a33 l u la))⟩)
  | lst xs=>
   cases e
   obtain ⟨a,vs,ev,hq,la⟩:=dx
   exact .inl (.inl ⟨a,vs,ev,hq,fun p hp=>q _ H3 _ r4 (j3 hp _) (D9 hp (a33 l u la))⟩)
  | _=>cases e⟩
end
section
variable {X:Cx}{a b c e o:Expr}{es rest:List Expr}{pos p apos:Pos}{f g h:FX}{t u:FT}{fa:FA}{x:Str}
theorem a9F (i:Nat){pos':Pos}(hN:X.N.Nodup)(ha:QXU X e f)(hi:X.N[i]? =some x:=by rfl)(hx:Loc X.env.scope x:=by first | exact Or.inl rfl | exact Or.inr rfl)(hs:swapsWith e (some (.Name x pos')) pos.line X.env=pure true:=by rfl)(hf:X.fn x=true\/X.env.scope.names.lookup x=some .local:=by first | exact .inl rfl | exact .inr rfl):
  QS X (.Assign [.Name x pos'] e pos) (fAsg i f):=⟨fun pins s σ H E I h0=>tSe h0 fun P O L ρ r rp e0 q=>by
 unfold fAsg at e0
 obtain ⟨⟨w,ρ1⟩,e1,e0⟩:=obs e0
 dsimp only at e0
 obtain ⟨ρ2,e2,e0⟩:=oms e0
 cases e0
 rw [exec_Assign_Name_used _ _ _ _ hs]
 refine wpAny_bind (wpAny_standAt (wpAny_bind (wpAny_mono (ha.to pins s σ H (fun v H'=>∃H1,Rep X P O L ρ1 σ H1/\Same H1 H'/\DenW X.K (AvO O ρ1 σ) σ H1 H' w v) (assign (.Name x pos') X.env) (fun s'=>SP X pins E .next s') I ⟨P,O,L,ρ,w,ρ1,rp,e1,fun v H1 H' r1 s1 d1=>⟨H1,r1,s1,d1⟩⟩ ?_) (fun _ s' h=>wpAny_pure h) fun _ _ z=>z)))
 intro C m s' H' v vv fp hn I' rv ⟨H1,r1,sm,dv⟩
 obtain ⟨o,es,ep,ho,hd,hk⟩:=hn
 obtain ⟨f0,f1,f2,f3,f4,f5⟩:=fp
 have I2:Inv X (pins ++ [(C,o)]) σ H' s':=I'.pins_of fun p hp=>(List.mem_append.mp hp).elim (fun z=>I'.pin p (List.mem_append_right _ z)) fun z=>by
  rw [List.mem_singleton.mp z]
  exact ⟨ho,f0,f1,f2,fun w z=>by rw [hd] at z;cases z⟩
 refine wpAny_mono (a5B hN hi hx hf (pins ++ [(C,o)]) s' σ H' v vv (fun σ2 H2=>σ2=σ.set i (some v)/\H2=H') I2 rv ⟨rfl,rfl⟩) (fun _ s2 ⟨σ2,H2,I3,e2',e3⟩=>?_) fun _ _ z=>z
 subst e2' e3
 have pc:=I3.pin (C,o) (List.mem_append_right _ (List.mem_append_right _ (List.mem_singleton.mpr rfl)))
 refine ⟨m,⟨o,es,ep,pc.1,hd,hk⟩,fun h' hs'=>?_⟩
 exact ⟨_,_,(I3.unpinned).turned (t':=s2.toks) (it:=C) (fun b o' hb eb=>(hs'.2 b hb).trans eb) f0 f1 f3 f4 f5,q _ _ (a5d r1 sm dv e2)⟩⟩
def isLst:Option D->Bool
 | some (.lst _)=>true
 | _=>false
def fMut (op:List D->List D->Option (W×List D)) (f:FX) (fa:FA):FX:=fun ρ=>(f ρ).bind fun p=>match p.1 with
 | .r i=>if isLst (ownAt p.2 i)=true then (fa p.2).bind fun q=>(takeAll q.2 q.1).bind fun z=>match ownAt z.2 i with
  | some (.lst xs)=>(op xs z.1).map fun y=>(y.1,setOwn z.2 i (.lst y.2))
  | _=>none
  else none
 | _=>none
def PrM (X:Cx) (op:List D->List D->Option (W×List D)) (r:V->List V->Hp->VK->Prop):Prop:=∀(A:Av) (a:Addr) (xs ds:List D) (w:W) (ys:List D) (us vs:List V) (H:Hp) (Q:VK),H a=some (.lst us)->DenL X.K A H xs us->DenL X.K A H ds vs->op xs ds=some (w,ys)->
 (∀z ws,DenL X.K A H ys ws->DenW X.K A [] H H w z->Q z (upd H a (.lst ws)))->(w= .v .non\/∃d,w= .v d)->r (.ref a) vs H Q
theorem a3O {op:List D->List D->Option (W×List D)}{r:V->List V->Hp->VK->Prop}(hk:PrM X op r)(hw:∀xs ds w ys,op xs ds=some (w,ys)->∃d,w= .v d):∀σ H Q,tX X (fMut op f fa) σ H Q->tBM X.K "list" r (tX X f) (tA X fa) σ H Q:=fun σ H Q h0=>tXe h0 fun P O L ρ w ρ' rp e q=>by
 unfold fMut at e
 obtain ⟨⟨w1,ρ1⟩,e1,e⟩:=obs e
 dsimp only at e
 split at e
 ·rename_i i
  split at e
  ·rename_i hl
   refine ⟨P,O,L,ρ,_,ρ1,rp,e1,fun v H1 H1' r1 s1 d1=>?_⟩
   have d1:σ[i]? =some (some v):=d1
   have r1':=r1.grow s1
   refine ⟨?_,?_⟩
   ·unfold isLst at hl
    split at hl
    ·rename_i xs e2
     obtain ⟨w0,q0,ow⟩:=n9 e2
     obtain ⟨a,h1,vs,h2,_⟩:=r1'.obj q0 ow
     rw [d1] at h1;cases h1
     exact .inl ⟨rfl,vs,.inl (.inl h2)⟩
    ·cases hl
   ·obtain ⟨⟨ws,ρ2⟩,e3,e⟩:=obs e
    dsimp only at e
    obtain ⟨⟨ds,ρ3⟩,e4,e⟩:=obs e
    dsimp only at e
    split at e
    ·rename_i xs e5
     obtain ⟨⟨wy,ys⟩,e6,e⟩:=oms e
     cases e
     refine ⟨P,O,L,ρ1,ws,ρ2,r1',e3,fun vs H2 r2 l2=>?_⟩
     obtain ⟨r3,l3,_⟩:=k8 r2 e4 l2
     obtain ⟨w0,q0,ow⟩:=n9 e5
     obtain ⟨a,h1,us,h2,l⟩:=r3.obj q0 ow
     rw [d1] at h1;cases h1
     refine hk _ a xs ds _ ys us vs H2 Q h2 l l3 e6 (fun z wz lz dz=>?_) (.inr (hw _ _ _ _ e6))
     have g0:Go (AvO O ρ3 σ) (AvO O ρ3 σ) (fun b=>b=a) H2 (upd H2 a (.lst wz)):=⟨fun b o eb nb=>by rw [c8 nb];exact eb,fun b z=>by rw [z];exact ⟨.inr ⟨i,w0,_,q0,ow,d1⟩,_,h2,trivial⟩,fun b z=>.inl z⟩
     have r4:Rep X P O L (setOwn ρ3 i (.lst ys)) σ (upd H2 a (.lst wz)):=r3.mut (d:=.lst ys) e5 d1 (fun b o eb nb=>by rw [c8 nb];exact eb) ⟨wz,j9,q8 g0 _ _ lz⟩
     refine q z _ _ r4 (Same.refl _) ?_
     obtain ⟨d,rfl⟩:=hw _ _ _ _ e6
     have av:∀b,AvO O (setOwn ρ3 i (.lst ys)) σ b->AvO O ρ3 σ b:=fun b z=>z.imp id fun z=>(Z2 e5 b).mp z
     exact m7 (w4 av) _ _ (m7 g0 _ _ dz)
    ·cases e
  ·cases e
 ·cases e
def mApp (xs ds:List D):Option (W×List D):=match ds with
 | [d]=>if xs.length < lim then some (.v .non,xs ++ [d]) else none
 | _=>none
theorem a6m:PrM X mApp rAppend:=fun A a xs ds w ys us vs H Q h l l' e q _=>by
 unfold mApp at e
 split at e
 ·split at e
  ·rename_i d hl
   cases e
   obtain ⟨v,rfl,hv⟩:=denL1 l'
   exact ⟨a,us,v,rfl,rfl,h,by rw [<-c5 l];exact Nat.lt_of_lt_of_le hl q9,q _ _ (t3 l (g8 hv j4)) U9⟩
  ·cases e
 ·cases e
theorem b2E:∀xs ds w ys,mApp xs ds=some (w,ys)->∃d,w= .v d:=fun xs ds w ys e=>by
 unfold mApp at e
 split at e
 ·split at e
  ·cases e;exact ⟨_,rfl⟩
  ·cases e
 ·cases e
theorem G1 (ho:QX X o f)(ha:QA X (e :: es) fa)(hbase:attributeBase o "append" X.env (eval o X.env)=eval o X.env:=by rfl)
  (hfew:((backTo pos (starEach (e :: es) X.env)).all (fun x=>!x.1) && (backToKw pos (keywordEach [] X.env)).all (fun x=>x.1.isSome) && decide ((e :: es).length + ([]:List Keyword).length + (if ([]:List Keyword).isEmpty then 0 else 1) < 30))=true:=by rfl)
  (hline:(apos.endLine == pos.line)=true:=by rfl) (hs:starEach (e :: es) X.env=(false,eval e X.env) :: starEach es X.env:=by rfl) (hpl:(backTo pos (starEach es X.env)).any (·.1)=false:=by rfl):QX X (.Call (.Attribute o "append" apos) (e :: es) [] pos) (fMut mApp f fa):=
 ⟨PE.weak (a70 PySem.F.plainAttrs_list PySem.F.slot_list_append PySem.F.type_list_append X5 ho.to ha.to hbase hfew hline hs hpl) (a3O a6m b2E)⟩
end
section
variable {P:Program}{w:World}{K:PySem.W.Frag}{mg:Str->Option Value}{base:Heap}
def spLaw (K:PySem.W.Frag):Sp:=fun vs H Q _=>∃(a:Addr) (ns:List Int),vs=[.ref a]/\((∃o,H a=some (.frz o (.lst (ns.map V.int))))\/SqL K (fun _=>none) a (ns.map V.int))/\ns.length<=63/\∀H',Q (.bl true) H'
theorem b1T {st:Stmt}{f:Addr}{fd:FuncData}{N ps:List Str}{k np n:Nat}{G:FS}(F:Fun K "law" "law" st f fd)(S:FnScope N ps (defScope st))(hp:ps.length=np)(hn:N.length=n)
  (body:∀(cdv:Value) (A:Around) (outer:List Env) (s:Shared) (H:Hp) (E:XK),Room k (A.deeper (envOfC "law" (defScope st) s.heap.objs.size f cdv))->
   QSs (cxOf CX0 P w K mg base N "law" (defScope st) f cdv A outer s H E).nox (defBody st) G)
  (h:∀ns:List Int,ns.length<=63->runD np n G [.lst (ns.map D.int)]=some (.v (.bl true))):FnOk P w K mg base CX0 (k + 1) f fd ps (spLaw K):=by
 have den:∀(H:Hp) (a:Addr) (ns:List Int),((∃o,H a=some (.frz o (.lst (ns.map V.int))))\/SqL K (fun _=>none) a (ns.map V.int))->DenL K (fun _=>False) H [.lst (ns.map D.int)] [.ref a]:=fun H a ns hq=>by
  refine g8 ?_ j4
  rw [Den]
  exact ⟨a,_,rfl,.inr hq,z8 ns⟩
 refine F.ok S (fun vs H Q E ⟨a,ns,ev,hq,hl,q⟩=>?_) (fun cdv A outer s H vs Q E hr ⟨a,ns,ev,hq,hl,q⟩=>⟨_,(body cdv A outer s H E hr).to,?_⟩)
 ·have e:=h ns hl
  unfold runD at e
  split at e
  ·rename_i hl'
   rw [ev,hp,<-hl'];rfl
  ·cases e
 ·have e:=h ns hl
  unfold runD at e
  split at e
  ·rename_i hl'
   cases e1:G (start0 n [.lst (ns.map D.int)]) with
   | none=>rw [e1] at e;cases e
   | some r=>
    rw [e1] at e
    refine ⟨[],fun _=>False,[],_,r,a1H rfl hn (fun b z=>z.elim) (by rw [ev];exact den H a ns hq),e1,?_⟩
    cases r with
    | rt d' ρ'=>cases e;exact fun v H' s' _ d1=>by rw [a04 d1];exact q H'
    | nx ρ'=>cases e
    | bk ρ'=>cases e
    | ct ρ'=>cases e
  ·cases e
theorem walk {l:PySem.W.OpenLaw}{q:Program}{loose:List Str}{XP:(Str->Option Value)->Heap->Prop}{YP:World->Heap->Prop}{d:DefRec}{K:Params->PySem.W.Frag}(hn:l.most=some 63)(hdf:d.params.defaults=[])
  (hY:∀(w:World) (h:Heap),YP w h->(K w.params).In h)
  (F:∀(w:World) (mg:Str->Option Value) (fa:Addr) (h:Heap),(K w.params).In h->h.Ns mainGlobals mg->mg d.name=some (.ref fa)->
   ∃fd:FuncData,(∀(s:Shared) (u:Value),BindsTo s fd ⟨[u],[]⟩ [("script",u)])/\∀base:Heap,(K w.params).In base->base.Ns mainGlobals mg->FnOk l.prog w (K w.params) mg base CX0 60 fa fd ["script"] (spLaw (K w.params))):
  PySem.W.WalkO q loose XP YP l.row.toRowW d [] (fun f vs=>PySem.call f vs):=
 L2.b0r (n:=63) (k:=60) (x:="script") (CX:=fun _=>CX0) (sp:=fun w=>spLaw (K w.params)) hn (by decide) hdf ⟨rfl,by decide,by decide,rfl⟩ hY F (fun _ H a ns hl hO hS=>⟨a,ns,rfl,(by
  rcases hS with (hS | ⟨o,hS⟩) | hS
  ·rcases hO a with z | ⟨o,ys,z⟩
   ·rw [z] at hS;cases hS
   ·rw [z] at hS;cases hS
  ·exact .inl ⟨o,hS⟩
  ·exact .inr (.inr hS)),hl,fun _=>rfl⟩) fun _ _ _ _ _ z=>z
end
end Z
set_option maxHeartbeats 1000000
set_option exponentiation.threshold 100000
namespace Z
open PySem L2
theorem b1s {d:D}:lfW (.v d)=lf d:=rfl
theorem b1C {d:D}:lfW (.o d)=lfC d:=rfl
theorem a5w {xs:List D}:lfC (.lst xs)=lfL xs:=rfl
theorem a7d {ks:List (List Key)}{xs:List D}:lfC (.dT ks xs)=lfL xs:=rfl
theorem lfC_dK {ks:List Key}{xs:List D}:lfC (.dK ks xs)=lfL xs:=rfl
def freeO:Option W->Bool
 | some (.l _)=>false
 | _=>true
theorem a01:freeO none=true:=rfl
theorem a5l {d:D}:freeO (some (.v d))=true:=rfl
theorem a5C {d:D}:freeO (some (.o d))=true:=rfl
theorem freeO_l {d:D}:freeO (some (.l d))=false:=rfl
theorem free_nil {n:Nat}:freeSlot [] n=true:=rfl
theorem a7y {x:Option W}{ρ:Ev}:freeSlot (x :: ρ) 0=freeO x:=by
 unfold freeSlot freeO
 rw [List.getElem?_cons_zero]
 cases x with
 | none=>rfl
 | some w=>cases w <;> rfl
theorem a89 {x:Option W}{ρ:Ev}{n:Nat}:freeSlot (x :: ρ) (n + 1)=freeSlot ρ n:=by
 unfold freeSlot
 rw [List.getElem?_cons_succ]
theorem a18 {xs:List D}:isLst (some (.lst xs))=true:=rfl
theorem liB_none {ρ:Ev}:liB none ρ=true:=rfl
theorem liB_some {i j:Nat}{ρ:Ev}:liB (some (i,j)) ρ=(ownAt ρ j).isSome:=rfl
theorem own_nil {n:Nat}:ownAt [] n=none:=rfl
theorem b1c {w:W}{ρ:Ev}:ownAt (some w :: ρ) 0=w.own:=rfl
theorem own_n {ρ:Ev}:ownAt (none :: ρ) 0=none:=rfl
theorem b0B {x:Option W}{ρ:Ev}{n:Nat}:ownAt (x :: ρ) (n + 1)=ownAt ρ n:=by
 unfold ownAt
 rw [List.getElem?_cons_succ]
theorem a8x {c d:D}{ρ:Ev}:setOwn (some (.l c) :: ρ) 0 d=some (.l d) :: ρ:=rfl
theorem a7A {c d:D}{ρ:Ev}:setOwn (some (.o c) :: ρ) 0 d=some (.o d) :: ρ:=rfl
theorem a7w {x:Option W}{ρ:Ev}{n:Nat}{d:D}:setOwn (x :: ρ) (n + 1) d=x :: setOwn ρ n d:=by
 unfold setOwn
 rw [List.getElem?_cons_succ]
 split <;> rename_i h <;> simp [h]
theorem frz_nil {n:Nat}:frzAt [] n=none:=rfl
theorem b1A {d:D}{ρ:Ev}:frzAt (some (.o d) :: ρ) 0=some (some (.v d) :: ρ):=rfl
theorem frz_v {d:D}{ρ:Ev}:frzAt (some (.v d) :: ρ) 0=some (some (.v d) :: ρ):=rfl
theorem b0X {x:Option W}{ρ:Ev}{n:Nat}:frzAt (x :: ρ) (n + 1)=(frzAt ρ n).map fun ρ'=>x :: ρ':=by
 unfold frzAt
 rw [List.getElem?_cons_succ]
 split <;> rename_i h <;> simp [h]
abbrev acc (zs:List D):Ev:=[some (.l (.lst zs))]
theorem a4P {B:Ev}{zs:List D}{k:Nat}(h:B.length=k):ownAt (B ++ acc zs) k=some (.lst zs):=by
 unfold ownAt
 rw [List.getElem?_append_right (by walk_at "o"),h,Nat.sub_self];rfl
theorem b0v {B:Ev}{zs ys:List D}{k:Nat}(h:B.length=k):setOwn (B ++ acc zs) k (.lst ys)=B ++ acc ys:=by
 unfold setOwn
 have e:(B ++ acc zs)[k]? =some (some (.l (.lst zs))):=by rw [List.getElem?_append_right (by walk_at "o"),h,Nat.sub_self];rfl
 rw [e]
 simp only
 rw [List.set_append_right _ _ (by walk_at "o"),h,Nat.sub_self];rfl
theorem app_v {B:Ev}{zs:List D}{k:Nat}{w:W}{d:D}(h:B.length=k)(hw:w= .v d\/w= .o d)(hl:zs.length < lim):appTo k (w,B ++ acc zs)=some (B ++ acc (zs ++ [d])):=by
 unfold appTo
 have e:w.fz= .v d:=by rcases hw with rfl | rfl <;> rfl
 simp only [e,takeAll,Option.map_some,Option.bind_some]
 rw [a4P h]
 simp only [if_pos hl,b0v h]
theorem P9 {k:Nat}{gf:FG}{t:FT}{fe:FX}(I:Ev->Prop)(p:D->Bool)(h:D->D)(hI:∀B,I B->B.length=k):∀(xs:List D),(∀x∈xs,∀B zs,I B->∃B' w,I B'/\gf x (B ++ acc zs)=some (B' ++ acc zs)/\t (B' ++ acc zs)=some (p x,B' ++ acc zs)/\(p x=true->fe (B' ++ acc zs)=some (w,B' ++ acc zs)/\(w= .v (h x)\/w= .o (h x))))->
  ∀(B:Ev) (zs:List D),zs.length + xs.length<=lim->I B->∃B',I B'/\loopC (turnC k gf t fe) xs (B ++ acc zs)=some (B' ++ acc (zs ++ (xs.filter p).map h))
 | [],st,B,zs,hl,i=>⟨B,i,by simp [loopC]⟩
 | x :: xs,st,B,zs,hl,i=>by
  obtain ⟨B1,w,i1,e1,e2,e3⟩:=st x List.mem_cons_self B zs i
  rw [List.length_cons] at hl
  cases hp:p x with
  | true=>
   obtain ⟨e4,hw⟩:=e3 hp
   obtain ⟨B2,i2,e5⟩:=P9 I p h hI xs (fun y hy=>st y (List.mem_cons_of_mem _ hy)) B1 (zs ++ [h x]) (by rw [List.length_append,List.length_singleton];walk_at "o") i1
   refine ⟨B2,i2,?_⟩
   rw [loopC,turnC,e1]
   have ea:=app_v (zs:=zs) (hI B1 i1) hw (by walk_at "o")
   simp only [Option.bind_some,e2,hp,if_true,e4,ea]
   rw [e5,List.filter_cons_of_pos hp,List.map_cons,List.append_assoc];rfl
  | false=>
   obtain ⟨B2,i2,e5⟩:=P9 I p h hI xs (fun y hy=>st y (List.mem_cons_of_mem _ hy)) B1 zs (by walk_at "o") i1
   refine ⟨B2,i2,?_⟩
   rw [loopC,turnC,e1]
   simp only [Option.bind_some,e2,hp,Bool.false_eq_true,if_false]
   rw [e5,List.filter_cons_of_neg (by rw [hp];exact Bool.false_ne_true)]
theorem m5 {fi:FI}{js:List (Option Nat)}{gf:FG}{t:FT}{fe:FX}{ρ ρ1:Ev}{xs:List D}(I:Ev->Prop)(p:D->Bool)(h:D->D)(ei:fi ρ=some (xs,ρ1))(hI:∀B,I B->B.length=js.length)(h0:I (capE none js ρ1))(hl:xs.length<=lim)(hf:lfL ((xs.filter p).map h)=true)
  (st:∀x∈xs,∀B zs,I B->∃B' w,I B'/\gf x (B ++ acc zs)=some (B' ++ acc zs)/\t (B' ++ acc zs)=some (p x,B' ++ acc zs)/\(p x=true->fe (B' ++ acc zs)=some (w,B' ++ acc zs)/\(w= .v (h x)\/w= .o (h x)))):
  fComp fi none js gf t fe ρ=some (.o (.lst ((xs.filter p).map h)),ρ1):=by
 obtain ⟨B',i',e⟩:=P9 I p h hI xs st (capE none js ρ1) [] (by rw [List.length_nil];walk_at "o") h0
 unfold fComp
 rw [ei]
 simp only [Option.bind_some,liB,if_true,Option.map_none]
 rw [show capE none js ρ1 ++ [some (.l (.lst []))]=capE none js ρ1 ++ acc [] from rfl,e]
 simp only [Option.bind_some,List.nil_append,a4P (hI B' i'),backC,hf,if_true]
theorem n6 {α:Type}(xs:List α):xs.filter (fun _=>true)=xs:=by induction xs with
 | nil=>rfl
 | cons x xs ih=>rw [List.filter_cons_of_pos rfl,ih]
theorem a97 {a b:Int}{m n:Nat}(ha:a.natAbs < 2 ^ m)(hb:b.natAbs < 2 ^ n)(h:m + n<=8000):(a * b).natAbs < big:=by
 rw [Int.natAbs_mul]
 unfold big
 have h1:a.natAbs * b.natAbs < 2 ^ m * 2 ^ n:=Nat.mul_lt_mul'' ha hb
 rw [<-Nat.pow_add] at h1
 exact Nat.lt_of_lt_of_le h1 (Nat.pow_le_pow_right (by decide) h)
theorem a2X {a b:Int}{m n:Nat}(ha:a.natAbs < 2 ^ m)(hb:b.natAbs < 2 ^ n)(hm:m<=8000)(hn:n<=8000):mOk a b:=
 .inr (.inr ⟨Nat.lt_of_lt_of_le ha (Nat.pow_le_pow_right (by decide) hm),Nat.lt_of_lt_of_le hb (Nat.pow_le_pow_right (by decide) hn)⟩)
theorem a8D (m n:Nat)(h:0 < n):Nat.gcd m n=Nat.gcd n (m % n):=by
 rw [Nat.gcd_comm m n,Nat.gcd_rec n m,Nat.gcd_comm]
abbrev gcC (j:Nat):FT:=fTest (fBin oGt (fVar j) (fC (.int 0)))
abbrev gcB (i j:Nat):FS:=fPar i j (fCons (fVar j) (fCons (fMod (fVar i) (fVar j)) fNil))
theorem set2 {ρ:Ev}{i j:Nat}(hij:i≠j)(a b c d:Option W):(((ρ.set i a).set j b).set i c).set j d=(ρ.set i c).set j d:=by
 apply List.ext_getElem?
 intro l
 simp only [List.getElem?_set,List.length_set]
 by_cases h1:j=l <;> by_cases h2:i=l <;> simp [h1,h2]
theorem a1O {i j:Nat}(hij:i≠j):∀(k m n:Nat) (ρ:Ev),n<=k->ρ[i]? =some (some (.v (.int (m:Nat))))->ρ[j]? =some (some (.v (.int (n:Nat))))->whileF (gcC j) (gcB i j) (k + 1) ρ=some (.nx ((ρ.set i (some (.v (.int (Nat.gcd m n:Nat))))).set j (some (.v (.int 0)))))
 | k,m,n,ρ,hk,h1,h2=>by
  have tst:gcC j ρ=some (decide ((0:Int) < (n:Int)),ρ):=by
   simp only [gcC,fTest,fBin,fVar,h2,fC,Option.bind_some,W.fz,dr,oI0,Option.map_some]
  rw [whileF,tst]
  by_cases hn:0 < n
  ·have bd:gcB i j ρ=some (.nx ((ρ.set i (some (.v (.int (n:Nat))))).set j (some (.v (.int ((m % n:Nat):Int)))))):=by
    have f1:freeSlot ρ i=true:=by simp only [freeSlot,h1]
    have f2:freeSlot (ρ.set i (some (.v (.int (n:Nat))))) j=true:=by simp only [freeSlot,List.getElem?_set_ne hij,h2]
    have p:(0:Int) < (n:Nat):=by walk_at "o"
    simp only [gcB,fPar,fCons,fNil,fVar,h1,h2,fBin,Option.bind_some,W.fz,dr,oI,p,if_true,Option.map_some,takeAll,f1,f2,and_self]
    rfl
   have d:decide ((0:Int) < (n:Int))=true:=by simp;walk_at "o"
   simp only [Option.bind_some,d,if_true,bd]
   cases k with
   | zero=>walk_at "o"
   | succ k=>
    have hlt:m % n < n:=Nat.mod_lt m hn
    have li:i < ρ.length:=(List.getElem?_eq_some_iff.mp h1).1
    have lj:j < ρ.length:=(List.getElem?_eq_some_iff.mp h2).1
    rw [a1O hij k n (m % n) _ (by walk_at "o") (by rw [List.getElem?_set_ne (Ne.symm hij)];exact n8 li) (n8 (by simpa using lj)),set2 hij,<-a8D m n hn]
  ·have hn0:n=0:=by walk_at "o"
   subst hn0
   have d:decide ((0:Int) < ((0:Nat):Int))=false:=by decide
   simp only [Option.bind_some,d,Bool.false_eq_true,if_false,Nat.gcd_zero_right]
   congr 2
   apply List.ext_getElem?
   intro l
   by_cases lj:l=j
   ·subst lj;rw [n8 (by have:=(List.getElem?_eq_some_iff.mp h2).1;simpa using this)];exact h2
   ·rw [List.getElem?_set_ne (Ne.symm lj)]
    by_cases li:l=i
    ·subst li;rw [n8 (List.getElem?_eq_some_iff.mp h1).1];exact h1
    ·rw [List.getElem?_set_ne (Ne.symm li)]
theorem a30 {i j:Nat}(hij:i≠j){a b:Int}{ρ:Ev}(ha:0<=a)(hb:0<=b)(h1:ρ[i]? =some (some (.v (.int a))))(h2:ρ[j]? =some (some (.v (.int b)))):whileV (gcC j) (gcB i j) ρ=some (.nx ((ρ.set i (some (.v (.int (Int.gcd a b:Nat))))).set j (some (.v (.int 0))))):=by
 obtain ⟨m,rfl⟩:=Int.eq_ofNat_of_zero_le ha
 obtain ⟨n,rfl⟩:=Int.eq_ofNat_of_zero_le hb
 exact a1T (a1O hij n m n ρ (Nat.le_refl _) h1 h2)
def ratD (q:Rat):D:=.tup [.int q.num,.int q.den]
def Sz (n:Nat) (q:Rat):Prop:=q.num.natAbs < 2 ^ n/\q.den < 2 ^ n
theorem Sz.mono {m n:Nat}{q:Rat}(h:Sz m q)(hm:m<=n):Sz n q:=⟨Nat.lt_of_lt_of_le h.1 (Nat.pow_le_pow_right (by decide) hm),Nat.lt_of_lt_of_le h.2 (Nat.pow_le_pow_right (by decide) hm)⟩
theorem K3 {t b:Int}(hb:0 < b):(Rat.divInt t b).num=t / (Int.gcd t b:Nat)/\((Rat.divInt t b).den:Int)=b / (Int.gcd t b:Nat):=by
 obtain ⟨n,rfl⟩:=Int.eq_ofNat_of_zero_le (Int.le_of_lt hb)
 have hn:n≠0:=by walk_at "o"
 rw [Rat.divInt_ofNat,<-Rat.normalize_eq_mkRat hn,Rat.normalize_eq]
 exact ⟨rfl,by simp [Int.gcd]⟩
theorem L1 (q:Rat):Rat.divInt q.num q.den=q:=Rat.num_divInt_den q
theorem a8d {p q:Rat}(h:ratD p=ratD q):p=q:=by
 unfold ratD at h
 injection h with h
 injection h with h1 h2
 injection h2 with h2 _
 injection h1 with h1
 injection h2 with h2
 exact Rat.ext h1 (by walk_at "o")
theorem J9 (p q:Rat):Rat.divInt (p.num * q.den + q.num * p.den) (p.den * q.den)=p + q:=by
 rw [<-Rat.divInt_add_divInt _ _ (by have:=p.den_nz;walk_at "o") (by have:=q.den_nz;walk_at "o"),L1,L1]
theorem a4z {t b:Int}{n:Nat}(hb:0 < b)(ht:t.natAbs < 2 ^ n)(h:b.natAbs < 2 ^ n):Sz n (Rat.divInt t b):=by
 obtain ⟨e1,e2⟩:=K3 (t:=t) hb
 constructor
 ·rw [e1]
  have:(t / ((Int.gcd t b:Nat):Int)).natAbs<=t.natAbs:=by
   have hd:((Int.gcd t b:Nat):Int) ∣ t:=Int.gcd_dvd_left ..
   rw [Int.natAbs_ediv_of_dvd hd]
   exact Nat.div_le_self ..
  walk_at "o"
 ·have:((Rat.divInt t b).den:Int)<=b:=by
   rw [e2]
   exact Int.ediv_le_self _ (Int.le_of_lt hb)
  walk_at "o"
section
variable {ρ ρ1 ρ2:Ev}{op o1 o2:D->D->Option W}{o:D->Option W}{f g h:FX}{t u:FT}{fa:FA}{F G:FS}{i j:Nat}{d e x y:D}{w z:W}{ws:List W}{ds xs ys zs:List D}{r:R}{k b:Bool}
def varO (i:Nat) (ρ:Ev):Option (Option W)->Option (W×Ev)
 | some (some (.v d))=>some (.v d,ρ)
 | some (some (.r _))=>none
 | some (some _)=>some (.r i,ρ)
 | _=>none
theorem b0G:fVar i ρ=varO i ρ ρ[i]?:=by unfold fVar varO;split <;> simp_all
theorem a5Y:varO i ρ (some (some (.v d)))=some (.v d,ρ):=rfl
theorem a51:varO i ρ (some (some (.o d)))=some (.r i,ρ):=rfl
theorem r_var_l:varO i ρ (some (some (.l d)))=some (.r i,ρ):=rfl
theorem r_c:fC d ρ=some (.v d,ρ):=rfl
def drO:Option (Option W)->Option D
 | some (some (.v d))=>some d
 | some (some w)=>w.own
 | _=>none
theorem a8r:dr ρ (.v d)=some d:=rfl
theorem a7S:dr ρ (.r i)=drO ρ[i]?:=by unfold dr drO;rfl
theorem r_drO_v:drO (some (some (.v d)))=some d:=rfl
theorem a5P:drO (some (some (.o d)))=some d:=rfl
theorem r_drO_l:drO (some (some (.l d)))=some d:=rfl
theorem a8Y:(W.v d).fz= .v d:=rfl
theorem a7X:(W.o d).fz= .v d:=rfl
theorem a8X:(W.r i).fz= .r i:=rfl
def drsC (ρ:Ev) (ws:List W):Option D->Option (List D)
 | some d=>(drs ρ ws).map fun ds=>d :: ds
 | none=>none
theorem a5z:drs ρ []=some []:=rfl
theorem a5n:drs ρ (w :: ws)=drsC ρ ws (dr ρ w):=by rw [drs];unfold drsC;cases dr ρ w <;> rfl
theorem a7m:drsC ρ ws (some d)=(drs ρ ws).map fun ds=>d :: ds:=rfl
def bin2 (op:D->D->Option W) (g:FX):Option (W×Ev)->Option (W×Ev)
 | some p=>(g p.2).bind fun q=>(dr q.2 p.1.fz).bind fun x=>(dr q.2 q.1.fz).bind fun y=>(op x y).map fun w=>(w,q.2)
 | none=>none
def bin3 (op:D->D->Option W) (w:W):Option (W×Ev)->Option (W×Ev)
 | some q=>(dr q.2 w.fz).bind fun x=>(dr q.2 q.1.fz).bind fun y=>(op x y).map fun w=>(w,q.2)
 | none=>none
def bin4 (op:D->D->Option W) (ρ:Ev):Option D->Option D->Option (W×Ev)
 | some x,some y=>(op x y).map fun w=>(w,ρ)
 | _,_=>none
def withE (ρ:Ev):Option W->Option (W×Ev)
 | some w=>some (w,ρ)
 | none=>none
theorem b06:fBin op f g ρ=bin2 op g (f ρ):=by unfold fBin bin2;cases f ρ <;> rfl
theorem a8s:bin2 op g (some (w,ρ))=bin3 op w (g ρ):=by unfold bin2 bin3;dsimp only;cases g ρ <;> rfl
theorem a8Q:bin3 op w (some (z,ρ))=bin4 op ρ (dr ρ w.fz) (dr ρ z.fz):=by unfold bin3 bin4;dsimp only;cases dr ρ w.fz <;> cases dr ρ z.fz <;> rfl
theorem a9t:bin4 op ρ (some x) (some y)=withE ρ (op x y):=by unfold bin4 withE;dsimp only;cases op x y <;> rfl
theorem a8W:withE ρ (some w)=some (w,ρ):=rfl
def un2 (o:D->Option W):Option (W×Ev)->Option (W×Ev)
 | some p=>(dr p.2 p.1.fz).bind fun x=>(o x).map fun w=>(w,p.2)
 | none=>none
def un3 (o:D->Option W) (ρ:Ev):Option D->Option (W×Ev)
 | some x=>withE ρ (o x)
 | none=>none
theorem r_un:fUn o f ρ=un2 o (f ρ):=by unfold fUn un2;cases f ρ <;> rfl
theorem b1y:un2 o (some (w,ρ))=un3 o ρ (dr ρ w.fz):=by unfold un2 un3 withE;dsimp only;cases dr ρ w.fz with
 | none=>rfl
 | some x=>simp only [Option.bind_some];cases o x <;> rfl
theorem b1u:un3 o ρ (some x)=withE ρ (o x):=rfl
def tstO:Option (W×Ev)->Option (Bool×Ev)
 | some (.v (.bl k),ρ)=>some (k,ρ)
 | _=>none
theorem a0H:fTest f ρ=tstO (f ρ):=by
 unfold fTest tstO
 cases f ρ with
 | none=>rfl
 | some p=>
  obtain ⟨w,ρ⟩:=p
  cases w with
  | v d=>cases d <;> rfl
  | _=>rfl
theorem a9x:tstO (some (.v (.bl k),ρ))=some (k,ρ):=rfl
def tru2:Option (W×Ev)->Option (Bool×Ev)
 | some p=>(dr p.2 p.1.fz).bind fun d=>(truth d).map fun k=>(k,p.2)
 | none=>none
def tru3 (ρ:Ev):Option D->Option (Bool×Ev)
 | some d=>(truth d).map fun k=>(k,ρ)
 | none=>none
theorem a7E:fTru f ρ=tru2 (f ρ):=by unfold fTru tru2;cases f ρ <;> rfl
theorem a9r:tru2 (some (w,ρ))=tru3 ρ (dr ρ w.fz):=by unfold tru2 tru3;dsimp only;cases dr ρ w.fz <;> rfl
theorem a3l:tru3 ρ (some (.bl k))=some (k,ρ):=rfl
theorem b2S:tru3 ρ (some (.tup xs))=some (!xs.isEmpty,ρ):=rfl
theorem a1s:tru3 ρ (some (.lst xs))=some (!xs.isEmpty,ρ):=rfl
theorem b2N:tru3 ρ (some .non)=some (false,ρ):=rfl
def notO:Option (Bool×Ev)->Option (Bool×Ev)
 | some p=>some (!p.1,p.2)
 | none=>none
theorem b0L:fNot t ρ=notO (t ρ):=by unfold fNot notO;cases t ρ <;> rfl
theorem a8N:notO (some (k,ρ))=some (!k,ρ):=rfl
def andO (u:FT):Option (Bool×Ev)->Option (Bool×Ev)
 | some (true,ρ)=>u ρ
 | some (false,ρ)=>some (false,ρ)
 | none=>none
def orO (u:FT):Option (Bool×Ev)->Option (Bool×Ev)
 | some (true,ρ)=>some (true,ρ)
 | some (false,ρ)=>u ρ
 | none=>none
theorem b09:fAnd t u ρ=andO u (t ρ):=by unfold fAnd andO;cases t ρ with
 | none=>rfl
 | some p=>obtain ⟨k,ρ⟩:=p;cases k <;> rfl
theorem r_or:fOr t u ρ=orO u (t ρ):=by unfold fOr orO;cases t ρ with
 | none=>rfl
 | some p=>obtain ⟨k,ρ⟩:=p;cases k <;> rfl
theorem a59:andO u (some (true,ρ))=u ρ:=id rfl
theorem a5O:andO u (some (false,ρ))=some (false,ρ):=rfl
theorem a9v:orO u (some (true,ρ))=some (true,ρ):=rfl
theorem a9b:orO u (some (false,ρ))=u ρ:=id rfl
def andV (g:FX):Option (Bool×Ev)->Option (W×Ev)
 | some (true,ρ)=>g ρ
 | some (false,ρ)=>some (.v (.bl false),ρ)
 | none=>none
def orV (g:FX):Option (Bool×Ev)->Option (W×Ev)
 | some (true,ρ)=>some (.v (.bl true),ρ)
 | some (false,ρ)=>g ρ
 | none=>none
def notV:Option (Bool×Ev)->Option (W×Ev)
 | some (k,ρ)=>some (.v (.bl (!k)),ρ)
 | none=>none
def ifV (f g:FX):Option (Bool×Ev)->Option (W×Ev)
 | some (true,ρ)=>f ρ
 | some (false,ρ)=>g ρ
 | none=>none
theorem a8E:fAndV f g ρ=andV g (tstO (f ρ)):=by unfold fAndV andV;rw [a0H];cases tstO (f ρ) with
 | none=>rfl
 | some p=>obtain ⟨k,ρ⟩:=p;cases k <;> rfl
theorem r_orV:fOrV f g ρ=orV g (tstO (f ρ)):=by unfold fOrV orV;rw [a0H];cases tstO (f ρ) with
 | none=>rfl
 | some p=>obtain ⟨k,ρ⟩:=p;cases k <;> rfl
theorem r_notV:fNotV f ρ=notV (tstO (f ρ)):=by unfold fNotV notV;rw [a0H];cases tstO (f ρ) <;> rfl
theorem r_if:fIf t f g ρ=ifV f g (t ρ):=by unfold fIf ifV;cases t ρ with
 | none=>rfl
 | some p=>obtain ⟨k,ρ⟩:=p;cases k <;> rfl
theorem a3W:andV g (some (true,ρ))=g ρ:=id rfl
theorem a3F:andV g (some (false,ρ))=some (.v (.bl false),ρ):=rfl
theorem r_orV_t:orV g (some (true,ρ))=some (.v (.bl true),ρ):=rfl
theorem r_orV_f:orV g (some (false,ρ))=g ρ:=id rfl
theorem r_notV_s:notV (some (k,ρ))=some (.v (.bl (!k)),ρ):=rfl
theorem r_if_t:ifV f g (some (true,ρ))=f ρ:=id rfl
theorem r_if_f:ifV f g (some (false,ρ))=g ρ:=id rfl
def cons2 (fa:FA):Option (W×Ev)->Option (List W×Ev)
 | some p=>(fa p.2).map fun q=>(p.1.fz :: q.1,q.2)
 | none=>none
def cons3 (w:W):Option (List W×Ev)->Option (List W×Ev)
 | some q=>some (w :: q.1,q.2)
 | none=>none
theorem b0T:fNil ρ=some ([],ρ):=rfl
theorem a7z:fCons f fa ρ=cons2 fa (f ρ):=by unfold fCons cons2;cases f ρ <;> rfl
theorem a50:cons2 fa (some (w,ρ))=cons3 w.fz (fa ρ):=by unfold cons2 cons3;dsimp only;cases fa ρ <;> rfl
theorem a5X:cons3 w (some (ws,ρ))=some (w :: ws,ρ):=rfl
def takC (d:D):Option (List D×Ev)->Option (List D×Ev)
 | some p=>some (d :: p.1,p.2)
 | none=>none
def takR (i:Nat) (ws:List W):Option Ev->Option (List D×Ev)
 | some ρ1=>match ρ1[i]? with
  | some (some (.v d))=>(takeAll ρ1 ws).map fun p=>(d :: p.1,p.2)
  | _=>none
 | none=>none
def takS (ρ:Ev) (ws:List W):Option (Option W)->Option (List D×Ev)
 | some (some (.v d))=>takC d (takeAll ρ ws)
 | _=>none
theorem a58:takeAll ρ []=some ([],ρ):=rfl
theorem a5R:takeAll ρ (.v d :: ws)=takC d (takeAll ρ ws):=by rw [takeAll];unfold takC;cases takeAll ρ ws <;> rfl
theorem a5T:takeAll ρ (.r i :: ws)=takR i ws (frzAt ρ i):=by rw [takeAll];unfold takR;cases frzAt ρ i <;> rfl
theorem a7Q:takC d (some (ds,ρ))=some (d :: ds,ρ):=rfl
theorem a7G:takR i ws (some ρ)=takS ρ ws ρ[i]?:=by
 unfold takR takS
 dsimp only
 split
 ·unfold takC;cases takeAll ρ ws <;> rfl
 ·rfl
theorem a7l:takS ρ ws (some (some (.v d)))=takC d (takeAll ρ ws):=rfl
def disp2 (mk:List D->W):Option (List W×Ev)->Option (W×Ev)
 | some p=>(takeAll p.2 p.1).bind fun q=>if q.1.length<=lim then some (mk q.1,q.2) else none
 | none=>none
def disp3 (mk:List D->W):Option (List D×Ev)->Option (W×Ev)
 | some q=>if q.1.length<=lim then some (mk q.1,q.2) else none
 | none=>none
theorem b0D:fTup fa ρ=disp2 (fun ds=>.v (.tup ds)) (fa ρ):=by unfold fTup disp2;cases fa ρ <;> rfl
theorem b0F:fLst fa ρ=disp2 (fun ds=>.o (.lst ds)) (fa ρ):=by unfold fLst disp2;cases fa ρ <;> rfl
theorem a5F {mk:List D->W}:disp2 mk (some (ws,ρ))=disp3 mk (takeAll ρ ws):=by unfold disp2 disp3;dsimp only;cases takeAll ρ ws <;> rfl
theorem a53 {mk:List D->W}:disp3 mk (some (ds,ρ))=if ds.length<=lim then some (mk ds,ρ) else none:=rfl
def call2 (k:List D->Option W):Option (List W×Ev)->Option (W×Ev)
 | some p=>(drs p.2 p.1).bind fun ds=>(k ds).map fun w=>(w,p.2)
 | none=>none
def call3 (k:List D->Option W) (ρ:Ev):Option (List D)->Option (W×Ev)
 | some ds=>withE ρ (k ds)
 | none=>none
theorem a9y {k:List D->Option W}:fCall k fa ρ=call2 k (fa ρ):=by unfold fCall call2;cases fa ρ <;> rfl
theorem a5b {k:List D->Option W}:call2 k (some (ws,ρ))=call3 k ρ (drs ρ ws):=by
 unfold call2 call3 withE
 dsimp only
 cases drs ρ ws with
 | none=>rfl
 | some ds=>simp only [Option.bind_some];cases k ds <;> rfl
theorem a55 {k:List D->Option W}:call3 k ρ (some ds)=withE ρ (k ds):=rfl
theorem r_k1 {g:D->Option W}:k1 g [d]=g d:=rfl
theorem r_k2 {g:Int->Int->D}{i j:Int}:k2 g [.int i,.int j]=some (.v (g i j)):=rfl
def def2 (g:List D->Option W):Option (List W×Ev)->Option (W×Ev)
 | some p=>(drs p.2 p.1).bind fun ds=>(g ds).bind fun w=>if lfW w=true then some (w,p.2) else (frzL p.1 p.2).map fun ρ2=>(w,ρ2)
 | none=>none
def def3 (g:List D->Option W) (ws:List W) (ρ:Ev):Option (List D)->Option (W×Ev)
 | some ds=>(g ds).bind fun w=>if lfW w=true then some (w,ρ) else (frzL ws ρ).map fun ρ2=>(w,ρ2)
 | none=>none
def def4 (ws:List W) (ρ:Ev):Option W->Option (W×Ev)
 | some w=>if lfW w=true then some (w,ρ) else (frzL ws ρ).map fun ρ2=>(w,ρ2)
 | none=>none
theorem b0x {g:List D->Option W}:fDef g fa ρ=def2 g (fa ρ):=by unfold fDef def2;cases fa ρ <;> rfl
theorem a9a {g:List D->Option W}:def2 g (some (ws,ρ))=def3 g ws ρ (drs ρ ws):=by unfold def2 def3;dsimp only;cases drs ρ ws <;> rfl
theorem a8F {g:List D->Option W}:def3 g ws ρ (some ds)=def4 ws ρ (g ds):=by unfold def3 def4;dsimp only;cases g ds <;> rfl
theorem a7i:def4 ws ρ (some w)=if lfW w=true then some (w,ρ) else (frzL ws ρ).map fun ρ2=>(w,ρ2):=rfl
def dl2 (g:D->List D->Option (W×D)):Option (List W×Ev)->Option (W×Ev)
 | some (.r i :: ws,ρ)=>(ownAt ρ i).bind fun c=>(drs ρ ws).bind fun ds=>(g c ds).bind fun z=>if noR i ws=true/\lfC z.2=true then (if lfW z.1=true then some (z.1,setOwn ρ i z.2) else (frzL ws (setOwn ρ i z.2)).map fun ρ2=>(z.1,ρ2)) else none
 | _=>none
def dl3 (g:D->List D->Option (W×D)) (i:Nat) (ws:List W) (ρ:Ev):Option D->Option (List D)->Option (W×Ev)
 | some c,some ds=>(g c ds).bind fun z=>if noR i ws=true/\lfC z.2=true then (if lfW z.1=true then some (z.1,setOwn ρ i z.2) else (frzL ws (setOwn ρ i z.2)).map fun ρ2=>(z.1,ρ2)) else none
 | _,_=>none
def dl4 (i:Nat) (ws:List W) (ρ:Ev):Option (W×D)->Option (W×Ev)
 | some z=>if noR i ws=true/\lfC z.2=true then (if lfW z.1=true then some (z.1,setOwn ρ i z.2) else (frzL ws (setOwn ρ i z.2)).map fun ρ2=>(z.1,ρ2)) else none
 | none=>none
theorem r_dl {g:D->List D->Option (W×D)}:fDefL g fa ρ=dl2 g (fa ρ):=by
 unfold fDefL dl2
 cases fa ρ with
 | none=>rfl
 | some p=>
  obtain ⟨ws,ρ⟩:=p
  cases ws with
  | nil=>rfl
  | cons w ws=>cases w <;> rfl
theorem r_dl2 {g:D->List D->Option (W×D)}:dl2 g (some (.r i :: ws,ρ))=dl3 g i ws ρ (ownAt ρ i) (drs ρ ws):=by unfold dl2 dl3;dsimp only;cases ownAt ρ i <;> cases drs ρ ws <;> rfl
theorem r_dl3 {g:D->List D->Option (W×D)}:dl3 g i ws ρ (some d) (some ds)=dl4 i ws ρ (g d ds):=by unfold dl3 dl4;dsimp only;cases g d ds <;> rfl
theorem r_dl4:dl4 i ws ρ (some (w,d))=if noR i ws=true/\lfC d=true then (if lfW w=true then some (w,setOwn ρ i d) else (frzL ws (setOwn ρ i d)).map fun ρ2=>(w,ρ2)) else none:=rfl
def sl2 (lo hi:FO):Option (W×Ev)->Option (W×Ev)
 | some p=>(lo p.2).bind fun l=>(hi l.2).bind fun u=>(dr u.2 p.1.fz).bind fun x=>(slD x l.1 u.1).map fun w=>(w,u.2)
 | none=>none
def sl3 (hi:FO) (w:W):Option (Option Int×Ev)->Option (W×Ev)
 | some l=>(hi l.2).bind fun u=>(dr u.2 w.fz).bind fun x=>(slD x l.1 u.1).map fun w=>(w,u.2)
 | none=>none
def sl4 (w:W) (l:Option Int):Option (Option Int×Ev)->Option (W×Ev)
 | some u=>(dr u.2 w.fz).bind fun x=>(slD x l u.1).map fun w=>(w,u.2)
 | none=>none
def sl5 (l u:Option Int) (ρ:Ev):Option D->Option (W×Ev)
 | some x=>withE ρ (slD x l u)
 | none=>none
theorem r_sl {lo hi:FO}:fSl f lo hi ρ=sl2 lo hi (f ρ):=by unfold fSl sl2;cases f ρ <;> rfl
theorem b0M {lo hi:FO}:sl2 lo hi (some (w,ρ))=sl3 hi w (lo ρ):=by unfold sl2 sl3;dsimp only;cases lo ρ <;> rfl
theorem b1J {hi:FO}{l:Option Int}:sl3 hi w (some (l,ρ))=sl4 w l (hi ρ):=by unfold sl3 sl4;dsimp only;cases hi ρ <;> rfl
theorem b1d {l u:Option Int}:sl4 w l (some (u,ρ))=sl5 l u ρ (dr ρ w.fz):=by
 unfold sl4 sl5 withE
 dsimp only
 cases dr ρ w.fz with
 | none=>rfl
 | some x=>simp only [Option.bind_some];cases slD x l u <;> rfl
theorem b1t {l u:Option Int}:sl5 l u ρ (some x)=withE ρ (slD x l u):=rfl
theorem a9l {l u:Option Int}:slD (.tup xs) l u=some (.v (.tup (cutD xs l u))):=rfl
theorem a8I {l u:Option Int}:slD (.lst xs) l u=some (.o (.lst (cutD xs l u))):=rfl
def o1O:Option (W×Ev)->Option (Option Int×Ev)
 | some (.v (.int i),ρ)=>some (some i,ρ)
 | _=>none
theorem r_o0:fO0 ρ=some (none,ρ):=rfl
theorem r_o1:fO1 f ρ=o1O (f ρ):=by
 unfold fO1 o1O
 cases f ρ with
 | none=>rfl
 | some p=>
  obtain ⟨w,ρ⟩:=p
  cases w with
  | v d=>cases d <;> rfl
  | _=>rfl
theorem b1a {n:Int}:o1O (some (.v (.int n),ρ))=some (some n,ρ):=rfl
def thnO (G:FS):Option R->Option R
 | some (.nx ρ)=>G ρ
 | o=>o
theorem a7Z:fThen F G ρ=thnO G (F ρ):=by unfold fThen thnO;cases F ρ with
 | none=>rfl
 | some r=>cases r <;> rfl
theorem a1v:thnO G (some (.nx ρ))=G ρ:=id rfl
theorem a17:thnO G (some (.rt w ρ))=some (.rt w ρ):=id rfl
theorem b2O:thnO G (some (.bk ρ))=some (.bk ρ):=rfl
theorem b2L:thnO G (some (.ct ρ))=some (.ct ρ):=rfl
def retO:Option (W×Ev)->Option R
 | some p=>retW p.2 p.1
 | none=>none
def retS (ρ:Ev):Option (Option W)->Option R
 | some (some (.o d))=>some (.rt (.o d) ρ)
 | some (some (.v d))=>some (.rt (.v d) ρ)
 | _=>none
theorem b02:fRet f ρ=retO (f ρ):=by unfold fRet retO;cases f ρ <;> rfl
theorem a5t:retO (some (.v d,ρ))=some (.rt (.v d) ρ):=rfl
theorem a5o:retO (some (.o d,ρ))=some (.rt (.o d) ρ):=rfl
theorem r_ret_r:retO (some (.r i,ρ))=retS ρ ρ[i]?:=by unfold retO retS;first | (dsimp only [retW];done) | (dsimp only [retW];rfl)
theorem r_retS_o:retS ρ (some (some (.o d)))=some (.rt (.o d) ρ):=rfl
theorem r_retS_v:retS ρ (some (some (.v d)))=some (.rt (.v d) ρ):=rfl
def ifO (F G:FS):Option (Bool×Ev)->Option R
 | some (true,ρ)=>F ρ
 | some (false,ρ)=>G ρ
 | none=>none
theorem r_ifS:fIfS t F G ρ=ifO F G (t ρ):=by unfold fIfS ifO;cases t ρ with
 | none=>rfl
 | some p=>obtain ⟨k,ρ⟩:=p;cases k <;> rfl
theorem a5y:ifO F G (some (true,ρ))=F ρ:=id rfl
theorem a6e:ifO F G (some (false,ρ))=G ρ:=id rfl
def asgO (i:Nat):Option (W×Ev)->Option R
 | some p=>(bindW p.2 i p.1).map .nx
 | none=>none
def bndO (i j:Nat):Option Ev->Option R
 | some ρ1=>match ρ1[j]? with
  | some (some (.v d))=>if freeSlot ρ1 i=true then some (.nx (ρ1.set i (some (.v d)))) else none
  | _=>none
 | none=>none
def bndS (i:Nat) (ρ:Ev):Option (Option W)->Option R
 | some (some (.v d))=>if freeSlot ρ i=true then some (.nx (ρ.set i (some (.v d)))) else none
 | _=>none
theorem b0V:fAsg i f ρ=asgO i (f ρ):=by unfold fAsg asgO;cases f ρ <;> rfl
theorem a5D:asgO i (some (.v d,ρ))=if freeSlot ρ i=true then some (.nx (ρ.set i (some (.v d)))) else none:=by unfold asgO;dsimp only [bindW];split <;> rfl
theorem a5K:asgO i (some (.o d,ρ))=if freeSlot ρ i=true then some (.nx (ρ.set i (some (.o d)))) else none:=by unfold asgO;dsimp only [bindW];split <;> rfl
theorem r_asg_r:asgO i (some (.r j,ρ))=bndO i j (frzAt ρ j):=by
 unfold asgO bndO
 dsimp only [bindW]
 cases frzAt ρ j with
 | none=>rfl
 | some ρ1=>
  simp only [Option.bind_some]
  cases q:ρ1[j]? with
  | none=>rfl
  | some o=>
   cases o with
   | none=>rfl
   | some w=>
    cases w with
    | v d=>dsimp only;split <;> rfl
    | _=>rfl
theorem r_bndO:bndO i j (some ρ)=bndS i ρ ρ[j]?:=by
 unfold bndO bndS
 rfl
theorem r_bndS:bndS i ρ (some (some (.v d)))=if freeSlot ρ i=true then some (.nx (ρ.set i (some (.v d)))) else none:=rfl
def agO2 (gf:FG):Option (W×Ev)->Option R
 | some p=>(takeAll p.2 [p.1.fz]).bind fun q=>match q.1 with
  | [d]=>(gf d q.2).map .nx
  | _=>none
 | none=>none
def agO3 (gf:FG):Option (List D×Ev)->Option R
 | some ([d],ρ)=>(gf d ρ).map .nx
 | _=>none
def nxO:Option Ev->Option R
 | some ρ=>some (.nx ρ)
 | none=>none
theorem r_ag {gf:FG}:fAsgG f gf ρ=agO2 gf (f ρ):=by unfold fAsgG agO2;cases f ρ <;> rfl
theorem b1I {gf:FG}:agO2 gf (some (w,ρ))=agO3 gf (takeAll ρ [w.fz]):=by
 unfold agO2 agO3
 dsimp only
 cases takeAll ρ [w.fz] with
 | none=>rfl
 | some p=>
  obtain ⟨ds,ρ⟩:=p
  match ds with
  | []=>rfl
  | [_]=>rfl
  | _ :: _ :: _=>rfl
theorem b1i {gf:FG}:agO3 gf (some ([d],ρ))=nxO (gf d ρ):=by unfold agO3 nxO;dsimp only;cases gf d ρ <;> rfl
theorem b0Q:nxO (some ρ)=some (.nx ρ):=rfl
theorem a57:gfName i d ρ=if freeSlot ρ i=true then some (ρ.set i (some (.v d))) else none:=rfl
def gcO (gs:FGs) (ds:List D):Option Ev->Option Ev
 | some ρ=>gs ds ρ
 | none=>none
theorem a76:gfNil [] ρ=some ρ:=rfl
theorem a5U {gf:FG}{gs:FGs}:gfCons gf gs (d :: ds) ρ=gcO gs ds (gf d ρ):=by unfold gfCons gcO;dsimp only;cases gf d ρ <;> rfl
theorem b1L {gs:FGs}:gcO gs ds (some ρ)=gs ds ρ:=id rfl
theorem a7R {gs:FGs}:gfTup gs (.tup ds) ρ=gs ds ρ:=rfl
def gs2 (g:FX) (d:D):Option (W×Ev)->Option Ev
 | some (.r j,ρ)=>(g ρ).bind fun q=>(dr q.2 q.1.fz).bind fun k=>match k,ownAt q.2 j with
  | .int k,some (.lst xs)=>(ixN xs.length k).map fun n=>setOwn q.2 j (.lst (xs.set n d))
  | _,_=>none
 | _=>none
def gs3 (j:Nat) (d:D):Option (W×Ev)->Option Ev
 | some q=>(dr q.2 q.1.fz).bind fun k=>match k,ownAt q.2 j with
  | .int k,some (.lst xs)=>(ixN xs.length k).map fun n=>setOwn q.2 j (.lst (xs.set n d))
  | _,_=>none
 | none=>none
def gs4 (j:Nat) (d:D) (ρ:Ev):Option D->Option D->Option Ev
 | some (.int k),some (.lst xs)=>(ixN xs.length k).map fun n=>setOwn ρ j (.lst (xs.set n d))
 | _,_=>none
theorem r_gs:gfSub f g d ρ=gs2 g d (f ρ):=by
 unfold gfSub gs2
 cases f ρ with
 | none=>rfl
 | some p=>obtain ⟨w,ρ⟩:=p;cases w <;> rfl
theorem b0P:gs2 g d (some (.r j,ρ))=gs3 j d (g ρ):=by unfold gs2 gs3;dsimp only;cases g ρ <;> rfl
theorem b0R:gs3 j d (some (w,ρ))=gs4 j d ρ (dr ρ w.fz) (ownAt ρ j):=by
 unfold gs3 gs4
 dsimp only
 cases dr ρ w.fz with
 | none=>rfl
 | some k=>
  simp only [Option.bind_some]
  cases k with
  | int n=>cases ownAt ρ j with
   | none=>rfl
   | some c=>cases c <;> rfl
  | _=>rfl
theorem b1e {n:Int}:gs4 j d ρ (some (.int n)) (some (.lst xs))=(ixN xs.length n).map fun n=>setOwn ρ j (.lst (xs.set n d)):=rfl
def dropO:Option (W×Ev)->Option R
 | some p=>some (.nx p.2)
 | none=>none
theorem a8H:fDrop f ρ=dropO (f ρ):=by unfold fDrop dropO;cases f ρ <;> rfl
theorem a5k:dropO (some (w,ρ))=some (.nx ρ):=rfl
def par2 (i j:Nat):Option (List W×Ev)->Option R
 | some p=>(takeAll p.2 p.1).bind fun q=>match q.1 with
  | [d,d']=>if freeSlot q.2 i=true/\freeSlot (q.2.set i (some (.v d))) j=true then some (.nx ((q.2.set i (some (.v d))).set j (some (.v d')))) else none
  | _=>none
 | none=>none
def par3 (i j:Nat):Option (List D×Ev)->Option R
 | some ([d,d'],ρ)=>if freeSlot ρ i=true/\freeSlot (ρ.set i (some (.v d))) j=true then some (.nx ((ρ.set i (some (.v d))).set j (some (.v d')))) else none
 | _=>none
theorem b0I:fPar i j fa ρ=par2 i j (fa ρ):=by unfold fPar par2;cases fa ρ <;> rfl
theorem a9e:par2 i j (some (ws,ρ))=par3 i j (takeAll ρ ws):=by
 unfold par2 par3
 dsimp only
 cases takeAll ρ ws with
 | none=>rfl
 | some p=>
  obtain ⟨ds,ρ⟩:=p
  match ds with
  | []=>rfl
  | [_]=>rfl
  | [_,_]=>rfl
  | _ :: _ :: _ :: _=>rfl
theorem a84:par3 i j (some ([d,e],ρ))=if freeSlot ρ i=true/\freeSlot (ρ.set i (some (.v d))) j=true then some (.nx ((ρ.set i (some (.v d))).set j (some (.v e)))) else none:=rfl
def is2:Option (W×Ev)->Option (List D×Ev)
 | some p=>(takeAll p.2 [p.1.fz]).bind fun q=>match q.1 with
  | [d]=>(items d).map fun xs=>(xs,q.2)
  | _=>none
 | none=>none
def is3:Option (List D×Ev)->Option (List D×Ev)
 | some ([.tup xs],ρ)=>some (xs,ρ)
 | some ([.lst xs],ρ)=>some (xs,ρ)
 | _=>none
theorem r_is:fiSeq f ρ=is2 (f ρ):=by unfold fiSeq is2;cases f ρ <;> rfl
theorem b00:is2 (some (w,ρ))=is3 (takeAll ρ [w.fz]):=by
 unfold is2 is3
 dsimp only
 cases takeAll ρ [w.fz] with
 | none=>rfl
 | some p=>
  obtain ⟨ds,ρ⟩:=p
  match ds with
  | []=>rfl
  | [d]=>cases d <;> rfl
  | _ :: _ :: _=>simp
theorem a77:is3 (some ([.tup xs],ρ))=some (xs,ρ):=rfl
theorem a7T:is3 (some ([.lst xs],ρ))=some (xs,ρ):=rfl
def forO (gf:FG) (b:FS):Option (List D×Ev)->Option R
 | some p=>loopF (turnF gf b) p.1 p.2
 | none=>none
theorem b0N {fi:FI}{gf:FG}:fFor fi gf F ρ=forO gf F (fi ρ):=by unfold fFor forO;cases fi ρ <;> rfl
theorem a82 {gf:FG}:forO gf F (some (xs,ρ))=loopF (turnF gf F) xs ρ:=id rfl
def turnO (b:FS):Option Ev->Option R
 | some ρ=>b ρ
 | none=>none
theorem a7k {gf:FG}:turnF gf F d ρ=turnO F (gf d ρ):=by unfold turnF turnO;cases gf d ρ <;> rfl
theorem a5Z:turnO F (some ρ)=F ρ:=id rfl
def mu2 (op:List D->List D->Option (W×List D)) (fa:FA):Option (W×Ev)->Option (W×Ev)
 | some (.r i,ρ)=>if isLst (ownAt ρ i)=true then (fa ρ).bind fun q=>(takeAll q.2 q.1).bind fun z=>match ownAt z.2 i with
  | some (.lst xs)=>(op xs z.1).map fun y=>(y.1,setOwn z.2 i (.lst y.2))
  | _=>none
  else none
 | _=>none
def mu3 (op:List D->List D->Option (W×List D)) (i:Nat):Option (List W×Ev)->Option (W×Ev)
 | some q=>(takeAll q.2 q.1).bind fun z=>match ownAt z.2 i with
  | some (.lst xs)=>(op xs z.1).map fun y=>(y.1,setOwn z.2 i (.lst y.2))
  | _=>none
 | none=>none
def mu4 (op:List D->List D->Option (W×List D)) (i:Nat):Option (List D×Ev)->Option (W×Ev)
 | some z=>match ownAt z.2 i with
  | some (.lst xs)=>(op xs z.1).map fun y=>(y.1,setOwn z.2 i (.lst y.2))
  | _=>none
 | none=>none
def mu5 (op:List D->List D->Option (W×List D)) (i:Nat) (ds:List D) (ρ:Ev):Option D->Option (W×Ev)
 | some (.lst xs)=>(op xs ds).map fun y=>(y.1,setOwn ρ i (.lst y.2))
 | _=>none
def mu6 (i:Nat) (ρ:Ev):Option (W×List D)->Option (W×Ev)
 | some y=>some (y.1,setOwn ρ i (.lst y.2))
 | none=>none
variable {om:List D->List D->Option (W×List D)}
theorem r_mu:fMut om f fa ρ=mu2 om fa (f ρ):=by
 unfold fMut mu2
 cases f ρ with
 | none=>rfl
 | some p=>obtain ⟨w,ρ⟩:=p;cases w <;> rfl
theorem b0Z:mu2 om fa (some (.r i,ρ))=if isLst (ownAt ρ i)=true then mu3 om i (fa ρ) else none:=by unfold mu2 mu3;dsimp only;cases fa ρ <;> rfl
theorem b1q:mu3 om i (some (ws,ρ))=mu4 om i (takeAll ρ ws):=by unfold mu3 mu4;dsimp only;cases takeAll ρ ws <;> rfl
theorem b1h:mu4 om i (some (ds,ρ))=mu5 om i ds ρ (ownAt ρ i):=by unfold mu4 mu5;rfl
theorem b1o:mu5 om i ds ρ (some (.lst xs))=mu6 i ρ (om xs ds):=by unfold mu5 mu6;dsimp only;cases om xs ds <;> rfl
theorem b1H:mu6 i ρ (some (w,xs))=some (w,setOwn ρ i (.lst xs)):=rfl
theorem b1l:mApp xs [d]=if xs.length < lim then some (.v .non,xs ++ [d]) else none:=rfl
def runO:Option R->Option W
 | some (.rt w _)=>some w
 | some (.nx _)=>some (.v .non)
 | _=>none
theorem b0W {np n:Nat}:runD np n G ds=if ds.length=np then runO (G (start0 n ds)) else none:=by
 unfold runD runO
 split
 ·cases G (start0 n ds) with
  | none=>rfl
  | some r=>cases r <;> rfl
 ·rfl
theorem a4d:runO (some (.rt w ρ))=some w:=rfl
theorem r_run_nx:runO (some (.nx ρ))=some (.v .non):=rfl
def runLO:Option R->Option (W×D)
 | some (.rt w ρ)=>(ownAt ρ 0).map fun c=>(w,c)
 | some (.nx ρ)=>(ownAt ρ 0).map fun c=>(.v .non,c)
 | _=>none
theorem r_runL {np n:Nat}:runL np n G d ds=if ds.length + 1=np then runLO (G (some (.l d) :: start0 (n - 1) ds)) else none:=by
 unfold runL runLO
 split
 ·cases G (some (.l d) :: start0 (n - 1) ds) with
  | none=>rfl
  | some r=>cases r <;> rfl
 ·rfl
theorem b2K:runLO (some (.rt w ρ))=(ownAt ρ 0).map fun c=>(w,c):=rfl
theorem b2J:runLO (some (.nx ρ))=(ownAt ρ 0).map fun c=>(.v .non,c):=rfl
variable {m n:Int}{s1 s2:Str}
theorem o_i0 {g:Int->Int->D}:oI0 g (.int m) (.int n)=some (.v (g m n)):=rfl
theorem o_i {C:Int->Int->Prop} [∀i j,Decidable (C i j)] {g:Int->Int->D}:oI C g (.int m) (.int n)=if C m n then some (.v (g m n)) else none:=rfl
theorem a6a:oAdd (.int m) (.int n)=some (.v (.int (m + n))):=rfl
theorem a6i:oAdd (.lst xs) (.lst ys)=if xs.length + ys.length<=lim then some (.o (.lst (xs ++ ys))) else none:=rfl
theorem a5I:oAdd (.tup xs) (.tup ys)=if xs≠[]/\xs.length + ys.length<=lim then some (.v (.tup (xs ++ ys))) else none:=by
 by_cases h:xs≠[]/\xs.length + ys.length<=lim
 ·rw [if_pos h];exact if_pos h
 ·rw [if_neg h];exact if_neg h
theorem b0K:oNeg (.int m)=some (.v (.int (-m))):=rfl
theorem a8L:oLtT (.int m) (.int n)=some (.v (.bl (decide (m < n)))):=rfl
theorem a8P:oIx (.tup xs) (.int n)=(atI xs n).map .v:=rfl
theorem a8K:oIx (.lst xs) (.int n)=(atI xs n).map .v:=rfl
theorem a5f:gLen (.tup xs)=some (.v (.int xs.length)):=rfl
theorem a5L:gLen (.lst xs)=some (.v (.int xs.length)):=rfl
theorem b1m:gAbs (.int m)=some (.v (.int (if m < 0 then -m else m))):=rfl
theorem b0C:gInt (.bl b)=some (.v (.int (if b then 1 else 0))):=rfl
theorem b2P:gTuple (.tup xs)=some (.v (.tup xs)):=rfl
theorem a2b:gTuple (.lst xs)=some (.v (.tup xs)):=rfl
theorem o_list_t:gList (.tup xs)=some (.o (.lst xs)):=rfl
theorem o_list_l:gList (.lst xs)=some (.o (.lst xs)):=rfl
theorem o_d2 {q:D->D->Option Bool}{neg:Bool}:oD2 q neg x y=(q x y).map fun k=>.v (.bl (if neg then !k else k)):=rfl
theorem a_0:atI (d :: ds) 0=some d:=u4 (j:=0) rfl
theorem a_1:atI (d :: e :: ds) 1=some e:=u4 (j:=1) rfl
theorem a_2:atI (d :: e :: x :: ds) 2=some x:=u4 (j:=2) rfl
end
open PySem PySem.Spec PyProof.Rows L2
section
variable {prog:Program}{w:World}{A:Around}{E:Value->Shared->Prop}{s:Shared}
theorem a43 {c t:Addr}{k:Nat}{its:Array Value}{x:Value}{Q:Value->Shared->Prop}(hc:IsTupIter s.heap c t k)(ht:IsTup s.heap t its)(hx:its[k]? =some x)
  (q:∀h',IsTupIter h' c t (k + 1)->Heap.SameBut c s.heap h'->Q x {s with heap:=h'}):wpAny (model prog w) A (Builtin.SmallTypes.nextOf (.ref c)) Q E s:=by
 have T:=hc.typeIs
 obtain ⟨o,e1,e2,e3⟩:=hc
 obtain ⟨o2,g1,_,m,g3⟩:=ht
 unfold Builtin.SmallTypes.nextOf
 refine wpAny_bind (wpAny_callSpecial?_slot (name:=Str.ofString "__next__") T slot_tupleiter_next (wpAny_call_entry slot_tupleiter_next T entry_tupleiter_next ?_ (args_tupleiter_next _)))
 have step:wpAny (model prog w) A.in1 (setField (.ref c) 1 (rawInt ((k:Nat) + 1:Nat))) (fun _ s'=>wpAny (model prog w) A.in1 (ret x) (fun fin s''=>∃v,fin= .done (.ret v)/\wpAny (model prog w) A (pure v) Q E s'') E s') E s:=by
  refine wpAny_setField e1 e3 (by simp) (wpAny_pure ⟨x,rfl,wpAny_pure (q _ ⟨_,Heap.get?_update_self _ e1 (Obj.isFreed_of_fields (Obj.data_mapFields e3 _)),(Obj.cls_mapFields ..).trans e2,?_⟩ (Heap.SameBut.update ..))⟩)
  rw [Obj.data_mapFields e3];simp [rawInt]
 refine wpAny_bind (m:=field (.ref c) 0) (wpAny_field e1 e3 (x:=.ref t) rfl ?_)
 show wpAny _ _ (if (Value.ref t == Value.none)=true then _ else _) _ _ s
 have nn:¬((Value.ref t == Value.none)=true):=Bool.false_ne_true
 rw [if_neg nn]
 refine wpAny_bind (m:=field (.ref c) 1) (wpAny_field e1 e3 (x:=.int k 0) rfl (wpAny_bind (m:=seqItems? (.ref t)) (wpAny_seqItems g1 g3 ?_)))
 simp only [Int.toNat_natCast,hx]
 exact wpAny_bind step
theorem a6P {c t:Addr}{k:Nat}{its:Array Value}{Q:Value->Shared->Prop}(hh:A.handled=none)(hc:IsTupIter s.heap c t k)(ht:IsTup s.heap t its)(hx:its[k]? =none)
  (q:∀h' x,Heap.ExtBut c s.heap h'->(∃o,h'.get? x=some o/\o.cls= .type "StopIteration")->E (.ref x) {s with heap:=h'}):wpAny (model prog w) A (Builtin.SmallTypes.nextOf (.ref c)) Q E s:=by
 have T:=hc.typeIs
 obtain ⟨o,e1,e2,e3⟩:=hc
 obtain ⟨o2,g1,_,m,g3⟩:=ht
 unfold Builtin.SmallTypes.nextOf
 refine wpAny_bind (wpAny_callSpecial?_slot (name:=Str.ofString "__next__") T slot_tupleiter_next (wpAny_call_entry slot_tupleiter_next T entry_tupleiter_next ?_ (args_tupleiter_next _)))
 refine wpAny_bind (m:=field (.ref c) 0) (wpAny_field e1 e3 (x:=.ref t) rfl ?_)
 show wpAny _ _ (if (Value.ref t == Value.none)=true then _ else _) _ _ s
 have nn:¬((Value.ref t == Value.none)=true):=Bool.false_ne_true
 rw [if_neg nn]
 refine wpAny_bind (m:=field (.ref c) 1) (wpAny_field e1 e3 (x:=.int k 0) rfl (wpAny_bind (m:=seqItems? (.ref t)) (wpAny_seqItems g1 g3 ?_)))
 simp only [Int.toNat_natCast,hx]
 refine wpAny_bind (wpAny_rule (wpAny_bind (wpAny_setField e1 e3 (by simp) ?_)))
 refine wpAny_bind (m:=newExc (.type "StopIteration") []) ?_
 simp only [newExc,newTuple]
 refine wpAny_bind (wpAny_newObj_type ?_ (by size_fits))
 refine wpAny_bind (m:=firstArgMember _ _) (wpAny_of_eq (a:=Value.none) (by first | rfl | (simp only [firstArgMember];rfl)) (wpAny_newObj_type ?_ (by size_fits)))
 simp only [raiseNew]
 refine wpAny_bind (wpAny_handled ?_)
 first | rw [show A.in1.handled=none from hh] | rw [hh]
 exact wpAny_bind (wpAny_pure (wpAny_throw (q _ _ (((Heap.SameBut.update ..).extBut.push _).push _) ⟨_,Heap.get?_push_size _ rfl,rfl⟩)))
end
def SIt (k:Bool) (h:Heap) (c t:Addr) (i:Nat):Prop:=match k with
 | true=>h.IsListIter c t i
 | false=>IsTupIter h c t i
def SSq (k:Bool) (h:Heap) (t:Addr) (its:Array Value):Prop:=match k with
 | true=>h.IsList t its
 | false=>IsTup h t its
def SqK (k:Bool) (K:PySem.W.Frag) (H:Hp) (a:Addr) (xs:List V):Prop:=match k with
 | true=>SqL K H a xs
 | false=>SqT K H a xs
def itN (k:Bool):String:=if k then "list_iterator" else "tuple_iterator"
theorem A6 {b:Bool}{h h':Heap}{c t:Addr}{k:Nat}(i:SIt b h c t k)(kp:∀o,h.get? c=some o->h'.get? c=some o):SIt b h' c t k:=by
 cases b <;> (obtain ⟨o,e,r⟩:=i;exact ⟨o,kp o e,r⟩)
theorem X7 {b:Bool}{h h':Heap}{c:Addr}{its:Array Value}(i:SSq b h c its)(kp:∀o,h.get? c=some o->h'.get? c=some o):SSq b h' c its:=by
 cases b <;> (obtain ⟨o,e,r⟩:=i;exact ⟨o,kp o e,r⟩)
theorem P5 {b:Bool}{h:Heap}{c t:Addr}{k:Nat}(i:SIt b h c t k):∃o,h.get? c=some o/\∀v,o.data≠.cell v:=by
 cases b <;> (obtain ⟨o,e,r,d⟩:=i;exact ⟨o,e,fun v z=>by rw [d] at z;cases z⟩)
theorem a52 {b:Bool}{h:Heap}{c l:Addr}(e:h.get? c=some {cls:=.type (itN b),data:=.fields #[.ref l,.int 0 0]}):SIt b h c l 0:=by
 cases b <;> exact ⟨_,e,rfl,rfl⟩
theorem sqk {X:Cx}{k:Bool}{pins:List (Addr×PySem.Obj)}{σ:L2.St}{H:Hp}{s:Shared}{a:Addr}{xs:List V}(I:Inv X pins σ H s)(h:SqK k X.K H a xs):∃its,Vals xs its/\SSq k s.heap a its.toArray:=by
 cases k
 ·obtain ⟨its,r,p,_⟩:=I.tuple h;exact ⟨its,r,p⟩
 ·obtain ⟨its,r,p,_⟩:=I.list h;exact ⟨its,r,p.isList⟩
theorem a6f {X:Cx}{k:Bool}{pins:List (Addr×PySem.Obj)}{σ:L2.St}{H:Hp}{s:Shared}{a:Addr}{xs ys:List V}(I:Inv X pins σ H s)(h:SqK k X.K H a xs)(h':SqK k X.K H a ys):xs=ys:=by
 cases k
 ·exact I.tuple_inj h h'
 ·exact I.list_inj h h'
theorem a81 {b:Bool}{h:Heap}{c:Addr}{its:Array Value}(i:SSq b h c its):c < h.objs.size:=by
 cases b <;> (obtain ⟨o,e,r⟩:=i;exact Heap.lt_size e)
section
variable {prog:Program}{w:World}{A:Around}{E:Value->Shared->Prop}{s:Shared}
theorem T1 {b:Bool}{c t:Addr}{k:Nat}{its:Array Value}{x:Value}{Q:Value->Shared->Prop}(hc:SIt b s.heap c t k)(ht:SSq b s.heap t its)(hx:its[k]? =some x)
  (q:∀h',SIt b h' c t (k + 1)->Heap.SameBut c s.heap h'->Q x {s with heap:=h'}):wpAny (model prog w) A (Builtin.SmallTypes.nextOf (.ref c)) Q E s:=by
 cases b
 ·exact a43 hc ht hx q
 ·exact wpAny_nextOf_list_item hc ht hx q
theorem a1q {b:Bool}{c t:Addr}{k:Nat}{its:Array Value}{Q:Value->Shared->Prop}(hh:A.handled=none)(hc:SIt b s.heap c t k)(ht:SSq b s.heap t its)(hx:its[k]? =none)
  (q:∀h' x,Heap.ExtBut c s.heap h'->(∃o,h'.get? x=some o/\o.cls= .type "StopIteration")->E (.ref x) {s with heap:=h'}):wpAny (model prog w) A (Builtin.SmallTypes.nextOf (.ref c)) Q E s:=by
 cases b
 ·exact a6P hh hc ht hx q
 ·exact wpAny_nextOf_list_end hh hc ht hx q
theorem iterS {b:Bool}{l:Addr}{its:Array Value}{Q:Value->Shared->Prop}(ht:SSq b s.heap l its)(q:Q (.ref s.heap.objs.size) {s with heap:=s.heap.push {cls:=.type (itN b),data:=.fields #[.ref l,.int 0 0]}}):wpAny (model prog w) A (pyIter (.ref l)) Q E s:=by
 cases b
 ·exact iter_tuple ht q
 ·exact wpAny_pyIter_list ht q
end
section
variable {prog:Program}{w:World}{A:Around}{E:Value->Shared->Prop}{s:Shared}{c1 c2:Bool}{z TI TO i1 i2 l1 l2:Addr}{k1 k2:Nat}{xs ys:Array Value}{x y a b:Value}
theorem a6W {Q:Value->Shared->Prop}(D:ZipApart z TI TO i1 i2 l1 l2)(hz:IsZip s.heap z TI TO .none)(hTI:IsPair s.heap TI (.ref i1) (.ref i2))(hTO:IsPair s.heap TO a b)
  (h1:SIt c1 s.heap i1 l1 k1) (h2:SIt c2 s.heap i2 l2 k2) (t1:SSq c1 s.heap l1 xs) (t2:SSq c2 s.heap l2 ys) (hx:xs[k1]? =some x) (hy:ys[k2]? =some y)
  (q:∀h',IsZip h' z TI TO (rawInt s.heap.objs.size)->IsPair h' TO x y->SIt c1 h' i1 l1 (k1 + 1)->SIt c2 h' i2 l2 (k2 + 1)->IsPair h' s.heap.objs.size x y->h'.objs.size=s.heap.objs.size + 1->
   (∀c o,c≠z->c≠TO->c≠i1->c≠i2->s.heap.get? c=some o->h'.get? c=some o)->Q (.ref s.heap.objs.size) {s with heap:=h'}):
  wpAny (model prog w) A (Builtin.«zip.__next__» ⟨[.ref z],[]⟩) (fun fin s'=>∃v,fin= .done (.ret v)/\Q v s') E s:=by
 refine wpAny_bind (m:=field (.ref z) 2) (wpAny_field hz rfl (x:=.bool false) rfl ?_)
 refine wpAny_bind (m:=field (.ref z) 3) (wpAny_field hz rfl (x:=.ref TI) rfl (wpAny_bind (wpAny_seqItems hTI rfl ?_)))
 refine wpAny_bind (m:=Builtin.SmallTypes.ownedTupleIsFree (.ref z)) ?_
 unfold Builtin.SmallTypes.ownedTupleIsFree
 refine wpAny_bind (wpAny_field hz rfl (x:=.none) rfl (wpAny_pure ?_))
 simp only [if_true]
 refine wpAny_bind (wpAny_rule (wpAny_bind (wpAny_field hz rfl (x:=.ref TO) rfl (wpAny_bind (wpAny_setField_rec hz (by simp) fun ha za sa=>?_)))))
 have za':IsZip ha z TI TO .ellipsis:=za
 have ka:∀c o,c≠z->s.heap.get? c=some o->ha.get? c=some o:=fun c o n e=>sa.extBut c o n e
 refine wpAny_bind ?_
 simp only [List.zipIdx_cons,List.zipIdx_nil,List.forIn_cons,List.forIn_nil]
 refine wpAny_bind (wpAny_bind (wpAny_onRaise (wpAny_bind (m:=Builtin.SmallTypes.nextOf (.ref i1)) (T1 (A6 h1 fun o e=>ka _ o D.i1z e) (X7 t1 fun o e=>ka _ o D.l1z e) hx fun hb ib sb=>wpAny_pure ?_))))
 have kb:∀c o,c≠z->c≠i1->s.heap.get? c=some o->hb.get? c=some o:=fun c o n n1 e=>sb.extBut c o n1 (ka c o n e)
 have ob:IsPair hb TO a b:=kb _ _ D.TOz D.TOi1 hTO
 refine wpAny_bind (wpAny_seqItems ob rfl (wpAny_bind (wpAny_updateSeq_pair ob fun hc oc sc=>?_)))
 have oc':IsPair hc TO x b:=oc
 have kc:∀c o,c≠z->c≠i1->c≠TO->s.heap.get? c=some o->hc.get? c=some o:=fun c o n n1 n2 e=>sc.extBut c o n2 (kb c o n n1 e)
 refine wpAny_bind (wpAny_letGo (wpAny_pure ?_))
 refine wpAny_bind (wpAny_bind (wpAny_onRaise (wpAny_bind (m:=Builtin.SmallTypes.nextOf (.ref i2)) (T1 (A6 h2 fun o e=>kc _ o D.i2z D.i12.symm D.TOi2.symm e) (X7 t2 fun o e=>kc _ o D.l2z D.l2i1 D.l2TO e) hy fun hd id' sd=>wpAny_pure ?_))))
 have od:IsPair hd TO x b:=sd.extBut _ _ D.TOi2 oc'
 refine wpAny_bind (wpAny_seqItems od rfl (wpAny_bind (wpAny_updateSeq_pair od fun he oe se=>?_)))
 have oe':IsPair he TO x y:=oe
 refine wpAny_bind (wpAny_letGo (wpAny_pure (wpAny_pure ?_)))
 refine wpAny_bind (wpAny_seqItems oe' rfl (wpAny_bind (wpAny_newTuple ?_)))
 have size:he.objs.size=s.heap.objs.size:=by rw [se.1,sd.1,sc.1,sb.1,sa.1]
 have ke:∀c o,c≠z->c≠TO->c≠i1->c≠i2->s.heap.get? c=some o->he.get? c=some o:=fun c o n n1 n2 n3 e=>se.extBut c o n1 (sd.extBut c o n3 (kc c o n n2 n1 e))
 have ze:IsZip he z TI TO .ellipsis:=se.extBut _ _ D.TOz.symm (sd.extBut _ _ D.i2z.symm (sc.extBut _ _ D.TOz.symm (sb.extBut _ _ D.i1z.symm za')))
 have ie1:SIt c1 he i1 l1 (k1 + 1):=A6 ib fun o e=>se.extBut _ o D.TOi1.symm (sd.extBut _ o D.i12 (sc.extBut _ o D.TOi1.symm e))
 have ie2:SIt c2 he i2 l2 (k2 + 1):=A6 id' fun o e=>se.extBut _ o D.TOi2.symm e
 have zlt:z < he.objs.size:=Heap.lt_size ze
 refine wpAny_bind (m:=Builtin.SmallTypes.ownedTupleHandOut (.ref z) (.ref he.objs.size)) ?_
 unfold Builtin.SmallTypes.ownedTupleHandOut
 have zp:IsZip (he.push {cls:=.type "tuple",data:=.seq #[x,y]}) z TI TO .ellipsis:=Heap.get?_push_of_some _ ze
 refine wpAny_bind (wpAny_setField_rec zp (by simp) fun hf zf sf=>?_)
 have zf':IsZip hf z TI TO (rawInt he.objs.size):=zf
 refine wpAny_setField_rec zf' (by simp) fun hg zg sg=>?_
 have zg':IsZip hg z TI TO (rawInt he.objs.size):=zg
 have up:∀c o,c≠z->he.get? c=some o->hg.get? c=some o:=fun c o n e=>sg.extBut c o n (sf.extBut c o n (Heap.get?_push_of_some _ e))
 have pg:IsPair hg he.objs.size x y:=sg.extBut _ _ (Nat.ne_of_gt zlt) (sf.extBut _ _ (Nat.ne_of_gt zlt) (Heap.get?_push_size _ rfl))
 have szg:hg.objs.size=he.objs.size + 1:=by rw [sg.1,sf.1,Heap.size_push]
 rw [size] at zg' pg szg
 refine wpAny_pure ⟨_,rfl,?_⟩
 show Q (.ref he.objs.size) _
 rw [size]
 exact q hg zg' (up _ _ D.TOz oe') (A6 ie1 fun o e=>up _ o D.i1z e) (A6 ie2 fun o e=>up _ o D.i2z e) pg szg fun c o n n1 n2 n3 e=>up c o n (ke c o n n1 n2 n3 e)
end
section
variable {prog:Program}{w:World}{A:Around}{E:Value->Shared->Prop}{s:Shared}{c1 c2:Bool}{z TI TO i1 i2 l1 l2:Addr}{k1 k2:Nat}{xs ys:Array Value}{x y a b:Value}
theorem a9h {Q:Fin->Shared->Prop}(hh:A.handled=none)(D:ZipApart z TI TO i1 i2 l1 l2)(hz:IsZip s.heap z TI TO .none)(hTI:IsPair s.heap TI (.ref i1) (.ref i2))(hTO:IsPair s.heap TO a b)
  (h1:SIt c1 s.heap i1 l1 k1) (h2:SIt c2 s.heap i2 l2 k2) (t1:SSq c1 s.heap l1 xs) (t2:SSq c2 s.heap l2 ys) (hend:xs[k1]? =none\/ys[k2]? =none)
  (q:∀h' c,(∀c o,c≠z->c≠TO->c≠i1->c≠i2->s.heap.get? c=some o->h'.get? c=some o)->(∃o,h'.get? c=some o/\o.cls= .type "StopIteration")->E (.ref c) {s with heap:=h'}):
  wpAny (model prog w) A (Builtin.«zip.__next__» ⟨[.ref z],[]⟩) Q E s:=by
 refine wpAny_bind (m:=field (.ref z) 2) (wpAny_field hz rfl (x:=.bool false) rfl ?_)
 refine wpAny_bind (m:=field (.ref z) 3) (wpAny_field hz rfl (x:=.ref TI) rfl (wpAny_bind (wpAny_seqItems hTI rfl ?_)))
 refine wpAny_bind (m:=Builtin.SmallTypes.ownedTupleIsFree (.ref z)) ?_
 unfold Builtin.SmallTypes.ownedTupleIsFree
 refine wpAny_bind (wpAny_field hz rfl (x:=.none) rfl (wpAny_pure ?_))
 simp only [if_true]
 refine wpAny_bind (wpAny_rule (wpAny_bind (wpAny_field hz rfl (x:=.ref TO) rfl (wpAny_bind (wpAny_setField_rec hz (by simp) fun ha za sa=>?_)))))
 have za':IsZip ha z TI TO .ellipsis:=za
 have ka:∀c o,c≠z->s.heap.get? c=some o->ha.get? c=some o:=fun c o n e=>sa.extBut c o n e
 have apart:∀{h:Heap} {c:Addr} {v:Value},IsZip h z TI TO v->(∃o,h.get? c=some o/\o.cls= .type "StopIteration")->c≠z:=fun {h c v} hz' ⟨o,e1,e2⟩ n=>by
  subst n
  rw [hz'] at e1
  cases e1
  simp at e2
 refine wpAny_bind ?_
 simp only [List.zipIdx_cons,List.zipIdx_nil,List.forIn_cons,List.forIn_nil]
 cases hx:xs[k1]? with
 | none=>
  refine wpAny_bind (wpAny_bind (wpAny_onRaise (wpAny_bind (m:=Builtin.SmallTypes.nextOf (.ref i1)) (a1q hh (A6 h1 fun o e=>ka _ o D.i1z e) (X7 t1 fun o e=>ka _ o D.l1z e) hx fun hb c kb hc=>?_))))
  have zb:IsZip hb z TI TO .ellipsis:=kb _ _ D.i1z.symm za'
  have nz:=apart zb hc
  obtain ⟨o,eo,co⟩:=hc
  exact wpAny_setField_rec zb (by simp) fun hd _ sd=>q hd c (fun d o' n _ n2 _ e=>sd.extBut d o' n (kb d o' n2 (ka d o' n e))) ⟨o,sd.extBut _ _ nz eo,co⟩
 | some x=>
  have hy:ys[k2]? =none:=hend.resolve_left (by rw [hx];exact fun n=>nomatch n)
  refine wpAny_bind (wpAny_bind (wpAny_onRaise (wpAny_bind (m:=Builtin.SmallTypes.nextOf (.ref i1)) (T1 (A6 h1 fun o e=>ka _ o D.i1z e) (X7 t1 fun o e=>ka _ o D.l1z e) hx fun hb ib sb=>wpAny_pure ?_))))
  have kb:∀c o,c≠z->c≠i1->s.heap.get? c=some o->hb.get? c=some o:=fun c o n n1 e=>sb.extBut c o n1 (ka c o n e)
  have ob:IsPair hb TO a b:=kb _ _ D.TOz D.TOi1 hTO
  refine wpAny_bind (wpAny_seqItems ob rfl (wpAny_bind (wpAny_updateSeq_pair ob fun hc oc sc=>?_)))
  have kc:∀c o,c≠z->c≠i1->c≠TO->s.heap.get? c=some o->hc.get? c=some o:=fun c o n n1 n2 e=>sc.extBut c o n2 (kb c o n n1 e)
  refine wpAny_bind (wpAny_letGo (wpAny_pure ?_))
  refine wpAny_bind (wpAny_bind (wpAny_onRaise (wpAny_bind (m:=Builtin.SmallTypes.nextOf (.ref i2)) (a1q hh (A6 h2 fun o e=>kc _ o D.i2z D.i12.symm D.TOi2.symm e) (X7 t2 fun o e=>kc _ o D.l2z D.l2i1 D.l2TO e) hy fun hd c kd hc'=>?_))))
  have zd:IsZip hd z TI TO .ellipsis:=kd _ _ D.i2z.symm (sc.extBut _ _ D.TOz.symm (sb.extBut _ _ D.i1z.symm za'))
  have nz:=apart zd hc'
  obtain ⟨o,eo,co⟩:=hc'
  exact wpAny_setField_rec zd (by simp) fun hf _ sf=>q hf c (fun d o' n n1 n2 n3 e=>sf.extBut d o' n (kd d o' n3 (kc d o' n n2 n1 e))) ⟨o,sf.extBut _ _ nz eo,co⟩
theorem a4H {Q:Option Value->Shared->Prop}(D:ZipApart z TI TO i1 i2 l1 l2)(hz:IsZip s.heap z TI TO .none)(hTI:IsPair s.heap TI (.ref i1) (.ref i2))(hTO:IsPair s.heap TO a b)
  (h1:SIt c1 s.heap i1 l1 k1) (h2:SIt c2 s.heap i2 l2 k2) (t1:SSq c1 s.heap l1 xs) (t2:SSq c2 s.heap l2 ys) (hx:xs[k1]? =some x) (hy:ys[k2]? =some y)
  (q:∀h',IsZip h' z TI TO (rawInt s.heap.objs.size)->IsPair h' TO x y->SIt c1 h' i1 l1 (k1 + 1)->SIt c2 h' i2 l2 (k2 + 1)->IsPair h' s.heap.objs.size x y->h'.objs.size=s.heap.objs.size + 1->
   (∀c o,c≠z->c≠TO->c≠i1->c≠i2->s.heap.get? c=some o->h'.get? c=some o)->Q (some (.ref s.heap.objs.size)) {s with heap:=h'}):
  wpAny (model prog w) A (pyNext (.ref z)) Q E s:=by
 have T:s.TypeIs (.ref z) "zip":=⟨_,hz,rfl⟩
 unfold pyNext
 exact wpAny_bind (wpAny_attempt (wpAny_callSpecial?_slot (name:=Str.ofString "__next__") T F.slot_zip_next
  (wpAny_call_entry F.slot_zip_next T F.entry_zip_next (a6W D hz hTI hTO h1 h2 t1 t2 hx hy fun h' b1 b2 b3 b4 b5 b6 b7=>wpAny_pure (q h' b1 b2 b3 b4 b5 b6 b7)) (F.args_zip_next_1 _))))
theorem a6F {Q:Option Value->Shared->Prop}(hh:A.handled=none)(D:ZipApart z TI TO i1 i2 l1 l2)(hz:IsZip s.heap z TI TO .none)(hTI:IsPair s.heap TI (.ref i1) (.ref i2))(hTO:IsPair s.heap TO a b)
  (h1:SIt c1 s.heap i1 l1 k1) (h2:SIt c2 s.heap i2 l2 k2) (t1:SSq c1 s.heap l1 xs) (t2:SSq c2 s.heap l2 ys) (hend:xs[k1]? =none\/ys[k2]? =none)
  (q:∀h',(∀c o,c≠z->c≠TO->c≠i1->c≠i2->s.heap.get? c=some o->h'.get? c=some o)->Q none {s with heap:=h'}):wpAny (model prog w) A (pyNext (.ref z)) Q E s:=by
 have T:s.TypeIs (.ref z) "zip":=⟨_,hz,rfl⟩
 unfold pyNext
 refine wpAny_bind (wpAny_attempt (wpAny_callSpecial?_slot (name:=Str.ofString "__next__") T F.slot_zip_next (wpAny_call_entry F.slot_zip_next T F.entry_zip_next (a9h hh D hz hTI hTO h1 h2 t1 t2 hend fun h' c kp hc=>?_) (F.args_zip_next_1 _))))
 obtain ⟨o,eo,co⟩:=hc
 exact wpAny_bind (wpAny_isInstance (T:="StopIteration") (b:=true) ⟨o,eo,co⟩ isSubtype_stop (wpAny_pure (q _ kp)))
abbrev zp1 (b:Bool) (h:Heap) (l:Addr):Heap:=h.push {cls:=.type (itN b),data:=.fields #[.ref l,.int 0 0]}
abbrev zp3 (c1 c2:Bool) (h:Heap) (l m:Addr):Heap:=(zp1 c2 (zp1 c1 h l) m).push {cls:=.type "tuple",data:=.seq #[.ref h.objs.size,.ref (zp1 c1 h l).objs.size]}
abbrev zp4 (c1 c2:Bool) (h:Heap) (l m:Addr):Heap:=(zp3 c1 c2 h l m).push {cls:=.type "tuple",data:=.seq #[.none,.none]}
abbrev zp5 (c1 c2:Bool) (h:Heap) (l m:Addr):Heap:=(zp4 c1 c2 h l m).push {cls:=.type "zip",data:=.fields #[.none,.bool false,.bool false,.ref (zp1 c2 (zp1 c1 h l) m).objs.size,.ref (zp3 c1 c2 h l m).objs.size]}
theorem a75 (c1 c2:Bool)(l m:Addr)(xs ys:Array Value):Meets (Builtin.«zip.__new__» ⟨[.type "zip",.ref l,.ref m],[]⟩) (fun _ R s=>SSq c1 s.heap l xs/\SSq c2 s.heap m ys/\R (.ok (.ret (.ref (zp4 c1 c2 s.heap l m).objs.size))) {s with heap:=zp5 c1 c2 s.heap l m}):=
 .of_wp fun prog w A R s hh=>by
  obtain ⟨hp,g,d,tk,os⟩:=s
  obtain ⟨p1,p2,hr⟩:=hh
  have hsub:=sub_zip
  have q1:SSq c1 (Shared.heap ⟨hp,g,d,tk,os⟩) l xs:=p1
  have q2:SSq c2 (Shared.heap ⟨zp1 c1 hp l,g,d,tk,os⟩) m ys:=X7 p2 fun o e=>Heap.get?_push_of_some _ e
  wp_walk using iterS q1,iterS q2
  exact ⟨_,rfl,hr⟩
theorem a64 {Q:Value->Shared->Prop}(p1:SSq c1 s.heap l1 xs)(p2:SSq c2 s.heap l2 ys)
  (q:∀h',IsZip h' (s.heap.objs.size + 4) (s.heap.objs.size + 2) (s.heap.objs.size + 3) .none->IsPair h' (s.heap.objs.size + 2) (.ref s.heap.objs.size) (.ref (s.heap.objs.size + 1))->IsPair h' (s.heap.objs.size + 3) .none .none->
   SIt c1 h' s.heap.objs.size l1 0->SIt c2 h' (s.heap.objs.size + 1) l2 0->(∀c o,s.heap.get? c=some o->h'.get? c=some o)->Q (.ref (s.heap.objs.size + 4)) {s with heap:=h'}):
  wpAny (model prog w) A (call (.type "zip") [.ref l1,.ref l2]) Q E s:=by
 refine callType_new F.called_zip (by decide) (F.typeCall_zip_2 _ _) (F.newCall_zip_2 _ _) (fun obj=>F.args_object_init_3 obj _ _) F.entry_zip_new (a75 c1 c2 l1 l2 xs ys) ⟨p1,p2,?_⟩
 have n1:(zp1 c1 s.heap l1).objs.size=s.heap.objs.size + 1:=Heap.size_push ..
 have n2:(zp1 c2 (zp1 c1 s.heap l1) l2).objs.size=s.heap.objs.size + 2:=by rw [Heap.size_push,n1]
 have n3:(zp3 c1 c2 s.heap l1 l2).objs.size=s.heap.objs.size + 3:=by rw [Heap.size_push,n2]
 have n4:(zp4 c1 c2 s.heap l1 l2).objs.size=s.heap.objs.size + 4:=by rw [Heap.size_push,n3]
 have up:∀{h:Heap} {c:Addr} {o p:PySem.Obj},h.get? c=some o->(h.push p).get? c=some o:=fun e=>Heap.get?_push_of_some _ e
 have r5:(zp5 c1 c2 s.heap l1 l2).get? (zp4 c1 c2 s.heap l1 l2).objs.size=some _:=Heap.get?_push_size _ rfl
 have r4:(zp5 c1 c2 s.heap l1 l2).get? (zp3 c1 c2 s.heap l1 l2).objs.size=some _:=up (Heap.get?_push_size _ rfl)
 have r3:(zp5 c1 c2 s.heap l1 l2).get? (zp1 c2 (zp1 c1 s.heap l1) l2).objs.size=some _:=up (up (Heap.get?_push_size _ rfl))
 have r2:(zp5 c1 c2 s.heap l1 l2).get? (zp1 c1 s.heap l1).objs.size=some _:=up (up (up (Heap.get?_push_size _ rfl)))
 have r1:(zp5 c1 c2 s.heap l1 l2).get? s.heap.objs.size=some _:=up (up (up (up (Heap.get?_push_size _ rfl))))
 rw [n2,n3,n4] at r5
 rw [n1,n2] at r3
 rw [n3] at r4
 rw [n1] at r2
 show _/\_
 rw [n4]
 exact ⟨⟨_,r5,rfl⟩,q _ r5 r3 r4 (a52 r1) (a52 r2) fun c o e=>up (up (up (up (up e))))⟩
end
theorem a1R {xs:List V}{us:List Value}{i:Nat}(r:Vals xs us)(e:xs[i]? =none):us.toArray[i]? =none:=by
 have:=r.length
 rw [List.getElem?_eq_none_iff] at e
 rw [List.getElem?_toArray,List.getElem?_eq_none_iff]
 walk_at "o"
def ItzT (c1 c2:Bool) (K:PySem.W.Frag) (l1 l2:Addr):It:=
 ⟨fun i H=>∃xs ys x y,SqK c1 K H l1 xs/\SqK c2 K H l2 ys/\xs[i]? =some x/\ys[i]? =some y,
  fun i H v H'=>∃T x y,v= .ref T/\H T=none/\H'=upd H T (.tup [x,y])/\(∀xs,SqK c1 K H l1 xs->xs[i]? =some x)/\∀ys,SqK c2 K H l2 ys->ys[i]? =some y,
  fun i H=>∃xs ys,SqK c1 K H l1 xs/\SqK c2 K H l2 ys/\(xs[i]? =none\/ys[i]? =none)⟩
def zipTt (c1 c2:Bool) (z TI TO i1 i2 l1 l2:Addr) (i:Nat) (h:Heap):Prop:=IsZip h z TI TO .none/\IsPair h TI (.ref i1) (.ref i2)/\(∃a b,IsPair h TO a b)/\SIt c1 h i1 l1 i/\SIt c2 h i2 l2 i
theorem a6w {P:Program}{w:World}{K:PySem.W.Frag}{es:List Expr}{kt:Nat}{pt:Pos}{c1 c2:Bool}{z TI TO i1 i2 l1 l2:Addr}(D:ZipApart z TI TO i1 i2 l1 l2):
  Turn P w K (.Tuple es kt pt) (ItzT c1 c2 K l1 l2) [z,TI,TO,i1,i2] z (zipTt c1 c2 z TI TO i1 i2 l1 l2) where
 mem:=by simp
 obj:=fun i h st b hb=>by
  obtain ⟨hz,hTI,⟨a,b',hTO⟩,s1,s2⟩:=st
  obtain ⟨o1,e1,d1⟩:=P5 s1
  obtain ⟨o2,e2,d2⟩:=P5 s2
  simp only [List.mem_cons,List.not_mem_nil,or_false] at hb
  rcases hb with rfl | rfl | rfl | rfl | rfl
  ·exact ⟨_,hz,fun v z=>nomatch z⟩
  ·exact ⟨_,hTI,fun v z=>nomatch z⟩
  ·exact ⟨_,hTO,fun v z=>nomatch z⟩
  ·exact ⟨_,e1,d1⟩
  ·exact ⟨_,e2,d2⟩
 keep:=fun i h h' st k=>by
  obtain ⟨hz,hTI,⟨a,b',hTO⟩,h1,h2⟩:=st
  exact ⟨k z (by simp) _ hz,k TI (by simp) _ hTI,⟨a,b',k TO (by simp) _ hTO⟩,A6 h1 fun o e=>k i1 (by simp) o e,A6 h2 fun o e=>k i2 (by simp) o e⟩
 item:=by
  intro X hP hw hK hc i pins s σ H E I hf st hg
  subst hP hw hK
  obtain ⟨xs,ys,x,y,q1,q2,ex,ey⟩:=hg
  obtain ⟨its1,r1,p1⟩:=sqk I q1
  obtain ⟨its2,r2,p2⟩:=sqk I q2
  obtain ⟨u,hu,ru⟩:=r1.get ex
  obtain ⟨v,hv,rv⟩:=r2.get ey
  obtain ⟨hz,hTI,⟨a,b,hTO⟩,h1,h2⟩:=st
  have l1:∀{c o},s.heap.get? c=some o->c≠s.heap.objs.size:=fun e=>Nat.ne_of_lt (Heap.lt_size e)
  refine a4H D hz hTI hTO h1 h2 p1 p2 (x:=u) (y:=v) (by simpa using hu) (by simpa using hv) fun h' a1 a2 a3 a4 a5 a6 hk=>⟨_,rfl,?_⟩
  refine wpAny_letOwnedTupleGo_zip a1 fun h2' b1 b2=>?_
  have ez:z < s.heap.objs.size:=Heap.lt_size hz
  have nT:s.heap.objs.size≠z:=Nat.ne_of_gt ez
  have kp:∀c o,c∉[z,TI,TO,i1,i2]->s.heap.get? c=some o->h2'.get? c=some o:=fun c o hc e=>by
   simp only [List.mem_cons,List.not_mem_nil,or_false,not_or] at hc
   exact (b2.2 c hc.1).trans (hk c o hc.1 hc.2.2.1 hc.2.2.2.1 hc.2.2.2.2 e)
  have fr:H s.heap.objs.size=none:=I.hok.fresh (Nat.le_refl _)
  have tr:∀c w,H c=some w->c∉[z,TI,TO,i1,i2]:=fun c w e hc=>by rw [(hf c hc).1] at e;cases e
  have st':zipTt c1 c2 z TI TO i1 i2 _ _ (i + 1) h2':=⟨b1,(b2.2 _ D.TIz).trans (hk _ _ D.TIz D.TITO D.TIi1 D.TIi2 hTI),⟨_,_,(b2.2 _ D.TOz).trans a2⟩,A6 a3 fun o e=>(b2.2 _ D.i1z).trans e,A6 a4 fun o e=>(b2.2 _ D.i2z).trans e⟩
  have five:∀c∈[z,TI,TO,i1,i2],∃o,h2'.get? c=some o:=fun c hc=>by
   obtain ⟨q1,q2,⟨_,_,q3⟩,s4,s5⟩:=st'
   obtain ⟨_,q4,_⟩:=P5 s4
   obtain ⟨_,q5,_⟩:=P5 s5
   simp only [List.mem_cons,List.not_mem_nil,or_false] at hc
   rcases hc with rfl | rfl | rfl | rfl | rfl
   ·exact ⟨_,q1⟩
   ·exact ⟨_,q2⟩
   ·exact ⟨_,q3⟩
   ·exact ⟨_,q4⟩
   ·exact ⟨_,q5⟩
  have hb5:h2'.get? s.heap.objs.size=some {cls:=.type "tuple",data:=.seq #[u,v]}:=(b2.2 _ nT).trans a5
  have un:Un (frs X.stack) [z,TI,TO,i1,i2] H (upd H s.heap.objs.size (.tup [x,y])) s.heap h2':=⟨fun c o e n hfs hx=>kp c o hx e,fun c o e n hfs hx=>⟨o.slots,kp c o hx e⟩,fun c o e n hx=>by rw [c8 (l1 e)];exact n,fun c o e hx=>⟨o,kp c o hx e⟩,
   fun c ws e=>by rw [c8 (m4 e fr)];exact e,fun c o w e=>by rw [c8 (m4 e fr)];exact e,fun c ps e=>⟨#[],by rw [c8 (m4 e fr),e];simp⟩⟩
  have hok:HOk X.prog X.w (upd H s.heap.objs.size (.tup [x,y])) h2':=fun c w e=>by
   by_cases hc:c=s.heap.objs.size
   ·subst hc
    rw [j9] at e;cases e
    exact ⟨by show 2<=sizeLine;rw [sizeLine_eq];decide,[u,v],.cons ru (.cons rv .nil),⟨_,hb5,rfl,⟨_,rfl⟩,rfl⟩⟩
   ·rw [c8 hc] at e
    refine (I.hok c w e).stay (fun c' o hc' e'=>kp c' o (by
     rcases hc' with rfl | hc'
     ·exact tr _ _ e
     ·exact tr _ _ hc') e') (fun c' q=>by rw [c8 (m4 q fr)];exact q) fun c' ws q=>by rw [c8 (m4 q fr)];exact q
  have I1:Inv X pins σ (upd H s.heap.objs.size (.tup [x,y])) {s with heap:=h2'}:=I.call' (s':={s with heap:=h2'}) (ch:=[z,TI,TO,i1,i2]) rfl un hok I.bare fun c hc=>⟨(hf c hc).2.2.2.1,(hf c hc).2.1,(hf c hc).2.2.2.2.1,(hf c hc).2.2.2.2.2⟩
  exact ⟨.ref s.heap.objs.size,_,I1,rfl,⟨_,x,y,rfl,fr,rfl,fun ws hw=>by rw [a6f I hw q1];exact ex,fun ws hw=>by rw [a6f I hw q2];exact ey⟩,st',fun c hc=>by
   obtain ⟨o,e⟩:=five c hc
   have:c≠s.heap.objs.size:=fun z=>by
    subst z
    have:=(hf _ hc)
    obtain ⟨q1,q2,⟨_,_,q3⟩,s4,s5⟩:=(⟨hz,hTI,⟨a,b,hTO⟩,h1,h2⟩:zipTt c1 c2 z TI TO i1 i2 _ _ i s.heap)
    obtain ⟨_,q4,_⟩:=P5 s4
    obtain ⟨_,q5,_⟩:=P5 s5
    simp only [List.mem_cons,List.not_mem_nil,or_false] at hc
    rcases hc with rfl | rfl | rfl | rfl | rfl
    ·exact l1 q1 rfl
    ·exact l1 q2 rfl
    ·exact l1 q3 rfl
    ·exact l1 q4 rfl
    ·exact l1 q5 rfl
   rw [c8 this];exact (hf c hc).1⟩
 done:=by
  intro X hP hw hK hc i pins s σ H E I hf st hg
  subst hP hw hK
  obtain ⟨xs,ys,q1,q2,hend⟩:=hg
  obtain ⟨its1,r1,p1⟩:=sqk I q1
  obtain ⟨its2,r2,p2⟩:=sqk I q2
  obtain ⟨hz,hTI,⟨a,b,hTO⟩,h1,h2⟩:=st
  refine a6F (I.ok.hd hc) D hz hTI hTO h1 h2 p1 p2 (hend.imp (a1R r1) (a1R r2)) fun h' hk=>⟨rfl,?_⟩
  have kp:∀c o,c∉[z,TO,i1,i2]->s.heap.get? c=some o->h'.get? c=some o:=fun c o hc e=>by
   simp only [List.mem_cons,List.not_mem_nil,or_false,not_or] at hc
   exact hk c o hc.1 hc.2.1 hc.2.2.1 hc.2.2.2 e
  have sub:∀c∈[z,TO,i1,i2],c∈[z,TI,TO,i1,i2]:=fun c hc=>by simp at hc ⊢;rcases hc with h | h | h | h <;> simp [h]
  have un:Un (frs X.stack) [z,TO,i1,i2] H H s.heap h':=⟨fun c o e n hfs hx=>kp c o hx e,fun c o e n hfs hx=>⟨o.slots,kp c o hx e⟩,fun c o e n hx=>n,fun c o e hx=>⟨o,kp c o hx e⟩,fun c ws e=>e,fun c o w e=>e,fun c ps e=>⟨#[],by rw [e];simp⟩⟩
  have tr:∀c w,H c=some w->c∉[z,TO,i1,i2]:=fun c w e hc=>by rw [(hf c (sub c hc)).1] at e;cases e
  have hok:HOk X.prog X.w H h':=fun c w e=>(I.hok c w e).stay (fun c' o hc' e'=>kp c' o (by
   rcases hc' with rfl | hc'
   ·exact tr _ _ e
   ·exact tr _ _ hc') e') (fun _ q=>q) fun _ _ q=>q
  exact I.call' (s':={s with heap:=h'}) (ch:=[z,TO,i1,i2]) rfl un hok I.bare fun c hc=>⟨(hf c (sub c hc)).2.2.2.1,(hf c (sub c hc)).2.1,(hf c (sub c hc)).2.2.2.2.1,(hf c (sub c hc)).2.2.2.2.2⟩
 self:=fun _ _ _ _ _ st h=>wpAny_pyIter_zip st.1 h
section
variable {prog:Program}{w:World}{A:Around}{E:Value->Shared->Prop}{s:Shared}{k:Bool}
end
def kd:D->Bool
 | .lst _=>true
 | _=>false
theorem a2x {K:PySem.W.Frag}{A:Av}{H:Hp}{d:D}{v:V}{xs:List D}(e:items d=some xs)(h:Den K A H d v):∃a vs,v= .ref a/\SqK (kd d) K H a vs/\DenL K A H xs vs:=by
 cases d with
 | tup zs=>cases e;rw [Den] at h;exact h
 | lst zs=>cases e;obtain ⟨a,vs,e,hq,l⟩:=E8 h;exact ⟨a,vs,e,hq,l⟩
 | _=>cases e
section
variable {X:Cx}{a b:Expr}{p pos:Pos}{fa:FA}{es:List Expr}{kt:Nat}{pt:Pos}
def iZip (K:PySem.W.Frag) (ta:TA):TI:=fun σ H R=>ta σ H fun vs H1=>∃c1 c2 l1 l2,vs=[.ref l1,.ref l2]/\(∃xs,SqK c1 K H1 l1 xs)/\(∃ys,SqK c2 K H1 l2 ys)/\R (ItzT c1 c2 K l1 l2) H1
theorem b2c {ta:TA}(hg:Gl X "zip")(hm:X.mg "zip"=none)(ha:PA X [a,b] ta)(hs:starEach [a,b] X.env=(false,eval a X.env) :: starEach [b] X.env:=by rfl)(hpl:(backTo pos (starEach [b] X.env)).any (·.1)=false:=by rfl)(hbt:bootBuiltins "zip"=some (.type "zip"):=by rfl):
  PI X (.Tuple es kt pt) (.Call (.Name "zip" p) [a,b] [] pos) (iZip X.K ta):=by
 intro pins s σ H R I h
 refine Call_ (N0 I hg hm hbt (PyProof.Rows.callWith_type1 (thn (ha pos pins s σ H _ I h) fun us s1 ⟨vs,H1,I1,r1,q1⟩=>?_) hs hpl) (by decide) (by decide))
 obtain ⟨c1,c2,l1,l2,rfl,⟨xs,h1⟩,⟨ys,h2⟩,q⟩:=q1
 obtain ⟨u1,u2,rfl,ru1,ru2⟩:=vals2 r1
 cases ru1
 cases ru2
 obtain ⟨its1,_,p1⟩:=sqk I1 h1
 obtain ⟨its2,_,p2⟩:=sqk I1 h2
 refine a64 p1 p2 fun h' d1 d2 d3 d4 d5 d7=>?_
 refine wpAny_pyIter_zip d1 ?_
 refine ⟨_,[s1.heap.objs.size + 4,s1.heap.objs.size + 2,s1.heap.objs.size + 3,s1.heap.objs.size,s1.heap.objs.size + 1],_,_,H1,rfl,I1.kept (t':=s1.toks) fun c o e0=>d7 c o e0,a6w (zipApart_new (a81 p1) (a81 p2)),⟨d1,d2,⟨_,_,d3⟩,d4,d5⟩,fun c hc=>?_,q⟩
 have le:s1.heap.objs.size<=c:=by simp only [List.mem_cons,List.not_mem_nil,or_false] at hc;rcases hc with h | h | h | h | h <;> (rw [h];first | exact Nat.le_add_right _ _ | exact Nat.le_refl _)
 exact I1.fpOk le (I1.hok.fresh le)
def zipD (xs ys:List D):List D:=List.zipWith (fun x y=>.tup [x,y]) xs ys
def enumD (xs:List D):List D:=xs.mapIdx fun (i:Nat) x=>.tup [.int i,x]
def fiZip (fa:FA):FI:=fun ρ=>(fa ρ).bind fun p=>(takeAll p.2 p.1).bind fun q=>match q.1 with
 | [x,y]=>(items x).bind fun xs=>(items y).map fun ys=>(zipD xs ys,q.2)
 | _=>none
def fiEnum (fa:FA):FI:=fun ρ=>(fa ρ).bind fun p=>(takeAll p.2 p.1).bind fun q=>match q.1 with
 | [x]=>(items x).map fun xs=>(enumD xs,q.2)
 | _=>none
theorem b2o (hm:X.mg "zip"=none)(ha:QA X [a,b] fa)(hg:Gl X "zip":=by rfl)(hs:starEach [a,b] X.env=(false,eval a X.env) :: starEach [b] X.env:=by rfl)(hpl:(backTo pos (starEach [b] X.env)).any (·.1)=false:=by rfl)(hbt:bootBuiltins "zip"=some (.type "zip"):=by rfl):
  QI X (.Tuple es kt pt) (.Call (.Name "zip" p) [a,b] [] pos) (fiZip fa):=⟨PI.weak (b2c hg hm ha.to hs hpl hbt) fun σ H R h0=>tIe h0 fun P O L ρ xs ρ' r e q=>by
 unfold fiZip at e
 obtain ⟨⟨ws,ρ1⟩,e1,e⟩:=obs e
 dsimp only at e
 obtain ⟨⟨ds,ρ2⟩,e2,e⟩:=obs e
 dsimp only at e
 split at e
 ·rename_i x y
  cases e3:items x with
  | none=>rw [e3] at e;cases e
  | some xs'=>
   cases e4:items y with
   | none=>rw [e3,e4] at e;cases e
   | some ys'=>
    rw [e3,e4] at e;cases e
    refine ⟨P,O,L,ρ,ws,ρ1,r,e1,fun vs H1 r1 l1=>?_⟩
    obtain ⟨r2,l2,_⟩:=k8 r1 e2 l1
    obtain ⟨v,u,rfl,hv,hu⟩:=denL2 l2
    obtain ⟨a1,vs1,rfl,s1,m1⟩:=a2x e3 hv
    obtain ⟨a2,vs2,rfl,s2,m2⟩:=a2x e4 hu
    have r3:=(r2.more (p:=(y,.ref a2)) hu).more (p:=(x,.ref a1)) hv
    refine ⟨kd x,kd y,a1,a2,rfl,⟨vs1,s1⟩,⟨vs2,s2⟩,q _ H1 _ r3 (fun p hp=>List.mem_cons_of_mem _ (List.mem_cons_of_mem _ hp)) fun Y O' L' ρ' σ' Hh hY rr=>?_⟩
    have z1:=rr.prot _ List.mem_cons_self
    have z2:=rr.prot _ (List.mem_cons_of_mem _ List.mem_cons_self)
    rw [hY] at z1 z2
    obtain ⟨b1,ws1,ev1,q1,n1⟩:=a2x e3 z1
    obtain ⟨b2,ws2,ev2,q2,n2⟩:=a2x e4 z2
    cases ev1;cases ev2
    refine ⟨fun i z ez=>?_,ws1,ws2,q1,q2,?_⟩
    ·unfold zipD at ez
     rw [List.getElem?_zipWith] at ez
     cases g1:xs'[i]? with
     | none=>rw [g1] at ez;cases ez
     | some x0=>
      cases g2:ys'[i]? with
      | none=>rw [g1,g2] at ez;cases ez
      | some y0=>
       rw [g1,g2] at ez
       cases ez
       obtain ⟨v1,k1,t1⟩:=v4 n1 g1
       obtain ⟨v2,k2,t2⟩:=v4 n2 g2
       refine ⟨⟨ws1,ws2,v1,v2,q1,q2,k1,k2⟩,fun w H' ⟨T,x1,y1,ew,hT,eH,f1,f2⟩=>?_⟩
       subst ew eH
       have g3:=f1 ws1 q1
       have g4:=f2 ws2 q2
       rw [k1] at g3;cases g3
       rw [k2] at g4;cases g4
       have sm:=j3 hT (.tup [v1,v2])
       refine ⟨sm,?_⟩
       rw [Den]
       exact ⟨T,[v1,v2],rfl,.inl (.inl j9),g8 (T9 sm t1) (g8 (T9 sm t2) j4)⟩
    ·have k1:=c5 n1
     have k2:=c5 n2
     unfold zipD
     rw [List.length_zipWith,List.getElem?_eq_none_iff,List.getElem?_eq_none_iff]
     walk_at "o"
 ·cases e⟩
end
section
variable {X:Cx}{a b c e e' o:Expr}{es rest:List Expr}{pos p p2 p3 apos:Pos}{f g h:FX}{t u:FT}{fa:FA}{x:Str}
theorem a2z:CallR X (.builtin "divmod") (fun xs H Q=>∃i j:Int,xs=[.int i,.int j]/\dOk j/\∀l,H l=none->Q (.ref l) (upd H l (.tup [.int (i / j),.int (i % j)]))):=by
 intro pins s σ H xs us Q I r h
 obtain ⟨i,j,rfl,hj,q⟩:=h
 obtain ⟨u,u',rfl,r1,r2⟩:=vals2 r
 obtain ⟨t,rfl⟩:=r1
 obtain ⟨t',rfl⟩:=r2
 have e1:i.fdiv j=i / j:=Int.fdiv_eq_ediv_of_nonneg i (Int.le_of_lt hj.1)
 have e2:i.fmod j=i % j:=Int.fmod_eq_emod_of_nonneg i (Int.le_of_lt hj.1)
 refine divmod_int (Int.ne_of_gt hj.1) ?_ (.inl (PyProof.noPylong_of_log2 ?_))
 ·rw [e1,e2]
  have I2:Inv X pins σ (upd H s.heap.objs.size (.tup [.int (i / j),.int (i % j)])) {s with heap:=s.heap.push {cls:=.type "tuple",data:=.seq #[.int (i / j) s.toks,.int (i % j) (s.toks + 1)]},toks:=s.toks + 1 + 1}:=
   I.laid (fun b o e=>Heap.get?_push_of_some _ e) (Nat.le_refl _) (show ObjOk X.prog X.w _ _ _ (.tup [.int (i / j),.int (i % j)]) from ⟨by rw [sizeLine_eq];show 2<=16777216;decide,[.int (i / j) s.toks,.int (i % j) (s.toks + 1)],.cons ⟨_,rfl⟩ (.cons ⟨_,rfl⟩ .nil),TupN.new _ _⟩)
  exact ⟨.ref s.heap.objs.size,_,I2,rfl,q _ (I.hok.fresh (Nat.le_refl _))⟩
 ·by_cases z:j.natAbs=0
  ·rw [z];decide
  ·exact Nat.lt_of_lt_of_le ((Nat.log2_lt z).mpr (show j.natAbs < 2 ^ 8000 from hj.2)) (by decide)
def gDivmod:List D->Option W
 | [.int i,.int j]=>if dOk j then some (.v (.tup [.int (i / j),.int (i % j)])) else none
 | _=>none
theorem a6p:PrA X gDivmod (fun xs H Q=>∃i j:Int,xs=[.int i,.int j]/\dOk j/\∀l,H l=none->Q (.ref l) (upd H l (.tup [.int (i / j),.int (i % j)]))):=fun A ds w vs H Q _ e l q=>by
 unfold gDivmod at e
 split at e
 ·rename_i i j
  split at e
  ·rename_i hj
   cases e
   obtain ⟨v,v',rfl,h1,h2⟩:=denRL2 l
   exact ⟨i,j,by rw [g7 h1,g7 h2],hj,fun l hl=>q _ _ (j3 hl _) (K8 hl (z8 [i / j,i % j]))⟩
  ·cases e
 ·cases e
theorem l6 (hm:X.mg "divmod"=none)(ha:QA X (e :: es) fa)(hv:bootBuiltins "divmod"=some (.builtin "divmod"):=by rfl)(hg:Gl X "divmod":=by rfl)
  (he:starEach (e :: es) X.env=(false,eval e X.env) :: starEach es X.env:=by rfl) (hpl:(backTo pos (starEach es X.env)).any (·.1)=false:=by rfl):QX X (.Call (.Name "divmod" p) (e :: es) [] pos) (fCall gDivmod fa):=a0N a2z a6p hv hm ha hg (by decide) (by decide) he hpl
theorem a4B {acc:Array Value}{n:Nat}(h:ItemsOf (fun i v=>∃t,v= .int (0 + (i:Int) * 1) t) acc n):Vals (((List.range n).map fun (i:Nat)=>(i:Int)).map V.int) acc.toList:=by
 have key:∀(l:List Value) (k:Nat),(∀i v,l[i]? =some v->∃t,v=Value.int ((k + i:Nat):Int) t)->Vals (((List.range' k l.length).map fun i=>((i:Nat):Int)).map V.int) l:=by
  intro l
  induction l with
  | nil=>intro k _;exact .nil
  | cons v l ih=>
   intro k hv
   rw [List.length_cons,List.range'_succ,List.map_cons,List.map_cons]
   refine .cons ?_ (ih (k + 1) fun i u e=>?_)
   ·obtain ⟨t,e⟩:=hv 0 v rfl
    exact ⟨t,e⟩
   ·obtain ⟨t,e'⟩:=hv (i + 1) u (by simpa using e)
    exact ⟨t,by rw [e'];congr 2;walk_at "o"⟩
 have z:=key acc.toList 0 fun i v e=>by
  obtain ⟨t,ev⟩:=h.2 i v (by rw [<-Array.getElem?_toList];exact e)
  exact ⟨t,by rw [ev];congr 1;walk_at "o"⟩
 rw [List.range_eq_range']
 rw [Array.length_toList,h.1] at z
 exact z
def fListR (fa:FA):FX:=fun ρ=>(fa ρ).bind fun p=>match p.1 with
 | [.v (.int n)]=>if 0<=n/\n<=1000 then some (.o (.lst (rngD 0 n.toNat)),p.2) else none
 | _=>none
theorem a6u (n:Nat):rngD 0 n=((List.range n).map fun (i:Nat)=>(i:Int)).map D.int:=by
 unfold rngD;rw [List.map_map];apply List.map_congr_left;intro i _;simp
theorem a7n (hc:X.calm=true)(hmL:X.mg "list"=none)(hmR:X.mg "range"=none)(ha:QA X [a] fa)(hbL:bootBuiltins "list"=some (.type "list"):=by rfl)(hgL:Gl X "list":=by rfl)(hgR:Gl X "range":=by rfl)
  (h1:starEach [.Call (.Name "range" p2) [a] [] p3] X.env=[(false,eval (.Call (.Name "range" p2) [a] [] p3) X.env)]:=by rfl) (h2:starEach [a] X.env=[(false,eval a X.env)]:=by rfl):
  QX X (.Call (.Name "list" p) [.Call (.Name "range" p2) [a] [] p3] [] pos) (fListR fa):=⟨fun pins s σ H Q I h0=>tXe h0 fun P O L ρ w ρ' rp e q=>by
 unfold fListR at e
 obtain ⟨⟨ws,ρ1⟩,e1,e⟩:=obs e
 dsimp only at e
 split at e
 ·rename_i n
  split at e
  ·rename_i hn
   cases e
   refine wpAny_Call_Name_kw (N0 I hgL hmL hbL ?_ (by decide) (by decide))
   refine PyProof.Rows.callWith_type1 ?_ h1 rfl
   rw [h1]
   refine Calls.spliced_cons ?_
   refine wpAny_Call_Name_kw (N0 I hgR hmR boot_range ?_ (by decide) (by decide))
   refine PyProof.Rows.callWith_type1 (wpAny_mono (ha.to p3 pins s σ H (fun vs H1=>Rep X P O L ρ' σ H1/\vs=[.int n]) I ⟨P,O,L,ρ,_,_,rp,e1,fun vs H1 r1 l1=>⟨r1,?_⟩⟩) (fun us s1 ⟨vs,H1,I1,r1,rp1,l1⟩=>?_) fun _ _ z=>z) h2 rfl
   ·obtain ⟨v,rs,rfl,h1,l1⟩:=l1
    have l1:rs=[]:=l1
    have h1:Den X.K (AvO O ρ' σ) H1 (.int n) v:=h1
    subst l1
    rw [v3.mp h1]
   subst l1
   obtain ⟨u,rfl,t,rfl⟩:=vals1 r1
   refine call_range_1 (Calls.spliced_nil ?_)
   have I2:Inv X pins σ H1 {s1 with heap:=s1.heap.push {cls:=.type "range",data:=.fields #[.int 0 s1.toks,.int n t,.int 1 (s1.toks + 1)]},toks:=s1.toks + 1 + 1}:=I1.kept fun b o e=>Heap.get?_push_of_some _ e
   refine call_list_range (n:=n.toNat) (I.ok.hd hc) (IsRange.new ..) (small_one (by walk_at "o") (by walk_at "o") (by walk_at "o") (by walk_at "o")) (by rw [rangeSize_one];split <;> walk_at "o") (by walk_at "o") fun h' tk acc ep kp hl it=>?_
   have hv:=a4B it
   refine ⟨.ref _,_,I2.laid (t':=tk) (o:=.lst (((List.range n.toNat).map fun (i:Nat)=>(i:Int)).map V.int)) kp (Nat.le_refl _) ?_,rfl,q _ H1 _ rp1 (j3 (I2.hok.fresh (Nat.le_refl _)) _) (by rw [a6u];exact D9 (I2.hok.fresh (Nat.le_refl _)) (z8 _))⟩
   refine ⟨?_,acc.toList,ep,hv,by rw [Array.toArray_toList];exact hl⟩
   rw [List.length_map,List.length_map,List.length_range,sizeLine_eq];walk_at "o"
  ·cases e
 ·cases e⟩
def fCnt (f:FX) (fa:FA):FX:=fun ρ=>(f ρ).bind fun p=>(dr p.2 p.1.fz).bind fun d=>match d with
 | .tup _=>(fa p.2).bind fun q=>(dr q.2 p.1.fz).bind fun y=>match y,q.1 with
  | .tup xs,[.v (.int i)]=>(intsOf xs).map fun ns=>(.v (.int (ns.count i:Nat)),q.2)
  | _,_=>none
 | _=>none
def fDNew:FX:=fun ρ=>some (.o (.dK [] []),ρ)
def fDNewT:FX:=fun ρ=>some (.o (.dT [] []),ρ)
theorem a8R:QX X (.Dict [] [] pos) fDNewT:=⟨PE.weak a8i fun σ H Q h0=>tXe h0 fun P O L ρ w ρ' r e q=>by
 cases e
 exact fun p hp=>q _ H _ r (j3 hp _) ⟨p,rfl,hp,[],j9,rfl,j4⟩⟩
end
section
variable {f g:FX}{t u:FT}{fa:FA}{F G:FS}{ρ ρ1 ρ2:Ev}{w z:W}{ws:List W}{d e x y:D}{ds xs ys:List D}{i j k:Nat}{m n:Int}{b:Bool}
theorem it_t:items (.tup xs)=some xs:=rfl
theorem it_l:items (.lst xs)=some xs:=rfl
def iz2:Option (List W×Ev)->Option (List D×Ev)
 | some p=>(takeAll p.2 p.1).bind fun q=>match q.1 with
  | [x,y]=>(items x).bind fun xs=>(items y).map fun ys=>(zipD xs ys,q.2)
  | _=>none
 | none=>none
def iz3:Option (List D×Ev)->Option (List D×Ev)
 | some q=>match q.1 with
  | [x,y]=>(items x).bind fun xs=>(items y).map fun ys=>(zipD xs ys,q.2)
  | _=>none
 | none=>none
def iz4 (ρ:Ev):Option (List D)->Option (List D)->Option (List D×Ev)
 | some xs,some ys=>some (zipD xs ys,ρ)
 | _,_=>none
theorem r_iz:fiZip fa ρ=iz2 (fa ρ):=by unfold fiZip iz2;cases fa ρ <;> rfl
theorem b1f:iz2 (some (ws,ρ))=iz3 (takeAll ρ ws):=by unfold iz2 iz3;dsimp only;cases takeAll ρ ws <;> rfl
theorem b1z:iz3 (some ([x,y],ρ))=iz4 ρ (items x) (items y):=by unfold iz3 iz4;dsimp only;cases items x <;> cases items y <;> rfl
theorem b05:iz4 ρ (some xs) (some ys)=some (zipD xs ys,ρ):=rfl
def ie2:Option (List W×Ev)->Option (List D×Ev)
 | some p=>(takeAll p.2 p.1).bind fun q=>match q.1 with
  | [x]=>(items x).map fun xs=>(enumD xs,q.2)
  | _=>none
 | none=>none
def ie3:Option (List D×Ev)->Option (List D×Ev)
 | some q=>match q.1 with
  | [x]=>(items x).map fun xs=>(enumD xs,q.2)
  | _=>none
 | none=>none
theorem r_ie:fiEnum fa ρ=ie2 (fa ρ):=by unfold fiEnum ie2;cases fa ρ <;> rfl
theorem r_ie2:ie2 (some (ws,ρ))=ie3 (takeAll ρ ws):=by unfold ie2 ie3;dsimp only;cases takeAll ρ ws <;> rfl
theorem r_ie3_t:ie3 (some ([.tup xs],ρ))=some (enumD xs,ρ):=rfl
theorem r_ie3_l:ie3 (some ([.lst xs],ρ))=some (enumD xs,ρ):=rfl
def jr1:Option (List W×Ev)->Option (List D×Ev)
 | some p=>match p.1 with
  | [.v (.int n)]=>if -(2 ^ 62)<=n/\n < 2 ^ 62 then some (rngD 0 n.toNat,p.2) else none
  | _=>none
 | none=>none
def jr2:Option (List W×Ev)->Option (List D×Ev)
 | some p=>match p.1 with
  | [.v (.int m),.v (.int n)]=>if (-(2 ^ 62)<=m/\m < 2 ^ 62)/\-(2 ^ 62)<=n/\n < 2 ^ 62 then some (rngD m (n - m).toNat,p.2) else none
  | _=>none
 | none=>none
def lr2:Option (List W×Ev)->Option (W×Ev)
 | some p=>match p.1 with
  | [.v (.int n)]=>if 0<=n/\n<=1000 then some (.o (.lst (rngD 0 n.toNat)),p.2) else none
  | _=>none
 | none=>none
theorem r_r1:fiR1 fa ρ=jr1 (fa ρ):=by unfold fiR1 jr1;cases fa ρ <;> rfl
theorem b04:jr1 (some ([.v (.int n)],ρ))=if -(2 ^ 62)<=n/\n < 2 ^ 62 then some (rngD 0 n.toNat,ρ) else none:=rfl
theorem r_r2:fiR2 fa ρ=jr2 (fa ρ):=by unfold fiR2 jr2;cases fa ρ <;> rfl
theorem b1E:jr2 (some ([.v (.int m),.v (.int n)],ρ))=if (-(2 ^ 62)<=m/\m < 2 ^ 62)/\-(2 ^ 62)<=n/\n < 2 ^ 62 then some (rngD m (n - m).toNat,ρ) else none:=rfl
theorem r_lr:fListR fa ρ=lr2 (fa ρ):=by unfold fListR lr2;cases fa ρ <;> rfl
theorem b1n:lr2 (some ([.v (.int n)],ρ))=if 0<=n/\n<=1000 then some (.o (.lst (rngD 0 n.toNat)),ρ) else none:=rfl
theorem r_dm (h:dOk n):gDivmod [.int m,.int n]=some (.v (.tup [.int (m / n),.int (m % n)])):=by unfold gDivmod;exact if_pos h
def cn2 (fa:FA):Option (W×Ev)->Option (W×Ev)
 | some p=>(dr p.2 p.1.fz).bind fun d=>match d with
  | .tup _=>(fa p.2).bind fun q=>(dr q.2 p.1.fz).bind fun y=>match y,q.1 with
   | .tup xs,[.v (.int i)]=>(intsOf xs).map fun ns=>(.v (.int (ns.count i:Nat)),q.2)
   | _,_=>none
  | _=>none
 | none=>none
def cn3 (fa:FA) (w:W) (ρ:Ev):Option D->Option (W×Ev)
 | some (.tup _)=>(fa ρ).bind fun q=>(dr q.2 w.fz).bind fun y=>match y,q.1 with
   | .tup xs,[.v (.int i)]=>(intsOf xs).map fun ns=>(.v (.int (ns.count i:Nat)),q.2)
   | _,_=>none
 | _=>none
def cn4 (w:W):Option (List W×Ev)->Option (W×Ev)
 | some q=>(dr q.2 w.fz).bind fun y=>match y,q.1 with
   | .tup xs,[.v (.int i)]=>(intsOf xs).map fun ns=>(.v (.int (ns.count i:Nat)),q.2)
   | _,_=>none
 | _=>none
def cn5 (ws:List W) (ρ:Ev):Option D->Option (W×Ev)
 | some y=>match y,ws with
   | .tup xs,[.v (.int i)]=>(intsOf xs).map fun ns=>(.v (.int (ns.count i:Nat)),ρ)
   | _,_=>none
 | _=>none
theorem r_cn:fCnt f fa ρ=cn2 fa (f ρ):=by unfold fCnt cn2;cases f ρ <;> rfl
theorem r_cn2:cn2 fa (some (w,ρ))=cn3 fa w ρ (dr ρ w.fz):=by
 unfold cn2 cn3
 dsimp only
 cases dr ρ w.fz with
 | none=>rfl
 | some d=>cases d <;> rfl
theorem r_cn3:cn3 fa w ρ (some (.tup xs))=cn4 w (fa ρ):=by unfold cn3 cn4;cases fa ρ <;> rfl
theorem r_cn4:cn4 w (some (ws,ρ))=cn5 ws ρ (dr ρ w.fz):=by unfold cn4 cn5;dsimp only;cases dr ρ w.fz <;> rfl
theorem r_dnew:fDNew ρ=some (.o (.dK [] []),ρ):=rfl
def ch2 (o o':D->D->Option W) (g h:FX):Option (W×Ev)->Option (W×Ev)
 | some p=>fChain o o' (fun _=>some p) g h p.2
 | none=>none
def ch3 (o o':D->D->Option W) (w:W) (h:FX):Option (W×Ev)->Option (W×Ev)
 | some q=>(dr q.2 w.fz).bind fun x=>(dr q.2 q.1.fz).bind fun y=>(o x y).bind fun d=>match d with
  | .v (.bl k)=>if k=true then (h q.2).bind fun z=>(dr z.2 q.1.fz).bind fun y=>(dr z.2 z.1.fz).bind fun z'=>(o' y z').map fun w=>(w,z.2) else some (.v (.bl false),q.2)
  | _=>none
 | none=>none
def ch4 (o o':D->D->Option W) (h:FX) (w:W) (ρ:Ev):Option D->Option D->Option (W×Ev)
 | some x,some y=>(o x y).bind fun d=>match d with
  | .v (.bl k)=>if k=true then (h ρ).bind fun z=>(dr z.2 w.fz).bind fun y=>(dr z.2 z.1.fz).bind fun z'=>(o' y z').map fun w=>(w,z.2) else some (.v (.bl false),ρ)
  | _=>none
 | _,_=>none
def ch5 (o':D->D->Option W) (h:FX) (w:W) (ρ:Ev):Option W->Option (W×Ev)
 | some (.v (.bl k))=>if k=true then bin3 o' w (h ρ) else some (.v (.bl false),ρ)
 | _=>none
theorem r_ch {o o':D->D->Option W}{h:FX}:fChain o o' f g h ρ=ch2 o o' g h (f ρ):=by unfold ch2;cases e:f ρ with
 | none=>unfold fChain;rw [e];rfl
 | some p=>unfold fChain;rw [e]
theorem r_ch2 {o o':D->D->Option W}{h:FX}:ch2 o o' g h (some (w,ρ))=ch3 o o' w h (g ρ):=by unfold ch2 ch3 fChain;dsimp only [Option.bind_some];cases g ρ <;> rfl
theorem r_ch3 {o o':D->D->Option W}{h:FX}:ch3 o o' w h (some (z,ρ))=ch4 o o' h z ρ (dr ρ w.fz) (dr ρ z.fz):=by
 unfold ch3 ch4;dsimp only;cases dr ρ w.fz <;> cases dr ρ z.fz <;> rfl
theorem r_ch4 {o o':D->D->Option W}{h:FX}:ch4 o o' h w ρ (some x) (some y)=ch5 o' h w ρ (o x y):=by
 unfold ch4 ch5 bin3
 dsimp only
 cases o x y with
 | none=>rfl
 | some d=>
  dsimp only [Option.bind_some]
  cases d with
  | v d=>cases d with
   | bl k=>cases h ρ <;> rfl
   | _=>rfl
  | _=>rfl
theorem r_ch5_t {o':D->D->Option W}{h:FX}:ch5 o' h w ρ (some (.v (.bl true)))=bin3 o' w (h ρ):=rfl
theorem r_ch5_f {o':D->D->Option W}{h:FX}:ch5 o' h w ρ (some (.v (.bl false)))=some (.v (.bl false),ρ):=rfl
def tc2 (k:Nat) (t:FT) (fe:FX):Option Ev->Option Ev
 | some ρ1=>(t ρ1).bind fun p=>if p.1=true then (fe p.2).bind (appTo k) else some p.2
 | none=>none
def tc3 (k:Nat) (fe:FX):Option (Bool×Ev)->Option Ev
 | some p=>if p.1=true then (fe p.2).bind (appTo k) else some p.2
 | none=>none
def tc4 (k:Nat):Option (W×Ev)->Option Ev
 | some p=>appTo k p
 | none=>none
def ap2 (k:Nat):Option (List D×Ev)->Option Ev
 | some q=>match q.1,ownAt q.2 k with
  | [d],some (.lst zs)=>if zs.length < lim then some (setOwn q.2 k (.lst (zs ++ [d]))) else none
  | _,_=>none
 | none=>none
def ap3 (k:Nat) (d:D) (ρ:Ev):Option D->Option Ev
 | some (.lst zs)=>if zs.length < lim then some (setOwn ρ k (.lst (zs ++ [d]))) else none
 | _=>none
theorem r_tc {gf:FG}{fe:FX}:turnC k gf t fe d ρ=tc2 k t fe (gf d ρ):=by unfold turnC tc2;cases gf d ρ <;> rfl
theorem r_tc2 {fe:FX}:tc2 k t fe (some ρ)=tc3 k fe (t ρ):=by unfold tc2 tc3;dsimp only;cases t ρ <;> rfl
theorem r_tc3_t {fe:FX}:tc3 k fe (some (true,ρ))=tc4 k (fe ρ):=by unfold tc3 tc4;simp only [if_true];cases fe ρ <;> rfl
theorem r_tc3_f {fe:FX}:tc3 k fe (some (false,ρ))=some ρ:=rfl
theorem r_tc4:tc4 k (some (w,ρ))=ap2 k (takeAll ρ [w.fz]):=by
 unfold tc4 appTo ap2
 dsimp only
 cases takeAll ρ [w.fz] <;> rfl
theorem r_ap2:ap2 k (some ([d],ρ))=ap3 k d ρ (ownAt ρ k):=by
 unfold ap2 ap3
 dsimp only
 cases ownAt ρ k with
 | none=>rfl
 | some x=>cases x <;> rfl
theorem r_ap3:ap3 k d ρ (some (.lst xs))=if xs.length < lim then some (setOwn ρ k (.lst (xs ++ [d]))) else none:=rfl
theorem a1w {C:Prop}{b:D->FS}{r:Option R}(e:loopF b xs ρ=r)(I:List D->Ev->Prop)(h0:I [] ρ)(st:∀d x ρ,x∈xs->d.length < xs.length->I d ρ->∃ρ',b x ρ=some (.nx ρ')/\I (d ++ [x]) ρ')(c:∀ρ',r=some (.nx ρ')->I xs ρ'->C):C:=by
 have key:∀(ys done:List D) (ρ:Ev),(∀y∈ys,y∈xs)->done.length + ys.length=xs.length->I done ρ->∃ρ',loopF b ys ρ=some (.nx ρ')/\I (done ++ ys) ρ':=by
  intro ys
  induction ys with
  | nil=>intro done ρ _ _ h;exact ⟨ρ,rfl,by rw [List.append_nil];exact h⟩
  | cons y ys ih=>
   intro done ρ hm hl h
   rw [List.length_cons] at hl
   obtain ⟨ρ1,e1,i1⟩:=st done y ρ (hm y List.mem_cons_self) (by walk_at "o") h
   obtain ⟨ρ2,e2,i2⟩:=ih (done ++ [y]) ρ1 (fun a ha=>hm a (List.mem_cons_of_mem _ ha)) (by rw [List.length_append,List.length_singleton];walk_at "o") i1
   exact ⟨ρ2,by rw [loopF,e1];exact e2,by rw [List.append_assoc] at i2;exact i2⟩
 obtain ⟨ρ',e',i⟩:=key xs [] ρ (fun _ h=>h) (by simp) h0
 exact c ρ' (e.symm.trans e') (by simpa using i)
theorem u7 (ns:List Int):lfL (ns.map D.int)=true:=by
 induction ns with
 | nil=>rfl
 | cons n ns ih=>rw [List.map_cons,lfL,ih];rfl
theorem P2 (m:Int)(n:Nat):(rngD m n).length=n:=by unfold rngD;simp
theorem a0w {m:Int}{n:Nat}(h:x∈rngD m n):∃i:Int,x= .int i/\m<=i/\i < m + n:=by
 unfold rngD at h
 obtain ⟨i,hi,rfl⟩:=List.mem_map.mp h
 rw [List.mem_range] at hi
 exact ⟨_,rfl,by walk_at "o",by walk_at "o"⟩
theorem m9 (h:0 < n)(h2:n.natAbs < 2 ^ 64):dOk n:=⟨h,Nat.lt_of_lt_of_le h2 (Nat.pow_le_pow_right (by decide) (by decide))⟩
end
theorem a3q {o:Option D}:freeO (o.map W.v)=true:=by cases o <;> rfl
def isI:D->Bool
 | .int _=>true
 | .bl _=>true
 | _=>false
def isB:D->Bool
 | .bl _=>true
 | _=>false
def isT:D->Bool
 | .tup _=>true
 | _=>false
def whole:D->Bool
 | .int _=>true
 | _=>false
theorem b18 {d:D}(h:isX d=false):oIsi "int" d=some (.v (.bl (isI d))):=by cases d <;> first | rfl | cases h
theorem b0p {d:D}(h:isX d=false):oIsi "bool" d=some (.v (.bl (isB d))):=by cases d <;> first | rfl | cases h
theorem a3P {d:D}(h:isX d=false):oIsi "tuple" d=some (.v (.bl (isT d))):=by cases d <;> first | rfl | cases h
def rise:List Int->Bool
 | a :: b :: r=>decide (a < b) && rise (b :: r)
 | _=>true
theorem sIx1 (n:Nat):HT.sIx n 0 (some 1)=min 1 n:=by
 unfold HT.sIx
 simp
theorem a7F (xs:List D):cutD xs (some 1) none=xs.drop 1:=by
 unfold cutD
 rw [sIx1]
 cases xs with
 | nil=>rfl
 | cons x xs=>
  rw [List.length_cons,show min 1 (xs.length + 1)=1 by walk_at "o"]
  simp [HT.sIx]
theorem a4G {r:List Bool->Bool}{xs:List D}{bs:List Bool}(h:boolsOf xs=some bs):gBools r (.lst xs)=some (.v (.bl (r bs))):=by unfold gBools;simp only [h,Option.map_some]
theorem a4U (f:D->Bool)(xs:List D):lfL (xs.map fun d=>D.bl (f d))=true:=by
 induction xs with
 | nil=>rfl
 | cons n ns ih=>rw [List.map_cons,lfL,ih];rfl
theorem M6 (f:D->Bool)(xs:List D):boolsOf (xs.map fun d=>D.bl (f d))=some (xs.map f):=by
 have:(xs.map fun d=>D.bl (f d))=(xs.map f).map D.bl:=by rw [List.map_map];rfl
 rw [this,a0e]
theorem a0D {α:Type}(f:α->Bool)(xs:List α):(xs.map f).all id=xs.all f:=by rw [List.all_map];rfl
theorem E1 {ns:List Int}{x:D}(h:x∈ns.map D.int):∃i∈ns,x= .int i:=by
 obtain ⟨i,hi,rfl⟩:=List.mem_map.mp h
 exact ⟨i,hi,rfl⟩
theorem b0f (xs ys:List D):(zipD xs ys).length=min xs.length ys.length:=by unfold zipD;simp
theorem a88 {xs:List D}{i:Int}{d:D}(h:0<=i)(e:xs[i.toNat]? =some d):atI xs i=some d:=by
 have:=u4 (j:=i.toNat) e
 rwa [show ((i.toNat:Nat):Int)=i by walk_at "o"] at this
theorem w9:∀{xs:List D},(∀x∈xs,lf x=true)->lfL xs=true
 | [],_=>rfl
 | x :: xs,h=>by rw [lfL,h x List.mem_cons_self,w9 fun y hy=>h y (List.mem_cons_of_mem _ hy)];rfl
section
variable {d:D}{ds:List D}{x0:D}{x1:D}{x2:D}{x3:D}{x4:D}{x5:D}{x6:D}{x7:D}{x8:D}{x9:D}{x10:D}{x11:D}{x12:D}{x13:D}
theorem a_3:atI (x0 :: x1 :: x2 :: d :: ds) 3=some d:=u4 (j:=3) rfl
theorem a_4:atI (x0 :: x1 :: x2 :: x3 :: d :: ds) 4=some d:=u4 (j:=4) rfl
theorem a_5:atI (x0 :: x1 :: x2 :: x3 :: x4 :: d :: ds) 5=some d:=u4 (j:=5) rfl
theorem a_6:atI (x0 :: x1 :: x2 :: x3 :: x4 :: x5 :: d :: ds) 6=some d:=u4 (j:=6) rfl
theorem a_7:atI (x0 :: x1 :: x2 :: x3 :: x4 :: x5 :: x6 :: d :: ds) 7=some d:=u4 (j:=7) rfl
theorem a_8:atI (x0 :: x1 :: x2 :: x3 :: x4 :: x5 :: x6 :: x7 :: d :: ds) 8=some d:=u4 (j:=8) rfl
theorem a_9:atI (x0 :: x1 :: x2 :: x3 :: x4 :: x5 :: x6 :: x7 :: x8 :: d :: ds) 9=some d:=u4 (j:=9) rfl
theorem a_10:atI (x0 :: x1 :: x2 :: x3 :: x4 :: x5 :: x6 :: x7 :: x8 :: x9 :: d :: ds) 10=some d:=u4 (j:=10) rfl
theorem a_11:atI (x0 :: x1 :: x2 :: x3 :: x4 :: x5 :: x6 :: x7 :: x8 :: x9 :: x10 :: d :: ds) 11=some d:=u4 (j:=11) rfl
theorem a_12:atI (x0 :: x1 :: x2 :: x3 :: x4 :: x5 :: x6 :: x7 :: x8 :: x9 :: x10 :: x11 :: d :: ds) 12=some d:=u4 (j:=12) rfl
theorem a_13:atI (x0 :: x1 :: x2 :: x3 :: x4 :: x5 :: x6 :: x7 :: x8 :: x9 :: x10 :: x11 :: x12 :: d :: ds) 13=some d:=u4 (j:=13) rfl
theorem ix_0 {n:Nat}:ixN (n + 1) 0=some 0:=by unfold ixN;rw [if_pos (Int.le_refl _),if_pos (by walk_at "o")];rfl
end
def dkey:D->Option Key
 | .int i=>some (Sum.inl i)
 | .str x=>some (Sum.inr x)
 | _=>none
def dkeys:List D->Option (List Key)
 | []=>some []
 | d :: ds=>(dkey d).bind fun k=>(dkeys ds).map fun ks=>k :: ks
def tkey:D->Option (List Key)
 | .tup ds=>dkeys ds
 | _=>none
def look {κ:Type} [DecidableEq κ]:List κ->List D->κ->Option D
 | k' :: ks,x :: xs,k=>if k'=k then some x else look ks xs k
 | _,_,_=>none
def putKs {κ:Type} [DecidableEq κ] (ks:List κ) (k:κ):List κ:=if k∈ks then ks else ks ++ [k]
def putX {κ α:Type} [DecidableEq κ] (ks:List κ) (xs:List α) (k:κ) (d:α):List α:=if k∈ks then List.zipWith (fun k' x=>if k'=k then d else x) ks xs else xs ++ [d]
theorem a3A {K:PySem.W.Frag}{A:Av}{H:Hp}{d:D}{k:Key}{v:V}(e:dkey d=some k)(h:DenR K A H d v):v=kV k:=by
 cases d with
 | int i=>cases e;exact g7 h
 | str x=>cases e;exact a07 h
 | _=>cases e
theorem P8 {K:PySem.W.Frag}{A:Av}{H:Hp}:∀{ds:List D} {ks:List Key} {vs:List V},dkeys ds=some ks->DenL K A H ds vs->vs=ks.map kV
 | [],ks,vs,e,l=>by cases e;rw [DenL] at l;rw [l];rfl
 | d :: ds,ks,vs,e,l=>by
  rw [DenL] at l
  obtain ⟨v,r,rfl,h,l⟩:=l
  rw [dkeys] at e
  cases e1:dkey d with
  | none=>rw [e1] at e;cases e
  | some k=>
   cases e2:dkeys ds with
   | none=>rw [e1,e2] at e;cases e
   | some js=>
    rw [e1,e2] at e;cases e
    rw [List.map_cons,<-a3A e1 (E8 h),<-P8 e2 l]
theorem a7L {K:PySem.W.Frag}{A:Av}{H:Hp}{d:D}{k:List Key}{v:V}(e:tkey d=some k)(h:DenR K A H d v):∃b,v= .ref b/\SqT K H b (k.map kV):=by
 cases d with
 | tup ds=>
  obtain ⟨b,vs,ev,hq,l⟩:=A3 h
  rw [P8 e l] at hq
  exact ⟨b,ev,hq⟩
 | _=>cases e
theorem a1a {κ:Type} [DecidableEq κ] {K:PySem.W.Frag}{A:Av}{H:Hp}:∀{ks:List κ} {xs:List D} {vs:List V} {k:κ} {x:D},DenL K A H xs vs->look ks xs k=some x->∃v,valV (ks.zip vs) k=some v/\Den K A H x v
 | [],_,_,_,_,_,e=>by simp [look] at e
 | _ :: _,[],_,_,_,_,e=>by simp [look] at e
 | k' :: ks,x0 :: xs,vs,k,x,l,e=>by
  rw [DenL] at l
  obtain ⟨v,r,rfl,h,l⟩:=l
  simp only [look] at e
  rw [List.zip_cons_cons]
  split at e
  ·rename_i q
   cases e
   exact ⟨v,U3 (by simpa using q),h⟩
  ·rename_i q
   rw [M8 (by simpa using q)]
   exact a1a l e
theorem Z0 {κ:Type} [DecidableEq κ] {K:PySem.W.Frag}{A:Av}{H:Hp}:∀{ks:List κ} {xs:List D} {vs:List V} {k:κ},DenL K A H xs vs->ks.length=xs.length->look ks xs k=none->valV (ks.zip vs) k=none
 | [],_,_,_,_,_,_=>by simp [valV]
 | _ :: _,[],_,_,_,hl,_=>by simp at hl
 | k' :: ks,x0 :: xs,vs,k,l,hl,e=>by
  rw [DenL] at l
  obtain ⟨v,r,rfl,h,l⟩:=l
  simp only [look] at e
  rw [List.zip_cons_cons]
  split at e
  ·cases e
  ·rename_i q
   rw [M8 (by simpa using q)]
   exact Z0 l (by simpa using hl) e
theorem a5J {κ:Type} [DecidableEq κ]:∀{ks:List κ} {vs:List V} {k:κ},ks.length=vs.length->((ks.zip vs).any fun kv=>decide (kv.1=k))=decide (k∈ks)
 | [],_,_,_=>by simp
 | _ :: _,[],_,hl=>by simp at hl
 | k' :: ks,v :: vs,k,hl=>by
  rw [List.zip_cons_cons,List.any_cons,a5J (by simpa using hl)]
  by_cases q:k'=k
  ·simp [q]
  ·have q2:¬k=k':=fun z=>q z.symm
   simp [q,q2]
theorem a5g {κ:Type} [DecidableEq κ] {ks:List κ}{vs:List V}{k:κ}{v:V}(hl:ks.length=vs.length):putK (ks.zip vs) k v=(putKs ks k).zip (putX ks vs k v):=by
 unfold putK putKs putX
 rw [a5J hl]
 by_cases q:k∈ks
 ·rw [if_pos (by simpa using q),if_pos q,if_pos q]
  clear q
  induction ks generalizing vs with
  | nil=>simp
  | cons k' ks ih=>
   cases vs with
   | nil=>simp at hl
   | cons w vs=>
    have ih':=ih (vs:=vs) (by simpa using hl)
    rw [List.zip_cons_cons,List.map_cons,List.zipWith_cons_cons,List.zip_cons_cons,ih']
    by_cases q:k'=k
    ·simp [q]
    ·simp [q]
 ·rw [if_neg (by simpa using q),if_neg q,if_neg q,List.zip_append hl]
  rfl
theorem a0j {κ α:Type} [DecidableEq κ] {ks:List κ}{xs:List α}{k:κ}{d:α}(hl:ks.length=xs.length):(putKs ks k).length=(putX ks xs k d).length:=by
 unfold putKs putX
 split
 ·rw [List.length_zipWith,hl];simp
 ·simp [hl]
theorem a3B {κ:Type} [DecidableEq κ] {K:PySem.W.Frag}{A:Av}{H:Hp}{ks:List κ}{xs:List D}{vs:List V}{k:κ}{d:D}{v:V}(l:DenL K A H xs vs)(h:Den K A H d v):DenL K A H (putX ks xs k d) (putX ks vs k v):=by
 unfold putX
 split
 ·rename_i q;clear q
  induction ks generalizing xs vs with
  | nil=>simp;exact j4
  | cons k' ks ih=>
   cases xs with
   | nil=>rw [DenL] at l;subst l;simp;exact j4
   | cons x xs=>
    rw [DenL] at l
    obtain ⟨u,r,rfl,hx,l⟩:=l
    rw [List.zipWith_cons_cons,List.zipWith_cons_cons]
    refine g8 ?_ (ih l)
    split
    ·exact h
    ·exact hx
 ·exact t3 l (g8 h j4)
section
variable {X:Cx}{a b c e e' o:Expr}{es rest:List Expr}{pos p p2 p3 apos cpos:Pos}{f g h:FX}{t u:FT}{fa:FA}{x:Str}
theorem a0v {pins:List (Addr×PySem.Obj)}{σ:L2.St}{H:Hp}{s:Shared}{b:Addr}{ks:List Key}(I:Inv X pins σ H s)(q:SqT X.K H b (ks.map kV)):(tupleKind (mixKind X.prog X.w)).is s.heap ks b:=by
 obtain ⟨its,r,⟨o,h1,h2,n,h3⟩,_⟩:=I.tuple q
 exact ⟨o,its.toArray,n,h1,h2,h3,by simpa using X2 r⟩
def DGe (K:PySem.W.Frag) (H:Hp) (a:Addr) (y:V) (r:Option V):Prop:=
 (∃kvs k,H a=some (.dK kvs)/\y=kV k/\r=valV kvs k)\/∃kvs k b,H a=some (.dT kvs)/\y= .ref b/\SqT K H b (k.map kV)/\r=valV kvs k
def lookG (x y:D):Option (Option D):=match x with
 | .dT ks xs=>(tkey y).map fun k=>look ks xs k
 | .dK ks xs=>(dkey y).map fun k=>look ks xs k
 | _=>none
def LkOk (K:PySem.W.Frag) (A:Av) (H:Hp):Option D->Option V->Prop
 | some d,w=>∃z,w=some z/\Den K A H d z
 | none,w=>w=none
theorem W6 {A:Av}{H:Hp}{x y:D}{r:Option D}{v u:V}(e:lookG x y=some r)(hx:DenR X.K A H x v)(hy:DenR X.K A H y u):∃a w,v= .ref a/\DGe X.K H a u w/\LkOk X.K A H r w:=by
 cases x with
 | dT ks xs=>
  simp only [lookG] at e
  cases e1:tkey y with
  | none=>rw [e1] at e;cases e
  | some k=>
   rw [e1] at e
   obtain ⟨b,rfl,hb⟩:=a7L e1 hy
   obtain ⟨a,vs,rfl,ha,hl,l⟩:=hx
   refine ⟨a,_,rfl,.inr ⟨_,k,b,ha,rfl,hb,rfl⟩,?_⟩
   cases (show look ks xs k=r from Option.some.inj e)
   cases e2:look ks xs k with
   | none=>exact Z0 l hl e2
   | some d=>exact a1a l e2
 | dK ks xs=>
  simp only [lookG] at e
  cases e1:dkey y with
  | none=>rw [e1] at e;cases e
  | some k=>
   rw [e1] at e
   obtain ⟨a,vs,rfl,ha,hl,l⟩:=hx
   refine ⟨a,_,rfl,.inl ⟨_,k,ha,a3A e1 hy,rfl⟩,?_⟩
   cases (show look ks xs k=r from Option.some.inj e)
   cases e2:look ks xs k with
   | none=>exact Z0 l hl e2
   | some d=>exact a1a l e2
 | _=>cases e
def rIxD (K:PySem.W.Frag):R2:=fun x y H Q=>∃a v,x= .ref a/\DGe K H a y (some v)/\Q v H
theorem b0j {k:Nat}(hr:Room k X.A):IxR X (rIxD X.K):=by
 intro value slice pins s σ H x y v u Q I rx ry h hs
 obtain ⟨a,z,rfl,hg,q⟩:=h
 cases rx
 rcases hg with ⟨kvs,k,ha,rfl,hv⟩ | ⟨kvs,k,b,ha,rfl,hq,hv⟩
 ·obtain ⟨_,hd,vs,rel,dd⟩:=a3N I.hok ha
  obtain ⟨w',hw,rw'⟩:=RelO.some_of (v:=z) (o:=valueAt vs k) (by rw [hv];exact rel.val k)
  refine subscriptTail_builtinR (x:=w') dd.typeIs PySem.F.slot_dict_getitem.lookup ?_ hs
  exact wpAny_getItem_of (a2f ry) dd.mapOf hw ⟨rfl,z,H,I.tok _,rw',q⟩
 ·cases (show u=Value.ref b from ry)
  obtain ⟨_,hd,xs,rel,dd⟩:=a1G I.hok ha
  obtain ⟨w',hw,rw'⟩:=RelO.some_of (v:=z) (o:=(atKey xs k).map (·.2)) (by rw [hv];exact rel.val k)
  obtain ⟨p,hp,hp2⟩:=Option.map_eq_some_iff.mp hw
  refine subscriptTail_builtinR (x:=w') dd.typeIs PySem.F.slot_dict_getitem.lookup ?_ hs
  refine wpAny_getItem_heap (tupleKind_room_in1 (a11 hr)) (a0v I hq) dd hp ?_
  rw [hp2]
  exact ⟨rfl,z,H,I.tok _,rw',q⟩
def isDi:D->Bool
 | .dT _ _=>true
 | .dK _ _=>true
 | _=>false
def oIxG (x y:D):Option W:=if isDi x=true then (lookG x y).bind fun r=>r.map .v else oIx x y
theorem g5 {k:Nat}(hr:Room k X.A)(ha:QX X a f)(hb:QX X b g)(hs:PlainIx b:=by intro _ _;rfl):QX X (.Subscript a b pos) (fBin oIxG f g):=⟨PE.weak (b0Y (a7N.or (b0j hr)) ha.to hb.to hs) (V2 (by
 intro A x y w v u H Q hA e hx hy q
 unfold oIxG at e
 split at e
 ·obtain ⟨r,e1,e⟩:=obs e
  obtain ⟨a,w',rfl,hg,hm⟩:=W6 e1 hx hy
  cases r with
  | none=>cases e
  | some d=>
   cases e
   obtain ⟨z,rfl,dz⟩:=hm
   exact .inr ⟨a,z,rfl,hg,q z H (Same.refl H) dz⟩
 ·exact .inl (k_ix A x y w v u H Q hA e hx hy q)))⟩
def rInD (K:PySem.W.Frag) (neg:Bool):R2:=fun y x H Q=>∃a r,x= .ref a/\DGe K H a y r/\Q (.bl (if neg then !r.isSome else r.isSome)) H
theorem a8g {k:Nat}(hr:Room k X.A):OpR X (compareOp .In) (rInD X.K false):=by
 intro pins s σ H y x u v Q I ry rx h
 obtain ⟨a,r,rfl,hg,q⟩:=h
 cases rx
 rcases hg with ⟨kvs,k,e,rfl,rfl⟩ | ⟨kvs,k,b,e,rfl,hq,rfl⟩
 ·obtain ⟨_,hd,vs,rel,dd⟩:=a3N I.hok e
  refine wpAny_in_of (a2f ry) hd dd.mapOf ?_
  rw [<-(rel.val k).isSome_eq]
  exact ⟨.bl _,H,I.tok _,rfl,q⟩
 ·cases (show u=Value.ref b from ry)
  obtain ⟨_,hd,xs,rel,dd⟩:=a1G I.hok e
  refine wpAny_in_heap (tupleKind_room_in1 (a11 hr)) (a0v I hq) hd dd ?_
  have z:=(rel.val k).isSome_eq
  rw [Option.isSome_map] at z
  rw [<-z]
  exact ⟨.bl _,H,I.tok _,rfl,q⟩
theorem a6q {k:Nat}(hr:Room k X.A):OpR X (compareOp .NotIn) (rInD X.K true):=by
 intro pins s σ H y x u v Q I ry rx h
 obtain ⟨a,r,rfl,hg,q⟩:=h
 cases rx
 rcases hg with ⟨kvs,k,e,rfl,rfl⟩ | ⟨kvs,k,b,e,rfl,hq,rfl⟩
 ·obtain ⟨_,hd,vs,rel,dd⟩:=a3N I.hok e
  refine wpAny_notIn_of (a2f ry) hd dd.mapOf ?_
  rw [<-(rel.val k).isSome_eq]
  exact ⟨.bl _,H,I.tok _,rfl,q⟩
 ·cases (show u=Value.ref b from ry)
  obtain ⟨_,hd,xs,rel,dd⟩:=a1G I.hok e
  refine wpAny_notIn_heap (tupleKind_room_in1 (a11 hr)) (a0v I hq) hd dd ?_
  have z:=(rel.val k).isSome_eq
  rw [Option.isSome_map] at z
  rw [<-z]
  exact ⟨.bl _,H,I.tok _,rfl,q⟩
def intV:Value->Int
 | .int i _=>i
 | _=>0
def readI (h:Heap):Value->Option (List Int)
 | .ref a=>match h.get? a with
  | some o=>match o.data with
   | .seq its _=>some (its.toList.map intV)
   | _=>none
  | none=>none
 | _=>none
theorem a1Q:∀{k:List Int} {its:List Value},Vals (k.map V.int) its->its.map intV=k
 | [],_,r=>by cases r;rfl
 | i :: k,_,r=>by
  cases r with
  | cons r1 r2=>
   obtain ⟨t,rfl⟩:=r1
   rw [List.map_cons,a1Q r2];rfl
theorem Y4 {m:Nat}:∀(a b:List Int),deqL (deq m) (a.map D.int) (b.map D.int)=some (decide (a=b))
 | [],[]=>rfl
 | [],_ :: _=>rfl
 | _ :: _,[]=>rfl
 | x :: a,y :: b=>by
  have ih:=Y4 (m:=m) a b
  have e:deq m (.int x) (.int y)=some (x == y):=by cases m <;> rfl
  simp only [List.map_cons,deqL,e,ih,Option.bind_some,Option.map_some]
  congr 1
  by_cases h:x=y
  ·simp [h]
  ·simp [h]
def tupI (k:List Int):D:=.tup (k.map D.int)
theorem a7g {m:Nat}(a b:List Int):deq (m + 1) (tupI a) (tupI b)=some (decide (a=b)):=Y4 a b
def tupsOf:List D->Option (List (List Int))
 | []=>some []
 | .tup ds :: xs=>(intsOf ds).bind fun k=>(tupsOf xs).map fun ks=>k :: ks
 | _=>none
theorem a2c:∀{ds:List D} {ks:List (List Int)},tupsOf ds=some ks->ds=ks.map tupI
 | [],ks,e=>by cases e;rfl
 | .tup d :: ds,ks,e=>by
  rw [tupsOf] at e
  cases e1:intsOf d with
  | none=>rw [e1] at e;cases e
  | some k=>
   cases e2:tupsOf ds with
   | none=>rw [e1,e2] at e;cases e
   | some js=>rw [e1,e2] at e;cases e;rw [List.map_cons,<-a2c e2,p9 e1];rfl
 | .non :: ds,_,e=>by cases e
 | .bl _ :: ds,_,e=>by cases e
 | .int _ :: ds,_,e=>by cases e
 | .str _ :: ds,_,e=>by cases e
 | .lst _ :: ds,_,e=>by cases e
 | .dT _ _ :: ds,_,e=>by cases e
 | .dK _ _ :: ds,_,e=>by cases e
 | .exn _ :: ds,_,e=>by cases e
theorem D8:∀ks:List (List Int),tupsOf (ks.map tupI)=some ks
 | []=>rfl
 | k :: ks=>by rw [List.map_cons,show tupI k= .tup (k.map D.int) from rfl,tupsOf,j6,D8 ks];rfl
def rInT (K:PySem.W.Frag) (neg:Bool):R2:=fun x y H Q=>∃(A:Av) (k:List Int) (ks:List (List Int)) (p:Addr) (vs:List V),DenR K A H (tupI k) x/\y= .ref p/\(SqL K H p vs\/SqT K H p vs)/\DenL K A H (ks.map tupI) vs/\Q (.bl (if neg then !decide (k∈ks) else decide (k∈ks))) H
theorem N1 {k0:Nat}{A:Av}(hr:Room k0 X.A){pins:List (Addr×PySem.Obj)}{σ:L2.St}{H:Hp}{s:Shared}(I:Inv X pins σ H s){k:List Int}{x:V}{v:Value}(hx:DenR X.K A H (tupI k) x)(rx:RelV x v):∀{ks:List (List Int)} {vs:List V} {us:List Value},DenL X.K A H (ks.map tupI) vs->Vals vs us->
  (∀y∈us,SeqAt.EqAt X.A.in1 s y v (decide (readI s.heap y=some k)))/\(us.any fun y=>decide (readI s.heap y=some k))=decide (k∈ks)
 | [],vs,us,l,r=>by
  rw [List.map_nil,DenL] at l
  subst l;cases r
  exact ⟨fun y hy=>by simp at hy,by simp⟩
 | k' :: ks,vs,us,l,r=>by
  rw [List.map_cons,DenL] at l
  obtain ⟨z,rs,rfl,hz,l⟩:=l
  cases r with
  | cons r1 r2=>
   rename_i u us
   obtain ⟨i1,i2⟩:=N1 hr I hx rx l r2
   have hz':=hz
   rw [show tupI k'= .tup (k'.map D.int) from rfl,Den] at hz'
   obtain ⟨c,ws,rfl,hq,lw⟩:=hz'
   rw [m8 lw] at hq
   cases (show u=Value.ref c from r1)
   obtain ⟨its,r3,⟨o,ho,_,n,hd⟩,_⟩:=I.tuple hq
   have er:readI s.heap (.ref c)=some k':=by
    unfold readI
    dsimp only
    rw [ho]
    dsimp only
    rw [hd]
    dsimp only
    rw [a1Q r3]
   have eq:SeqAt.EqAt X.A.in1 s (.ref c) v (decide (readI s.heap (.ref c)=some k)):=by
    rw [er]
    have z:=(a2j I 20 X.A.in1 (by have:=hr.units;show X.A.units + 1 + 20 + 1 < _;walk_at "o") (tupI k') (tupI k) (.ref c) x (.ref c) v _ (a7g k' k) (E8 hz) hx rfl rx).1
    have e2:decide (some k'=some k)=decide (k'=k):=by simp
    rw [e2];exact z
   refine ⟨fun y hy=>?_,?_⟩
   ·rcases List.mem_cons.mp hy with rfl | hy
    ·exact eq
    ·exact i1 y hy
   ·rw [List.any_cons,i2,er]
    by_cases h:k'=k
    ·simp [h]
    ·have h':¬k=k':=fun z=>h z.symm
     simp [h,h']
theorem a8u {k0:Nat}(hr:Room k0 X.A):OpR X (compareOp .In) (rInT X.K false):=by
 intro pins s σ H x y v u Q I rx ry ⟨A,k,ks,p,vs,hx,ey,hq,l,q⟩
 subst ey
 cases ry
 rcases hq with hq | hq
 ·obtain ⟨its,r,pl,hz⟩:=I.list hq
  obtain ⟨c1,c2⟩:=N1 hr I hx rx l r
  refine SeqAt.in_listAt (fun y=>decide (readI s.heap y=some k)) pl.isList (fun w hw=>c1 w (by simpa using hw)) ⟨.bl _,H,I,rfl,?_⟩
  rw [show (its.toArray.any fun y=>decide (readI s.heap y=some k))=(its.any fun y=>decide (readI s.heap y=some k)) by simp,c2]
  exact q
 ·obtain ⟨its,r,pl,hz⟩:=I.tuple hq
  obtain ⟨c1,c2⟩:=N1 hr I hx rx l r
  refine SeqAt.in_tupleAt (fun y=>decide (readI s.heap y=some k)) pl (fun w hw=>c1 w (by simpa using hw)) ⟨.bl _,H,I,rfl,?_⟩
  rw [show (its.toArray.any fun y=>decide (readI s.heap y=some k))=(its.any fun y=>decide (readI s.heap y=some k)) by simp,c2]
  exact q
theorem a6n {k0:Nat}(hr:Room k0 X.A):OpR X (compareOp .NotIn) (rInT X.K true):=by
 intro pins s σ H x y v u Q I rx ry ⟨A,k,ks,p,vs,hx,ey,hq,l,q⟩
 subst ey
 cases ry
 rcases hq with hq | hq
 ·obtain ⟨its,r,pl,hz⟩:=I.list hq
  obtain ⟨c1,c2⟩:=N1 hr I hx rx l r
  refine SeqAt.notIn_listAt (fun y=>decide (readI s.heap y=some k)) pl.isList (fun w hw=>c1 w (by simpa using hw)) ⟨.bl _,H,I,rfl,?_⟩
  rw [show (its.toArray.any fun y=>decide (readI s.heap y=some k))=(its.any fun y=>decide (readI s.heap y=some k)) by simp,c2]
  exact q
 ·obtain ⟨its,r,pl,hz⟩:=I.tuple hq
  obtain ⟨c1,c2⟩:=N1 hr I hx rx l r
  refine SeqAt.notIn_tupleAt (fun y=>decide (readI s.heap y=some k)) pl (fun w hw=>c1 w (by simpa using hw)) ⟨.bl _,H,I,rfl,?_⟩
  rw [show (its.toArray.any fun y=>decide (readI s.heap y=some k))=(its.any fun y=>decide (readI s.heap y=some k)) by simp,c2]
  exact q
def nb (neg k:Bool):W:=.v (.bl (if neg then !k else k))
def oInG (neg:Bool) (x y:D):Option W:=if isDi y=true then (lookG y x).map fun r=>nb neg r.isSome else match x with
 | .int i=>(items y).bind fun ys=>(intsOf ys).map fun ns=>nb neg (decide (i∈ns))
 | .tup ds=>(intsOf ds).bind fun k=>(items y).bind fun ys=>(tupsOf ys).map fun ks=>nb neg (decide (k∈ks))
 | _=>none
theorem kInG {neg:Bool}:Pr2 X (oInG neg) (fun x y H Q=>rIn X.K neg x y H Q\/rInD X.K neg x y H Q\/rInT X.K neg x y H Q):=by
 intro A x y w v u H Q hA e hx hy q
 unfold oInG at e
 split at e
 ·obtain ⟨r,e1,e⟩:=oms e
  cases e
  obtain ⟨a,w',rfl,hg,hm⟩:=W6 e1 hy hx
  have es:w'.isSome=r.isSome:=by
   cases r with
   | none=>rw [show w'=none from hm];rfl
   | some d=>obtain ⟨z,rfl,_⟩:=hm;rfl
  refine .inr (.inl ⟨a,w',rfl,hg,?_⟩)
  rw [es]
  exact q _ H (Same.refl H) A2
 ·split at e
  ·rename_i i
   refine .inl (kInI A (.int i) y w v u H Q hA ?_ hx hy q)
   unfold oInI
   exact e
  ·rename_i ds
   cases e1:intsOf ds with
   | none=>rw [e1] at e;cases e
   | some k=>
    rw [e1] at e
    simp only [Option.bind_some] at e
    cases e2:items y with
    | none=>rw [e2] at e;cases e
    | some ys=>
     rw [e2] at e
     simp only [Option.bind_some] at e
     obtain ⟨ks,e3,e⟩:=oms e
     cases e
     obtain ⟨p,vs,rfl,hq,l⟩:=F8 e2 hy
     rw [a2c e3] at l
     rw [p9 e1] at hx
     exact .inr (.inr ⟨A,k,ks,p,vs,hx,rfl,hq,l,q _ H (Same.refl H) A2⟩)
  ·cases e
theorem b2x {k:Nat}(hr:Room k X.A)(ha:QX X a f)(hb:QX X b g)(hm:behindInMarks .In b=false:=by rfl):QX X (.Compare a [.In] [b] pos) (fBin (oInG false) f g):=a2D (a1C.or ((a8g hr).or (a8u hr))) kInG ha hb hm
theorem a8e {k:Nat}(hr:Room k X.A)(ha:QX X a f)(hb:QX X b g)(hm:behindInMarks .In b=false:=by rfl):QT X (.Compare a [.In] [b] pos) (fTest (fBin (oInG false) f g)):=L5 (a1C.or ((a8g hr).or (a8u hr))) kInG ha hb hm
theorem a6o {k:Nat}(hr:Room k X.A)(ha:QX X a f)(hb:QX X b g)(hm:behindInMarks .NotIn b=false:=by rfl):QT X (.Compare a [.NotIn] [b] pos) (fTest (fBin (oInG true) f g)):=L5 (a3e.or ((a6q hr).or (a6n hr))) kInG ha hb hm
def rGet (K:PySem.W.Frag):V->List V->Hp->VK->Prop:=fun x vs H Q=>∃a y r w,x= .ref a/\vs=[y,w]/\DGe K H a y r/\Q (r.getD w) H
theorem a94 {k0:Nat}(hr:Room k0 X.A):MtR X "dict.get" (rGet X.K):=by
 intro pins s σ H x xs v us Q I rx rv ⟨a,y,r,w,ex,evs,hg,q⟩
 subst ex evs
 cases rx
 obtain ⟨u,w',rfl,ru,rw'⟩:=vals2 rv
 rcases hg with ⟨kvs,k,e,rfl,rfl⟩ | ⟨kvs,k,b,e,rfl,hq,rfl⟩
 ·obtain ⟨z,hd,ys,rel,dd⟩:=a3N I.hok e
  refine call_meetsIn PySem.F.slot_dict_get dd.typeIs PySem.F.entry_dict_get (PySem.F.args_dict_get_3 _ _ _) (meets_dict_get_default (mixKind X.prog X.w) a (a2f ru) hd w') ⟨_,dd.mapOf,?_⟩
  exact ⟨_,H,I.tok _,(rel.val k).getD rw',q⟩
 ·cases (show u=Value.ref b from ru)
  obtain ⟨z,hd,ys,rel,dd⟩:=a1G I.hok e
  refine call_meetsIn PySem.F.slot_dict_get dd.typeIs PySem.F.entry_dict_get (PySem.F.args_dict_get_3 _ _ _) (meetsH_dict_get_default (tupleKind (mixKind X.prog X.w)) a b hd w') ⟨tupleKind_room_in1 (a11 hr),k,ys,a0v I hq,dd,?_⟩
  exact ⟨_,H,I.tok _,(rel.val k).getD rw',q⟩
def fGet (f:FX) (fa:FA):FX:=fun ρ=>(f ρ).bind fun p=>(dr p.2 p.1.fz).bind fun d=>if isDi d=true then (fa p.2).bind fun q=>(takeAll q.2 q.1).bind fun z=>(dr z.2 p.1.fz).bind fun x=>match z.1 with
  | [y,e]=>(lookG x y).map fun r=>(.v (r.getD e),z.2)
  | _=>none
 else none
theorem a8M {k0:Nat}(hr:Room k0 X.A)(ha:QX X o f)(hb:QA X (e :: es) fa)(hbase:attributeBase o "get" X.env (eval o X.env)=eval o X.env:=by rfl)
  (hfew:((backTo pos (starEach (e :: es) X.env)).all (fun x=>!x.1) && (backToKw pos (keywordEach [] X.env)).all (fun x=>x.1.isSome) && decide ((e :: es).length + ([]:List Keyword).length + (if ([]:List Keyword).isEmpty then 0 else 1) < 30))=true:=by rfl)
  (hline:(apos.endLine == pos.line)=true:=by rfl) (hs:starEach (e :: es) X.env=(false,eval e X.env) :: starEach es X.env:=by rfl) (hpl:(backTo pos (starEach es X.env)).any (·.1)=false:=by rfl):
  QX X (.Call (.Attribute o "get" apos) (e :: es) [] pos) (fGet f fa):=
 ⟨PE.weak (a70 PySem.F.plainAttrs_dict PySem.F.slot_dict_get PySem.F.type_dict_get (a94 hr) ha.to hb.to hbase hfew hline hs hpl) fun σ H Q h0=>tXe h0 fun P O L ρ w ρ' rp e q=>by
 unfold fGet at e
 obtain ⟨⟨w1,ρ1⟩,e1,e⟩:=obs e
 dsimp only at e
 cases e2:dr ρ1 w1.fz with
 | none=>rw [e2] at e;cases e
 | some d=>
  rw [e2] at e
  simp only [Option.bind_some] at e
  split at e
  ·rename_i hdi
   obtain ⟨⟨ws,ρ2⟩,e3,e⟩:=obs e
   dsimp only at e
   obtain ⟨⟨ds,ρ3⟩,e5,e⟩:=obs e
   dsimp only at e
   cases e4:dr ρ3 w1.fz with
   | none=>rw [e4] at e;cases e
   | some x=>
    rw [e4] at e
    simp only [Option.bind_some] at e
    split at e
    ·rename_i y e0
     obtain ⟨r,e6,e⟩:=oms e
     cases e
     refine ⟨P,O,L,ρ,w1,ρ1,rp,e1,fun v H1 H1' r1 s1 d1=>?_⟩
     have r1g:=r1.grow s1
     have dd:=F1 r1g e2 (d1.fz r1 s1)
     obtain ⟨P',r1',k1⟩:=hold r1g (d1.fz r1 s1)
     refine ⟨?_,P',O,L,ρ1,_,_,r1',e3,fun vs H2 r2 l2=>?_⟩
     ·cases d with
      | dT ks xs=>obtain ⟨a,us,rfl,ha,_⟩:=dd;exact .inr (.inr (.inl ⟨rfl,.inr ⟨_,ha⟩⟩))
      | dK ks xs=>obtain ⟨a,us,rfl,ha,_⟩:=dd;exact .inr (.inr (.inl ⟨rfl,.inl ⟨_,ha⟩⟩))
      | _=>cases hdi
     ·obtain ⟨r4,l4,_⟩:=k8 r2 e5 l2
      obtain ⟨r3,d3⟩:=k1 _ H2 r4
      have dx:=F1 r3 e4 d3
      obtain ⟨v1,v2,rfl,g1,g2⟩:=denL2 l4
      obtain ⟨a,w',rfl,hg,hm⟩:=W6 e6 dx (E8 g1)
      refine ⟨a,v1,w',v2,rfl,rfl,hg,q _ H2 H2 r3 (Same.refl _) ?_⟩
      cases r with
      | none=>rw [show w'=none from hm];exact g2
      | some d=>obtain ⟨z,rfl,dz⟩:=hm;exact dz
    ·cases e
  ·cases e⟩
end
open PySem PySem.W PyProof.Rows
def TWp {α:Type} (n:Nat) (lt:Nat->Nat->Bool):KasT α->(α->Prop)->Prop
 | .ret a,Q=>Q a
 | .ask i j k,Q=>i < n/\j < n/\TWp n lt (k (lt i j)) Q
theorem G4 {α β:Type}{n:Nat}{lt:Nat->Nat->Bool}{g:α->KasT β}{Q:β->Prop}:∀(t:KasT α),TWp n lt t (fun a=>TWp n lt (g a) Q)->TWp n lt (t.bind g) Q
 | .ret _,h=>h
 | .ask i j k,⟨h1,h2,h⟩=>⟨h1,h2,G4 (k (lt i j)) h⟩
theorem a6k {α:Type}{n:Nat}{lt:Nat->Nat->Bool}{cmp:Nat->Nat->(Bool->Shared->Prop)->Shared->Prop}{s:Shared}{Q:α->Shared->Prop}
  (hc:∀i j (C:Bool->Shared->Prop),i < n->j < n->C (lt i j) s->cmp i j C s):∀(t:KasT α),TWp n lt t (fun a=>Q a s)->t.kasWp cmp Q s
 | .ret a,h=>h
 | .ask i j k,⟨h1,h2,h⟩=>hc i j _ h1 h2 (a6k hc (k (lt i j)) h)
section
variable {O:KeyOrd}{f:Nat->O.α}{n:Nat}
def Ky (f:Nat->O.α) (p:Array Nat) (i:Nat):O.α:=f (p.getD i 0)
def SoTo (f:Nat->O.α) (p:Array Nat) (k:Nat):Prop:=∀i j,i<=j->j < k->O.kle (Ky f p i) (Ky f p j)
def NoIn (f:Nat->O.α) (p:Array Nat) (k:Nat):Prop:=∀i j,i<=j->j < k->O.kle (Ky f p j) (Ky f p i)
structure PB (n:Nat) (p:Array Nat):Prop where
 perm:p.Perm (List.toArray (List.range n))
 pos:0 < n
theorem PB.size {p:Array Nat}(h:PB n p):p.size=n:=by rw [h.perm.size_eq];simp
theorem PB.lt {p:Array Nat}(h:PB n p)(i:Nat):p.getD i 0 < n:=by
 by_cases q:i < p.size
 ·have e:p.getD i 0=p[i]:=by simp [Array.getD,q]
  rw [e]
  have m:p[i]∈p.toList:=by simp
  have:=(Array.perm_iff_toList_perm.mp h.perm).mem_iff.mp m
  simpa using this
 ·have e:p.getD i 0=0:=by simp [Array.getD,q]
  rw [e];exact h.pos
theorem M0 {p q:Array Nat}{i j:Nat}(h:p[i]? =q[j]?):Ky f p i=Ky f q j:=by
 unfold Ky
 congr 1
 rw [Array.getD_eq_getD_getElem?,Array.getD_eq_getD_getElem?,h]
theorem a1V {xs:Array Nat}{src d:Nat}(hs:src < xs.size)(hd:d<=src)(k:Nat):
  Ky f (bubble xs src d) k=if k=src - d then Ky f xs src else if src - d < k/\k<=src then Ky f xs (k - 1) else Ky f xs k:=by
 have e:=getElem?_bubble hs d hd k
 by_cases h1:k=src - d
 ·rw [if_pos h1] at e ⊢;exact M0 e
 ·rw [if_neg h1] at e ⊢
  by_cases h2:src - d < k/\k<=src
  ·rw [if_pos h2] at e ⊢;exact M0 e
  ·rw [if_neg h2] at e ⊢;exact M0 e
theorem X3 {xs:Array Nat}{i j:Nat}(hj:j<=xs.size)(k:Nat):
  Ky f (kas_rev xs i j) k=if i<=k/\k < j then Ky f xs (i + j - 1 - k) else Ky f xs k:=by
 have e:=getElem?_mirror_all (i:=i) hj k
 unfold kas_rev
 by_cases h1:i<=k/\k < j
 ·rw [if_pos h1] at e ⊢;exact M0 e
 ·rw [if_neg h1] at e ⊢;exact M0 e
theorem u6 {xs:Array Nat}{i j:Nat}(hj:j<=xs.size)(heq:∀k,i<=k->k < j->Ky f xs k=Ky f xs (j - 1))(k:Nat):Ky f (kas_rev xs i j) k=Ky f xs k:=by
 rw [X3 hj]
 split
 ·rw [heq _ (by omega) (by omega),heq k (by omega) (by omega)]
 ·rfl
theorem PB.rev {p:Array Nat}(h:PB n p)(i j:Nat):PB n (kas_rev p i j):=⟨(mirror_perm _ _ _ _).trans h.perm,h.pos⟩
theorem PB.bub {p:Array Nat}(h:PB n p)(i j:Nat):PB n (bubble p i j):=⟨(bubble_perm _ _ _).trans h.perm,h.pos⟩
abbrev ltK (f:Nat->O.α):Nat->Nat->Bool:=fun i j=>O.blt (f i) (f j)
theorem a2o {p:Array Nat}(hB:PB n p){Q:Nat->Prop}:∀(c a:Nat),1<=a->SoTo f p a->(∀m,a<=m->m<=a + c->SoTo f p m->(m=a + c\/O.klt (Ky f p m) (Ky f p (m - 1)))->Q m)->TWp n (ltK f) (kas_asc p c a) Q
 | 0,a,_,hs,h=>h a (Nat.le_refl _) (Nat.le_refl _) hs (.inl rfl)
 | c + 1,a,h1,hs,h=>by
  refine ⟨hB.lt _,hB.lt _,?_⟩
  cases hless:O.blt (Ky f p a) (Ky f p (a - 1))
  case true=>
   rw [show ltK f (p.getD a 0) (p.getD (a - 1) 0)=true from hless];dsimp only;rw [if_pos rfl]
   exact h a (Nat.le_refl _) (by walk_at "o") hs (.inr hless)
  case false=>
   rw [show ltK f (p.getD a 0) (p.getD (a - 1) 0)=false from hless];dsimp only;rw [if_neg (by simp)]
   refine a2o hB c (a + 1) (by walk_at "o") (fun i j hij hj=>?_) fun m x1 x2 x3 x4=>h m (by walk_at "o") (by walk_at "o") x3 (x4.imp (fun q=>by walk_at "o") id)
   by_cases hjx:j < a
   ·exact hs i j hij hjx
   ·have hj':j=a:=by walk_at "o"
    subst hj'
    by_cases hi':i=j
    ·subst hi';exact KeyOrd.kle_refl _
    ·exact KeyOrd.kle_trans (hs i (j - 1) (by walk_at "o") (by walk_at "o")) hless
theorem a1M {p:Array Nat}(hB:PB n p){Q:Nat×Array Nat->Prop}{a m:Nat}(h1:1<=a)(ha:a<=m)(hm:m<=n)(hs:NoIn f p a)(h:∀k q,PB n q->1<=k->k<=m->SoTo f q k->Q (k,q)):TWp n (ltK f) (kas_tail3 a m p) Q:=by
 have hsz:a<=p.size:=by rw [hB.size];walk_at "o"
 refine G4 _ (a2o (hB.rev 0 a) (m - a) a h1 (fun i j hij hj=>?_) fun k x1 x2 x3 _=>h k _ (hB.rev 0 a) (by walk_at "o") (by walk_at "o") x3)
 rw [X3 hsz,X3 hsz,if_pos (by walk_at "o"),if_pos (by walk_at "o")]
 exact hs _ _ (by walk_at "o") (by walk_at "o")
theorem U0 {Q:Array Nat×Nat×Nat->Prop}{m:Nat}(hm:m<=n):∀(c:Nat) (p:Array Nat) (a q:Nat),a + c=m->PB n p->1<=a->NoIn f p a->q + 1<=a->(∀i,a - (q + 1)<=i->i < a->Ky f p i=Ky f p (a - 1))->
  (∀k r p',PB n p'->a<=k->k<=m->NoIn f p' k->r + 1<=k->(∀i,k - (r + 1)<=i->i < k->Ky f p' i=Ky f p' (k - 1))->Q (p',k,r))->TWp n (ltK f) (kas_desc c p a q) Q
 | 0,p,a,q,hc,hB,h1,hs,hq,he,h=>h a q p hB (Nat.le_refl _) (by walk_at "o") hs hq he
 | c + 1,p,a,q,hc,hB,h1,hs,hq,he,h=>by
  have hsz:a<=p.size:=by rw [hB.size];walk_at "o"
  refine ⟨hB.lt _,hB.lt _,?_⟩
  cases hless:O.blt (Ky f p a) (Ky f p (a - 1))
  case true=>
   rw [show ltK f (p.getD a 0) (p.getD (a - 1) 0)=true from hless];dsimp only;rw [if_pos rfl]
   have step1:∀xs:Array Nat,(∀k,Ky f xs k=Ky f p k)->NoIn f xs (a + 1):=by
    intro xs hk i j hij hj
    rw [hk,hk]
    by_cases hjx:j < a
    ·exact hs i j hij hjx
    ·have hj':j=a:=by walk_at "o"
     subst hj'
     by_cases hi':i=j
     ·subst hi';exact KeyOrd.kle_refl _
     ·exact KeyOrd.kle_trans (KeyOrd.kle_of_klt hless) (hs i (j - 1) (by walk_at "o") (by walk_at "o"))
   by_cases hneq:q > 0
   ·rw [if_pos hneq]
    exact U0 hm c _ (a + 1) 0 (by walk_at "o") (hB.rev _ _) (by walk_at "o") (step1 _ (u6 hsz he)) (by walk_at "o") (fun i h1 h2=>by congr 1;walk_at "o") fun k r p' x1 x2=>h k r p' x1 (by walk_at "o")
   ·rw [if_neg hneq]
    exact U0 hm c _ (a + 1) 0 (by walk_at "o") hB (by walk_at "o") (step1 _ (fun _=>rfl)) (by walk_at "o") (fun i h1 h2=>by congr 1;walk_at "o") fun k r p' x1 x2=>h k r p' x1 (by walk_at "o")
  case false=>
   rw [show ltK f (p.getD a 0) (p.getD (a - 1) 0)=false from hless];dsimp only;rw [if_neg (by simp)]
   refine ⟨hB.lt _,hB.lt _,?_⟩
   cases hlarger:O.blt (Ky f p (a - 1)) (Ky f p a)
   case true=>
    rw [show ltK f (p.getD (a - 1) 0) (p.getD a 0)=true from hlarger];dsimp only;rw [if_pos rfl]
    exact h a q p hB (Nat.le_refl _) (by walk_at "o") hs hq he
   case false=>
    rw [show ltK f (p.getD (a - 1) 0) (p.getD a 0)=false from hlarger];dsimp only;rw [if_neg (by simp)]
    have heqx:Ky f p a=Ky f p (a - 1):=KeyOrd.kle_antisymm hlarger hless
    refine U0 hm c p (a + 1) (q + 1) (by walk_at "o") hB (by walk_at "o") (fun i j hij hj=>?_) (by walk_at "o") (fun i h1 h2=>?_) fun k r p' x1 x2=>h k r p' x1 (by walk_at "o")
    ·by_cases hjx:j < a
     ·exact hs i j hij hjx
     ·have hj':j=a:=by walk_at "o"
      subst hj'
      by_cases hi':i=j
      ·subst hi';exact KeyOrd.kle_refl _
      ·rw [heqx];exact hs i (j - 1) (by walk_at "o") (by walk_at "o")
    ·rw [show a + 1 - 1=a by walk_at "o"]
     by_cases hix:i=a
     ·subst hix;rfl
     ·rw [heqx];exact he i (by walk_at "o") (by walk_at "o")
theorem U4 {p:Array Nat}(hB:PB n p){Q:Nat×Array Nat->Prop}{a m:Nat}(ha:a + 1<=m)(hm:m<=n)(hs:NoIn f p (a + 1))(h:∀k q,PB n q->1<=k->k<=m->SoTo f q k->Q (k,q)):TWp n (ltK f) (kas_descPart a m p) Q:=by
 refine G4 _ (U0 hm (m - (a + 1)) p (a + 1) 0 (by walk_at "o") hB (by walk_at "o") hs (by walk_at "o") (fun i h1 h2=>by congr 1;walk_at "o") fun k r p' hB' x2 x3 hs' x5 he=>?_)
 have hsz:k<=p'.size:=by rw [hB'.size];walk_at "o"
 dsimp only
 by_cases hneq:r > 0
 ·rw [if_pos hneq]
  refine a1M (hB'.rev _ _) (by walk_at "o") x3 hm (fun i j hij hj=>?_) h
  rw [u6 hsz he,u6 hsz he]
  exact hs' i j hij hj
 ·rw [if_neg hneq]
  exact a1M hB' (by walk_at "o") x3 hm hs' h
theorem a67 {p:Array Nat}(hB:PB n p){Q:Nat×Array Nat->Prop}{m:Nat}(h1:1<=m)(hm:m<=n)(h:∀k q,PB n q->1<=k->k<=m->SoTo f q k->Q (k,q)):TWp n (ltK f) (kas_count m p) Q:=by
 refine G4 _ (a2o hB (m - 1) 1 (Nat.le_refl 1) (fun i j hij hj=>by have:i=j:=(by walk_at "o");subst this;exact KeyOrd.kle_refl _) fun a ha1 ha2 hsn hor=>?_)
 by_cases hnn:a=m
 ·rw [if_pos (by simpa using hnn)]
  exact h a p hB ha1 (by walk_at "o") hsn
 ·rw [if_neg (by simpa using hnn)]
  have hlt:O.klt (Ky f p a) (Ky f p (a - 1)):=hor.resolve_left (by walk_at "o")
  by_cases hgt:a > 1
  ·rw [if_pos hgt]
   refine ⟨hB.lt _,hB.lt _,?_⟩
   cases hrose:O.blt (Ky f p 0) (Ky f p (a - 1))
   case true=>
    rw [show ltK f (p.getD 0 0) (p.getD (a - 1) 0)=true from hrose];dsimp only;rw [if_pos rfl]
    exact h a p hB ha1 (by walk_at "o") hsn
   case false=>
    rw [show ltK f (p.getD 0 0) (p.getD (a - 1) 0)=false from hrose];dsimp only;rw [if_neg (by simp)]
    have hsz:a<=p.size:=by rw [hB.size];walk_at "o"
    have hall:∀k,0<=k->k < a->Ky f p k=Ky f p (a - 1):=by
     intro k _ hk
     have a1:=hsn 0 k (by walk_at "o") hk
     have a2:=hsn k (a - 1) (by walk_at "o") (by walk_at "o")
     exact KeyOrd.kle_antisymm a2 (KeyOrd.kle_trans hrose a1)
    refine U4 (hB.rev _ _) (by walk_at "o") hm (fun i j hij hj=>?_) h
    rw [u6 hsz hall,u6 hsz hall]
    by_cases hjn:j < a
    ·rw [hall i (by walk_at "o") (by walk_at "o"),hall j (by walk_at "o") hjn];exact KeyOrd.kle_refl _
    ·have hj':j=a:=by walk_at "o"
     subst hj'
     by_cases hi':i=j
     ·subst hi';exact KeyOrd.kle_refl _
     ·rw [hall i (by walk_at "o") (by walk_at "o")];exact KeyOrd.kle_of_klt hlt
  ·rw [if_neg hgt]
   have hn1':a=1:=by walk_at "o"
   subst hn1'
   refine U4 hB (by walk_at "o") hm (fun i j hij hj=>?_) h
   by_cases hi':i=j
   ·subst hi';exact KeyOrd.kle_refl _
   ·have hi0:i=0:=by walk_at "o"
    have hj1:j=1:=by walk_at "o"
    subst hi0;subst hj1
    exact KeyOrd.kle_of_klt hlt
theorem Y6 {p:Array Nat}(hB:PB n p){Q:Nat->Prop}{k:Nat}(hk:k < n)(hs:SoTo f p k)
  (h:∀l,l<=k->(∀i,i < l->O.kle (Ky f p i) (Ky f p k))->(∀i,l<=i->i < k->O.klt (Ky f p k) (Ky f p i))->Q l):
  ∀(c l r:Nat),l<=r->r<=k->r - l<=c->(∀i,i < l->O.kle (Ky f p i) (Ky f p k))->(∀i,r<=i->i < k->O.klt (Ky f p k) (Ky f p i))->TWp n (ltK f) (kas_place p k c l r) Q
 | 0,l,r,hlr,hrk,hc,hlo,hhi=>h l (by omega) hlo (fun i h1 h2=>hhi i (by omega) h2)
 | c + 1,l,r,hlr,hrk,hc,hlo,hhi=>by
  unfold kas_place
  by_cases hge:l≥r
  ·rw [if_pos hge]
   have:l=r:=by omega
   subst this
   exact h l hrk hlo hhi
  ·rw [if_neg hge]
   refine ⟨hB.lt _,hB.lt _,?_⟩
   cases hless:O.blt (Ky f p k) (Ky f p ((l + r) / 2))
   case true=>
    rw [show ltK f (p.getD k 0) (p.getD ((l + r) / 2) 0)=true from hless];dsimp only;rw [if_pos rfl]
    exact Y6 hB hk hs h c l ((l + r) / 2) (by omega) (by omega) (by omega) hlo fun i h1 h2=>KeyOrd.klt_of_klt_of_kle hless (hs _ _ h1 h2)
   case false=>
    rw [show ltK f (p.getD k 0) (p.getD ((l + r) / 2) 0)=false from hless];dsimp only;rw [if_neg (by simp)]
    exact Y6 hB hk hs h c ((l + r) / 2 + 1) r (by omega) (by omega) (by omega) (fun i h1=>KeyOrd.kle_trans (hs i ((l + r) / 2) (by omega) (by omega)) (show O.kle _ _ from hless)) hhi
theorem a6l {Q:Array Nat->Prop}(h:∀p,PB n p->SoTo f p n->Q p):∀(c k:Nat) (p:Array Nat),c + k=n->PB n p->SoTo f p k->TWp n (ltK f) (kas_bin c p k) Q
 | 0,k,p,hc,hB,hs=>h p hB (by rw [<-hc];rw [Nat.zero_add];exact hs)
 | c + 1,k,p,hc,hB,hs=>by
  refine G4 _ (Y6 hB (by walk_at "o") hs (fun l hlk hlo hhi=>?_) k 0 k (by walk_at "o") (by walk_at "o") (by walk_at "o") (fun i hi=>by walk_at "o") fun i h1 h2=>by walk_at "o")
  refine a6l h c (k + 1) _ (by walk_at "o") (hB.bub _ _) fun i j hij hj=>?_
  have hks:k < p.size:=by rw [hB.size];walk_at "o"
  rw [a1V hks (by walk_at "o"),a1V hks (by walk_at "o"),show k - (k - l)=l by walk_at "o"]
  repeat' split
  all_goals first
   | (exfalso;walk_at "o")
   | exact KeyOrd.kle_refl _
   | exact hlo _ (by walk_at "o")
   | exact KeyOrd.kle_of_klt (hhi _ (by walk_at "o") (by walk_at "o"))
   | exact hs _ _ (by walk_at "o") (by walk_at "o")
theorem a9c {Q:Array Nat->Prop}(hn:1<=n)(h:∀p,PB n p->SoTo f p n->Q p):TWp n (ltK f) (kas_sort n) Q:=by
 refine G4 _ (a67 ⟨Array.Perm.refl _,hn⟩ hn (Nat.le_refl _) fun k q hB x1 x2 hs=>?_)
 dsimp only
 split
 ·rw [show max k 1=k by walk_at "o"]
  exact a6l h (n - k) k q (by walk_at "o") hB hs
 ·exact h q hB (by rw [show n=k by walk_at "o"];exact hs)
end
def DRaw (h:Heap) (d:Addr) (es:Array DictEntry) (ep:Nat):Prop:=∃o,h.get? d=some o/\o.ExactDict/\o.data= .dict es ep
theorem DRaw.typeIs {s:Shared}{d:Addr}{es:Array DictEntry}{ep:Nat}(x:DRaw s.heap d es ep):s.TypeIs (.ref d) "dict":=let ⟨o,e,c,_⟩:=x;⟨o,e,c.1⟩
theorem DRaw.lt {h:Heap}{d:Addr}{es:Array DictEntry}{ep:Nat}(x:DRaw h d es ep):d < h.objs.size:=let ⟨_,e,_⟩:=x;Heap.lt_size e
theorem DRaw.on {h h':Heap}{d:Addr}{es:Array DictEntry}{ep:Nat}(x:DRaw h d es ep)(k:∀o,h.get? d=some o->h'.get? d=some o):DRaw h' d es ep:=let ⟨o,e,r⟩:=x;⟨o,k o e,r⟩
section
variable {prog:Program}{w:World}{A:Around}{E:Value->Shared->Prop}{s:Shared}{it d:Addr}{es:Array DictEntry}{i ep:Nat}
theorem a8B {Q:Value->Shared->Prop}(ns:(d == sysModules)=false)(hm:DRaw s.heap d es ep)
  (q:Q (.ref s.heap.objs.size) {s with heap:=s.heap.push {cls:=.type "dict_keyiterator",data:=.fields #[.ref d,.int 0 0,.int es.size 0,.int ep 0]}}):wpAny (model prog w) A (pyIter (.ref d)) Q E s:=by
 obtain ⟨o,g0,gx,gd⟩:=id hm
 have T:=hm.typeIs
 refine wpAny_pyIter_slot T F.slot_dict_iter (wpAny_call_entry F.slot_dict_iter T F.entry_dict_iter ?_ (F.args_dict_iter_1 _))
 unfold Builtin.«dict.__iter__»
 refine wpAny_bind ?_
 unfold Builtin.Dict.dictSlotNone
 refine wpAny_bind (wpAny_notOrdered_dict T (wpAny_pure ?_))
 show wpAny _ _ (Builtin.Dict.showsAll d >>=_) _ _ s
 unfold Builtin.Dict.showsAll
 rw [if_neg (by rw [ns];simp)]
 refine wpAny_bind (wpAny_pure (wpAny_bind (wpAny_dictEntries g0 gd (wpAny_bind (wpAny_dictEpoch g0 gd ?_)))))
 refine wpAny_bind (wpAny_newObj_type (wpAny_pure ⟨_,rfl,"dict_keyiterator",_,⟨_,Heap.get?_push_size _ rfl,rfl⟩,F.slot_dict_keyiterator_next.lookup,?_⟩))
 simpa [rawInt] using q
theorem a9D {Q:Option Value->Shared->Prop}{e:DictEntry}(hit:s.heap.IsKeyIter it d i es.size ep)(hm:DRaw s.heap d es ep)(he:es[i]? =some e)
  (q:∀h',h'.IsKeyIter it d (i + 1) es.size ep->Heap.SameBut it s.heap h'->Q (some e.key) {s with heap:=h'}):wpAny (model prog w) A (pyNext (.ref it)) Q E s:=by
 obtain ⟨o,t0,tc,td⟩:=id hit
 obtain ⟨od,g0,gx,gd⟩:=id hm
 unfold pyNext
 refine wpAny_bind (wpAny_attempt (wpAny_callSpecial?_slot (name:=Str.ofString "__next__") hit.typeIs F.slot_dict_keyiterator_next (wpAny_call_entry F.slot_dict_keyiterator_next hit.typeIs F.entry_dict_keyiterator_next ?_ (F.args_dict_keyiterator_next_1 _))))
 refine wpAny_bind (wpAny_pure (wpAny_bind (wpAny_bind ?_)))
 first | refine wpAny_bind (wpAny_typeNameOfWhole_keyiter hit.typeIs (wpAny_pure (wpAny_bind (wpAny_fieldsOf t0 td ?_)))) | refine wpAny_bind (wpAny_typeNameOf_keyiter hit.typeIs (wpAny_pure (wpAny_bind (wpAny_fieldsOf t0 td ?_))))
 have own:Builtin.Dict_items.ownsTuple "dict_keyiterator"=false:=by decide
 simp only [own,Bool.false_eq_true,if_false]
 show wpAny _ _ (if (Value.ref d == Value.none)=true then _ else _) _ _ s
 rw [if_neg (show ¬((Value.ref d == Value.none)=true) from Bool.false_ne_true)]
 refine wpAny_bind (wpAny_pure (wpAny_bind (wpAny_dictEntries g0 gd ?_)))
 rw [if_neg (by simp)]
 refine wpAny_bind (wpAny_pure (wpAny_bind (wpAny_dictEpoch g0 gd ?_)))
 rw [if_neg (by simp)]
 refine wpAny_pure ?_
 have lt:i < es.size:=by
  rcases Nat.lt_or_ge i es.size with z | z
  ·exact z
  ·rw [Array.getElem?_eq_none z] at he;cases he
 simp only [show ¬((i:Int) < 0) from by walk_at "o",if_false,Int.toNat_natCast,he]
 refine wpAny_bind ?_
 first | refine wpAny_bind (wpAny_typeNameOfWhole_keyiter hit.typeIs (wpAny_pure (wpAny_bind (wpAny_isOneOf_keyiter hit.typeIs ?_)))) | refine wpAny_bind (wpAny_typeNameOf_keyiter hit.typeIs (wpAny_pure (wpAny_bind (wpAny_isOneOf_keyiter hit.typeIs ?_))))
 show wpAny _ _ (setField (.ref it) 1 (rawInt ((i:Int) + 1)) >>=_) _ _ s
 refine wpAny_bind (wpAny_setField t0 td (by simp) ?_)
 have up:(s.heap.update it (PySem.Obj.mapFields (·.setIfInBounds 1 (rawInt ((i:Int) + 1))))).IsKeyIter it d (i + 1) es.size ep:=⟨_,Heap.get?_update_self _ t0 (Obj.isFreed_of_fields (Obj.data_mapFields td _)),(Obj.cls_mapFields ..).trans tc,by rw [Obj.data_mapFields td];simp [rawInt]⟩
 refine wpAny_bind (wpAny_holding (wpAny_bind (wpAny_isOneOf_keyiter (s:={s with heap:=s.heap.update it (PySem.Obj.mapFields (·.setIfInBounds 1 (rawInt ((i:Int) + 1))))}) up.typeIs ?_)))
 show wpAny _ _ (pure e.key) _ _ _
 exact wpAny_pure (wpAny_pure ⟨_,rfl,wpAny_pure (q _ up (Heap.SameBut.update ..))⟩)
theorem b0d {Q:Option Value->Shared->Prop}(hh:A.handled=none)(hit:s.heap.IsKeyIter it d i es.size ep)(hm:DRaw s.heap d es ep)(he:es[i]? =none)
  (q:∀h',Heap.ExtBut it s.heap h'->Q none {s with heap:=h'}):wpAny (model prog w) A (pyNext (.ref it)) Q E s:=by
 obtain ⟨o,t0,tc,td⟩:=id hit
 obtain ⟨od,g0,gx,gd⟩:=id hm
 unfold pyNext
 refine wpAny_bind (wpAny_attempt (wpAny_callSpecial?_slot (name:=Str.ofString "__next__") hit.typeIs F.slot_dict_keyiterator_next (wpAny_call_entry F.slot_dict_keyiterator_next hit.typeIs F.entry_dict_keyiterator_next ?_ (F.args_dict_keyiterator_next_1 _))))
 refine wpAny_bind (wpAny_pure (wpAny_bind (wpAny_bind ?_)))
 first | refine wpAny_bind (wpAny_typeNameOfWhole_keyiter hit.typeIs (wpAny_pure (wpAny_bind (wpAny_fieldsOf t0 td ?_)))) | refine wpAny_bind (wpAny_typeNameOf_keyiter hit.typeIs (wpAny_pure (wpAny_bind (wpAny_fieldsOf t0 td ?_))))
 have own:Builtin.Dict_items.ownsTuple "dict_keyiterator"=false:=by decide
 simp only [own,Bool.false_eq_true,if_false]
 show wpAny _ _ (if (Value.ref d == Value.none)=true then _ else _) _ _ s
 rw [if_neg (show ¬((Value.ref d == Value.none)=true) from Bool.false_ne_true)]
 refine wpAny_bind (wpAny_pure (wpAny_bind (wpAny_dictEntries g0 gd ?_)))
 rw [if_neg (by simp)]
 refine wpAny_bind (wpAny_pure (wpAny_bind (wpAny_dictEpoch g0 gd ?_)))
 rw [if_neg (by simp)]
 refine wpAny_pure ?_
 simp only [show ¬((i:Int) < 0) from by walk_at "o",if_false,Int.toNat_natCast,he]
 refine wpAny_bind ?_
 first | refine wpAny_bind (wpAny_typeNameOfWhole_keyiter hit.typeIs (wpAny_pure ?_)) | refine wpAny_bind (wpAny_typeNameOf_keyiter hit.typeIs (wpAny_pure ?_))
 show wpAny _ _ (setField (.ref it) 0 .none >>=_) _ _ s
 refine wpAny_bind (wpAny_setField t0 td (by simp) ?_)
 show wpAny _ _ (newExc (.type "StopIteration") [] >>=_) _ _ _
 refine wpAny_bind ?_
 simp only [newExc,newTuple]
 refine wpAny_bind (wpAny_newObj_type ?_ (by size_fits))
 refine wpAny_bind (m:=firstArgMember _ _) (wpAny_of_eq (a:=Value.none) (by first | rfl | (simp only [firstArgMember];rfl)) (wpAny_newObj_type ?_ (by size_fits)))
 simp only [raiseNew]
 refine wpAny_bind (wpAny_handled ?_)
 rw [show A.in1.handled=none from hh]
 refine wpAny_bind (wpAny_pure (wpAny_throw ?_))
 refine wpAny_bind (wpAny_isInstance (b:=true) (T:="StopIteration") ⟨_,Heap.get?_push_size _ rfl,rfl⟩ isSubtype_stop ?_)
 exact wpAny_pure (q _ (((Heap.SameBut.update ..).extBut.push _).push _))
theorem a6K (hh:A.handled=none)(I d:Addr)(hne:d≠I)(es:Array DictEntry)(ep:Nat):
  Walks prog w A I [I,d] [I] es.size (fun i v=>∃e,es[i]? =some e/\v=e.key) (fun i h=>h.IsKeyIter I d i es.size ep/\DRaw h d es ep) where
 sub:=fun b hb=>by simp at hb;simp [hb]
 frame:=fun _ _ _ st hk=>⟨st.1.at fun o e=>hk I (by simp) o e,st.2.on fun o e=>hk d (by simp) o e⟩
 item:=fun i s Q E hi st hQ=>a9D st.1 st.2 (e:=es[i]) (by simp [hi]) fun h' h1 h2=>hQ _ h' s.toks ⟨_,by simp [hi],rfl⟩ ⟨h1,st.2.on fun o e=>(h2.2 d hne).trans e⟩ fun b o hb e=>(h2.2 b (fun z=>hb (by simp [z]))).trans e
 done:=fun s Q E st hQ=>b0d hh st.1 st.2 (by simp) fun h' x=>hQ h' s.toks fun b o hb e=>x b o (fun z=>hb (by simp [z])) e
 self:=fun _ _ _ _ st hQ=>wpAny_pyIter_keyiter st.1 hQ
theorem a9M (ns:(d == sysModules)=false):KdlSrc prog w "dict" d d es.size (fun i v=>∃e,es[i]? =some e/\v=e.key) (fun h=>DRaw h d es ep) where
 type:=fun _ x=>x.typeIs
 there:=fun _ x=>⟨x.lt,x.lt⟩
 keep:=fun _ _ x hk=>x.on fun o e=>hk d (.inl rfl) o e
 notList:=by decide
 notTuple:=by decide
 hint:=fun _ _ _ _ x q=>kdl_hint_dict x.typeIs q
 iter:=fun _ _ hh x=>⟨_,_,(fun _ _ q=>a8B ns x q),a6K hh _ d (Nat.ne_of_lt x.lt) es ep,⟨⟨_,Heap.get?_push_size _ rfl,rfl,rfl⟩,x.on fun o e=>Heap.get?_push_of_some _ e⟩⟩
end
theorem a5a:∀a:List Int,HT.lexLt a a=false
 | []=>rfl
 | x :: a=>by rw [HT.lexLt_cons,if_pos rfl];exact a5a a
theorem a14:∀a b c:List Int,HT.lexLt a b=true->HT.lexLt b c=true->HT.lexLt a c=true
 | [],[],_,h,_=>by cases h
 | [],_ :: _,[],_,h=>by cases h
 | [],_ :: _,_ :: _,_,_=>rfl
 | _ :: _,[],_,h,_=>by cases h
 | _ :: _,_ :: _,[],_,h=>by cases h
 | x :: a,y :: b,z :: c,h,h'=>by
  rw [HT.lexLt_cons] at h h' ⊢
  by_cases e1:x=y
  ·by_cases e2:y=z
   ·rw [if_pos e1] at h;rw [if_pos e2] at h';rw [if_pos (e1.trans e2)];exact a14 a b c h h'
   ·rw [if_neg e2] at h';rw [if_neg (fun q=>e2 (e1.symm.trans q)),e1];exact h'
  ·rw [if_neg e1] at h
   have h1:=of_decide_eq_true h
   by_cases e2:y=z
   ·rw [if_neg (fun q=>e1 (q.trans e2.symm)),<-e2];exact h
   ·rw [if_neg e2] at h'
    have h2:=of_decide_eq_true h'
    rw [if_neg (by omega)]
    exact decide_eq_true (by omega)
theorem a5G:∀a b c:List Int,HT.lexLt a c=true->HT.lexLt a b=true\/HT.lexLt b c=true
 | [],[],_,h=>.inr h
 | [],_ :: _,_,_=>.inl rfl
 | _ :: _,_,[],h=>by cases h
 | _ :: _,[],_ :: _,_=>.inr rfl
 | x :: a,y :: b,z :: c,h=>by
  rw [HT.lexLt_cons] at h ⊢
  rw [HT.lexLt_cons]
  by_cases e1:x=y
  ·by_cases e2:y=z
   ·rw [if_pos (e1.trans e2)] at h;rw [if_pos e1,if_pos e2];exact a5G a b c h
   ·rw [if_neg (fun q=>e2 (e1.symm.trans q))] at h;rw [if_neg e2,<-e1];exact .inr h
  ·rw [if_neg e1]
   by_cases e2:x=z
   ·have e3:¬y=z:=fun q=>e1 (e2.trans q.symm)
    rw [if_neg e3]
    rcases Int.lt_or_gt_of_ne e1 with q | q
    ·exact .inl (decide_eq_true q)
    ·exact .inr (decide_eq_true (by omega))
   ·rw [if_neg e2] at h
    have h1:=of_decide_eq_true h
    rcases Int.lt_or_gt_of_ne e1 with q | q
    ·exact .inl (decide_eq_true q)
    ·rw [if_neg (show ¬y=z by omega)];exact .inr (decide_eq_true (by omega))
theorem a29:∀a b:List Int,HT.lexLt a b=false->HT.lexLt b a=false->a=b
 | [],[],_,_=>rfl
 | [],_ :: _,h,_=>by cases h
 | _ :: _,[],_,h=>by cases h
 | x :: a,y :: b,h,h'=>by
  rw [HT.lexLt_cons] at h h'
  by_cases e:x=y
  ·rw [if_pos e] at h;rw [if_pos e.symm] at h';rw [e,a29 a b h h']
  ·rw [if_neg e] at h;rw [if_neg (fun q=>e q.symm)] at h'
   have h1:=of_decide_eq_false h
   have h2:=of_decide_eq_false h'
   walk_at "o"
def lexO:KeyOrd:=⟨List Int,HT.lexLt,a5a,a14,a5G,a29⟩
inductive Tups (h:Heap):List Value->List (List Int)->Prop where
 | nil:Tups h [] []
 | cons {a:Addr} {its:Array Value} {k:List Int} {vs:List Value} {ks:List (List Int)} (t:IsTup h a its) (i:IntsAre its.toList k) (ne:k≠[]) (r:Tups h vs ks):Tups h (.ref a :: vs) (k :: ks)
theorem Tups.len {h:Heap}{vs:List Value}{ks:List (List Int)}(t:Tups h vs ks):vs.length=ks.length:=by
 induction t with
 | nil=>rfl
 | cons _ _ _ _ ih=>simp [ih]
theorem Tups.on {h h':Heap}{vs:List Value}{ks:List (List Int)}(t:Tups h vs ks)(k:∀a o,(.ref a)∈vs->h.get? a=some o->h'.get? a=some o):Tups h' vs ks:=by
 induction t with
 | nil=>exact .nil
 | cons x i ne r ih=>
  obtain ⟨o,e,c⟩:=x
  exact .cons ⟨o,k _ o List.mem_cons_self e,c⟩ i ne (ih fun a o m e=>k a o (List.mem_cons_of_mem _ m) e)
theorem Tups.at {h:Heap}{vs:List Value}{ks:List (List Int)}(t:Tups h vs ks):∀{i:Nat},i < vs.length->∃a its,vs.getD i .none= .ref a/\IsTup h a its/\IntsAre its.toList (ks.getD i [])/\ks.getD i []≠[]:=by
 induction t with
 | nil=>intro i hi;simp at hi
 | cons x i ne r ih=>
  intro j hj
  cases j with
  | zero=>exact ⟨_,_,rfl,x,i,ne⟩
  | succ j=>exact ih (i:=j) (by simpa using hj)
section
variable {prog:Program}{w:World}{A:Around}{E:Value->Shared->Prop}{s:Shared}{h₀:Heap}{L D:Addr}{m:Str->Option Value}{vs:List Value}{ks:List (List Int)}
theorem a8k {fin:Bool}{Q:Bool->Shared->Prop}:∀{us ws:List Value} {ns ms:List Int} {i:Nat},IntsAre us ns->IntsAre ws ms->fin=decide (us.length < ws.length)->
  Q (HT.lexLt ns ms) s->KatLex prog w A true fin Q (us.zip ws) i s
 | [],[],_,_,i,h1,h2,ef,q=>by
  cases h1;cases h2
  rw [List.zip_nil_left]
  exact kat_nil (by rw [ef];exact q)
 | [],_ :: _,_,_,i,h1,h2,ef,q=>by
  cases h1;cases h2
  rw [List.zip_nil_left]
  exact kat_nil (by rw [ef];simpa [HT.lexLt] using q)
 | _ :: _,[],_,_,i,h1,h2,ef,q=>by
  cases h1;cases h2
  rw [List.zip_nil_right]
  exact kat_nil (by rw [ef];simpa [HT.lexLt] using q)
 | _ :: us,_ :: ws,_,_,i,h1,h2,ef,q=>by
  cases h1 with
  | cons a t h1=>
   cases h2 with
   | cons c u h2=>
    rw [List.zip_cons_cons]
    rw [HT.lexLt_cons] at q
    refine kat_cons (SeqAt.EqAt.int_int a t c u prog w _ _ ?_)
    by_cases e:a=c
    ·rw [if_pos e] at q
     rw [show (a == c)=true by simpa using e]
     exact kat_yes (a8k h1 h2 (by rw [ef];simp) q)
    ·rw [if_neg e] at q
     rw [show (a == c)=false by simpa using e]
     refine kat_no ?_
     cases hb:(true && i == 0) with
     | true=>exact oneLt_int q
     | false=>exact kat_one _ _ (lt_int q)
theorem katTups {h:Heap}{vs:List Value}{ks:List (List Int)}(t:Tups h vs ks):∃fs,KatTups h vs fs/\fs.length=ks.length/\∀v∈fs,∃(i:Int) (u:Tok),v= .int i u:=by
 induction t with
 | nil=>exact ⟨[],.nil,rfl,fun v hv=>by cases hv⟩
 | @cons a its k vs ks x i ne r ih=>
  obtain ⟨fs,h1,h2,h3⟩:=ih
  obtain ⟨o,e,c,n,d⟩:=x
  obtain ⟨its⟩:=its
  cases i with
  | nil=>exact absurd rfl ne
  | cons n0 t0 r'=>exact ⟨_,.cons e c d (by rfl) h1,by simp [h2],fun v hv=>(List.mem_cons.mp hv).elim (fun z=>⟨_,_,z⟩) (h3 v)⟩
theorem a92 {s:Shared}(T:Tups s.heap vs ks)(i j:Nat)(C:Bool->Shared->Prop)(hi:i < vs.length)(hj:j < vs.length)(q:C (HT.lexLt (ks.getD i []) (ks.getD j [])) s):kas_ask prog w A (tuples' true) vs i j C s:=by
 obtain ⟨a,its,ea,⟨o,h1,h2,n,h3⟩,ia,_⟩:=T.at hi
 obtain ⟨b,its2,eb,⟨o2,g1,g2,n2,g3⟩,ib,_⟩:=T.at hj
 unfold kas_ask
 rw [ea,eb]
 exact kat_lt h1 h3 g1 g3 (a8k ia ib (by simp) q)
theorem a66 {Q:Value->Shared->Prop}(F:Fr h₀ L s.heap m)(hD:s.heap.get? D=some (listOf vs.toArray 0))(hDL:D≠L)(hD0:h₀.get? D=none)(T:Tups s.heap vs ks)(nD:Value.ref D∉vs)(nL:Value.ref L∉vs)(k0:∀b o,h₀.get? b=some o->s.heap.get? b=some o)(h2:2<=vs.length)(h64:vs.length < 64)
  (q:∀(h':Heap) (p:Array Nat) (e:Nat),Fr h₀ L h' m->(∀b o,b≠L->b≠D->s.heap.get? b=some o->h'.get? b=some o)->h'.get? D=some (listOf (p.toList.map fun i=>vs.getD i .none).toArray e)->PB vs.length p->SoTo (O:=lexO) (fun i=>ks.getD i []) p vs.length->Q .none {s with heap:=h'}):
  wpAny (model prog w) A (call (.builtin "list.sort") [.ref D]) Q E s:=by
 have kept:=fun {h':Heap} (F':Fr h₀ L h' m) (N':News h₀ L h' (L2.rest h₀ s.heap L D))=>L2.a2g (d:=D) k0 F' N'
 refine kat_lsort (vs:=vs) F (L2.a9Z hDL hD0 hD) (.head L2.a5A) (by simp) h2 h64 fun e1 h' F' N'=>?_
 have K':=kept F' fun p hp=>N' p (List.mem_cons_of_mem _ hp)
 have T':Tups h' vs ks:=T.on fun a o ma e=>K' a o (fun z=>nL (z▸ma)) (fun z=>nD (z▸ma)) e
 obtain ⟨fs,f1,f2,f3⟩:=katTups T'
 refine kat_kind (s:={s with heap:=h'}) (T:=.type "int") f1 (by rw [f2,<-T.len];walk_at "o") (fun v hv=>by obtain ⟨i,u,rfl⟩:=f3 v hv;exact Looks.of_pure rfl) (by decide) ?_
 have tb:(Value.type "int" != Value.type "tuple")=true:=by decide
 rw [tb]
 refine a6k (s:={s with heap:=h'}) (n:=vs.length) (lt:=ltK (O:=lexO) fun i=>ks.getD i []) (fun i j C hi hj c=>a92 (s:={s with heap:=h'}) T' i j C hi hj c) _ (a9c (by walk_at "o") fun p hp hs=>?_)
 refine KasFin.intro F' N' (.head L2.a5A) fun h3 c F3 N3=>?_
 exact q h3 p c F3 (kept F3 fun p hp=>N3 p (List.mem_cons_of_mem _ hp)) (N3 _ List.mem_cons_self).1 hp hs
theorem a42 {Q:Value->Shared->Prop}(hD:s.heap.get? D=some (listOf vs.toArray 0))(h2:vs.length < 2)
  (q:∀(h':Heap) (e:Nat),(∀b o,b≠D->s.heap.get? b=some o->h'.get? b=some o)->h'.get? D=some (listOf vs.toArray e)->Q .none {s with heap:=h'}):
  wpAny (model prog w) A (call (.builtin "list.sort") [.ref D]) Q E s:=by
 refine wpAny_call_entry slot_list_sort ⟨_,hD,rfl⟩ entry_list_sort ?_ (args_list_sort _)
 rw [list_sort_plain]
 have lt:D < s.heap.objs.size:=Heap.lt_size hD
 refine wpAny_bind (listItems_at hD rfl (wpAny_bind (listUpdate_at hD rfl ?_)))
 obtain ⟨e1,k1⟩:∃e1,(s.heap.update D (PySem.Obj.mapSeq fun _=> #[])).get? D=some (seqObj "list" #[] e1):=⟨_,get?_update_seq hD (fun _=> #[])⟩
 refine wpAny_bind (seqEpoch_at k1 rfl (wpAny_bind (wpAny_newTuple (wpAny_bind (wpAny_newList (wpAny_holding ?_))))))
 have k2:(((s.heap.update D (PySem.Obj.mapSeq fun _=> #[])).push (seqObj "tuple" vs.toArray 0)).push (seqObj "list" #[] 0)).get? D=some (seqObj "list" #[] e1):=Heap.get?_push_of_some _ (Heap.get?_push_of_some _ k1)
 show wpAny (model prog w) _ _ _ E {s with heap:=((s.heap.update D (PySem.Obj.mapSeq fun _=> #[])).push (seqObj "tuple" vs.toArray 0)).push (seqObj "list" #[] 0)}
 dsimp only
 have sz:vs.toArray.size < 2:=by simpa using h2
 rw [if_pos sz,if_pos sz]
 refine wpAny_bind (wpAny_pure ?_)
 rw [StateT.run_pure]
 refine wpAny_bind (wpAny_pure ?_)
 dsimp only
 have out:(arrOf (SortSt.mk' general' (vs.toArray.zip vs.toArray) #[] 7 none)).map (·.2)=vs.toArray:=by
  show (vs.toArray.zip vs.toArray).map (·.2)=vs.toArray
  have e:(vs.toArray.zip vs.toArray)=(vs.zip vs).toArray:=by simp
  rw [e,List.map_toArray]
  congr 1
  exact List.map_snd_zip (Nat.le_refl _)
 rw [out]
 refine wpAny_bind (seqEpoch_at k2 rfl (wpAny_bind (listUpdate_at k2 rfl ?_ (hsz2:=by rw [sizeLine_eq];walk_at "o"))))
 simp only [bne_self_eq_false,Bool.false_eq_true,if_false]
 obtain ⟨e2,k3⟩:∃e2,((((s.heap.update D (PySem.Obj.mapSeq fun _=> #[])).push (seqObj "tuple" vs.toArray 0)).push (seqObj "list" #[] 0)).update D (PySem.Obj.mapSeq fun _=>vs.toArray)).get? D=some (seqObj "list" vs.toArray e2):=⟨_,get?_update_seq k2 (fun _=>vs.toArray)⟩
 refine wpAny_pure ⟨_,rfl,q _ e2 (fun b o hb e=>?_) k3⟩
 rw [Heap.get?_update_ne _ _ _ _ hb]
 refine Heap.get?_push_of_some _ (Heap.get?_push_of_some _ ?_)
 rw [Heap.get?_update_ne _ _ _ _ hb]
 exact e
end
abbrev kleB (a b:List Int):Bool:=!HT.lexLt b a
def sortK (ks:List (List Int)):List (List Int):=ks.mergeSort kleB
theorem i0 (ks:List (List Int)):(sortK ks).Perm ks:=List.mergeSort_perm ks _
theorem C7 (ks:List (List Int)):(sortK ks).Pairwise fun a b=>HT.lexLt b a=false:=by
 have:=List.pairwise_mergeSort (le:=kleB) (fun a b c h1 h2=>by
  simp only [kleB,Bool.not_eq_true'] at *
  exact KeyOrd.kle_trans (O:=lexO) h1 h2) (fun a b=>by
  simp only [kleB,Bool.or_eq_true,Bool.not_eq_true']
  cases q:HT.lexLt b a with
  | false=>exact .inl rfl
  | true=>exact .inr (KeyOrd.klt_asymm (O:=lexO) q)) ks
 exact this.imp fun h=>by simpa [kleB] using h
theorem a1z:∀{l1 l2:List (List Int)},l1.Perm l2->(l1.Pairwise fun a b=>HT.lexLt b a=false)->(l2.Pairwise fun a b=>HT.lexLt b a=false)->l1=l2
 | [],l2,h,_,_=>(List.nil_perm.mp h).symm
 | a :: l1,[],h,_,_=>by have:=h.length_eq;simp at this
 | a :: l1,b :: l2,h,h1,h2=>by
  have h1':=List.pairwise_cons.mp h1
  have h2':=List.pairwise_cons.mp h2
  have e:a=b:=by
   have ma:a∈b :: l2:=h.mem_iff.mp List.mem_cons_self
   have mb:b∈a :: l1:=h.mem_iff.mpr List.mem_cons_self
   rcases List.mem_cons.mp ma with z | z
   ·exact z
   ·rcases List.mem_cons.mp mb with y | y
    ·exact y.symm
    ·exact a29 a b (h2'.1 a z) (h1'.1 b y)
  subst e
  rw [a1z ((List.perm_cons a).mp h) h1'.2 h2'.2]
inductive Al (K:PySem.W.Frag) (H:Hp):List Addr->List (List Int)->Prop where
 | nil:Al K H [] []
 | cons {a:Addr} {k:List Int} {as:List Addr} {ks:List (List Int)} (q:SqT K H a (k.map V.int)) (r:Al K H as ks):Al K H (a :: as) (k :: ks)
section
variable {K:PySem.W.Frag}{H:Hp}
theorem Al.len {as:List Addr}{ks:List (List Int)}(h:Al K H as ks):as.length=ks.length:=by
 induction h with
 | nil=>rfl
 | cons _ _ ih=>simp [ih]
theorem Al.at {as:List Addr}{ks:List (List Int)}(h:Al K H as ks):∀{i:Nat},i < as.length->SqT K H (as.getD i 0) ((ks.getD i []).map V.int):=by
 induction h with
 | nil=>intro i hi;simp at hi
 | cons q r ih=>
  intro i hi
  cases i with
  | zero=>exact q
  | succ i=>exact ih (i:=i) (by simpa using hi)
theorem Al.pick {as:List Addr}{ks:List (List Int)}(h:Al K H as ks):∀{l:List Nat},(∀i∈l,i < as.length)->Al K H (l.map fun i=>as.getD i 0) (l.map fun i=>ks.getD i [])
 | [],_=>.nil
 | i :: l,hl=>.cons (h.at (hl i List.mem_cons_self)) (h.pick fun j hj=>hl j (List.mem_cons_of_mem _ hj))
theorem Al.den {O:Av}{as:List Addr}{ks:List (List Int)}(h:Al K H as ks):DenL K O H (ks.map tupI) (as.map V.ref):=by
 induction h with
 | nil=>exact j4
 | cons q r ih=>
  refine g8 ?_ ih
  unfold tupI
  rw [Den]
  exact ⟨_,_,rfl,q,z8 _⟩
end
theorem a03 {K:PySem.W.Frag}{O:Av}{H:Hp}:∀{ds:List D} {ks:List (List Int)} {vs:List V},tupsOf ds=some ks->DenL K O H ds vs->∃as,vs=as.map V.ref/\Al K H as ks
 | [],ks,vs,e,l=>by rw [DenL] at l;subst l;cases e;exact ⟨[],rfl,.nil⟩
 | d :: ds,ks,vs,e,l=>by
  rw [DenL] at l
  obtain ⟨v,r,rfl,h,l⟩:=l
  cases d <;> simp only [tupsOf] at e <;> try cases e
  rename_i xs
  cases e1:intsOf xs with
  | none=>rw [e1] at e;cases e
  | some k=>
   rw [e1] at e
   simp only [Option.bind_some] at e
   cases e2:tupsOf ds with
   | none=>rw [e2] at e;cases e
   | some ks'=>
    rw [e2] at e;cases e
    obtain ⟨as,rfl,a⟩:=a03 e2 l
    rw [p9 e1,Den] at h
    obtain ⟨p,us,rfl,q,lu⟩:=h
    rw [m8 lu] at q
    exact ⟨p :: as,rfl,.cons q a⟩
section
variable {X:Cx}{pins:List (Addr×PySem.Obj)}{σ:L2.St}{H:Hp}{s:Shared}
theorem Al.tups {as:List Addr}{ks:List (List Int)}(I:Inv X pins σ H s)(h:Al X.K H as ks)(ne:∀k∈ks,k≠[]):Tups s.heap (as.map Value.ref) ks:=by
 induction h with
 | nil=>exact .nil
 | cons q r ih=>
  obtain ⟨its,r1,p1,_⟩:=I.tuple q
  exact .cons p1 (J0 r1) (ne _ List.mem_cons_self) (ih fun k hk=>ne k (List.mem_cons_of_mem _ hk))
theorem a1Z:∀as:List Addr,Vals (as.map V.ref) (as.map Value.ref)
 | []=>.nil
 | a :: as=>.cons rfl (a1Z as)
theorem V8:∀{as:List Addr} {us:List Value},Vals (as.map V.ref) us->us=as.map Value.ref
 | [],us,r=>by cases r;rfl
 | a :: as,us,r=>by
  cases r with
  | cons h t=>cases h;rw [V8 t];rfl
theorem a1X {A:Around}{E:Value->Shared->Prop}{as:List Addr}{ks:List (List Int)}{Q:VK}(I:Inv X pins σ H s)(a:Al X.K H as ks)(ne:∀k∈ks,k≠[])(h64:ks.length < 64)
  (q:∀l bs,H l=none->Al X.K H bs (sortK ks)->Q (.ref l) (upd H l (.lst (bs.map V.ref)))):
  wpAny (model X.prog X.w) A (call (.builtin "list.sort") [.ref s.heap.objs.size]) (fun _ s'=>EP X pins σ Q (.ref s.heap.objs.size) s') E {s with heap:=s.heap.push (PySem.W.listOf (as.map Value.ref).toArray 0)}:=by
 have I2:Inv X pins σ H {s with heap:=s.heap.push (PySem.W.listOf (as.map Value.ref).toArray 0)}:=I.kept (t':=s.toks) fun b o e=>Heap.get?_push_of_some _ e
 obtain ⟨m,F⟩:=I2.fr
 have T:=a.tups I2 ne
 have fr:H s.heap.objs.size=none:=I.hok.fresh (Nat.le_refl _)
 have hD:(s.heap.push (PySem.W.listOf (as.map Value.ref).toArray 0)).get? s.heap.objs.size=some (PySem.W.listOf (as.map Value.ref).toArray 0):=Heap.get?_push_size _ rfl
 have dL:s.heap.objs.size≠X.env.locals:=Nat.ne_of_gt I.lt
 have al:=a.len
 have fin:∀(h':Heap) (p:List Nat) (ec:Nat),Fr X.base X.env.locals h' m->(∀b o,b≠X.env.locals->b≠s.heap.objs.size->(s.heap.push (PySem.W.listOf (as.map Value.ref).toArray 0)).get? b=some o->h'.get? b=some o)->
   h'.get? s.heap.objs.size=some (PySem.W.listOf (p.map fun i=>Value.ref (as.getD i 0)).toArray ec)->p.Perm (List.range ks.length)->((p.map fun i=>ks.getD i []).Pairwise fun a b=>HT.lexLt b a=false)->EP X pins σ Q (.ref s.heap.objs.size) {s with heap:=h'}:=fun h' p ec F' kp hD' pp ps=>by
  have lt:∀i∈p,i < as.length:=fun i hi=>by have:=pp.mem_iff.mp hi;rw [al];simpa using this
  have ek:(p.map fun i=>ks.getD i [])=sortK ks:=by
   refine a1z (((pp.map _).trans ?_).trans (i0 ks).symm) ps (C7 ks)
   have:(List.range ks.length).map (fun i=>ks.getD i [])=ks:=by
    apply List.ext_getElem?
    intro i
    by_cases hi:i < ks.length
    ·rw [List.getElem?_map,List.getElem?_range hi];simp [hi]
    ·rw [List.getElem?_eq_none (by simp;walk_at "o"),List.getElem?_eq_none (by walk_at "o")]
   rw [this]
  have pk:=a.pick lt
  rw [ek] at pk
  have kept:∀b o,b≠X.env.locals->s.heap.get? b=some o->h'.get? b=some o:=fun b o hb e=>kp b o hb (Nat.ne_of_lt (Heap.lt_size e)) (Heap.get?_push_of_some _ e)
  have nD:∀b o,s.heap.get? b=some o->b≠s.heap.objs.size:=fun b o e=>Nat.ne_of_lt (Heap.lt_size e)
  have nH:∀b u,H b=some u->b≠s.heap.objs.size:=fun b u e=>m4 e fr
  have nLH:∀b u,H b=some u->b≠X.env.locals:=fun b u e z=>by rw [z,I.free] at e;cases e
  refine ⟨.ref s.heap.objs.size,upd H s.heap.objs.size (.lst ((p.map fun i=>as.getD i 0).map V.ref)),?_,rfl,q _ _ fr pk⟩
  refine I.step (g':=s.gens) (t':=s.toks) (d':=s.drawn) (ch:=[]) (fun _ z=>nomatch z) (fun b o hL _ _ e _=>kept b o hL e) (fun b o hL _ _ e _=>⟨o.slots,kept b o hL e⟩) (fun b o _ e n=>by rw [c8 (nD b o e)];exact n) (fun b o _ e=>?_)
   (fun b xs e=>by rw [c8 (nH _ _ e)];exact e) (fun b o u e=>by rw [c8 (nH _ _ e)];exact e) (fun b ps e=>⟨#[],by rw [c8 (nH _ _ e),e];simp⟩) (fun m' hm=>?_) (fun b u e=>?_) I.bare
  ·by_cases hL:b=X.env.locals
   ·obtain ⟨o',_,_,e',_⟩:=F'.ns
    rw [hL];exact ⟨o',e'⟩
   ·exact ⟨o,kept b o hL e⟩
  ·have e1:m'=m:=by
    have z1:(s.heap.push (PySem.W.listOf (as.map Value.ref).toArray 0)).Ns X.env.locals m':=by
     obtain ⟨o,es,ep,e,r⟩:=hm
     exact ⟨o,es,ep,Heap.get?_push_of_some _ e,r⟩
    rw [z1.eq_nsMap,F.ns.eq_nsMap]
   rw [e1];exact F'.ns
  ·by_cases hb:b=s.heap.objs.size
   ·subst hb
    rw [j9] at e;cases e
    refine ⟨?_,(p.map fun i=>as.getD i 0).map Value.ref,ec,a1Z _,?_⟩
    ·rw [List.length_map,List.length_map,pp.length_eq,List.length_range,sizeLine_eq];walk_at "o"
    ·rw [hD'];simp [List.map_map,Function.comp_def]
   ·rw [c8 hb] at e
    refine (I.hok b u e).stay (fun c v hc z=>kept c v (by
     rcases hc with w | w
     ·rw [w];exact nLH b u e
     ·exact nLH c _ w) z) (fun c z=>by rw [c8 (nH _ _ z)];exact z) fun c ys z=>by rw [c8 (nH _ _ z)];exact z
 have gr:∀p:List Nat,(∀i∈p,i < as.length)->(p.map fun i=>(as.map Value.ref).getD i .none)=p.map fun i=>Value.ref (as.getD i 0):=fun p hp=>List.map_congr_left fun i hi=>by simp [hp i hi]
 have tp:∀{vs:List Value} {ks:List (List Int)},Tups s.heap vs ks->∀a,Value.ref a∈vs->∃its,IsTup s.heap a its:=fun {vs ks} t=>by
  induction t with
  | nil=>intro a z;cases z
  | cons x i ne r ih=>
   intro a z
   rcases List.mem_cons.mp z with z | z
   ·cases z;exact ⟨_,x⟩
   ·exact ih a z
 have tp:=tp (a.tups I ne)
 by_cases h2:ks.length < 2
 ·refine a42 hD (by rw [List.length_map,al];exact h2) fun h' e kp hD'=>fin h' (List.range ks.length) e ⟨?_,fun b o eb=>kp b o (fun z=>?_) (F.keep b o eb),F.above⟩ (fun b o _ hb eb=>kp b o hb eb) ?_ (List.Perm.refl _) ?_
  ·obtain ⟨o,es,ep,e1,r⟩:=F.ns
   exact ⟨o,es,ep,kp _ o (Ne.symm dL) e1,r⟩
  ·have:=I.bk b o eb
   exact absurd (Heap.lt_size this) (by rw [z];exact Nat.lt_irrefl _)
  ·rw [hD',<-al]
   congr 3
   apply List.ext_getElem?
   intro i
   by_cases hi:i < as.length
   ·rw [List.getElem?_map,List.getElem?_map,List.getElem?_range hi];simp [hi]
   ·rw [List.getElem?_eq_none (by simp;walk_at "o"),List.getElem?_eq_none (by simp;walk_at "o")]
  ·match ks,h2 with
   | [],_=>exact .nil
   | [k],_=>exact List.pairwise_singleton _ _
 ·refine a66 F hD dL ?_ T (fun z=>?_) (fun z=>?_) F.keep (by rw [List.length_map,al];walk_at "o") (by rw [List.length_map,al];walk_at "o") fun h' p e F' kp hD' hp hs=>?_
  ·cases q0:X.base.get? s.heap.objs.size with
   | none=>rfl
   | some o=>exact absurd (Heap.lt_size (I.bk _ o q0)) (Nat.lt_irrefl _)
  ·obtain ⟨its,o,e1,_⟩:=tp _ z
   exact absurd (Heap.lt_size e1) (Nat.lt_irrefl _)
  ·obtain ⟨its,o,e1,_,n,d1⟩:=tp _ z
   obtain ⟨m2,⟨o2,es,ep,e2,d2,_⟩,_⟩:=id I.loc
   rw [e1] at e2;cases e2
   rw [d1] at d2;cases d2
  ·have pp:p.toList.Perm (List.range ks.length):=by
    have:=Array.perm_iff_toList_perm.mp hp.perm
    rw [List.length_map,al] at this
    simpa using this
   have sz:p.size=ks.length:=by rw [hp.size,List.length_map,al]
   refine fin h' p.toList e F' kp ?_ pp ?_
   ·rw [hD',gr p.toList fun i hi=>by have:=pp.mem_iff.mp hi;rw [al];simpa using this]
   ·rw [List.pairwise_iff_getElem]
    intro i j hi hj hij
    have hj':j < p.size:=by simpa using hj
    have hi':i < p.size:=by simpa using hi
    have z:=hs i j (Nat.le_of_lt hij) (by rw [List.length_map,al,<-sz];exact hj')
    simp only [List.getElem_map,Array.getElem_toList]
    unfold Ky at z
    have g1:p.getD i 0=p[i]:=by simp [Array.getD,hi']
    have g2:p.getD j 0=p[j]:=by simp [Array.getD,hj']
    rw [g1,g2] at z
    exact z
end
def SrcT (K:PySem.W.Frag) (H:Hp) (p:Addr) (ks:List (List Int)):Prop:=(∃as,SqL K H p (as.map V.ref)/\Al K H as ks)\/∃vs,H p=some (.dT ((ks.map fun k=>k.map Sum.inl).zip vs))/\ks.length=vs.length
theorem b11 (k:List Int):(k.map (Sum.inl:Int->Key)).map kV=k.map V.int:=by rw [List.map_map];rfl
theorem b1D {K:PySem.W.Frag}{H:Hp}:∀{ks:List (List Int)} {vs:List V} {xs:List (List Key×Addr×Value)},ks.length=vs.length->KT H ((ks.map fun k=>k.map Sum.inl).zip vs) xs->Al K H (xs.map (·.2.1)) ks
 | [],vs,xs,hl,r=>by
  rw [List.map_nil,List.zip_nil_left] at r
  cases r;exact .nil
 | k :: ks,[],xs,hl,r=>by simp at hl
 | k :: ks,v :: vs,xs,hl,r=>by
  rw [List.map_cons,List.zip_cons_cons] at r
  cases r with
  | cons h t=>
   obtain ⟨h1,h2,_⟩:=h
   rw [List.map_cons]
   refine .cons (.inl (.inl ?_)) (b1D (by simpa using hl) t)
   rw [h2,b11]
section
variable {X:Cx}{e:Expr}{pos p:Pos}{fa:FA}
theorem a2n (hc:X.calm=true):CallR X (.builtin "sorted") (fun xs H Q=>∃p ks,xs=[.ref p]/\SrcT X.K H p ks/\ks.length < 64/\(∀k∈ks,k≠[])/\∀l bs,H l=none->Al X.K H bs (sortK ks)->Q (.ref l) (upd H l (.lst (bs.map V.ref)))):=by
 intro pins s σ H xs us Q I r h
 obtain ⟨p,ks,rfl,src,h64,ne,q⟩:=h
 obtain ⟨u,rfl,ru⟩:=vals1 r
 cases ru
 refine Calls.call_function_entry kind_sorted plain_sorted entry_sorted (args_sorted1 _) ?_
 unfold Builtin.«sorted»
 refine wpAny_bind (m:=checkCount "sorted" 1 1 _) (wpAny_pure ?_)
 rcases src with ⟨as,hq,al⟩ | ⟨vs,hq,hl⟩
 ·have len:=al.len
  obtain ⟨its,rv,⟨o,m,h1,h2,_,h4⟩,hz⟩:=I.list hq
  have ei:=V8 rv
  subst ei
  have hL:s.heap.IsList p (as.map Value.ref).toArray:=⟨o,h1,h2,m,h4⟩
  have sz:(as.map Value.ref).length<=sizeLine:=by rw [List.length_map,len,sizeLine_eq];walk_at "o"
  refine wpAny_bind (collect_list hL ?_ sz)
  refine wpAny_bind (wpAny_newList ?_ sz)
  have I1:Inv X pins σ H {s with heap:=(s.heap.push (seqObj "list" #[] 0)).update s.heap.objs.size (PySem.Obj.mapSeq (· ++ (as.map Value.ref).toArray))}:=I.kept (t':=s.toks) fun b o e=>by
   rw [Heap.get?_update_ne _ _ _ _ (Nat.ne_of_lt (Heap.lt_size e))];exact Heap.get?_push_of_some _ e
  refine wpAny_bind (wpAny_holding (wpAny_mono (a1X I1 al ne h64 q) (fun _ s' x=>?_) fun _ _ z=>z))
  exact wpAny_pure ⟨_,rfl,x⟩
 ·obtain ⟨z,hs,xs,rel,o,es,ep,h1,h2,h3,h4,h5⟩:=(show ObjOk X.prog X.w H s.heap p (.dT ((ks.map fun k=>k.map Sum.inl).zip vs)) from I.hok p _ hq)
  have al:=b1D (K:=X.K) hl rel
  have len:=al.len
  have sz:es.size=ks.length:=by rw [<-len,List.length_map,<-Array.length_toList,h4,List.length_map]
  have szl:es.size<=sizeLine:=by rw [sz,sizeLine_eq];walk_at "o"
  refine wpAny_bind (PySem.W.kdu_collect (a9M (es:=es) (ep:=ep) hs) (show X.A.in1.handled=none from I.ok.hd hc) ⟨o,h1,h2,h3⟩ szl fun h' tk acc hk hacc=>?_)
  have ea:acc.toList=(xs.map (·.2.1)).map Value.ref:=by
   have e0:(xs.map (·.2.1)).map Value.ref=es.toList.map (·.key):=by rw [h4,List.map_map,List.map_map];rfl
   rw [e0]
   apply List.ext_getElem?
   intro i
   rw [Array.getElem?_toList,List.getElem?_map,Array.getElem?_toList]
   by_cases hi:i < es.size
   ·have hi2:i < acc.size:=by rw [hacc.1];exact hi
    obtain ⟨e,he,hv⟩:=hacc.2 i acc[i] (by simp [hi2])
    rw [he,Array.getElem?_eq_getElem hi2,hv];rfl
   ·rw [Array.getElem?_eq_none (by rw [hacc.1];walk_at "o"),Array.getElem?_eq_none (by walk_at "o")];rfl
  rw [ea]
  refine wpAny_bind (wpAny_newList ?_ (by rw [List.length_map,len,<-sz];exact szl))
  have I1:Inv X pins σ H {s with heap:=h',toks:=tk}:=I.kept (t':=tk) hk
  refine wpAny_bind (wpAny_holding (wpAny_mono (a1X I1 al ne h64 q) (fun _ s' x=>?_) fun _ _ z=>z))
  exact wpAny_pure ⟨_,rfl,x⟩
def inlK:List Key->Option (List Int)
 | []=>some []
 | Sum.inl i :: k=>(inlK k).map fun j=>i :: j
 | Sum.inr _ :: _=>none
def inlKs:List (List Key)->Option (List (List Int))
 | []=>some []
 | k :: ks=>(inlK k).bind fun j=>(inlKs ks).map fun js=>j :: js
theorem a6c:∀{k:List Key} {j:List Int},inlK k=some j->k=j.map Sum.inl
 | [],j,e=>by cases e;rfl
 | Sum.inr _ :: _,j,e=>by cases e
 | Sum.inl i :: k,j,e=>by
  rw [inlK] at e
  cases e1:inlK k with
  | none=>rw [e1] at e;cases e
  | some js=>rw [e1] at e;cases e;rw [List.map_cons,<-a6c e1]
theorem a3f:∀{ks:List (List Key)} {js:List (List Int)},inlKs ks=some js->ks=js.map fun k=>k.map Sum.inl
 | [],js,e=>by cases e;rfl
 | k :: ks,js,e=>by
  rw [inlKs] at e
  cases e1:inlK k with
  | none=>rw [e1] at e;cases e
  | some j=>
   cases e2:inlKs ks with
   | none=>rw [e1,e2] at e;cases e
   | some js'=>rw [e1,e2] at e;cases e;rw [List.map_cons,<-a3f e2,<-a6c e1]
theorem a4a:∀k:List Int,inlK (k.map Sum.inl)=some k
 | []=>rfl
 | i :: k=>by rw [List.map_cons,inlK,a4a k];rfl
theorem a1r:∀ks:List (List Int),inlKs (ks.map fun k=>k.map Sum.inl)=some ks
 | []=>rfl
 | k :: ks=>by rw [List.map_cons,inlKs,a4a,a1r ks];rfl
def keysOf:D->Option (List (List Int))
 | .dT ks _=>inlKs ks
 | .lst ds=>tupsOf ds
 | _=>none
def gSortT (d:D):Option W:=(keysOf d).bind fun ks=>if ks.length < 64/\(∀k∈ks,k≠[]) then some (.o (.lst ((sortK ks).map tupI))) else none
def gSort (d:D):Option W:=match gSortI d with
 | some w=>some w
 | none=>gSortT d
theorem a4J {K:PySem.W.Frag}{A:Av}{H:Hp}{d:D}{ks:List (List Int)}{v:V}(e:keysOf d=some ks)(h:DenR K A H d v):∃p,v= .ref p/\SrcT K H p ks:=by
 cases d with
 | dT js xs=>
  obtain ⟨a,vs,rfl,hq,hl,l⟩:=h
  have ej:=a3f e
  subst ej
  exact ⟨a,rfl,.inr ⟨vs,hq,by rw [<-c5 l,<-hl,List.length_map]⟩⟩
 | lst ds=>
  obtain ⟨a,vs,rfl,hq,l⟩:=h
  obtain ⟨as,rfl,al⟩:=a03 e l
  exact ⟨a,rfl,.inl ⟨as,hq,al⟩⟩
 | _=>cases e
theorem a8T:PrA X (k1 gSortT) (fun xs H Q=>∃p ks,xs=[.ref p]/\SrcT X.K H p ks/\ks.length < 64/\(∀k∈ks,k≠[])/\∀l bs,H l=none->Al X.K H bs (sortK ks)->Q (.ref l) (upd H l (.lst (bs.map V.ref)))):=pr1 fun A d w v H Q e h q=>by
 unfold gSortT at e
 cases e1:keysOf d with
 | none=>rw [e1] at e;cases e
 | some ks=>
  rw [e1] at e
  simp only [Option.bind_some] at e
  split at e
  ·rename_i hl
   cases e
   obtain ⟨a,rfl,src⟩:=a4J e1 h
   exact ⟨a,ks,rfl,src,hl.1,hl.2,fun l bs hp al=>q _ _ (j3 hp _) (D9 hp al.den)⟩
  ·cases e
theorem a9E:PrA X (k1 gSort) (fun xs H Q=>(∃(p:Addr) (ns:List Int),xs=[.ref p]/\SqL X.K H p (ns.map V.int)/\ns.length < 64/\∀l,H l=none->Q (.ref l) (upd H l (.lst ((sortI ns).map V.int))))\/
  ∃p ks,xs=[.ref p]/\SrcT X.K H p ks/\ks.length < 64/\(∀k∈ks,k≠[])/\∀l bs,H l=none->Al X.K H bs (sortK ks)->Q (.ref l) (upd H l (.lst (bs.map V.ref)))):=fun A ds w vs H Q hA e l q=>by
 match ds,e,l with
 | [d],e,l=>
  have e:gSort d=some w:=e
  unfold gSort at e
  cases e1:gSortI d with
  | some w'=>rw [e1] at e;cases e;exact .inl (a7J A [d] w vs H Q hA e1 l q)
  | none=>rw [e1] at e;exact .inr (a8T A [d] w vs H Q hA e l q)
theorem z9 {k:Nat}(hr:Room k X.A)(hc:X.calm=true)(hm:X.mg "sorted"=none)(ha:QA X [e] fa)(hv:bootBuiltins "sorted"=some (.builtin "sorted"):=by rfl)(hg:Gl X "sorted":=by rfl)
  (he:starEach [e] X.env=(false,eval e X.env) :: starEach [] X.env:=by rfl):QX X (.Call (.Name "sorted" p) [e] [] pos) (fCall (k1 gSort) fa):=a0N (a23.or (a2n hc)) a9E hv hm ha hg (by decide) (by decide) he rfl
end
section
variable {prog:Program}{w:World}{A:Around}{R:Result->Shared->Prop}{s:Shared}
theorem a46 {kx vx tg iter:Expr}{ifs:List Expr}{scope:Scope}{pos:Pos}{it:Value}{D:Addr}{env:Env}(I:Nat->Shared->Prop)
  (turn:∀n s,I n s->wpAny (model prog w) A (pyNext it) (fun r s1=>match r with
   | none=>R (.ok .next) s1
   | some v=>wpAny (model prog w) A (letOwnedTupleGo tg it v) (fun _ s2=>wpAny (model prog w) A (assign tg env v) (fun _ s3=>
     wpAny (model prog w) A (forIn ifs true fun c r=>if r=true then do let ok <-isTrue c env (eval c env);pure (ForInStep.yield ok) else pure (ForInStep.yield r)) (fun ok s4=>
      if ok=true then wpAny (model prog w) A (eval kx env) (fun kv s5=>wpAny (model prog w) A (eval vx env) (fun vv s6=>wpAny (model prog w) A (dictSet D kv vv) (fun _ s7=>∃m,m < n/\I m s7) Fa s6) Fa s5) Fa s4
      else ∃m,m < n/\I m s4) Fa s3) Fa s2) Fa s1) Fa s)
  (n:Nat) (h:I n s):codeAny (model prog w) A (.compLoop (.DictComp kx vx [⟨tg,iter,ifs,0⟩] scope pos) 0 it (.ref D) env) R s:=by
 refine codeAny_loop rfl I (fun n s hI=>?_) n h
 show wpAny _ A ((compTurn (.DictComp kx vx [⟨tg,iter,ifs,0⟩] scope pos) 0 it (.ref D) env).onRaise (fun x=>do noteFrame x env;theTreesLotGoes x)) _ _ s
 refine wpAny_noted ?_
 rw [compTurn_dict]
 refine wpAny_bind (wpAny_standAt (wpAny_bind (wpAny_mono (turn n s hI) (fun r s1 h1=>?_) fun _ _ z=>z.elim)))
 cases r with
 | none=>exact wpAny_pure h1
 | some v=>
  refine wpAny_bind (wpAny_mono h1 (fun _ s2 h2=>wpAny_bind (wpAny_mono h2 (fun _ s3 h3=>wpAny_bind (wpAny_mono h3 (fun ok s4 h4=>?_) fun _ _ z=>z.elim)) fun _ _ z=>z.elim)) fun _ _ z=>z.elim)
  cases ok with
  | true=>
   rw [if_pos rfl] at h4 ⊢
   exact wpAny_bind (wpAny_bind (wpAny_mono h4 (fun kv s5 h5=>wpAny_bind (wpAny_holding (wpAny_mono h5 (fun vv s6 h6=>wpAny_bind (wpAny_standAt (wpAny_holding (wpAny_mono h6 (fun _ s7 h7=>wpAny_pure ⟨rfl,h7⟩) fun _ _ z=>z.elim)))) fun _ _ z=>z.elim))) fun _ _ z=>z.elim))
  | false=>
   rw [if_neg Bool.false_ne_true] at h4 ⊢
   first | exact wpAny_pure ⟨rfl,h4⟩ | exact wpAny_bind (wpAny_pure (wpAny_pure ⟨rfl,h4⟩))
end
section
variable {X:Cx}{pins:List (Addr×PySem.Obj)}{σ:L2.St}{H2:Hp}{s2 s4:Shared}{scope:Scope}{cl:List (Str×Addr)}{N:List Str}{js:List (Option Nat)}{fp:List Addr}{Dd C:Addr}{m:Str->Option Value}
theorem a8V (I:Inv X pins σ H2 s2)(b:Blk X scope cl N js)(f2:∀y∈fp,FpOk X pins H2 y)(fl:∀y∈fp,y < s2.heap.objs.size)(hC:s2.heap.objs.size<=C)(hD:s2.heap.objs.size<=Dd)(ne:Dd≠C)
  (ho:s4.os=s2.os) (hg:AllBare s4.gens) (kp:∀y o,s2.heap.get? y=some o->s4.heap.get? y=some o) (hn:s4.heap.Ns C m) (hk:HOk X.prog X.w (upd H2 Dd (.dT [])) s4.heap):
  Inv (blk X scope cl s2 H2 fp C (N ++ [accN])) [] (capS js σ ++ [some (.ref Dd)]) (upd H2 Dd (.dT [])) s4:=by
 have nD:∀y o,s2.heap.get? y=some o->y≠Dd:=fun y o e=>Nat.ne_of_lt (Nat.lt_of_lt_of_le (Heap.lt_size e) hD)
 have nH:∀y u,H2 y=some u->y≠Dd:=fun y u e=>Nat.ne_of_lt (Nat.lt_of_lt_of_le (I.hok.lt e) hD)
 have cD:∀x c,X.env.cells.lookup x=some c->c≠Dd:=fun x c e=>by
  obtain ⟨v,o,e1,_⟩:=I.cell x c e
  exact nD c o e1
 refine ⟨a9A I b f2 fl hC,ho,hg,⟨fun y o e _ _ _=>kp y o e,fun y o e _ _ _=>⟨o.slots,kp y o e⟩,fun y o e n _=>?_,fun y o e _=>⟨o,kp y o e⟩,fun y xs e=>?_,fun y o u e=>?_,fun y ps e=>?_⟩,⟨m,hn,fun i x v e1 e2 e3=>?_⟩,fun x c e=>?_,?_,fun x c e=>?_,fun p hp=>absurd (show p∈([]:List (Addr×PySem.Obj)) from hp) (by simp),hk,?_⟩
 ·rw [c8 (nD y o e)];exact n
 ·rw [c8 (nH _ _ e)];exact e
 ·rw [c8 (nH _ _ e)];exact e
 ·have e':H2 y=some (.tbl ps):=e
  exact ⟨#[],by rw [c8 (nH _ _ e'),e'];simp⟩
 ·have hl:js.length=N.length:=b.cap.len
  by_cases hi:i < N.length
  ·have e1':N[i]? =some x:=by
    have z:(N ++ [accN])[i]? =some x:=e1
    rw [List.getElem?_append_left hi] at z;exact z
   rw [List.getElem?_append_left (by unfold capS;simp;walk_at "o")] at e2
   unfold capS at e2
   rw [List.getElem?_map] at e2
   obtain ⟨o,ej,e2⟩:=oms e2
   cases o with
   | none=>cases e2
   | some j=>
    obtain ⟨c1,c2,c3,c4⟩:=b.cap.get e1' ej
    simp only [Option.map_some,Option.bind_some] at e2
    have e2':σ[j]? =some (some v):=by
     cases q:σ[j]? with
     | none=>rw [q] at e2;cases e2
     | some o=>rw [q] at e2;simp at e2;rw [e2]
    obtain ⟨m2,_,hl2⟩:=I.loc
    obtain ⟨u,r,lk⟩:=hl2 j x v c1 e2' (.inr (.inl c2))
    refine ⟨u,r,.inr ⟨.inl c3,?_⟩⟩
    rcases lk with ⟨k,_⟩ | ⟨_,c,e,z⟩
    ·have k':X.env.scope.names.lookup x=some .local:=k
     rw [c2] at k';cases k'
    ·exact ⟨c,c4.trans e,z.keeps kp⟩
  ·have hx:x=accN:=by
    have z:(N ++ [accN])[i]? =some x:=e1
    rw [List.getElem?_append_right (by walk_at "o")] at z
    cases q:i - N.length with
    | zero=>rw [q] at z;simp at z;exact z.symm
    | succ k=>rw [q] at z;simp at z
   subst hx
   rcases e3 with z | z | z
   ·exact absurd z (b.acc _)
   ·exact absurd z (b.acc _)
   ·exact absurd z (b.acc _)
 ·obtain ⟨v,z⟩:=I.cell x c (b.sub x c e)
  exact ⟨v,z.keeps kp⟩
 ·show upd H2 Dd (.dT []) C=none
  rw [c8 (Ne.symm ne)]
  exact I.hok.fresh hC
 ·rw [c8 (cD x c (b.sub x c e))]
  exact I.freeC x c (b.sub x c e)
 ·show (capS js σ ++ [some (V.ref Dd)]).length=(N ++ [accN]).length
  unfold capS
  simp [b.cap.len]
end
section
variable {X:Cx}{pins:List (Addr×PySem.Obj)}{σ:L2.St}{H:Hp}{s:Shared}{a b:Addr}{v:V}{r:Value}{A:Around}{E:Value->Shared->Prop}
theorem a6H {kvs:List (List Key×V)}{k:List Key}{Q:Unit->Shared->Prop}(hu:A.units + 1 < cLine)(I:Inv X pins σ H s)(e:H a=some (.dT kvs))(eb:H b=some (.tup (k.map kV)))(l:kvs.length < sizeLine)(rv:RelV v r)(h:∀s',Inv X pins σ (upd H a (.dT (putK kvs k v))) s'->Q () s'):
  wpAny (model X.prog X.w) A (dictSet a (.ref b) r) Q E s:=by
 obtain ⟨z,hd,xs,rel,dd⟩:=a1G I.hok e
 have hz:xs.length<=sizeLine:=by rw [<-Paired.length rel];exact z
 have hl:(putK kvs k v).length<=sizeLine:=by have:=O0 kvs k v;walk_at "o"
 refine wpAny_dictSet_heap (hsz:=hz) (show A.units < cLine from Nat.lt_of_succ_lt hu) (a40 I.hok eb) dd fun h' dd' hs=>h _ ?_
 obtain ⟨q,es,ep,hq,h2,h3,h4,_,h5⟩:=dd'
 refine a2B I (by rw [e];exact True.intro) hs ⟨q,hq⟩ ⟨hl,hd,_,(rel.put k eb rv).keeps fun c ys ec=>?_,q,es,ep,hq,h2,h3,h4,h5⟩
 rw [c8 (b1b ec e (fun z=>nomatch z))]
 exact ec
end
section
variable {X:Cx}{P:List (D×V)}{O:Av}{L:List (Nat×Addr)}{ρ:Ev}{σ:L2.St}{H2:Hp}{s2:Shared}{scope:Scope}{cl:List (Str×Addr)}{N:List Str}{js:List (Option Nat)}{fp:List Addr}{Dd C:Addr}{li:Option (Nat×Nat)}
theorem D2 (r:Rep X P O L ρ σ H2)(hl:LiOk li js ρ){i:Nat}{w:W}{d:D}{v:V}(e1:(capE (li.map (·.2)) js ρ ++ [some (.l (.dT [] []))])[i]? =some (some w))(e2:w.own=some d)(e3:(capS js σ ++ [some (.ref Dd)])[i]? =some (some v)):
  (i=js.length/\w= .l (.dT [] [])/\v= .ref Dd)\/∃j a w0,li=some (i,j)/\i < js.length/\w= .l d/\js[i]? =some (some j)/\ρ[j]? =some (some w0)/\w0.own=some d/\σ[j]? =some (some (.ref a))/\v= .ref a:=by
 have hcl:(capE (li.map (·.2)) js ρ).length=js.length:=by unfold capE;simp
 have hsl:(capS js σ).length=js.length:=by unfold capS;simp
 by_cases hi:i < js.length
 ·rw [List.getElem?_append_left (by walk_at "o")] at e1 e3
  obtain ⟨j,w0,ej,q,ew⟩:=B8 e1
  have own0:w0.own≠none/\li.map (·.2)=some j/\w= .l d/\w0.own=some d:=by
   cases w0 with
   | v c=>cases ew;cases e2
   | r c=>cases ew
   | o c=>
    simp only [capW] at ew
    split at ew
    ·rename_i hk;cases ew;cases e2;exact ⟨nofun,by simpa using hk,rfl,rfl⟩
    ·cases ew;cases e2
   | l c=>
    simp only [capW] at ew
    split at ew
    ·rename_i hk;cases ew;cases e2;exact ⟨nofun,by simpa using hk,rfl,rfl⟩
    ·cases ew;cases e2
  obtain ⟨_,hlj,rfl,ow⟩:=own0
  obtain ⟨a,h1,h2⟩:=r.obj q ow
  rw [B7 ej h1] at e3;cases e3
  cases li with
  | none=>cases hlj
  | some p=>
   obtain ⟨i',j'⟩:=p
   cases hlj
   have:=hl.one i' _ i rfl ej
   subst this
   exact .inr ⟨_,a,w0,rfl,hi,rfl,ej,q,ow,h1,rfl⟩
 ·have hi':i=js.length:=by
   have:=(List.getElem?_eq_some_iff.mp e1).1
   rw [List.length_append,hcl] at this;simp at this;walk_at "o"
  subst hi'
  rw [List.getElem?_append_right (by walk_at "o"),hcl,Nat.sub_self] at e1
  rw [List.getElem?_append_right (by walk_at "o"),hsl,Nat.sub_self] at e3
  simp only [List.getElem?_cons_zero,Option.some.injEq] at e1 e3
  exact .inl ⟨rfl,e1.symm,e3.symm⟩
theorem a7t (r:Rep X P O L ρ σ H2)(hl:LiOk li js ρ)(hn:H2 Dd=none):
  Rep (blk X scope cl s2 H2 fp C (N ++ [accN])) P (fun b=>AvO O ρ σ b/\¬Capd ρ σ js b) ((js.length,Dd) :: lentL li σ) (capE (li.map (·.2)) js ρ ++ [some (.l (.dT [] []))]) (capS js σ ++ [some (.ref Dd)]) (upd H2 Dd (.dT [])):=by
 have hcl:(capE (li.map (·.2)) js ρ).length=js.length:=by unfold capE;simp
 have hsl:(capS js σ).length=js.length:=by unfold capS;simp
 have acc1:(capE (li.map (·.2)) js ρ ++ [some (.l (.dT [] []))])[js.length]? =some (some (.l (.dT [] []))):=by rw [List.getElem?_append_right (by walk_at "o"),hcl,Nat.sub_self];rfl
 have acc2:(capS js σ ++ [some (V.ref Dd)])[js.length]? =some (some (.ref Dd)):=by rw [List.getElem?_append_right (by walk_at "o"),hsl,Nat.sub_self];rfl
 have lnt2:∀{i j:Nat} {a:Addr},li=some (i,j)->σ[j]? =some (some (.ref a))->∃w0 d,ρ[j]? =some (some w0)/\w0.own=some d/\(capE (li.map (·.2)) js ρ ++ [some (.l (.dT [] []))])[i]? =some (some (.l d))/\(capS js σ ++ [some (V.ref Dd)])[i]? =some (some (.ref a)):=fun {i j a} e1 e2=>by
  obtain ⟨c,ec⟩:=hl.own i j e1
  obtain ⟨w0,q,ow⟩:=n9 ec
  have ej:=hl.at' i j e1
  have hi:i < js.length:=(List.getElem?_eq_some_iff.mp ej).1
  refine ⟨w0,c,q,ow,?_,by rw [List.getElem?_append_left (by walk_at "o")];exact B7 ej e2⟩
  rw [List.getElem?_append_left (by walk_at "o")]
  unfold capE
  rw [List.getElem?_map,ej]
  simp only [Option.map_some,Option.bind_some,q,Option.join_some,e1,beq_self_eq_true]
  cases w0 with
  | o x=>cases ow;rfl
  | l x=>cases ow;rfl
  | _=>cases ow
 have av:∀b,AvO (fun b=>AvO O ρ σ b/\¬Capd ρ σ js b) (capE (li.map (·.2)) js ρ ++ [some (.l (.dT [] []))]) (capS js σ ++ [some (V.ref Dd)]) b->AvO O ρ σ b\/H2 b=none:=fun b z=>by
  rcases z with z | ⟨i,w,d,e1,e2,e3⟩
  ·exact .inl z.1
  ·rcases D2 r hl e1 e2 e3 with ⟨_,_,e⟩ | ⟨j,a,w0,_,_,_,_,q,ow,qs,e⟩
   ·cases e;exact .inr hn
   ·cases e;exact .inl (.inr ⟨j,w0,d,q,ow,qs⟩)
 have g:Go (AvO O ρ σ) (AvO (fun b=>AvO O ρ σ b/\¬Capd ρ σ js b) (capE (li.map (·.2)) js ρ ++ [some (.l (.dT [] []))]) (capS js σ ++ [some (V.ref Dd)])) (fun _=>False) H2 (upd H2 Dd (.dT [])):=⟨fun b o e _=>j3 hn _ b o e,fun _ z=>z.elim,av⟩
 refine ⟨fun b o e _=>j3 hn _ b o e,fun b z=>⟨r.there z.1,fun i m=>?_⟩,by simp [hcl,hsl],fun i w e=>?_,fun i i' w w' d d' b e1 e2 e3 e4 e5 e6=>?_,fun i d b e=>?_,fun i d e=>?_,fun i b e=>?_,fun p hp=>m7 g _ _ (r.prot p hp)⟩
 ·rcases List.mem_cons.mp m with m | m
  ·cases m;exact r.fresh hn z.1
  ·obtain ⟨j,e1,e2⟩:=u9.mp m
   obtain ⟨w0,d,q,ow,_⟩:=lnt2 e1 e2
   exact z.2 ⟨j,w0,d,List.mem_of_getElem? (hl.at' i j e1),q,ow,e2⟩
 ·by_cases hi:i < js.length
  ·have e':=e
   rw [List.getElem?_append_left (by walk_at "o")] at e'
   obtain ⟨j,w0,ej,q,ew⟩:=B8 e'
   obtain ⟨v,h1,h2⟩:=r.slot j w0 q
   refine ⟨v,by rw [List.getElem?_append_left (by walk_at "o")];exact B7 ej h1,?_⟩
   cases w0 with
   | v c=>cases ew;exact m7 g _ _ h2
   | r c=>cases ew
   | o c=>
    simp only [capW] at ew
    obtain ⟨a,rfl,ob⟩:=h2
    have hk:upd H2 Dd (.dT []) a=H2 a:=c8 fun z=>by obtain ⟨u,eu,_⟩:=v5 ob;rw [z,hn] at eu;cases eu
    split at ew
    ·cases ew;exact ⟨a,rfl,t4 g hk ob⟩
    ·rename_i nk
     cases ew
     refine J1 (t4 g hk ob) fun z=>?_
     rcases z with z | ⟨i2,w2,d2,e1,e2,e3⟩
     ·exact z.2 ⟨j,_,c,List.mem_of_getElem? ej,q,rfl,h1⟩
     ·rcases D2 r hl e1 e2 e3 with ⟨_,_,e⟩ | ⟨j2,a2,w0,l2,_,_,ej2,q2,ow2,qs2,e⟩
      ·cases e;obtain ⟨u,eu,_⟩:=v5 ob;rw [hn] at eu;cases eu
      ·cases e
       have:=r.inj j j2 _ w0 c d2 a q rfl h1 q2 ow2 qs2
       subst this
       rw [l2] at nk;simp at nk
   | l c=>
    simp only [capW] at ew
    obtain ⟨a,rfl,ob⟩:=h2
    have hk:upd H2 Dd (.dT []) a=H2 a:=c8 fun z=>by obtain ⟨u,eu,_⟩:=v5 ob;rw [z,hn] at eu;cases eu
    split at ew
    ·cases ew;exact ⟨a,rfl,t4 g hk ob⟩
    ·rename_i nk
     cases ew
     refine J1 (t4 g hk ob) fun z=>?_
     rcases z with z | ⟨i2,w2,d2,e1,e2,e3⟩
     ·exact z.2 ⟨j,_,c,List.mem_of_getElem? ej,q,rfl,h1⟩
     ·rcases D2 r hl e1 e2 e3 with ⟨_,_,e⟩ | ⟨j2,a2,w0,l2,_,_,ej2,q2,ow2,qs2,e⟩
      ·cases e;obtain ⟨u,eu,_⟩:=v5 ob;rw [hn] at eu;cases eu
      ·cases e
       have:=r.inj j j2 _ w0 c d2 a q rfl h1 q2 ow2 qs2
       subst this
       rw [l2] at nk;simp at nk
  ·have hi':i=js.length:=by
    have:=(List.getElem?_eq_some_iff.mp e).1
    rw [List.length_append,hcl] at this;simp at this;walk_at "o"
   subst hi'
   rw [acc1] at e;cases e
   exact ⟨.ref Dd,acc2,Dd,rfl,[],j9,rfl,j4⟩
 ·rcases D2 r hl e1 e2 e3 with ⟨rfl,_,e⟩ | ⟨j,a,w0,l1,_,_,_,q,ow,qs,e⟩
  ·cases e
   rcases D2 r hl e4 e5 e6 with ⟨rfl,_,_⟩ | ⟨j,a,w0,l1,_,_,_,q,ow,qs,e⟩
   ·rfl
   ·cases e;obtain ⟨u,eu,_⟩:=r.owMu ⟨j,w0,d',q,ow,qs⟩;rw [hn] at eu;cases eu
  ·cases e
   rcases D2 r hl e4 e5 e6 with ⟨rfl,_,e⟩ | ⟨j',a',w0',l1',_,_,_,q',ow',qs',e⟩
   ·cases e;obtain ⟨u,eu,_⟩:=r.owMu ⟨j,w0,d,q,ow,qs⟩;rw [hn] at eu;cases eu
   ·rw [l1] at l1';cases l1';rfl
 ·by_cases hi:i < js.length
  ·rw [List.getElem?_append_left (by walk_at "o")] at e
   obtain ⟨j,w0,ej,q,ew⟩:=B8 e
   cases w0 <;> simp only [capW] at ew <;> first | cases ew | (split at ew <;> cases ew)
  ·rw [List.getElem?_append_right (by walk_at "o")] at e
   cases q:i - (capE (li.map (·.2)) js ρ).length with
   | zero=>rw [q] at e;cases e
   | succ n=>rw [q] at e;simp at e
 ·by_cases hi:i < js.length
  ·have e':=e
   rw [List.getElem?_append_left (by walk_at "o")] at e'
   obtain ⟨j,w0,ej,q,ew⟩:=B8 e'
   obtain ⟨v,h1,h2⟩:=r.slot j w0 q
   have e3:(capS js σ ++ [some (V.ref Dd)])[i]? =some (some v):=by rw [List.getElem?_append_left (by walk_at "o")];exact B7 ej h1
   rcases D2 r hl e rfl e3 with ⟨rfl,_⟩ | ⟨j,a,w0,l1,_,_,_,q,ow,qs,rfl⟩
   ·walk_at "o"
   ·exact ⟨a,e3,List.mem_cons_of_mem _ (u9.mpr ⟨j,l1,qs⟩)⟩
  ·have hi':i=js.length:=by
    have:=(List.getElem?_eq_some_iff.mp e).1
    rw [List.length_append,hcl] at this;simp at this;walk_at "o"
   subst hi'
   exact ⟨Dd,acc2,List.mem_cons_self⟩
 ·rcases List.mem_cons.mp e with e | e
  ·cases e;exact ⟨_,acc1,acc2⟩
  ·obtain ⟨j,e1,e2⟩:=u9.mp e
   obtain ⟨w0,d,_,_,q1,q2⟩:=lnt2 e1 e2
   exact ⟨d,q1,q2⟩
end
def putTo (k j:Nat) (p:List W×Ev):Option Ev:=(takeAll p.2 p.1).bind fun q=>(dkeys q.1).bind fun kk=>match q.2[j]? with
 | some (some (.v d))=>match ownAt q.2 k with
  | some (.dT ks zs)=>if ks.length < lim/\q.1.length<=lim then some (setOwn q.2 k (.dT (putKs ks kk) (putX ks zs kk d))) else none
  | _=>none
 | _=>none
def turnCD (k:Nat) (gf:FG) (t:FT) (fa:FA) (j:Nat):D->Ev->Option Ev:=fun x ρ=>(gf x ρ).bind fun ρ1=>(t ρ1).bind fun p=>if p.1=true then (fa p.2).bind (putTo k j) else some p.2
def backCD (li:Option (Nat×Nat)) (js:List (Option Nat)) (ρe ρ1:Ev) (kz:List (List Key)) (ys:List D):Option (W×Ev):=match li with
 | none=>if lfL ys=true then some (.o (.dT kz ys),ρ1) else (frzL (capR js) ρ1).map fun ρ2=>(.o (.dT kz ys),ρ2)
 | some (i,j)=>if lfL ys=true then (ownAt ρe i).bind fun c=>if lfC c=true then some (.o (.dT kz ys),setOwn ρ1 j c) else none else none
def fDComp (fi:FI) (li:Option (Nat×Nat)) (js:List (Option Nat)) (gf:FG) (t:FT) (fa:FA) (j:Nat):FX:=fun ρ=>(fi ρ).bind fun p=>if liB li p.2=true then
  (loopC (turnCD js.length gf t fa j) p.1 (capE (li.map (·.2)) js p.2 ++ [some (.l (.dT [] []))])).bind fun ρe=>match ownAt ρe js.length with
   | some (.dT kz ys)=>backCD li js ρe p.2 kz ys
   | _=>none
 else none
section
variable {X:Cx}{pins:List (Addr×PySem.Obj)}{σ:L2.St}{H2:Hp}{s2:Shared}{scope:Scope}{cl:List (Str×Addr)}{N:List Str}{js:List (Option Nat)}{fp:List Addr}{it:Addr}{tn:Nat->Heap->Prop}{J:It}
 {vx tg iter:Expr} {es:List Expr} {kt:Nat} {kp0:Pos} {fa:FA} {j:Nat} {ifs:List Expr} {pos:Pos} {P:List (D×V)} {O:Av} {L:List (Nat×Addr)} {ρ ρe:Ev} {xs:List D} {gf:FG} {t:FT} {fe:FX} {Qq:Value->Shared->Prop} {use:Option (Value->Sem Unit)} {li:Option (Nat×Nat)}
theorem a6x (hcalm:X.calm=true)(I2:Inv X pins σ H2 s2)(T:Turn X.prog X.w X.K tg J fp it tn)(st2:tn 0 s2.heap)(f2:∀y∈fp,FpOk X pins H2 y)(b:Blk X scope cl N js)(r:Rep X P O L ρ σ H2)(hl:LiOk li js ρ)(wk:Wks X.K P xs J)
  (hg:∀C,QG (blk X scope cl s2 H2 fp C (N ++ [accN])) tg gf) (ht:∀C,Tst (blk X scope cl s2 H2 fp C (N ++ [accN])) ifs t) (hu:X.A.units + 1 < cLine) (hka:∀C,QA (blk X scope cl s2 H2 fp C (N ++ [accN])) es fa) (hv:∀C,PE (blk X scope cl s2 H2 fp C (N ++ [accN])) vx (tVar j))
  (e:loopC (turnCD js.length gf t fa j) xs (capE (li.map (·.2)) js ρ ++ [some (.l (.dT [] []))])=some ρe)
  (fin:∀(Dd C:Addr) (σe:L2.St) (He:Hp) (s1:Shared),H2 Dd=none->s2.heap.objs.size<=C->Inv (blk X scope cl s2 H2 fp C (N ++ [accN])) [] σe He s1->Rep (blk X scope cl s2 H2 fp C (N ++ [accN])) P (fun b=>AvO O ρ σ b/\¬Capd ρ σ js b) ((js.length,Dd) :: lentL li σ) ρe σe He->
   compPost (model X.prog X.w) X.A X.xe use Qq (.ref Dd) C (.ok .next) s1):
  wpAny (model X.prog X.w) X.A newDict (fun acc s3=>wpAny (model X.prog X.w) X.A (newFunctionEnv scope X.env.globals cl [] X.env.qual none .none (some X.env)) (fun cenv s4=>
   codeAny (model X.prog X.w) X.A (.compStart (.DictComp (.Tuple es kt kp0) vx [⟨tg,iter,ifs,0⟩] scope pos) 0 (.ref it) acc {cenv with scope:=relabel scope X.env}) (compPost (model X.prog X.w) X.A X.xe use Qq acc cenv.locals) s4) X.xe s3) X.xe s2:=by
 have fl:∀y∈fp,y < s2.heap.objs.size:=fun y hy=>by obtain ⟨o,eo,_⟩:=T.obj _ _ st2 y hy;exact Heap.lt_size eo
 refine wpAny_newObj_type (wpAny_newFunctionEnv b.cell (by intro y hy;simp at hy) (fun h' hns hsb=>?_) b.kind)
 dsimp only at hns hsb ⊢
 generalize hH:s2.heap.push {cls:=.type "dict",dict:=none,data:=.dict #[]}=H3 at hns hsb ⊢
 have hC:H3.objs.size=s2.heap.objs.size + 1:=by rw [<-hH,Heap.size_push]
 have ne:s2.heap.objs.size≠H3.objs.size:=by rw [hC];exact Nat.ne_of_lt (Nat.lt_succ_self _)
 have leC:s2.heap.objs.size<=H3.objs.size:=by rw [hC];exact Nat.le_succ _
 have kp3:∀y o,s2.heap.get? y=some o->H3.get? y=some o:=fun y o e=>hH▸Heap.get?_push_of_some _ e
 have kp4:∀y o,H3.get? y=some o->h'.get? y=some o:=fun y o e=>hsb.extBut y o (Nat.ne_of_lt (Heap.lt_size e)) (Heap.get?_push_of_some _ e)
 have hDn:H2 s2.heap.objs.size=none:=I2.hok.fresh (Nat.le_refl _)
 have ok3:HOk X.prog X.w (upd H2 s2.heap.objs.size (.dT [])) H3:=I2.hok.laid kp3 (Nat.le_refl _) (by rw [<-hH];exact a3H s2.heap I2.big)
 have I4:=a8V (s4:={s2 with heap:=h',toks:=s2.toks + ([]:List (Str×Value)).length}) (Dd:=s2.heap.objs.size) (C:=H3.objs.size) I2 b f2 fl leC (Nat.le_refl _) ne rfl I2.bare (fun y o e=>kp4 y o (kp3 y o e)) hns (ok3.kept kp4)
 have R4:=a7t (scope:=scope) (cl:=cl) (N:=N) (s2:=s2) (fp:=fp) (C:=H3.objs.size) (Dd:=s2.heap.objs.size) r hl hDn
 have hfree:∀{H':Hp},(∀y∈fp,H' y=none)->∀y∈fp,FpOk (blk X scope cl s2 H2 fp H3.objs.size (N ++ [accN])) [] H' y:=fun hn y hy=>
  ⟨hn y hy,Nat.ne_of_lt (Nat.lt_of_lt_of_le (fl y hy) leC),fun z=>(List.mem_cons.mp (I2.stkSub y z)).elim (f2 y hy).2.1 (f2 y hy).2.2.1,.inl hy,fun x c ec=>(f2 y hy).2.2.2.2.1 x c (b.sub x c ec),fun p hp=>absurd (show p∈([]:List (Addr×PySem.Obj)) from hp) (by simp)⟩
 obtain ⟨gg,pg,kg⟩:=(hg H3.objs.size).to
 have loop:∀s5:Shared,s5={s2 with heap:=h',toks:=s2.toks + ([]:List (Str×Value)).length}->
   codeAny (model X.prog X.w) X.A (.compLoop (.DictComp (.Tuple es kt kp0) vx [⟨tg,iter,ifs,0⟩] scope pos) 0 (.ref it) (.ref s2.heap.objs.size) (compEnvC scope cl H3.objs.size X.env))
    (compPost (model X.prog X.w) X.A X.xe use Qq (.ref s2.heap.objs.size) H3.objs.size) s5:=by
  rintro s5 rfl
  let Y:=blk X scope cl s2 H2 fp H3.objs.size (N ++ [accN])
  let O':Av:=fun b=>AvO O ρ σ b/\¬Capd ρ σ js b
  let L':=(js.length,s2.heap.objs.size) :: lentL li σ
  refine a46 (fun n s=>∃i σ' H' ρ',n=xs.length - i/\i<=xs.length/\Inv Y [] σ' H' s/\tn i s.heap/\(∀y∈fp,H' y=none)/\Rep Y P O' L' ρ' σ' H'/\loopC (turnCD js.length gf t fa j) (xs.drop i) ρ'=some ρe) ?_ xs.length
   ⟨0,_,_,_,by simp,Nat.zero_le _,I4,T.keep 0 _ _ st2 fun y hy o eo=>kp4 y o (kp3 y o eo),fun y hy=>by rw [c8 (Nat.ne_of_lt (fl y hy))];exact (f2 y hy).1,R4,by simpa using e⟩
  rintro n s ⟨i,σ',H',ρ',rfl,hi,I,st,fr,rp,el⟩
  obtain ⟨wi,ws⟩:=wk Y O' L' ρ' σ' H' rfl rp
  by_cases hlt:i < xs.length
  ·obtain ⟨go,yl⟩:=wi i xs[i] (by simp [hlt])
   refine wpAny_mono (T.item Y rfl rfl rfl hcalm i [] s σ' H' Fa I (hfree fr) st go) (fun r s1 ⟨u,hr,h1⟩=>?_) fun _ _ z=>z
   subst hr
   refine wpAny_mono h1 (fun _ s3 ⟨x,H5,I5,r5,y5,st5,fr5⟩=>?_) fun _ _ z=>z
   obtain ⟨sm5,dx⟩:=yl x H5 y5
   replace rp:=rp.grow sm5
   rw [List.drop_eq_getElem_cons hlt,loopC] at el
   cases e1:turnCD js.length gf t fa j xs[i] ρ' with
   | none=>rw [e1] at el;cases el
   | some ρt=>
    rw [e1] at el
    simp only [Option.bind_some] at el
    unfold turnCD at e1
    cases e2:gf xs[i] ρ' with
    | none=>rw [e2] at e1;cases e1
    | some ρ1=>
     rw [e2] at e1
     simp only [Option.bind_some] at e1
     obtain ⟨⟨k,ρ2⟩,e3,e1⟩:=obs e1
     dsimp only at e1
     have I5':=I5.pinned (hfree fr5) (T.obj _ _ st5)
     have gq:=kg P O' L' xs[i] x ρ' ρ1 σ' H5 (fun σ2 Hh=>Rep Y P O' L' ρ1 σ2 Hh) rp dx e2 (fun σ2 H2' rp2=>rp2)
     refine wpAny_mono (pg _ s3 σ' H5 x u _ I5' r5 gq) (fun _ s6 ⟨σ6,H6,I6,rp6⟩=>?_) fun _ _ z=>z
     have back:∀{s7:Shared} {H7:Hp} {ρ7:Ev},Inv Y ([] ++ pinsAt fp s3.heap) σ6 H7 s7->Rep Y P O' L' ρ7 σ6 H7->loopC (turnCD js.length gf t fa j) (xs.drop (i + 1)) ρ7=some ρe->
       ∃m,m < xs.length - i/\∃i σ' H' ρ',m=xs.length - i/\i<=xs.length/\Inv Y [] σ' H' s7/\tn i s7.heap/\(∀y∈fp,H' y=none)/\Rep Y P O' L' ρ' σ' H'/\loopC (turnCD js.length gf t fa j) (xs.drop i) ρ'=some ρe:=fun {s7 H7 ρ7} I7 rp7 e7=>by
      refine ⟨xs.length - (i + 1),by omega,i + 1,σ6,H7,ρ7,rfl,hlt,I7.unpinned,T.keep _ _ _ st5 fun y hy o eo=>(I7.pin (y,o) (List.mem_append_right _ (List.mem_append_right _ (t5 hy eo)))).1,fun y hy=>?_,rp7,e7⟩
      obtain ⟨o,eo,_⟩:=T.obj _ _ st5 y hy
      exact (I7.pin (y,o) (List.mem_append_right _ (List.mem_append_right _ (t5 hy eo)))).2.1
     refine wpAny_mono ((ht H3.objs.size).to _ s6 σ6 H6 P O' L' ρ1 ρ2 k (fun k' Hh=>k'=k/\Rep Y P O' L' ρ2 σ6 Hh) I6 rp6 e3 (fun H' rr=>⟨rfl,rr⟩)) (fun ok s7 ⟨H7,I7,hk,rp7⟩=>?_) fun _ _ z=>z
     subst hk
     cases ok with
     | false=>
      rw [if_neg Bool.false_ne_true] at e1 ⊢
      cases e1
      exact back I7 rp7 el
     | true=>
      rw [if_pos rfl] at e1 ⊢
      obtain ⟨⟨ws0,ρ3⟩,e4,e1⟩:=obs e1
      simp only [putTo] at e1
      obtain ⟨⟨ds,ρ4⟩,e5,e1⟩:=obs e1
      dsimp only at e1
      cases e6:dkeys ds with
      | none=>rw [e6] at e1;cases e1
      | some kk=>
       rw [e6] at e1
       simp only [Option.bind_some] at e1
       split at e1
       ·rename_i d e7
        split at e1
        ·rename_i kz zs e8
         split at e1
         ·rename_i hl
          cases e1
          refine wpAny_mono (a4W (hka H3.objs.size).to _ s7 σ6 H7 (fun v H9=>∃p H8,v= .ref p/\Rep Y P O' L' ρ4 σ6 H8/\H8 p=none/\H9=upd H8 p (.tup (kk.map kV))) I7 ⟨P,O',L',ρ2,ws0,ρ3,rp7,e4,fun us H8 r8 l8=>?_⟩) (fun u8 s8 ⟨v8,H9,I9,r9,p,H8,ev8,rp8,hp8,eh9⟩=>?_) fun _ _ z=>z
          ·obtain ⟨r9,l9,_⟩:=k8 r8 e5 l8
           refine ⟨?_,fun p hp=>⟨p,H8,rfl,r9,hp,by rw [P8 e6 l9]⟩⟩
           rw [<-c5 l9];exact Nat.le_trans hl.2 q9
          ·subst ev8 eh9
           cases (show u8=Value.ref p from r9)
           have rp9:=rp8.grow (j3 hp8 (.tup (kk.map kV)))
           obtain ⟨v10,sv,dv⟩:=rp9.slot j _ e7
           refine wpAny_mono (hv H3.objs.size _ s8 σ6 _ (fun v H10=>v=v10/\H10=upd H8 p (.tup (kk.map kV))) I9 ⟨v10,sv,rfl,rfl⟩) (fun u10 s10 ⟨v11,H10,I10,r10,ev11,eh10⟩=>?_) fun _ _ z=>z
           subst ev11 eh10
           obtain ⟨d0,q1,q2⟩:=rp9.lnd js.length s2.heap.objs.size List.mem_cons_self
           have e8':=e8
           unfold ownAt at e8'
           rw [q1] at e8'
           cases e8'
           obtain ⟨a,h1,vs,h4,hkl,lz⟩:=rp9.obj q1 rfl
           rw [q2] at h1
           cases h1
           have hlv:kz.length=vs.length:=by rw [hkl,c5 lz]
           have kl:(kz.zip vs).length < sizeLine:=by
            rw [List.length_zip,hlv,Nat.min_self,<-hlv]
            exact Nat.lt_of_lt_of_le hl.1 q9
           refine a6H (X:=Y) (A:=X.A) hu I10 h4 (k:=kk) (b:=p) j9 kl r10 fun s11 I11=>?_
           rw [a5g hlv] at I11
           have g0:∀u,Go (AvO O' ρ4 σ6) (AvO O' ρ4 σ6) (fun b=>b=s2.heap.objs.size) (upd H8 p (.tup (kk.map kV))) (upd (upd H8 p (.tup (kk.map kV))) s2.heap.objs.size u):=fun u=>⟨fun b o eb nb=>by rw [c8 nb];exact eb,fun b z=>by rw [z];exact ⟨.inr ⟨js.length,_,_,q1,rfl,q2⟩,_,h4,trivial⟩,fun b z=>.inl z⟩
           exact back I11 (rp9.mut (d:=.dT (putKs kz kk) (putX kz zs kk d)) e8 q2 (fun b o eb nb=>by rw [c8 nb];exact eb) ⟨_,j9,a0j hkl,q8 (g0 _) _ _ (a3B lz dv)⟩) el
         ·cases e1
        ·cases e1
       ·cases e1
  ·have hie:i=xs.length:=by omega
   subst hie
   refine wpAny_mono (T.done Y rfl rfl rfl hcalm _ [] s σ' H' Fa I (hfree fr) st ws) (fun r s1 ⟨hr,I1⟩=>?_) fun _ _ z=>z
   subst hr
   rw [List.drop_eq_nil_of_le (Nat.le_refl _),loopC] at el
   cases el
   exact fin _ _ σ' H' s1 hDn leC I1 rp
 exact codeAny_compStart_dict (loop _ rfl) (T.self _ 0 _ _ _ (T.keep 0 _ _ st2 fun y hy o eo=>kp4 y o (kp3 y o eo)) (loop _ rfl))
end
section
variable {X:Cx}{pins:List (Addr×PySem.Obj)}{σ σe:L2.St}{H2 He:Hp}{s2:Shared}{scope:Scope}{cl:List (Str×Addr)}{N:List Str}{js:List (Option Nat)}{fp:List Addr}{Dd C:Addr}
 {vx tg iter:Expr} {es:List Expr} {kt:Nat} {kp0:Pos} {fa:FA} {j:Nat} {kz:List (List Key)} {ifs:List Expr} {pos:Pos} {P:List (D×V)} {O:Av} {L:List (Nat×Addr)} {ρ ρ2 ρe:Ev} {w:W} {ys:List D} {fi:FI} {gf:FG} {t:FT} {fe:FX} {li:Option (Nat×Nat)}
theorem a8l (r:Rep X P O L ρ σ H2)(hl:LiOk li js ρ)(hn:H2 Dd=none)(rp:Rep (blk X scope cl s2 H2 fp C (N ++ [accN])) P (fun b=>AvO O ρ σ b/\¬Capd ρ σ js b) ((js.length,Dd) :: lentL li σ) ρe σe He)
  (ey:ownAt ρe js.length=some (.dT kz ys)) (e:backCD li js ρe ρ kz ys=some (w,ρ2)):∃Hx,Rep X P O L ρ2 σ Hx/\Same Hx He/\DenW X.K (AvO O ρ2 σ) σ Hx He w (.ref Dd):=by
 obtain ⟨c0,q0,ob⟩:=rp.lents js.length Dd List.mem_cons_self
 rw [ey] at q0;cases q0
 cases li with
 | none=>
  have sm:Same H2 He:=fun b o eb=>rp.same b o eb fun i m=>by
   rcases List.mem_cons.mp m with m | m
   ·cases m;rw [hn] at eb;cases eb
   ·cases m
  unfold backCD at e
  simp only at e
  split at e
  ·rename_i hf
   cases e
   exact ⟨H2,r,sm,Dd,rfl,hn,T5 (d:=.dT kz ys) (fun _ _ e _=>e) hf rfl ob⟩
  ·obtain ⟨ρ3,e4,e⟩:=oms e
   cases e
   obtain ⟨r2,k2⟩:=G7 r e4
   refine ⟨H2,r2,sm,Dd,rfl,hn,t4 (w4 fun b z=>?_) rfl ob⟩
   rcases z with z | z
   ·obtain ⟨z1,z2⟩:=R6 r k2 z
    exact .inl ⟨z1,fun ⟨j,w,d,m,q⟩=>z2 ⟨j,w,d,a4k.mpr m,q⟩⟩
   ·exact .inr ⟨js.length,by rw [z];exact List.mem_cons_self⟩
 | some p=>
  obtain ⟨i,j⟩:=p
  unfold backCD at e
  simp only at e
  split at e
  ·rename_i hf
   cases e5:ownAt ρe i with
   | none=>rw [e5] at e;cases e
   | some c=>
    rw [e5] at e
    simp only [Option.bind_some] at e
    split at e
    ·rename_i hc
     cases e
     obtain ⟨c1,ec1⟩:=hl.own i j rfl
     obtain ⟨w0,q1,ow⟩:=n9 ec1
     obtain ⟨a,h1,oba⟩:=r.obj q1 ow
     obtain ⟨u0,eu0,_⟩:=v5 oba
     have na:a≠Dd:=fun z=>by rw [z,hn] at eu0;cases eu0
     have mem:(i,a)∈lentL (some (i,j)) σ:=u9.mpr ⟨j,rfl,h1⟩
     obtain ⟨c2,ec2,ob2⟩:=rp.lents i a (List.mem_cons_of_mem _ mem)
     rw [e5] at ec2;cases ec2
     obtain ⟨ur,eur,mur⟩:=v5 ob
     have keep:∀b o,H2 b=some o->b≠a->He b=some o:=fun b o eb nb=>rp.same b o eb fun k m=>by
      rcases List.mem_cons.mp m with m | m
      ·cases m;rw [hn] at eb;cases eb
      ·obtain ⟨j',e1,e2⟩:=u9.mp m
       cases e1
       rw [h1] at e2;cases e2;exact nb rfl
     refine ⟨fun b=>if b=Dd then none else He b,r.mut ec1 h1 (fun b o eb nb=>?_) (T5 (fun b o eb nm=>?_) hc (if_neg na) ob2),fun b o eb=>?_,Dd,rfl,if_pos rfl,T5 (d:=.dT kz ys) (fun _ _ e _=>e) hf rfl ob⟩
     ·have:b≠Dd:=fun z=>by rw [z,hn] at eb;cases eb
      show (if b=Dd then none else He b)=some o
      rw [if_neg this];exact keep b o eb nb
     ·have:b≠Dd:=fun z=>by rw [z,eur] at eb;cases eb;exact nm mur
      show (if b=Dd then none else He b)=some o
      rw [if_neg this];exact eb
     ·dsimp only at eb;split at eb
      ·cases eb
      ·exact eb
    ·cases e
  ·cases e
theorem a60 {Q:VK}{Qq:Value->Shared->Prop}{use:Option (Value->Sem Unit)}{H:Hp}{s:Shared}{newPos:Pos}(hc:X.calm=true)(b:Blk X scope cl N js)(hj:liJ li js=true)(hi:QI X tg iter fi)
  (hg:∀s2 H2 fp C,QG (blk X scope cl s2 H2 fp C (N ++ [accN])) tg gf) (ht:∀s2 H2 fp C,Tst (blk X scope cl s2 H2 fp C (N ++ [accN])) ifs t) (hu:X.A.units + 1 < cLine) (hka:∀s2 H2 fp C,QA (blk X scope cl s2 H2 fp C (N ++ [accN])) es fa) (hv:∀s2 H2 fp C,PE (blk X scope cl s2 H2 fp C (N ++ [accN])) vx (tVar j)) (hs:∀x,foldedSetIterable iter X.env x=pure x)
  (I:Inv X pins σ H s) (h:tX X (fDComp fi li js gf t fa j) σ H Q)
  (fin:∀(C:Addr) (v:V) (He:Hp) (s1:Shared),Q v He->(∀h9:Heap,(∀y,y≠C->h9.get? y=s1.heap.get? y)->Inv X pins σ He {s1 with heap:=h9})->FpOk X pins He C->(∃m,s1.heap.Ns C m)->∀vv,RelV v vv->compPost (model X.prog X.w) X.A X.xe use Qq vv C (.ok .next) s1):
  wpAny (model X.prog X.w) X.A (comprehension (.DictComp (.Tuple es kt kp0) vx [⟨tg,iter,ifs,0⟩] scope pos) scope X.env newPos newDict false (eval iter X.env) use) Qq X.xe s:=by
 obtain ⟨P,O,L,ρ,w,ρ',r,e,q⟩:=h
 unfold fDComp at e
 obtain ⟨⟨xs,ρ1⟩,e1,e⟩:=obs e
 dsimp only at e
 split at e
 ·rename_i hb
  cases e2:loopC (turnCD js.length gf t fa j) xs (capE (li.map (·.2)) js ρ1 ++ [some (.l (.dT [] []))]) with
  | none=>rw [e2] at e;cases e
  | some ρe=>
   rw [e2] at e
   simp only [Option.bind_some] at e
   split at e
   ·rename_i kz ys ey
    have hl:=b0E hj hb
    refine wpAny_comprehension_free rfl hs b.clos b.kind b.nms ?_
    refine wpAny_mono (hi.to pins s σ H _ I ⟨P,O,L,ρ,xs,ρ1,r,e1,fun J H1 P' r1 hh wk=>(⟨P',r1,hh,wk⟩:∃P',Rep X P' O L ρ1 σ H1/\Holds P' P/\Wks X.K P' xs J)⟩) (fun v s1 h1=>wpAny_mono h1 (fun itv s2 h2=>?_) fun _ _ z=>z) fun _ _ z=>z
    obtain ⟨it,fp,tn,J,H2,rfl,I2,T,st2,f2,P',r1,hh,wk⟩:=h2
    refine a6x hc I2 T st2 f2 b r1 hl wk (hg s2 H2 fp) (ht s2 H2 fp) hu (hka s2 H2 fp) (hv s2 H2 fp) e2 fun Dd C σe He s3 hn leC I1 rp=>?_
    obtain ⟨Hx,rx,sx,dx⟩:=a8l r1 hl hn rp ey e
    obtain ⟨m,hm,_⟩:=id I1.loc
    refine fin C (.ref Dd) He s3 (q _ Hx He (rx.holds hh) sx dx) (fun h9 k9=>a0K I2 f2 leC I1 k9) ?_ ⟨m,hm⟩ (.ref Dd) rfl
    exact I2.fpOk leC I1.free
   ·cases e
 ·cases e
theorem a9f {k:Nat}(j:Nat){x:Str}{px:Pos}(hr:Room k X.A)(hc:X.calm=true)(b:Blk X scope cl N js)(hi:QI X tg iter fi)(hg:∀s2 H2 fp C,QG (blk X scope cl s2 H2 fp C (N ++ [accN])) tg gf)(ht:∀s2 H2 fp C,Tst (blk X scope cl s2 H2 fp C (N ++ [accN])) ifs t)(hka:∀s2 H2 fp C,QA (blk X scope cl s2 H2 fp C (N ++ [accN])) es fa)
  (hv:∀s2 H2 fp C,PE (blk X scope cl s2 H2 fp C (N ++ [accN])) (.Name x px) (tVar j)) (hj:liJ li js=true:=by rfl) (hs:∀x,foldedSetIterable iter X.env x=pure x:=by intro _;rfl):QX X (.DictComp (.Tuple es kt kp0) (.Name x px) [⟨tg,iter,ifs,0⟩] scope pos) (fDComp fi li js gf t fa j):=⟨fun pins s σ H Q I h=>by
 rw [arm_eval_DictComp]
 refine a60 (use:=none) hc b hj hi hg ht (a11 hr) hka hv hs I h fun C v He s1 hq back fp ⟨m,hm⟩ vv rv=>?_
 exact ⟨m,hm,fun h9 k9=>⟨v,He,back h9 fun y ny=>k9.2 y ny,rv,hq⟩⟩⟩
end
section
variable {X:Cx}{a b c e e' o:Expr}{es rest:List Expr}{pos p p2 p3 apos:Pos}{f g h:FX}{t u:FT}{fa:FA}{x:Str}
theorem a9W:OpR X (binaryOp .Mult) (fun x y H Q=>∃l k xs,x= .ref l/\y= .int k/\SqL X.K H l xs/\-(2 ^ 63)<=k/\k < 2 ^ 63/\xs.length * k.toNat<=sizeLine/\∀p,H p=none->Q (.ref p) (upd H p (.lst (List.replicate k.toNat xs).flatten))):=by
 intro pins s σ H x y v u Q I rx ry h
 obtain ⟨l,k,xs,rfl,rfl,hH,h1,h2,hz,q⟩:=h
 cases rx
 obtain ⟨t,rfl⟩:=ry
 obtain ⟨its,r,⟨⟨c1,d1,e1,s1⟩,n,e,k1,_,w1⟩,_⟩:=I.list hH
 simp only at k1 w1
 subst k1 w1
 have hl:=r.length
 have hlen:its.toArray.size * k.toNat<=sizeLine:=by rw [List.size_toArray,<-hl];exact hz
 have hcap:¬its.toArray.size * k.toNat > (2 ^ 63 - 1) / 8:=by
  have:(sizeLine:Nat)<=(2 ^ 63 - 1) / 8:=by decide
  walk_at "o"
 have hfit:¬(!Builtin.List.listFitsIndex k)=true:=by rw [fitsIndex_both h1 h2];exact Bool.false_ne_true
 have hlong:¬Builtin.List.listTooLong (its.toArray.size * k.toNat)=true:=by rw [notLongL hlen];exact Bool.false_ne_true
 have hnew:List.foldl (fun x1 x2=>x1 ++ x2) #[] (List.replicate (if its.toArray.isEmpty=true then 0 else k.toNat) its.toArray)=(List.replicate k.toNat its).flatten.toArray:=by
  have f0:∀m:Nat,List.foldl (fun x1 x2=>x1 ++ x2) #[] (List.replicate m its.toArray)=(List.replicate m its).flatten.toArray:=fun m=>by
   have:=a1t its m []
   rw [List.nil_append] at this
   exact this
  rw [f0]
  cases its with
  | nil=>simp
  | cons a r'=>rw [if_neg (by simp)]
 refine wpAny_binaryOp_repeat_ref (T:="list") (U:="int") (by decide) ⟨_,e,rfl⟩ (fun s'=>typeIs_int s' k t) noFill_list_mul F.fills_int_mul F.slot_int_rmul repeat_list F.slot_int_index.lookup
  (call_meets F.slot_int_rmul (typeIs_int s k t) F.entry_int_rmul (F.args_int_rmul_2 _ _) (lm_int_rmul_list_any k t l its.toArray n d1 s1)
   ⟨e,rfl,⟨_,e,rfl⟩,call_meets F.slot_list_mul ⟨_,e,rfl⟩ F.entry_list_mul (F.args_list_mul_2 _ _) (lm_list_mul_any l its.toArray n d1 s1 k t hfit hcap hlong) ⟨e,?_⟩⟩)
 rw [hnew]
 exact ⟨.ref _,_,I.lnew (t':=s.toks) (r.rep k.toNat) (by rw [b0t,Nat.mul_comm];exact hz),rfl,q _ I.fresh⟩
def oRep (x y:D):Option W:=match x,y with
 | .lst xs,.int k=>if (-(2 ^ 63)<=k/\k < 2 ^ 63)/\xs.length * k.toNat<=lim then some (.o (.lst (List.replicate k.toNat xs).flatten)) else none
 | _,_=>none
theorem a3y {K:PySem.W.Frag}{A:Av}{H:Hp}{xs:List D}{vs:List V}(l:DenL K A H xs vs):∀n:Nat,DenL K A H (List.replicate n xs).flatten (List.replicate n vs).flatten
 | 0=>by simp;exact j4
 | n + 1=>by rw [List.replicate_succ,List.replicate_succ,List.flatten_cons,List.flatten_cons];exact t3 l (a3y l n)
theorem a8Z (ha:QX X a f)(hb:QX X b g):QX X (.BinOp a .Mult b pos) (fBin oRep f g):=T4 a9W (by
 intro A x y w v u H Q _ e hx hy q
 unfold oRep at e
 split at e
 ·rename_i xs k
  split at e
  ·rename_i hk
   cases e
   obtain ⟨a,vs,rfl,hq,l⟩:=hx
   exact ⟨a,k,vs,rfl,g7 hy,hq,hk.1.1,hk.1.2,by rw [<-c5 l];exact Nat.le_trans hk.2 q9,fun p hp=>q _ _ (j3 hp _) (D9 hp (a3y l _))⟩
  ·cases e
 ·cases e) ha hb
def GlT (mg:Str->Option Value) (K:PySem.W.Frag) (x:Str) (ns:List Int):Prop:=∃a,mg x=some (.ref a)/\SqT K Emp a (ns.map V.int)
theorem a3M {ns:List Int}(hm:GlT X.mg X.K x ns)(hg:Gl X x:=by rfl)(hd:(x == ("__debug__":Str))=false:=by decide):QX X (.Name x pos) (fC (.tup (ns.map D.int))):=by
 obtain ⟨a,hm,hq⟩:=hm
 refine ⟨PE.weak (a95 (v:=.ref a) hg hm rfl hd) (a7u fun A H=>?_)⟩
 rw [Den]
 refine ⟨a,_,rfl,?_,z8 ns⟩
 rcases hq with (q | ⟨o,q⟩) | q
 ·cases q
 ·cases q
 ·exact .inr q
def oBits:D->Option W
 | .int i=>some (.v (.int (Builtin.Int.intBits i:Nat)))
 | _=>none
def fDPutT (fd:FX) (fk:FA) (fv:FX):FS:=fun ρ=>(fv ρ).bind fun p=>(fd p.2).bind fun q=>match q.1 with
 | .r i=>(fk q.2).bind fun z=>(takeAll z.2 (p.1.fz :: z.1)).bind fun y=>match y.1 with
  | d :: ds=>(dkeys ds).bind fun k=>match ownAt y.2 i with
   | some (.dT ks xs)=>if ks.length < lim/\ds.length<=lim then some (.nx (setOwn y.2 i (.dT (putKs ks k) (putX ks xs k d)))) else none
   | _=>none
  | _=>none
 | _=>none
theorem a7C {k:Nat}{x1}{p1 p2:Pos}(hr:Room k X.A)(hd:QX X o f)(ha:QA X es fa)(hv:QX X e g)(hs:swapsWith e (some (.Subscript o (.Tuple es x1 p1) p2)) pos.line X.env=pure false:=by rfl):
  QS X (.Assign [.Subscript o (.Tuple es x1 p1) p2] e pos) (fDPutT f fa g):=by
 refine ⟨PS.weak (b0h (a11 hr) hd.to (a4W ha.to) hv.to hs) fun E σ H h0=>tSe h0 fun P O L ρ r rp e q=>?_⟩
 unfold fDPutT at e
 obtain ⟨⟨w1,ρ1⟩,e1,e⟩:=obs e
 dsimp only at e
 obtain ⟨⟨w2,ρ2⟩,e2,e⟩:=obs e
 dsimp only at e
 split at e
 ·rename_i i
  obtain ⟨⟨ws,ρ3⟩,e3,e⟩:=obs e
  dsimp only at e
  obtain ⟨⟨dl,ρ4⟩,e4,e⟩:=obs e
  dsimp only at e
  split at e
  ·rename_i d ds
   cases e5:dkeys ds with
   | none=>rw [e5] at e;cases e
   | some kk=>
    rw [e5] at e
    simp only [Option.bind_some] at e
    split at e
    ·rename_i ks xs e6
     split at e
     ·rename_i hl
      cases e
      refine ⟨P,O,L,ρ,w1,ρ1,rp,e1,fun v H1 H1' r1 s1 d1=>?_⟩
      obtain ⟨P',r1',k1⟩:=hold (r1.grow s1) (d1.fz r1 s1)
      refine ⟨P',O,L,ρ1,_,ρ2,r1',e2,fun v2 H2 H2' r2 s2 d2=>?_⟩
      have d2:σ[i]? =some (some v2):=d2
      refine ⟨P',O,L,ρ2,ws,ρ3,r2.grow s2,e3,fun us H3 r3 l3=>?_⟩
      obtain ⟨r3',d3⟩:=k1 _ H3 r3
      obtain ⟨r4,l4,_⟩:=k8 (vs:=v :: us) r3' e4 ⟨v,us,rfl,d3,l3⟩
      rw [DenL] at l4
      obtain ⟨v',us',ev,hd',ld⟩:=l4
      cases ev
      have ek:=P8 e5 ld
      refine ⟨?_,fun p hp=>?_⟩
      ·rw [<-c5 ld];exact Nat.le_trans hl.2 q9
      ·have sm:=j3 hp (.tup us)
       have r5:=r4.grow sm
       obtain ⟨w0,q0,ow⟩:=n9 e6
       obtain ⟨a,h1,vs,h4,hkl,lz⟩:=r5.obj q0 ow
       rw [d2] at h1;cases h1
       have hlv:ks.length=vs.length:=by rw [hkl,c5 lz]
       refine ⟨a,_,rfl,DPut.t (k:=kk) h4 (by rw [<-ek];exact j9) ?_,?_⟩
       ·rw [List.length_zip,hlv,Nat.min_self,<-hlv]
        exact Nat.lt_of_lt_of_le hl.1 q9
       ·rw [a5g hlv]
        have g0:∀u,Go (AvO O ρ4 σ) (AvO O ρ4 σ) (fun b=>b=a) (upd H3 p (.tup us)) (upd (upd H3 p (.tup us)) a u):=fun u=>⟨fun b o eb nb=>by rw [c8 nb];exact eb,fun b z=>by rw [z];exact ⟨.inr ⟨i,w0,_,q0,ow,d2⟩,_,h4,trivial⟩,fun b z=>.inl z⟩
        exact q σ _ (r5.mut (d:=.dT (putKs ks kk) (putX ks xs kk d)) e6 d2 (fun b o eb nb=>by rw [c8 nb];exact eb) ⟨_,j9,a0j hkl,q8 (g0 _) _ _ (a3B lz (T9 sm hd'))⟩)
     ·cases e
    ·cases e
  ·cases e
 ·cases e
end
def kd1:Key->D
 | .inl i=>.int i
 | .inr x=>.str x
def keyD (k:List Key):D:=.tup (k.map kd1)
theorem a9N {K:PySem.W.Frag}{A:Av}{H:Hp}(k:Key):Den K A H (kd1 k) (kV k):=by
 cases k with
 | inl i=>exact v3.mpr rfl
 | inr x=>exact a24.mpr rfl
theorem a3C {K:PySem.W.Frag}{A:Av}{H:Hp}:∀ks:List Key,DenL K A H (ks.map kd1) (ks.map kV)
 | []=>j4
 | k :: ks=>by rw [List.map_cons,List.map_cons];exact g8 (a9N k) (a3C ks)
inductive KeysAt (H:Hp):List (List Key)->List Addr->Prop where
 | nil:KeysAt H [] []
 | cons {k:List Key} {ks:List (List Key)} {b:Addr} {bs:List Addr} (q:H b=some (.tup (k.map kV))) (r:KeysAt H ks bs):KeysAt H (k :: ks) (b :: bs)
theorem KeysAt.den {K:PySem.W.Frag}{A:Av}{H:Hp}:∀{ks:List (List Key)} {bs:List Addr},KeysAt H ks bs->DenL K A H (ks.map keyD) (bs.map V.ref)
 | _,_,.nil=>j4
 | _,_,.cons q r=>by
  rw [List.map_cons,List.map_cons]
  refine g8 ?_ r.den
  unfold keyD
  rw [Den]
  exact ⟨_,_,rfl,.inl (.inl q),a3C _⟩
section
variable {X:Cx}{a b c e e' o:Expr}{es rest:List Expr}{pos p p2 p3 apos:Pos}{f g h:FX}{t u:FT}{fa:FA}{x:Str}
def gListD:D->Option W
 | .dT ks _=>some (.o (.lst (ks.map keyD)))
 | d=>gList d
theorem a47 {id:String}{m:Str}{r:V->List V->Hp->VK->Prop}{op:List D->List D->Option (W×List D)}(hs0:Slot "list" m id)(ht0:typeOf (.builtin id)=pure (.type "method_descriptor"))(hm:MtR X id r)(hk:PrM X op r)(hw:∀xs ds w ys,op xs ds=some (w,ys)->∃d,w= .v d)
  (ho:QX X o f) (ha:QA X (e :: es) fa) (hbase:attributeBase o m X.env (eval o X.env)=eval o X.env)
  (hfew:((backTo pos (starEach (e :: es) X.env)).all (fun x=>!x.1) && (backToKw pos (keywordEach [] X.env)).all (fun x=>x.1.isSome) && decide ((e :: es).length + ([]:List Keyword).length + (if ([]:List Keyword).isEmpty then 0 else 1) < 30))=true)
  (hline:(apos.endLine == pos.line)=true) (hs:starEach (e :: es) X.env=(false,eval e X.env) :: starEach es X.env) (hpl:(backTo pos (starEach es X.env)).any (·.1)=false):QX X (.Call (.Attribute o m apos) (e :: es) [] pos) (fMut op f fa):=
 ⟨PE.weak (a70 PySem.F.plainAttrs_list hs0 ht0 hm ho.to ha.to hbase hfew hline hs hpl) (a3O hk hw)⟩
theorem a6Q (T:String)(hT:T="list"\/T="tuple")(l b:Addr)(items items2:Array Value)(n n2:Nat)(dd:Option Addr)(sl:Array (Option Value))(h0:¬(!items.isEmpty && Builtin.List.listTooLong (items.size + items2.size))=true)(h1:items.size<=sizeLine)(h2:items.size + items2.size<=sizeLine + 1):
  Meets (Builtin.«list.extend» ⟨[.ref l,.ref b],[]⟩) (fun _ R s=>s.heap.get? l=some {cls:=.type "list",dict:=none,data:=.seq items n,slots:= #[]}/\s.heap.get? b=some {cls:=.type T,dict:=dd,data:=.seq items2 n2,slots:=sl}/\
   R (.ok (.ret Value.none)) {s with heap:=s.heap.update l (PySem.Obj.mapSeq fun x=>x ++ items2),toks:=s.toks}):=
 .of_wp fun prog w A R s hh=>by
  obtain ⟨hp,g,d,tk,os⟩:=s
  obtain ⟨hl,hb,hr⟩:=hh
  have f1:=PySem.AutoSeq1.idx_int
  have f2:=PySem.AutoSeq1.sub_tuple_tuple
  have f3:=PySem.AutoSeq1.sub_list_list
  have f4:=PySem.AutoSeq1.sub_tuple_list
  have f5:=PySem.AutoSeq1.sub_list_tuple
  have hz:(items ++ items2).size<=sizeLine + 1:=by rw [Array.size_append];exact h2
  rcases hT with rfl | rfl
  ·wp_walk using (wpAny_updateSeq hl rfl (hz:=h1) (_hz':=hz)),PySem.AutoSeq1.wpAny_loadPart' hl,PySem.AutoSeq1.wpAny_loadPart' hb
   exact ⟨_,rfl,hr⟩
  ·wp_walk using (wpAny_updateSeq hl rfl (hz:=h1) (_hz':=hz)),PySem.AutoSeq1.wpAny_loadPart' hl,PySem.AutoSeq1.wpAny_loadPart' hb
   exact ⟨_,rfl,hr⟩
def rExt (K:PySem.W.Frag):V->List V->Hp->VK->Prop:=fun x vs H Q=>∃l b xs zs,x= .ref l/\vs=[.ref b]/\H l=some (.lst xs)/\(SqL K H b zs\/SqT K H b zs)/\xs.length + zs.length<=sizeLine/\Q .non (upd H l (.lst (xs ++ zs)))
theorem b2a:MtR X "list.extend" (rExt X.K):=by
 intro pins s σ H x vs v us Q I rx rv ⟨l,b,xs,zs,ex,ev,hH,hB,hz,q⟩
 subst ex ev
 cases rx
 obtain ⟨u,rfl,ru⟩:=rv.one
 cases ru
 obtain ⟨z,its,n,r,hl,el⟩:=I.lstM hH
 have src:∃(T:String) (its2:List Value) (n2:Nat) (dd:Option Addr) (sl:Array (Option Value)),(T="list"\/T="tuple")/\Vals zs its2/\s.heap.get? b=some {cls:=.type T,dict:=dd,data:=.seq its2.toArray n2,slots:=sl}:=by
  rcases hB with hB | hB
  ·obtain ⟨its2,r2,⟨⟨oc,od,oda,osl⟩,n2,ho,hc,_,hd⟩,_⟩:=I.list hB
   dsimp only at hc hd
   subst hc hd
   exact ⟨"list",its2,n2,od,osl,.inl rfl,r2,ho⟩
  ·obtain ⟨its2,r2,⟨⟨oc,od,oda,osl⟩,ho,hc,n2,hd⟩,_⟩:=I.tuple hB
   dsimp only at hc hd
   subst hc hd
   exact ⟨"tuple",its2,n2,od,osl,.inr rfl,r2,ho⟩
 obtain ⟨T,its2,n2,od,osl,hT,r2,ho⟩:=src
 have hl2:=r2.length
 have hsz:its.toArray.size + its2.toArray.size<=sizeLine:=by rw [List.size_toArray,List.size_toArray];walk_at "o"
 refine call_meets F.slot_list_extend ⟨_,el,rfl⟩ F.entry_list_extend (F.args_list_extend_2 _ _) (a6Q T hT l b its.toArray its2.toArray n n2 od osl (fun w=>?_) (by rw [List.size_toArray];walk_at "o") (by walk_at "o")) ⟨el,ho,?_⟩
 ·rw [notLongL hsz,Bool.and_false] at w;cases w
 ·exact ⟨.non,_,I.lset (its':=its ++ its2) hH el (by simp) (r.append r2) (by rw [List.length_append];walk_at "o"),rfl,q⟩
def mExt (xs ds:List D):Option (W×List D):=match ds with
 | [d]=>(items d).bind fun ys=>if xs.length + ys.length<=lim then some (.v .non,xs ++ ys) else none
 | _=>none
theorem b2l:PrM X mExt (rExt X.K):=fun A a xs ds w ys us vs H Q h l l' e q _=>by
 unfold mExt at e
 split at e
 ·rename_i d
  cases e1:items d with
  | none=>rw [e1] at e;cases e
  | some zs=>
   rw [e1] at e
   simp only [Option.bind_some] at e
   split at e
   ·rename_i hl
    cases e
    obtain ⟨v,rfl,hv⟩:=denL1 l'
    obtain ⟨b,ws,rfl,hq,lz⟩:=F8 e1 (E8 hv)
    exact ⟨a,b,us,ws,rfl,rfl,h,hq,by rw [<-c5 l,<-c5 lz];exact Nat.le_trans hl q9,q _ _ (t3 l lz) U9⟩
   ·cases e
 ·cases e
theorem b2A:∀xs ds w ys,mExt xs ds=some (w,ys)->∃d,w= .v d:=fun xs ds w ys e=>by
 unfold mExt at e
 split at e
 ·rename_i d
  cases e1:items d with
  | none=>rw [e1] at e;cases e
  | some zs=>
   rw [e1] at e
   simp only [Option.bind_some] at e
   split at e
   ·cases e;exact ⟨_,rfl⟩
   ·cases e
 ·cases e
theorem Z7 (ho:QX X o f)(ha:QA X (e :: es) fa)(hbase:attributeBase o "extend" X.env (eval o X.env)=eval o X.env:=by rfl)
  (hfew:((backTo pos (starEach (e :: es) X.env)).all (fun x=>!x.1) && (backToKw pos (keywordEach [] X.env)).all (fun x=>x.1.isSome) && decide ((e :: es).length + ([]:List Keyword).length + (if ([]:List Keyword).isEmpty then 0 else 1) < 30))=true:=by rfl)
  (hline:(apos.endLine == pos.line)=true:=by rfl) (hs:starEach (e :: es) X.env=(false,eval e X.env) :: starEach es X.env:=by rfl) (hpl:(backTo pos (starEach es X.env)).any (·.1)=false:=by rfl):QX X (.Call (.Attribute o "extend" apos) (e :: es) [] pos) (fMut mExt f fa):=
 a47 PySem.F.slot_list_extend PySem.F.type_list_extend b2a b2l b2A ho ha hbase hfew hline hs hpl
theorem a0M {K:PySem.W.Frag}{A:Av}{H:Hp}:∀{ds:List D} {vs:List V} (n:Nat),DenL K A H ds vs->DenL K A H (ds.eraseIdx n) (vs.eraseIdx n)
 | [],_,n,h=>by rw [DenL] at h;subst h;exact j4
 | d :: ds,_,0,h=>by
  rw [DenL] at h
  obtain ⟨v,r,rfl,_,l⟩:=h
  exact l
 | d :: ds,_,n + 1,h=>by
  rw [DenL] at h
  obtain ⟨v,r,rfl,hv,l⟩:=h
  exact g8 hv (a0M n l)
def mPopAt (xs ds:List D):Option (W×List D):=match ds with
 | [.int i]=>if 0<=i/\i < 2 ^ 62 then (xs[i.toNat]?).map fun d=>(.v d,xs.eraseIdx i.toNat) else none
 | _=>none
theorem a7v:PrM X mPopAt rPopAt:=fun A a xs ds w ys us vs H Q h l l' e q _=>by
 unfold mPopAt at e
 split at e
 ·rename_i i
  split at e
  ·rename_i hi
   obtain ⟨d,e1,e⟩:=oms e
   cases e
   obtain ⟨v,rfl,hv⟩:=denL1 l'
   obtain ⟨z,hz,dz⟩:=v4 l e1
   have lt:=(List.getElem?_eq_some_iff.mp e1).1
   refine ⟨a,us,i,i.toNat,z,rfl,by rw [v3.mp hv],h,by walk_at "o",by walk_at "o",?_,hz,q _ _ (a0M _ l) dz⟩
   rw [seqIndex_of hi.1 (by rw [<-c5 l];walk_at "o")]
  ·cases e
 ·cases e
theorem a9q:∀xs ds w ys,mPopAt xs ds=some (w,ys)->∃d,w= .v d:=fun xs ds w ys e=>by
 unfold mPopAt at e
 split at e
 ·rename_i i
  split at e
  ·cases e1:xs[i.toNat]? with
   | none=>rw [e1] at e;cases e
   | some d=>rw [e1] at e;cases e;exact ⟨_,rfl⟩
  ·cases e
 ·cases e
theorem a73 (ho:QX X o f)(ha:QA X (e :: es) fa)(hbase:attributeBase o "pop" X.env (eval o X.env)=eval o X.env:=by rfl)
  (hfew:((backTo pos (starEach (e :: es) X.env)).all (fun x=>!x.1) && (backToKw pos (keywordEach [] X.env)).all (fun x=>x.1.isSome) && decide ((e :: es).length + ([]:List Keyword).length + (if ([]:List Keyword).isEmpty then 0 else 1) < 30))=true:=by rfl)
  (hline:(apos.endLine == pos.line)=true:=by rfl) (hs:starEach (e :: es) X.env=(false,eval e X.env) :: starEach es X.env:=by rfl) (hpl:(backTo pos (starEach es X.env)).any (·.1)=false:=by rfl):QX X (.Call (.Attribute o "pop" apos) (e :: es) [] pos) (fMut mPopAt f fa):=
 a47 PySem.F.slot_list_pop PySem.F.type_list_pop a9s a7v a9q ho ha hbase hfew hline hs hpl
end
theorem b0i {X:Cx}(i:Nat){x:Str}{pos:Pos}(hN:X.N[i]? =some x:=by rfl)(hv:Vis X.env.scope x:=by first | exact Or.inl rfl | exact Or.inr (Or.inl rfl) | exact Or.inr (Or.inr rfl))(hd:(x == ("__debug__":Str))=false:=by decide)(hcd:(x == ("__classdict__":Str))=false:=by decide):PE X (.Name x pos) (tVar i):=a2T hN hv hd hcd
section
variable {f g h:FX}{t u:FT}{fa:FA}{F G:FS}{ρ ρ1 ρ2:Ev}{w z:W}{ws:List W}{d e x y:D}{ds xs ys:List D}{i j k:Nat}{m n:Int}{b:Bool}{kl:List (List Key)}{kk:List Key}{kq:List Key}{kx:Key}
theorem a9B:oIxG (.tup xs) d=oIx (.tup xs) d:=rfl
theorem a7Y:oIxG (.lst xs) d=oIx (.lst xs) d:=rfl
theorem b2r (hk:tkey d=some kk)(hl:look kl xs kk=some e):oIxG (.dT kl xs) d=some (.v e):=by
 unfold oIxG;simp only [isDi,if_true,lookG,hk,Option.map_some,Option.bind_some,hl]
theorem a9J {ns:List Int}(hi:intsOf xs=some ns):oInG b (.int n) (.tup xs)=some (nb b (decide (n∈ns))):=by
 unfold oInG;simp only [isDi,Bool.false_eq_true,if_false,items,Option.bind_some,hi,Option.map_some]
theorem a9R {ns:List Int}(hi:intsOf xs=some ns):oInG b (.int n) (.lst xs)=some (nb b (decide (n∈ns))):=by
 unfold oInG;simp only [isDi,Bool.false_eq_true,if_false,items,Option.bind_some,hi,Option.map_some]
theorem a2U {ns:List Int}{js:List (List Int)}(hx:intsOf ds=some ns)(hi:tupsOf xs=some js):oInG b (.tup ds) (.lst xs)=some (nb b (decide (ns∈js))):=by
 unfold oInG;simp only [isDi,Bool.false_eq_true,if_false,hx,items,Option.bind_some,hi,Option.map_some]
theorem nb_f {k:Bool}:nb false k= .v (.bl k):=rfl
theorem nb_t {k:Bool}:nb true k= .v (.bl (!k)):=rfl
def ge2 (fa:FA):Option (W×Ev)->Option (W×Ev)
 | some p=>fGet (fun _=>some p) fa p.2
 | none=>none
def ge3 (fa:FA) (w:W) (ρ:Ev):Option D->Option (W×Ev)
 | some d=>if isDi d=true then (fa ρ).bind fun q=>(takeAll q.2 q.1).bind fun z=>(dr z.2 w.fz).bind fun x=>match z.1 with
  | [y,e]=>(lookG x y).map fun r=>(.v (r.getD e),z.2)
  | _=>none
  else none
 | none=>none
def ge4 (w:W):Option (List W×Ev)->Option (W×Ev)
 | some q=>(takeAll q.2 q.1).bind fun z=>(dr z.2 w.fz).bind fun x=>match z.1 with
  | [y,e]=>(lookG x y).map fun r=>(.v (r.getD e),z.2)
  | _=>none
 | none=>none
def ge5 (w:W):Option (List D×Ev)->Option (W×Ev)
 | some z=>(dr z.2 w.fz).bind fun x=>match z.1 with
  | [y,e]=>(lookG x y).map fun r=>(.v (r.getD e),z.2)
  | _=>none
 | none=>none
def ge6 (y e:D) (ρ:Ev):Option D->Option (W×Ev)
 | some x=>(lookG x y).map fun r=>(.v (r.getD e),ρ)
 | none=>none
theorem r_ge:fGet f fa ρ=ge2 fa (f ρ):=by unfold ge2;cases e:f ρ with
 | none=>unfold fGet;rw [e];rfl
 | some p=>unfold fGet;rw [e]
theorem b0O:ge2 fa (some (w,ρ))=ge3 fa w ρ (dr ρ w.fz):=by unfold ge2 ge3 fGet;dsimp only [Option.bind_some];cases dr ρ w.fz <;> rfl
theorem a5S:ge3 fa w ρ (some (.dT kl xs))=ge4 w (fa ρ):=by unfold ge3 ge4;simp only [isDi,if_true];cases fa ρ <;> rfl
theorem r_ge3_K:ge3 fa w ρ (some (.dK kq xs))=ge4 w (fa ρ):=by unfold ge3 ge4;simp only [isDi,if_true];cases fa ρ <;> rfl
theorem b0S:ge4 w (some (ws,ρ))=ge5 w (takeAll ρ ws):=by unfold ge4 ge5;dsimp only;cases takeAll ρ ws <;> rfl
theorem b0J:ge5 w (some ([y,e],ρ))=ge6 y e ρ (dr ρ w.fz):=by unfold ge5 ge6;dsimp only;cases dr ρ w.fz <;> rfl
theorem a5N (hk:tkey y=some kk):ge6 y e ρ (some (.dT kl xs))=some (.v ((look kl xs kk).getD e),ρ):=by unfold ge6;simp only [lookG,hk,Option.map_some]
theorem a0I:∀ns:List Int,dkeys (ns.map D.int)=some (ns.map Sum.inl)
 | []=>rfl
 | n :: ns=>by rw [List.map_cons,dkeys,a0I ns];rfl
theorem a2S (ns:List Int):tkey (tupI ns)=some (ns.map Sum.inl):=a0I ns
def dp2 (fd:FX) (fk:FA):Option (W×Ev)->Option R
 | some p=>fDPutT fd fk (fun _=>some p) p.2
 | none=>none
def dp3 (w:W) (fk:FA):Option (W×Ev)->Option R
 | some q=>match q.1 with
  | .r i=>(fk q.2).bind fun z=>(takeAll z.2 (w.fz :: z.1)).bind fun y=>match y.1 with
   | d :: ds=>(dkeys ds).bind fun k=>match ownAt y.2 i with
    | some (.dT ks xs)=>if ks.length < lim/\ds.length<=lim then some (.nx (setOwn y.2 i (.dT (putKs ks k) (putX ks xs k d)))) else none
    | _=>none
   | _=>none
  | _=>none
 | none=>none
def dp4 (w:W) (i:Nat):Option (List W×Ev)->Option R
 | some z=>(takeAll z.2 (w.fz :: z.1)).bind fun y=>match y.1 with
   | d :: ds=>(dkeys ds).bind fun k=>match ownAt y.2 i with
    | some (.dT ks xs)=>if ks.length < lim/\ds.length<=lim then some (.nx (setOwn y.2 i (.dT (putKs ks k) (putX ks xs k d)))) else none
    | _=>none
   | _=>none
 | none=>none
def dp5 (i:Nat):Option (List D×Ev)->Option R
 | some y=>match y.1 with
   | d :: ds=>(dkeys ds).bind fun k=>match ownAt y.2 i with
    | some (.dT ks xs)=>if ks.length < lim/\ds.length<=lim then some (.nx (setOwn y.2 i (.dT (putKs ks k) (putX ks xs k d)))) else none
    | _=>none
   | _=>none
 | none=>none
def dp6 (i:Nat) (d:D) (ds:List D) (ρ:Ev):Option (List Key)->Option D->Option R
 | some k,some (.dT ks xs)=>if ks.length < lim/\ds.length<=lim then some (.nx (setOwn ρ i (.dT (putKs ks k) (putX ks xs k d)))) else none
 | _,_=>none
theorem r_dp:fDPutT f fa g ρ=dp2 f fa (g ρ):=by unfold dp2;cases e:g ρ with
 | none=>unfold fDPutT;rw [e];rfl
 | some p=>unfold fDPutT;rw [e]
theorem b1v:dp2 f fa (some (w,ρ))=dp3 w fa (f ρ):=by unfold dp2 dp3 fDPutT;dsimp only [Option.bind_some];cases f ρ <;> rfl
theorem b0y:dp3 w fa (some (.r i,ρ))=dp4 w i (fa ρ):=by unfold dp3 dp4;dsimp only;cases fa ρ <;> rfl
theorem b1g:dp4 w i (some (ws,ρ))=dp5 i (takeAll ρ (w.fz :: ws)):=by unfold dp4 dp5;dsimp only;cases takeAll ρ (w.fz :: ws) <;> rfl
theorem b0z:dp5 i (some (d :: ds,ρ))=dp6 i d ds ρ (dkeys ds) (ownAt ρ i):=by
 unfold dp5 dp6
 dsimp only
 cases dkeys ds with
 | none=>cases ownAt ρ i <;> rfl
 | some k=>
  dsimp only [Option.bind_some]
  cases ownAt ρ i with
  | none=>rfl
  | some x=>cases x <;> rfl
theorem b1k:dp6 i d ds ρ (some kk) (some (.dT kl xs))=if kl.length < lim/\ds.length<=lim then some (.nx (setOwn ρ i (.dT (putKs kl kk) (putX kl xs kk d)))) else none:=rfl
theorem b0U:dkeys []=some []:=rfl
theorem b1p:dkeys (.int m :: ds)=(dkeys ds).map fun ks=>Sum.inl m :: ks:=by rw [dkeys];rfl
theorem b1K:fDNewT ρ=some (.o (.dT [] []),ρ):=rfl
theorem a5e (h:kk∉kl):putKs kl kk=kl ++ [kk]/\putX kl xs kk d=xs ++ [d]:=⟨if_neg h,if_neg h⟩
theorem b0H (h:(-(2 ^ 63)<=n/\n < 2 ^ 63)/\xs.length * n.toNat<=lim):oRep (.lst xs) (.int n)=some (.o (.lst (List.replicate n.toNat xs).flatten)):=if_pos h
theorem o_bits:oBits (.int n)=some (.v (.int (Builtin.Int.intBits n:Nat))):=by cases n <;> exact rfl
theorem b1w:mExt xs [d]=(items d).bind fun ys=>if xs.length + ys.length<=lim then some (.v .non,xs ++ ys) else none:=rfl
theorem b2R:gListD (.dT kl xs)=some (.o (.lst (kl.map keyD))):=rfl
theorem b2M:gListD (.lst xs)=some (.o (.lst xs)):=rfl
theorem b2Q:gListD (.tup xs)=some (.o (.lst xs)):=rfl
theorem b0m {ks:List (List Int)}(hi:gSortI (.lst xs)=none)(ht:tupsOf xs=some ks)(h64:ks.length < 64)(ne:∀k∈ks,k≠[]):gSort (.lst xs)=some (.o (.lst ((sortK ks).map tupI))):=by
 unfold gSort gSortT;rw [hi];simp only [keysOf,ht,Option.bind_some];exact if_pos ⟨h64,ne⟩
theorem a6O {k:List Int}{ks:List (List Int)}:gSortI (.lst ((k :: ks).map tupI))=none:=rfl
theorem B9 {ks:List (List Int)}(h64:ks.length < 64)(ne:∀k∈ks,k≠[]):gSort (.lst (ks.map tupI))=some (.o (.lst ((sortK ks).map tupI))):=by
 cases ks with
 | nil=>simp [gSort,gSortI,intsOf,sortI,sortK]
 | cons k ks=>exact b0m a6O (D8 _) h64 ne
theorem a0Y {k:Nat}{gf:FG}(I:Ev->Prop)(hI:∀B,I B->B.length=k)(key:D->List Key)(val:D->D):∀(xs:List D),(∀x∈xs,∀B ks zs,I B->ks.length < lim->∃B',I B'/\turnCD k gf t fa j x (B ++ [some (.l (.dT ks zs))])=some (B' ++ [some (.l (.dT (putKs ks (key x)) (putX ks zs (key x) (val x))))]))->
  ∀(B:Ev) (ks:List (List Key)) (zs:List D),ks.length=zs.length->ks.length + xs.length<=lim->I B->(ks ++ xs.map key).Nodup->∃B',I B'/\loopC (turnCD k gf t fa j) xs (B ++ [some (.l (.dT ks zs))])=some (B' ++ [some (.l (.dT (ks ++ xs.map key) (zs ++ xs.map val)))])
 | [],st,B,ks,zs,hz,hl,i,nd=>⟨B,i,by simp [loopC]⟩
 | x :: xs,st,B,ks,zs,hz,hl,i,nd=>by
  rw [List.length_cons] at hl
  obtain ⟨B1,i1,e1⟩:=st x List.mem_cons_self B ks zs i (by walk_at "o")
  have nin:key x∉ks:=fun z=>by
   rw [List.map_cons] at nd
   exact (List.nodup_append.mp nd).2.2 _ z _ List.mem_cons_self rfl
  obtain ⟨p1,p2⟩:=a5e (xs:=zs) (d:=val x) nin
  rw [p1,p2] at e1
  obtain ⟨B2,i2,e2⟩:=a0Y I hI key val xs (fun y hy=>st y (List.mem_cons_of_mem _ hy)) B1 (ks ++ [key x]) (zs ++ [val x]) (by simp [hz]) (by rw [List.length_append,List.length_singleton];walk_at "o") i1 (by rw [List.append_assoc];exact nd)
  exact ⟨B2,i2,by rw [loopC,e1];simp only [Option.bind_some];rw [e2,List.append_assoc,List.append_assoc];rfl⟩
theorem a63 {fi:FI}{js:List (Option Nat)}{gf:FG}{ρ ρ1:Ev}(I:Ev->Prop)(key:D->List Key)(val:D->D)(ei:fi ρ=some (xs,ρ1))(hI:∀B,I B->B.length=js.length)(h0:I (capE none js ρ1))(hl:xs.length<=lim)(hf:lfL (xs.map val)=true)(nd:(xs.map key).Nodup)
  (st:∀x∈xs,∀B ks zs,I B->ks.length < lim->∃B',I B'/\turnCD js.length gf t fa j x (B ++ [some (.l (.dT ks zs))])=some (B' ++ [some (.l (.dT (putKs ks (key x)) (putX ks zs (key x) (val x))))])):
  fDComp fi none js gf t fa j ρ=some (.o (.dT (xs.map key) (xs.map val)),ρ1):=by
 obtain ⟨B',i',e⟩:=a0Y I hI key val xs st (capE none js ρ1) [] [] rfl (by rw [List.length_nil];walk_at "o") h0 (by simpa using nd)
 unfold fDComp
 rw [ei]
 simp only [Option.bind_some,liB,if_true,Option.map_none]
 rw [e]
 have ha:ownAt (B' ++ [some (.l (.dT ([] ++ xs.map key) ([] ++ xs.map val)))]) js.length=some (.dT (xs.map key) (xs.map val)):=by
  unfold ownAt
  rw [List.getElem?_append_right (by rw [hI B' i'];exact Nat.le_refl _),hI B' i',Nat.sub_self];rfl
 simp only [Option.bind_some,ha,backCD,hf,if_true]
def td2 (k j:Nat) (t:FT) (fa:FA):Option Ev->Option Ev
 | some ρ1=>(t ρ1).bind fun p=>if p.1=true then (fa p.2).bind (putTo k j) else some p.2
 | none=>none
def td3 (k j:Nat) (fa:FA):Option (Bool×Ev)->Option Ev
 | some p=>if p.1=true then (fa p.2).bind (putTo k j) else some p.2
 | none=>none
def td4 (k j:Nat):Option (List W×Ev)->Option Ev
 | some p=>putTo k j p
 | none=>none
def pt2 (k j:Nat):Option (List D×Ev)->Option Ev
 | some q=>(dkeys q.1).bind fun kk=>match q.2[j]? with
  | some (some (.v d))=>match ownAt q.2 k with
   | some (.dT ks zs)=>if ks.length < lim/\q.1.length<=lim then some (setOwn q.2 k (.dT (putKs ks kk) (putX ks zs kk d))) else none
   | _=>none
  | _=>none
 | none=>none
def pt3 (k:Nat) (n:Nat) (ρ:Ev):Option (List Key)->Option (Option W)->Option D->Option Ev
 | some kk,some (some (.v d)),some (.dT ks zs)=>if ks.length < lim/\n<=lim then some (setOwn ρ k (.dT (putKs ks kk) (putX ks zs kk d))) else none
 | _,_,_=>none
theorem r_td {gf:FG}:turnCD k gf t fa j d ρ=td2 k j t fa (gf d ρ):=by unfold turnCD td2;cases gf d ρ <;> rfl
theorem b1F:td2 k j t fa (some ρ)=td3 k j fa (t ρ):=by unfold td2 td3;dsimp only;cases t ρ <;> rfl
theorem b07:td3 k j fa (some (true,ρ))=td4 k j (fa ρ):=by unfold td3 td4;simp only [if_true];cases fa ρ <;> rfl
theorem b03:td4 k j (some (ws,ρ))=pt2 k j (takeAll ρ ws):=by unfold td4 putTo pt2;dsimp only;cases takeAll ρ ws <;> rfl
theorem b1B:pt2 k j (some (ds,ρ))=pt3 k ds.length ρ (dkeys ds) ρ[j]? (ownAt ρ k):=by
 unfold pt2 pt3
 dsimp only
 cases dkeys ds with
 | none=>rfl
 | some kk=>
  dsimp only [Option.bind_some]
  cases ρ[j]? with
  | none=>rfl
  | some o=>
   cases o with
   | none=>rfl
   | some w=>
    cases w with
    | v d=>
     cases ownAt ρ k with
     | none=>rfl
     | some x=>cases x <;> rfl
    | _=>rfl
theorem b08 {n:Nat}:pt3 k n ρ (some kk) (some (some (.v d))) (some (.dT kl xs))=if kl.length < lim/\n<=lim then some (setOwn ρ k (.dT (putKs kl kk) (putX kl xs kk d))) else none:=rfl
end
abbrev Tie:=Int×Int×Int
def tieD (t:Tie):D:=.tup [.int t.1,.int t.2.1,.int t.2.2]
def webD (n:Int) (ts:List Tie):D:=.tup [.int n,.tup (ts.map tieD)]
def tkK (t:Tie):List Key:=[Sum.inl t.1,Sum.inl t.2.1]
def parK (n:Int) (ts:List Tie):List (List Int):=((List.range n.toNat).map fun (i:Nat)=>[(i:Int)]) ++ ts.map fun t=>[t.1,t.2.1]
structure WebOk (n:Int) (ts:List Tie):Prop where
 n1:1<=n/\n<=8
 t:∀t∈ts,0<=t.1/\t.1 < t.2.1/\t.2.1 < n/\1<=t.2.2/\t.2.2<=10 ^ 12
 nd:(ts.map fun t=>(t.1,t.2.1)).Nodup
 len:ts.length<=55
def gainOf:List Tie->List Int->Int
 | [],_=>0
 | t :: ts,k=>if [t.1,t.2.1]=k then t.2.2 else gainOf ts k
theorem a5E {a b:List Int}(h:a.map (Sum.inl:Int->Key)=b.map Sum.inl):a=b:=by
 induction a generalizing b with
 | nil=>cases b with | nil=>rfl | cons _ _=>cases h
 | cons x a ih=>cases b with
  | nil=>cases h
  | cons y b=>rw [List.map_cons,List.map_cons] at h;injection h with h1 h2;injection h1 with h1;rw [h1,ih h2]
theorem a8O (t:Tie):tkK t=[t.1,t.2.1].map Sum.inl:=rfl
theorem Y7:∀(ts:List Tie) (k:List Int),(look (ts.map tkK) (ts.map fun t=>D.int t.2.2) (k.map Sum.inl)).getD (.int 0)= .int (gainOf ts k)
 | [],k=>rfl
 | t :: ts,k=>by
  rw [List.map_cons,List.map_cons,look,gainOf]
  by_cases h:[t.1,t.2.1]=k
  ·rw [if_pos (by rw [a8O,h]),if_pos h];rfl
  ·rw [if_neg (show ¬tkK t=k.map Sum.inl from fun z=>h (a5E z)),if_neg h];exact Y7 ts k
theorem Q8:∀{ts:List Tie} {k:List Int},k∈(ts.map fun t=>[t.1,t.2.1])->look (ts.map tkK) (ts.map fun t=>D.int t.2.2) (k.map Sum.inl)=some (.int (gainOf ts k))
 | [],k,h=>by cases h
 | t :: ts,k,h=>by
  rw [List.map_cons,List.map_cons,look,gainOf]
  by_cases e:[t.1,t.2.1]=k
  ·rw [if_pos (by rw [a8O,e]),if_pos e]
  ·rw [if_neg (show ¬tkK t=k.map Sum.inl from fun z=>e (a5E z)),if_neg e]
   rcases List.mem_cons.mp h with rfl | h
   ·exact absurd rfl e
   ·exact Q8 h
theorem R1 (i:Int):∀ts:List Tie,gainOf ts [i]=0
 | []=>rfl
 | t :: ts=>by rw [gainOf,if_neg (by simp),R1 i ts]
theorem Z1 {n:Int}{ts:List Tie}(h:∀t∈ts,0<=t.1/\t.1 < t.2.1/\t.2.1 < n/\1<=t.2.2/\t.2.2<=10 ^ 12)(k:List Int):0<=gainOf ts k/\gainOf ts k<=10 ^ 12:=by
 induction ts with
 | nil=>exact ⟨Int.le_refl _,by show (0:Int)<=10 ^ 12;decide⟩
 | cons t ts ih=>
  rw [gainOf]
  split
  ·have:=h t List.mem_cons_self;omega
  ·exact ih fun t ht=>h t (List.mem_cons_of_mem _ ht)
theorem N9 {n:Int}{ts:List Tie}(h:WebOk n ts):(parK n ts).length<=63/\∀k∈parK n ts,k≠[]:=by
 unfold parK
 refine ⟨by rw [List.length_append,List.length_map,List.length_map,List.length_range];have:=h.n1;have:=h.len;walk_at "o",fun k hk=>?_⟩
 rcases List.mem_append.mp hk with h | h
 ·obtain ⟨i,_,rfl⟩:=List.mem_map.mp h;simp
 ·obtain ⟨t,_,rfl⟩:=List.mem_map.mp h;simp
theorem t8 {n:Int}{ts:List Tie}(h:WebOk n ts){k:List Int}(hk:k∈parK n ts):(∀i∈k,0<=i/\i < n)/\1<=k.length/\k.length<=2:=by
 unfold parK at hk
 rcases List.mem_append.mp hk with z | z
 ·obtain ⟨i,hi,rfl⟩:=List.mem_map.mp z
  rw [List.mem_range] at hi
  exact ⟨fun j hj=>by rw [List.mem_singleton.mp hj];omega,by simp⟩
 ·obtain ⟨t,ht,rfl⟩:=List.mem_map.mp z
  have:=h.t t ht
  refine ⟨fun j hj=>?_,by simp⟩
  simp only [List.mem_cons,List.not_mem_nil,or_false] at hj
  rcases hj with rfl | rfl <;> omega
theorem a7W {n:Int}{ts:List Tie}(h:WebOk n ts):(ts.map tkK).Nodup:=by
 have:=h.nd
 rw [List.Nodup,List.pairwise_map] at this ⊢
 refine this.imp fun {a b} hab z=>hab ?_
 unfold tkK at z
 injection z with z1 z2
 injection z2 with z2 _
 injection z1 with z1
 injection z2 with z2
 rw [z1,z2]
theorem a5i (ts:List Tie):lfL (ts.map tieD)=true:=w9 fun x hx=>by
 obtain ⟨t,_,rfl⟩:=List.mem_map.mp hx;rfl
theorem b2C (n:Int)(ts:List Tie):lf (webD n ts)=true:=by
 unfold webD
 simp only [lf,lfL,a5i,Bool.and_self]
theorem a0x (k:List Int):lf (tupI k)=true:=u7 k
theorem z4 (ks:List (List Int)):lfL (ks.map tupI)=true:=w9 fun x hx=>by
 obtain ⟨k,_,rfl⟩:=List.mem_map.mp hx;exact a0x k
theorem a80 (g:Int):ratD (g:Rat)= .tup [.int g,.int 1]:=rfl
theorem S8 (q:Rat):lf (ratD q)=true:=rfl
theorem a1b (p q:Rat):Rat.divInt (p.num * q.den - q.num * p.den) (p.den * q.den)=p - q:=by
 rw [Rat.sub_eq_add_neg,<-J9 p (-q),Rat.neg_num,Rat.neg_den,Int.neg_mul,Int.sub_eq_add_neg]
theorem a4c (p q:Rat):0 < (p.den:Int) * q.den:=Int.mul_pos (by have:=p.den_pos;walk_at "o") (by have:=q.den_pos;walk_at "o")
theorem b1x {p q:Rat}{m n:Nat}(hp:Sz m p)(hq:Sz n q){t:Int}(ht:t.natAbs<=(p.num * q.den).natAbs + (q.num * p.den).natAbs):Sz (m + n + 1) (Rat.divInt t (p.den * q.den)):=by
 have e:(2:Nat) ^ (m + n + 1)=2 ^ m * 2 ^ n + 2 ^ n * 2 ^ m:=by rw [Nat.pow_succ,Nat.pow_add,Nat.mul_comm (2 ^ n)];walk_at "o"
 have a1:(p.num * (q.den:Int)).natAbs < 2 ^ m * 2 ^ n:=by
  rw [Int.natAbs_mul,Int.natAbs_natCast]
  exact Nat.mul_lt_mul'' hp.1 hq.2
 have a2:(q.num * (p.den:Int)).natAbs < 2 ^ n * 2 ^ m:=by
  rw [Int.natAbs_mul,Int.natAbs_natCast]
  exact Nat.mul_lt_mul'' hq.1 hp.2
 have a3:((p.den:Int) * (q.den:Int)).natAbs < 2 ^ m * 2 ^ n:=by
  rw [Int.natAbs_mul,Int.natAbs_natCast,Int.natAbs_natCast]
  exact Nat.mul_lt_mul'' hp.2 hq.2
 exact a4z (a4c p q) (by walk_at "o") (by walk_at "o")
theorem M5 {p q:Rat}{m n:Nat}(hp:Sz m p)(hq:Sz n q):Sz (m + n + 1) (p + q):=by
 rw [<-J9];exact b1x hp hq (by omega)
theorem a45 {p q:Rat}{m n:Nat}(hp:Sz m p)(hq:Sz n q):Sz (m + n + 1) (p - q):=by
 rw [<-a1b];exact b1x hp hq (by omega)
theorem sz_0:Sz 1 0:=⟨by decide,by decide⟩
theorem a87 {g:Int}{m:Nat}(h:g.natAbs < 2 ^ m)(hm:1<=m):Sz m (g:Rat):=⟨h,Nat.lt_of_lt_of_le (by decide:1 < 2 ^ 1) (Nat.pow_le_pow_right (by decide) hm)⟩
theorem a2u {p q:Rat}{m n:Nat}(hp:Sz m p)(hq:Sz n q)(h:m + n<=8000):mOk p.num q.den/\mOk q.num p.den/\mOk p.den q.den/\(0 < (p.den:Int) * q.den)/\((p.den:Int) * q.den).natAbs < big:=by
 have a1:=hp.1;have a2:=hp.2;have b1:=hq.1;have b2:=hq.2
 exact ⟨a2X a1 (by simpa using b2) (by walk_at "o") (by walk_at "o"),a2X b1 (by simpa using a2) (by walk_at "o") (by walk_at "o"),a2X (m:=m) (n:=n) (by simpa using a2) (by simpa using b2) (by walk_at "o") (by walk_at "o"),a4c p q,a97 (m:=m) (n:=n) (by simpa using a2) (by simpa using b2) h⟩
def sumR:List Rat->Rat->Rat
 | [],r=>r
 | q :: qs,r=>sumR qs (r + q)
theorem a56 (t b:Int):Int.gcd (if t < 0 then -t else t) b=Int.gcd t b:=by
 unfold Int.gcd
 congr 1
 split <;> walk_at "o"
theorem a5j {t b:Int}(hb:0 < b)(hs:b.natAbs < big):dOk ((Int.gcd t b:Nat):Int):=by
 have h1:0 < Int.gcd t b:=Int.gcd_pos_iff.mpr (.inr (by walk_at "o"))
 have h2:Int.gcd t b<=b.natAbs:=Int.gcd_le_natAbs_right t (by walk_at "o")
 exact ⟨by walk_at "o",by walk_at "o"⟩
theorem K4 {C:Prop}{b:D->FS}{xs:List D}{ρ:Ev}{r:Option R}(e:loopF b xs ρ=r)(I:Nat->Ev->Prop)(h0:I 0 ρ)(st:∀i x ρ,xs[i]? =some x->I i ρ->∃ρ',b x ρ=some (.nx ρ')/\I (i + 1) ρ')(c:∀ρ',r=some (.nx ρ')->I xs.length ρ'->C):C:=by
 have key:∀(ys:List D) (k:Nat) (ρ:Ev),xs.drop k=ys->I k ρ->k<=xs.length->∃ρ',loopF b ys ρ=some (.nx ρ')/\I xs.length ρ':=by
  intro ys
  induction ys with
  | nil=>
   intro k ρ hk h hl
   have:k=xs.length:=by
    have:=List.drop_eq_nil_iff.mp hk;walk_at "o"
   exact ⟨ρ,rfl,this▸h⟩
  | cons y ys ih=>
   intro k ρ hk h hl
   have hx:xs[k]? =some y:=by
    have:=congrArg (·[0]?) hk
    simpa using this
   have lt:=(List.getElem?_eq_some_iff.mp hx).1
   obtain ⟨ρ1,e1,i1⟩:=st k y ρ hx h
   obtain ⟨ρ2,e2,i2⟩:=ih (k + 1) ρ1 (by rw [<-List.drop_drop,hk];rfl) i1 lt
   exact ⟨ρ2,by rw [loopF,e1];exact e2,i2⟩
 obtain ⟨ρ',e',i⟩:=key xs 0 ρ (by simp) h0 (Nat.zero_le _)
 exact c ρ' (e.symm.trans e') i
theorem a4v {m:Int}{n i:Nat}{x:D}(h:(rngD m n)[i]? =some x):x= .int (m + i)/\i < n:=by
 unfold rngD at h
 rw [List.getElem?_map] at h
 by_cases hi:i < n
 ·rw [List.getElem?_range hi] at h;cases h;exact ⟨rfl,hi⟩
 ·rw [List.getElem?_eq_none (by simpa using hi)] at h;cases h
def Sm (n:Int):Prop:=0 < n/\n.natAbs < 2 ^ 390
theorem Sm.pos {n:Int}(h:Sm n):0 < n:=h.1
def Pot (b:Nat) (d:D):Prop:=∃r c s:Int,d= .lst [.int r,.int c,.int s]/\0<=c/\c<=b/\0<=s/\s < 2147483647
theorem Pot.mono {b b':Nat}{d:D}(h:Pot b d)(hb:b<=b'):Pot b' d:=by
 obtain ⟨r,c,s,e,h1,h2,h3⟩:=h
 exact ⟨r,c,s,e,h1,by walk_at "o",h3⟩
theorem Pot.lf {b:Nat}{d:D}(h:Pot b d):lfC d=true:=by obtain ⟨r,c,s,rfl,_⟩:=h;rfl
abbrev G2 (elt t1 i1 t2 i2:Expr) (scope:Scope) (pos:Pos):Expr:=.ListComp elt [⟨t1,i1,[],0⟩,⟨t2,i2,[],0⟩] scope pos
theorem a8z (elt t1 i1 t2 i2:Expr)(scope:Scope)(pos:Pos)(it acc:Value)(env:Env):
  compTurn (G2 elt t1 i1 t2 i2 scope pos) 0 it acc env=(standAt i1.pos >>=fun _=>pyNext it >>=fun r=>match r with
   | none=>pure (.done .next)
   | some v=>letOwnedTupleGo t1 it v >>=fun _=>assign t1 env v >>=fun _=>
    eval i2 env >>=fun x=>standAt i2.pos >>=fun _=>foldedSetIterable i2 env x >>=fun x=>holding [x] (pyIter x) >>=fun y=>runOwn (.compStart (G2 elt t1 i1 t2 i2 scope pos) 1 y acc env) env >>=fun _=>
     again (.compLoop (G2 elt t1 i1 t2 i2 scope pos) 0 it acc env)):=by rfl
theorem b0e (elt t1 i1 t2 i2:Expr)(scope:Scope)(pos:Pos)(it acc:Value)(env:Env):
  compTurn (G2 elt t1 i1 t2 i2 scope pos) 1 it acc env=(standAt i2.pos >>=fun _=>pyNext it >>=fun r=>match r with
   | none=>pure (.done .next)
   | some v=>letOwnedTupleGo t2 it v >>=fun _=>assign t2 env v >>=fun _=>
    (eval elt env >>=fun x=>call (.builtin "list.append") [acc,x] >>=fun _=>pure ()) >>=fun _=>
     again (.compLoop (G2 elt t1 i1 t2 i2 scope pos) 1 it acc env)):=by rfl
section
variable {prog:Program}{w:World}{A:Around}{R:Result->Shared->Prop}{s:Shared}{elt t1 i1 t2 i2:Expr}{scope:Scope}{pos:Pos}{it acc:Value}{env:Env}
theorem b0l (I:Nat->Shared->Prop)
  (turn:∀n s,I n s->wpAny (model prog w) A (pyNext it) (fun r s1=>match r with
   | none=>R (.ok .next) s1
   | some v=>wpAny (model prog w) A (letOwnedTupleGo t2 it v) (fun _ s2=>wpAny (model prog w) A (assign t2 env v) (fun _ s3=>
     wpAny (model prog w) A (eval elt env) (fun x s5=>wpAny (model prog w) A (call (.builtin "list.append") [acc,x]) (fun _ s6=>∃m,m < n/\I m s6) Fa s5) Fa s3) Fa s2) Fa s1) Fa s)
  (n:Nat) (h:I n s):codeAny (model prog w) A (.compLoop (G2 elt t1 i1 t2 i2 scope pos) 1 it acc env) R s:=by
 refine codeAny_loop rfl I (fun n s hI=>?_) n h
 show wpAny _ A ((compTurn (G2 elt t1 i1 t2 i2 scope pos) 1 it acc env).onRaise (fun x=>do noteFrame x env;theTreesLotGoes x)) _ _ s
 refine wpAny_noted ?_
 rw [b0e]
 refine wpAny_bind (wpAny_standAt (wpAny_bind (wpAny_mono (turn n s hI) (fun r s1 h1=>?_) fun _ _ z=>z.elim)))
 cases r with
 | none=>exact wpAny_pure h1
 | some v=>exact wpAny_bind (wpAny_mono h1 (fun _ s2 h2=>wpAny_bind (wpAny_mono h2 (fun _ s3 h3=>wpAny_bind (wpAny_bind (wpAny_mono h3 (fun x s5 h5=>wpAny_bind (wpAny_mono h5 (fun _ s6 h6=>wpAny_pure (wpAny_pure ⟨rfl,h6⟩)) fun _ _ z=>z.elim)) fun _ _ z=>z.elim))) fun _ _ z=>z.elim)) fun _ _ z=>z.elim)
theorem a7O (hs:∀x,foldedSetIterable i2 env x=pure x)(I:Nat->Shared->Prop)
  (turn:∀n s,I n s->wpAny (model prog w) A (pyNext it) (fun r s1=>match r with
   | none=>R (.ok .next) s1
   | some v=>wpAny (model prog w) A (letOwnedTupleGo t1 it v) (fun _ s2=>wpAny (model prog w) A (assign t1 env v) (fun _ s3=>
     wpAny (model prog w) A (eval i2 env) (fun x s4=>wpAny (model prog w) A (pyIter x) (fun y s5=>codeAny (model prog w) A (.compStart (G2 elt t1 i1 t2 i2 scope pos) 1 y acc env) (fun r s6=>r= .ok .next/\∃m,m < n/\I m s6) s5) Fa s4) Fa s3) Fa s2) Fa s1) Fa s)
  (n:Nat) (h:I n s):codeAny (model prog w) A (.compLoop (G2 elt t1 i1 t2 i2 scope pos) 0 it acc env) R s:=by
 refine codeAny_loop rfl I (fun n s hI=>?_) n h
 show wpAny _ A ((compTurn (G2 elt t1 i1 t2 i2 scope pos) 0 it acc env).onRaise (fun x=>do noteFrame x env;theTreesLotGoes x)) _ _ s
 refine wpAny_noted ?_
 rw [a8z]
 refine wpAny_bind (wpAny_standAt (wpAny_bind (wpAny_mono (turn n s hI) (fun r s1 h1=>?_) fun _ _ z=>z.elim)))
 cases r with
 | none=>exact wpAny_pure h1
 | some v=>
  refine wpAny_bind (wpAny_mono h1 (fun _ s2 h2=>wpAny_bind (wpAny_mono h2 (fun _ s3 h3=>wpAny_bind (wpAny_mono h3 (fun x s4 h4=>wpAny_bind (wpAny_standAt ?_)) fun _ _ z=>z.elim)) fun _ _ z=>z.elim)) fun _ _ z=>z.elim)
  rw [hs]
  refine wpAny_bind (wpAny_pure (wpAny_bind (wpAny_holding (wpAny_mono h4 (fun y s5 h5=>wpAny_bind (wpAny_runOwn ?_)) fun _ _ z=>z.elim))))
  refine codeAny_mono (show codeAny (model prog w) (A.mark none) _ _ _ from h5) fun r s6 h6=>?_
  obtain ⟨rfl,h6⟩:=h6
  exact wpAny_pure ⟨rfl,h6⟩
theorem a83 (h0:codeAny (model prog w) A (.compLoop (G2 elt t1 i1 t2 i2 scope pos) 1 it acc env) R s)
  (h:wpAny (model prog w) A (pyIter it) (fun it' s'=>codeAny (model prog w) A (.compLoop (G2 elt t1 i1 t2 i2 scope pos) 1 it' acc env) R s') (notedBy (model prog w) A env fun x s'=>R (.error x) s') s):
  codeAny (model prog w) A (.compStart (G2 elt t1 i1 t2 i2 scope pos) 1 it acc env) R s:=by
 refine codeAny_of_tree ?_
 show wpAny _ A ((compStart (G2 elt t1 i1 t2 i2 scope pos) 1 it acc env).onRaise (fun x=>do noteFrame x env;standAt theWindowsPlace)) _ _ s
 refine wpAny_notedAt ?_
 unfold compStart
 show wpAny _ A (ask >>=_) _ _ s
 refine wpAny_bind (wpAny_askSetting (wpAny_ite ?_))
 split
 ·first
   | exact wpAny_bind (wpAny_pure (wpAny_pure (And.intro rfl h0)))
   | exact wpAny_pure (And.intro rfl h0)
 ·first
   | exact wpAny_bind (wpAny_rule (wpAny_bind (wpAny_standAt (wpAny_bind (wpAny_mono h (fun it' s' h'=>wpAny_pure (And.intro rfl h')) fun _ _ x=>x)))))
   | (refine wpAny_bind (wpAny_rule ?_);show wpAny _ _ (standAt i2.pos >>=_) _ _ s;exact wpAny_bind (wpAny_standAt (wpAny_bind (wpAny_mono h (fun it' s' h'=>wpAny_pure (And.intro rfl h')) fun _ _ x=>x))))
end
def turnC2 (k:Nat) (gf:FG) (fi2:FI) (gf2:FG) (fe:FX):D->Ev->Option Ev:=fun x ρ=>(gf x ρ).bind fun ρ1=>(fi2 ρ1).bind fun p=>loopC (turnC k gf2 (fun ρ=>some (true,ρ)) fe) p.1 p.2
def fComp2 (fi:FI) (js:List (Option Nat)) (gf:FG) (fi2:FI) (gf2:FG) (fe:FX):FX:=fun ρ=>(fi ρ).bind fun p=>
  (loopC (turnC2 js.length gf fi2 gf2 fe) p.1 (capE none js p.2 ++ [some (.l (.lst []))])).bind fun ρe=>match ownAt ρe js.length with
   | some (.lst ys)=>backC none js ρe p.2 ys
   | _=>none
section
variable {X:Cx}{pins:List (Addr×PySem.Obj)}{σ:L2.St}{H2:Hp}{s2:Shared}{scope:Scope}{cl:List (Str×Addr)}{N:List Str}{js:List (Option Nat)}{fp:List Addr}{it:Addr}{tn:Nat->Heap->Prop}{J:It}
 {elt tg iter t2 i2:Expr} {pos:Pos} {P:List (D×V)} {O:Av} {L:List (Nat×Addr)} {ρ ρe:Ev} {xs:List D} {gf gf2:FG} {fi fi2:FI} {fe:FX} {Qq:Value->Shared->Prop} {use:Option (Value->Sem Unit)}
theorem a6D (hcalm:X.calm=true)(I2:Inv X pins σ H2 s2)(T:Turn X.prog X.w X.K tg J fp it tn)(st2:tn 0 s2.heap)(f2:∀y∈fp,FpOk X pins H2 y)(b:Blk X scope cl N js)(r:Rep X P O L ρ σ H2)(wk:WksB none X.K P O ρ σ H2 xs J)
  (hg:∀C,QG (blk X scope cl s2 H2 fp C (N ++ [accN])) tg gf) (hi2:∀C,QI (blk X scope cl s2 H2 fp C (N ++ [accN])) t2 i2 fi2) (hg2:∀C,QG (blk X scope cl s2 H2 fp C (N ++ [accN])) t2 gf2) (he:∀C,QX (blk X scope cl s2 H2 fp C (N ++ [accN])) elt fe)
  (hs2:∀C x,foldedSetIterable i2 (compEnvC scope cl C X.env) x=pure x)
  (e:loopC (turnC2 js.length gf fi2 gf2 fe) xs (capE none js ρ ++ [some (.l (.lst []))])=some ρe)
  (fin:∀(Dd C:Addr) (σe:L2.St) (He:Hp) (s1:Shared),H2 Dd=none->s2.heap.objs.size<=C->Inv (blk X scope cl s2 H2 fp C (N ++ [accN])) [] σe He s1->Rep (blk X scope cl s2 H2 fp C (N ++ [accN])) P (fun b=>AvO O ρ σ b/\¬Capd ρ σ js b) ((js.length,Dd) :: lentL none σ) ρe σe He->
   compPost (model X.prog X.w) X.A X.xe use Qq (.ref Dd) C (.ok .next) s1):
  wpAny (model X.prog X.w) X.A (newList []) (fun acc s3=>wpAny (model X.prog X.w) X.A (newFunctionEnv scope X.env.globals cl [] X.env.qual none .none (some X.env)) (fun cenv s4=>
   codeAny (model X.prog X.w) X.A (.compStart (G2 elt tg iter t2 i2 scope pos) 0 (.ref it) acc {cenv with scope:=relabel scope X.env}) (compPost (model X.prog X.w) X.A X.xe use Qq acc cenv.locals) s4) X.xe s3) X.xe s2:=by
 have hl:LiOk none js ρ:=⟨nofun,nofun,nofun⟩
 have fl:∀y∈fp,y < s2.heap.objs.size:=fun y hy=>by obtain ⟨o,eo,_⟩:=T.obj _ _ st2 y hy;exact Heap.lt_size eo
 refine wpAny_newObj_type (wpAny_newFunctionEnv b.cell (by intro y hy;simp at hy) (fun h' hns hsb=>?_) b.kind)
 dsimp only at hns hsb ⊢
 generalize hH:s2.heap.push {cls:=.type "list",dict:=none,data:=.seq ([]:List Value).toArray}=H3 at hns hsb ⊢
 have hC:H3.objs.size=s2.heap.objs.size + 1:=by rw [<-hH,Heap.size_push]
 have ne:s2.heap.objs.size≠H3.objs.size:=by rw [hC];exact Nat.ne_of_lt (Nat.lt_succ_self _)
 have leC:s2.heap.objs.size<=H3.objs.size:=by rw [hC];exact Nat.le_succ _
 have kp3:∀y o,s2.heap.get? y=some o->H3.get? y=some o:=fun y o e=>hH▸Heap.get?_push_of_some _ e
 have kp4:∀y o,H3.get? y=some o->h'.get? y=some o:=fun y o e=>hsb.extBut y o (Nat.ne_of_lt (Heap.lt_size e)) (Heap.get?_push_of_some _ e)
 have hDn:H2 s2.heap.objs.size=none:=I2.hok.fresh (Nat.le_refl _)
 have ok3:HOk X.prog X.w (upd H2 s2.heap.objs.size (.lst [])) H3:=I2.hok.laid kp3 (Nat.le_refl _) ⟨Nat.zero_le _,[],0,.nil,by rw [<-hH];exact Heap.get?_push_size _ rfl⟩
 have I4:=a5Q (s4:={s2 with heap:=h',toks:=s2.toks + ([]:List (Str×Value)).length}) (Dd:=s2.heap.objs.size) (C:=H3.objs.size) I2 b f2 fl leC (Nat.le_refl _) ne rfl I2.bare (fun y o e=>kp4 y o (kp3 y o e)) hns (ok3.kept kp4)
 have R4:=a5H (li:=none) (scope:=scope) (cl:=cl) (N:=N) (s2:=s2) (fp:=fp) (C:=H3.objs.size) (Dd:=s2.heap.objs.size) r hl hDn
 have hfree:∀{H':Hp},(∀y∈fp,H' y=none)->∀y∈fp,FpOk (blk X scope cl s2 H2 fp H3.objs.size (N ++ [accN])) [] H' y:=fun hn y hy=>
  ⟨hn y hy,Nat.ne_of_lt (Nat.lt_of_lt_of_le (fl y hy) leC),fun z=>(List.mem_cons.mp (I2.stkSub y z)).elim (f2 y hy).2.1 (f2 y hy).2.2.1,.inl hy,fun x c ec=>(f2 y hy).2.2.2.2.1 x c (b.sub x c ec),fun p hp=>absurd (show p∈([]:List (Addr×PySem.Obj)) from hp) (by simp)⟩
 obtain ⟨gg,pg,kg⟩:=(hg H3.objs.size).to
 obtain ⟨gg2,pg2,kg2⟩:=(hg2 H3.objs.size).to
 have loop:∀s5:Shared,s5={s2 with heap:=h',toks:=s2.toks + ([]:List (Str×Value)).length}->
   codeAny (model X.prog X.w) X.A (.compLoop (G2 elt tg iter t2 i2 scope pos) 0 (.ref it) (.ref s2.heap.objs.size) (compEnvC scope cl H3.objs.size X.env))
    (compPost (model X.prog X.w) X.A X.xe use Qq (.ref s2.heap.objs.size) H3.objs.size) s5:=by
  rintro s5 rfl
  let Y:=blk X scope cl s2 H2 fp H3.objs.size (N ++ [accN])
  let O':Av:=fun b=>AvO O ρ σ b/\¬Capd ρ σ js b
  let L':=(js.length,s2.heap.objs.size) :: lentL none σ
  refine a7O (hs2 _) (fun n s=>∃i σ' H' ρ',n=xs.length - i/\i<=xs.length/\Inv Y [] σ' H' s/\tn i s.heap/\(∀y∈fp,H' y=none)/\Rep Y P O' L' ρ' σ' H'/\loopC (turnC2 js.length gf fi2 gf2 fe) (xs.drop i) ρ'=some ρe) ?_ xs.length
   ⟨0,_,_,_,by simp,Nat.zero_le _,I4,T.keep 0 _ _ st2 fun y hy o eo=>kp4 y o (kp3 y o eo),fun y hy=>by rw [c8 (Nat.ne_of_lt (fl y hy))];exact (f2 y hy).1,R4,by simpa using e⟩
  rintro n s ⟨i,σ',H',ρ',rfl,hi,I,st,fr,rp,el⟩
  obtain ⟨wi,ws⟩:=wk Y O' L' ρ' σ' H' rfl rfl rp (fun b z=>z.1) (fun _ i b m=>(List.mem_cons.mp m).elim (fun m=>by cases m;exact hDn) (fun m=>by cases m))
  by_cases hlt:i < xs.length
  ·obtain ⟨go,yl⟩:=wi i xs[i] (by simp [hlt])
   refine wpAny_mono (T.item Y rfl rfl rfl hcalm i [] s σ' H' Fa I (hfree fr) st go) (fun r s1 ⟨u,hr,h1⟩=>?_) fun _ _ z=>z
   subst hr
   refine wpAny_mono h1 (fun _ s3 ⟨x,H5,I5,r5,y5,st5,fr5⟩=>?_) fun _ _ z=>z
   obtain ⟨sm5,dx⟩:=yl x H5 y5
   replace rp:=rp.grow sm5
   rw [List.drop_eq_getElem_cons hlt,loopC] at el
   cases e1:turnC2 js.length gf fi2 gf2 fe xs[i] ρ' with
   | none=>rw [e1] at el;cases el
   | some ρt=>
    rw [e1] at el
    simp only [Option.bind_some] at el
    unfold turnC2 at e1
    cases e2:gf xs[i] ρ' with
    | none=>rw [e2] at e1;cases e1
    | some ρ1=>
     rw [e2] at e1
     simp only [Option.bind_some] at e1
     have I5':=I5.pinned (hfree fr5) (T.obj _ _ st5)
     have gq:=kg P O' L' xs[i] x ρ' ρ1 σ' H5 (fun σ2 Hh=>Rep Y P O' L' ρ1 σ2 Hh) rp dx e2 (fun σ2 H2' rp2=>rp2)
     refine wpAny_mono (pg _ s3 σ' H5 x u _ I5' r5 gq) (fun _ s6 ⟨σ6,H6,I6,rp6⟩=>?_) fun _ _ z=>z
     have back:∀{s7:Shared} {σ7:L2.St} {H7:Hp},Inv Y ([] ++ pinsAt fp s3.heap) σ7 H7 s7->Rep Y P O' L' ρt σ7 H7->
       ∃m,m < xs.length - i/\∃i σ' H' ρ',m=xs.length - i/\i<=xs.length/\Inv Y [] σ' H' s7/\tn i s7.heap/\(∀y∈fp,H' y=none)/\Rep Y P O' L' ρ' σ' H'/\loopC (turnC2 js.length gf fi2 gf2 fe) (xs.drop i) ρ'=some ρe:=fun {s7 σ7 H7} I7 rp7=>by
      refine ⟨xs.length - (i + 1),by omega,i + 1,σ7,H7,ρt,rfl,hlt,I7.unpinned,T.keep _ _ _ st5 fun y hy o eo=>(I7.pin (y,o) (List.mem_append_right _ (List.mem_append_right _ (t5 hy eo)))).1,fun y hy=>?_,rp7,el⟩
      obtain ⟨o,eo,_⟩:=T.obj _ _ st5 y hy
      exact (I7.pin (y,o) (List.mem_append_right _ (List.mem_append_right _ (t5 hy eo)))).2.1
     obtain ⟨⟨zs,ρ2⟩,e3,e1⟩:=obs e1
     dsimp only at e1
     refine wpAny_mono ((hi2 H3.objs.size).to _ s6 σ6 H6 _ I6 ⟨P,O',L',ρ1,zs,ρ2,rp6,e3,fun J2 H7 P' r7 hh wk2=>(⟨P',r7,hh,wk2⟩:∃P',Rep Y P' O' L' ρ2 σ6 H7/\Holds P' P/\Wks Y.K P' zs J2)⟩) (fun v s7 h7=>wpAny_mono h7 (fun itv s8 h8=>?_) fun _ _ z=>z) fun _ _ z=>z
     obtain ⟨it2,fp2,tn2,J2,H8,rfl,I8,T2,st8,f8,P',rp8,hh,wk2⟩:=h8
     have free2:∀{H':Hp},(∀y∈fp2,H' y=none)->∀y∈fp2,FpOk Y ([] ++ pinsAt fp s3.heap) H' y:=fun hn y hy=>⟨hn y hy,(f8 y hy).2⟩
     have inner:codeAny (model X.prog X.w) X.A (.compLoop (G2 elt tg iter t2 i2 scope pos) 1 (.ref it2) (.ref s2.heap.objs.size) (compEnvC scope cl H3.objs.size X.env)) (fun r s'=>r= .ok .next/\∃m,m < xs.length - i/\∃i σ' H' ρ',m=xs.length - i/\i<=xs.length/\Inv Y [] σ' H' s'/\tn i s'.heap/\(∀y∈fp,H' y=none)/\Rep Y P O' L' ρ' σ' H'/\loopC (turnC2 js.length gf fi2 gf2 fe) (xs.drop i) ρ'=some ρe) s8:=by
      refine b0l (fun n s=>∃j σ' H' ρ',n=zs.length - j/\j<=zs.length/\Inv Y ([] ++ pinsAt fp s3.heap) σ' H' s/\tn2 j s.heap/\(∀y∈fp2,H' y=none)/\Rep Y P' O' L' ρ' σ' H'/\loopC (turnC js.length gf2 (fun ρ=>some (true,ρ)) fe) (zs.drop j) ρ'=some ρt) ?_ zs.length
       ⟨0,σ6,H8,ρ2,by simp,Nat.zero_le _,I8,st8,fun y hy=>(f8 y hy).1,rp8,by simpa using e1⟩
      rintro n s ⟨j,σj,Hj,ρj,rfl,hj,Ij,stj,frj,rpj,elj⟩
      obtain ⟨wj,wsj⟩:=wk2 Y O' L' ρj σj Hj rfl rpj
      by_cases hjl:j < zs.length
      ·obtain ⟨go2,yl2⟩:=wj j zs[j] (by simp [hjl])
       refine wpAny_mono (T2.item Y rfl rfl rfl hcalm j _ s σj Hj Fa Ij (free2 frj) stj go2) (fun r sa ⟨ua,hra,ha⟩=>?_) fun _ _ z=>z
       subst hra
       refine wpAny_mono ha (fun _ sb ⟨xb,Hb,Ib,rb,yb,stb,frb⟩=>?_) fun _ _ z=>z
       obtain ⟨smb,dxb⟩:=yl2 xb Hb yb
       replace rpj:=rpj.grow smb
       rw [List.drop_eq_getElem_cons hjl,loopC] at elj
       cases et:turnC js.length gf2 (fun ρ=>some (true,ρ)) fe zs[j] ρj with
       | none=>rw [et] at elj;cases elj
       | some ρk=>
        rw [et] at elj
        simp only [Option.bind_some] at elj
        unfold turnC at et
        cases eg:gf2 zs[j] ρj with
        | none=>rw [eg] at et;cases et
        | some ρ3=>
         rw [eg] at et
         simp only [Option.bind_some,if_true] at et
         have Ib':=Ib.pinned (free2 frb) (T2.obj _ _ stb)
         have gk:=kg2 P' O' L' zs[j] xb ρj ρ3 σj Hb (fun σ2 Hh=>Rep Y P' O' L' ρ3 σ2 Hh) rpj dxb eg (fun σ2 H2' rp2=>rp2)
         refine wpAny_mono (pg2 _ sb σj Hb xb ua _ Ib' rb gk) (fun _ sc ⟨σc,Hc,Ic,rpc⟩=>?_) fun _ _ z=>z
         cases e4:fe ρ3 with
         | none=>rw [e4] at et;cases et
         | some p=>
          obtain ⟨w,ρ4⟩:=p
          rw [e4] at et
          simp only [Option.bind_some,appTo] at et
          cases e5:takeAll ρ4 [w.fz] with
          | none=>rw [e5] at et;cases et
          | some p=>
           obtain ⟨ds,ρ5⟩:=p
           rw [e5] at et
           simp only [Option.bind_some] at et
           split at et
           ·rename_i d zz e6
            split at et
            ·rename_i hl
             cases et
             refine wpAny_mono ((he H3.objs.size).to _ sc σc Hc (fun v H8=>Rep Y P' O' L' ρ5 σc H8/\Den X.K (AvO O' ρ5 σc) H8 d v) Ic ⟨P',O',L',ρ3,w,ρ4,rpc,e4,fun v H8 H8' r8 s8 d8=>?_⟩) (fun u8 s8 ⟨v8,H8,I8,r8,rp8,d8⟩=>?_) fun _ _ z=>z
             ·obtain ⟨r9,l9,_⟩:=k8 (vs:=[v]) (r8.grow s8) e5 ⟨v,[],rfl,d8.fz r8 s8,rfl⟩
              obtain ⟨v',ev,h'⟩:=denL1 l9
              cases ev
              exact ⟨r9,h'⟩
             ·obtain ⟨d0,q1,q2⟩:=rp8.lnd js.length s2.heap.objs.size List.mem_cons_self
              have e6':=e6
              unfold ownAt at e6'
              rw [q1] at e6'
              cases e6'
              obtain ⟨a,h1,vs,h4,lz⟩:=rp8.obj q1 rfl
              rw [q2] at h1
              cases h1
              have h9:=X5 (X:=Y) _ s8 σc H8 (.ref s2.heap.objs.size) [v8] (.ref s2.heap.objs.size) [u8] (fun v H9=>H9=upd H8 s2.heap.objs.size (.lst (vs ++ [v8]))) I8 rfl (.cons r8 .nil) ⟨_,vs,v8,rfl,rfl,h4,by rw [<-c5 lz];exact Nat.lt_of_lt_of_le hl q9,rfl⟩
              refine wpAny_mono h9 (fun _ s9 ⟨v9,H9,I9,_,e9⟩=>?_) fun _ _ z=>z
              subst e9
              have g0:Go (AvO O' ρ5 σc) (AvO O' ρ5 σc) (fun b=>b=s2.heap.objs.size) H8 (upd H8 s2.heap.objs.size (.lst (vs ++ [v8]))):=⟨fun b o eb nb=>by rw [c8 nb];exact eb,fun b z=>by rw [z];exact ⟨.inr ⟨js.length,_,_,q1,rfl,q2⟩,_,h4,trivial⟩,fun b z=>.inl z⟩
              refine ⟨zs.length - (j + 1),by omega,j + 1,σc,_,_,rfl,hjl,I9.unpinned,T2.keep _ _ _ stb fun y hy o eo=>(I9.pin (y,o) (List.mem_append_right _ (List.mem_append_right _ (t5 hy eo)))).1,fun y hy=>?_,rp8.mut (d:=.lst (zz ++ [d])) e6 q2 (fun b o eb nb=>by rw [c8 nb];exact eb) ⟨_,j9,q8 g0 _ _ (t3 lz (g8 d8 j4))⟩,elj⟩
              obtain ⟨o,eo,_⟩:=T2.obj _ _ stb y hy
              exact (I9.pin (y,o) (List.mem_append_right _ (List.mem_append_right _ (t5 hy eo)))).2.1
            ·cases et
           ·cases et
      ·have hje:j=zs.length:=by omega
       subst hje
       refine wpAny_mono (T2.done Y rfl rfl rfl hcalm _ _ s σj Hj Fa Ij (free2 frj) stj wsj) (fun r sa ⟨hra,Ia⟩=>?_) fun _ _ z=>z
       subst hra
       rw [List.drop_eq_nil_of_le (Nat.le_refl _),loopC] at elj
       cases elj
       exact ⟨rfl,back Ia (rpj.holds hh)⟩
     exact a83 inner (T2.self _ 0 _ _ _ st8 inner)
  ·have hie:i=xs.length:=by omega
   subst hie
   refine wpAny_mono (T.done Y rfl rfl rfl hcalm _ [] s σ' H' Fa I (hfree fr) st ws) (fun r s1 ⟨hr,I1⟩=>?_) fun _ _ z=>z
   subst hr
   rw [List.drop_eq_nil_of_le (Nat.le_refl _),loopC] at el
   cases el
   exact fin _ _ σ' H' s1 hDn leC I1 rp
 exact codeAny_compStart_list (loop _ rfl) (T.self _ 0 _ _ _ (T.keep 0 _ _ st2 fun y hy o eo=>kp4 y o (kp3 y o eo)) (loop _ rfl))
theorem a6Z {Q:VK}{H:Hp}{s:Shared}{newPos:Pos}(hc:X.calm=true)(b:Blk X scope cl N js)(hi:QIB X none tg iter fi)
  (hg:∀s2 H2 fp C,QG (blk X scope cl s2 H2 fp C (N ++ [accN])) tg gf) (hi2:∀s2 H2 fp C,QI (blk X scope cl s2 H2 fp C (N ++ [accN])) t2 i2 fi2) (hg2:∀s2 H2 fp C,QG (blk X scope cl s2 H2 fp C (N ++ [accN])) t2 gf2) (he:∀s2 H2 fp C,QX (blk X scope cl s2 H2 fp C (N ++ [accN])) elt fe) (hs:∀x,foldedSetIterable iter X.env x=pure x) (hs2:∀C x,foldedSetIterable i2 (compEnvC scope cl C X.env) x=pure x)
  (I:Inv X pins σ H s) (h:tX X (fComp2 fi js gf fi2 gf2 fe) σ H Q)
  (fin:∀(C:Addr) (v:V) (He:Hp) (s1:Shared),Q v He->(∀h9:Heap,(∀y,y≠C->h9.get? y=s1.heap.get? y)->Inv X pins σ He {s1 with heap:=h9})->FpOk X pins He C->(∃m,s1.heap.Ns C m)->∀vv,RelV v vv->compPost (model X.prog X.w) X.A X.xe use Qq vv C (.ok .next) s1):
  wpAny (model X.prog X.w) X.A (comprehension (G2 elt tg iter t2 i2 scope pos) scope X.env newPos (newList []) false (eval iter X.env) use) Qq X.xe s:=by
 obtain ⟨P,O,L,ρ,w,ρ',r,e,q⟩:=h
 unfold fComp2 at e
 obtain ⟨⟨xs,ρ1⟩,e1,e⟩:=obs e
 dsimp only at e
 cases e2:loopC (turnC2 js.length gf fi2 gf2 fe) xs (capE none js ρ1 ++ [some (.l (.lst []))]) with
 | none=>rw [e2] at e;cases e
 | some ρe=>
  rw [e2] at e
  simp only [Option.bind_some] at e
  split at e
  ·rename_i ys ey
   have hl:LiOk none js ρ1:=⟨nofun,nofun,nofun⟩
   refine wpAny_comprehension_free rfl hs b.clos b.kind b.nms ?_
   refine wpAny_mono (hi.to pins s σ H _ I ⟨P,O,L,ρ,xs,ρ1,r,e1,fun J H1 P' r1 hh wk=>(⟨P',r1,hh,wk⟩:∃P',Rep X P' O L ρ1 σ H1/\Holds P' P/\WksB none X.K P' O ρ1 σ H1 xs J)⟩) (fun v s1 h1=>wpAny_mono h1 (fun itv s2 h2=>?_) fun _ _ z=>z) fun _ _ z=>z
   obtain ⟨it,fp,tn,J,H2,rfl,I2,T,st2,f2,P',r1,hh,wk⟩:=h2
   refine a6D hc I2 T st2 f2 b r1 wk (hg s2 H2 fp) (hi2 s2 H2 fp) (hg2 s2 H2 fp) (he s2 H2 fp) hs2 e2 fun Dd C σe He s3 hn leC I1 rp=>?_
   obtain ⟨Hx,rx,sx,dx⟩:=a54 r1 hl hn rp ey e
   obtain ⟨m,hm,_⟩:=id I1.loc
   refine fin C (.ref Dd) He s3 (q _ Hx He (rx.holds hh) sx dx) (fun h9 k9=>a0K I2 f2 leC I1 k9) ?_ ⟨m,hm⟩ (.ref Dd) rfl
   exact I2.fpOk leC I1.free
  ·cases e
theorem a7K (hc:X.calm=true)(b:Blk X scope cl N js)(hi:QIB X none tg iter fi)(hg:∀s2 H2 fp C,QG (blk X scope cl s2 H2 fp C (N ++ [accN])) tg gf)(hi2:∀s2 H2 fp C,QI (blk X scope cl s2 H2 fp C (N ++ [accN])) t2 i2 fi2)(hg2:∀s2 H2 fp C,QG (blk X scope cl s2 H2 fp C (N ++ [accN])) t2 gf2)(he:∀s2 H2 fp C,QX (blk X scope cl s2 H2 fp C (N ++ [accN])) elt fe)
  (hs:∀x,foldedSetIterable iter X.env x=pure x:=by intro _;rfl) (hs2:∀C x,foldedSetIterable i2 (compEnvC scope cl C X.env) x=pure x:=by intro _ _;rfl):QX X (G2 elt tg iter t2 i2 scope pos) (fComp2 fi js gf fi2 gf2 fe):=⟨fun pins s σ H Q I h=>by
 rw [eval_ListComp]
 refine a6Z (use:=none) hc b hi hg hi2 hg2 he hs hs2 I h fun C v He s1 hq back fp ⟨m,hm⟩ vv rv=>?_
 exact ⟨m,hm,fun h9 k9=>⟨v,He,back h9 fun y ny=>k9.2 y ny,rv,hq⟩⟩⟩
end
section
variable {ρ:Ev}{i:Nat}{d:D}{xs:List D}
def fn2 (ρ:Ev):Option (Option W)->Option (List D×Ev)
 | some (some (.v d))=>(items d).map fun xs=>(xs,ρ)
 | some (some (.r _))=>none
 | some (some w)=>match w.own with
  | some (.lst xs)=>some (xs,ρ)
  | _=>none
 | _=>none
def fn3 (ρ:Ev):Option (List D)->Option (List D×Ev)
 | some xs=>some (xs,ρ)
 | none=>none
theorem r_fn:fiName i ρ=fn2 ρ ρ[i]?:=by
 unfold fiName fn2
 cases ρ[i]? with
 | none=>rfl
 | some o=>cases o with
  | none=>rfl
  | some w=>cases w <;> rfl
theorem a8G:fn2 ρ (some (some (.v d)))=fn3 ρ (items d):=by
 show (items d).map _=_
 unfold fn3;cases items d <;> rfl
theorem a9g:fn2 ρ (some (some (.o (.lst xs))))=some (xs,ρ):=rfl
theorem r_fn_l:fn2 ρ (some (some (.l (.lst xs))))=some (xs,ρ):=rfl
theorem b1r:fn3 ρ (some xs)=some (xs,ρ):=rfl
end
mutual
def toP:D->PyData
 | .non=>.none
 | .bl b=>.bool b
 | .int i=>.int i
 | .str x=>.str x
 | .tup xs=>.tuple (toPs xs)
 | .lst xs=>.list (toPs xs)
 | _=>.none
def toPs:List D->List PyData
 | []=>[]
 | x :: xs=>toP x :: toPs xs
end
section
variable {X:Cx}{pins:List (Addr×PySem.Obj)}{σ:L2.St}{H:Hp}{s:Shared}{A:Av}
open Classical in
end
section
variable {X:Cx}{a:Expr}{f:FX}{pos:Pos}
theorem b0c {ta:TE}(ha:PE X a ta):PE X (.UnaryOp .Not a pos) (fun σ H Q=>ta σ H fun x H'=>∃k,TruV X.K x H' k/\Q (.bl (!k)) H'):=by
 intro pins s σ H Q I h
 refine UnaryOp_ (thn (ha pins s σ H _ I h) fun v s1 ⟨x,H1,I1,r1,q1⟩=>?_)
 obtain ⟨k,q1,q2⟩:=q1
 exact not_of (wpAny_mono (a8n pins s1 σ H1 x v (fun k' H'=>Q (.bl (!k')) H') I1 r1 ⟨k,q1,q2⟩) (fun b s2 ⟨H2,I2,q3⟩=>⟨.bl (!b),H2,I2,rfl,q3⟩) (fun _ _ z=>z))
def fNotT (f:FX):FX:=fun ρ=>(fTru f ρ).map fun p=>(.v (.bl (!p.1)),p.2)
theorem a3d (ha:QX X a f):QX X (.UnaryOp .Not a pos) (fNotT f):=⟨PE.weak (b0c ha.to) fun σ H Q h0=>tXe h0 fun P O L ρ w0 ρ' r e q=>by
 unfold fNotT fTru at e
 cases e1:f ρ with
 | none=>rw [e1] at e;cases e
 | some p=>
  obtain ⟨w,ρ1⟩:=p
  rw [e1] at e
  simp only [Option.bind_some] at e
  cases e2:dr ρ1 w.fz with
  | none=>rw [e2] at e;cases e
  | some d=>
   rw [e2] at e
   simp only [Option.bind_some] at e
   cases e3:truth d with
   | none=>rw [e3] at e;cases e
   | some k'=>
    rw [e3] at e;cases e
    exact ⟨P,O,L,ρ,w,_,r,e1,fun v H1 H' r1 s1 d1=>⟨k',a5c e3 (F1 (r1.grow s1) e2 (d1.fz r1 s1)),q _ H' H' (r1.grow s1) (Same.refl _) A2⟩⟩⟩
end
section
variable {f:FX}{ρ:Ev}{k:Bool}
def nt2:Option (Bool×Ev)->Option (W×Ev)
 | some p=>some (.v (.bl (!p.1)),p.2)
 | none=>none
theorem r_nt:fNotT f ρ=nt2 (tru2 (f ρ)):=by unfold fNotT;rw [a7E];unfold nt2;cases tru2 (f ρ) <;> rfl
theorem b1M:nt2 (some (k,ρ))=some (.v (.bl (!k)),ρ):=rfl
end
def key2 (t:Tie):List Int:=[t.1,t.2.1]
theorem a9j {t u:Tie}(h:key2 t=key2 u):t.1=u.1/\t.2.1=u.2.1:=by
 unfold key2 at h
 injection h with h1 h2
 injection h2 with h2 _
 exact ⟨h1,h2⟩
theorem b0n {ts:List Tie}:(ts.map fun t=>(t.1,t.2.1)).Nodup↔(ts.map key2).Nodup:=by
 rw [List.Nodup,List.pairwise_map,List.Nodup,List.pairwise_map]
 constructor
 ·exact fun h=>h.imp fun {a b} hab z=>hab (by obtain ⟨z1,z2⟩:=a9j z;rw [z1,z2])
 ·exact fun h=>h.imp fun {a b} hab z=>hab (by injection z with z1 z2;unfold key2;rw [z1,z2])
theorem a0S:∀{ts:List Tie},(ts.map key2).Nodup->∀{t:Tie},t∈ts->gainOf ts (key2 t)=t.2.2
 | [],_,t,h=>by cases h
 | u :: ts,nd,t,h=>by
  rw [List.map_cons,List.nodup_cons] at nd
  rw [gainOf]
  rcases List.mem_cons.mp h with rfl | h
  ·exact if_pos rfl
  ·rw [if_neg fun z=>nd.1 (by rw [show key2 u=key2 t from z];exact List.mem_map.mpr ⟨t,h,rfl⟩)]
   exact a0S nd.2 h
def tieOf (ts:List Tie) (k:List Int):Tie:=(k.getD 0 0,k.getD 1 0,gainOf ts k)
def resort (ts:List Tie):List Tie:=(sortK (ts.map key2)).map (tieOf ts)
theorem a3r {ts:List Tie}(nd:(ts.map key2).Nodup):(resort ts).Perm ts:=by
 unfold resort
 refine ((i0 (ts.map key2)).map (tieOf ts)).trans ?_
 rw [List.map_map]
 have:ts.map (tieOf ts ∘ key2)=ts:=by
  conv=>rhs;rw [<-List.map_id ts]
  apply List.map_congr_left
  intro t ht
  show (t.1,t.2.1,gainOf ts (key2 t))=t
  rw [a0S nd ht]
 rw [this]
theorem a3p {n:Int}{ts:List Tie}{k:List Int}:k∈parK n ts↔(∃i:Nat,i < n.toNat/\k=[(i:Int)])\/k∈ts.map key2:=by
 unfold parK
 rw [List.mem_append]
 refine or_congr ?_ Iff.rfl
 rw [List.mem_map]
 constructor
 ·rintro ⟨i,hi,rfl⟩;exact ⟨i,List.mem_range.mp hi,rfl⟩
 ·rintro ⟨i,hi,rfl⟩;exact ⟨i,List.mem_range.mpr hi,rfl⟩
theorem WebOk.perm {n:Int}{ts us:List Tie}(h:WebOk n us)(p:ts.Perm us):WebOk n ts where
 n1:=h.n1
 t:=fun t ht=>h.t t (p.mem_iff.mp ht)
 nd:=(p.map _).nodup_iff.mpr h.nd
 len:=by rw [p.length_eq];exact h.len
theorem WebOk.nk {n:Int}{ts:List Tie}(h:WebOk n ts):(ts.map key2).Nodup:=b0n.mp h.nd
structure Bq (m:Nat) (q:Rat):Prop where
 nn:0<=q
 le:q<=((10 ^ 12:Int):Rat)
 dn:q.den < 2 ^ m
theorem Bq.sz {m:Nat}{q:Rat}(h:Bq m q):Sz (m + 41) q:=by
 refine ⟨?_,Nat.lt_of_lt_of_le h.dn (Nat.pow_le_pow_right (by decide) (by walk_at "o"))⟩
 have h1:=Rat.num_nonneg.mpr h.nn
 have h2:=(Rat.le_iff _ _).mp h.le
 rw [Rat.num_intCast,Rat.den_intCast] at h2
 have h3:q.num<=10 ^ 12 * (q.den:Int):=by
  have:q.num * ((1:Nat):Int)=q.num:=by walk_at "o"
  rw [this] at h2;exact h2
 have h4:(q.num.natAbs:Int)<=10 ^ 12 * (q.den:Int):=by walk_at "o"
 have h5:q.num.natAbs<=10 ^ 12 * q.den:=by exact_mod_cast h4
 have h6:10 ^ 12 * q.den < 2 ^ 41 * 2 ^ m:=Nat.mul_lt_mul'' (by decide) h.dn
 rw [<-Nat.pow_add,Nat.add_comm] at h6
 walk_at "o"
theorem a0X {C:Prop}{c:FT}{b:FS}{ρ:Ev}{r:Option R}(e:whileV c b ρ=r)(I J:Ev->Prop)(μ:Ev->Nat)(h0:I ρ)(st:∀ρ,I ρ->(∃ρ1,c ρ=some (false,ρ1)/\J ρ1)\/∃ρ1 ρ2,c ρ=some (true,ρ1)/\b ρ1=some (.nx ρ2)/\I ρ2/\μ ρ2 < μ ρ)(fin:∀ρ',r=some (.nx ρ')->J ρ'->C):C:=by
 have key:∀(k:Nat) (ρ:Ev),μ ρ<=k->I ρ->∃m ρ',whileF c b m ρ=some (.nx ρ')/\J ρ':=by
  intro k
  induction k with
  | zero=>
   intro ρ hk hi
   rcases st ρ hi with ⟨ρ1,e1,j⟩ | ⟨ρ1,ρ2,e1,e2,i2,lt⟩
   ·exact ⟨1,ρ1,by rw [whileF,e1];rfl,j⟩
   ·walk_at "o"
  | succ k ih=>
   intro ρ hk hi
   rcases st ρ hi with ⟨ρ1,e1,j⟩ | ⟨ρ1,ρ2,e1,e2,i2,lt⟩
   ·exact ⟨1,ρ1,by rw [whileF,e1];rfl,j⟩
   ·obtain ⟨m,ρ',e3,j⟩:=ih ρ2 (by walk_at "o") i2
    exact ⟨m + 1,ρ',by rw [whileF,e1];simp only [Option.bind_some,if_true,e2];exact e3,j⟩
 obtain ⟨m,ρ',e',j⟩:=key _ ρ (Nat.le_refl _) h0
 exact fin ρ' (e.symm.trans (a1T e')) j
theorem W8 {α β:Type}(f:α->β):∀(l:List α) (j:Nat),(l.map f).eraseIdx j=(l.eraseIdx j).map f
 | [],j=>by simp
 | x :: l,0=>rfl
 | x :: l,j + 1=>by rw [List.map_cons,List.eraseIdx_cons_succ,List.eraseIdx_cons_succ,List.map_cons,W8 f l j]
theorem a86 {l:List Int}{i:Int}(h0:0<=i)(h:i < l.length)(hl:l.length<=1000):mPopAt (l.map D.int) [.int i]=some (.v (.int (l.getD i.toNat 0)),(l.eraseIdx i.toNat).map D.int):=by
 show (if 0<=i/\i < 2 ^ 62 then ((l.map D.int)[i.toNat]?).map fun d=>(W.v d,(l.map D.int).eraseIdx i.toNat) else none)=_
 rw [if_pos ⟨h0,by walk_at "o"⟩,List.getElem?_map,List.getD_eq_getElem?_getD,List.getElem?_eq_getElem (by walk_at "o"),W8]
 rfl
theorem a0y {α:Type}{l:List α}{i j:Nat}{x d:α}(h:i≠j):(l.set i x).getD j d=l.getD j d:=by
 rw [List.getD_eq_getElem?_getD,List.getD_eq_getElem?_getD,List.getElem?_set_ne h]
def up (m:Nat):List Int:=(List.range m).map fun (i:Nat)=>0 + (i:Int)
theorem b2e (m:Nat):rngD 0 m=(up m).map D.int:=by unfold rngD up;rw [List.map_map];rfl
theorem a8o {m:Nat}{x:Int}:x∈up m↔0<=x/\x < m:=by
 unfold up
 rw [List.mem_map]
 constructor
 ·rintro ⟨i,hi,rfl⟩;rw [List.mem_range] at hi;walk_at "o"
 ·intro h;exact ⟨x.toNat,List.mem_range.mpr (by walk_at "o"),by walk_at "o"⟩
theorem a62 (m:Nat):(up m).Pairwise (· < ·):=by
 unfold up
 rw [List.pairwise_map]
 exact List.pairwise_lt_range.imp fun h=>by walk_at "o"
theorem a3I (m:Nat):(up m).Nodup:=(a62 m).imp fun h=>by walk_at "o"
section
variable {X:Cx}
theorem a6v (hc:X.calm=true):CallR X (.builtin "sum") (fun xs H Q=>∃(p:Addr) (ns:List Int),xs=[.ref p]/\SqT X.K H p (ns.map V.int)/\Q (.int ns.sum) H):=by
 intro pins s σ H xs us Q I r h
 obtain ⟨p,ns,rfl,hq,q⟩:=h
 obtain ⟨u,rfl,ru⟩:=vals1 r
 cases ru
 obtain ⟨its,rv,ht,hz⟩:=I.tuple hq
 have ht:s.heap.IsTuple p its.toArray:=ht
 obtain ⟨o,h1,_⟩:=id ht
 have lt:p < s.heap.objs.size:=Heap.lt_size h1
 refine call_sum_walkG (wpAny_pyIter_tuple ht ⟨s.heap.objs.size,_,_,_,_,_,fun i=>ns.getD i 0,rfl,Walks.tuple (show X.A.in1.handled=none from I.ok.hd hc) _ _ (Nat.ne_of_lt lt) _,⟨⟨_,Heap.get?_push_size _ rfl,rfl,rfl⟩,ht.at fun o e=>Heap.get?_push_of_some _ e⟩,fun c hb=>?_,fun i v hv=>a2O rv hv,fun h' tk t' hk=>?_⟩)
 ·show c < (s.heap.push _).objs.size
  rw [Heap.size_push]
  rcases List.mem_cons.mp hb with rfl | hb
  ·exact Nat.lt_succ_self _
  ·rw [List.mem_singleton.mp hb];exact Nat.lt_succ_of_lt lt
 ·have I1:Inv X pins σ H {s with heap:=h',toks:=tk}:=I.kept (t':=tk) fun b ob e=>hk b ob (fun z=>absurd (Heap.lt_size e) (by rw [List.mem_singleton.mp z];exact Nat.lt_irrefl _)) (Heap.get?_push_of_some _ e)
  refine ⟨.int ns.sum,H,I1,⟨t',?_⟩,q⟩
  have len:its.toArray.size=ns.length:=by rw [List.size_toArray,<-rv.length,List.length_map]
  rw [len,a0m]
def gSumG:D->Option W
 | .lst xs=>(intsOf xs).map fun ns=>.v (.int ns.sum)
 | .tup xs=>(intsOf xs).map fun ns=>.v (.int ns.sum)
 | _=>none
theorem a9P:PrA X (k1 gSumG) (fun xs H Q=>(∃(p:Addr) (ns:List Int),xs=[.ref p]/\SqL X.K H p (ns.map V.int)/\Q (.int ns.sum) H)\/∃(p:Addr) (ns:List Int),xs=[.ref p]/\SqT X.K H p (ns.map V.int)/\Q (.int ns.sum) H):=pr1 fun A d w v H Q e h q=>by
 cases d with
 | lst xs=>
  simp only [gSumG] at e
  cases e1:intsOf xs with
  | none=>rw [e1] at e;cases e
  | some ns=>
   rw [e1] at e;cases e
   obtain ⟨a,vs,rfl,hq,l⟩:=h
   rw [p9 e1] at l
   rw [m8 l] at hq
   exact .inl ⟨a,ns,rfl,hq,q _ H (Same.refl H) w5⟩
 | tup xs=>
  simp only [gSumG] at e
  cases e1:intsOf xs with
  | none=>rw [e1] at e;cases e
  | some ns=>
   rw [e1] at e;cases e
   have h:Den X.K A H (.tup xs) v:=h
   rw [Den] at h
   obtain ⟨a,vs,rfl,hq,l⟩:=h
   rw [p9 e1] at l
   rw [m8 l] at hq
   exact .inr ⟨a,ns,rfl,hq,q _ H (Same.refl H) w5⟩
 | _=>cases e
theorem b1R {xs:List D}{ns:List Int}(h:intsOf xs=some ns):gSumG (.lst xs)=some (.v (.int ns.sum)):=by unfold gSumG;simp only [h,Option.map_some]
end
theorem a16 {b:D->FS}(I:Ev->Prop)(hit:D->Option W):∀(xs:List D),(∀x∈xs,∀ρ,I ρ->(hit x=none->∃ρ',b x ρ=some (.nx ρ')/\I ρ')/\(∀w,hit x=some w->∃ρ',b x ρ=some (.rt w ρ')))->∀ρ,I ρ->(xs.findSome? hit=none->∃ρ',loopF b xs ρ=some (.nx ρ')/\I ρ')/\(∀w,xs.findSome? hit=some w->∃ρ',loopF b xs ρ=some (.rt w ρ'))
 | [],_,ρ,i=>⟨fun _=>⟨ρ,rfl,i⟩,fun w e=>by cases e⟩
 | x :: xs,st,ρ,i=>by
  obtain ⟨s1,s2⟩:=st x List.mem_cons_self ρ i
  cases hx:hit x with
  | none=>
   obtain ⟨ρ1,e1,i1⟩:=s1 hx
   obtain ⟨t1,t2⟩:=a16 I hit xs (fun y hy=>st y (List.mem_cons_of_mem _ hy)) ρ1 i1
   rw [List.findSome?_cons,hx,loopF,e1]
   exact ⟨t1,t2⟩
  | some w0=>
   obtain ⟨ρ1,e1⟩:=s2 w0 hx
   rw [List.findSome?_cons,hx,loopF,e1]
   exact ⟨fun e=>(by cases e),fun w e=>(by cases e;exact ⟨ρ1,rfl⟩)⟩
theorem a0B {C:Prop}{b:D->FS}{xs:List D}{ρ:Ev}{r:Option R}(e:loopF b xs ρ=r)(I:Ev->Prop)(hit:D->Option W)(h0:I ρ)(st:∀x∈xs,∀ρ,I ρ->(hit x=none->∃ρ',b x ρ=some (.nx ρ')/\I ρ')/\(∀w,hit x=some w->∃ρ',b x ρ=some (.rt w ρ')))
  (c1:xs.findSome? hit=none->∀ρ',r=some (.nx ρ')->I ρ'->C) (c2:∀w,xs.findSome? hit=some w->∀ρ',r=some (.rt w ρ')->C):C:=by
 obtain ⟨r1,r2⟩:=a16 I hit xs st ρ h0
 cases h:xs.findSome? hit with
 | none=>obtain ⟨ρ',e',i⟩:=r1 h;exact c1 h ρ' (e.symm.trans e') i
 | some w=>obtain ⟨ρ',e'⟩:=r2 w h;exact c2 w h ρ' (e.symm.trans e')
section
variable {X:Cx}{P:List (D×V)}{O:Av}{L:List (Nat×Addr)}{ρ:Ev}{σ σ':L2.St}{H:Hp}{pins:List (Addr×PySem.Obj)}{s:Shared}{k:Nat}
theorem Rep.off (r:Rep X P O L ρ σ H){d:D}{a:Addr}(e:ρ[k]? =some (some (.o d)))(ea:σ[k]? =some (some (.ref a))):Rep X P O L (ρ.set k none) σ (fun b=>if b=a then none else H b):=by
 have ow:Ow ρ σ a:=⟨k,_,d,e,rfl,ea⟩
 have st:∀{j:Nat} {w:W},(ρ.set k none)[j]? =some (some w)->j≠k/\ρ[j]? =some (some w):=fun {j w} e1=>by
  rcases l7 e1 with ⟨_,z,_⟩ | z
  ·cases z
  ·exact z
 have sub:∀b,AvO O (ρ.set k none) σ b->AvO O ρ σ b:=fun b z=>by
  rcases z with z | ⟨j,w,c,e1,e2,e3⟩
  ·exact .inl z
  ·exact .inr ⟨j,w,c,(st e1).2,e2,e3⟩
 have g:Go (AvO O ρ σ) (AvO O (ρ.set k none) σ) (fun b=>b=a) H (fun b=>if b=a then none else H b):=⟨fun b o eb nb=>by rw [if_neg nb];exact eb,fun b z=>by rw [z];exact ⟨.inr ow,r.owMu ow⟩,fun b z=>.inl (sub b z)⟩
 refine ⟨fun b o eb hl=>?_,r.amb,by rw [List.length_set];exact r.len,fun j w ej=>?_,fun j i w w' c c' b e1 e2 e3 e4 e5 e6=>r.inj j i w w' c c' b (st e1).2 e2 e3 (st e4).2 e5 e6,fun j c b e1 e2=>r.new j c b (st e1).2 e2,fun j c e1=>r.lnt j c (st e1).2,fun j b e1=>?_,fun p hp=>m7 g _ _ (r.prot p hp)⟩
 ·have nb:b≠a:=fun z=>by have:=r.new k d a e ea;rw [z,this] at eb;cases eb
  rw [if_neg nb];exact r.same b o eb hl
 ·obtain ⟨n,ej⟩:=st ej
  obtain ⟨v,h1,h2⟩:=r.slot j w ej
  refine ⟨v,h1,D1 g (fun b c ec eb=>?_) h2⟩
  subst eb
  have:b≠a:=fun z=>n (r.inj j k w _ c d a ej ec (z▸h1) e rfl ea)
  rw [if_neg this]
 ·obtain ⟨c,q1,q2⟩:=r.lnd j b e1
  have n:k≠j:=fun z=>by subst z;rw [e] at q1;cases q1
  exact ⟨c,by rw [List.getElem?_set_ne n];exact q1,q2⟩
theorem a8S (h:∀(j:Nat) (w:W),ρ[j]? =some (some w)->σ'[j]? =σ[j]?):AvO O ρ σ'=AvO O ρ σ:=funext fun b=>propext (or_congr Iff.rfl ⟨fun ⟨j,w,d,e1,e2,e3⟩=>⟨j,w,d,e1,e2,by rw [<-h j w e1];exact e3⟩,fun ⟨j,w,d,e1,e2,e3⟩=>⟨j,w,d,e1,e2,by rw [h j w e1];exact e3⟩⟩)
theorem Rep.sig (r:Rep X P O L ρ σ H)(hl:σ'.length=σ.length)(h:∀(j:Nat) (w:W),ρ[j]? =some (some w)->σ'[j]? =σ[j]?):Rep X P O L ρ σ' H:=by
 have av:=a8S (O:=O) h
 refine ⟨r.same,r.amb,r.len.trans hl.symm,fun j w e=>by rw [h j w e,av];exact r.slot j w e,fun i j w w' d d' b e1 e2 e3 e4 e5 e6=>r.inj i j w w' d d' b e1 e2 (by rw [<-h i w e1];exact e3) e4 e5 (by rw [<-h j w' e4];exact e6),fun i d b e1 e2=>r.new i d b e1 (by rw [<-h i _ e1];exact e2),fun i d e=>by rw [h i _ e];exact r.lnt i d e,fun i b e=>?_,fun p hp=>by rw [av];exact r.prot p hp⟩
 obtain ⟨d,q1,q2⟩:=r.lnd i b e
 exact ⟨d,q1,by rw [h i _ q1];exact q2⟩
def Hid (X:Cx) (k:Nat):Prop:=∀j x,k<=j->X.N[j]? =some x->¬Vis X.env.scope x
theorem a5p (hk:Hid X k)(I:Inv X pins σ H s)(hl:σ'.length=σ.length)(h:∀j,j < k->σ'[j]? =σ[j]?):Inv X pins σ' H s:=
 ⟨I.ok,I.os,I.bare,I.base,by
  obtain ⟨m,hn,q⟩:=I.loc
  refine ⟨m,hn,fun i x v e1 e2 e3=>q i x v e1 ?_ e3⟩
  have:i < k:=Nat.lt_of_not_le fun z=>hk i x z e1 e3
  rw [<-h i this];exact e2,I.cell,I.free,I.freeC,I.pin,I.hok,hl.trans I.len⟩
end
abbrev FH:=Ev->Option (List D×Ev)
def HidL (ρ:Ev) (σ:L2.St):Nat->List D->List V->Prop
 | _,[],vs=>vs=[]
 | k,d :: ds,vs=>∃a r,vs= .ref a :: r/\ρ[k]? =some (some (.o d))/\σ[k]? =some (some (.ref a))/\HidL ρ σ (k + 1) ds r
def tH (X:Cx) (k:Nat) (F:FH):TA:=fun σ H Q=>∃P O L ρ ds ρ',Rep X P O L ρ σ H/\F ρ=some (ds,ρ')/\∀(vs:List V) (σ':L2.St) (H':Hp),σ'.length=σ.length->(∀j,j < k->σ'[j]? =σ[j]?)->Rep X P O L ρ' σ' H'->HidL ρ' σ' k ds vs->Q vs H'
structure QH (X:Cx) (k:Nat) (es:List Expr) (F:FH):Prop where
 to:PA X es (tH X k F)
def hNil:FH:=fun ρ=>some ([],ρ)
def hPut (k:Nat) (F:FH) (w:W) (ρ:Ev):Option (List D×Ev):=match w,ρ[k]? with
 | .o d,some none=>(F (ρ.set k (some (.o d)))).bind fun q=>match q.2[k]? with
  | some (some (.o d'))=>some (d' :: q.1,q.2)
  | _=>none
 | _,_=>none
def hCons (k:Nat) (f:FX) (F:FH):FH:=fun ρ=>(f ρ).bind fun p=>hPut k F p.1 p.2
section
variable {X:Cx}{k:Nat}{e:Expr}{es:List Expr}{f:FX}{F:FH}{pos:Pos}
theorem b2y:QH X k [] hNil:=⟨PA.weak a4I fun σ H Q h0=>by
 obtain ⟨P,O,L,ρ,ds,ρ',r,e,q⟩:=h0
 cases e
 exact q [] σ H rfl (fun _ _=>rfl) r rfl⟩
theorem Q1 (hk:Hid X k)(ha:QX X e f)(hr:QH X (k + 1) es F)(hs:starEach (e :: es) X.env=(false,eval e X.env) :: starEach es X.env:=by rfl):QH X k (e :: es) (hCons k f F):=⟨by
 intro pos pins s σ H Q I h
 obtain ⟨P,O,L,ρ,ds,ρ',r,eF,q⟩:=h
 unfold hCons at eF
 obtain ⟨⟨w,ρ1⟩,e1,eF⟩:=obs eF
 dsimp only at eF
 unfold hPut at eF
 split at eF
 ·rename_i d e2
  obtain ⟨⟨ds2,ρ2⟩,e3,eF⟩:=obs eF
  dsimp only at eF
  split at eF
  ·rename_i d' e4
   cases eF
   have hkl:∀{a:Addr},k < σ.length->(σ.set k (some (V.ref a)))[k]? =some (some (V.ref a)):=fun h=>n8 h
   rw [hs]
   show wpAny _ _ (spliced ((false,eval e X.env) :: backTo pos (starEach es X.env))) _ _ s
   refine Calls.spliced_cons (thn (ha.to pins s σ H (fun v H1=>∃a,v= .ref a/\Rep X P O L (ρ1.set k (some (.o d))) (σ.set k (some (.ref a))) H1) I ⟨P,O,L,ρ,_,ρ1,r,e1,fun v H1 H' r1 s1 d1=>?_⟩) fun u s1 h0=>ex5 h0 fun x H1 I1 rv1 q1=>?_)
   ·obtain ⟨a,rfl,hn,ob⟩:=d1
    exact ⟨a,rfl,r1.putO s1 (by unfold freeSlot;rw [e2]) hn ob⟩
   ·obtain ⟨a,rfl,rp⟩:=q1
    have hlt:k < σ.length:=by
     have z:=rp.len
     have z2:=(List.getElem?_eq_some_iff.mp e2).1
     rw [List.length_set,List.length_set] at z
     walk_at "o"
    refine thn (hr.to pos pins s1 (σ.set k (some (.ref a))) H1 (fun vs H2=>Q (.ref a :: vs) H2) (a5p hk I1 (by simp) (fun j hj=>by rw [List.getElem?_set_ne (Nat.ne_of_gt hj)])) ⟨P,O,L,_,ds2,_,rp,e3,fun vs σ' H' hl hj r2 hd=>?_⟩) fun us s2 h0=>ex5 h0 fun xs H2 I2 r2 q2=>⟨.ref a :: xs,H2,a5p hk I2 (by simp) (fun j hj=>by rw [List.getElem?_set_ne (Nat.ne_of_gt hj)]),.cons rv1 r2,q2⟩
    exact q _ σ' H' (hl.trans (by simp)) (fun j h=>(hj j (Nat.lt_succ_of_lt h)).trans (by rw [List.getElem?_set_ne (Nat.ne_of_gt h)])) r2 ⟨a,vs,rfl,e4,(hj k (Nat.lt_succ_self _)).trans (n8 hlt),hd⟩
  ·cases eF
 ·cases eF⟩
def offN:Nat->Nat->Ev->Ev
 | _,0,ρ=>ρ
 | k,n + 1,ρ=>offN (k + 1) n (ρ.set k none)
theorem a3j:∀{n k:Nat} {ρ:Ev} {j:Nat} {w:W},(offN k n ρ)[j]? =some (some w)->ρ[j]? =some (some w)
 | 0,_,_,_,_,e=>e
 | n + 1,k,ρ,j,w,e=>by
  rcases l7 (a3j (n:=n) e) with ⟨_,z,_⟩ | z
  ·cases z
  ·exact z.2
theorem a4n {σ:L2.St}:∀{ds:List D} {vs:List V} {ρ:Ev} {j k:Nat},j < k->HidL ρ σ k ds vs->HidL (ρ.set j none) σ k ds vs
 | [],_,_,_,_,_,h=>h
 | d :: ds,vs,ρ,j,k,hj,⟨a,r,e1,e2,e3,h⟩=>⟨a,r,e1,by rw [List.getElem?_set_ne (Nat.ne_of_lt hj)];exact e2,e3,a4n (Nat.lt_succ_of_lt hj) h⟩
theorem a3J {σ:L2.St}:∀{ds:List D} {vs:List V} {ρ:Ev} {k j:Nat} {d:D},HidL ρ σ k ds vs->ds[j]? =some d->∃a,vs[j]? =some (.ref a)/\ρ[k + j]? =some (some (.o d))/\σ[k + j]? =some (some (.ref a))
 | [],_,_,_,_,_,_,e=>by simp at e
 | d :: ds,vs,ρ,k,0,x,⟨a,r,e1,e2,e3,_⟩,e=>by
  simp at e;subst e;subst e1;exact ⟨a,rfl,e2,e3⟩
 | d :: ds,vs,ρ,k,j + 1,x,⟨a,r,e1,e2,e3,h⟩,e=>by
  subst e1
  obtain ⟨b,q1,q2,q3⟩:=a3J h (by simpa using e)
  refine ⟨b,by simpa using q1,?_,?_⟩
  ·rw [show k + (j + 1)=k + 1 + j by walk_at "o"];exact q2
  ·rw [show k + (j + 1)=k + 1 + j by walk_at "o"];exact q3
theorem a1i {σ:L2.St}:∀{ds:List D} {vs:List V} {ρ:Ev} {k:Nat},HidL ρ σ k ds vs->vs.length=ds.length
 | [],_,_,_,h=>by rw [h];rfl
 | d :: ds,vs,ρ,k,⟨a,r,e1,_,_,h⟩=>by rw [e1,List.length_cons,List.length_cons,a1i h]
theorem a4i {P:List (D×V)}{O:Av}{L:List (Nat×Addr)}{σ:L2.St}:∀{ds:List D} {vs:List V} {ρ:Ev} {H:Hp} {k:Nat},Rep X P O L ρ σ H->HidL ρ σ k ds vs->∃H1,Rep X P O L (offN k ds.length ρ) σ H1/\Same H1 H/\∀a,V.ref a∈vs->H1 a=none
 | [],vs,ρ,H,k,r,h=>by cases (show vs=[] from h);exact ⟨H,r,Same.refl H,fun a h=>by cases h⟩
 | d :: ds,vs,ρ,H,k,r,⟨a,t,e1,e2,e3,h⟩=>by
  subst e1
  obtain ⟨H1,r1,s1,n1⟩:=a4i (r.off e2 e3) (a4n (Nat.lt_succ_self _) h)
  have na:H1 a=none:=by
   cases q:H1 a with
   | none=>rfl
   | some o=>have:=s1 a o q;simp at this
  refine ⟨H1,r1,fun b o eb=>?_,fun b hb=>?_⟩
  ·have:=s1 b o eb
   dsimp only at this
   split at this
   ·cases this
   ·exact this
  ·rcases List.mem_cons.mp hb with z | z
   ·cases z;exact na
   ·exact n1 b z
def fPick (k:Nat) (F:FH) (i:Nat):FX:=fun ρ=>(F ρ).bind fun p=>match p.2[i]? with
 | some (some (.v (.int n)))=>if p.1.length<=lim/\i < k/\((offN k p.1.length p.2).drop k).all (·.isNone)=true then (atI p.1 n).map fun d=>(.o d,offN k p.1.length p.2) else none
 | _=>none
theorem a9U {α β:Type}{xs:List α}{ys:List β}{n:Int}{x:α}(hl:xs.length=ys.length)(e:atI xs n=some x):∃j:Nat,xs[j]? =some x/\atI ys n=ys[j]?:=by
 unfold atI at e ⊢
 rw [<-hl]
 cases q:ixN xs.length n with
 | none=>rw [q] at e;cases e
 | some j=>rw [q] at e;exact ⟨j,e,rfl⟩
theorem a98 (i:Nat){x:Str}{px pos2:Pos}(ha:QH X k es F)(hN:X.N[i]? =some x:=by rfl)(hv:Vis X.env.scope x:=by first | exact Or.inl rfl | exact Or.inr (Or.inl rfl) | exact Or.inr (Or.inr rfl))(hd:(x == ("__debug__":Str))=false:=by decide)(hcd:(x == ("__classdict__":Str))=false:=by decide)(hs:PlainIx (.Name x px):=by intro _ _;rfl):QX X (.Subscript (.List es pos2) (.Name x px) pos) (fPick k F i):=⟨PE.weak (b0Y a7N (a74 ha.to) (a2T hN hv hd hcd) hs) fun σ H Q h0=>tXe h0 fun P O L ρ w ρ' r e q=>by
 unfold fPick at e
 obtain ⟨⟨ds,ρ1⟩,e1,e⟩:=obs e
 dsimp only at e
 split at e
 ·rename_i n e2
  split at e
  ·rename_i hc
   obtain ⟨hl,hi,hno⟩:=hc
   obtain ⟨d,e3,e⟩:=oms e
   cases e
   refine ⟨P,O,L,ρ,ds,ρ1,r,e1,fun vs σ' H' hls hj r1 hh=>⟨by rw [a1i hh];exact Nat.le_trans hl q9,fun p hp=>?_⟩⟩
   obtain ⟨v,h1,h2⟩:=r1.slot i _ e2
   have h2:Den X.K (AvO O ρ1 σ') H' (.int n) v:=h2
   have hv:v= .int n:=v3.mp h2
   subst hv
   refine ⟨.int n,(hj i hi).symm.trans h1,.inl ?_⟩
   obtain ⟨j,e4,e5⟩:=a9U (ys:=vs) (a1i hh).symm e3
   obtain ⟨a,q1,q2,q3⟩:=a3J hh e4
   refine ⟨p,vs,n,.ref a,rfl,rfl,.inl (.inl j9),e5.trans q1,?_⟩
   obtain ⟨H1,r2,s2,n2⟩:=a4i r1 hh
   have hsg:∀(j:Nat) (w:W),(offN k ds.length ρ1)[j]? =some (some w)->σ[j]? =σ'[j]?:=fun j w ej=>by
    by_cases hjk:j < k
    ·exact (hj j hjk).symm
    ·have hm:some w∈(offN k ds.length ρ1).drop k:=by
      rw [List.mem_iff_getElem?]
      refine ⟨j - k,?_⟩
      rw [List.getElem?_drop,show k + (j - k)=j by walk_at "o"]
      exact ej
     have:=List.all_eq_true.mp hno _ hm
     cases this
   have r3:=r2.sig hls.symm hsg
   have sp:Same H' (upd H' p (.lst vs)):=j3 hp _
   refine q _ H1 _ r3 (fun b o eb=>sp b o (s2 b o eb)) ⟨a,rfl,n2 a (List.mem_of_getElem? q1),?_⟩
   obtain ⟨a',h3,ob⟩:=r1.obj q2 rfl
   rw [q3] at h3;cases h3
   obtain ⟨u,eu,_⟩:=v5 ob
   refine t4 (A:=AvO O ρ1 σ') (M:=fun _=>False) ⟨fun b o eb _=>sp b o eb,fun _ z=>z.elim,fun b z=>.inl ?_⟩ ?_ ob
   ·rcases z with z | z
    ·have av:=a8S (O:=O) hsg
     rw [av] at z
     rcases z with z | ⟨j,w,c,z1,z2,z3⟩
     ·exact .inl z
     ·exact .inr ⟨j,w,c,a3j z1,z2,z3⟩
    ·rw [z];exact .inr ⟨_,_,_,q2,rfl,q3⟩
   ·rw [eu,sp _ _ eu]
  ·cases e
 ·cases e⟩
end
section
variable {X:Cx}{o e:Expr}{es:List Expr}{f:FX}{fa:FA}{pos apos:Pos}
def eqI (i:Int):Value->Bool
 | .int k _=>k == i
 | _=>false
def rRem:V->List V->Hp->VK->Prop:=fun x vs H Q=>∃(l:Addr) (ns:List Int) (i:Int),x= .ref l/\vs=[.int i]/\H l=some (.lst (ns.map V.int))/\i∈ns/\Q .non (upd H l (.lst ((ns.eraseIdx (ns.idxOf i)).map V.int)))
theorem a4Y:MtR X "list.remove" rRem:=by
 intro pins s σ H x vs v us Q I rx rv h
 obtain ⟨l,ns,i,rfl,rfl,hH,hi,q⟩:=h
 cases rx
 obtain ⟨u,rfl,ru⟩:=rv.one
 obtain ⟨t,rfl⟩:=ru
 obtain ⟨z,its,n,r,hl,e⟩:=I.lstM hH
 have at_:∀(m:Nat) (hm:m < its.toArray.size),∃t,its.toArray[m]= .int (ns.getD m 0) t:=fun m hm=>a2O r (by rw [Array.getElem?_eq_getElem hm])
 have hl':its.length=ns.length:=by rw [<-hl,List.length_map]
 have jl:ns.idxOf i < ns.length:=List.idxOf_lt_length_iff.mpr hi
 refine call_meets F.slot_list_remove ⟨_,e,rfl⟩ F.entry_list_remove (F.args_list_remove_2 _ _)
  (MeetsSeq.list_remove l its.toArray n (.int i t) (eqI i) (fun y hy=>?_) (ns.idxOf i) (by rw [List.size_toArray,hl'];exact jl) ?_ (fun m hm hmj=>?_) (by rw [List.size_toArray];walk_at "o")) ⟨e,?_⟩
 ·obtain ⟨m,hm,rfl⟩:=Array.mem_iff_getElem.mp hy
  obtain ⟨t2,e2⟩:=at_ m hm
  rw [e2]
  exact MeetsSeq.EqGives.int _ _ _ _
 ·obtain ⟨t2,e2⟩:=at_ (ns.idxOf i) (by rw [List.size_toArray,hl'];exact jl)
  rw [e2]
  show (ns.getD (ns.idxOf i) 0 == i)=true
  rw [List.getD_eq_getElem?_getD,List.getElem?_eq_getElem jl]
  simp
 ·obtain ⟨t2,e2⟩:=at_ m hm
  rw [e2]
  show (ns.getD m 0 == i)=false
  have ml:m < ns.length:=by walk_at "o"
  rw [List.getD_eq_getElem?_getD,List.getElem?_eq_getElem ml]
  simp only [Option.getD_some,beq_eq_false_iff_ne,ne_eq]
  intro z
  have w:=List.not_of_lt_findIdx (p:=(· == i)) (xs:=ns) hmj
  simp [z] at w
 refine ⟨.non,_,I.lset (its':=its.eraseIdx (ns.idxOf i)) hH e ?_ ?_ ?_,rfl,q⟩
 ·show its.toArray.eraseIdxIfInBounds _=_
  rw [List.eraseIdxIfInBounds_toArray]
 ·have z:=r.eraseIdx (ns.idxOf i)
  rwa [show (ns.map V.int).eraseIdx (ns.idxOf i)=(ns.eraseIdx (ns.idxOf i)).map V.int from W8 ..] at z
 ·have:=O9 ns (ns.idxOf i)
  rw [List.length_map]
  walk_at "o"
theorem V1 {K:PySem.W.Frag}{A:Av}{H:Hp}:∀{ns:List Int} {vs:List V},DenL K A H (ns.map D.int) vs->vs=ns.map V.int
 | [],_,l=>by rw [List.map_nil,DenL] at l;exact l
 | n :: ns,_,l=>by
  rw [List.map_cons,DenL] at l
  obtain ⟨v,r,rfl,h,l⟩:=l
  rw [v3.mp h,V1 l]
  rfl
def mRem (xs ds:List D):Option (W×List D):=match ds with
 | [.int i]=>(intsOf xs).bind fun ns=>if i∈ns then some (.v .non,(ns.eraseIdx (ns.idxOf i)).map D.int) else none
 | _=>none
theorem a4o {xs ds ys:List D}{w:W}(e:mRem xs ds=some (w,ys)):∃(i:Int) (ns:List Int),ds=[.int i]/\xs=ns.map D.int/\i∈ns/\w= .v .non/\ys=(ns.eraseIdx (ns.idxOf i)).map D.int:=by
 unfold mRem at e
 split at e
 ·rename_i i
  cases e1:intsOf xs with
  | none=>rw [e1] at e;cases e
  | some ns=>
   rw [e1] at e
   simp only [Option.bind_some] at e
   split at e
   ·rename_i hi
    cases e
    exact ⟨i,ns,rfl,p9 e1,hi,rfl,rfl⟩
   ·cases e
 ·cases e
theorem b1P:PrM X mRem rRem:=fun A a xs ds w ys us vs H Q h l l' e q _=>by
 obtain ⟨i,ns,rfl,rfl,hi,rfl,rfl⟩:=a4o e
 obtain ⟨v,rfl,hv⟩:=denL1 l'
 have eu:=V1 l
 subst eu
 exact ⟨a,ns,i,rfl,by rw [v3.mp hv],h,hi,q _ _ (z8 _) U9⟩
theorem b2s:∀xs ds w ys,mRem xs ds=some (w,ys)->∃d,w= .v d:=fun xs ds w ys e=>by
 obtain ⟨i,ns,_,_,_,rfl,_⟩:=a4o e
 exact ⟨_,rfl⟩
theorem a6J (ho:QX X o f)(ha:QA X (e :: es) fa)(hbase:attributeBase o "remove" X.env (eval o X.env)=eval o X.env:=by rfl)
  (hfew:((backTo pos (starEach (e :: es) X.env)).all (fun x=>!x.1) && (backToKw pos (keywordEach [] X.env)).all (fun x=>x.1.isSome) && decide ((e :: es).length + ([]:List Keyword).length + (if ([]:List Keyword).isEmpty then 0 else 1) < 30))=true:=by rfl)
  (hline:(apos.endLine == pos.line)=true:=by rfl) (hs:starEach (e :: es) X.env=(false,eval e X.env) :: starEach es X.env:=by rfl) (hpl:(backTo pos (starEach es X.env)).any (·.1)=false:=by rfl):QX X (.Call (.Attribute o "remove" apos) (e :: es) [] pos) (fMut mRem f fa):=
 a47 PySem.F.slot_list_remove PySem.F.type_list_remove a4Y b1P b2s ho ha hbase hfew hline hs hpl
theorem o_rem {ns:List Int}{i:Int}(h:i∈ns):mRem (ns.map D.int) [.int i]=some (.v .non,(ns.eraseIdx (ns.idxOf i)).map D.int):=by
 unfold mRem
 simp only [j6,Option.bind_some]
 rw [if_pos h]
theorem Y0 {X:Cx}{k:Nat}(h:(X.N.drop k).all (fun x=>(X.env.scope.names.lookup x).isNone)=true):Hid X k:=fun j x hj e v=>by
 have hm:x∈X.N.drop k:=by
  rw [List.mem_iff_getElem?]
  exact ⟨j - k,by rw [List.getElem?_drop,show k + (j - k)=j by walk_at "o"];exact e⟩
 have z:=List.all_eq_true.mp h x hm
 rcases v with v | v | v <;> (rw [v] at z;cases z)
theorem a12 {k:Nat}{f:FX}{F:FH}{ρ ρ':Ev}{d:D}{ds:List D}(e:f ρ=some (.o d,ρ))(en:ρ[k]? =some none)(eF:F (ρ.set k (some (.o d)))=some (ds,ρ'))(ek:ρ'[k]? =some (some (.o d))):hCons k f F ρ=some (d :: ds,ρ'):=by
 unfold hCons
 rw [e]
 dsimp only [Option.bind_some]
 unfold hPut
 rw [en]
 dsimp only
 rw [eF]
 dsimp only [Option.bind_some]
 rw [ek]
theorem b0k {k i:Nat}{F:FH}{ρ ρ':Ev}{d:D}{ds:List D}{n:Int}(e:F ρ=some (ds,ρ'))(ei:ρ'[i]? =some (some (.v (.int n))))(hc:ds.length<=lim/\i < k/\((offN k ds.length ρ').drop k).all (·.isNone)=true)(ed:atI ds n=some d):fPick k F i ρ=some (.o d,offN k ds.length ρ'):=by
 unfold fPick
 rw [e]
 dsimp only [Option.bind_some]
 rw [ei]
 dsimp only
 rw [if_pos hc,ed]
 rfl
def pD (p:Int×Int):D:=.tup [.int p.1,.int p.2]
def onI (f:Int->D):D->D
 | .int i=>f i
 | d=>d
def rngP (fx fy:Int->Int) (lo:Int) (m:Nat):List (Int×Int):=(List.range m).map fun (i:Nat)=>(fx (lo + (i:Int)),fy (lo + (i:Int)))
theorem U1 {fx fy:Int->Int}{lo:Int}{m:Nat}:(rngP fx fy lo m).length=m:=by unfold rngP;rw [List.length_map,List.length_range]
theorem U6 {fx fy:Int->Int}{lo:Int}{m:Nat}{p:Int×Int}(h:p∈rngP fx fy lo m):∃i:Int,lo<=i/\i < lo + m/\p=(fx i,fy i):=by
 unfold rngP at h
 obtain ⟨i,hi,rfl⟩:=List.mem_map.mp h
 have:=List.mem_range.mp hi
 exact ⟨lo + i,by walk_at "o",by walk_at "o",rfl⟩
theorem G8 {fi:FI}{js:List (Option Nat)}{gf:FG}{t:FT}{fe:FX}{ρ:Ev}{lo:Int}{m:Nat}(fx fy:Int->Int)(I:Ev->Prop)(ei:fi ρ=some (rngD lo m,ρ))(hm:m<=8)(hI:∀B,I B->B.length=js.length)(h0:I (capE none js ρ))
  (st:∀i:Int,lo<=i->i < lo + m->∀B zs,I B->∃B',I B'/\gf (.int i) (B ++ acc zs)=some (B' ++ acc zs)/\t (B' ++ acc zs)=some (true,B' ++ acc zs)/\fe (B' ++ acc zs)=some (.v (.tup [.int (fx i),.int (fy i)]),B' ++ acc zs)):
  fComp fi none js gf t fe ρ=some (.o (.lst ((rngP fx fy lo m).map pD)),ρ):=by
 have e:(rngP fx fy lo m).map pD=((rngD lo m).filter fun _=>true).map (onI fun i=>pD (fx i,fy i)):=by
  rw [n6]
  unfold rngP rngD
  rw [List.map_map,List.map_map]
  rfl
 rw [e]
 refine m5 I (fun _=>true) (onI fun i=>pD (fx i,fy i)) ei hI h0 ?_ ?_ ?_
 ·rw [P2];unfold lim;walk_at "o"
 ·rw [<-e]
  refine w9 fun y hy=>?_
  obtain ⟨p,_,rfl⟩:=List.mem_map.mp hy
  rfl
 ·intro x hx B zs hB
  obtain ⟨j,hj⟩:=List.mem_iff_getElem?.mp hx
  obtain ⟨rfl,hj'⟩:=a4v hj
  obtain ⟨B',h1,h2,h3,h4⟩:=st (lo + (j:Int)) (by walk_at "o") (by walk_at "o") B zs hB
  exact ⟨B',_,h1,h2,h3,fun _=>⟨h4,.inl rfl⟩⟩
end
end Z
local macro_rules | `(tactic| walk_at "z r") => `(tactic| simp only [Z.lim, Z.r_nt, Z.b1M, Z.r_fn, Z.a8G, Z.a9g, Z.b1r, Z.a3q, Z.a9B, Z.a7Y, Z.nb_f, Z.nb_t, Z.r_ge, Z.b0O, Z.a5S, Z.b0S, Z.b0J, Z.r_dp, Z.b1v, Z.b0y, Z.b1g, Z.b0z, Z.b1k, Z.b0U, Z.b1p, Z.b1K, Z.b1w, Z.r_td, Z.b1F, Z.b07, Z.b03, Z.b1B, Z.b08, Z.it_t, Z.it_l, Z.r_iz, Z.b1f, Z.b1z, Z.b05, Z.r_r1, Z.b04, Z.r_r2, Z.b1E, Z.r_lr, Z.b1n, Z.b0G, Z.a5Y, Z.a51, Z.r_c, Z.a8r, Z.a7S, Z.a5P, Z.a8Y, Z.a7X, Z.a8X, Z.a5z, Z.a5n, Z.a7m, Z.b06, Z.a8s, Z.a8Q, Z.a9t, Z.a8W, Z.r_un, Z.b1y, Z.b1u, Z.a0H, Z.a9x, Z.a7E, Z.a9r, Z.a3l, Z.a1s, Z.b0L, Z.a8N, Z.b09, Z.r_or, Z.a59, Z.a5O, Z.a9v, Z.a9b, Z.a8E, Z.a3W, Z.a3F, Z.b0T, Z.a7z, Z.a50, Z.a5X, Z.a58, Z.a5R, Z.a5T, Z.a7Q, Z.a7G, Z.a7l, Z.b0D, Z.b0F, Z.a5F, Z.a53, Z.a9y, Z.a5b, Z.a55, Z.r_k1, Z.r_k2, Z.b0x, Z.a9a, Z.a8F, Z.a7i, Z.r_sl, Z.b0M, Z.b1J, Z.b1d, Z.b1t, Z.a9l, Z.a8I, Z.r_o0, Z.r_o1, Z.b1a, Z.a7Z, Z.a1v, Z.a17, Z.b02, Z.a5t, Z.a5o, Z.r_ifS, Z.a5y, Z.a6e, Z.b0V, Z.a5D, Z.a5K, Z.r_ag, Z.b1I, Z.b1i, Z.b0Q, Z.a57, Z.a76, Z.a5U, Z.b1L, Z.a7R, Z.r_gs, Z.b0P, Z.b0R, Z.b1e, Z.a8H, Z.a5k, Z.b0I, Z.a9e, Z.a84, Z.r_is, Z.b00, Z.a77, Z.a7T, Z.b0N, Z.a82, Z.a7k, Z.a5Z, Z.r_mu, Z.b0Z, Z.b1q, Z.b1h, Z.b1o, Z.b1H, Z.b1l, Z.b0W, Z.a4d, Z.o_i0, Z.o_i, Z.a6a, Z.a6i, Z.a5I, Z.b0K, Z.a8L, Z.a8P, Z.a8K, Z.a5f, Z.a5L, Z.b1m, Z.b0C, Z.a2b, Z.o_d2, Z.a_0, Z.a_1, Z.b1s, Z.b1C, Z.a5w, Z.a7d, Z.a01, Z.a5l, Z.a5C, Z.a7y, Z.a89, Z.a18, Z.b1c, Z.b0B, Z.a8x, Z.a7A, Z.a7w, Z.b1A, Z.b0X, Z.W.own, Z.start0, Z.deq, Z.deqL, Z.flatE, Z.isD, Z.lf, Z.lfL, Z.frzL, List.length_cons, List.length_nil, List.map_cons, List.map_nil, List.replicate, List.append_nil, List.nil_append, List.cons_append, List.getElem?_cons_zero, List.getElem?_cons_succ, List.set_cons_zero, List.set_cons_succ, Option.bind_some, Option.map_some, if_true, if_false, Bool.false_eq_true, Nat.zero_add, Nat.reduceAdd, Nat.reduceSub, Nat.sub_self, Nat.add_one_sub_one, and_self, and_true, Bool.and_self, Bool.and_true, Bool.true_and, Bool.not_true, Bool.not_false, Bool.and_false, Bool.false_and, reduceIte, ite_self, decide_true, Nat.reduceEqDiff, Nat.reduceLeDiff, beq_self_eq_true])
local macro_rules | `(tactic| walk_at "z i") => `(tactic| simp only [Z.lim, Z.r_nt, Z.b1M, Z.r_fn, Z.a8G, Z.a9g, Z.b1r, Z.a3q, Z.a9B, Z.a7Y, Z.nb_f, Z.nb_t, Z.r_ge, Z.b0O, Z.a5S, Z.b0S, Z.b0J, Z.r_dp, Z.b1v, Z.b0y, Z.b1g, Z.b0z, Z.b1k, Z.b0U, Z.b1p, Z.b1K, Z.b1w, Z.r_td, Z.b1F, Z.b07, Z.b03, Z.b1B, Z.b08, Z.it_t, Z.it_l, Z.r_iz, Z.b1f, Z.b1z, Z.b05, Z.r_r1, Z.b04, Z.r_r2, Z.b1E, Z.r_lr, Z.b1n, Z.b0G, Z.a5Y, Z.a51, Z.r_c, Z.a8r, Z.a7S, Z.a5P, Z.a8Y, Z.a7X, Z.a8X, Z.a5z, Z.a5n, Z.a7m, Z.b06, Z.a8s, Z.a8Q, Z.a9t, Z.a8W, Z.r_un, Z.b1y, Z.b1u, Z.a0H, Z.a9x, Z.a7E, Z.a9r, Z.a3l, Z.a1s, Z.b0L, Z.a8N, Z.b09, Z.r_or, Z.a59, Z.a5O, Z.a9v, Z.a9b, Z.a8E, Z.a3W, Z.a3F, Z.b0T, Z.a7z, Z.a50, Z.a5X, Z.a58, Z.a5R, Z.a5T, Z.a7Q, Z.a7G, Z.a7l, Z.b0D, Z.b0F, Z.a5F, Z.a53, Z.a9y, Z.a5b, Z.a55, Z.r_k1, Z.r_k2, Z.b0x, Z.a9a, Z.a8F, Z.a7i, Z.r_sl, Z.b0M, Z.b1J, Z.b1d, Z.b1t, Z.a9l, Z.a8I, Z.r_o0, Z.r_o1, Z.b1a, Z.a7Z, Z.a1v, Z.a17, Z.b02, Z.a5t, Z.a5o, Z.a5y, Z.a6e, Z.b0V, Z.a5D, Z.a5K, Z.r_ag, Z.b1I, Z.b1i, Z.b0Q, Z.a57, Z.a76, Z.a5U, Z.b1L, Z.a7R, Z.r_gs, Z.b0P, Z.b0R, Z.b1e, Z.a8H, Z.a5k, Z.b0I, Z.a9e, Z.a84, Z.r_is, Z.b00, Z.a77, Z.a7T, Z.b0N, Z.a82, Z.a7k, Z.a5Z, Z.r_mu, Z.b0Z, Z.b1q, Z.b1h, Z.b1o, Z.b1H, Z.b1l, Z.b0W, Z.a4d, Z.o_i0, Z.o_i, Z.a6a, Z.a6i, Z.a5I, Z.b0K, Z.a8L, Z.a8P, Z.a8K, Z.a5f, Z.a5L, Z.b1m, Z.b0C, Z.a2b, Z.o_d2, Z.a_0, Z.a_1, Z.b1s, Z.b1C, Z.a5w, Z.a7d, Z.a01, Z.a5l, Z.a5C, Z.a7y, Z.a89, Z.a18, Z.b1c, Z.b0B, Z.a8x, Z.a7A, Z.a7w, Z.b1A, Z.b0X, Z.W.own, Z.start0, Z.deq, Z.deqL, Z.flatE, Z.isD, Z.lf, Z.lfL, Z.frzL, List.length_cons, List.length_nil, List.map_cons, List.map_nil, List.replicate, List.append_nil, List.nil_append, List.cons_append, List.getElem?_cons_zero, List.getElem?_cons_succ, List.set_cons_zero, List.set_cons_succ, Option.bind_some, Option.map_some, if_true, if_false, Bool.false_eq_true, Nat.zero_add, Nat.reduceAdd, Nat.reduceSub, Nat.sub_self, Nat.add_one_sub_one, and_self, and_true, Bool.and_self, Bool.and_true, Bool.true_and, Bool.not_true, Bool.not_false, Bool.and_false, Bool.false_and, reduceIte, ite_self, decide_true, Nat.reduceEqDiff, Nat.reduceLeDiff, beq_self_eq_true])
set_option maxHeartbeats 1500000
namespace Q35
open PySem L2 Z
abbrev LO:=List D->Option W
abbrev LL:=D->List D->Option (W×D)
local macro_rules | `(tactic| walk_at "c") => `(tactic| exact ⟨rfl, rfl, rfl, by decide +kernel, rfl, by decide +kernel, by decide +kernel⟩)
def top (i:Nat):Stmt:=PySem.Challenge.pw_twainhoard_k35_whole_slacks_of_swaps.main.body.getD i (.Pass ⟨0,0,0,0⟩)
section
variable {P:Program}{w:World}{K:PySem.W.Frag}{mg:Str->Option Value}{base:Heap}{f:Addr}{fd:FuncData}{k:Nat}
abbrev a0C (mg:Str->Option Value) (K:PySem.W.Frag):Prop:=GlT mg K "NOUGHT" [0,1]
abbrev R9:Stmt:=top 1
theorem a0h:FnScope ["thing"] ["thing"] (defScope R9):=by walk_at "c"
def a0A (g:LO):Prop:=∀d:D,isX d=false->g [d]=some (.v (.bl (whole d)))
theorem a3T (l5:mg "isinstance"=none)(m_int:mg "int"=none)(a44:mg "bool"=none)(F:Fun K "is_whole" "is_whole" R9 f fd)(B:Binds K fd ["thing"] [])(hm:mg "is_whole"=some (.ref f)):∃g,Fn P w K mg base "is_whole" (k + 1) g/\a0A g:=by
 have nd:=a0h.nd
 refine ⟨_,o0 F a0h B hm rfl rfl (fun cdv A outer s H E hr=>(c7 (g9 (T0 (a2Z (T:="int") (a28 (by decide)) l5 m_int (a7 0)) (a0R (a3d (a2Z (T:="bool") (a28 (by decide)) l5 a44 (a7 0)))))))),?_⟩
 intro d hd
 have i1:=b18 hd
 have i2:=b0p hd
 cases d with
 | exn C=>cases hd
 | _=>repeat (first | walk_at "z r" | simp only [i1,i2,isI,isB,whole])
abbrev Y2:Stmt:=top 8
theorem a02:FnScope ["web","people","ties"] ["web"] (defScope Y2):=by walk_at "c"
def X4 (g:LO):Prop:=∀(n:Int) (ts:List Tie),WebOk n ts->g [webD n ts]=some (.o (.lst ((sortK (parK n ts)).map tupI)))
def one1:D->D
 | .int i=>.tup [.int i]
 | d=>d
def cut2:D->D
 | .tup [a,b,_]=>.tup [a,b]
 | d=>d
theorem b2u {a b c:D}:cutD [a,b,c] none (some 2)=[a,b]:=rfl
theorem a3t (n:Int)(ts:List Tie):((rngD 0 n.toNat).filter fun _=>true).map one1 ++ ((ts.map tieD).filter fun _=>true).map cut2=(parK n ts).map tupI:=by
 rw [n6,n6]
 unfold parK rngD
 rw [List.map_append,List.map_map,List.map_map,List.map_map,List.map_map]
 congr 1
 apply List.map_congr_left
 intro i _
 show D.tup [.int (0 + (i:Int))]=D.tup [.int (i:Int)]
 rw [Int.zero_add]
theorem a4Q (j0:mg "sorted"=none)(m6:mg "range"=none)(F:Fun K "parties" "parties" Y2 f fd)(B:Binds K fd ["web"] [])(hm:mg "parties"=some (.ref f)):∃g,Fn P w K mg base "parties" (k + 1) g/\X4 g:=by
 have nd:=a02.nd
 refine ⟨_,o0 F a02 B hm rfl rfl (fun cdv A outer s H E hr=>(b8 (o9 (a7 0) (k7 rfl (c6 (b9 1 nd) (c6 (b9 2 nd) j5))))
  (c7 (g9 (z9 hr rfl j0 (a8 (k6 (s0 (N:=["person"]) (js:=[none]) (li:=none) rfl (t9 (by exact (.own .nil)) rfl (by exact trivial) (by rfl)) (E7 (a0W m6 (a8 (a7 1) a9))) (fun _ _ _ _=>(b9 0 (show ((["person"]:List Str) ++ [accN]).Nodup by decide +kernel))) (fun _ _ _ _=>u3) (fun _ _ _ _=>(j8 (a8 (a7 0) a9)))) (s0 (N:=["tie"]) (js:=[none]) (li:=none) rfl (t9 (by exact (.own .nil)) rfl (by exact trivial) (by rfl)) (C0 2) (fun _ _ _ _=>(b9 0 (show ((["tie"]:List Str) ++ [accN]).Nodup by decide +kernel))) (fun _ _ _ _=>u3) (fun _ _ _ _=>(U8 (a7 0) a0t (a0q b0))))) a9)))))),?_⟩
 intro n ts hw
 have hn:=hw.n1
 have hl:=hw.len
 obtain ⟨pl,pne⟩:=N9 hw
 have r1:(-(2 ^ 62:Int)<=n/\n < 2 ^ 62):=by walk_at "o"
 have so:=B9 (ks:=parK n ts) (by walk_at "o") pne
 have pq:=a3t n ts
 have ll:(((rngD 0 n.toNat).filter fun _=>true).map one1).length + (((ts.map tieD).filter fun _=>true).map cut2).length<=1000000:=by
  rw [n6,n6,List.length_map,List.length_map,List.length_map,P2];walk_at "o"
 unfold webD
 repeat (first | walk_at "z r")
 rw [m5 (ρ1:=[some (.v (.tup [.int n,.tup (ts.map tieD)])),some (.v (.int n)),some (.v (.tup (ts.map tieD)))]) (xs:=rngD 0 n.toNat) (fun B=>∃o1:Option D,B=[o1.map .v]) (fun _=>true) one1]
 ·repeat (first | walk_at "z r")
  rw [m5 (ρ1:=[some (.v (.tup [.int n,.tup (ts.map tieD)])),some (.v (.int n)),some (.v (.tup (ts.map tieD)))]) (xs:=ts.map tieD) (fun B=>∃o1:Option D,B=[o1.map .v]) (fun _=>true) cut2]
  ·repeat (first | walk_at "z r" | simp only [ll,pq,so])
  ·repeat (first | walk_at "z r")
  ·rintro _ ⟨_,rfl⟩;rfl
  ·exact ⟨none,rfl⟩
  ·rw [List.length_map];unfold lim;walk_at "o"
  ·refine w9 fun y hy=>?_
   obtain ⟨x,hx,rfl⟩:=List.mem_map.mp hy
   obtain ⟨t,_,rfl⟩:=List.mem_map.mp (List.mem_filter.mp hx).1
   rfl
  ·rintro x hx _ zs ⟨o1,rfl⟩
   obtain ⟨⟨a,b,c⟩,ha,rfl⟩:=List.mem_map.mp hx
   refine ⟨[some (.v (tieD (a,b,c)))],.v (.tup [.int a,.int b]),⟨some _,rfl⟩,?_,rfl,fun _=>⟨?_,.inl rfl⟩⟩
   ·repeat (walk_at "z r")
   ·unfold tieD
    repeat (first | walk_at "z r" | simp only [b2u])
 ·repeat (first | walk_at "z r" | simp only [r1])
 ·rintro _ ⟨_,rfl⟩;rfl
 ·exact ⟨none,rfl⟩
 ·rw [P2];unfold lim;walk_at "o"
 ·refine w9 fun y hy=>?_
  obtain ⟨x,hx,rfl⟩:=List.mem_map.mp hy
  obtain ⟨i,rfl,_⟩:=a0w (List.mem_filter.mp hx).1
  rfl
 ·rintro x hx _ zs ⟨o1,rfl⟩
  obtain ⟨i,rfl,_⟩:=a0w hx
  refine ⟨[some (.v (.int i))],.v (.tup [.int i]),⟨some _,rfl⟩,?_,rfl,fun _=>⟨?_,.inl rfl⟩⟩
  ·repeat (walk_at "z r")
  ·repeat (walk_at "z r")
abbrev T3:Stmt:=top 9
theorem a0k:FnScope ["web","thing"] ["web","thing"] (defScope T3):=by walk_at "c"
def PD (d:D):Prop:=isX d=false/\∀xs,d= .tup xs->(∀y∈xs,isX y=false)/\xs.length<=1000
def ptyB (n:Int) (ts:List Tie):D->Bool
 | .tup xs=>match intsOf xs with
  | some k=>decide (k∈parK n ts)
  | none=>false
 | _=>false
theorem PD.ints {k:List Int}(h:k.length<=1000):PD (tupI k):=⟨rfl,fun xs e=>by
 cases e
 exact ⟨fun y hy=>by obtain ⟨i,_,rfl⟩:=E1 hy;rfl,by rw [List.length_map];exact h⟩⟩
theorem Z8 {n:Int}{ts:List Tie}{k:List Int}:ptyB n ts (tupI k)=decide (k∈parK n ts):=by
 unfold tupI ptyB
 dsimp only
 rw [j6]
theorem a1e:∀{xs:List D},xs.all whole=true->∃k:List Int,xs=k.map .int
 | [],_=>⟨[],rfl⟩
 | x :: xs,h=>by
  rw [List.all_cons,Bool.and_eq_true] at h
  obtain ⟨k,rfl⟩:=a1e h.2
  cases x with
  | int i=>exact ⟨i :: k,rfl⟩
  | _=>cases h.1
theorem a8q {xs:List D}(h:xs.all whole=false):intsOf xs=none:=by
 cases e:intsOf xs with
 | none=>rfl
 | some k=>
  rw [p9 e] at h
  simp [whole] at h
def S4 (g:LO):Prop:=∀(n:Int) (ts:List Tie) (d:D),WebOk n ts->PD d->g [webD n ts,d]=some (.v (.bl (ptyB n ts d)))
theorem a3L {D0:LO}{S2:LO}(C9:Fn P w K mg base "parties" k D0)(C8:X4 D0)(R3:Fn P w K mg base "is_whole" k S2)(S1:a0A S2)(l5:mg "isinstance"=none)(l0:mg "tuple"=none)(m_all:mg "all"=none)(F:Fun K "is_party" "is_party" T3 f fd)(B:Binds K fd ["web","thing"] [])(hm:mg "is_party"=some (.ref f)):∃g,Fn P w K mg base "is_party" (k + 1) g/\S4 g:=by
 have nd:=a0k.nd
 refine ⟨_,o0 F a0k B hm rfl rfl (fun cdv A outer s H E hr=>(c7 (g9 (T0 (a2Z (T:="tuple") (a28 (by decide)) l5 l0 (a7 1)) (T0 (qx_b (a1F rfl) a1d m_all (a8 (s0 (N:=["one"]) (js:=[none]) (li:=none) rfl (t9 (by exact (.own .nil)) rfl (by exact trivial) (by rfl)) (C0 1) (fun _ _ _ _=>(b9 0 (show ((["one"]:List Str) ++ [accN]).Nodup by decide +kernel))) (fun _ _ _ _=>u3) (fun _ _ _ _=>(c9 R3 hr (a8 (a7 0) a9)))) a9)) (a0R (b2x hr (a7 1) (c9 C9 hr (a8 (a7 0) a9))))))))),?_⟩
 intro n ts d hw hd
 have ep:=C8 n ts hw
 have it:=a3P (d:=d) hd.1
 have lt:=z4 (sortK (parK n ts))
 cases d with
 | tup xs=>
  obtain ⟨hx,hl⟩:=hd.2 xs rfl
  repeat (first | walk_at "z r" | simp only [it,isT])
  rw [m5 (ρ1:=[some (.v (webD n ts)),some (.v (.tup xs))]) (xs:=xs) (fun B=>∃o1:Option D,B=[o1.map .v]) (fun _=>true) (fun d=>.bl (whole d))]
  ·rw [n6]
   have gb:=a4G (r:=fun bs=>bs.all id) (M6 whole xs)
   rw [a0D] at gb
   cases ha:xs.all whole with
   | true=>
    obtain ⟨k,rfl⟩:=a1e ha
    have tl:=a2U (b:=false) (j6 k) (D8 (sortK (parK n ts)))
    have mm:decide (k∈sortK (parK n ts))=decide (k∈parK n ts):=by simp only [(i0 (parK n ts)).mem_iff]
    rw [ha] at gb
    have e0:ptyB n ts (.tup (k.map .int))=decide (k∈parK n ts):=Z8
    rw [e0]
    repeat (first | walk_at "z r" | simp only [gb,ep,lt,tl,mm])
   | false=>
    rw [ha] at gb
    have e0:ptyB n ts (.tup xs)=false:=by unfold ptyB;dsimp only;rw [a8q ha]
    rw [e0]
    repeat (first | walk_at "z r" | simp only [gb])
  ·repeat (first | walk_at "z r")
  ·rintro _ ⟨_,rfl⟩;rfl
  ·exact ⟨none,rfl⟩
  ·unfold lim;walk_at "o"
  ·exact a4U _ _
  ·rintro x hx' _ zs ⟨o1,rfl⟩
   have ew:=S1 x (hx x hx')
   refine ⟨[some (.v x)],.v (.bl (whole x)),⟨some _,rfl⟩,?_,rfl,fun _=>⟨?_,.inl rfl⟩⟩
   ·repeat (first | walk_at "z r")
   ·repeat (first | walk_at "z r" | simp only [ew])
 | exn C=>cases hd.1
 | _=>repeat (first | walk_at "z r" | simp only [it,isT,ptyB])
abbrev a2y:Stmt:=top 12
theorem a3Z:FnScope ["web"] ["web"] (defScope a2y):=by walk_at "c"
def a2C (g:LO):Prop:=∀(n:Int) (ts:List Tie),WebOk n ts->g [webD n ts]=some (.o (.dT (ts.map tkK) (ts.map fun t=>.int t.2.2)))
def keyT:D->List Key
 | .tup [.int a,.int b,.int _]=>[Sum.inl a,Sum.inl b]
 | _=>[]
def valT:D->D
 | .tup [_,_,c]=>c
 | d=>d
theorem a4e (ts:List Tie):(ts.map tieD).map keyT=ts.map tkK:=by rw [List.map_map];rfl
theorem a4h (ts:List Tie):(ts.map tieD).map valT=ts.map fun t=>D.int t.2.2:=by rw [List.map_map];rfl
theorem a7s (F:Fun K "gains" "gains" a2y f fd)(B:Binds K fd ["web"] [])(hm:mg "gains"=some (.ref f)):∃g,Fn P w K mg base "gains" (k + 1) g/\a2C g:=by
 have nd:=a3Z.nd
 refine ⟨_,o0 F a3Z B hm rfl rfl (fun cdv A outer s H E hr=>(c7 (g9 (a9f (N:=["one","other","gain"]) (js:=[none,none,none]) (li:=none) 2 hr rfl (t9 (by exact (.own (.own (.own .nil)))) rfl (by exact trivial) (by rfl)) (A1 (g5 hr (a7 0) b0)) (fun _ _ _ _=>(k7 rfl (c6 (b9 0 (show ((["one","other","gain"]:List Str) ++ [accN]).Nodup by decide +kernel)) (c6 (b9 1 (show ((["one","other","gain"]:List Str) ++ [accN]).Nodup by decide +kernel)) (c6 (b9 2 (show ((["one","other","gain"]:List Str) ++ [accN]).Nodup by decide +kernel)) j5))))) (fun _ _ _ _=>u3) (fun _ _ _ _=>(a8 (a7 0) (a8 (a7 1) a9))) (fun _ _ _ _=>b0i 2))))),?_⟩
 intro n ts hw
 have hl:=hw.len
 unfold webD
 repeat (first | walk_at "z r")
 rw [a63 (ρ1:=[some (.v (.tup [.int n,.tup (ts.map tieD)]))]) (xs:=ts.map tieD) (fun B=>∃o1 o2 o3:Option D,B=[o1.map .v,o2.map .v,o3.map .v]) keyT valT]
 ·rw [a4e,a4h]
  repeat (first | walk_at "z r")
 ·repeat (first | walk_at "z r")
 ·rintro _ ⟨_,_,_,rfl⟩;rfl
 ·exact ⟨none,none,none,rfl⟩
 ·rw [List.length_map];unfold lim;walk_at "o"
 ·rw [a4h]
  refine w9 fun y hy=>?_
  obtain ⟨x,hx,rfl⟩:=List.mem_map.mp hy;rfl
 ·rw [a4e];exact a7W hw
 ·rintro x hx _ ks zs ⟨o1,o2,o3,rfl⟩ hk
  obtain ⟨⟨a,b,c⟩,ha,rfl⟩:=List.mem_map.mp hx
  unfold lim at hk
  refine ⟨[some (.v (.int a)),some (.v (.int b)),some (.v (.int c))],⟨some _,some _,some _,rfl⟩,?_⟩
  rw [show tieD (a,b,c)= .tup [.int a,.int b,.int c] from rfl]
  repeat (first | walk_at "z r" | simp only [hk])
  rfl
abbrev X6:Stmt:=top 13
theorem a0Q:FnScope ["web","party"] ["web","party"] (defScope X6):=by walk_at "c"
def a1o (g:LO):Prop:=∀(n:Int) (ts:List Tie) (k:List Int),WebOk n ts->k∈parK n ts->g [webD n ts,tupI k]=some (.v (.int (gainOf ts k)))
theorem a4C {B5:LO}{Q3:LO}(A4:Fn P w K mg base "is_party" k B5)(A7:S4 B5)(P7:Fn P w K mg base "gains" k Q3)(Q2:a2C Q3)(F:Fun K "gain_of" "gain_of" X6 f fd)(B:Binds K fd ["web","party"] [])(hm:mg "gain_of"=some (.ref f)):∃g,Fn P w K mg base "gain_of" (k + 1) g/\a1o g:=by
 have nd:=a0Q.nd
 refine ⟨_,o0 F a0Q B hm rfl rfl (fun cdv A outer s H E hr=>(b8 (G0 (b15 (a7x (c9 A4 hr (a8 (a7 0) (a8 (a7 1) a9))))) (c7 a3V) w8)
  (c7 (g9 (a8M hr (c9 P7 hr (a8 (a7 0) a9)) (a8 (a7 1) (a8 b0 a9))))))),?_⟩
 intro n ts k hw hk
 have ki:=A7 n ts (tupI k) hw (PD.ints (by have:=t8 hw hk;walk_at "o"))
 rw [Z8,decide_eq_true hk] at ki
 have eg:=Q2 n ts hw
 have lf1:lfL (ts.map fun t=>D.int t.2.2)=true:=w9 fun y hy=>by obtain ⟨x,hx,rfl⟩:=List.mem_map.mp hy;rfl
 have g6:∀ρ,ge6 (tupI k) (.int 0) ρ (some (.dT (ts.map tkK) (ts.map fun t=>D.int t.2.2)))=some (.v (.int (gainOf ts k)),ρ):=fun ρ=>by rw [a5N (a2S k),Y7]
 repeat (first | walk_at "z r" | simp only [ki,eg,lf1,g6])
abbrev B0:Stmt:=top 22
theorem F0:FnScope ["one","other"] ["one","other"] (defScope B0):=by walk_at "c"
def G5 (g:LO):Prop:=∀a b:Int,0<=a->0<=b->g [.int a,.int b]=some (.v (.int (Int.gcd a b:Nat)))
theorem W2 (F:Fun K "common_divisor" "common_divisor" B0 f fd)(B:Binds K fd ["one","other"] [])(hm:mg "common_divisor"=some (.ref f)):∃g,Fn P w K mg base "common_divisor" (k + 1) g/\G5 g:=by
 have nd:=F0.nd
 refine ⟨_,o0 F F0 B hm rfl rfl (fun cdv A outer s H E hr=>(b8 (W1 PySem.PassesOwn.never (a7p (a7 1) b0) (c7 (a2M 0 1 rfl nd (a8 (a7 1) (a8 (K1 (a7 0) (a7 1)) a9)) rfl)))
  (c7 (g9 (a7 0))))),?_⟩
 intro a b ha hb
 have l:=a30 (i:=0) (j:=1) (ρ:=[some (.v (.int a)),some (.v (.int b))]) (by decide) ha hb rfl rfl
 repeat (first | walk_at "z r" | rw [l])
abbrev a2I:Stmt:=top 23
theorem a4j:FnScope ["top","bottom","common"] ["top","bottom"] (defScope a2I):=by walk_at "c"
def a27 (g:LO):Prop:=∀t b:Int,0 < b->b.natAbs < big->g [.int t,.int b]=some (.v (ratD (Rat.divInt t b)))
theorem a9w {A9:LO}(B4:Fn P w K mg base "common_divisor" k A9)(A5:G5 A9)(m_abs:mg "abs"=none)(F:Fun K "ratio" "ratio" a2I f fd)(B:Binds K fd ["top","bottom"] [])(hm:mg "ratio"=some (.ref f)):∃g,Fn P w K mg base "ratio" (k + 1) g/\a27 g:=by
 have nd:=a4j.nd
 refine ⟨_,o0 F a4j B hm rfl rfl (fun cdv A outer s H E hr=>(b8 (G0 (a1E hr (a7 1) b0) (c7 a3V) w8)
  (b8 (G0 (a2l hr (a7 1) b0) (c7 (a2M 0 1 rfl nd (a8 (a4N (a7 0)) (a8 (a4N (a7 1)) a9)) rfl)) w8)
  (b8 (j7 2 nd (c9 B4 hr (a8 (qx_b a37 a8v m_abs (a8 (a7 0) a9)) (a8 (a7 1) a9))))
  (c7 (g9 (j8 (a8 (W7 (a7 0) (a7 2)) (a8 (W7 (a7 1) (a7 2)) a9))))))))),?_⟩
 intro t b hb hs
 have d:=a5j (t:=t) hb hs
 have c:=A5 (if t < 0 then -t else t) b (by split <;> walk_at "o") (by walk_at "o")
 rw [a56] at c
 obtain ⟨p1,p2⟩:=K3 (t:=t) hb
 have z0:(b == 0)=false:=by simpa using (by walk_at "o":b≠0)
 have n:decide (b < 0)=false:=by simp;walk_at "o"
 unfold ratD
 rw [p1,p2]
 repeat (first | walk_at "z r" | simp only [z0,n,c,d])
abbrev a4V:Stmt:=top 24
theorem a5V:FnScope ["one","other"] ["one","other"] (defScope a4V):=by walk_at "c"
def a7f (g:LO):Prop:=∀(p q:Rat) (m n:Nat),Sz m p->Sz n q->m + n<=8000->g [ratD p,ratD q]=some (.v (ratD (p + q)))
theorem a9X {Q5:LO}(P4:Fn P w K mg base "ratio" k Q5)(Q0:a27 Q5)(F:Fun K "plus" "plus" a4V f fd)(B:Binds K fd ["one","other"] [])(hm:mg "plus"=some (.ref f)):∃g,Fn P w K mg base "plus" (k + 1) g/\a7f g:=by
 have nd:=a5V.nd
 refine ⟨_,o0 F a5V B hm rfl rfl (fun cdv A outer s H E hr=>(c7 (g9 (c9 P4 hr (a8 (k6 (p0 (g5 hr (a7 0) b0) (g5 hr (a7 1) b0)) (p0 (g5 hr (a7 1) b0) (g5 hr (a7 0) b0))) (a8 (p0 (g5 hr (a7 0) b0) (g5 hr (a7 1) b0)) a9)))))),?_⟩
 intro p q m n hp hq h
 obtain ⟨m1,m2,m3,hpos,hbig⟩:=a2u hp hq h
 have r:=Q0 (p.num * q.den + q.num * p.den) _ hpos hbig
 rw [J9] at r
 rw [show ratD p= .tup [.int p.num,.int p.den] from rfl,show ratD q= .tup [.int q.num,.int q.den] from rfl]
 repeat (first | walk_at "z r" | simp only [m1,m2,m3,r,S8])
abbrev a2s:Stmt:=top 25
theorem a3G:FnScope ["one","other"] ["one","other"] (defScope a2s):=by walk_at "c"
def a5s (g:LO):Prop:=∀(p q:Rat) (m n:Nat),Sz m p->Sz n q->m + n<=8000->g [ratD p,ratD q]=some (.v (ratD (p - q)))
theorem a9C {Q5:LO}(P4:Fn P w K mg base "ratio" k Q5)(Q0:a27 Q5)(F:Fun K "minus" "minus" a2s f fd)(B:Binds K fd ["one","other"] [])(hm:mg "minus"=some (.ref f)):∃g,Fn P w K mg base "minus" (k + 1) g/\a5s g:=by
 have nd:=a3G.nd
 refine ⟨_,o0 F a3G B hm rfl rfl (fun cdv A outer s H E hr=>(c7 (g9 (c9 P4 hr (a8 (R7 (p0 (g5 hr (a7 0) b0) (g5 hr (a7 1) b0)) (p0 (g5 hr (a7 1) b0) (g5 hr (a7 0) b0))) (a8 (p0 (g5 hr (a7 0) b0) (g5 hr (a7 1) b0)) a9)))))),?_⟩
 intro p q m n hp hq h
 obtain ⟨m1,m2,m3,hpos,hbig⟩:=a2u hp hq h
 have r:=Q0 (p.num * q.den - q.num * p.den) _ hpos hbig
 rw [a1b] at r
 rw [show ratD p= .tup [.int p.num,.int p.den] from rfl,show ratD q= .tup [.int q.num,.int q.den] from rfl]
 repeat (first | walk_at "z r" | simp only [m1,m2,m3,r,S8])
abbrev a4q:Stmt:=top 26
theorem a5u:FnScope ["one","other"] ["one","other"] (defScope a4q):=by walk_at "c"
def a7B (g:LO):Prop:=∀(p q:Rat) (m n:Nat),Sz m p->Sz n q->m + n<=8000->g [ratD p,ratD q]=some (.v (.bl (decide (p.num * q.den < q.num * p.den))))
theorem a9S (F:Fun K "less" "less" a4q f fd)(B:Binds K fd ["one","other"] [])(hm:mg "less"=some (.ref f)):∃g,Fn P w K mg base "less" (k + 1) g/\a7B g:=by
 have nd:=a5u.nd
 refine ⟨_,o0 F a5u B hm rfl rfl (fun cdv A outer s H E hr=>(c7 (g9 (a9z hr (p0 (g5 hr (a7 0) b0) (g5 hr (a7 1) b0)) (p0 (g5 hr (a7 1) b0) (g5 hr (a7 0) b0)))))),?_⟩
 intro p q m n hp hq h
 obtain ⟨m1,m2,m3,hpos,hbig⟩:=a2u hp hq h
 rw [show ratD p= .tup [.int p.num,.int p.den] from rfl,show ratD q= .tup [.int q.num,.int q.den] from rfl]
 repeat (first | walk_at "z r" | simp only [m1,m2])
theorem P0:∀(rs:List Rat) (q r:Rat),sumR (rs ++ [q]) r=sumR rs r + q
 | [],q,r=>rfl
 | x :: rs,q,r=>by rw [List.cons_append,sumR,sumR,P0 rs]
theorem a34 {qs rs:List Rat}(h:qs.map ratD=rs.map ratD):qs=rs:=List.map_inj_right (fun _ _=>a8d) |>.mp h
theorem a2i (qs:List Rat):lfL (qs.map ratD)=true:=w9 fun x hx=>by obtain ⟨q,_,rfl⟩:=List.mem_map.mp hx;rfl
theorem b10 {ss:List Rat}{i:Int}(h:0<=i)(l:i < ss.length):atI (ss.map ratD) i=some (ratD (ss.getD i.toNat 0)):=by
 refine a88 h ?_
 rw [List.getElem?_map,List.getD_eq_getElem?_getD,List.getElem?_eq_getElem (by walk_at "o")]
 rfl
abbrev a2R:Stmt:=top 27
theorem a32:FnScope ["some","told","one"] ["some"] (defScope a2R):=by walk_at "c"
def a5m (g:LO):Prop:=∀(qs:List Rat) (m:Nat),(∀q∈qs,Sz m q)->(qs.length + 1) * (m + 2)<=7900->g [.lst (qs.map ratD)]=some (.v (ratD (sumR qs 0)))
theorem a9i {a4r:LO}(a4L:Fn P w K mg base "plus" k a4r)(a4E:a7f a4r)(F9:a0C mg K)(F:Fun K "total" "total" a2R f fd)(B:Binds K fd ["some"] [])(hm:mg "total"=some (.ref f)):∃g,Fn P w K mg base "total" (k + 1) g/\a5m g:=by
 have nd:=a32.nd
 refine ⟨_,o0 F a32 B hm rfl rfl (fun cdv A outer s H E hr=>(b8 (j7 1 nd (a3M F9))
  (b8 (F4 PySem.PassesOwn.never rfl (A1 (a7 0)) (b9 2 nd) (c7 (j7 1 nd (c9 a4L hr (a8 (a7 1) (a8 (a7 2) a9))))))
  (c7 (g9 (a7 1)))))),?_⟩
 intro qs m hq hl
 have n0:D.tup ([0,1].map D.int)=ratD 0:=rfl
 repeat (first | walk_at "z r" | simp only [n0])
 generalize el:loopF _ _ _=r
 refine a1w el (fun d ρ=>∃(rs:List Rat) (o:Option D),d=rs.map ratD/\ρ=[some (.v (.lst (qs.map ratD))),some (.v (ratD (sumR rs 0))),o.map .v]/\Sz (rs.length * (m + 2) + 1) (sumR rs 0)) ⟨[],none,rfl,rfl,by rw [List.length_nil,Nat.zero_mul];exact sz_0⟩ ?_ ?_
 ·rintro d x _ hx hd ⟨rs,o,rfl,rfl,hz⟩
  obtain ⟨q,hqq,rfl⟩:=List.mem_map.mp hx
  rw [List.length_map,List.length_map] at hd
  have b1:(rs.length + 1) * (m + 2)<=(qs.length + 1) * (m + 2):=Nat.mul_le_mul_right _ (by walk_at "o")
  rw [Nat.add_mul,Nat.one_mul] at b1
  have ep:=a4E _ _ _ _ hz (hq q hqq) (by walk_at "o")
  have hs:=M5 hz (hq q hqq)
  refine ⟨_,?_,rs ++ [q],some (ratD q),by rw [List.map_append];rfl,rfl,?_⟩
  ·rw [P0]
   repeat (first | walk_at "z r" | simp only [ep,S8])
  ·rw [P0,List.length_append,List.length_singleton,Nat.add_mul,Nat.one_mul]
   exact hs.mono (by walk_at "o")
 ·rintro _ rfl ⟨rs,o,he,rfl,_⟩
  rw [a34 he]
  repeat (first | walk_at "z r")
def slackR (ts:List Tie) (ss:List Rat) (k:List Int):Rat:=sumR (k.map fun i=>ss.getD i.toNat 0) 0 - ((gainOf ts k:Int):Rat)
def ratH (ss:List Rat):D->D
 | .int i=>ratD (ss.getD i.toNat 0)
 | d=>d
theorem a4f (ss:List Rat)(k:List Int):((k.map D.int).filter fun _=>true).map (ratH ss)=(k.map fun i=>ss.getD i.toNat 0).map ratD:=by
 rw [n6,List.map_map,List.map_map];rfl
structure ShOk (n:Int) (ss:List Rat):Prop where
 len:ss.length=n.toNat
 sz:∀s∈ss,Sz 1500 s
theorem ShOk.get {n:Int}{ss:List Rat}(h:ShOk n ss){i:Int}(h0:0<=i)(h1:i < n):Sz 1500 (ss.getD i.toNat 0):=by
 rw [List.getD_eq_getElem?_getD,List.getElem?_eq_getElem (by rw [h.len];walk_at "o")]
 exact h.sz _ (List.getElem_mem _)
theorem a3R {n:Int}{ts:List Tie}{ss:List Rat}{k:List Int}(hw:WebOk n ts)(hs:ShOk n ss)(hk:k∈parK n ts):Sz 4000 (sumR (k.map fun i=>ss.getD i.toNat 0) 0)/\Sz 41 ((gainOf ts k:Int):Rat):=by
 obtain ⟨hp,h1,h2⟩:=t8 hw hk
 refine ⟨?_,a87 (by have:=Z1 hw.t k;walk_at "o") (by decide)⟩
 match k,hp,h1,h2 with
 | [a],hp,_,_=>
  have:=hp a (by simp)
  exact (M5 sz_0 (hs.get this.1 this.2)).mono (by decide)
 | [a,b],hp,_,_=>
  have p1:=hp a (by simp)
  have p2:=hp b (by simp)
  exact (M5 (M5 sz_0 (hs.get p1.1 p1.2)) (hs.get p2.1 p2.2)).mono (by decide)
abbrev a2w:Stmt:=top 29
theorem a4g:FnScope ["web","shares","party","gain"] ["web","shares","party"] (defScope a2w):=by walk_at "c"
def a2J (g:LO):Prop:=∀(n:Int) (ts:List Tie) (ss:List Rat) (k:List Int),WebOk n ts->ShOk n ss->k∈parK n ts->g [webD n ts,.tup (ss.map ratD),tupI k]=some (.v (ratD (slackR ts ss k)))
theorem a78 {X9:LO}{a2t:LO}{a2r:LO}(Y5:Fn P w K mg base "gain_of" k X9)(Z3:a1o X9)(a3b:Fn P w K mg base "minus" k a2t)(a2W:a5s a2t)(a2Q:Fn P w K mg base "total" k a2r)(a2E:a5m a2r)(F:Fun K "slack" "slack" a2w f fd)(B:Binds K fd ["web","shares","party"] [])(hm:mg "slack"=some (.ref f)):∃g,Fn P w K mg base "slack" (k + 1) g/\a2J g:=by
 have nd:=a4g.nd
 refine ⟨_,o0 F a4g B hm rfl rfl (fun cdv A outer s H E hr=>(b8 (j7 3 nd (c9 Y5 hr (a8 (a7 0) (a8 (a7 2) a9))))
  (c7 (g9 (c9 a3b hr (a8 (c9 a2Q hr (a8 (s0 (N:=["person","shares"]) (js:=[none,some 1]) (li:=none) rfl (t9 (by exact (.own (.cap rfl rfl rfl rfl .nil))) rfl (by exact ⟨rfl,trivial⟩) (by rfl)) (C0 2) (fun _ _ _ _=>(b9 0 (show ((["person","shares"]:List Str) ++ [accN]).Nodup by decide +kernel))) (fun _ _ _ _=>u3) (fun _ _ _ _=>(g5 hr (a7 1) (a7 0)))) a9)) (a8 (j8 (a8 (a7 3) (a8 b0 a9))) a9))))))),?_⟩
 intro n ts ss k hw hs hk
 obtain ⟨hp,h1,h2⟩:=t8 hw hk
 obtain ⟨z1,z2⟩:=a3R hw hs hk
 have eg:=Z3 n ts k hw hk
 have et:=a2E (k.map fun i=>ss.getD i.toNat 0) 1500 (fun q hq=>by obtain ⟨i,hi,rfl⟩:=List.mem_map.mp hq;exact hs.get (hp i hi).1 (hp i hi).2) (by
  rw [List.length_map]
  exact Nat.le_trans (Nat.mul_le_mul_right _ (show k.length + 1<=3 by walk_at "o")) (by decide))
 have em:=a2W _ _ _ _ z1 z2 (by decide)
 rw [a80] at em
 repeat (first | walk_at "z r" | simp only [eg])
 rw [m5 (ρ1:=[some (.v (webD n ts)),some (.v (.tup (ss.map ratD))),some (.v (tupI k)),some (.v (.int (gainOf ts k)))]) (xs:=k.map .int) (fun B=>∃o1:Option D,B=[o1.map .v,some (.v (.tup (ss.map ratD)))]) (fun _=>true) (ratH ss)]
 ·rw [a4f]
  repeat (first | walk_at "z r" | simp only [et,em,S8])
  rfl
 ·unfold tupI
  repeat (first | walk_at "z r")
 ·rintro _ ⟨_,rfl⟩;rfl
 ·exact ⟨none,rfl⟩
 ·rw [List.length_map];unfold lim;walk_at "o"
 ·rw [a4f];exact a2i _
 ·rintro x hx _ zs ⟨o1,rfl⟩
  obtain ⟨i,hi,rfl⟩:=E1 hx
  have ha:=b10 (ss:=ss) (i:=i) (hp i hi).1 (by have:=hs.len;have:=(hp i hi).2;walk_at "o")
  refine ⟨[some (.v (.int i)),some (.v (.tup (ss.map ratD)))],.v (ratD (ss.getD i.toNat 0)),⟨some _,rfl⟩,?_,rfl,fun _=>⟨?_,.inl rfl⟩⟩
  ·repeat (walk_at "z r")
  ·repeat (first | walk_at "z r" | simp only [ha])
def negP (ts:List Tie) (ss:List Rat) (k:List Int):Bool:=decide ((slackR ts ss k).num < 0)
def onT (p:List Int->Bool):D->Bool
 | .tup ds=>match intsOf ds with
  | some k=>p k
  | none=>false
 | _=>false
theorem a5x (p:List Int->Bool)(k:List Int):onT p (tupI k)=p k:=by unfold onT tupI;simp only [j6]
theorem a0L (p:List Int->Bool)(ks:List (List Int)):((ks.map tupI).filter (onT p)).map id=(ks.filter p).map tupI:=by
 rw [List.map_id,List.filter_map]
 congr 1
 congr 1
 funext k
 exact a5x p k
theorem G6 {ks:List (List Int)}{x:D}(h:x∈ks.map tupI):∃k∈ks,x=tupI k:=by obtain ⟨k,hk,rfl⟩:=List.mem_map.mp h;exact ⟨k,hk,rfl⟩
abbrev a2P:Stmt:=top 30
theorem a3K:FnScope ["web","shares"] ["web","shares"] (defScope a2P):=by walk_at "c"
def a6h (g:LO):Prop:=∀(n:Int) (ts:List Tie) (ss:List Rat),WebOk n ts->ShOk n ss->g [webD n ts,.tup (ss.map ratD)]=some (.o (.lst (((sortK (parK n ts)).filter (negP ts ss)).map tupI)))
theorem a8U {D0:LO}{a4D:LO}{P3:LO}(C9:Fn P w K mg base "parties" k D0)(C8:X4 D0)(a4M:Fn P w K mg base "less" k a4D)(a4y:a7B a4D)(Q4:Fn P w K mg base "slack" k P3)(P6:a2J P3)(F9:a0C mg K)(F:Fun K "loose" "loose" a2P f fd)(B:Binds K fd ["web","shares"] [])(hm:mg "loose"=some (.ref f)):∃g,Fn P w K mg base "loose" (k + 1) g/\a6h g:=by
 have nd:=a3K.nd
 refine ⟨_,o0 F a3K B hm rfl rfl (fun cdv A outer s H E hr=>(c7 (g9 (s0 (N:=["party","web","shares"]) (js:=[none,some 0,some 1]) (li:=none) rfl (t9 (by exact (.own (.cap rfl rfl rfl rfl (.cap rfl rfl rfl rfl .nil)))) rfl (by exact ⟨rfl,⟨rfl,trivial⟩⟩) (by rfl)) (E7 (A1 (c9 C9 hr (a8 (a7 0) a9)))) (fun _ _ _ _=>(b9 0 (show ((["party","web","shares"]:List Str) ++ [accN]).Nodup by decide +kernel))) (fun _ _ _ _=>(a0z rfl (a7x (c9 a4M hr (a8 (c9 Q4 hr (a8 (a7 1) (a8 (a7 2) (a8 (a7 0) a9)))) (a8 (a3M F9) a9)))))) (fun _ _ _ _=>(a7 0)))))),?_⟩
 intro n ts ss hw hs
 have ep:=C8 n ts hw
 have lt:=z4 (sortK (parK n ts))
 repeat (first | walk_at "z r")
 rw [m5 (ρ1:=[some (.v (webD n ts)),some (.v (.tup (ss.map ratD)))]) (xs:=(sortK (parK n ts)).map tupI) (fun B=>∃o1:Option D,B=[o1.map .v,some (.v (webD n ts)),some (.v (.tup (ss.map ratD)))]) (onT (negP ts ss)) id]
 ·rw [a0L]
  repeat (first | walk_at "z r")
 ·repeat (first | walk_at "z r" | simp only [ep,lt])
 ·rintro _ ⟨_,rfl⟩;rfl
 ·exact ⟨none,rfl⟩
 ·rw [List.length_map,(i0 _).length_eq];have:=(N9 hw).1;unfold lim;walk_at "o"
 ·rw [a0L];exact z4 _
 ·rintro x hx _ zs ⟨o1,rfl⟩
  obtain ⟨k,hk,rfl⟩:=G6 hx
  have hk':=(i0 _).mem_iff.mp hk
  have es:=P6 n ts ss k hw hs hk'
  obtain ⟨z1,z2⟩:=a3R hw hs hk'
  have el:=a4y _ _ _ _ (a45 z1 z2) sz_0 (by decide)
  rw [show sumR (k.map fun i=>ss.getD i.toNat 0) 0 - ((gainOf ts k:Int):Rat)=slackR ts ss k from rfl] at el
  have n0:D.tup [D.int 0,D.int 1]=ratD 0:=rfl
  have en:decide ((slackR ts ss k).num * ((0:Rat).den:Int) < (0:Rat).num * ((slackR ts ss k).den:Int))=negP ts ss k:=by
   unfold negP
   rw [show ((0:Rat).den:Int)=1 from rfl,show (0:Rat).num=0 from rfl,Int.mul_one,Int.zero_mul]
  refine ⟨[some (.v (tupI k)),some (.v (webD n ts)),some (.v (.tup (ss.map ratD)))],.v (tupI k),⟨some _,rfl⟩,?_,?_,fun _=>⟨?_,.inl rfl⟩⟩
  ·repeat (walk_at "z r")
  ·rw [a5x]
   repeat (first | walk_at "z r" | simp only [es,S8,n0,el,en])
  ·repeat (walk_at "z r")
def firmB (n:Int) (ts:List Tie) (ss:List Rat):Bool:=(((sortK (parK n ts)).filter (negP ts ss)).map tupI).isEmpty
theorem a6V {n:Int}{ts:List Tie}{ss:List Rat}:firmB n ts ss=true↔∀k∈parK n ts,0<=slackR ts ss k:=by
 unfold firmB
 rw [List.isEmpty_iff,List.map_eq_nil_iff,List.filter_eq_nil_iff]
 refine forall_congr' fun k=>?_
 rw [(i0 _).mem_iff]
 refine imp_congr_right fun _=>?_
 unfold negP
 rw [decide_eq_true_eq,Int.not_lt]
 exact Rat.num_nonneg
abbrev Y8:Stmt:=top 31
theorem a0Z:FnScope ["web","sharing"] ["web","sharing"] (defScope Y8):=by walk_at "c"
def a19 (g:LO):Prop:=∀(n:Int) (ts:List Tie) (ss:List Rat) (p:D),WebOk n ts->ShOk n ss->g [webD n ts,.tup [p,.tup (ss.map ratD)]]=some (.v (.bl (firmB n ts ss)))
theorem a4T {a2A:LO}(a20:Fn P w K mg base "loose" k a2A)(a2p:a6h a2A)(F:Fun K "is_firm" "is_firm" Y8 f fd)(B:Binds K fd ["web","sharing"] [])(hm:mg "is_firm"=some (.ref f)):∃g,Fn P w K mg base "is_firm" (k + 1) g/\a19 g:=by
 have nd:=a0Z.nd
 refine ⟨_,o0 F a0Z B hm rfl rfl (fun cdv A outer s H E hr=>(c7 (g9 (a3d (c9 a20 hr (a8 (a7 0) (a8 (g5 hr (a7 1) b0) a9))))))),?_⟩
 intro n ts ss p hw hs
 have eo:=a2p n ts ss hw hs
 have lt:=z4 ((sortK (parK n ts)).filter (negP ts ss))
 repeat (first | walk_at "z r" | simp only [eo,lt,Bool.not_not])
 rfl
theorem a00 {k:Nat}{gf gf2:FG}{fi2:FI}{fe:FX}(I:Ev->Prop)(ys:D->List D)(h:D->D)(hI:∀B,I B->B.length=k):∀(xs:List D),(∀x∈xs,∀B zs,I B->∃Bm B',I B'/\gf x (B ++ acc zs)=some (Bm ++ acc zs)/\fi2 (Bm ++ acc zs)=some (ys x,B' ++ acc zs))->
  (∀x∈xs,∀y∈ys x,∀B zs,I B->∃B' w,I B'/\gf2 y (B ++ acc zs)=some (B' ++ acc zs)/\fe (B' ++ acc zs)=some (w,B' ++ acc zs)/\(w= .v (h y)\/w= .o (h y)))->
  ∀(B:Ev) (zs:List D),zs.length + (xs.flatMap ys).length<=lim->I B->∃B',I B'/\loopC (turnC2 k gf fi2 gf2 fe) xs (B ++ acc zs)=some (B' ++ acc (zs ++ (xs.flatMap ys).map h))
 | [],_,_,B,zs,hl,i=>⟨B,i,by simp [loopC]⟩
 | x :: xs,s1,s2,B,zs,hl,i=>by
  obtain ⟨Bm,B1,i1,e1,e2⟩:=s1 x List.mem_cons_self B zs i
  rw [List.flatMap_cons,List.length_append] at hl
  obtain ⟨B2,i2,e3⟩:=P9 (gf:=gf2) (t:=fun ρ=>some (true,ρ)) (fe:=fe) I (fun _=>true) h hI (ys x) (fun y hy B zs i=>by
   obtain ⟨B',w,a,b,c,d⟩:=s2 x List.mem_cons_self y hy B zs i
   exact ⟨B',w,a,b,rfl,fun _=>⟨c,d⟩⟩) B1 zs (by walk_at "o") i1
  rw [n6] at e3
  obtain ⟨B3,i3,e4⟩:=a00 I ys h hI xs (fun y hy=>s1 y (List.mem_cons_of_mem _ hy)) (fun y hy=>s2 y (List.mem_cons_of_mem _ hy)) B2 (zs ++ (ys x).map h) (by rw [List.length_append,List.length_map];walk_at "o") i2
  refine ⟨B3,i3,?_⟩
  rw [loopC,turnC2,e1]
  simp only [Option.bind_some,e2,e3]
  rw [e4,List.flatMap_cons,List.map_append,List.append_assoc]
theorem a7c {fi:FI}{js:List (Option Nat)}{gf gf2:FG}{fi2:FI}{fe:FX}{ρ ρ1:Ev}{xs:List D}(I:Ev->Prop)(ys:D->List D)(h:D->D)(ei:fi ρ=some (xs,ρ1))(hI:∀B,I B->B.length=js.length)(h0:I (capE none js ρ1))(hl:(xs.flatMap ys).length<=lim)(hf:lfL ((xs.flatMap ys).map h)=true)
  (s1:∀x∈xs,∀B zs,I B->∃Bm B',I B'/\gf x (B ++ acc zs)=some (Bm ++ acc zs)/\fi2 (Bm ++ acc zs)=some (ys x,B' ++ acc zs))
  (s2:∀x∈xs,∀y∈ys x,∀B zs,I B->∃B' w,I B'/\gf2 y (B ++ acc zs)=some (B' ++ acc zs)/\fe (B' ++ acc zs)=some (w,B' ++ acc zs)/\(w= .v (h y)\/w= .o (h y))):
  fComp2 fi js gf fi2 gf2 fe ρ=some (.o (.lst ((xs.flatMap ys).map h)),ρ1):=by
 obtain ⟨B',i',e⟩:=a00 I ys h hI xs s1 s2 (capE none js ρ1) [] (by rw [List.length_nil];walk_at "o") h0
 unfold fComp2
 rw [ei]
 simp only [Option.bind_some]
 rw [show capE none js ρ1 ++ [some (.l (.lst []))]=capE none js ρ1 ++ acc [] from rfl,e]
 simp only [Option.bind_some,List.nil_append,a4P (hI B' i'),backC,hf,if_true]
abbrev J4:Stmt:=top 10
theorem Q9:FnScope ["web","thing"] ["web","thing"] (defScope J4):=by walk_at "c"
def V9 (g:LO):Prop:=∀(n:Int) (ts:List Tie) (ps:List (List Int)),WebOk n ts->(∀p∈ps,p∈parK n ts)->ps.length<=63->g [webD n ts,.tup (ps.map tupI)]=some (.v (.bl true))
theorem a1l {B5:LO}(A4:Fn P w K mg base "is_party" k B5)(A7:S4 B5)(l5:mg "isinstance"=none)(l0:mg "tuple"=none)(m_all:mg "all"=none)(F:Fun K "is_parties" "is_parties" J4 f fd)(B:Binds K fd ["web","thing"] [])(hm:mg "is_parties"=some (.ref f)):∃g,Fn P w K mg base "is_parties" (k + 1) g/\V9 g:=by
 have nd:=Q9.nd
 refine ⟨_,o0 F Q9 B hm rfl rfl (fun cdv A outer s H E hr=>(c7 (g9 (T0 (a2Z (T:="tuple") (a28 (by decide)) l5 l0 (a7 1)) (a0R (qx_b (a1F rfl) a1d m_all (a8 (s0 (N:=["party","web"]) (js:=[none,some 0]) (li:=none) rfl (t9 (by exact (.own (.cap rfl rfl rfl rfl .nil))) rfl (by exact ⟨rfl,trivial⟩) (by rfl)) (C0 1) (fun _ _ _ _=>(b9 0 (show ((["party","web"]:List Str) ++ [accN]).Nodup by decide +kernel))) (fun _ _ _ _=>u3) (fun _ _ _ _=>(c9 A4 hr (a8 (a7 1) (a8 (a7 0) a9))))) a9))))))),?_⟩
 intro n ts ps hw hp hl
 have it:=a3P (d:=.tup (ps.map tupI)) rfl
 repeat (first | walk_at "z r" | simp only [it,isT])
 rw [m5 (ρ1:=[some (.v (webD n ts)),some (.v (.tup (ps.map tupI)))]) (xs:=ps.map tupI) (fun B=>∃o1:Option D,B=[o1.map .v,some (.v (webD n ts))]) (fun _=>true) (fun _=>.bl true)]
 ·rw [n6]
  have gb:=a4G (r:=fun bs=>bs.all id) (M6 (fun _=>true) (ps.map tupI))
  rw [a0D,show ((ps.map tupI).all fun _=>true)=true by simp] at gb
  repeat (first | walk_at "z r" | simp only [gb])
 ·repeat (walk_at "z r")
 ·rintro _ ⟨_,rfl⟩;rfl
 ·exact ⟨none,rfl⟩
 ·rw [List.length_map];unfold lim;walk_at "o"
 ·exact a4U _ _
 ·rintro x hx _ zs ⟨o1,rfl⟩
  obtain ⟨p,hpp,rfl⟩:=G6 hx
  have e:=A7 n ts (tupI p) hw (PD.ints (by have:=t8 hw (hp p hpp);walk_at "o"))
  rw [Z8,decide_eq_true (hp p hpp)] at e
  refine ⟨[some (.v (tupI p)),some (.v (webD n ts))],.v (.bl true),⟨some _,rfl⟩,?_,rfl,fun _=>⟨?_,.inl rfl⟩⟩
  ·repeat (walk_at "z r")
  ·repeat (first | walk_at "z r" | simp only [e])
def itemsD:D->List D
 | .tup xs=>xs
 | _=>[]
theorem a1g:∀ps:List (List Int),((ps.map tupI).flatMap itemsD).map id=ps.flatten.map .int
 | []=>rfl
 | p :: ps=>by
  have:=a1g ps
  rw [List.map_cons,List.flatMap_cons,List.map_append,this,List.flatten_cons,List.map_append]
  rw [List.map_id];rfl
theorem a1U {ns:List Int}(h:ns.length < 64):gSort (.lst (ns.map .int))=some (.o (.lst ((sortI ns).map .int))):=by
 unfold gSort gSortI
 dsimp only
 rw [j6,Option.bind_some,if_pos h]
abbrev a4t:Stmt:=top 15
theorem a5W:FnScope ["some"] ["some"] (defScope a4t):=by walk_at "c"
def a7V (g:LO):Prop:=∀ps:List (List Int),ps.length<=63->ps.flatten.length<=63->g [.tup (ps.map tupI)]=some (.o (.lst ((sortI ps.flatten).map .int)))
theorem a90 (j0:mg "sorted"=none)(F:Fun K "held" "held" a4t f fd)(B:Binds K fd ["some"] [])(hm:mg "held"=some (.ref f)):∃g,Fn P w K mg base "held" (k + 1) g/\a7V g:=by
 have nd:=a5W.nd
 refine ⟨_,o0 F a5W B hm rfl rfl (fun cdv A outer s H E hr=>(c7 (g9 (z9 hr rfl j0 (a8 (a7K (N:=["party","person"]) (js:=[none,none]) rfl (t9 (by exact (.own (.own .nil))) rfl (by exact trivial) (by rfl)) (C0 0) (fun _ _ _ _=>(b9 0 (show ((["party","person"]:List Str) ++ [accN]).Nodup by decide +kernel))) (fun _ _ _ _=>(A1 (a7 0))) (fun _ _ _ _=>(b9 1 (show ((["party","person"]:List Str) ++ [accN]).Nodup by decide +kernel))) (fun _ _ _ _=>(a7 1))) a9))))),?_⟩
 intro ps hl h2
 have ef:=a1g ps
 have so:=a1U (ns:=ps.flatten) (by walk_at "o")
 repeat (walk_at "z r")
 rw [a7c (ρ1:=[some (.v (.tup (ps.map tupI)))]) (xs:=ps.map tupI) (fun B=>∃o1 o2:Option D,B=[o1.map .v,o2.map .v]) itemsD id]
 ·rw [ef]
  repeat (first | walk_at "z r" | simp only [so])
 ·repeat (walk_at "z r")
 ·rintro _ ⟨_,_,rfl⟩;rfl
 ·exact ⟨none,none,rfl⟩
 ·have:=congrArg List.length ef
  rw [List.length_map,List.length_map] at this
  rw [this];unfold lim;walk_at "o"
 ·rw [ef];exact u7 _
 ·rintro x hx _ zs ⟨o1,o2,rfl⟩
  obtain ⟨p,_,rfl⟩:=G6 hx
  refine ⟨[some (.v (tupI p)),o2.map .v],[some (.v (tupI p)),o2.map .v],⟨some _,o2,rfl⟩,?_,?_⟩
  ·repeat (walk_at "z r")
  ·rw [show tupI p= .tup (p.map .int) from rfl]
   repeat (first | walk_at "z r" | simp only [itemsD])
 ·rintro x hx y hy _ zs ⟨o1,o2,rfl⟩
  obtain ⟨p,_,rfl⟩:=G6 hx
  obtain ⟨i,_,rfl⟩:=E1 (show y∈p.map D.int from hy)
  refine ⟨[o1.map .v,some (.v (.int i))],.v (.int i),⟨o1,some _,rfl⟩,?_,?_,.inl rfl⟩
  ·repeat (walk_at "z r")
  ·repeat (walk_at "z r")
abbrev O7:Stmt:=top 33
theorem T6:FnScope ["script","k"] ["script","k"] (defScope O7):=by walk_at "c"
def a0i (g:LO):Prop:=∀(ns:List Int) (k:Nat),ns.length<=63->k<=63->∃m:Int,g [.lst (ns.map D.int),.int k]=some (.v (.int m))
theorem a2Y (m_len:mg "len"=none)(F:Fun K "_law_cell" "_law_cell" O7 f fd)(B:Binds K fd ["script","k"] [])(hm:mg "_law_cell"=some (.ref f)):∃g,Fn P w K mg base "_law_cell" (k + 1) g/\a0i g:=by
 have nd:=T6.nd
 refine ⟨_,o0 F T6 B hm rfl rfl (fun cdv A outer s H E hr=>(b8 (G0 (a2l hr (a7 1) (qx_b u5 S9 m_len (a8 (a7 0) a9))) (c7 (g9 (g5 hr (a7 0) (a7 1)))) w8)
  (c7 (g9 b0)))),?_⟩
 intro ns k hl hk
 by_cases h:k < ns.length
 ·have h':decide ((k:Int) < (ns.length:Int))=true:=decide_eq_true (by walk_at "o")
  have ha:atI (ns.map D.int) (k:Int)=some (.int ns[k]):=by
   unfold atI ixN
   rw [List.length_map]
   simp [h]
  refine ⟨ns[k],?_⟩
  repeat (first | walk_at "z r" | simp only [List.length_map,h',ha])
 ·have h':decide ((k:Int) < (ns.length:Int))=false:=decide_eq_false (by walk_at "o")
  refine ⟨0,?_⟩
  repeat (first | walk_at "z r" | simp only [List.length_map,h'])
abbrev N7:Stmt:=top 34
theorem V0:FnScope ["cell","salt","one","number","j"] ["cell","salt"] (defScope N7):=by walk_at "c"
def a0a (g:LO):Prop:=∀(c:Int),∃m:Int,g [.int c,.int 1]=some (.v (.int m))
theorem a3a (m6:mg "range"=none)(F:Fun K "_law_deal" "_law_deal" N7 f fd)(B:Binds K fd ["cell","salt"] [])(hm:mg "_law_deal"=some (.ref f)):∃g,Fn P w K mg base "_law_deal" (k + 1) g/\a0a g:=by
 have nd:=V0.nd
 refine ⟨_,o0 F V0 B hm rfl rfl (fun cdv A outer s H E hr=>(b8 (G0 (qt_ge (a7 0) (Z6 b0 b0)) (c7 (g9 (R7 (a7 0) (Z6 b0 b0)))) w8)
  (b8 (j7 2 nd (K1 (a7 0) b0))
  (b8 (j7 3 nd b0)
  (b8 (F4 PySem.PassesOwn.never rfl (a0W m6 (a8 b0 a9)) (b9 4 nd) (b8 (j7 2 nd (K1 (p0 (k6 (k6 (k6 (a7 2) (p0 (p0 b0 (a7 4)) (a7 4))) (p0 b0 (a7 1))) b0) b0) b0))
  (b8 (j7 2 nd (K1 (p0 (a7 2) (a7 2)) b0))
  (c7 (j7 3 nd (k6 (p0 (a7 3) b0) (W7 (K1 (p0 (a7 2) b0) b0) b0)))))))
  (c7 (g9 (a7 3)))))))),?_⟩
 intro c
 have pw:CPow 10 18:=by decide
 by_cases h:(10:Int) ^ (18:Int).toNat<=c
 ·have h':decide ((10:Int) ^ (18:Int).toNat<=c)=true:=decide_eq_true h
  refine ⟨c - 10 ^ (18:Int).toNat,?_⟩
  repeat (first | walk_at "z r" | simp only [pw,h'])
 ·have h':decide ((10:Int) ^ (18:Int).toNat<=c)=false:=decide_eq_false h
  have c0:(0:Int) < 2147483629:=by decide
  have c1:(0:Int) < 2147483647:=by decide
  have c2:(0:Int) < 2147483587:=by decide
  have c3:dOk 7:=m9 (by decide) (by decide)
  have d0:dOk 2147483629:=m9 (by decide) (by decide)
  have r1:(-(2 ^ 62:Int)<=30/\(30:Int) < 2 ^ 62):=by walk_at "o"
  repeat (first | walk_at "z r" | simp only [pw,h',c0,c1,c2,c3,d0,r1])
  generalize el:loopF _ _ _=r
  refine K4 el (fun i ρ=>∃(a b:Int) (o:Option D),ρ=[some (.v (.int c)),some (.v (.int 1)),some (.v (.int a)),some (.v (.int b)),o.map .v]) ⟨_,0,none,rfl⟩ ?_ ?_
  ·rintro i x _ hx ⟨a,b,o,rfl⟩
   obtain ⟨rfl,hi⟩:=a4v hx
   have p1:mOk 17 (0 + (i:Int)):=.inl (by decide)
   have p2:mOk (17 * (0 + (i:Int))) (0 + (i:Int)):=.inr (.inl (by walk_at "o"))
   have p3:∀a:Int,mOk a 48271:=fun a=>.inr (.inl (by decide))
   have p4:∀a:Int,mOk (a % 2147483647) (a % 2147483647):=fun a=>.inl (by
    have:=Int.emod_nonneg a (b:=2147483647) (by decide)
    have:=Int.emod_lt_of_pos a (b:=2147483647) (by decide)
    walk_at "o")
   have p5:∀a:Int,mOk a 998244353:=fun a=>.inr (.inl (by decide))
   have p6:∀a:Int,mOk a 69621:=fun a=>.inr (.inl (by decide))
   have p7:mOk 29 1:=.inl (by decide)
   refine ⟨?_,?_,?_⟩
   rotate_left
   ·repeat (first | walk_at "z r" | simp only [c0,c1,c2,c3,p1,p2,p3,p4,p5,p6,p7])
    rfl
   ·exact ⟨_,_,some (.int (0 + (i:Int))),rfl⟩
  ·rintro _ rfl ⟨a,b,o,rfl⟩
   refine ⟨b,?_⟩
   repeat (first | walk_at "z r")
def PsOk (n:Int) (ps:List (Int×Int)):Prop:=∀p∈ps,0<=p.1/\p.1 < n/\0<=p.2/\p.2 < n
def TkOk (n:Int) (ts:List Tie):Prop:=(∀t∈ts,0<=t.1/\t.1 < t.2.1/\t.2.1 < n/\1<=t.2.2/\t.2.2<=10 ^ 12)/\(ts.map fun t=>(t.1,t.2.1)).Nodup
theorem PsOk.add {n:Int}{ps:List (Int×Int)}{a b:Int}(h:PsOk n ps)(ha:0<=a/\a < n/\0<=b/\b < n):PsOk n (ps ++ [(a,b)]):=fun p hp=>by
 rcases List.mem_append.mp hp with hp | hp
 ·exact h p hp
 ·rw [List.mem_singleton.mp hp];exact ha
theorem a3x {α β γ δ:Type}(f:β->γ->δ)(g:α->β)(h:α->γ):∀l:List α,List.zipWith f (l.map g) (l.map h)=l.map fun x=>f (g x) (h x)
 | []=>rfl
 | x :: l=>by rw [List.map_cons,List.map_cons,List.zipWith_cons_cons,a3x f g h l,List.map_cons]
theorem b2F {n:Int}{ts:List Tie}{a b g:Int}(h:TkOk n ts)(ha:0<=a/\a < b/\b < n/\1<=g/\g<=10 ^ 12):∃ts',TkOk n ts'/\ts'.length<=ts.length + 1/\putKs (ts.map tkK) [Sum.inl a,Sum.inl b]=ts'.map tkK/\putX (ts.map tkK) (ts.map fun t=>D.int t.2.2) [Sum.inl a,Sum.inl b] (.int g)=ts'.map fun t=>D.int t.2.2:=by
 by_cases hm:[Sum.inl a,Sum.inl b]∈ts.map tkK
 ·refine ⟨ts.map fun t=>if tkK t=[Sum.inl a,Sum.inl b] then (t.1,t.2.1,g) else t,⟨fun t ht=>?_,?_⟩,by rw [List.length_map];walk_at "o",?_,?_⟩
  ·obtain ⟨t,ht',rfl⟩:=List.mem_map.mp ht
   have:=h.1 t ht'
   split
   ·exact ⟨this.1,this.2.1,this.2.2.1,ha.2.2.2⟩
   ·exact this
  ·rw [List.map_map]
   rw [show ((fun t:Tie=>(t.1,t.2.1)) ∘ fun t=>if tkK t=[Sum.inl a,Sum.inl b] then (t.1,t.2.1,g) else t)=fun t=>(t.1,t.2.1) from funext fun t=>by dsimp only [Function.comp];split <;> rfl]
   exact h.2
  ·unfold putKs
   rw [if_pos hm,List.map_map]
   refine List.map_congr_left fun t _=>?_
   dsimp only [Function.comp]
   split <;> rfl
  ·unfold putX
   rw [if_pos hm,a3x,List.map_map]
   refine List.map_congr_left fun t _=>?_
   dsimp only [Function.comp]
   split <;> rfl
 ·obtain ⟨q1,q2⟩:=a5e (kl:=ts.map tkK) (xs:=ts.map fun t=>D.int t.2.2) (d:=.int g) hm
  refine ⟨ts ++ [(a,b,g)],⟨fun t ht=>?_,?_⟩,by rw [List.length_append,List.length_singleton];walk_at "o",by rw [q1,List.map_append];rfl,by rw [q2,List.map_append];rfl⟩
  ·rcases List.mem_append.mp ht with ht | ht
   ·exact h.1 t ht
   ·rw [List.mem_singleton.mp ht];exact ha
  ·rw [List.map_append,List.nodup_append]
   refine ⟨h.2,by simp,fun x hx y hy e=>?_⟩
   rw [List.map_cons,List.map_nil,List.mem_singleton] at hy
   subst hy
   obtain ⟨t,ht,rfl⟩:=List.mem_map.mp hx
   have e1:t.1=a:=congrArg Prod.fst e
   have e2:t.2.1=b:=congrArg Prod.snd e
   refine hm (List.mem_map.mpr ⟨t,ht,?_⟩)
   unfold tkK
   rw [e1,e2]
def gT (ts:List Tie):D:=.dT (ts.map tkK) (ts.map fun t=>D.int t.2.2)
theorem b2j (ts:List Tie):ts.map tkK=(ts.map key2).map fun k=>k.map Sum.inl:=by rw [List.map_map];rfl
theorem a9Q {ts:List Tie}(hl:ts.length < 64):gSort (gT ts)=some (.o (.lst ((sortK (ts.map key2)).map tupI))):=by
 show gSortT (gT ts)=_
 have e:keysOf (gT ts)=some (ts.map key2):=by
  show inlKs (ts.map tkK)=_
  rw [b2j,a1r]
 unfold gSortT
 rw [e]
 exact if_pos ⟨by rw [List.length_map];exact hl,fun k hk=>by obtain ⟨t,_,rfl⟩:=List.mem_map.mp hk;exact nofun⟩
def tieH (ts:List Tie):D->D
 | .tup ds=>match intsOf ds with
  | some k=>tieD (tieOf ts k)
  | none=>.non
 | _=>.non
theorem a3E (ts:List Tie)(k:List Int):tieH ts (tupI k)=tieD (tieOf ts k):=by unfold tieH tupI;simp only [j6]
theorem a39 (ts:List Tie):(((sortK (ts.map key2)).map tupI).filter fun _=>true).map (tieH ts)=(resort ts).map tieD:=by
 rw [n6,List.map_map]
 unfold resort
 rw [List.map_map]
 apply List.map_congr_left
 intro k _
 exact a3E ts k
abbrev R5:Stmt:=top 35
theorem a0f:FnScope ["number","most","people","way","kind","base","count","pairs","k","one","other","gains_v","more","gain"," h0"," h1"," h2"," h3"," h4"," h5"] ["number","most"] (defScope R5):=by walk_at "c"
def a0V (g:LO):Prop:=∀(number:Int),∃(n m:Int) (ts:List Tie),WebOk n ts/\g [.int number,.int 8]=some (.v (.tup [webD n ts,.int m]))
theorem a3i (j1:mg "divmod"=none)(m6:mg "range"=none)(l0:mg "tuple"=none)(m_min:mg "min"=none)(m_max:mg "max"=none)(j0:mg "sorted"=none)(F:Fun K "_law_web" "_law_web" R5 f fd)(B:Binds K fd ["number","most"] [])(hm:mg "_law_web"=some (.ref f)):∃g,Fn P w K mg base "_law_web" (k + 1) g/\a0V g:=by
 have nd:=a0f.nd
 refine ⟨_,o0 F a0f B hm rfl rfl (fun cdv A outer s H E hr=>(b8 (o9 (l6 j1 (a8 (a7 0) (a8 (a7 1) a9))) (k7 rfl (c6 (b9 0 nd) (c6 (b9 2 nd) j5))))
  (b8 (j7 2 nd (k6 (a7 2) b0))
  (b8 (o9 (l6 j1 (a8 (a7 0) (a8 b0 a9))) (k7 rfl (c6 (b9 0 nd) (c6 (b9 3 nd) j5))))
  (b8 (o9 (l6 j1 (a8 (a7 0) (a8 b0 a9))) (k7 rfl (c6 (b9 0 nd) (c6 (b9 4 nd) j5))))
  (b8 (o9 (l6 j1 (a8 (a7 0) (a8 (Z6 b0 b0) a9))) (k7 rfl (c6 (b9 0 nd) (c6 (b9 5 nd) j5))))
  (b8 (o9 (l6 j1 (a8 (a7 0) (a8 (g5 hr (z7 (a8 (k6 (p0 b0 (a7 2)) b0) (a8 b0 (a8 b0 (a8 (p0 b0 (a7 2)) (a8 b0 (a8 b0 a9))))))) (a7 3)) a9))) (k7 rfl (c6 (b9 0 nd) (c6 (b9 6 nd) j5))))
  (b8 (j7 7 nd (a98 3 (Q1 (Y0 (k:=14) (by rfl)) (z7 a9) (Q1 (Y0 (k:=15) (by rfl)) (s0 (N:=["k","people"]) (js:=[none,some 2]) (li:=none) rfl (t9 (by exact (.own (.cap rfl rfl rfl rfl .nil))) rfl (by exact ⟨rfl,trivial⟩) (by rfl)) (E7 (a0W m6 (a8 (a7 2) a9))) (fun _ _ _ _=>(b9 0 (show ((["k","people"]:List Str) ++ [accN]).Nodup by decide +kernel))) (fun _ _ _ _=>u3) (fun _ _ _ _=>(j8 (a8 (a7 0) (a8 (K1 (k6 (a7 0) b0) (a7 1)) a9))))) (Q1 (Y0 (k:=16) (by rfl)) (s0 (N:=["k"]) (js:=[none]) (li:=none) rfl (t9 (by exact (.own .nil)) rfl (by exact trivial) (by rfl)) (E7 (a0W m6 (a8 (R7 (a7 2) b0) a9))) (fun _ _ _ _=>(b9 0 (show ((["k"]:List Str) ++ [accN]).Nodup by decide +kernel))) (fun _ _ _ _=>u3) (fun _ _ _ _=>(j8 (a8 (a7 0) (a8 (k6 (a7 0) b0) a9))))) (Q1 (Y0 (k:=17) (by rfl)) (z7 a9) (Q1 (Y0 (k:=18) (by rfl)) (s0 (N:=["k"]) (js:=[none]) (li:=none) rfl (t9 (by exact (.own .nil)) rfl (by exact trivial) (by rfl)) (E7 (qi_r2 m6 (a8 b0 (a8 (a7 2) a9)))) (fun _ _ _ _=>(b9 0 (show ((["k"]:List Str) ++ [accN]).Nodup by decide +kernel))) (fun _ _ _ _=>u3) (fun _ _ _ _=>(j8 (a8 b0 (a8 (a7 0) a9))))) (Q1 (Y0 (k:=19) (by rfl)) (s0 (N:=["k"]) (js:=[none]) (li:=none) rfl (t9 (by exact (.own .nil)) rfl (by exact trivial) (by rfl)) (E7 (a0W m6 (a8 (R7 (a7 2) b0) a9))) (fun _ _ _ _=>(b9 0 (show ((["k"]:List Str) ++ [accN]).Nodup by decide +kernel))) (fun _ _ _ _=>u3) (fun _ _ _ _=>(j8 (a8 (W7 (a7 0) b0) (a8 (k6 (a7 0) b0) a9))))) b2y))))))))
  (b8 (G0 (a3m (a4S (a1E hr (a7 3) b0) (a21 (a7p (a7 2) b0)))) (c7 (C6 (G1 (a7 7) (a8 (j8 (a8 b0 (a8 b0 a9))) a9)))) w8)
  (b8 (F4 PySem.PassesOwn.never rfl (a0W m6 (a8 (a7 6) a9)) (b9 8 nd) (b8 (o9 (l6 j1 (a8 (a7 0) (a8 (a7 2) a9))) (k7 rfl (c6 (b9 0 nd) (c6 (b9 9 nd) j5))))
  (b8 (o9 (l6 j1 (a8 (a7 0) (a8 (a7 2) a9))) (k7 rfl (c6 (b9 0 nd) (c6 (b9 10 nd) j5))))
  (c7 (G0 (a3m (b1j (a3h hr (a7 3) b0) (a7j (a1E hr (K1 (k6 (a7 9) (a7 10)) b0) b0)))) (c7 (C6 (G1 (a7 7) (a8 (j8 (a8 (a7 9) (a8 (a7 10) a9))) a9)))) w8)))))
  (b8 (j7 11 nd a8R)
  (b8 (F4 PySem.PassesOwn.never rfl (A1 (a7 7)) (k7 rfl (c6 (b9 9 nd) (c6 (b9 10 nd) j5))) (c7 (G0 (a3h hr (a7 9) (a7 10)) (b8 (o9 (l6 j1 (a8 (a7 0) (a8 (g5 hr (z7 (a8 b0 (a8 b0 (a8 b0 (a8 (Z6 b0 b0) (a8 b0 a9)))))) (a7 4)) a9))) (k7 rfl (c6 (b9 0 nd) (c6 (b9 12 nd) j5))))
  (b8 (j7 13 nd (g5 hr (z7 (a8 (k6 b0 (a7 12)) (a8 (k6 b0 (K1 (a7 5) b0)) (a8 (qx_b (P1 rfl) a2V m_min (a8 (Z6 b0 b0) (a8 (k6 (k6 b0 (a7 5)) (a7 12)) a9))) (a8 (k6 b0 (a7 12)) (a8 (R7 (Z6 b0 b0) (a7 12)) a9)))))) (a7 4)))
  (c7 (a7C hr (a7 11) (a8 (qx_b (P1 rfl) a2V m_min (a8 (a7 9) (a8 (a7 10) a9))) (a8 (qx_b (X0 rfl) a4F m_max (a8 (a7 9) (a8 (a7 10) a9))) a9)) (a7 13))))) w8)))
  (c7 (g9 (j8 (a8 (j8 (a8 (a7 2) (a8 (qx_t w6 K9 l0 (a8 (s0 (N:=["a","b","gains_v"]) (js:=[none,none,some 11]) (li:=none) rfl (t9 (by exact (.own (.own (.cap rfl rfl rfl rfl .nil)))) rfl (by exact ⟨rfl,trivial⟩) (by rfl)) (E7 (A1 (z9 hr rfl j0 (a8 (a7 11) a9)))) (fun _ _ _ _=>(k7 rfl (c6 (b9 0 (show ((["a","b","gains_v"]:List Str) ++ [accN]).Nodup by decide +kernel)) (c6 (b9 1 (show ((["a","b","gains_v"]:List Str) ++ [accN]).Nodup by decide +kernel)) j5)))) (fun _ _ _ _=>u3) (fun _ _ _ _=>(j8 (a8 (a7 0) (a8 (a7 1) (a8 (g5 hr (a7 2) (j8 (a8 (a7 0) (a8 (a7 1) a9)))) a9)))))) a9)) a9))) (a8 (a7 0) a9))))))))))))))))),?_⟩
 intro number
 have d8:dOk 8:=m9 (by decide) (by decide)
 have d6:dOk 6:=m9 (by decide) (by decide)
 have d5:dOk 5:=m9 (by decide) (by decide)
 have pw:CPow 10 12:=by decide
 have dp:dOk ((10:Int) ^ (12:Int).toNat):=m9 (by decide) (by decide)
 obtain ⟨n,en,hn⟩:∃n:Int,number % 8 + 1=n/\1<=n/\n<=8:=⟨_,rfl,by walk_at "o",by walk_at "o"⟩
 obtain ⟨y,ey,hy⟩:∃y:Int,number / 8 % 6=y/\0<=y/\y < 6:=⟨_,rfl,by walk_at "o",by walk_at "o"⟩
 obtain ⟨q,eq,hq⟩:∃q:Int,number / 8 / 6 % 5=q/\0<=q/\q < 5:=⟨_,rfl,by walk_at "o",by walk_at "o"⟩
 obtain ⟨z,ez,hz⟩:∃z:Int,number / 8 / 6 / 5 % (10:Int) ^ (12:Int).toNat=z/\0<=z/\z < 10 ^ 12:=⟨_,rfl,Int.emod_nonneg _ (by decide),Int.emod_lt_of_pos _ (by decide)⟩
 obtain ⟨c,ec,hc⟩:∃c:Int,atI [D.int (2 * n + 2),.int 3,.int 3,.int (2 * n),.int 3,.int 3] y=some (.int c)/\1<=c/\c<=18:=by
  have:y=0\/y=1\/y=2\/y=3\/y=4\/y=5:=by walk_at "o"
  rcases this with rfl | rfl | rfl | rfl | rfl | rfl
  ·exact ⟨_,a_0,by walk_at "o",by walk_at "o"⟩
  ·exact ⟨_,a_1,by walk_at "o",by walk_at "o"⟩
  ·exact ⟨_,a_2,by walk_at "o",by walk_at "o"⟩
  ·exact ⟨_,a_3,by walk_at "o",by walk_at "o"⟩
  ·exact ⟨_,a_4,by walk_at "o",by walk_at "o"⟩
  ·exact ⟨_,a_5,by walk_at "o",by walk_at "o"⟩
 have dc:dOk c:=m9 (by walk_at "o") (by walk_at "o")
 have m1:mOk 2 n:=.inl (by decide)
 repeat (first | walk_at "z r" | simp only [r_dm d8,r_dm d6,r_dm d5,r_dm dp,r_dm dc,pw,en,ey,eq,ez,ec,m1,Int.reduceMul])
 obtain ⟨ps,hps,hpl,ed⟩:∃ps:List (Int×Int),PsOk n ps/\ps.length<=8/\atI [D.lst [],.lst ((rngP (fun i=>i) (fun i=>(i + 1) % n) 0 n.toNat).map pD),.lst ((rngP (fun i=>i) (fun i=>i + 1) 0 (n - 1).toNat).map pD),.lst [],.lst ((rngP (fun _=>0) (fun i=>i) 1 (n - 1).toNat).map pD),.lst ((rngP (fun i=>i / 2) (fun i=>i + 1) 0 (n - 1).toNat).map pD)] y=some (.lst (ps.map pD)):=by
  have:y=0\/y=1\/y=2\/y=3\/y=4\/y=5:=by walk_at "o"
  rcases this with rfl | rfl | rfl | rfl | rfl | rfl
  ·exact ⟨[],(fun _ h=>by cases h),Nat.zero_le _,a_0⟩
  ·refine ⟨_,fun p hp=>?_,?_,a_1⟩
   ·obtain ⟨i,h1,h2,rfl⟩:=U6 hp
    have:=Int.emod_nonneg (i + 1) (b:=n) (by walk_at "o")
    have:=Int.emod_lt_of_pos (i + 1) (b:=n) (by walk_at "o")
    exact ⟨by walk_at "o",by show i < n;walk_at "o",by walk_at "o",by walk_at "o"⟩
   ·rw [U1];walk_at "o"
  ·refine ⟨_,fun p hp=>?_,?_,a_2⟩
   ·obtain ⟨i,h1,h2,rfl⟩:=U6 hp
    exact ⟨by walk_at "o",by show i < n;walk_at "o",by show 0<=i + 1;walk_at "o",by show i + 1 < n;walk_at "o"⟩
   ·rw [U1];walk_at "o"
  ·exact ⟨[],(fun _ h=>by cases h),Nat.zero_le _,a_3⟩
  ·refine ⟨_,fun p hp=>?_,?_,a_4⟩
   ·obtain ⟨i,h1,h2,rfl⟩:=U6 hp
    exact ⟨by show (0:Int)<=0;walk_at "o",by show 0 < n;walk_at "o",by show 0<=i;walk_at "o",by show i < n;walk_at "o"⟩
   ·rw [U1];walk_at "o"
  ·refine ⟨_,fun p hp=>?_,?_,a_5⟩
   ·obtain ⟨i,h1,h2,rfl⟩:=U6 hp
    exact ⟨by show 0<=i / 2;walk_at "o",by show i / 2 < n;walk_at "o",by show 0<=i + 1;walk_at "o",by show i + 1 < n;walk_at "o"⟩
   ·rw [U1];walk_at "o"
 obtain ⟨e,ee,he⟩:∃e:Int,number / 8 / 6 / 5 / 10 ^ Int.toNat 12 % c=e/\0<=e/\e < 18:=⟨_,rfl,Int.emod_nonneg _ (by walk_at "o"),Int.lt_of_lt_of_le (Int.emod_lt_of_pos _ (by walk_at "o")) hc.2⟩
 rw [ee]
 generalize number / 8 / 6 / 5 / 10 ^ Int.toNat 12 / c=num
 rw [b0k (ds:=[D.lst [],.lst ((rngP (fun i=>i) (fun i=>(i + 1) % n) 0 n.toNat).map pD),.lst ((rngP (fun i=>i) (fun i=>i + 1) 0 (n - 1).toNat).map pD),.lst [],.lst ((rngP (fun _=>0) (fun i=>i) 1 (n - 1).toNat).map pD),.lst ((rngP (fun i=>i / 2) (fun i=>i + 1) 0 (n - 1).toNat).map pD)])
  (ρ':=[some (.v (.int num)),some (.v (.int 8)),some (.v (.int n)),some (.v (.int y)),some (.v (.int q)),some (.v (.int z)),some (.v (.int e)),none,none,none,none,none,none,none,some (.o (.lst [])),some (.o (.lst ((rngP (fun i=>i) (fun i=>(i + 1) % n) 0 n.toNat).map pD))),some (.o (.lst ((rngP (fun i=>i) (fun i=>i + 1) 0 (n - 1).toNat).map pD))),some (.o (.lst [])),some (.o (.lst ((rngP (fun _=>0) (fun i=>i) 1 (n - 1).toNat).map pD))),some (.o (.lst ((rngP (fun i=>i / 2) (fun i=>i + 1) 0 (n - 1).toNat).map pD)))]) ?_ rfl ⟨show (6:Nat)<=lim by decide,by decide,rfl⟩ ed]
 ·have dn:dOk n:=m9 (by walk_at "o") (by walk_at "o")
  have re:(-(2 ^ 62:Int)<=e/\e < 2 ^ 62):=by walk_at "o"
  have q2:(0:Int) < 2:=by decide
  repeat (first | walk_at "z i" | simp only [offN])
  generalize ei:fIfS _ _ _ _=r1
  obtain ⟨ps1,hp1,hl1,rfl⟩:∃ps1:List (Int×Int),PsOk n ps1/\ps1.length<=9/\r1=some (.nx [some (.v (.int num)),some (.v (.int 8)),some (.v (.int n)),some (.v (.int y)),some (.v (.int q)),some (.v (.int z)),some (.v (.int e)),some (.o (.lst (ps1.map pD))),none,none,none,none,none,none,none,none,none,none,none,none]):=by
   rw [<-ei]
   have hlt:ps.length < 1000000:=by walk_at "o"
   by_cases h5:y=5/\2 < n
   ·obtain ⟨rfl,h2⟩:=h5
    have h2':decide (2 < n)=true:=decide_eq_true h2
    refine ⟨ps ++ [(1,2)],fun p hp=>?_,by rw [List.length_append,List.length_singleton];walk_at "o",?_⟩
    ·rcases List.mem_append.mp hp with hp | hp
     ·exact hps p hp
     ·rw [List.mem_singleton.mp hp];exact ⟨by decide,by show (1:Int) < n;walk_at "o",by decide,by show (2:Int) < n;walk_at "o"⟩
    ·repeat (first | walk_at "z r" | simp only [h2',hlt,List.length_map,List.map_append,pD])
   ·refine ⟨ps,hps,by walk_at "o",?_⟩
    by_cases hy5:y=5
    ·have h2':decide (2 < n)=false:=decide_eq_false fun h=>h5 ⟨hy5,h⟩
     subst hy5
     repeat (first | walk_at "z r" | simp only [h2'])
    ·have h5':(y == 5)=false:=by simpa using hy5
     repeat (first | walk_at "z r" | simp only [h5'])
  repeat (first | walk_at "z i" | simp only [re])
  generalize el:loopF _ _ _=r
  refine K4 el (fun i ρ=>∃(num:Int) (ps:List (Int×Int)) (o1 o2 o3:Option D),ρ=[some (.v (.int num)),some (.v (.int 8)),some (.v (.int n)),some (.v (.int y)),some (.v (.int q)),some (.v (.int z)),some (.v (.int e)),some (.o (.lst (ps.map pD))),o1.map .v,o2.map .v,o3.map .v,none,none,none,none,none,none,none,none,none]/\PsOk n ps/\ps.length<=9 + i) ⟨num,ps1,none,none,none,rfl,hp1,by walk_at "o"⟩ ?_ ?_
  ·rintro i x _ hx ⟨num,ps,o1,o2,o3,rfl,hps,hpl⟩
   obtain ⟨rfl,hi⟩:=a4v hx
   have hlt:ps.length < 1000000:=by walk_at "o"
   have b1:=Int.emod_nonneg num (b:=n) (by walk_at "o")
   have b2:=Int.emod_lt_of_pos num (b:=n) (by walk_at "o")
   have b3:=Int.emod_nonneg (num / n) (b:=n) (by walk_at "o")
   have b4:=Int.emod_lt_of_pos (num / n) (b:=n) (by walk_at "o")
   generalize ea:num % n=a at *
   generalize eb:num / n % n=b at *
   repeat (first | walk_at "z i" | simp only [r_dm dn,ea,eb])
   cases h3:(y == 3) with
   | false=>
    refine ⟨_,?_,num / n / n,ps ++ [(a,b)],some (.int (0 + (i:Int))),some (.int a),some (.int b),rfl,hps.add ⟨b1,b2,b3,b4⟩,by rw [List.length_append,List.length_singleton];walk_at "o"⟩
    repeat (first | walk_at "z r" | simp only [h3,hlt,List.length_map,List.map_append,pD])
   | true=>
    cases h4:((a + b) % 2 == 1) with
    | true=>
     refine ⟨_,?_,num / n / n,ps ++ [(a,b)],some (.int (0 + (i:Int))),some (.int a),some (.int b),rfl,hps.add ⟨b1,b2,b3,b4⟩,by rw [List.length_append,List.length_singleton];walk_at "o"⟩
     repeat (first | walk_at "z r" | simp only [h3,h4,q2,hlt,List.length_map,List.map_append,pD])
    | false=>
     refine ⟨_,?_,num / n / n,ps,some (.int (0 + (i:Int))),some (.int a),some (.int b),rfl,hps,by walk_at "o"⟩
     repeat (first | walk_at "z r" | simp only [h3,h4,q2])
  ·rintro _ rfl ⟨num,ps,o1,o2,o3,rfl,hps,hpl⟩
   rw [P2] at hpl
   repeat (first | walk_at "z i")
   generalize el2:loopF _ _ _=r2
   refine K4 el2 (fun i ρ=>∃(num:Int) (ts:List Tie) (o1 o2 o3 o4 o5:Option D),ρ=[some (.v (.int num)),some (.v (.int 8)),some (.v (.int n)),some (.v (.int y)),some (.v (.int q)),some (.v (.int z)),some (.v (.int e)),some (.v (.lst (ps.map pD))),o1.map .v,o2.map .v,o3.map .v,some (.o (.dT (ts.map tkK) (ts.map fun t=>D.int t.2.2))),o4.map .v,o5.map .v,none,none,none,none,none,none]/\TkOk n ts/\ts.length<=i) ⟨num,[],o1,o2,o3,none,none,rfl,⟨(fun _ h=>by cases h),List.nodup_nil⟩,Nat.le_refl _⟩ ?_ ?_
   ·rintro i x _ hx ⟨num,ts,o1,o2,o3,o4,o5,rfl,hts,htl⟩
    rw [List.getElem?_map] at hx
    cases hp:ps[i]? with
    | none=>rw [hp] at hx;cases hx
    | some p=>
     rw [hp] at hx;cases hx
     obtain ⟨a,b⟩:=p
     have hab:=hps _ (List.mem_of_getElem? hp)
     have hil:=(List.getElem?_eq_some_iff.mp hp).1
     rw [show pD (a,b)= .tup [.int a,.int b] from rfl]
     cases hne:(a == b) with
     | true=>
      refine ⟨_,?_,num,ts,o1,some (.int a),some (.int b),o4,o5,rfl,hts,by walk_at "o"⟩
      repeat (first | walk_at "z r" | simp only [hne])
     | false=>
      have hab2:a≠b:=by simpa using hne
      obtain ⟨md,em,hmd⟩:∃md:Int,atI [D.int 4,.int 1,.int 3,.int ((10:Int) ^ (12:Int).toNat),.int 2] q=some (.int md)/\dOk md/\∀m:Int,∃g:Int,atI [D.int (1 + m % md),.int (1 + z % 7),.int (if 1 + z + m % md < (10:Int) ^ (12:Int).toNat then 1 + z + m % md else (10:Int) ^ (12:Int).toNat),.int (1 + m % md),.int ((10:Int) ^ (12:Int).toNat - m % md)] q=some (.int g)/\1<=g/\g<=10 ^ 12:=by
       have p12:(10:Int) ^ (12:Int).toNat=10 ^ 12:=rfl
       have hq5:q=0\/q=1\/q=2\/q=3\/q=4:=by walk_at "o"
       rcases hq5 with rfl | rfl | rfl | rfl | rfl
       ·exact ⟨_,a_0,m9 (by decide) (by decide),fun m=>⟨_,a_0,by walk_at "o",by walk_at "o"⟩⟩
       ·exact ⟨_,a_1,m9 (by decide) (by decide),fun m=>⟨_,a_1,by walk_at "o",by walk_at "o"⟩⟩
       ·exact ⟨_,a_2,m9 (by decide) (by decide),fun m=>⟨_,a_2,by split <;> walk_at "o",by split <;> walk_at "o"⟩⟩
       ·exact ⟨_,a_3,dp,fun m=>⟨_,a_3,by walk_at "o",by walk_at "o"⟩⟩
       ·exact ⟨_,a_4,m9 (by decide) (by decide),fun m=>⟨_,a_4,by walk_at "o",by walk_at "o"⟩⟩
      obtain ⟨g,eg,hg⟩:=hmd.2 num
      have p7:(0:Int) < 7:=by decide
      obtain ⟨ts',ht',hl',ek,ex⟩:=b2F (a:=if b < a then b else a) (b:=if b > a then b else a) hts ⟨by split <;> walk_at "o",by split <;> split <;> walk_at "o",by split <;> walk_at "o",hg⟩
      have klt:(ts.map tkK).length < 1000000:=by rw [List.length_map];walk_at "o"
      refine ⟨_,?_,num / md,ts',o1,some (.int a),some (.int b),some (.int (num % md)),some (.int g),rfl,ht',by walk_at "o"⟩
      repeat (first | walk_at "z r" | simp only [hne,em,r_dm hmd.1,pw,p7,eg,klt,ek,ex])
   ·rintro _ rfl ⟨num,ts,o1,o2,o3,o4,o5,rfl,hts,htl⟩
    rw [List.length_map] at htl
    have sg:=a9Q (ts:=ts) (by walk_at "o")
    have ltk:=z4 (sortK (ts.map key2))
    have hw:WebOk n ts:=⟨hn,hts.1,hts.2,by walk_at "o"⟩
    refine ⟨n,num,resort ts,hw.perm (a3r hw.nk),?_⟩
    rw [show D.dT (ts.map tkK) (ts.map fun t=>D.int t.2.2)=gT ts from rfl]
    repeat (first | walk_at "z i")
    rw [m5 (ρ1:=[some (.v (.int num)),some (.v (.int 8)),some (.v (.int n)),some (.v (.int y)),some (.v (.int q)),some (.v (.int z)),some (.v (.int e)),some (.v (.lst (ps.map pD))),o1.map .v,o2.map .v,o3.map .v,some (.o (gT ts)),o4.map .v,o5.map .v,none,none,none,none,none,none]) (xs:=(sortK (ts.map key2)).map tupI) (fun B=>∃o1 o2:Option D,B=[o1.map .v,o2.map .v,some (.v (gT ts))]) (fun _=>true) (tieH ts)]
    ·rw [a39]
     repeat (first | walk_at "z i")
     rfl
    ·repeat (first | walk_at "z r" | simp only [sg,ltk])
    ·rintro _ ⟨_,_,rfl⟩;rfl
    ·exact ⟨none,none,rfl⟩
    ·rw [List.length_map,(i0 _).length_eq,List.length_map];unfold lim;walk_at "o"
    ·rw [a39];exact a5i _
    ·rintro x hx _ zs ⟨o1,o2,rfl⟩
     obtain ⟨k,hk,rfl⟩:=G6 hx
     obtain ⟨t,ht,rfl⟩:=List.mem_map.mp ((i0 _).mem_iff.mp hk)
     have lk:oIxG (gT ts) (tupI (key2 t))=some (.v (.int (gainOf ts (key2 t)))):=b2r (a2S (key2 t)) (Q8 (List.mem_map.mpr ⟨t,ht,rfl⟩))
     rw [a3E]
     have tk:tupI (key2 t)= .tup [.int t.1,.int t.2.1]:=rfl
     rw [tk] at lk ⊢
     refine ⟨[some (.v (.int t.1)),some (.v (.int t.2.1)),some (.v (gT ts))],.v (tieD (tieOf ts (key2 t))),⟨some _,some _,rfl⟩,?_,rfl,fun _=>⟨?_,.inl rfl⟩⟩
     ·repeat (walk_at "z r")
     ·repeat (first | walk_at "z r" | simp only [lk])
      rfl
 ·have r1:(-(2 ^ 62:Int)<=n/\n < 2 ^ 62):=by walk_at "o"
  have r2:(-(2 ^ 62:Int)<=n - 1/\n - 1 < 2 ^ 62):=by walk_at "o"
  have r3:((-(2 ^ 62:Int)<=1/\(1:Int) < 2 ^ 62)/\-(2 ^ 62:Int)<=n/\n < 2 ^ 62):=by walk_at "o"
  have hn0:0 < n:=by walk_at "o"
  have d2:dOk 2:=m9 (by decide) (by decide)
  refine a12 (by repeat (first | walk_at "z r")) rfl (a12 (G8 _ _ (fun B=>∃o1:Option D,B=[o1.map .v,some (.v (.int n))]) ?_ (by walk_at "o") ?_ ⟨none,rfl⟩ ?_) rfl (a12 (G8 _ _ (fun B=>∃o1:Option D,B=[o1.map .v]) ?_ (by walk_at "o") ?_ ⟨none,rfl⟩ ?_) rfl (a12 (by repeat (first | walk_at "z r")) rfl (a12 (G8 _ _ (fun B=>∃o1:Option D,B=[o1.map .v]) ?_ (by walk_at "o") ?_ ⟨none,rfl⟩ ?_) rfl (a12 (G8 _ _ (fun B=>∃o1:Option D,B=[o1.map .v]) ?_ (by walk_at "o") ?_ ⟨none,rfl⟩ ?_) rfl rfl rfl) rfl) rfl) rfl) rfl) rfl
  all_goals first
   | (rintro _ ⟨_,rfl⟩;rfl)
   | (rintro i h1 h2 _ zs ⟨o1,rfl⟩;refine ⟨[some (.v (.int i)),some (.v (.int n))],⟨some _,rfl⟩,?_,rfl,?_⟩ <;> (repeat (first | walk_at "z r" | simp only [hn0]));done)
   | (rintro i h1 h2 _ zs ⟨o1,rfl⟩;refine ⟨[some (.v (.int i))],⟨some _,rfl⟩,?_,rfl,?_⟩ <;> (repeat (first | walk_at "z r" | simp only [d2]));done)
   | ((repeat (first | walk_at "z r" | simp only [r1]));done)
   | ((repeat (first | walk_at "z r" | simp only [r2]));done)
   | ((repeat (first | walk_at "z r" | simp only [r3]));done)
abbrev S5:Stmt:=top 41
theorem a0d:FnScope ["top","bottom","one","other"] ["top","bottom"] (defScope S5):=by walk_at "c"
def S7 (g:LO):Prop:=∀t b:Int,0 < b->b.natAbs < big->g [.int t,.int b]=some (.v (ratD (Rat.divInt t b)))
theorem a3Y (m_abs:mg "abs"=none)(F:Fun K "_law_low" "_law_low" S5 f fd)(B:Binds K fd ["top","bottom"] [])(hm:mg "_law_low"=some (.ref f)):∃g,Fn P w K mg base "_law_low" (k + 1) g/\S7 g:=by
 have nd:=a0d.nd
 refine ⟨_,o0 F a0d B hm rfl rfl (fun cdv A outer s H E hr=>(b8 (a2M 2 3 rfl nd (a8 (qx_b a37 a8v m_abs (a8 (a7 0) a9)) (a8 (a7 1) a9)) rfl)
  (b8 (W1 PySem.PassesOwn.never (a7p (a7 3) b0) (c7 (a2M 2 3 rfl nd (a8 (a7 3) (a8 (K1 (a7 2) (a7 3)) a9)) rfl)))
  (c7 (g9 (j8 (a8 (W7 (a7 0) (a7 2)) (a8 (W7 (a7 1) (a7 2)) a9)))))))),?_⟩
 intro t b hb hs
 have d:=a5j (t:=t) hb hs
 obtain ⟨p1,p2⟩:=K3 (t:=t) hb
 have l:=a30 (i:=2) (j:=3) (a:=if t < 0 then -t else t) (b:=b) (ρ:=[some (.v (.int t)),some (.v (.int b)),some (.v (.int (if t < 0 then -t else t))),some (.v (.int b))]) (by decide) (by split <;> walk_at "o") (by walk_at "o") rfl rfl
 rw [a56] at l
 unfold ratD
 rw [p1,p2]
 repeat (first | walk_at "z r" | simp only [l,d])
theorem a1Y {ks:List (List Int)}{i:Nat}{k:List Int}(h:ks[i]? =some k):(ks.take (i + 1)).flatten=(ks.take i).flatten ++ k:=by
 rw [List.take_add_one,h]
 simp
theorem a6b {ks:List (List Int)}{i:Nat}:(ks.take i).flatten.length<=ks.flatten.length:=by
 have e:ks.flatten=(ks.take i).flatten ++ (ks.drop i).flatten:=by rw [<-List.flatten_append,List.take_append_drop]
 rw [e,List.length_append]
 walk_at "o"
abbrev N6:Stmt:=top 39
theorem U5:FnScope ["some","people","party"] ["some"] (defScope N6):=by walk_at "c"
def a0g (g:LO):Prop:=∀ks:List (List Int),ks.flatten.length<=63->g [.tup (ks.map tupI)]=some (.o (.lst ((sortI ks.flatten).map .int)))
theorem a2h (j0:mg "sorted"=none)(F:Fun K "_law_held" "_law_held" N6 f fd)(B:Binds K fd ["some"] [])(hm:mg "_law_held"=some (.ref f)):∃g,Fn P w K mg base "_law_held" (k + 1) g/\a0g g:=by
 have nd:=U5.nd
 refine ⟨_,o0 F U5 B hm rfl rfl (fun cdv A outer s H E hr=>(b8 (j7 1 nd (z7 a9))
  (b8 (F4 PySem.PassesOwn.never rfl (A1 (a7 0)) (b9 2 nd) (c7 (C6 (Z7 (a7 1) (a8 (a7 2) a9)))))
  (c7 (g9 (z9 hr rfl j0 (a8 (a7 1) a9))))))),?_⟩
 intro ks hl
 have so:=a1U (ns:=ks.flatten) (by walk_at "o")
 repeat (first | walk_at "z r")
 generalize el:loopF _ _ _=r
 refine K4 el (fun i ρ=>∃o1:Option D,ρ=[some (.v (.tup (ks.map tupI))),some (.o (.lst ((ks.take i).flatten.map .int))),o1.map .v]) ⟨none,rfl⟩ ?_ ?_
 ·rintro i x _ hx ⟨o1,rfl⟩
  rw [List.getElem?_map] at hx
  cases hk:ks[i]? with
  | none=>rw [hk] at hx;cases hx
  | some k=>
   rw [hk] at hx;cases hx
   have e:=a1Y hk
   have h2:=a6b (ks:=ks) (i:=i + 1)
   rw [e,List.length_append] at h2
   have h3:(ks.take i).flatten.length + k.length<=1000000:=by walk_at "o"
   refine ⟨_,?_,some (tupI k),rfl⟩
   rw [e,List.map_append,show tupI k= .tup (k.map .int) from rfl]
   repeat (first | walk_at "z r" | simp only [List.length_map,h3])
 ·rintro _ rfl ⟨o1,rfl⟩
  rw [List.length_map,List.take_length]
  repeat (first | walk_at "z r" | simp only [so])
def hitG (p q:Int):D->Option W
 | .tup [.int a,.int b,.int c]=>if a=p/\b=q then some (.v (.int c)) else none
 | _=>none
theorem a38 {p q:Int}(t:Tie):hitG p q (tieD t)=if t.1=p/\t.2.1=q then some (.v (.int t.2.2)) else none:=rfl
theorem a2a {p q:Int}:∀ts:List Tie,((ts.map tieD).findSome? (hitG p q)=none->gainOf ts [p,q]=0)/\∀w,(ts.map tieD).findSome? (hitG p q)=some w->w= .v (.int (gainOf ts [p,q]))
 | []=>⟨fun _=>rfl,(fun w h=>by cases h)⟩
 | t :: ts=>by
  obtain ⟨i1,i2⟩:=a2a (p:=p) (q:=q) ts
  rw [List.map_cons,List.findSome?_cons,a38,gainOf]
  by_cases h:t.1=p/\t.2.1=q
  ·rw [if_pos h,if_pos (by rw [h.1,h.2])]
   exact ⟨(fun z=>by cases z),(fun w z=>by cases z;rfl)⟩
  ·rw [if_neg h,if_neg (fun z=>h (by injection z with z1 z2;injection z2 with z2 _;exact ⟨z1,z2⟩))]
   exact ⟨i1,i2⟩
abbrev O3:Stmt:=top 36
theorem V4:FnScope ["web","party","a","b","gain"] ["web","party"] (defScope O3):=by walk_at "c"
def a0b (g:LO):Prop:=∀(n p q:Int) (ts:List Tie),WebOk n ts->g [webD n ts,.tup [.int p,.int q]]=some (.v (.int (gainOf ts [p,q])))
theorem a22 (F:Fun K "_law_gain" "_law_gain" O3 f fd)(B:Binds K fd ["web","party"] [])(hm:mg "_law_gain"=some (.ref f)):∃g,Fn P w K mg base "_law_gain" (k + 1) g/\a0b g:=by
 have nd:=V4.nd
 refine ⟨_,o0 F V4 B hm rfl rfl (fun cdv A outer s H E hr=>(b8 (F4 PySem.PassesOwn.never rfl (A1 (g5 hr (a7 0) b0)) (k7 rfl (c6 (b9 2 nd) (c6 (b9 3 nd) (c6 (b9 4 nd) j5)))) (c7 (G0 (a1E hr (j8 (a8 (a7 2) (a8 (a7 3) a9))) (a7 1)) (c7 (g9 (a7 4))) w8)))
  (c7 (g9 b0)))),?_⟩
 intro n p q ts hw
 obtain ⟨f1,f2⟩:=a2a (p:=p) (q:=q) ts
 unfold webD
 repeat (first | walk_at "z r")
 generalize el:loopF _ _ _=r
 refine a0B el (fun ρ=>∃o1 o2 o3:Option D,ρ=[some (.v (.tup [.int n,.tup (ts.map tieD)])),some (.v (.tup [.int p,.int q])),o1.map .v,o2.map .v,o3.map .v]) (hitG p q) ⟨none,none,none,rfl⟩ ?_ ?_ ?_
 ·rintro x hx _ ⟨o1,o2,o3,rfl⟩
  obtain ⟨t,_,rfl⟩:=List.mem_map.mp hx
  rw [a38]
  cases h1:(t.1 == p) with
  | false=>
   have hn:¬(t.1=p/\t.2.1=q):=fun z=>by rw [beq_eq_false_iff_ne] at h1;exact h1 z.1
   rw [if_neg hn]
   refine ⟨fun _=>⟨_,?_,some (.int t.1),some (.int t.2.1),some (.int t.2.2),rfl⟩,fun w z=>by cases z⟩
   unfold tieD
   repeat (first | walk_at "z r" | simp only [h1])
  | true=>
   cases h2:(t.2.1 == q) with
   | false=>
    have hn:¬(t.1=p/\t.2.1=q):=fun z=>by rw [beq_eq_false_iff_ne] at h2;exact h2 z.2
    rw [if_neg hn]
    refine ⟨fun _=>⟨_,?_,some (.int t.1),some (.int t.2.1),some (.int t.2.2),rfl⟩,fun w z=>by cases z⟩
    unfold tieD
    repeat (first | walk_at "z r" | simp only [h1,h2])
   | true=>
    have hy:t.1=p/\t.2.1=q:=⟨by simpa using h1,by simpa using h2⟩
    rw [if_pos hy]
    refine ⟨(fun z=>by cases z),fun w z=>?_⟩
    cases z
    refine ⟨?_,?_⟩
    rotate_left
    ·unfold tieD
     repeat (first | walk_at "z r" | simp only [h1,h2])
     rfl
 ·rintro h _ rfl ⟨o1,o2,o3,rfl⟩
  rw [f1 h]
  repeat (first | walk_at "z r")
 ·rintro w h ρ' rfl
  rw [f2 w h]
  repeat (first | walk_at "z r")
abbrev E5:Stmt:=top 37
theorem K6:FnScope ["web"] ["web"] (defScope E5):=by walk_at "c"
def M7 (g:LO):Prop:=∀(n:Int) (ts:List Tie),WebOk n ts->g [webD n ts]=some (.o (.lst ((sortK (parK n ts)).map tupI)))
theorem a0o (j0:mg "sorted"=none)(m6:mg "range"=none)(F:Fun K "_law_parties" "_law_parties" E5 f fd)(B:Binds K fd ["web"] [])(hm:mg "_law_parties"=some (.ref f)):∃g,Fn P w K mg base "_law_parties" (k + 1) g/\M7 g:=by
 have nd:=K6.nd
 refine ⟨_,o0 F K6 B hm rfl rfl (fun cdv A outer s H E hr=>(c7 (g9 (z9 hr rfl j0 (a8 (k6 (s0 (N:=["person"]) (js:=[none]) (li:=none) rfl (t9 (by exact (.own .nil)) rfl (by exact trivial) (by rfl)) (E7 (a0W m6 (a8 (g5 hr (a7 0) b0) a9))) (fun _ _ _ _=>(b9 0 (show ((["person"]:List Str) ++ [accN]).Nodup by decide +kernel))) (fun _ _ _ _=>u3) (fun _ _ _ _=>(j8 (a8 (a7 0) a9)))) (s0 (N:=["a","b","gain"]) (js:=[none,none,none]) (li:=none) rfl (t9 (by exact (.own (.own (.own .nil)))) rfl (by exact trivial) (by rfl)) (E7 (A1 (g5 hr (a7 0) b0))) (fun _ _ _ _=>(k7 rfl (c6 (b9 0 (show ((["a","b","gain"]:List Str) ++ [accN]).Nodup by decide +kernel)) (c6 (b9 1 (show ((["a","b","gain"]:List Str) ++ [accN]).Nodup by decide +kernel)) (c6 (b9 2 (show ((["a","b","gain"]:List Str) ++ [accN]).Nodup by decide +kernel)) j5))))) (fun _ _ _ _=>u3) (fun _ _ _ _=>(j8 (a8 (a7 0) (a8 (a7 1) a9)))))) a9))))),?_⟩
 intro n ts hw
 have hn:=hw.n1
 have hl:=hw.len
 obtain ⟨pl,pne⟩:=N9 hw
 have r1:(-(2 ^ 62:Int)<=n/\n < 2 ^ 62):=by walk_at "o"
 have so:=B9 (ks:=parK n ts) (by walk_at "o") pne
 have pq:=a3t n ts
 have ll:(((rngD 0 n.toNat).filter fun _=>true).map one1).length + (((ts.map tieD).filter fun _=>true).map cut2).length<=1000000:=by
  rw [n6,n6,List.length_map,List.length_map,List.length_map,P2];walk_at "o"
 unfold webD
 repeat (first | walk_at "z r")
 rw [m5 (ρ1:=[some (.v (.tup [.int n,.tup (ts.map tieD)]))]) (xs:=rngD 0 n.toNat) (fun B=>∃o1:Option D,B=[o1.map .v]) (fun _=>true) one1]
 ·repeat (first | walk_at "z r")
  rw [m5 (ρ1:=[some (.v (.tup [.int n,.tup (ts.map tieD)]))]) (xs:=ts.map tieD) (fun B=>∃o1 o2 o3:Option D,B=[o1.map .v,o2.map .v,o3.map .v]) (fun _=>true) cut2]
  ·repeat (first | walk_at "z r" | simp only [ll,pq,so])
  ·repeat (first | walk_at "z r")
  ·rintro _ ⟨_,_,_,rfl⟩;rfl
  ·exact ⟨none,none,none,rfl⟩
  ·rw [List.length_map];unfold lim;walk_at "o"
  ·refine w9 fun y hy=>?_
   obtain ⟨x,hx,rfl⟩:=List.mem_map.mp hy
   obtain ⟨t,_,rfl⟩:=List.mem_map.mp (List.mem_filter.mp hx).1
   rfl
  ·rintro x hx _ zs ⟨o1,o2,o3,rfl⟩
   obtain ⟨⟨a,b,c⟩,ha,rfl⟩:=List.mem_map.mp hx
   refine ⟨[some (.v (.int a)),some (.v (.int b)),some (.v (.int c))],.v (.tup [.int a,.int b]),⟨some _,some _,some _,rfl⟩,?_,rfl,fun _=>⟨?_,.inl rfl⟩⟩
   ·unfold tieD
    repeat (walk_at "z r")
   ·repeat (walk_at "z r")
 ·repeat (first | walk_at "z r" | simp only [r1])
 ·rintro _ ⟨_,rfl⟩;rfl
 ·exact ⟨none,rfl⟩
 ·rw [P2];unfold lim;walk_at "o"
 ·refine w9 fun y hy=>?_
  obtain ⟨x,hx,rfl⟩:=List.mem_map.mp hy
  obtain ⟨i,rfl,_⟩:=a0w (List.mem_filter.mp hx).1
  rfl
 ·rintro x hx _ zs ⟨o1,rfl⟩
  obtain ⟨i,rfl,_⟩:=a0w hx
  refine ⟨[some (.v (.int i))],.v (.tup [.int i]),⟨some _,rfl⟩,?_,rfl,fun _=>⟨?_,.inl rfl⟩⟩
  ·repeat (walk_at "z r")
  ·repeat (walk_at "z r")
abbrev O5:Stmt:=top 2
theorem V7:FnScope ["row"] ["row"] (defScope O5):=by walk_at "c"
def a0l (g:LO):Prop:=∀ks:List (List Int),ks.Pairwise (fun a b=>HT.lexLt b a=false)->ks.length<=63->g [.tup (ks.map tupI)]=some (.v (.bl true))
theorem a15 {R:List Int->List Int->Prop}:∀{ks:List (List Int)},ks.Pairwise R->∀x∈zipD (ks.map tupI) ((ks.map tupI).drop 1),∃a b,x= .tup [tupI a,tupI b]/\R a b
 | [],_,x,hx=>by simp [zipD] at hx
 | [a],_,x,hx=>by simp [zipD] at hx
 | a :: b :: r,h,x,hx=>by
  unfold zipD at hx
  rw [List.map_cons,List.map_cons,List.drop_succ_cons,List.drop_zero,List.zipWith_cons_cons] at hx
  rcases List.mem_cons.mp hx with rfl | hx
  ·exact ⟨a,b,rfl,(List.pairwise_cons.mp h).1 b List.mem_cons_self⟩
  ·exact a15 (List.pairwise_cons.mp h).2 x (by unfold zipD;rw [List.map_cons,List.drop_succ_cons,List.drop_zero];exact hx)
theorem a2q (m_any:mg "any"=none)(m_zip:mg "zip"=none)(F:Fun K "is_sorted" "is_sorted" O5 f fd)(B:Binds K fd ["row"] [])(hm:mg "is_sorted"=some (.ref f)):∃g,Fn P w K mg base "is_sorted" (k + 1) g/\a0l g:=by
 have nd:=V7.nd
 refine ⟨_,o0 F V7 B hm rfl rfl (fun cdv A outer s H E hr=>(c7 (g9 (a3d (qx_b (a6X rfl) a1d m_any (a8 (s0 (N:=["one","other"]) (js:=[none,none]) (li:=none) rfl (t9 (by exact (.own (.own .nil))) rfl (by exact trivial) (by rfl)) (E7 (b2o m_zip (a8 (a7 0) (a8 (U8 (a7 0) (a0q b0) a0t) a9)))) (fun _ _ _ _=>(k7 rfl (c6 (b9 0 (show ((["one","other"]:List Str) ++ [accN]).Nodup by decide +kernel)) (c6 (b9 1 (show ((["one","other"]:List Str) ++ [accN]).Nodup by decide +kernel)) j5)))) (fun _ _ _ _=>u3) (fun _ _ _ _=>(a9z hr (a7 1) (a7 0)))) a9)))))),?_⟩
 intro ks hs hl
 repeat (walk_at "z r")
 rw [m5 (ρ1:=[some (.v (.tup (ks.map tupI)))]) (xs:=zipD (ks.map tupI) ((ks.map tupI).drop 1)) (fun B=>∃o1 o2:Option D,B=[o1.map .v,o2.map .v]) (fun _=>true) (fun _=>.bl false)]
 ·have gb:gBools (fun bs=>bs.any id) (.lst (((zipD (ks.map tupI) ((ks.map tupI).drop 1)).filter fun _=>true).map fun _=>D.bl false))=some (.v (.bl false)):=by
   rw [a4G (M6 (fun _=>false) _),List.any_map]
   congr 2
   simp
  repeat (first | walk_at "z r" | simp only [gb])
 ·repeat (first | walk_at "z r" | simp only [a7F])
 ·rintro _ ⟨_,_,rfl⟩;rfl
 ·exact ⟨none,none,rfl⟩
 ·rw [b0f];simp [lim];walk_at "o"
 ·exact a4U _ _
 ·rintro x hx _ zs ⟨o1,o2,rfl⟩
  obtain ⟨a,b,rfl,hab⟩:=a15 hs x hx
  have lt:oLtT (tupI b) (tupI a)=some (.v (.bl false)):=by
   show (intsOf (b.map D.int)).bind _=_
   rw [j6,Option.bind_some,j6,Option.map_some,hab]
  refine ⟨[some (.v (tupI a)),some (.v (tupI b))],.v (.bl false),⟨some _,some _,rfl⟩,?_,rfl,fun _=>⟨?_,.inl rfl⟩⟩
  ·repeat (walk_at "z r")
  ·repeat (first | walk_at "z r" | simp only [lt])
def gainH (ts:List Tie):D->D
 | .tup xs=>match intsOf xs with
  | some k=>.int (gainOf ts k)
  | none=>.int 0
 | _=>.int 0
theorem a5v (ts:List Tie)(k:List Int):gainH ts (tupI k)= .int (gainOf ts k):=by unfold gainH tupI;dsimp only;rw [j6]
theorem a6y (ts:List Tie)(ps:List (List Int)):((ps.map tupI).filter fun _=>true).map (gainH ts)=(ps.map (gainOf ts)).map .int:=by
 rw [n6,List.map_map,List.map_map]
 exact List.map_congr_left fun k _=>a5v ts k
abbrev a2k:Stmt:=top 16
theorem a3Q:FnScope ["web","some","gained"] ["web","some"] (defScope a2k):=by walk_at "c"
def a5M (g:LO):Prop:=∀(n:Int) (ts:List Tie) (ps:List (List Int)),WebOk n ts->ps.length<=63->g [webD n ts,.tup (ps.map tupI)]=some (.v (.int (ps.map (gainOf ts)).sum))
theorem a8w {Q3:LO}(P7:Fn P w K mg base "gains" k Q3)(Q2:a2C Q3)(m_sum:mg "sum"=none)(F:Fun K "worth" "worth" a2k f fd)(B:Binds K fd ["web","some"] [])(hm:mg "worth"=some (.ref f)):∃g,Fn P w K mg base "worth" (k + 1) g/\a5M g:=by
 have nd:=a3Q.nd
 refine ⟨_,o0 F a3Q B hm rfl rfl (fun cdv A outer s H E hr=>(b8 (j7 2 nd (c9 P7 hr (a8 (a7 0) a9)))
  (c7 (g9 (qx_b ((a6N rfl).or (a6v rfl)) a9P m_sum (a8 (s0 (N:=["party","gained"]) (js:=[none,some 2]) (li:=none) rfl (t9 (by exact (.own (.cap rfl rfl rfl rfl .nil))) rfl (by exact ⟨rfl,trivial⟩) (by rfl)) (C0 1) (fun _ _ _ _=>(b9 0 (show ((["party","gained"]:List Str) ++ [accN]).Nodup by decide +kernel))) (fun _ _ _ _=>u3) (fun _ _ _ _=>(a8M hr (a7 1) (a8 (a7 0) (a8 b0 a9))))) a9)))))),?_⟩
 intro n ts ps hw hl
 have eg:=Q2 n ts hw
 have lf1:lfL (ts.map fun t=>D.int t.2.2)=true:=w9 fun y hy=>by obtain ⟨x,hx,rfl⟩:=List.mem_map.mp hy;rfl
 have g6:∀k ρ,ge6 (tupI k) (.int 0) ρ (some (.dT (ts.map tkK) (ts.map fun t=>D.int t.2.2)))=some (.v (.int (gainOf ts k)),ρ):=fun k ρ=>by rw [a5N (a2S k),Y7]
 have gm:=a6y ts ps
 have os:=b1R (j6 (ps.map (gainOf ts)))
 repeat (first | walk_at "z r" | simp only [eg,lf1])
 rw [m5 (ρ1:=[some (.v (webD n ts)),some (.v (.tup (ps.map tupI))),some (.o (.dT (ts.map tkK) (ts.map fun t=>D.int t.2.2)))]) (xs:=ps.map tupI) (fun B=>∃o1:Option D,B=[o1.map .v,some (.v (.dT (ts.map tkK) (ts.map fun t=>D.int t.2.2)))]) (fun _=>true) (gainH ts)]
 ·rw [gm]
  repeat (first | walk_at "z r" | simp only [os])
 ·repeat (walk_at "z r")
 ·rintro _ ⟨_,rfl⟩;rfl
 ·exact ⟨none,rfl⟩
 ·rw [List.length_map];unfold lim;walk_at "o"
 ·rw [gm];exact u7 _
 ·rintro x hx _ zs ⟨o1,rfl⟩
  obtain ⟨p,hpp,rfl⟩:=G6 hx
  have gp:=g6 p
  refine ⟨[some (.v (tupI p)),some (.v (.dT (ts.map tkK) (ts.map fun t=>D.int t.2.2)))],.v (.int (gainOf ts p)),⟨some _,rfl⟩,?_,rfl,fun _=>⟨?_,.inl (by rw [a5v])⟩⟩
  ·repeat (walk_at "z r")
  ·repeat (first | walk_at "z r" | simp only [gp])
abbrev v6:Stmt:=top 11
theorem B6:FnScope ["web","thing"] ["web","thing"] (defScope v6):=by walk_at "c"
def C5 (g:LO):Prop:=∀(n:Int) (ts:List Tie) (ps:List (List Int)),WebOk n ts->(∀p∈ps,p∈parK n ts)->ps.Pairwise (fun a b=>HT.lexLt b a=false)->ps.length<=63->g [webD n ts,.tup (ps.map tupI)]=some (.v (.bl true))
theorem L0 {K2:LO}{L3:LO}(J7:Fn P w K mg base "is_parties" k K2)(G9:V9 K2)(N4:Fn P w K mg base "is_sorted" k L3)(N8:a0l L3)(F:Fun K "is_sorted_parties" "is_sorted_parties" v6 f fd)(B:Binds K fd ["web","thing"] [])(hm:mg "is_sorted_parties"=some (.ref f)):∃g,Fn P w K mg base "is_sorted_parties" (k + 1) g/\C5 g:=by
 have nd:=B6.nd
 refine ⟨_,o0 F B6 B hm rfl rfl (fun cdv A outer s H E hr=>(c7 (g9 (T0 (c9 J7 hr (a8 (a7 0) (a8 (a7 1) a9))) (a0R (c9 N4 hr (a8 (a7 1) a9))))))),?_⟩
 intro n ts ps hw hp hs hl
 have e1:=G9 n ts ps hw hp hl
 have e2:=N8 ps hs hl
 repeat (first | walk_at "z r" | simp only [e1,e2])
abbrev Y3:Stmt:=top 18
theorem a1h:FnScope ["web","outs","ins"] ["web","outs","ins"] (defScope Y3):=by walk_at "c"
def a1B (g:LO):Prop:=∀(n:Int) (ts:List Tie) (os is:List (List Int)),WebOk n ts->(∀p∈os,p∈parK n ts)->(∀p∈is,p∈parK n ts)->os.Pairwise (fun a b=>HT.lexLt b a=false)->is.Pairwise (fun a b=>HT.lexLt b a=false)->os.length<=63->is.length<=63->os.flatten.length<=63->is.flatten.length<=63->sortI os.flatten=sortI is.flatten->g [webD n ts,.tup (os.map tupI),.tup (is.map tupI)]=some (.v (.bl true))
theorem a41 {v7:LO}{a4p:LO}(t7:Fn P w K mg base "is_sorted_parties" k v7)(t6:C5 v7)(a3c:Fn P w K mg base "held" k a4p)(a2L:a7V a4p)(F:Fun K "is_swap" "is_swap" Y3 f fd)(B:Binds K fd ["web","outs","ins"] [])(hm:mg "is_swap"=some (.ref f)):∃g,Fn P w K mg base "is_swap" (k + 1) g/\a1B g:=by
 have nd:=a1h.nd
 refine ⟨_,o0 F a1h B hm rfl rfl (fun cdv A outer s H E hr=>(c7 (g9 (T0 (c9 t7 hr (a8 (a7 0) (a8 (a7 1) a9))) (T0 (c9 t7 hr (a8 (a7 0) (a8 (a7 2) a9))) (a0R (qx_eq hr (c9 a3c hr (a8 (a7 1) a9)) (c9 a3c hr (a8 (a7 2) a9))))))))),?_⟩
 intro n ts os is hw h1 h2 h3 h4 h5 h6 h7 h8 h9
 have e1:=t6 n ts os hw h1 h3 h5
 have e2:=t6 n ts is hw h2 h4 h6
 have e3:=a2L os h5 h7
 have e4:=a2L is h6 h8
 rw [h9] at e3
 have lf1:=u7 (sortI is.flatten)
 have dq:deqL (deq 19) ((sortI is.flatten).map D.int) ((sortI is.flatten).map D.int)=some true:=by rw [Y4];simp
 repeat (first | walk_at "z r" | simp only [e1,e2,e3,e4,dq,lf1])
abbrev K0:Stmt:=top 19
theorem Q7:FnScope ["web","outs","ins"] ["web","outs","ins"] (defScope K0):=by walk_at "c"
def V3 (g:LO):Prop:=∀(n:Int) (ts:List Tie) (os is:List (List Int)),WebOk n ts->os.length<=63->is.length<=63->g [webD n ts,.tup (os.map tupI),.tup (is.map tupI)]=some (.v (.int ((is.map (gainOf ts)).sum - (os.map (gainOf ts)).sum)))
theorem a1j {a2F:LO}(a0r:Fn P w K mg base "worth" k a2F)(a0s:a5M a2F)(F:Fun K "swap_slack" "swap_slack" K0 f fd)(B:Binds K fd ["web","outs","ins"] [])(hm:mg "swap_slack"=some (.ref f)):∃g,Fn P w K mg base "swap_slack" (k + 1) g/\V3 g:=by
 have nd:=Q7.nd
 refine ⟨_,o0 F Q7 B hm rfl rfl (fun cdv A outer s H E hr=>(c7 (g9 (R7 (c9 a0r hr (a8 (a7 0) (a8 (a7 2) a9))) (c9 a0r hr (a8 (a7 0) (a8 (a7 1) a9))))))),?_⟩
 intro n ts os is hw h1 h2
 have e1:=a0s n ts os hw h1
 have e2:=a0s n ts is hw h2
 repeat (first | walk_at "z r" | simp only [e1,e2])
theorem a36 {l:List Int}{i:Nat}(h:i < l.length):l.getD i 0∈l:=by
 rw [List.getD_eq_getElem?_getD,List.getElem?_eq_getElem h]
 exact List.getElem_mem h
theorem W3:∀{l:List Int} {i:Nat},i < l.length->(l.getD i 0 :: l.eraseIdx i).Perm l
 | [],_,h=>by simp at h
 | a :: l,0,_=>List.Perm.refl _
 | a :: l,i + 1,h=>by
  have ih:=W3 (l:=l) (i:=i) (by simpa using h)
  rw [List.getD_cons_succ,List.eraseIdx_cons_succ]
  exact (List.Perm.swap _ _ _).trans (List.Perm.cons _ ih)
theorem a9d {l:List Int}{x:Int}(h:x∈l):(x :: l.eraseIdx (l.idxOf x)).Perm l:=by
 have hl:l.idxOf x < l.length:=List.idxOf_lt_length_iff.mpr h
 have:=W3 hl
 rwa [List.getD_eq_getElem?_getD,List.getElem?_eq_getElem hl,show l[l.idxOf x]=x from by simp] at this
structure Tog (n:Int) (ts:List Tie) (all ppl:List Int) (fs:List (List Int)):Prop where
 par:∀k∈fs,k∈parK n ts
 perm:(fs.flatten ++ ppl).Perm all
theorem Tog.one {n:Int}{ts:List Tie}{all ppl:List Int}{fs:List (List Int)}(h:Tog n ts all ppl fs){i:Nat}(hi:i < ppl.length)(hk:[ppl.getD i 0]∈parK n ts):Tog n ts all (ppl.eraseIdx i) (fs ++ [[ppl.getD i 0]]) where
 par:=fun k hk'=>by
  rcases List.mem_append.mp hk' with z | z
  ·exact h.par k z
  ·rw [List.mem_singleton.mp z];exact hk
 perm:=by
  refine List.Perm.trans ?_ h.perm
  rw [List.flatten_append,List.append_assoc]
  exact List.Perm.append_left _ (W3 hi)
theorem Tog.two {n:Int}{ts:List Tie}{all ppl:List Int}{fs:List (List Int)}(h:Tog n ts all ppl fs){i:Nat}(hi:i < ppl.length){y a b:Int}(hy:y∈ppl.eraseIdx i)(hab:[a,b].Perm [ppl.getD i 0,y])(hk:[a,b]∈parK n ts):Tog n ts all ((ppl.eraseIdx i).eraseIdx ((ppl.eraseIdx i).idxOf y)) (fs ++ [[a,b]]) where
 par:=fun k hk'=>by
  rcases List.mem_append.mp hk' with z | z
  ·exact h.par k z
  ·rw [List.mem_singleton.mp z];exact hk
 perm:=by
  refine List.Perm.trans ?_ h.perm
  rw [List.flatten_append,List.append_assoc]
  refine List.Perm.append_left _ ?_
  rw [List.flatten_cons,List.flatten_nil,List.append_nil]
  refine (List.Perm.append_right _ hab).trans ?_
  refine List.Perm.trans ?_ (W3 hi)
  exact List.Perm.cons _ (a9d hy)
def lenP:List (Option W)->Nat:=fun ρ=>match ρ[4]? with
 | some (some (W.o (D.lst xs)))=>xs.length
 | _=>0
def pairK (one o:Int):List Int:=[if o < one then o else one,if o > one then o else one]
def isO (ks:List (List Int)) (one:Int):D->Bool
 | .int o=>decide (pairK one o∈ks)
 | _=>false
theorem T7 (ks:List (List Int))(one:Int):∀l:List Int,((l.map D.int).filter (isO ks one)).map id=(l.filter fun o=>decide (pairK one o∈ks)).map D.int
 | []=>rfl
 | x :: l=>by
  have ih:=T7 ks one l
  rw [List.map_cons,List.filter_cons,List.filter_cons]
  have e:isO ks one (.int x)=decide (pairK one x∈ks):=rfl
  rw [e]
  cases decide (pairK one x∈ks) with
  | true=>simp only [if_true,List.map_cons];rw [ih];rfl
  | false=>simp only [Bool.false_eq_true,if_false];exact ih
abbrev C1:Stmt:=top 42
theorem G3:FnScope ["web","some","number","known","people","found","at","one","others"] ["web","some","number"] (defScope C1):=by walk_at "c"
def K7 (g:LO):Prop:=∀(n num:Int) (ts:List Tie) (ks:List (List Int)),WebOk n ts->(∀k∈ks,k∈parK n ts)->ks.flatten.length<=63->∃fs:List (List Int),Tog n ts (sortI ks.flatten) [] fs/\g [webD n ts,.tup (ks.map tupI),.int num]=some (.v (.tup ((sortK fs).map tupI)))
theorem W9 {E4:LO}{M9:LO}(D7:Fn P w K mg base "_law_parties" k E4)(E9:M7 E4)(O6:Fn P w K mg base "_law_held" k M9)(O4:a0g M9)(l0:mg "tuple"=none)(j1:mg "divmod"=none)(j0:mg "sorted"=none)(m_len:mg "len"=none)(m_min:mg "min"=none)(m_max:mg "max"=none)(F:Fun K "_law_together" "_law_together" C1 f fd)(B:Binds K fd ["web","some","number"] [])(hm:mg "_law_together"=some (.ref f)):∃g,Fn P w K mg base "_law_together" (k + 1) g/\K7 g:=by
 have nd:=G3.nd
 refine ⟨_,o0 F G3 B hm rfl rfl (fun cdv A outer s H E hr=>(b8 (j7 3 nd (c9 D7 hr (a8 (a7 0) a9)))
  (b8 (j7 4 nd (c9 O6 hr (a8 (a7 1) a9)))
  (b8 (j7 5 nd (z7 a9))
  (b8 (W1 PySem.PassesOwn.never (a3h hr (a7 4) (z7 a9)) (b8 (o9 (l6 j1 (a8 (a7 2) (a8 (qx_b u5 S9 m_len (a8 (a7 4) a9)) a9))) (k7 rfl (c6 (b9 2 nd) (c6 (b9 6 nd) j5))))
  (b8 (j7 7 nd (a73 (a7 4) (a8 (a7 6) a9)))
  (b8 (a9F 8 nd (a9o (N:=["other","known","one"]) (js:=[none,some 3,some 7]) (li:=none) rfl (t9 (by exact (.own (.cap rfl rfl rfl rfl (.cap rfl rfl rfl rfl .nil)))) rfl (by exact ⟨rfl,⟨rfl,trivial⟩⟩) (by rfl)) (C0 4) (fun _ _ _ _=>(b9 0 (show ((["other","known","one"]:List Str) ++ [accN]).Nodup by decide +kernel))) (fun _ _ _ _=>(a0z rfl (a8e hr (j8 (a8 (qx_b (P1 rfl) a2V m_min (a8 (a7 2) (a8 (a7 0) a9))) (a8 (qx_b (X0 rfl) a4F m_max (a8 (a7 2) (a8 (a7 0) a9))) a9))) (a7 1)))) (fun _ _ _ _=>(a7 0))))
  (b8 (o9 (l6 j1 (a8 (a7 2) (a8 (k6 (qx_b u5 S9 m_len (a8 (a7 8) a9)) b0) a9))) (k7 rfl (c6 (b9 2 nd) (c6 (b9 6 nd) j5))))
  (c7 (G0 (a2l hr (a7 6) (qx_b u5 S9 m_len (a8 (a7 8) a9))) (b8 (C6 (a6J (a7 4) (a8 (g5 hr (a7 8) (a7 6)) a9)))
  (c7 (C6 (G1 (a7 5) (a8 (j8 (a8 (qx_b (P1 rfl) a2V m_min (a8 (a7 7) (a8 (g5 hr (a7 8) (a7 6)) a9))) (a8 (qx_b (X0 rfl) a4F m_max (a8 (a7 7) (a8 (g5 hr (a7 8) (a7 6)) a9))) a9))) a9))))) (c7 (C6 (G1 (a7 5) (a8 (j8 (a8 (a7 7) a9)) a9)))))))))))
  (c7 (g9 (qx_t w6 K9 l0 (a8 (z9 hr rfl j0 (a8 (a7 5) a9)) a9))))))))),?_⟩
 intro n num ts ks hw hk hl
 have e1:=E9 n ts hw
 have e2:=O4 ks hl
 have lf1:=z4 (sortK (parK n ts))
 have lf2:=u7 (sortI ks.flatten)
 repeat (first | walk_at "z i" | simp only [e1,e2,lf1,lf2])
 generalize ew:whileV _ _ _=r
 refine a0X ew (fun ρ=>∃(num:Int) (l:List Int) (fs:List (List Int)) (o6 o7:Option D) (o8:Option (List Int)),ρ=[some (.v (webD n ts)),some (.v (.tup (ks.map tupI))),some (.v (.int num)),some (.o (.lst ((sortK (parK n ts)).map tupI))),some (.o (.lst (l.map .int))),some (.o (.lst (fs.map tupI))),o6.map .v,o7.map .v,o8.map fun m=>.o (.lst (m.map .int))]/\Tog n ts (sortI ks.flatten) l fs) (fun ρ=>∃(num:Int) (fs:List (List Int)) (o6 o7:Option D) (o8:Option (List Int)),ρ=[some (.v (webD n ts)),some (.v (.tup (ks.map tupI))),some (.v (.int num)),some (.o (.lst ((sortK (parK n ts)).map tupI))),some (.o (.lst [])),some (.o (.lst (fs.map tupI))),o6.map .v,o7.map .v,o8.map fun m=>.o (.lst (m.map .int))]/\Tog n ts (sortI ks.flatten) [] fs) lenP ⟨num,sortI ks.flatten,[],none,none,none,rfl,⟨(fun _ h=>by cases h),List.Perm.refl _⟩⟩ ?_ ?_
 ·rintro _ ⟨num,l,fs,o6,o7,o8,rfl,ht⟩
  cases l with
  | nil=>
   refine .inl ⟨_,?_,num,fs,o6,o7,o8,rfl,ht⟩
   repeat (first | walk_at "z r")
  | cons x l=>
   refine .inr ⟨[some (.v (webD n ts)),some (.v (.tup (ks.map tupI))),some (.v (.int num)),some (.o (.lst ((sortK (parK n ts)).map tupI))),some (.o (.lst ((x :: l).map .int))),some (.o (.lst (fs.map tupI))),o6.map .v,o7.map .v,o8.map fun m=>.o (.lst (m.map .int))],?_⟩
   have hlen:(x :: l).length<=63:=by
    have z:=ht.perm.length_eq
    rw [List.length_append,(show (sortI ks.flatten).length=ks.flatten.length from (List.mergeSort_perm _ _).length_eq)] at z
    walk_at "o"
   generalize eL:x :: l=L at hlen ht
   have hpos:0 < L.length:=by rw [<-eL];simp
   obtain ⟨A,eA,hA⟩:∃A:Int,num % (L.length:Int)=A/\0<=A/\A < L.length:=⟨_,rfl,Int.emod_nonneg _ (by walk_at "o"),Int.emod_lt_of_pos _ (by walk_at "o")⟩
   have hi:A.toNat < L.length:=by walk_at "o"
   have dL:dOk (L.length:Int):=m9 (by walk_at "o") (by walk_at "o")
   have pp:=a86 (l:=L) hA.1 hA.2 (by walk_at "o")
   obtain ⟨one,eo⟩:∃one,L.getD A.toNat 0=one:=⟨_,rfl⟩
   obtain ⟨M,eM⟩:∃M,L.eraseIdx A.toNat=M:=⟨_,rfl⟩
   have hM:M.length + 1=L.length:=by rw [<-eM,List.length_eraseIdx];split <;> walk_at "o"
   rw [eo,eM] at pp
   obtain ⟨Y,eY⟩:∃Y,(M.filter fun o=>decide (pairK one o∈sortK (parK n ts)))=Y:=⟨_,rfl⟩
   have hY:Y.length<=M.length:=by rw [<-eY];exact List.length_filter_le _ _
   obtain ⟨E2,eE,hE⟩:∃E2:Int,num / (L.length:Int) % ((Y.length:Int) + 1)=E2/\0<=E2/\E2 < (Y.length:Int) + 1:=⟨_,rfl,Int.emod_nonneg _ (by walk_at "o"),Int.emod_lt_of_pos _ (by walk_at "o")⟩
   have dE:dOk ((Y.length:Int) + 1):=m9 (by walk_at "o") (by walk_at "o")
   have lfY:=u7 Y
   have lfM:=u7 M
   have hpeo:∀x∈L,0<=x/\x < n:=fun x hx=>by
    have hm:=ht.perm.mem_iff.mp (List.mem_append_right _ hx)
    have hm2:x∈ks.flatten:=(List.mergeSort_perm _ _).mem_iff.mp hm
    obtain ⟨k,hk1,hk2⟩:=List.mem_flatten.mp hm2
    exact (t8 hw (hk k hk1)).1 x hk2
   have hfl2:∀gs:List (List Int),(∀k∈gs,1<=k.length)->gs.length<=gs.flatten.length:=fun gs=>by
    induction gs with
    | nil=>intro _;exact Nat.le_refl _
    | cons g gs ih=>
     intro h
     have h1:=h g List.mem_cons_self
     have h2:=ih fun k hk=>h k (List.mem_cons_of_mem _ hk)
     rw [List.flatten_cons,List.length_append,List.length_cons]
     walk_at "o"
   have hflt:fs.length < 1000000:=by
    have z:=ht.perm.length_eq
    rw [List.length_append,(show (sortI ks.flatten).length=ks.flatten.length from (List.mergeSort_perm _ _).length_eq)] at z
    have:=hfl2 fs fun k hk=>(t8 hw (ht.par k hk)).2.1
    walk_at "o"
   have fr8:freeO (o8.map fun m=>W.o (.lst (m.map .int)))=true:=by cases o8 <;> rfl
   by_cases hlt:E2 < (Y.length:Int)
   ·have hlt':decide (E2 < (Y.length:Int))=true:=decide_eq_true hlt
    obtain ⟨y,ey⟩:∃y,Y.getD E2.toNat 0=y:=⟨_,rfl⟩
    have yY:y∈Y:=by rw [<-ey];exact a36 (by walk_at "o")
    have yM:=List.mem_filter.mp (by rw [eY];exact yY:y∈M.filter fun o=>decide (pairK one o∈sortK (parK n ts)))
    have ya:atI (Y.map D.int) E2=some (.int y):=by
     unfold atI ixN
     rw [List.length_map,if_pos hE.1,if_pos (by walk_at "o")]
     rw [<-ey,List.getD_eq_getElem?_getD]
     simp only [Option.bind_some,List.getElem?_map]
     rw [List.getElem?_eq_getElem (by walk_at "o")]
     rfl
    have t1:pairK one y∈parK n ts:=(i0 _).mem_iff.mp (by simpa using yM.2)
    have rm:=o_rem yM.1
    obtain ⟨M2,eM2⟩:∃M2,M.eraseIdx (M.idxOf y)=M2:=⟨_,rfl⟩
    have hM2:M2.length<=M.length:=by rw [<-eM2];exact O9 _ _
    have hab:(pairK one y).Perm [one,y]:=by
     unfold pairK
     by_cases h:y < one
     ·rw [if_pos h,if_neg (by walk_at "o")];exact List.Perm.swap _ _ _
     ·rw [if_neg h]
      by_cases h2:y > one
      ·rw [if_pos h2]
      ·rw [if_neg h2,show y=one by walk_at "o"]
    have tg:=ht.two hi (y:=y) (a:=if y < one then y else one) (b:=if y > one then y else one) (by rw [eM];exact yM.1) (by rw [eo];exact hab) t1
    rw [eM,eM2] at tg
    rw [eM2] at rm
    refine ⟨[some (.v (webD n ts)),some (.v (.tup (ks.map tupI))),some (.v (.int (num / (L.length:Int) / ((Y.length:Int) + 1)))),some (.o (.lst ((sortK (parK n ts)).map tupI))),some (.o (.lst (M2.map .int))),some (.o (.lst ((fs ++ [pairK one y]).map tupI))),some (.v (.int E2)),some (.v (.int one)),some (.o (.lst (Y.map .int)))],?_,?_,⟨_,M2,fs ++ [pairK one y],some (.int E2),some (.int one),some Y,rfl,tg⟩,?_⟩
    ·rw [<-eL]
     repeat (first | walk_at "z r")
    ·repeat (first | walk_at "z i" | simp only [List.length_map,r_dm dL,eA,pp,lfM])
     rw [m5 (ρ1:=[some (.v (webD n ts)),some (.v (.tup (ks.map tupI))),some (.v (.int (num / (L.length:Int)))),some (.o (.lst ((sortK (parK n ts)).map tupI))),some (.o (.lst (M.map .int))),some (.o (.lst (fs.map tupI))),some (.v (.int A)),some (.v (.int one)),o8.map fun m=>.o (.lst (m.map .int))]) (xs:=M.map .int) (fun B=>∃o1:Option D,B=[o1.map .v,some (.v (.lst ((sortK (parK n ts)).map tupI))),some (.v (.int one))]) (isO (sortK (parK n ts)) one) id]
     ·rw [T7,eY]
      repeat (first | walk_at "z i" | simp only [List.length_map,r_dm dE,eE,lfY,fr8])
      repeat (first | walk_at "z r" | simp only [List.length_map,hlt',hflt,List.map_append,ya,rm])
      rfl
     ·rfl
     ·rintro _ ⟨_,rfl⟩;rfl
     ·exact ⟨none,rfl⟩
     ·rw [List.length_map];unfold lim;walk_at "o"
     ·rw [T7];exact u7 _
     ·rintro x hx _ zs ⟨o1,rfl⟩
      obtain ⟨y,_,rfl⟩:=E1 hx
      have tl:oInG false (.tup [.int (if y < one then y else one),.int (if y > one then y else one)]) (.lst ((sortK (parK n ts)).map tupI))=some (.v (.bl (decide (pairK one y∈sortK (parK n ts))))):=a2U (j6 (pairK one y)) (D8 _)
      refine ⟨[some (.v (.int y)),some (.v (.lst ((sortK (parK n ts)).map tupI))),some (.v (.int one))],.v (.int y),⟨some _,rfl⟩,?_,?_,fun _=>⟨?_,.inl rfl⟩⟩
      ·repeat (walk_at "z r")
      ·rw [show isO (sortK (parK n ts)) one (.int y)=decide (pairK one y∈sortK (parK n ts)) from rfl]
       repeat (first | walk_at "z r" | simp only [tl])
      ·repeat (walk_at "z r")
    ·show (M2.map D.int).length < (L.map D.int).length
     rw [List.length_map,List.length_map]
     walk_at "o"
   ·have hlt':decide (E2 < (Y.length:Int))=false:=decide_eq_false hlt
    have t1:[one]∈parK n ts:=by
     rw [a3p]
     have:=hpeo one (by rw [<-eo];exact a36 hi)
     exact .inl ⟨one.toNat,by walk_at "o",by congr 1;walk_at "o"⟩
    have tg:=ht.one hi (by rw [eo];exact t1)
    rw [eo,eM] at tg
    refine ⟨[some (.v (webD n ts)),some (.v (.tup (ks.map tupI))),some (.v (.int (num / (L.length:Int) / ((Y.length:Int) + 1)))),some (.o (.lst ((sortK (parK n ts)).map tupI))),some (.o (.lst (M.map .int))),some (.o (.lst ((fs ++ [[one]]).map tupI))),some (.v (.int E2)),some (.v (.int one)),some (.o (.lst (Y.map .int)))],?_,?_,⟨_,M,fs ++ [[one]],some (.int E2),some (.int one),some Y,rfl,tg⟩,?_⟩
    ·rw [<-eL]
     repeat (first | walk_at "z r")
    ·repeat (first | walk_at "z i" | simp only [List.length_map,r_dm dL,eA,pp,lfM])
     rw [m5 (ρ1:=[some (.v (webD n ts)),some (.v (.tup (ks.map tupI))),some (.v (.int (num / (L.length:Int)))),some (.o (.lst ((sortK (parK n ts)).map tupI))),some (.o (.lst (M.map .int))),some (.o (.lst (fs.map tupI))),some (.v (.int A)),some (.v (.int one)),o8.map fun m=>.o (.lst (m.map .int))]) (xs:=M.map .int) (fun B=>∃o1:Option D,B=[o1.map .v,some (.v (.lst ((sortK (parK n ts)).map tupI))),some (.v (.int one))]) (isO (sortK (parK n ts)) one) id]
     ·rw [T7,eY]
      repeat (first | walk_at "z i" | simp only [List.length_map,r_dm dE,eE,lfY,fr8])
      repeat (first | walk_at "z r" | simp only [List.length_map,hlt',hflt,List.map_append])
      rfl
     ·rfl
     ·rintro _ ⟨_,rfl⟩;rfl
     ·exact ⟨none,rfl⟩
     ·rw [List.length_map];unfold lim;walk_at "o"
     ·rw [T7];exact u7 _
     ·rintro x hx _ zs ⟨o1,rfl⟩
      obtain ⟨y,_,rfl⟩:=E1 hx
      have tl:oInG false (.tup [.int (if y < one then y else one),.int (if y > one then y else one)]) (.lst ((sortK (parK n ts)).map tupI))=some (.v (.bl (decide (pairK one y∈sortK (parK n ts))))):=a2U (j6 (pairK one y)) (D8 _)
      refine ⟨[some (.v (.int y)),some (.v (.lst ((sortK (parK n ts)).map tupI))),some (.v (.int one))],.v (.int y),⟨some _,rfl⟩,?_,?_,fun _=>⟨?_,.inl rfl⟩⟩
      ·repeat (walk_at "z r")
      ·rw [show isO (sortK (parK n ts)) one (.int y)=decide (pairK one y∈sortK (parK n ts)) from rfl]
       repeat (first | walk_at "z r" | simp only [tl])
      ·repeat (walk_at "z r")
    ·show (M.map D.int).length < (L.map D.int).length
     rw [List.length_map,List.length_map]
     walk_at "o"
 ·rintro _ rfl ⟨num,fs,o6,o7,o8,rfl,ht⟩
  have hfl2:∀gs:List (List Int),(∀k∈gs,1<=k.length)->gs.length<=gs.flatten.length:=fun gs=>by
   induction gs with
   | nil=>intro _;exact Nat.le_refl _
   | cons g gs ih=>
    intro h
    have h1:=h g List.mem_cons_self
    have h2:=ih fun k hk=>h k (List.mem_cons_of_mem _ hk)
    rw [List.flatten_cons,List.length_append,List.length_cons]
    walk_at "o"
  have hfl:fs.length<=63:=by
   have z:=ht.perm.length_eq
   rw [List.length_append,(show (sortI ks.flatten).length=ks.flatten.length from (List.mergeSort_perm _ _).length_eq),List.length_nil] at z
   have:=hfl2 fs fun k hk=>(t8 hw (ht.par k hk)).2.1
   walk_at "o"
  have so:=B9 (ks:=fs) (by walk_at "o") (fun k hk=>by have:=(t8 hw (ht.par k hk)).2.1;intro z;rw [z] at this;simp at this)
  refine ⟨fs,ht,?_⟩
  repeat (first | walk_at "z r" | simp only [so])
theorem a9u {m:Nat}{i:Int}(h0:0<=i)(h:i < m):ixN m i=some i.toNat:=by unfold ixN;rw [if_pos h0,if_pos h]
theorem b1Y {n:Int}{ts:List Tie}(hw:WebOk n ts){k:List Int}(hk:k∈parK n ts):(∃a,k=[a])\/∃a c,k=[a,c]/\0<=a/\a < c/\c < n/\1<=gainOf ts k:=by
 unfold parK at hk
 rcases List.mem_append.mp hk with z | z
 ·obtain ⟨i,_,rfl⟩:=List.mem_map.mp z;exact .inl ⟨_,rfl⟩
 ·obtain ⟨t,ht,rfl⟩:=List.mem_map.mp z
  have b:=hw.t t ht
  refine .inr ⟨t.1,t.2.1,rfl,b.1,b.2.1,b.2.2.1,?_⟩
  have key:∀ts:List Tie,(∀t∈ts,1<=t.2.2)->t∈ts->1<=gainOf ts [t.1,t.2.1]:=by
   intro ts
   induction ts with
   | nil=>intro _ h;cases h
   | cons u us ih=>
    intro h1 h2
    rw [gainOf]
    split
    ·exact h1 u List.mem_cons_self
    ·rename_i ne
     rcases List.mem_cons.mp h2 with rfl | h2
     ·exact absurd rfl ne
     ·exact ih (fun t ht=>h1 t (List.mem_cons_of_mem _ ht)) h2
  exact key ts (fun t ht=>(hw.t t ht).2.2.2.1) ht
theorem big48 {c:Int}(h2:1<=c)(h3:c<=10 ^ 60):c.natAbs < big:=Nat.lt_of_lt_of_le (Nat.lt_of_le_of_lt (show c.natAbs<=10 ^ 60 by walk_at "o") (show 10 ^ 60 < 2 ^ 300 by decide)) (Nat.pow_le_pow_right (by decide) (by decide))
structure PairOk (n:Int) (ts:List Tie) (ps:List (List Int)):Prop where
 mem:∀p∈ps,p∈parK n ts
 len:ps.length<=8
 prm:ps.flatten.Perm (up n.toNat)
 srt:sortK ps=ps
theorem a4A (ks:List (List Int)):sortK (sortK ks)=sortK ks:=by
 unfold sortK
 apply List.mergeSort_of_pairwise
 have h:=C7 ks
 unfold sortK at h
 exact h.imp fun {a b} hab=>by unfold kleB;rw [hab];rfl
structure Pw (n:Int) (ts:List Tie) (fr:List Int) (ps:List (List Int)):Prop where
 par:∀p∈ps,p∈parK n ts
 perm:(ps.flatten ++ fr).Perm (up n.toNat)
theorem Pw.nd {n:Int}{ts:List Tie}{fr:List Int}{ps:List (List Int)}(h:Pw n ts fr ps):fr.Nodup:=((List.nodup_append.mp (h.perm.nodup_iff.mpr (a3I _))).2).1
theorem Pw.rng {n:Int}{ts:List Tie}{fr:List Int}{ps:List (List Int)}(h:Pw n ts fr ps){x:Int}(hx:x∈fr):0<=x/\x < n.toNat:=a8o.mp (h.perm.mem_iff.mp (List.mem_append_right _ hx))
theorem Pw.step {n:Int}{ts:List Tie}{fr p:List Int}{ps:List (List Int)}(h:Pw n ts fr ps)(hp:p∈parK n ts)(hs:∀x∈p,x∈fr)(hd:p.Nodup):Pw n ts (fr.filter fun x=>!decide (x∈p)) (ps ++ [p]) where
 par:=fun k hk'=>by
  rcases List.mem_append.mp hk' with z | z
  ·exact h.par k z
  ·rw [List.mem_singleton.mp z];exact hp
 perm:=by
  refine List.Perm.trans ?_ h.perm
  rw [List.flatten_append,List.append_assoc]
  refine List.Perm.append_left _ ?_
  rw [List.flatten_cons,List.flatten_nil,List.append_nil]
  rw [List.perm_ext_iff_of_nodup _ h.nd]
  ·intro x
   rw [List.mem_append,List.mem_filter]
   constructor
   ·rintro (z | z)
    ·exact hs x z
    ·exact z.1
   ·intro z
    by_cases hx:x∈p
    ·exact .inl hx
    ·exact .inr ⟨z,by simpa using hx⟩
  ·rw [List.nodup_append]
   exact ⟨hd,h.nd.filter _,fun x hx y hy e=>by subst e;have:=(List.mem_filter.mp hy).2;simp [hx] at this⟩
theorem W0 {gs:List (List Int)}(h:∀k∈gs,1<=k.length):gs.length<=gs.flatten.length:=by
 induction gs with
 | nil=>exact Nat.le_refl _
 | cons g gs ih=>
  have h1:=h g List.mem_cons_self
  have h2:=ih fun k hk=>h k (List.mem_cons_of_mem _ hk)
  rw [List.flatten_cons,List.length_append,List.length_cons]
  walk_at "o"
theorem Pw.len {n:Int}{ts:List Tie}{fr:List Int}{ps:List (List Int)}(h:Pw n ts fr ps)(hw:WebOk n ts):ps.length + fr.length<=8:=by
 have z:=h.perm.length_eq
 rw [List.length_append,show (up n.toNat).length=n.toNat by unfold up;simp] at z
 have:=W0 fun k hk=>(t8 hw (h.par k hk)).2.1
 have:=hw.n1
 walk_at "o"
theorem Pw.fin {n:Int}{ts:List Tie}{ps:List (List Int)}(h:Pw n ts [] ps)(hw:WebOk n ts):PairOk n ts (sortK ps):=⟨fun p hp=>h.par p ((i0 ps).mem_iff.mp hp),by
 rw [(i0 ps).length_eq];have:=h.len hw;walk_at "o",((i0 ps).flatten).trans (by have:=h.perm;rwa [List.append_nil] at this),a4A ps⟩
def isF (x:Int) (fr:List Int):D->Bool
 | .tup [.int a,.int b,.int _]=>a == x && decide (b∈fr)
 | _=>false
theorem a2K (x:Int)(fr:List Int):∀ts:List Tie,((ts.map tieD).filter (isF x fr)).map cut2=((ts.filter fun t=>t.1 == x && decide (t.2.1∈fr)).map fun t=>[t.1,t.2.1]).map tupI
 | []=>rfl
 | t :: ts=>by
  have ih:=a2K x fr ts
  rw [List.map_cons,List.filter_cons,List.filter_cons]
  have e:isF x fr (tieD t)=(t.1 == x && decide (t.2.1∈fr)):=rfl
  rw [e]
  cases (t.1 == x && decide (t.2.1∈fr)) with
  | true=>simp only [if_true,List.map_cons];rw [ih];rfl
  | false=>simp only [Bool.false_eq_true,if_false];exact ih
def isN (p:List Int):D->Bool
 | .int o=>!decide (o∈p)
 | _=>false
theorem a25 (p:List Int):∀l:List Int,((l.map D.int).filter (isN p)).map id=(l.filter fun o=>!decide (o∈p)).map D.int
 | []=>rfl
 | x :: l=>by
  have ih:=a25 p l
  rw [List.map_cons,List.filter_cons,List.filter_cons]
  have e:isN p (.int x)= !decide (x∈p):=rfl
  rw [e]
  cases decide (x∈p) with
  | false=>simp only [Bool.not_false,if_true,List.map_cons];rw [ih];rfl
  | true=>simp only [Bool.not_true,Bool.false_eq_true,if_false];exact ih
theorem a7U {qs:List (List Int)}(h:1<=qs.length):∃l,l∈qs/\cutD (qs.map tupI) (some (-1)) none=[l].map tupI:=by
 unfold cutD
 have e:HT.sIx (qs.map tupI).length 0 (some (-1))=qs.length - 1:=by
  unfold HT.sIx
  rw [List.length_map]
  simp only []
  split <;> walk_at "o"
 rw [e,HT.sIx_none,List.length_map,<-List.map_drop,<-List.map_take,List.take_of_length_le (by rw [List.length_drop];walk_at "o")]
 obtain ⟨l,hl⟩:∃l,qs.drop (qs.length - 1)=[l]:=List.length_eq_one_iff.mp (by rw [List.length_drop];walk_at "o")
 exact ⟨l,List.mem_of_mem_drop (by rw [hl];exact List.mem_singleton_self _),by rw [hl]⟩
def lenF:List (Option W)->Nat:=fun ρ=>match ρ[2]? with
 | some (some (W.o (D.lst xs)))=>xs.length
 | _=>0
abbrev D3:Stmt:=top 38
theorem K5:FnScope ["web","number","free","found","person","some","at","party"] ["web","number"] (defScope D3):=by walk_at "c"
def N2 (g:LO):Prop:=∀(n num:Int) (ts:List Tie),WebOk n ts->∃(ps:List (List Int)) (num':Int),PairOk n ts ps/\g [webD n ts,.int num]=some (.v (.tup [.tup (ps.map tupI),.int num']))
theorem a0p (a4O:mg "list"=none)(m6:mg "range"=none)(j1:mg "divmod"=none)(l0:mg "tuple"=none)(j0:mg "sorted"=none)(m_len:mg "len"=none)(m_int:mg "int"=none)(F:Fun K "_law_pairing" "_law_pairing" D3 f fd)(B:Binds K fd ["web","number"] [])(hm:mg "_law_pairing"=some (.ref f)):∃g,Fn P w K mg base "_law_pairing" (k + 1) g/\N2 g:=by
 have nd:=K5.nd
 refine ⟨_,o0 F K5 B hm rfl rfl (fun cdv A outer s H E hr=>(b8 (j7 2 nd (a7n rfl a4O m6 (a8 (g5 hr (a7 0) b0) a9)))
  (b8 (j7 3 nd (z7 a9))
  (b8 (W1 PySem.PassesOwn.never (a3h hr (a7 2) (z7 a9)) (b8 (j7 4 nd (g5 hr (a7 2) b0))
  (b8 (j7 5 nd (z7 (a8 (j8 (a8 (a7 4) a9)) a9)))
  (b8 (C6 (Z7 (a7 5) (a8 (s0 (N:=["a","b","gain","person","free"]) (js:=[none,none,none,some 4,some 2]) (li:=none) rfl (t9 (by exact (.own (.own (.own (.cap rfl rfl rfl rfl (.cap rfl rfl rfl rfl .nil)))))) rfl (by exact ⟨rfl,⟨rfl,trivial⟩⟩) (by rfl)) (E7 (A1 (g5 hr (a7 0) b0))) (fun _ _ _ _=>(k7 rfl (c6 (b9 0 (show ((["a","b","gain","person","free"]:List Str) ++ [accN]).Nodup by decide +kernel)) (c6 (b9 1 (show ((["a","b","gain","person","free"]:List Str) ++ [accN]).Nodup by decide +kernel)) (c6 (b9 2 (show ((["a","b","gain","person","free"]:List Str) ++ [accN]).Nodup by decide +kernel)) j5))))) (fun _ _ _ _=>(a0z rfl (a3m (a4S (a1E hr (a7 0) (a7 3)) (a21 (a8e hr (a7 1) (a7 4))))))) (fun _ _ _ _=>(j8 (a8 (a7 0) (a8 (a7 1) a9))))) a9)))
  (b8 (o9 (l6 j1 (a8 (a7 1) (a8 (k6 (qx_b u5 S9 m_len (a8 (a7 5) a9)) (qx_t a6U b2f m_int (a8 (qx_gt (qx_b u5 S9 m_len (a8 (a7 5) a9)) b0) a9))) a9))) (k7 rfl (c6 (b9 1 nd) (c6 (b9 6 nd) j5))))
  (b8 (j7 7 nd (g5 hr (k6 (a7 5) (U8 (a7 5) (a0q (a4N b0)) a0t)) (a7 6)))
  (b8 (C6 (G1 (a7 3) (a8 (a7 7) a9)))
  (c7 (j7 2 nd (s0 (N:=["one","party"]) (js:=[none,some 7]) (li:=none) rfl (t9 (by exact (.own (.cap rfl rfl rfl rfl .nil))) rfl (by exact ⟨rfl,trivial⟩) (by rfl)) (C0 2) (fun _ _ _ _=>(b9 0 (show ((["one","party"]:List Str) ++ [accN]).Nodup by decide +kernel))) (fun _ _ _ _=>(a0z rfl (a6o hr (a7 0) (a7 1)))) (fun _ _ _ _=>(a7 0))))))))))))
  (c7 (g9 (j8 (a8 (qx_t w6 K9 l0 (a8 (z9 hr rfl j0 (a8 (a7 3) a9)) a9)) (a8 (a7 1) a9))))))))),?_⟩
 intro n num ts hw
 have hn:=hw.n1
 have hl:=hw.len
 have r1:(0<=n/\n<=1000):=by walk_at "o"
 have ew:webD n ts= .tup [.int n,.tup (ts.map tieD)]:=rfl
 have ru:rngD 0 n.toNat=(up n.toNat).map .int:=b2e _
 have lu:lfL ((up n.toNat).map D.int)=true:=u7 _
 rw [ew]
 repeat (first | walk_at "z i" | simp only [r1,ru,lu,if_true,and_self])
 generalize ew:whileV _ _ _=r
 refine a0X ew (fun ρ=>∃(num:Int) (fr:List Int) (ps:List (List Int)) (o4:Option D) (o5:Option (List (List Int))) (o6 o7:Option D),ρ=[some (.v (.tup [.int n,.tup (ts.map tieD)])),some (.v (.int num)),some (.o (.lst (fr.map .int))),some (.o (.lst (ps.map tupI))),o4.map .v,o5.map fun m=>.o (.lst (m.map tupI)),o6.map .v,o7.map .v]/\Pw n ts fr ps) (fun ρ=>∃(num:Int) (ps:List (List Int)) (o4:Option D) (o5:Option (List (List Int))) (o6 o7:Option D),ρ=[some (.v (.tup [.int n,.tup (ts.map tieD)])),some (.v (.int num)),some (.o (.lst [])),some (.o (.lst (ps.map tupI))),o4.map .v,o5.map fun m=>.o (.lst (m.map tupI)),o6.map .v,o7.map .v]/\Pw n ts [] ps) lenF ⟨num,up n.toNat,[],none,none,none,none,rfl,⟨(fun _ h=>by cases h),List.Perm.refl _⟩⟩ ?_ ?_
 ·rintro _ ⟨num,fr,ps,o4,o5,o6,o7,rfl,hp⟩
  have fr5:freeO (o5.map fun m=>W.o (.lst (m.map tupI)))=true:=by cases o5 <;> rfl
  cases fr with
  | nil=>
   refine .inl ⟨_,?_,num,ps,o4,o5,o6,o7,rfl,hp⟩
   repeat (first | walk_at "z r")
  | cons x l=>
   refine .inr ⟨[some (.v (.tup [.int n,.tup (ts.map tieD)])),some (.v (.int num)),some (.o (.lst ((x :: l).map .int))),some (.o (.lst (ps.map tupI))),o4.map .v,o5.map fun m=>.o (.lst (m.map tupI)),o6.map .v,o7.map .v],?_⟩
   have a0:atI ((x :: l).map D.int) 0=some (.int x):=by rw [List.map_cons];exact a_0
   have hx:x∈x :: l:=List.mem_cons_self
   generalize eL:x :: l=L at hp hx a0
   have hlen:=hp.len hw
   obtain ⟨Q,eQ⟩:∃Q,((ts.filter fun t=>t.1 == x && decide (t.2.1∈L)).map fun t=>[t.1,t.2.1])=Q:=⟨_,rfl⟩
   have hQ:Q.length<=55:=by rw [<-eQ,List.length_map];exact Nat.le_trans (List.length_filter_le _ _) hl
   have good:∀q∈[x] :: Q,q∈parK n ts/\(∀y∈q,y∈L)/\q.Nodup/\x∈q:=by
    intro q hq
    rcases List.mem_cons.mp hq with rfl | hq
    ·refine ⟨?_,fun y hy=>by rw [List.mem_singleton.mp hy];exact hx,by simp,List.mem_singleton_self _⟩
     have:=hp.rng hx
     rw [a3p]
     exact .inl ⟨x.toNat,by walk_at "o",by congr 1;walk_at "o"⟩
    ·rw [<-eQ] at hq
     obtain ⟨t,ht,rfl⟩:=List.mem_map.mp hq
     obtain ⟨ht1,ht2⟩:=List.mem_filter.mp ht
     have ht2:t.1=x/\t.2.1∈L:=by simpa using ht2
     have b:=hw.t t ht1
     refine ⟨List.mem_append_right _ (List.mem_map.mpr ⟨t,ht1,rfl⟩),?_,?_,?_⟩
     ·intro y hy
      simp only [List.mem_cons,List.not_mem_nil,or_false] at hy
      rcases hy with rfl | rfl
      ·rw [ht2.1];exact hx
      ·exact ht2.2
     ·have:t.1≠t.2.1:=by walk_at "o"
      simp [this]
     ·rw [ht2.1];simp
   obtain ⟨last,hlast,ecut⟩:=a7U (qs:=[x] :: Q) (by simp)
   have ecut:cutD (D.tup [.int x] :: Q.map tupI) (some (-1)) none=[tupI last]:=ecut
   obtain ⟨DV,eDV,hDV⟩:∃DV:Int,((Q.length + 1:Nat):Int) + (if decide (1 < ((Q.length + 1:Nat):Int))=true then 1 else 0)=DV/\1<=DV/\DV<=((Q.length + 1:Nat):Int) + 1:=⟨_,rfl,by split <;> walk_at "o",by split <;> walk_at "o"⟩
   have dD:dOk DV:=m9 (by walk_at "o") (by walk_at "o")
   obtain ⟨A,eA,hA⟩:∃A:Int,num % DV=A/\0<=A/\A < DV:=⟨_,rfl,Int.emod_nonneg _ (by walk_at "o"),Int.emod_lt_of_pos _ (by walk_at "o")⟩
   obtain ⟨p,hp1,hp2⟩:∃p,p∈[x] :: Q/\atI ((([x] :: Q) ++ [last]).map tupI) A=some (tupI p):=by
    have hi:A.toNat < (([x] :: Q) ++ [last]).length:=by rw [List.length_append,List.length_singleton,List.length_cons];walk_at "o"
    refine ⟨(([x] :: Q) ++ [last])[A.toNat],?_,?_⟩
    ·rcases List.mem_append.mp (List.getElem_mem hi) with z | z
     ·exact z
     ·rw [List.mem_singleton.mp z];exact hlast
    ·refine a88 hA.1 ?_
     rw [List.getElem?_map,List.getElem?_eq_getElem hi];rfl
   obtain ⟨g1,g2,g3,g4⟩:=good p hp1
   have st:=hp.step g1 g2 g3
   obtain ⟨M,eM⟩:∃M,(L.filter fun y=>!decide (y∈p))=M:=⟨_,rfl⟩
   rw [eM] at st
   have hM:M.length < L.length:=by
    rw [<-eM]
    refine List.length_filter_lt_length_iff_exists.mpr ⟨x,hx,by simpa using g4⟩
   have lfQ:=z4 Q
   have lfM:=u7 M
   have la:ps.length < 1000000:=by walk_at "o"
   have le:1 + Q.length<=1000000:=by walk_at "o"
   have le2:Q.length<=999998:=by walk_at "o"
   have hp2:atI (D.tup [.int x] :: (Q.map tupI ++ [tupI last])) A=some (tupI p):=by
    rw [List.map_append] at hp2;exact hp2
   have lfp:=a0x p
   refine ⟨[some (.v (.tup [.int n,.tup (ts.map tieD)])),some (.v (.int (num / DV))),some (.o (.lst (M.map .int))),some (.o (.lst ((ps ++ [p]).map tupI))),some (.v (.int x)),some (.o (.lst (([x] :: Q).map tupI))),some (.v (.int A)),some (.v (tupI p))],?_,?_,⟨_,M,ps ++ [p],some (.int x),some ([x] :: Q),some (.int A),some (tupI p),rfl,st⟩,?_⟩
   ·rw [<-eL]
    repeat (first | walk_at "z r")
   ·repeat (first | walk_at "z i" | simp only [a0,fr5,List.length_map])
    rw [m5 (ρ1:=[some (.v (.tup [.int n,.tup (ts.map tieD)])),some (.v (.int num)),some (.o (.lst (L.map .int))),some (.o (.lst (ps.map tupI))),some (.v (.int x)),some (.o (.lst [.tup [.int x]])),o6.map .v,o7.map .v]) (xs:=ts.map tieD) (fun B=>∃o1 o2 o3:Option D,B=[o1.map .v,o2.map .v,o3.map .v,some (.v (.int x)),some (.v (.lst (L.map .int)))]) (isF x L) cut2]
    ·rw [a2K,eQ]
     repeat (first | walk_at "z i" | simp only [List.length_map,le,lfQ,List.length_cons,List.length_nil,if_true])
     repeat (first | walk_at "z i" | simp only [eDV,r_dm dD,eA,ecut,List.length_map,List.length_cons,List.length_nil,List.length_append,le2])
     repeat (first | walk_at "z i" | simp only [hp2,la,lfp,List.length_map])
     rw [m5 (ρ1:=[some (.v (.tup [.int n,.tup (ts.map tieD)])),some (.v (.int (num / DV))),some (.o (.lst (L.map .int))),some (.o (.lst (ps.map tupI ++ [tupI p]))),some (.v (.int x)),some (.o (.lst (.tup [.int x] :: Q.map tupI))),some (.v (.int A)),some (.v (tupI p))]) (xs:=L.map .int) (fun B=>∃o1:Option D,B=[o1.map .v,some (.v (tupI p))]) (isN p) id]
     ·rw [a25,eM]
      repeat (first | walk_at "z r" | simp only [lfM,List.map_append])
      rfl
     ·repeat (first | walk_at "z r")
     ·rintro _ ⟨_,rfl⟩;rfl
     ·exact ⟨none,rfl⟩
     ·rw [List.length_map];unfold lim;walk_at "o"
     ·rw [a25];exact u7 _
     ·rintro y hy _ zs ⟨o1,rfl⟩
      obtain ⟨y,_,rfl⟩:=E1 hy
      have tl:=a9J (b:=true) (n:=y) (j6 p)
      refine ⟨[some (.v (.int y)),some (.v (tupI p))],.v (.int y),⟨some _,rfl⟩,?_,?_,fun _=>⟨?_,.inl rfl⟩⟩
      ·repeat (walk_at "z r")
      ·rw [show isN p (.int y)= !decide (y∈p) from rfl]
       unfold tupI
       repeat (first | walk_at "z r" | simp only [tl])
      ·repeat (walk_at "z r")
    ·repeat (first | walk_at "z r")
    ·rintro _ ⟨_,_,_,rfl⟩;rfl
    ·exact ⟨none,none,none,rfl⟩
    ·rw [List.length_map];unfold lim;walk_at "o"
    ·rw [a2K];exact z4 _
    ·rintro y hy _ zs ⟨o1,o2,o3,rfl⟩
     obtain ⟨⟨a,b,c⟩,ha,rfl⟩:=List.mem_map.mp hy
     have tl:=a9R (b:=false) (n:=b) (j6 L)
     refine ⟨[some (.v (.int a)),some (.v (.int b)),some (.v (.int c)),some (.v (.int x)),some (.v (.lst (L.map .int)))],.v (.tup [.int a,.int b]),⟨some _,some _,some _,rfl⟩,?_,?_,fun _=>⟨?_,.inl rfl⟩⟩
     ·unfold tieD
      repeat (walk_at "z r")
     ·rw [show isF x L (tieD (a,b,c))=(a == x && decide (b∈L)) from rfl]
      cases hax:(a == x) with
      | true=>repeat (first | walk_at "z r" | simp only [tl,hax])
      | false=>repeat (first | walk_at "z r" | simp only [tl,hax])
     ·repeat (walk_at "z r")
   ·show (M.map D.int).length < (L.map D.int).length
    rw [List.length_map,List.length_map]
    exact hM
 ·rintro _ rfl ⟨num,ps,o4,o5,o6,o7,rfl,hp⟩
  have hlen:=hp.len hw
  have so:=B9 (ks:=ps) (by walk_at "o") (fun k hk=>(N9 hw).2 k (hp.par k hk))
  refine ⟨sortK ps,num,hp.fin hw,?_⟩
  repeat (first | walk_at "z r" | simp only [so])
structure Shr (n:Int) (ts:List Tie) (ps:List (List Int)) (ss:List Rat):Prop where
 len:ss.length=n.toNat
 sz:∀s∈ss,Sz 50 s
 pos:∀s∈ss,0<=s
 zer:∀p∈ps,slackR ts ss p=0
theorem Shr.ok {n:Int}{ts:List Tie}{ps:List (List Int)}{ss:List Rat}(h:Shr n ts ps ss):ShOk n ss:=⟨h.len,fun s hs=>(h.sz s hs).mono (by decide)⟩
structure Sg (n:Int) (ts:List Tie) (ps:List (List Int)) (i:Nat) (ss:List Rat):Prop where
 len:ss.length=n.toNat
 sz:∀s∈ss,Sz 50 s
 pos:∀s∈ss,0<=s
 zer:∀p∈ps.take i,slackR ts ss p=0
 nul:∀x∈(ps.drop i).flatten,ss.getD x.toNat 0=0
theorem Sg.start {n:Int}{ts:List Tie}{ps:List (List Int)}:Sg n ts ps 0 (List.replicate n.toNat 0):=⟨List.length_replicate,fun s hs=>by rw [(List.mem_replicate.mp hs).2];exact sz_0.mono (by decide),fun s hs=>by rw [(List.mem_replicate.mp hs).2];exact Rat.le_refl,fun p hp=>by simp at hp,fun x _=>by
 rw [List.getD_eq_getElem?_getD,List.getElem?_replicate];split <;> rfl⟩
theorem Sg.fin {n:Int}{ts:List Tie}{ps:List (List Int)}{i:Nat}{ss:List Rat}(h:Sg n ts ps i ss)(hi:i=ps.length):Shr n ts ps ss:=⟨h.len,h.sz,h.pos,fun p hp=>h.zer p (by rw [hi,List.take_length];exact hp)⟩
theorem a2H {ts:List Tie}{ss ss':List Rat}{p:List Int}(h:∀x∈p,ss.getD x.toNat 0=ss'.getD x.toNat 0):slackR ts ss p=slackR ts ss' p:=by
 unfold slackR
 rw [List.map_congr_left h]
theorem a6g {ps:List (List Int)}{i:Nat}{k:List Int}(hk:ps[i]? =some k):ps.drop i=k :: ps.drop (i + 1):=by
 have:=(List.getElem?_eq_some_iff.mp hk)
 obtain ⟨hi,e⟩:=this
 rw [List.drop_eq_getElem_cons hi,e]
theorem Sg.one {n:Int}{ts:List Tie}{ps:List (List Int)}{i:Nat}{ss:List Rat}{a:Int}(h:Sg n ts ps i ss)(hp:PairOk n ts ps)(hk:ps[i]? =some [a]):Sg n ts ps (i + 1) ss:=by
 have hd:=a6g hk
 refine ⟨h.len,h.sz,h.pos,fun p hp'=>?_,fun x hx=>h.nul x (by rw [hd,List.flatten_cons];exact List.mem_append_right _ hx)⟩
 rw [List.take_add_one,hk] at hp'
 rcases List.mem_append.mp hp' with z | z
 ·exact h.zer p z
 ·have:p=[a]:=by simpa using z
  subst this
  have e:=h.nul a (by rw [hd,List.flatten_cons];simp)
  unfold slackR
  rw [R1,List.map_cons,List.map_nil,e,sumR,sumR]
  first | grind | simp
theorem a0y {ss:List Rat}{i j:Nat}{v:Rat}(h:i≠j):(ss.set i v).getD j 0=ss.getD j 0:=by
 rw [List.getD_eq_getElem?_getD,List.getD_eq_getElem?_getD,List.getElem?_set_ne h]
theorem Sg.two {n:Int}{ts:List Tie}{ps:List (List Int)}{i:Nat}{ss:List Rat}{a c G:Int}{q q':Rat}(h:Sg n ts ps i ss)(hp:PairOk n ts ps)(hk:ps[i]? =some [a,c])(eG:gainOf ts [a,c]=G)(zq:Sz 50 q)(zr:Sz 50 q')(nq:0<=q)(nr:0<=q')(sq:q + q'=(G:Rat)):Sg n ts ps (i + 1) ((ss.set a.toNat q).set c.toNat q'):=by
 have hd:=a6g hk
 have nd:ps.flatten.Nodup:=(hp.prm.nodup_iff).mpr (a3I _)
 have fl:ps.flatten=(ps.take i).flatten ++ ([a,c] ++ (ps.drop (i + 1)).flatten):=by
  rw [<-List.flatten_cons,<-hd,<-List.flatten_append,List.take_append_drop]
 have inU:∀x∈ps.flatten,0<=x/\x < n.toNat:=fun x hx=>a8o.mp (hp.prm.mem_iff.mp hx)
 rw [fl] at nd inU
 rw [List.nodup_append,List.nodup_append] at nd
 obtain ⟨n1,⟨n2,n3,n4⟩,n5⟩:=nd
 have ia:=inU a (by simp)
 have ic:=inU c (by simp)
 have ac:a≠c:=by simpa using n2
 have far:∀x,0<=x->x≠a->x≠c->((ss.set a.toNat q).set c.toNat q').getD x.toNat 0=ss.getD x.toNat 0:=fun x h0 h1 h2=>by
  rw [a0y (by walk_at "o"),a0y (by walk_at "o")]
 have mem:∀s∈(ss.set a.toNat q).set c.toNat q',s∈ss\/s=q\/s=q':=fun s hs=>by
  rcases List.mem_or_eq_of_mem_set hs with z | z
  ·rcases List.mem_or_eq_of_mem_set z with z | z
   ·exact .inl z
   ·exact .inr (.inl z)
  ·exact .inr (.inr z)
 refine ⟨by rw [List.length_set,List.length_set];exact h.len,fun s hs=>?_,fun s hs=>?_,fun p hp'=>?_,fun x hx=>?_⟩
 ·rcases mem s hs with z | rfl | rfl
  ·exact h.sz s z
  ·exact zq
  ·exact zr
 ·rcases mem s hs with z | rfl | rfl
  ·exact h.pos s z
  ·exact nq
  ·exact nr
 ·rw [List.take_add_one,hk] at hp'
  rcases List.mem_append.mp hp' with z | z
  ·rw [a2H (ss':=ss) fun x hx=>?_]
   ·exact h.zer p z
   ·have hx':x∈(ps.take i).flatten:=List.mem_flatten.mpr ⟨p,z,hx⟩
    exact far x (inU x (List.mem_append_left _ hx')).1 (fun e=>n5 x hx' a (by simp) e) (fun e=>n5 x hx' c (by simp) e)
  ·have:p=[a,c]:=by simpa using z
   subst this
   have e1:((ss.set a.toNat q).set c.toNat q').getD a.toNat 0=q:=by
    rw [a0y (by walk_at "o"),List.getD_eq_getElem?_getD,List.getElem?_set_self (by rw [h.len];walk_at "o")];rfl
   have e2:((ss.set a.toNat q).set c.toNat q').getD c.toNat 0=q':=by
    rw [List.getD_eq_getElem?_getD,List.getElem?_set_self (by rw [List.length_set,h.len];walk_at "o")];rfl
   unfold slackR
   rw [eG,List.map_cons,List.map_cons,List.map_nil,e1,e2,sumR,sumR,sumR]
   grind
 ·have hx2:x∈ps.flatten:=by rw [fl];exact List.mem_append_right _ (List.mem_append_right _ hx)
  rw [far x (inU x (by rw [<-fl];exact hx2)).1 (fun e=>n4 a (by simp) x hx e.symm) (fun e=>n4 c (by simp) x hx e.symm)]
  exact h.nul x (by rw [hd,List.flatten_cons];exact List.mem_append_right _ hx)
theorem a6M {g a b:Int}(hb:0 < b):Rat.divInt (g * a) b + Rat.divInt (g * (b - a)) b=(g:Rat):=by
 have hn:(b:Rat)≠0:=by
  intro h
  have:b=0:=by exact_mod_cast h
  walk_at "o"
 rw [Rat.divInt_eq_div,Rat.divInt_eq_div,Rat.intCast_mul,Rat.intCast_mul,Rat.intCast_sub]
 grind
abbrev F2:Stmt:=top 40
theorem O2:FnScope ["web","pairing","number","shares","party","bottom","top","gain"] ["web","pairing","number"] (defScope F2):=by walk_at "c"
def R0 (g:LO):Prop:=∀(n num:Int) (ts:List Tie) (ps:List (List Int)),WebOk n ts->PairOk n ts ps->∃(ss:List Rat) (num':Int),Shr n ts ps ss/\g [webD n ts,.tup (ps.map tupI),.int num]=some (.v (.tup [.tup (ss.map ratD),.int num']))
theorem a09 {L6:LO}{A8:LO}(L7:Fn P w K mg base "_law_gain" k L6)(M3:a0b L6)(z6:Fn P w K mg base "_law_low" k A8)(z5:S7 A8)(l0:mg "tuple"=none)(m_len:mg "len"=none)(j1:mg "divmod"=none)(F:Fun K "_law_shares" "_law_shares" F2 f fd)(B:Binds K fd ["web","pairing","number"] [])(hm:mg "_law_shares"=some (.ref f)):∃g,Fn P w K mg base "_law_shares" (k + 1) g/\R0 g:=by
 have nd:=O2.nd
 refine ⟨_,o0 F O2 B hm rfl rfl (fun cdv A outer s H E hr=>(b8 (j7 3 nd (a8Z (z7 (a8 (j8 (a8 b0 (a8 b0 a9))) a9)) (g5 hr (a7 0) b0)))
  (b8 (F4 PySem.PassesOwn.never rfl (A1 (a7 1)) (b9 4 nd) (c7 (G0 (a1E hr (qx_b u5 S9 m_len (a8 (a7 4) a9)) b0) (b8 (o9 (l6 j1 (a8 (a7 2) (a8 b0 a9))) (k7 rfl (c6 (b9 2 nd) (c6 (b9 5 nd) j5))))
  (b8 (o9 (l6 j1 (a8 (a7 2) (a8 (k6 (a7 5) b0) a9))) (k7 rfl (c6 (b9 2 nd) (c6 (b9 6 nd) j5))))
  (b8 (j7 7 nd (c9 L7 hr (a8 (a7 0) (a8 (a7 4) a9))))
  (b8 (o9 (c9 z6 hr (a8 (p0 (a7 7) (a7 6)) (a8 (k6 (a7 5) b0) a9))) (a7o (a7 3) (g5 hr (a7 4) b0)))
  (c7 (o9 (c9 z6 hr (a8 (p0 (a7 7) (R7 (k6 (a7 5) b0) (a7 6))) (a8 (k6 (a7 5) b0) a9))) (a7o (a7 3) (g5 hr (a7 4) b0)))))))) w8)))
  (c7 (g9 (j8 (a8 (qx_t w6 K9 l0 (a8 (a7 3) a9)) (a8 (a7 2) a9)))))))),?_⟩
 intro n num ts ps hw hpo
 have hps:=hpo.mem
 have hpl:=hpo.len
 have hn:=hw.n1
 have eg:=M3 n
 have r1:((-(2 ^ 63:Int)<=n/\n < 2 ^ 63)/\1 * n.toNat<=1000000):=by walk_at "o"
 have ew:webD n ts= .tup [.int n,.tup (ts.map tieD)]:=rfl
 have rp:(List.replicate n.toNat [D.tup [.int 0,.int 1]]).flatten=(List.replicate n.toNat (0:Rat)).map ratD:=by
  rw [List.map_replicate,List.flatten_replicate_singleton];rfl
 have orp:oRep (.lst [D.tup [.int 0,.int 1]]) (.int n)=some (.o (.lst ((List.replicate n.toNat (0:Rat)).map ratD))):=by
  rw [b0H ⟨r1.1,by rw [List.length_singleton];exact r1.2⟩,rp]
 rw [ew]
 repeat (first | walk_at "z i" | simp only [orp])
 generalize el:loopF _ _ _=r
 refine K4 el (fun i ρ=>∃(num:Int) (o4 o5 o6 o7:Option D) (ss:List Rat),ρ=[some (.v (.tup [.int n,.tup (ts.map tieD)])),some (.v (.tup (ps.map tupI))),some (.v (.int num)),some (.o (.lst (ss.map ratD))),o4.map .v,o5.map .v,o6.map .v,o7.map .v]/\Sg n ts ps i ss) ⟨num,none,none,none,none,_,rfl,Sg.start⟩ ?_ ?_
 ·rintro i x _ hx ⟨num,o4,o5,o6,o7,ss,rfl,hss⟩
  rw [List.getElem?_map] at hx
  cases hk:ps[i]? with
  | none=>rw [hk] at hx;cases hx
  | some k=>
   rw [hk] at hx;cases hx
   have hkm:=hps k (List.mem_of_getElem? hk)
   rcases b1Y hw hkm with ⟨a,rfl⟩ | ⟨a,c,rfl,ha,hac,hc,hg1⟩
   ·refine ⟨_,?_,num,some (tupI [a]),o5,o6,o7,ss,rfl,hss.one hpo hk⟩
    have z12:(((1:Nat):Int) == 2)=false:=rfl
    unfold tupI
    repeat (first | walk_at "z r" | simp only [z12])
   ·have z22:(((2:Nat):Int) == 2)=true:=rfl
    have hG:=Z1 hw.t [a,c]
    have lk2:=eg a c ts hw
    rw [ew] at lk2
    generalize eG:gainOf ts [a,c]=G at hG hg1 lk2
    obtain ⟨b,eb,hb⟩:∃b:Int,num % 12=b/\0<=b/\b < 12:=⟨_,rfl,Int.emod_nonneg _ (by decide),Int.emod_lt_of_pos _ (by decide)⟩
    obtain ⟨t,et,ht⟩:∃t:Int,num / 12 % (b + 2)=t/\0<=t/\t < b + 2:=⟨_,rfl,Int.emod_nonneg _ (by walk_at "o"),Int.emod_lt_of_pos _ (by walk_at "o")⟩
    have d12:dOk 12:=m9 (by decide) (by decide)
    have db:dOk (b + 2):=m9 (by walk_at "o") (by walk_at "o")
    have mm:∀t:Int,0<=t->t<=12->0<=G * t/\G * t<=12 * 10 ^ 12:=fun t h0 h1=>⟨Int.mul_nonneg hG.1 h0,by
     have:=Int.mul_le_mul hG.2 h1 h0 (by decide)
     exact Int.le_trans this (by decide)⟩
    have m1:=mm t ht.1 (by walk_at "o")
    have m2:=mm (b + 1 - t) (by walk_at "o") (by walk_at "o")
    have b1:(b + 1).natAbs < big:=big48 (by walk_at "o") (by walk_at "o")
    have er1:=z5 (G * t) (b + 1) (by walk_at "o") b1
    have er2:=z5 (G * (b + 1 - t)) (b + 1) (by walk_at "o") b1
    have sq:=a6M (g:=G) (a:=t) (b:=b + 1) (by walk_at "o")
    have zq:Sz 50 (Rat.divInt (G * t) (b + 1)):=a4z (by walk_at "o") (Nat.lt_of_le_of_lt (show (G * t).natAbs<=12 * 10 ^ 12 by walk_at "o") (by decide)) (Nat.lt_of_le_of_lt (show (b + 1).natAbs<=12 by walk_at "o") (by decide))
    have zr:Sz 50 (Rat.divInt (G * (b + 1 - t)) (b + 1)):=a4z (by walk_at "o") (Nat.lt_of_le_of_lt (show (G * (b + 1 - t)).natAbs<=12 * 10 ^ 12 by walk_at "o") (by decide)) (Nat.lt_of_le_of_lt (show (b + 1).natAbs<=12 by walk_at "o") (by decide))
    have nq:0<=Rat.divInt (G * t) (b + 1):=Rat.divInt_nonneg m1.1 (by walk_at "o")
    have nr:0<=Rat.divInt (G * (b + 1 - t)) (b + 1):=Rat.divInt_nonneg m2.1 (by walk_at "o")
    generalize Rat.divInt (G * t) (b + 1)=q at er1 zq nq sq
    generalize Rat.divInt (G * (b + 1 - t)) (b + 1)=q' at er2 zr nr sq
    have hlen:=hss.len
    have x1:ixN (ss.map ratD).length a=some a.toNat:=a9u ha (by rw [List.length_map];walk_at "o")
    have x2:ixN ((ss.set a.toNat q).map ratD).length c=some c.toNat:=a9u (by walk_at "o") (by rw [List.length_map,List.length_set];walk_at "o")
    have s1:(ss.map ratD).set a.toNat (ratD q)=(ss.set a.toNat q).map ratD:=List.map_set.symm
    have s2:((ss.set a.toNat q).map ratD).set c.toNat (ratD q')=((ss.set a.toNat q).set c.toNat q').map ratD:=List.map_set.symm
    have mk1:mOk G t:=.inr (.inl (by walk_at "o"))
    have mk2:mOk G (b + 1 - t):=.inr (.inl (by walk_at "o"))
    refine ⟨_,?_,num / 12 / (b + 2),some (tupI [a,c]),some (.int b),some (.int t),some (.int G),(ss.set a.toNat q).set c.toNat q',rfl,hss.two hpo hk eG zq zr nq nr sq⟩
    unfold tupI
    repeat (first | walk_at "z r" | simp only [z22,r_dm d12,r_dm db,eb,et,lk2,mk1,mk2,er1,er2,S8,x1,s1,x2,s2])
 ·rintro _ rfl ⟨num,o4,o5,o6,o7,ss,rfl,hss⟩
  have lr:=a2i ss
  refine ⟨ss,num,hss.fin (by rw [List.length_map]),?_⟩
  repeat (first | walk_at "z r" | simp only [lr])
theorem a08:∀(rs:List Rat) (r t:Rat),sumR rs (r + t)=sumR rs r + t
 | [],r,t=>rfl
 | x :: rs,r,t=>by rw [sumR,sumR,<-a08 rs,Rat.add_assoc,Rat.add_comm t x,<-Rat.add_assoc]
theorem p8 (x:Rat)(xs:List Rat):sumR (x :: xs) 0=x + sumR xs 0:=by
 rw [sumR,a08,Rat.add_comm]
theorem a3s:∀xs ys:List Rat,sumR (xs ++ ys) 0=sumR xs 0 + sumR ys 0
 | [],ys=>by rw [List.nil_append,show sumR [] 0=(0:Rat) from rfl,Rat.zero_add]
 | x :: xs,ys=>by rw [List.cons_append,p8,p8,a3s xs,Rat.add_assoc]
theorem a6B {xs ys:List Rat}(h:xs.Perm ys):sumR xs 0=sumR ys 0:=by
 induction h with
 | nil=>rfl
 | cons x _ ih=>rw [p8,p8,ih]
 | swap x y l=>rw [p8,p8,p8,p8];grind
 | trans _ _ h1 h2=>rw [h1,h2]
theorem a0c:∀{xs:List Rat},(∀x∈xs,0<=x)->0<=sumR xs 0
 | [],_=>Rat.le_refl
 | x :: xs,h=>by
  rw [p8]
  have h1:=h x List.mem_cons_self
  have h2:=a0c fun y hy=>h y (List.mem_cons_of_mem _ hy)
  grind
theorem S6 (ts:List Tie)(ss:List Rat):∀ks:List (List Int),sumR (ks.map (slackR ts ss)) 0=sumR (ks.flatten.map fun i=>ss.getD i.toNat 0) 0 - (((ks.map (gainOf ts)).sum:Int):Rat)
 | []=>by simp [sumR];grind
 | k :: ks=>by
  rw [List.map_cons,p8,S6 ts ss ks,List.flatten_cons,List.map_append,a3s,List.map_cons,List.sum_cons,Rat.intCast_add]
  unfold slackR
  grind
theorem a1W:∀{xs:List Rat},(∀x∈xs,x=0)->sumR xs 0=0
 | [],_=>rfl
 | x :: xs,h=>by
  rw [p8,h x List.mem_cons_self,a1W fun y hy=>h y (List.mem_cons_of_mem _ hy),Rat.zero_add]
theorem a4l {ts:List Tie}{ss:List Rat}{os is:List (List Int)}(hz:∀p∈is,slackR ts ss p=0)(hp:os.flatten.Perm is.flatten):sumR (os.map (slackR ts ss)) 0=(((is.map (gainOf ts)).sum - (os.map (gainOf ts)).sum:Int):Rat):=by
 have h1:=S6 ts ss is
 rw [a1W fun x hx=>by obtain ⟨k,hk,rfl⟩:=List.mem_map.mp hx;exact hz k hk] at h1
 rw [S6,a6B (hp.map _),Rat.intCast_sub]
 grind
theorem a6S {n:Int}{ts:List Tie}{ss:List Rat}{os is:List (List Int)}(hz:∀p∈is,slackR ts ss p=0)(hp:os.flatten.Perm is.flatten)(ho:∀p∈os,p∈parK n ts)(hd:(is.map (gainOf ts)).sum - (os.map (gainOf ts)).sum < 0):firmB n ts ss=false:=by
 cases h:firmB n ts ss with
 | false=>rfl
 | true=>
  have h1:=a6V.mp h
  have h2:=a0c (xs:=os.map (slackR ts ss)) fun x hx=>by obtain ⟨k,hk,rfl⟩:=List.mem_map.mp hx;exact h1 k (ho k hk)
  rw [a4l hz hp] at h2
  have:(0:Int)<=(is.map (gainOf ts)).sum - (os.map (gainOf ts)).sum:=by exact_mod_cast h2
  walk_at "o"
theorem a1x {n:Int}{ts:List Tie}{ps:List (List Int)}{ss:List Rat}{k:List Int}(hw:WebOk n ts)(hs:Shr n ts ps ss)(hk:k∈parK n ts):Sz 150 (slackR ts ss k):=by
 have hg:∀i:Int,0<=i->i < n->Sz 50 (ss.getD i.toNat 0):=fun i h0 h1=>by
  rw [List.getD_eq_getElem?_getD,List.getElem?_eq_getElem (by rw [hs.len];walk_at "o")]
  exact hs.sz _ (List.getElem_mem _)
 obtain ⟨hp,h1,h2⟩:=t8 hw hk
 have g:Sz 41 ((gainOf ts k:Int):Rat):=a87 (by have:=Z1 hw.t k;walk_at "o") (by decide)
 unfold slackR
 match k,hp,h1,h2,g with
 | [a],hp,_,_,g=>
  have:=hp a (by simp)
  exact (a45 (M5 sz_0 (hg a this.1 this.2)) g).mono (by decide)
 | [a,b],hp,_,_,g=>
  have p1:=hp a (by simp)
  have p2:=hp b (by simp)
  exact (a45 (M5 (M5 sz_0 (hg a p1.1 p1.2)) (hg b p2.1 p2.2)) g).mono (by decide)
theorem b1W {m:Nat}{qs:List Rat}(h:∀q∈qs,Sz m q):Sz (qs.length * (m + 1) + 1) (sumR qs 0):=by
 induction qs with
 | nil=>exact sz_0.mono (by walk_at "o")
 | cons q qs ih=>
  rw [p8]
  refine (M5 (h q List.mem_cons_self) (ih fun y hy=>h y (List.mem_cons_of_mem _ hy))).mono ?_
  rw [List.length_cons,Nat.add_mul]
  walk_at "o"
theorem a3v {a b:List Int}(h:a.Perm b):sortI a=sortI b:=PySem.W.lks_uniq (((D6 a).trans h).trans (D6 b).symm) (J6 a) (J6 b)
structure InsOk (ps is:List (List Int)) (i:Nat):Prop where
 mem:∀p∈is,p∈ps
 fl:is.flatten.length<=2 * ((ps ++ ps).take i).flatten.length
theorem InsOk.ext {ps is:List (List Int)}{i:Nat}{k:List Int}(h:InsOk ps is i)(hk:(ps ++ ps)[i]? =some k){m:Nat}(hm:m<=2):InsOk ps (is ++ List.replicate m k) (i + 1) where
 mem:=fun p hp=>by
  rcases List.mem_append.mp hp with z | z
  ·exact h.mem p z
  ·rw [(List.mem_replicate.mp z).2]
   rcases List.mem_append.mp (List.mem_of_getElem? hk) with z | z <;> exact z
 fl:=by
  have h1:=h.fl
  have e:(List.replicate m k).flatten.length=m * k.length:=by simp
  rw [a1Y hk,List.flatten_append,List.length_append,List.length_append,e]
  have:=Nat.mul_le_mul_right k.length hm
  walk_at "o"
abbrev V6:Stmt:=top 43
theorem a7e:FnScope ["script","cell","web","number","pairing","shares","ins","party","more","outs","top","bottom","one","due"] ["script"] (defScope V6):=by walk_at "c"
theorem b17 {R8:LO}{E6:LO}{F7:LO}{C2:LO}{J8:LO}{M1:LO}{L4:LO}{W4:LO}{P3:LO}{A8:LO}{Z4:LO}(S3:Fn P w K mg base "_law_web" k R8)(S0:a0V R8)(E3:Fn P w K mg base "_law_pairing" k E6)(D4:N2 E6)(F6:Fn P w K mg base "_law_shares" k F7)(F5:R0 F7)(C4:Fn P w K mg base "_law_together" k C2)(C3:K7 C2)(J5:Fn P w K mg base "swap_slack" k J8)(I0:V3 J8)(L9:Fn P w K mg base "_law_cell" k M1)(O1:a0i M1)(M4:Fn P w K mg base "_law_deal" k L4)(L8:a0a L4)(X8:Fn P w K mg base "is_swap" k W4)(W5:a1B W4)(Q4:Fn P w K mg base "slack" k P3)(P6:a2J P3)(z6:Fn P w K mg base "_law_low" k A8)(z5:S7 A8)(X1:Fn P w K mg base "is_firm" k Z4)(Z5:a19 Z4)(l0:mg "tuple"=none)(j1:mg "divmod"=none)(j0:mg "sorted"=none)(F:Fun K "law" "law" V6 f fd):FnOk P w K mg base CX0 (k + 1) f fd ["script"] (spLaw K):=by
 have nd:=a7e.nd
 refine b1T F a7e rfl rfl (fun cdv A outer s H E hr=>(b8 (F4 PySem.PassesOwn.never rfl (A1 (k6 (z7 (a8 (c9 L9 hr (a8 (a7 0) (a8 b0 a9))) a9)) (U8 (a7 0) (a0q b0) a0t))) (b9 1 nd) (b8 (o9 (c9 S3 hr (a8 (c9 M4 hr (a8 (a7 1) (a8 b0 a9))) (a8 b0 a9))) (k7 rfl (c6 (b9 2 nd) (c6 (b9 3 nd) j5))))
  (b8 (o9 (c9 E3 hr (a8 (a7 2) (a8 (a7 3) a9))) (k7 rfl (c6 (b9 4 nd) (c6 (b9 3 nd) j5))))
  (b8 (o9 (c9 F6 hr (a8 (a7 2) (a8 (a7 4) (a8 (a7 3) a9)))) (k7 rfl (c6 (b9 5 nd) (c6 (b9 3 nd) j5))))
  (b8 (j7 6 nd (z7 a9))
  (b8 (F4 PySem.PassesOwn.never rfl (A1 (k6 (a7 4) (a7 4))) (b9 7 nd) (b8 (o9 (l6 j1 (a8 (a7 3) (a8 b0 a9))) (k7 rfl (c6 (b9 3 nd) (c6 (b9 8 nd) j5))))
  (c7 (C6 (Z7 (a7 6) (a8 (a8Z (z7 (a8 (a7 7) a9)) (a7 8)) a9))))))
  (b8 (j7 6 nd (qx_t w6 K9 l0 (a8 (z9 hr rfl j0 (a8 (a7 6) a9)) a9)))
  (b8 (j7 9 nd (c9 C4 hr (a8 (a7 2) (a8 (a7 6) (a8 (a7 3) a9)))))
  (b8 (G0 (a3S (c9 X8 hr (a8 (a7 2) (a8 (a7 9) (a8 (a7 6) a9)))) a3u) (c7 (g9 a3u)) w8)
  (b8 (o9 (j8 (a8 b0 (a8 b0 a9))) (k7 rfl (c6 (b9 10 nd) (c6 (b9 11 nd) j5))))
  (b8 (F4 PySem.PassesOwn.never rfl (A1 (a7 9)) (b9 7 nd) (b8 (j7 12 nd (c9 Q4 hr (a8 (a7 2) (a8 (a7 5) (a8 (a7 7) a9)))))
  (c7 (o9 (c9 z6 hr (a8 (k6 (p0 (a7 10) (g5 hr (a7 12) b0)) (p0 (g5 hr (a7 12) b0) (a7 11))) (a8 (p0 (a7 11) (g5 hr (a7 12) b0)) a9))) (k7 rfl (c6 (b9 10 nd) (c6 (b9 11 nd) j5)))))))
  (b8 (j7 13 nd (c9 J5 hr (a8 (a7 2) (a8 (a7 9) (a8 (a7 6) a9)))))
  (c7 (G0 (a3m (b1j (a3h hr (j8 (a8 (a7 10) (a8 (a7 11) a9))) (j8 (a8 (a7 13) (a8 b0 a9)))) (a7j (a3m (a4S (a2l hr (a7 13) b0) (a21 (a3S (c9 X1 hr (a8 (a7 2) (a8 (j8 (a8 (a7 4) (a8 (a7 5) a9))) a9))) a3u))))))) (c7 (g9 a3u)) w8))))))))))))))
  (c7 (g9 a3u)))) ?_
 intro ns hl
 obtain ⟨c0,e0⟩:=O1 ns 0 hl (by walk_at "o")
 rw [show ((0:Nat):Int)=0 from rfl] at e0
 have cd:cutD (ns.map D.int) (some 1) none=(ns.drop 1).map .int:=by
  unfold cutD
  rw [show (1:Int)=((1:Nat):Int) from rfl,HT.sIx_nat,HT.sIx_none,List.length_map,<-List.map_drop,List.take_of_length_le (by rw [List.length_map,List.length_drop];walk_at "o")]
  by_cases h:1<=ns.length
  ·rw [Nat.min_eq_left h]
  ·rw [Nat.min_eq_right (by walk_at "o"),List.drop_eq_nil_of_le (Nat.le_refl _),List.drop_eq_nil_of_le (by walk_at "o")]
 have ll:1 + (ns.length - 1)<=1000000:=by walk_at "o"
 repeat (first | walk_at "z r" | simp only [e0,cd,List.length_map,List.length_drop,ll,List.length_singleton])
 generalize el:loopF _ _ _=r
 refine a1w el (fun _ ρ=>∃x1 x2 x3 x4 x5 x6 x7 x8 x9 x10 x11 x12 x13:Option W,ρ=[some (.v (.lst (ns.map .int))),x1,x2,x3,x4,x5,x6,x7,x8,x9,x10,x11,x12,x13]/\freeO x1=true/\freeO x2=true/\freeO x3=true/\freeO x4=true/\freeO x5=true/\freeO x6=true/\freeO x7=true/\freeO x8=true/\freeO x9=true/\freeO x10=true/\freeO x11=true/\freeO x12=true/\freeO x13=true) ⟨none,none,none,none,none,none,none,none,none,none,none,none,none,rfl,rfl,rfl,rfl,rfl,rfl,rfl,rfl,rfl,rfl,rfl,rfl,rfl,rfl⟩ ?_ ?_
 ·rintro d x _ hx _ ⟨x1,x2,x3,x4,x5,x6,x7,x8,x9,x10,x11,x12,x13,rfl,f1,f2,f3,f4,f5,f6,f7,f8,f9,f10,f11,f12,f13⟩
  obtain ⟨c,rfl⟩:∃c:Int,x= .int c:=by
   rcases List.mem_cons.mp hx with rfl | hx
   ·exact ⟨_,rfl⟩
   ·obtain ⟨c,_,rfl⟩:=E1 hx;exact ⟨c,rfl⟩
  obtain ⟨m0,e1⟩:=L8 c
  obtain ⟨n,m1,ts,hw,e2⟩:=S0 m0
  obtain ⟨ps,m2,hps,e3⟩:=D4 n m1 ts hw
  obtain ⟨ss,m3,hss,e4⟩:=F5 n m2 ts ps hw hps
  have lw:=b2C n ts
  have lp:=z4 ps
  have lr:=a2i ss
  have hn:=hw.n1
  have hpl:=hps.len
  have fl8:ps.flatten.length<=8:=by
   have:=hps.prm.length_eq
   rw [show (up n.toNat).length=n.toNat by unfold up;simp] at this
   walk_at "o"
  have pne:ps≠[]:=by
   intro z
   have:=hps.prm.length_eq
   rw [z,show (up n.toNat).length=n.toNat by unfold up;simp] at this
   simp at this
   walk_at "o"
  have pa:(¬ps.map tupI=[])/\ps.length + ps.length<=1000000:=⟨fun z=>pne (List.map_eq_nil_iff.mp z),by walk_at "o"⟩
  have d3:dOk 3:=m9 (by decide) (by decide)
  repeat (first | walk_at "z i" | simp only [f1,f2,f3,f4,f5,f6,f7,f8,f9,f10,f11,f12,f13,e1,e2,e3,e4,lw,lp,lr,pa,List.length_map,ne_eq])
  simp only [not_false_eq_true,if_true,<-List.map_append]
  repeat (first | walk_at "z i")
  generalize el2:loopF _ _ _=r2
  refine K4 el2 (fun i ρ=>∃(num:Int) (is:List (List Int)) (x7 x8:Option W),ρ=[some (.v (.lst (ns.map .int))),some (.v (.int c)),some (.v (webD n ts)),some (.v (.int num)),some (.v (.tup (ps.map tupI))),some (.v (.tup (ss.map ratD))),some (.o (.lst (is.map tupI))),x7,x8,x9,x10,x11,x12,x13]/\freeO x7=true/\freeO x8=true/\InsOk ps is i) ⟨m3,[],x7,x8,rfl,f7,f8,⟨(fun _ h=>by cases h),Nat.zero_le _⟩⟩ ?_ ?_
  ·rintro i x _ hx ⟨num,is,x7,x8,rfl,f7,f8,hi⟩
   rw [List.getElem?_map] at hx
   cases hk:(ps ++ ps)[i]? with
   | none=>rw [hk] at hx;cases hx
   | some k=>
    rw [hk] at hx;cases hx
    obtain ⟨A,eA,hA⟩:∃A:Int,num % 3=A/\0<=A/\A < 3:=⟨_,rfl,Int.emod_nonneg _ (by decide),Int.emod_lt_of_pos _ (by decide)⟩
    have st:=hi.ext hk (m:=A.toNat) (by walk_at "o")
    have lk:=a0x k
    have fle:=a6b (ks:=ps ++ ps) (i:=i + 1)
    have hfl:=st.fl
    rw [List.flatten_append,List.length_append] at fle
    have hne:∀p∈is ++ List.replicate A.toNat k,1<=p.length:=fun p hp=>(t8 hw (hps.mem p (st.mem p hp))).2.1
    have hil:=W0 hne
    rw [List.length_append,List.length_replicate] at hil
    have orp:oRep (.lst [tupI k]) (.int A)=some (.o (.lst ((List.replicate A.toNat k).map tupI))):=by
     rw [b0H ⟨by walk_at "o",by rw [List.length_singleton];unfold lim;walk_at "o"⟩,List.map_replicate,List.flatten_replicate_singleton]
    have lo:=z4 (List.replicate A.toNat k)
    have le:is.length + A.toNat<=1000000:=by walk_at "o"
    refine ⟨_,?_,num / 3,is ++ List.replicate A.toNat k,some (.v (tupI k)),some (.v (.int A)),rfl,rfl,rfl,st⟩
    repeat (first | walk_at "z r" | simp only [f7,f8,lk,r_dm d3,eA,orp,lo,List.length_map,List.length_replicate,le,List.map_append])
  ·rintro _ rfl ⟨num,is,x7,x8,rfl,f7,f8,hi⟩
   have hfl:=hi.fl
   rw [List.length_map,List.take_length,List.flatten_append,List.length_append] at hfl
   have hip:∀p∈is,p∈parK n ts:=fun p hp=>hps.mem p (hi.mem p hp)
   have hil:=W0 fun p hp=>(t8 hw (hip p hp)).2.1
   have so:=B9 (ks:=is) (by walk_at "o") (fun k hk=>(N9 hw).2 k (hip k hk))
   have jp:∀p∈sortK is,p∈parK n ts:=fun p hp=>hip p ((i0 is).mem_iff.mp hp)
   have jz:∀p∈sortK is,slackR ts ss p=0:=fun p hp=>hss.zer p (hi.mem p ((i0 is).mem_iff.mp hp))
   have jl:(sortK is).length<=32:=by rw [(i0 is).length_eq];walk_at "o"
   have jf:(sortK is).flatten.length<=32:=by rw [((i0 is).flatten).length_eq];walk_at "o"
   have js:=C7 is
   obtain ⟨J,eJ⟩:∃J,sortK is=J:=⟨_,rfl⟩
   rw [eJ] at so jp jz jl jf js
   have lj:=z4 J
   obtain ⟨fs,ht,e5⟩:=C3 n num ts J hw jp (by walk_at "o")
   have op:(sortK fs).flatten.Perm J.flatten:=by
    refine ((i0 fs).flatten).trans ?_
    have:=ht.perm
    rw [List.append_nil] at this
    exact this.trans (D6 _)
   have ok:∀p∈sortK fs,p∈parK n ts:=fun p hp=>ht.par p ((i0 fs).mem_iff.mp hp)
   have os:=C7 fs
   obtain ⟨O,eO⟩:∃O,sortK fs=O:=⟨_,rfl⟩
   rw [eO] at e5 op ok os
   have oL:=op.length_eq
   have ol:=W0 fun p hp=>(t8 hw (ok p hp)).2.1
   have e6:=W5 n ts O J hw ok jp os js (by walk_at "o") (by walk_at "o") (by walk_at "o") (by walk_at "o") (a3v op)
   have e7:=I0 n ts O J hw (by walk_at "o") (by walk_at "o")
   have e8:=Z5 n ts ss (.tup (ps.map tupI)) hw hss.ok
   have sw:=a4l jz op
   have sf:=a6S (n:=n) jz op ok
   have lO:=z4 O
   obtain ⟨due,ed⟩:∃due:Int,(J.map (gainOf ts)).sum - (O.map (gainOf ts)).sum=due:=⟨_,rfl⟩
   rw [ed] at e7 sw sf
   repeat (first | walk_at "z i" | simp only [so,lj,e5,lO,e6,f9,f10,f11,f12,f13,f7,f8])
   repeat (first | walk_at "z r" | simp only [e6,f10,f11,f12,f13,f7,f8])
   generalize el3:loopF _ _ _=r3
   refine K4 el3 (fun i ρ=>∃(x7 x12:Option W) (r:Rat),ρ=[some (.v (.lst (ns.map .int))),some (.v (.int c)),some (.v (webD n ts)),some (.v (.int num)),some (.v (.tup (ps.map tupI))),some (.v (.tup (ss.map ratD))),some (.v (.tup (J.map tupI))),x7,x8,some (.v (.tup (O.map tupI))),some (.v (.int r.num)),some (.v (.int r.den)),x12,x13]/\freeO x7=true/\freeO x12=true/\r=sumR ((O.take i).map (slackR ts ss)) 0) ⟨x7,x12,0,rfl,f7,f12,rfl⟩ ?_ ?_
   ·rintro i x _ hx ⟨x7,x12,r,rfl,f7,f12,er⟩
    rw [List.getElem?_map] at hx
    cases hk:O[i]? with
    | none=>rw [hk] at hx;cases hx
    | some k=>
     rw [hk] at hx;cases hx
     have hkm:=ok k (List.mem_of_getElem? hk)
     have es:=P6 n ts ss k hw hss.ok hkm
     have zq:=a1x hw hss hkm
     have lk:=a0x k
     have il:=(List.getElem?_eq_some_iff.mp hk).1
     have zr:Sz 4900 r:=by
      rw [er]
      refine (b1W (m:=150) fun q hq=>?_).mono ?_
      ·obtain ⟨p,hp,rfl⟩:=List.mem_map.mp hq
       exact a1x hw hss (ok p (List.mem_of_mem_take hp))
      ·rw [List.length_map,List.length_take]
       have:(min i O.length) * 151<=32 * 151:=Nat.mul_le_mul_right _ (by walk_at "o")
       walk_at "o"
     have et:sumR ((O.take (i + 1)).map (slackR ts ss)) 0=r + slackR ts ss k:=by
      rw [List.take_add_one,hk,Option.toList_some,List.map_append,List.map_singleton,P0,er]
     obtain ⟨q,eq⟩:∃q,slackR ts ss k=q:=⟨_,rfl⟩
     rw [eq] at es zq et
     obtain ⟨k1,k2,k3,k4,k5⟩:=a2u zr zq (by walk_at "o")
     have low:=z5 (r.num * q.den + q.num * r.den) (r.den * q.den) k4 k5
     rw [J9] at low
     have eD:∀q:Rat,ratD q= .tup [.int q.num,.int q.den]:=fun _=>rfl
     refine ⟨_,?_,some (.v (tupI k)),some (.v (ratD q)),r + q,rfl,rfl,rfl,et.symm⟩
     repeat (first | walk_at "z i" | simp only [f7,f12,lk,es,S8])
     rw [eD]
     rw [eD] at low
     repeat (first | walk_at "z r" | simp only [k1,k2,k3,low])
   ·rintro _ rfl ⟨x7,x12,r,rfl,f7,f12,er⟩
    rw [List.length_map,List.take_length,sw] at er
    subst er
    have en:((due:Int):Rat).num=due:=rfl
    have ed1:((((due:Int):Rat).den:Nat):Int)=1:=rfl
    rw [en,ed1]
    have q1:(due == due)=true:=beq_self_eq_true _
    cases hlt:decide (due < 0) with
    | false=>
     refine ⟨_,?_,some (.v (.int c)),some (.v (webD n ts)),some (.v (.int num)),some (.v (.tup (ps.map tupI))),some (.v (.tup (ss.map ratD))),some (.v (.tup (J.map tupI))),x7,x8,some (.v (.tup (O.map tupI))),some (.v (.int due)),some (.v (.int 1)),x12,some (.v (.int due)),rfl,rfl,rfl,rfl,rfl,rfl,rfl,f7,f8,rfl,rfl,rfl,f12,rfl⟩
     repeat (first | walk_at "z r" | simp only [e7,f13,q1,hlt])
    | true=>
     rw [sf (of_decide_eq_true hlt)] at e8
     refine ⟨_,?_,some (.v (.int c)),some (.v (webD n ts)),some (.v (.int num)),some (.v (.tup (ps.map tupI))),some (.v (.tup (ss.map ratD))),some (.v (.tup (J.map tupI))),x7,x8,some (.v (.tup (O.map tupI))),some (.v (.int due)),some (.v (.int 1)),x12,some (.v (.int due)),rfl,rfl,rfl,rfl,rfl,rfl,rfl,f7,f8,rfl,rfl,rfl,f12,rfl⟩
     repeat (first | walk_at "z r" | simp only [e7,f13,q1,hlt,e8,lp,lr])
 ·rintro _ rfl ⟨x1,x2,x3,x4,x5,x6,x7,x8,x9,x10,x11,x12,x13,rfl,_⟩
  repeat (first | walk_at "z r")
end
end Q35
namespace Q35
open PySem PySem.Spec PyProof.Rows L2 Z
structure DI (K:PySem.W.Frag) (x:Str) (st:Stmt) (f:Addr) (fd:FuncData):Prop where
 a:PySem.W.nsIn K mainGlobals x=some (some (.ref f))
 F:Fun K x x st f fd
theorem DI.mk2 {K:PySem.W.Frag}{x:Str}{st:Stmt}{f:Addr}{od an:Option Addr}{sl:Array (Option Value)}{oc kV dc pm cd ct:Value}(a:PySem.W.nsIn K mainGlobals x=some (some (.ref f)))(l:K.lookup f=some ⟨oc,od,.func (PySem.W.fnOf x x (defArgs st) (defBody st) (defScope st) .none kV dc pm an cd ct),sl⟩)(c:PySem.W.codeIn K cd x=true)(k:PySem.W.keepIn K (.ref f)=true):DI K x st f (PySem.W.fnOf x x (defArgs st) (defBody st) (defScope st) .none kV dc pm an cd ct):=⟨a,a85 l c k⟩
section
variable {P:Program}{w:World}{K:PySem.W.Frag}{mg:Str->Option Value}{base:Heap}{x:Str}{j k:Nat}
theorem _root_.Z.FnS.up {sp:Sp}(F:FnS P w K mg base x j sp)(h:j<=k:=by decide):FnS P w K mg base x k sp:=F.mono h
end
theorem b2w {l:PySem.W.OpenLaw}{w:World}{K:PySem.W.Frag}{h:Heap}{mg:Str->Option Value}{fa f1 f2 f3 f4 f5 f6 f7 f8 f9 f10 f11 f12 f13 f14 f15 f16 f17 f18 f19 f20 f21 f22 f23 f24 f25 f26 f27 f28 f29 f30 f31 f32:Addr}{d1 d2 d3 d4 d5 d6 d7 d8 d9 d10 d11 d12 d13 d14 d15 d16 d17 d18 d19 d20 d21 d22 d23 d24 d25 d26 d27 d28 d29 d30 d31:FuncData}(X:K.In h)(G:h.Ns mainGlobals mg)(hfa:mg "law"=some (.ref fa))
  {od an:Option Addr} {sl:Array (Option Value)} {oc kV dc pm cd ct:Value}
  (i1:DI K "_law_web" R5 f1 d1) (i2:DI K "_law_pairing" D3 f2 d2) (i3:DI K "_law_gain" O3 f3 d3) (i4:DI K "_law_low" S5 f4 d4) (i5:DI K "_law_shares" F2 f5 d5) (i6:DI K "_law_parties" E5 f6 d6) (i7:DI K "_law_held" N6 f7 d7) (i8:DI K "_law_together" C1 f8 d8) (i9:DI K "gains" a2y f9 d9) (i10:DI K "worth" a2k f10 d10) (i11:DI K "swap_slack" K0 f11 d11) (i12:DI K "_law_cell" O7 f12 d12) (i13:DI K "_law_deal" N7 f13 d13) (i14:DI K "parties" Y2 f14 d14) (i15:DI K "is_whole" R9 f15 d15) (i16:DI K "is_party" T3 f16 d16) (i17:DI K "is_parties" J4 f17 d17) (i18:DI K "is_sorted" O5 f18 d18) (i19:DI K "is_sorted_parties" v6 f19 d19) (i20:DI K "held" a4t f20 d20) (i21:DI K "is_swap" Y3 f21 d21) (i22:DI K "gain_of" X6 f22 d22) (i23:DI K "common_divisor" B0 f23 d23) (i24:DI K "ratio" a2I f24 d24) (i25:DI K "minus" a2s f25 d25) (i26:DI K "plus" a4V f26 d26) (i27:DI K "total" a2R f27 d27) (i28:DI K "slack" a2w f28 d28) (i29:DI K "less" a4q f29 d29) (i30:DI K "loose" a2P f30 d30) (i31:DI K "is_firm" Y8 f31 d31)
  (a:PySem.W.nsIn K mainGlobals "law"=some (some (.ref f32))) (ll:K.lookup f32=some ⟨oc,od,.func (PySem.W.fnOf "law" "law" (defArgs V6) (defBody V6) (defScope V6) .none kV dc pm an cd ct),sl⟩) (c:PySem.W.codeIn K cd "law"=true) (k:PySem.W.keepIn K (.ref f32)=true)
  (y1:PySem.W.nsIn K mainGlobals "divmod"=some none) (y2:PySem.W.nsIn K mainGlobals "range"=some none) (y3:PySem.W.nsIn K mainGlobals "tuple"=some none) (y4:PySem.W.nsIn K mainGlobals "min"=some none) (y5:PySem.W.nsIn K mainGlobals "max"=some none) (y6:PySem.W.nsIn K mainGlobals "sorted"=some none) (y7:PySem.W.nsIn K mainGlobals "list"=some none) (y8:PySem.W.nsIn K mainGlobals "len"=some none) (y9:PySem.W.nsIn K mainGlobals "int"=some none) (y10:PySem.W.nsIn K mainGlobals "abs"=some none) (y11:PySem.W.nsIn K mainGlobals "sum"=some none) (y12:PySem.W.nsIn K mainGlobals "isinstance"=some none) (y13:PySem.W.nsIn K mainGlobals "bool"=some none) (y14:PySem.W.nsIn K mainGlobals "all"=some none) (y15:PySem.W.nsIn K mainGlobals "any"=some none) (y16:PySem.W.nsIn K mainGlobals "zip"=some none) {ga1:Addr} {gz1:Array (Option Value)} {gn1:Nat} {gt1_0 gt1_1:Tok} (n1:PySem.W.nsIn K mainGlobals "NOUGHT"=some (some (.ref ga1))) (q1:K.lookup ga1=some ⟨.type "tuple",none,.seq #[.int 0 gt1_0,.int 1 gt1_1] gn1,gz1⟩):
  ∃fd:FuncData,(∀(s:Shared) (v:Value),BindsTo s fd ⟨[v],[]⟩ [("script",v)])/\∀base:Heap,K.In base->base.Ns mainGlobals mg->FnOk l.prog w K mg base CX0 60 fa fd ["script"] (spLaw K):=by
 cases hfa.symm.trans (PySem.W.mg_of X G a)
 have j1:=PySem.W.mg_none_of X G y1
 have m6:=PySem.W.mg_none_of X G y2
 have l0:=PySem.W.mg_none_of X G y3
 have m_min:=PySem.W.mg_none_of X G y4
 have m_max:=PySem.W.mg_none_of X G y5
 have j0:=PySem.W.mg_none_of X G y6
 have a4O:=PySem.W.mg_none_of X G y7
 have m_len:=PySem.W.mg_none_of X G y8
 have m_int:=PySem.W.mg_none_of X G y9
 have m_abs:=PySem.W.mg_none_of X G y10
 have m_sum:=PySem.W.mg_none_of X G y11
 have l5:=PySem.W.mg_none_of X G y12
 have a44:=PySem.W.mg_none_of X G y13
 have m_all:=PySem.W.mg_none_of X G y14
 have m_any:=PySem.W.mg_none_of X G y15
 have m_zip:=PySem.W.mg_none_of X G y16
 have F9:a0C mg K:=⟨ga1,PySem.W.mg_of X G n1,.inr ⟨_,_,_,q1,rfl,rfl,rfl,(show (2:Nat)<=sizeLine by decide),(.cons ⟨_,rfl⟩ (.cons ⟨_,rfl⟩ .nil))⟩⟩
 refine ⟨PySem.W.fnOf "law" "law" (defArgs V6) (defBody V6) (defScope V6) .none kV dc pm an cd ct,fun s v=>.of_eq rfl,fun base _ _=>?_⟩
 obtain ⟨R8,S3,S0⟩:=a3i (P:=l.prog) (w:=w) (base:=base) (k:=0) j1 m6 l0 m_min m_max j0 i1.F (i1.F.binds (ps:=["number","most"]) fun _ _ _ _ _ _ us hl=>us2 hl fun _ _=>rfl) (PySem.W.mg_of X G i1.a)
 obtain ⟨E6,E3,D4⟩:=a0p (P:=l.prog) (w:=w) (base:=base) (k:=0) a4O m6 j1 l0 j0 m_len m_int i2.F (i2.F.binds (ps:=["web","number"]) fun _ _ _ _ _ _ us hl=>us2 hl fun _ _=>rfl) (PySem.W.mg_of X G i2.a)
 obtain ⟨L6,L7,M3⟩:=a22 (P:=l.prog) (w:=w) (base:=base) (k:=0) i3.F (i3.F.binds (ps:=["web","party"]) fun _ _ _ _ _ _ us hl=>us2 hl fun _ _=>rfl) (PySem.W.mg_of X G i3.a)
 obtain ⟨A8,z6,z5⟩:=a3Y (P:=l.prog) (w:=w) (base:=base) (k:=0) m_abs i4.F (i4.F.binds (ps:=["top","bottom"]) fun _ _ _ _ _ _ us hl=>us2 hl fun _ _=>rfl) (PySem.W.mg_of X G i4.a)
 obtain ⟨F7,F6,F5⟩:=a09 (P:=l.prog) (w:=w) (base:=base) (k:=1) L7.up M3 z6.up z5 l0 m_len j1 i5.F (i5.F.binds (ps:=["web","pairing","number"]) fun _ _ _ _ _ _ us hl=>us3 hl fun _ _ _=>rfl) (PySem.W.mg_of X G i5.a)
 obtain ⟨E4,D7,E9⟩:=a0o (P:=l.prog) (w:=w) (base:=base) (k:=0) j0 m6 i6.F (i6.F.binds (ps:=["web"]) fun _ _ _ _ _ _ us hl=>us1 hl fun _=>rfl) (PySem.W.mg_of X G i6.a)
 obtain ⟨M9,O6,O4⟩:=a2h (P:=l.prog) (w:=w) (base:=base) (k:=0) j0 i7.F (i7.F.binds (ps:=["some"]) fun _ _ _ _ _ _ us hl=>us1 hl fun _=>rfl) (PySem.W.mg_of X G i7.a)
 obtain ⟨C2,C4,C3⟩:=W9 (P:=l.prog) (w:=w) (base:=base) (k:=1) D7.up E9 O6.up O4 l0 j1 j0 m_len m_min m_max i8.F (i8.F.binds (ps:=["web","some","number"]) fun _ _ _ _ _ _ us hl=>us3 hl fun _ _ _=>rfl) (PySem.W.mg_of X G i8.a)
 obtain ⟨Q3,P7,Q2⟩:=a7s (P:=l.prog) (w:=w) (base:=base) (k:=0) i9.F (i9.F.binds (ps:=["web"]) fun _ _ _ _ _ _ us hl=>us1 hl fun _=>rfl) (PySem.W.mg_of X G i9.a)
 obtain ⟨a2F,a0r,a0s⟩:=a8w (P:=l.prog) (w:=w) (base:=base) (k:=1) P7.up Q2 m_sum i10.F (i10.F.binds (ps:=["web","some"]) fun _ _ _ _ _ _ us hl=>us2 hl fun _ _=>rfl) (PySem.W.mg_of X G i10.a)
 obtain ⟨J8,J5,I0⟩:=a1j (P:=l.prog) (w:=w) (base:=base) (k:=2) a0r.up a0s i11.F (i11.F.binds (ps:=["web","outs","ins"]) fun _ _ _ _ _ _ us hl=>us3 hl fun _ _ _=>rfl) (PySem.W.mg_of X G i11.a)
 obtain ⟨M1,L9,O1⟩:=a2Y (P:=l.prog) (w:=w) (base:=base) (k:=0) m_len i12.F (i12.F.binds (ps:=["script","k"]) fun _ _ _ _ _ _ us hl=>us2 hl fun _ _=>rfl) (PySem.W.mg_of X G i12.a)
 obtain ⟨L4,M4,L8⟩:=a3a (P:=l.prog) (w:=w) (base:=base) (k:=0) m6 i13.F (i13.F.binds (ps:=["cell","salt"]) fun _ _ _ _ _ _ us hl=>us2 hl fun _ _=>rfl) (PySem.W.mg_of X G i13.a)
 obtain ⟨D0,C9,C8⟩:=a4Q (P:=l.prog) (w:=w) (base:=base) (k:=0) j0 m6 i14.F (i14.F.binds (ps:=["web"]) fun _ _ _ _ _ _ us hl=>us1 hl fun _=>rfl) (PySem.W.mg_of X G i14.a)
 obtain ⟨S2,R3,S1⟩:=a3T (P:=l.prog) (w:=w) (base:=base) (k:=0) l5 m_int a44 i15.F (i15.F.binds (ps:=["thing"]) fun _ _ _ _ _ _ us hl=>us1 hl fun _=>rfl) (PySem.W.mg_of X G i15.a)
 obtain ⟨B5,A4,A7⟩:=a3L (P:=l.prog) (w:=w) (base:=base) (k:=1) C9.up C8 R3.up S1 l5 l0 m_all i16.F (i16.F.binds (ps:=["web","thing"]) fun _ _ _ _ _ _ us hl=>us2 hl fun _ _=>rfl) (PySem.W.mg_of X G i16.a)
 obtain ⟨K2,J7,G9⟩:=a1l (P:=l.prog) (w:=w) (base:=base) (k:=2) A4.up A7 l5 l0 m_all i17.F (i17.F.binds (ps:=["web","thing"]) fun _ _ _ _ _ _ us hl=>us2 hl fun _ _=>rfl) (PySem.W.mg_of X G i17.a)
 obtain ⟨L3,N4,N8⟩:=a2q (P:=l.prog) (w:=w) (base:=base) (k:=0) m_any m_zip i18.F (i18.F.binds (ps:=["row"]) fun _ _ _ _ _ _ us hl=>us1 hl fun _=>rfl) (PySem.W.mg_of X G i18.a)
 obtain ⟨v7,t7,t6⟩:=L0 (P:=l.prog) (w:=w) (base:=base) (k:=3) J7.up G9 N4.up N8 i19.F (i19.F.binds (ps:=["web","thing"]) fun _ _ _ _ _ _ us hl=>us2 hl fun _ _=>rfl) (PySem.W.mg_of X G i19.a)
 obtain ⟨a4p,a3c,a2L⟩:=a90 (P:=l.prog) (w:=w) (base:=base) (k:=0) j0 i20.F (i20.F.binds (ps:=["some"]) fun _ _ _ _ _ _ us hl=>us1 hl fun _=>rfl) (PySem.W.mg_of X G i20.a)
 obtain ⟨W4,X8,W5⟩:=a41 (P:=l.prog) (w:=w) (base:=base) (k:=4) t7.up t6 a3c.up a2L i21.F (i21.F.binds (ps:=["web","outs","ins"]) fun _ _ _ _ _ _ us hl=>us3 hl fun _ _ _=>rfl) (PySem.W.mg_of X G i21.a)
 obtain ⟨X9,Y5,Z3⟩:=a4C (P:=l.prog) (w:=w) (base:=base) (k:=2) A4.up A7 P7.up Q2 i22.F (i22.F.binds (ps:=["web","party"]) fun _ _ _ _ _ _ us hl=>us2 hl fun _ _=>rfl) (PySem.W.mg_of X G i22.a)
 obtain ⟨A9,B4,A5⟩:=W2 (P:=l.prog) (w:=w) (base:=base) (k:=0) i23.F (i23.F.binds (ps:=["one","other"]) fun _ _ _ _ _ _ us hl=>us2 hl fun _ _=>rfl) (PySem.W.mg_of X G i23.a)
 obtain ⟨Q5,P4,Q0⟩:=a9w (P:=l.prog) (w:=w) (base:=base) (k:=1) B4.up A5 m_abs i24.F (i24.F.binds (ps:=["top","bottom"]) fun _ _ _ _ _ _ us hl=>us2 hl fun _ _=>rfl) (PySem.W.mg_of X G i24.a)
 obtain ⟨a2t,a3b,a2W⟩:=a9C (P:=l.prog) (w:=w) (base:=base) (k:=2) P4.up Q0 i25.F (i25.F.binds (ps:=["one","other"]) fun _ _ _ _ _ _ us hl=>us2 hl fun _ _=>rfl) (PySem.W.mg_of X G i25.a)
 obtain ⟨a4r,a4L,a4E⟩:=a9X (P:=l.prog) (w:=w) (base:=base) (k:=2) P4.up Q0 i26.F (i26.F.binds (ps:=["one","other"]) fun _ _ _ _ _ _ us hl=>us2 hl fun _ _=>rfl) (PySem.W.mg_of X G i26.a)
 obtain ⟨a2r,a2Q,a2E⟩:=a9i (P:=l.prog) (w:=w) (base:=base) (k:=3) a4L.up a4E F9 i27.F (i27.F.binds (ps:=["some"]) fun _ _ _ _ _ _ us hl=>us1 hl fun _=>rfl) (PySem.W.mg_of X G i27.a)
 obtain ⟨P3,Q4,P6⟩:=a78 (P:=l.prog) (w:=w) (base:=base) (k:=4) Y5.up Z3 a3b.up a2W a2Q.up a2E i28.F (i28.F.binds (ps:=["web","shares","party"]) fun _ _ _ _ _ _ us hl=>us3 hl fun _ _ _=>rfl) (PySem.W.mg_of X G i28.a)
 obtain ⟨a4D,a4M,a4y⟩:=a9S (P:=l.prog) (w:=w) (base:=base) (k:=0) i29.F (i29.F.binds (ps:=["one","other"]) fun _ _ _ _ _ _ us hl=>us2 hl fun _ _=>rfl) (PySem.W.mg_of X G i29.a)
 obtain ⟨a2A,a20,a2p⟩:=a8U (P:=l.prog) (w:=w) (base:=base) (k:=5) C9.up C8 a4M.up a4y Q4.up P6 F9 i30.F (i30.F.binds (ps:=["web","shares"]) fun _ _ _ _ _ _ us hl=>us2 hl fun _ _=>rfl) (PySem.W.mg_of X G i30.a)
 obtain ⟨Z4,X1,Z5⟩:=a4T (P:=l.prog) (w:=w) (base:=base) (k:=6) a20.up a2p i31.F (i31.F.binds (ps:=["web","sharing"]) fun _ _ _ _ _ _ us hl=>us2 hl fun _ _=>rfl) (PySem.W.mg_of X G i31.a)
 exact b17 (P:=l.prog) (w:=w) (base:=base) (k:=59) S3.up S0 E3.up D4 F6.up F5 C4.up C3 J5.up I0 L9.up O1 M4.up L8 X8.up W5 Q4.up P6 z6.up z5 X1.up Z5 l0 j1 j0 (a85 (st:=V6) ll c k)
end Q35
open PySem PySem.W PyProof.Rows
namespace PySem.W.Fast
def tw14908447619420406999:=()
def tw17431346925953643875:=()
def tw2461786973715221686:=()
def tw993142632192703219:=()
def tw8262192745875153314:=()
def tw16378147476123120774:=()
def tw6276965364621655363:=()
def tw6283698721890785743:=()
def tw16306370216080081466:=()
def tw2568704434477012376:=()
def tw8167435260940077995:=()
def tw7709277204914012760:=()
def tw14221543338262766117:=()
def tw3758337413617309036:=()
def tw6405317835754851298:=()
def tw17478275439722250760:=()
def tw2123295625077162650:=()
def tw16991850694560941673:=()
def tw11014998611600805456:=()
def tw13339669249794398829:=()
def tw798814908523913031:=()
def tw1805013483385504703:=()
def tw6776029815070425908:=()
def tw1159641201731147482:=()
def tw11694603149937542530:=()
def tw11069901069422085862:=()
def tw14514533865289226548:=()
def tw12650155835616920851:=()
def tw5210506612461248768:=()
def tw17367225319504139735:=()
def tw110813007630261903:=()
def tw11804248521489610019:=()
def tw10522577075278443415:=()
def tw7768566879799926934:=()
def tw1908357769628198322:=()
def tw5173735230681285507:=()
def tw12216527240460656459:=()
def tw4146236950969453375:=()
def tw1963820051449413086:=()
def tw14872769074795210702:=()
def tw6144137156673112549:=()
def tw2851834449445527288:=()
def tw1029372706029952452:=()
def tw613219121991397609:=()
def tw6828865759503563434:=()
def tw16100620972671932723:=()
def tw3465576474030549750:=()
def tw15498883486923815046:=()
def tw11536153952770667221:=()
def tw14713293307217118020:=()
def tw15408727898417791415:=()
def tw3095515021418687113:=()
def tw18332560156275854419:=()
def tw12216549588837181048:=()
def tw16241936836089589801:=()
def tw8662697220575840359:=()
def tw18063678094625001618:=()
def tw15969472725579362321:=()
def tw3292550102809864925:=()
def tw13248520578658366858:=()
def tw12700964816624595837:=()
def tw10774844374615922558:=()
def tw1450870642147396825:=()
def tw10947162304475604353:=()
def tw6995224143913029942:=()
def tw16388267147359274285:=()
def tw17359580144601049862:=()
def tw18084450687410763072:=()
def tw17475835309336884072:=()
def tw8363748833368707285:=()
def tw9364275241806105186:=()
def tw3863179814800550689:=()
def tw17994093435549630126:=()
def tw2554130559191952558:=()
def tw13531074457042676960:=()
def tw5103718795374723766:=()
def tw9918483434631908924:=()
def tw18039838982242271632:=()
def tw16074117767473156162:=()
def tw6024479297864613370:=()
def tw16016758904646826564:=()
def tw13548110441389539505:=()
def tw15795098473170948843:=()
def tw139588746164774022:=()
def tw12957716523008286682:=()
def tw5965242281734327954:=()
def tw2860982452679013580:=()
def tw13617927672842196234:=()
def tw4782206319620569673:=()
def tw15711552316370912104:=()
def tw12257443522063798202:=()
def tw12672768842149535755:=()
def tw13319313973699607650:=()
def tw8145896943354212444:=()
def tw2014711777512579418:=()
def tw9213475302940750470:=()
def tw1260000613765052221:=()
def tw10474745878374661787:=()
def tw17941451193040526969:=()
def tw249272857155437593:=()
def tw8474292822404216224:=()
def tw9166268450934046799:=()
def tw7542749894834983261:=()
def tw10197021102928944002:=()
def tw16679000702217411673:=()
def tw10223746759959476797:=()
def tw4627389561700447671:=()
def tw8075296759358424509:=()
def tw9069170220724873907:=()
def tw7391407022734844031:=()
def tw16840002119444604071:=()
def tw7828710559144069847:=()
def tw4710877717296573559:=()
def tw8698304637025101275:=()
def tw12518847427110167468:=()
def tw9194570495025658279:=()
def tw8746179851364292532:=()
def tw843564662878008141:=()
def tw14813920035167832526:=()
def tw7421840407427643612:=()
def tw4165586010617363441:=()
def tw3611016916192665342:=()
def tw10955122981378195517:=()
def tw2124280271731043033:=()
def tw5817050248743237434:=()
def tw14563360196384553035:=()
def tw5262051046025985076:=()
def tw13384701993290066573:=()
def tw2822010815718062290:=()
def tw1797716561843460523:=()
def tw14104604571022495174:=()
def tw14631385172513297537:=()
def tw14741405860159675595:=()
def tw10952921826157696598:=()
def tw13799572567199023083:=()
def tw8701891720299705082:=()
def tw7413711853173789013:=()
def tw15345270858225860157:=()
def tw12720715686649491510:=()
def tw8385443099819668046:=()
def tw18174735119830636654:=()
def tw3693041746435336445:=()
def tw13993348295604535766:=()
def tw9824598826691586731:=()
def tw6333517675242714686:=()
def tw14541736475826614526:=()
def tw16070149938958750588:=()
def tw3939558260460784467:=()
def tw13471512289251445003:=()
def tw7258313550951828132:=()
def tw11397211566683907984:=()
def tw17087659137305529616:=()
def tw419984342956919029:=()
def tw17224012671294374442:=()
def tw1867041787048606939:=()
def tw2546389844215748653:=()
def tw7531130645232401080:=()
def tw7357796625037472230:=()
def tw5463671743353315024:=()
def tw8743064870262021523:=()
def tw9040355407452609469:=()
def tw17273981994832383143:=()
def tw11911525914480050193:=()
def tw17099440409413295736:=()
def tw14690143181587122680:=()
def tw9678876648040964090:=()
def tw16110535689756505709:=()
def tw139809185079382900:=()
def tw16687862123068820129:=()
def tw15824945346676300331:=()
def tw5980126226023539542:=()
def tw4099301909800328329:=()
def tw6638795288806187928:=()
def tw2806726314852532202:=()
def tw7226048029815781770:=()
def tw579874386259628669:=()
def tw14327928459429379435:=()
def tw6172445457780596304:=()
def tw1200216365478504677:=()
def tw2162756546618589909:=()
def tw2989942691582022141:=()
def tw4178010120907061470:=()
def tw380236415987228277:=()
def tw874032802350521168:=()
def tw932629236163495664:=()
def tw11386895570546699115:=()
def tw12198953271424329048:=()
def tw8985220670370592194:=()
def tw11707391991850383940:=()
def tw11940780091253022250:=()
def tw14968600191882895415:=()
def tw8072140303090693649:=()
def tw16824924914646407420:=()
def tw4419460617323041740:=()
def tw16714457490751177371:=()
def tw7706161721689722030:=()
def tw13399610136568896102:=()
def tw430525079320506795:=()
def tw9234329554103607980:=()
def tw6128520965447058010:=()
def tw12348755574691806797:=()
def tw13640827969197456745:=()
def tw18354377242269194487:=()
def tw8557065606819940101:=()
def tw14117638399564353908:=()
def tw16288457816101306618:=()
def tw7670491050501132690:=()
def tw2069769547271948789:=()
def tw13076628770997681934:=()
def tw8054498244714124452:=()
def tw2887338415729909145:=()
def tw4542122921311068169:=()
def tw12462128497163863155:=()
def tw11656691330538399305:=()
def tw10688028758996849050:=()
def tw18153328531700451356:=()
def tw13886039892551644712:=()
def tw6620272939880427927:=()
def tw17623979126521457915:=()
def tw16779092839648847273:=()
def tw7713086973931705532:=()
end PySem.W.Fast
set_option maxRecDepth 100000 in
set_option maxHeartbeats 0 in
theorem PySem.Challenge.cw_twainhoard_k35_whole_slacks_of_swaps_holds : PySem.Challenge.rw_twainhoard_k35_whole_slacks_of_swaps.Holds := by
 w_on;o_law;k_head;(case hw=>w_witness2)
 k_fill
 refine Z.walk (l:=PySem.Challenge.rw_twainhoard_k35_whole_slacks_of_swaps) rfl rfl (fun w h Y=>PySem.W.kIn_of Y) ?F
 case F=>
  intro w mg fa h KX G hmg
  refine' Q35.b2w KX G hmg (Q35.DI.mk2 ?_ ?_ ?_ ?_) (Q35.DI.mk2 ?_ ?_ ?_ ?_) (Q35.DI.mk2 ?_ ?_ ?_ ?_) (Q35.DI.mk2 ?_ ?_ ?_ ?_) (Q35.DI.mk2 ?_ ?_ ?_ ?_) (Q35.DI.mk2 ?_ ?_ ?_ ?_) (Q35.DI.mk2 ?_ ?_ ?_ ?_) (Q35.DI.mk2 ?_ ?_ ?_ ?_) (Q35.DI.mk2 ?_ ?_ ?_ ?_) (Q35.DI.mk2 ?_ ?_ ?_ ?_) (Q35.DI.mk2 ?_ ?_ ?_ ?_) (Q35.DI.mk2 ?_ ?_ ?_ ?_) (Q35.DI.mk2 ?_ ?_ ?_ ?_) (Q35.DI.mk2 ?_ ?_ ?_ ?_) (Q35.DI.mk2 ?_ ?_ ?_ ?_) (Q35.DI.mk2 ?_ ?_ ?_ ?_) (Q35.DI.mk2 ?_ ?_ ?_ ?_) (Q35.DI.mk2 ?_ ?_ ?_ ?_) (Q35.DI.mk2 ?_ ?_ ?_ ?_) (Q35.DI.mk2 ?_ ?_ ?_ ?_) (Q35.DI.mk2 ?_ ?_ ?_ ?_) (Q35.DI.mk2 ?_ ?_ ?_ ?_) (Q35.DI.mk2 ?_ ?_ ?_ ?_) (Q35.DI.mk2 ?_ ?_ ?_ ?_) (Q35.DI.mk2 ?_ ?_ ?_ ?_) (Q35.DI.mk2 ?_ ?_ ?_ ?_) (Q35.DI.mk2 ?_ ?_ ?_ ?_) (Q35.DI.mk2 ?_ ?_ ?_ ?_) (Q35.DI.mk2 ?_ ?_ ?_ ?_) (Q35.DI.mk2 ?_ ?_ ?_ ?_) (Q35.DI.mk2 ?_ ?_ ?_ ?_) ?_ ?_ ?_ ?_ ?_ ?_ ?_ ?_ ?_ ?_ ?_ ?_ ?_ ?_ ?_ ?_ ?_ ?_ ?_ ?_ ?_ ?_
  all_goals try k_is
