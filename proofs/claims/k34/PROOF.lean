import PyProof.Rows.All
import Wide.All
import OpenK.AllK
import Wide.FinOn
import Lean
import PyProof.EqAt
import PyProof.EqKinds
import PyProof.TupleCall
import KE.KSortTup
import KE.KDictSum
import PyProof.Conv_int_bool
import PyProof.DictTable
import PyProof.DictCompW
import PyProof.SumWalkG
import KE.KSort
import PyProof.ListRange
import PyProof.CompUse
import PyProof.Rows.RuleDivmod
import PySem.Challenge.RW_twainhoard_k34_swaps_judged
set_option Elab.async false
set_option compiler.extract_closed false
set_option genSizeOf false
set_option genInjectivity false
set_option bootstrap.genMatcherCode false
set_option linter.all false
set_option maxRecDepth 100000
theorem Zau.a0 (h:True:=by first | exact .inl rfl | exact .inr rfl | assumption):True:=trivial
theorem Zau.a1 (h:True:=by decide):True:=trivial
theorem Zau.a2 (h:True:=by rfl):True:=trivial
theorem Zau.a3 (h:True:=by intro _;rfl):True:=trivial
theorem Zau.a4 (h:True:=by first | exact Or.inl rfl | exact Or.inr (Or.inl rfl) | exact Or.inr (Or.inr rfl)):True:=trivial
theorem Zau.a5 (h:True:=by first | exact nomark _ | rfl):True:=trivial
theorem Zau.a6 (h:True:=by first | exact Or.inl rfl | exact Or.inr rfl):True:=trivial
theorem Zau.a7 (h:True:=by first | exact .inl rfl | exact .inr rfl):True:=trivial
theorem Zau.a8 (h:True:=by decide +kernel):True:=trivial
theorem Zau.a9 (h:True:=by intro _ _;rfl):True:=trivial
namespace L2
open PySem PySem.Spec PyProof.Rows
noncomputable abbrev Key:=Sum Int Str
noncomputable def keyIs:Key→Value→Bool
 | .inl k,v=>Value.isInt k v
 | .inr x,v=>Value.isStrOf x v
noncomputable def keyH (w:World):Key→Int
 | .inl k=>hashInt k
 | .inr x=>hashStr w x
theorem keyIs_shape:∀{k:Key} {v:Value},keyIs k v=true→(∃i t,k=Sum.inl i∧v=Value.int i t)∨(∃x t,k=Sum.inr x∧v=Value.str x t)
 | .inl i,v,h=>by
  obtain ⟨t,e⟩:=Value.isInt_shape (k:=i) (v:=v) h
  exact .inl ⟨i,t,rfl,e⟩
 | .inr x,v,h=>by
  obtain ⟨t,e⟩:=Value.isStrOf_shape (x:=x) (v:=v) h
  exact .inr ⟨x,t,rfl,e⟩
theorem keyIs_int (i:Int)(t:Tok):keyIs (.inl i) (.int i t)=true:=by simp [keyIs,Value.isInt]
theorem keyIs_str (x:Str)(t:Tok):keyIs (.inr x) (.str x t)=true:=by simp [keyIs,Value.isStrOf]
theorem key_ll (a b:Int):decide ((Sum.inl a:Key)=Sum.inl b)=(a == b):=by
 by_cases e:a=b
 ·subst e;simp
 ·have h:¬(Sum.inl a:Key)=Sum.inl b:=fun q=>e (Sum.inl.inj q)
  rw [decide_eq_false h]
  exact (beq_eq_false_iff_ne.mpr e).symm
theorem key_rr (a b:Str):decide ((Sum.inr a:Key)=Sum.inr b)=decide (a=b):=by
 by_cases e:a=b
 ·subst e;simp
 ·have h:¬(Sum.inr a:Key)=Sum.inr b:=fun q=>e (Sum.inr.inj q)
  rw [decide_eq_false h,decide_eq_false e]
theorem key_lr (a:Int)(b:Str):decide ((Sum.inl a:Key)=Sum.inr b)=false:=decide_eq_false (fun q=>nomatch q)
theorem key_rl (a:Str)(b:Int):decide ((Sum.inr a:Key)=Sum.inl b)=false:=decide_eq_false (fun q=>nomatch q)
noncomputable def mixKind (prog:Program) (w:World):PySem.KeyKind prog w Key where
 is:=keyIs
 hash:=keyH w
 inj:=fun v a b ha hb=>by
  rcases keyIs_shape ha with ⟨i,t,rfl,rfl⟩ | ⟨x,t,rfl,rfl⟩
  ·rcases keyIs_shape hb with ⟨j,u,rfl,e⟩ | ⟨y,u,rfl,e⟩
   ·injection e with e1 _;rw [e1]
   ·exact nomatch e
  ·rcases keyIs_shape hb with ⟨j,u,rfl,e⟩ | ⟨y,u,rfl,e⟩
   ·exact nomatch e
   ·injection e with e1 _;rw [e1]
 byValue:=fun k v h=>by
  rcases keyIs_shape h with ⟨i,t,rfl,rfl⟩ | ⟨x,t,rfl,rfl⟩ <;> rfl
 pyHash:=fun hv h=>by
  rcases keyIs_shape hv with ⟨i,t,rfl,rfl⟩ | ⟨x,t,rfl,rfl⟩
  ·exact wpAny_pyHash_int h
  ·exact wpAny_pyHash_str h
 eqBool:=fun hu hv h=>by
  rcases keyIs_shape hu with ⟨i,t,rfl,rfl⟩ | ⟨x,t,rfl,rfl⟩
  ·rcases keyIs_shape hv with ⟨j,u,rfl,rfl⟩ | ⟨y,u,rfl,rfl⟩
   ·rw [key_ll] at h;exact wpAny_eqBool_int h
   ·rw [key_lr] at h;exact SeqAt.EqAt.int_str i t y u _ _ _ _ h
  ·rcases keyIs_shape hv with ⟨j,u,rfl,rfl⟩ | ⟨y,u,rfl,rfl⟩
   ·rw [key_rl] at h;exact SeqAt.EqAt.str_int x t j u _ _ _ _ h
   ·rw [key_rr] at h;exact wpAny_eqBool_str h
 «strs»:=fun k x t v h=>by
  rcases keyIs_shape h with ⟨i,u,rfl,e⟩ | ⟨y,u,rfl,e⟩
  ·exact nomatch e
  ·injection e with e1 _
   subst e1
   cases v <;> rfl
theorem mixKind_int (prog:Program)(w:World)(i:Int)(t:Tok):(mixKind prog w).is (.inl i) (.int i t)=true:=keyIs_int i t
theorem mixKind_str (prog:Program)(w:World)(x:Str)(t:Tok):(mixKind prog w).is (.inr x) (.str x t)=true:=keyIs_str x t
end L2
namespace L2
open PySem PySem.Spec PyProof.Rows
inductive V where
 | non | bl (b:Bool) | int (i:Int) | str (x:Str) | byt (b:Array UInt8) | flt (b:UInt64) | ref (a:Addr) | ty (n:String)
noncomputable def RelV:V→Value→Prop
 | .non,u=>u=Value.none
 | .bl b,u=>u=Value.bool b
 | .int i,u=>∃t,u=Value.int i t
 | .str x,u=>∃t,u=Value.str x t
 | .byt b,u=>∃t,u=Value.bytes b t
 | .flt b,u=>∃t,u=Value.float b t
 | .ref a,u=>u=Value.ref a
 | .ty n,u=>u=Value.type n
noncomputable abbrev Vals:List V→List Value→Prop:=Paired RelV
theorem Vals.length {xs:List V}{us:List Value}(r:Vals xs us):xs.length=us.length:=Paired.length r
theorem Vals.get:∀{xs:List V} {us:List Value} {i:Nat} {x:V},Vals xs us→xs[i]? =some x→∃u,us[i]? =some u∧RelV x u
 | _,_,_,_,.nil,e=>by simp at e
 | _,_,0,_,.cons r _,e=>by simp at e;subst e;exact ⟨_,rfl,r⟩
 | _,_,i + 1,x,.cons _ t,e=>by
  obtain ⟨u,h1,h2⟩:=Vals.get (i:=i) (x:=x) t (by simpa using e)
  exact ⟨u,by simpa using h1,h2⟩
theorem Vals.set {x:V}{u:Value}(r:RelV x u):∀{xs:List V} {us:List Value} (i:Nat),Vals xs us→Vals (xs.set i x) (us.set i u)
 | _,_,_,.nil=>.nil
 | _,_,0,.cons _ t=>.cons r t
 | _,_,i + 1,.cons q t=>.cons q (Vals.set r i t)
theorem Vals.append:∀{xs ys:List V} {us ws:List Value},Vals xs us→Vals ys ws→Vals (xs ++ ys) (us ++ ws)
 | _,_,_,_,.nil,s=>s
 | _,_,_,_,.cons r t,s=>.cons r (Vals.append t s)
theorem Vals.take:∀{xs:List V} {us:List Value} (n:Nat),Vals xs us→Vals (xs.take n) (us.take n)
 | _,_,0,_=>.nil
 | _,_,_ + 1,.nil=>.nil
 | _,_,n + 1,.cons r t=>.cons r (Vals.take n t)
theorem Vals.drop:∀{xs:List V} {us:List Value} (n:Nat),Vals xs us→Vals (xs.drop n) (us.drop n)
 | _,_,0,r=>r
 | _,_,_ + 1,.nil=>.nil
 | _,_,n + 1,.cons _ t=>Vals.drop n t
noncomputable def RelO:Option V→Option Value→Prop
 | some v,some u=>RelV v u
 | none,none=>True
 | _,_=>False
noncomputable def KV {κ:Type}:List (κ×V)→List (κ×Value)→Prop:=Paired fun (p:κ×V) (q:κ×Value)=>p.1=q.1∧RelV p.2 q.2
noncomputable def kV:Key→V
 | .inl i=>.int i
 | .inr x=>.str x
inductive HO where
 | lst (xs:List V)
 | tup (xs:List V)
 | dK (kvs:List (Key×V)) | dT (kvs:List (List Key×V))
 | set (S:Int→Bool) (n:Nat)
 | ins (C dx:Addr) (fs:List (Str×V))
 | own (x:Addr)
 | xd (fs:List (Str×V))
 | met (f x:Addr)
 | rng (lo hi:Int)
 | frz (o:Obj) (u:HO)
 | tbl (ps:Array Value)
 | ext (φ:Heap→Prop)
noncomputable abbrev Hp:=Addr→Option HO
noncomputable def upd (H:Hp) (a:Addr) (o:HO):Hp:=fun b=>if b=a then some o else H b
theorem upd_same {H:Hp}{a:Addr}{o:HO}:upd H a o a=some o:=by unfold upd;rw [if_pos rfl]
theorem upd_ne {H:Hp}{a b:Addr}{o:HO}(h:b≠a):upd H a o b=H b:=by unfold upd;rw [if_neg h]
theorem ne_of {H:Hp}{a b:Addr}{o u:HO}(h:H a=some o)(h':H b=some u)(d:o≠u):a≠b:=by
 intro e;subst e;rw [h] at h';exact d (Option.some.inj h')
theorem ne_of_none {H:Hp}{a b:Addr}{o:HO}(h:H a=some o)(h':H b=none):a≠b:=by
 intro e;subst e;rw [h] at h';cases h'
section
variable (P:Program)(w:World)
noncomputable def ObjOk (H:Hp) (h:Heap) (a:Addr):HO→Prop
 | .lst xs=>xs.length≤sizeLine∧∃(its:List Value) (n:Nat),Vals xs its∧h.get? a=some {cls:=.type "list",data:=.seq its.toArray n}
 | .tup xs=>xs.length≤sizeLine∧∃its:List Value,Vals xs its∧IsTup h a its.toArray
 | .dK kvs=>kvs.length≤sizeLine∧(a == sysModules)=false∧∃vs,KV kvs vs∧h.DictOf (mixKind P w) a vs
 | .dT kvs=>kvs.length≤sizeLine∧(a == sysModules)=false∧∃xs:List (List Key×Addr×Value),
   Paired (fun (p:List Key×V) (q:List Key×Addr×Value)=>p.1=q.1∧H q.2.1=some (.tup (p.1.map kV))∧RelV p.2 q.2.2) kvs xs∧
   ∃o es ep,h.get? a=some o∧o.ExactDict∧o.data= .dict es ep∧es.toList=xs.map (entryOfKey (tupleKind (mixKind P w)))∧(xs.map (·.1)).Nodup
 | .set S n=>h.SetOf (intKind P w) a S n
 | .ins C dx fs=>H dx=some (.own a)∧fs.length≤1000∧dx≠a∧h.get? a=some (PySem.W.instObj C dx)∧
   ∃mA,h.Ns1 dx mA∧(∀f,RelO (fs.lookup f) (mA f))∧PySem.Within mA (fs.map (·.1))
 | .own _=>∃o,h.get? a=some o
 | .xd fs=>∃mA,h.Ns1 a mA∧∀f,RelO (fs.lookup f) (mA f)
 | .rng lo hi=>∃t u v,h.get? a=some {cls:=.type "range",data:=.fields #[.int lo t,.int hi u,.int 1 v]}
 | .frz o u=>h.get? a=some o∧ObjOk H h a u
 | .tbl ps=>h.get? a=some {cls:=.none,data:=.fields ps}
 | .met f x=>h.get? a=some (PySem.W.methodObj (.ref f) (.ref x))
 | .ext φ=>φ h∧(∃o,h.get? a=some o)∧∀h1 h2:Heap,φ h1→(∀o,h1.get? a=some o→h2.get? a=some o)→φ h2
noncomputable def HOk (H:Hp) (h:Heap):Prop:=∀a o,H a=some o→ObjOk P w H h a o
end
section
variable {P:Program}{w:World}{H H':Hp}{h h':Heap}{a:Addr}{o:HO}
theorem ObjOk.lt (x:ObjOk P w H h a o):a < h.objs.size:=by
 cases o with
 | lst xs=>obtain ⟨_,_,_,_,e⟩:=x;exact Heap.lt_size e
 | tup xs=>obtain ⟨_,_,_,p⟩:=x;exact p.lt
 | dK kvs=>obtain ⟨_,_,_,_,o,_,_,e,_⟩:=x;exact Heap.lt_size e
 | dT kvs=>obtain ⟨_,_,_,_,o,_,_,e,_⟩:=x;exact Heap.lt_size e
 | set S n=>obtain ⟨o,_,_,_,e,_⟩:=x;exact Heap.lt_size e
 | ins C dx fs=>obtain ⟨_,_,_,e,_⟩:=x;exact Heap.lt_size e
 | own y=>obtain ⟨_,e⟩:=x;exact Heap.lt_size e
 | xd fs=>obtain ⟨_,⟨_,_,_,e,_⟩,_⟩:=x;exact Heap.lt_size e
 | rng lo hi=>obtain ⟨_,_,_,e⟩:=x;exact Heap.lt_size e
 | frz ob u=>obtain ⟨e,_⟩:=x;exact Heap.lt_size e
 | tbl ps=>exact Heap.lt_size (show h.get? a=some _ from x)
 | met f y=>exact Heap.lt_size (show h.get? a=some _ from x)
 | ext φ=>obtain ⟨_,⟨_,e⟩,_⟩:=x;exact Heap.lt_size e
theorem Paired.mapP {α β:Type}{F G:α→β→Prop}:∀{l₁:List α} {l₂:List β},Paired F l₁ l₂→(∀a b,F a b→G a b)→Paired G l₁ l₂
 | _,_,.nil,_=>.nil
 | _,_,.cons r t,f=>.cons (f _ _ r) (Paired.mapP t f)
theorem ObjOk.stay (x:ObjOk P w H h a o)(k:∀b u,(b=a∨H b=some (.own a))→h.get? b=some u→h'.get? b=some u)
  (ho:∀b,H b=some (.own a)→H' b=some (.own a)) (ht:∀b xs,H b=some (.tup xs)→H' b=some (.tup xs)):ObjOk P w H' h' a o:=by
 induction o with
 | lst xs=>obtain ⟨z,its,n,r,e⟩:=x;exact ⟨z,its,n,r,k _ _ (.inl rfl) e⟩
 | tup xs=>obtain ⟨z,its,r,ob,e,c⟩:=x;exact ⟨z,its,r,ob,k _ _ (.inl rfl) e,c⟩
 | dK kvs=>obtain ⟨z,y,vs,r,ob,es,ep,e,c⟩:=x;exact ⟨z,y,vs,r,ob,es,ep,k _ _ (.inl rfl) e,c⟩
 | dT kvs=>
  obtain ⟨z,y,xs,r,ob,es,ep,e,c⟩:=x
  exact ⟨z,y,xs,Paired.mapP r fun p q z=>⟨z.1,ht _ _ z.2.1,z.2.2⟩,ob,es,ep,k _ _ (.inl rfl) e,c⟩
 | set S n=>obtain ⟨ob,es,ep,t,e,c⟩:=x;exact ⟨ob,es,ep,t,k _ _ (.inl rfl) e,c⟩
 | ins C dx fs=>
  obtain ⟨d,z,ne,e,mA,⟨od,es,ep,e2,c⟩,r⟩:=x
  exact ⟨ho _ d,z,ne,k _ _ (.inl rfl) e,mA,⟨od,es,ep,k _ _ (.inr d) e2,c⟩,r⟩
 | own y=>obtain ⟨ob,e⟩:=x;exact ⟨ob,k _ _ (.inl rfl) e⟩
 | xd fs=>obtain ⟨mA,⟨od,es,ep,e,c⟩,r⟩:=x;exact ⟨mA,⟨od,es,ep,k _ _ (.inl rfl) e,c⟩,r⟩
 | rng lo hi=>obtain ⟨t,u,v,e⟩:=x;exact ⟨t,u,v,k _ _ (.inl rfl) e⟩
 | frz ob u ih=>obtain ⟨e,q⟩:=x;exact ⟨k _ _ (.inl rfl) e,ih q⟩
 | tbl ps=>
  have e:h.get? a=some {cls:=.none,data:=.fields ps}:=x
  show h'.get? a=some {cls:=.none,data:=.fields ps}
  exact k a _ (.inl rfl) e
 | met f y=>
  have e:h.get? a=some (PySem.W.methodObj (.ref f) (.ref y)):=x
  show h'.get? a=some (PySem.W.methodObj (.ref f) (.ref y))
  exact k a _ (.inl rfl) e
 | ext φ=>obtain ⟨p,⟨o,e⟩,st⟩:=x;exact ⟨st _ _ p fun o q=>k _ _ (.inl rfl) q,⟨o,k _ _ (.inl rfl) e⟩,st⟩
theorem HOk.lt (x:HOk P w H h)(e:H a=some o):a < h.objs.size:=(x a o e).lt
theorem HOk.fresh (x:HOk P w H h)(e:h.objs.size≤a):H a=none:=by
 cases q:H a with
 | none=>rfl
 | some u=>exact absurd (Nat.lt_of_lt_of_le (x.lt q) e) (Nat.lt_irrefl _)
theorem HOk.kept (x:HOk P w H h)(k:∀b u,h.get? b=some u→h'.get? b=some u):HOk P w H h':=fun a o e=>
 (x a o e).stay (fun b u _ q=>k b u q) (fun _ q=>q) fun _ _ q=>q
theorem HOk.laid (x:HOk P w H h)(k:∀b u,h.get? b=some u→h'.get? b=some u)(hp:h.objs.size≤a)(new:ObjOk P w (upd H a o) h' a o):HOk P w (upd H a o) h':=fun b u e=>by
 have hn:=x.fresh hp
 by_cases hb:b=a
 ·subst hb;rw [upd_same] at e;cases e;exact new
 ·rw [upd_ne hb] at e
  exact (x b u e).stay (fun c v _ q=>k c v q) (fun c q=>by rw [upd_ne (ne_of_none q hn)];exact q) fun c xs q=>by rw [upd_ne (ne_of_none q hn)];exact q
end
noncomputable def Rd (H:Hp) (a:Addr) (u:HO):Prop:=H a=some u∨∃o,H a=some (.frz o u)
theorem Rd.of {H:Hp}{a:Addr}{u:HO}(h:H a=some u):Rd H a u:=.inl h
theorem Rd.ok {P:Program}{w:World}{H:Hp}{h:Heap}{a:Addr}{u:HO}(r:Rd H a u)(x:HOk P w H h):ObjOk P w H h a u:=by
 rcases r with r | ⟨o,r⟩
 ·exact x a u r
 ·obtain ⟨_,q⟩:=x a _ r
  exact q
noncomputable def Mut:Option HO→Prop
 | some (.lst _)=>True
 | some (.dK _)=>True
 | some (.dT _)=>True
 | some (.set _ _)=>True
 | some (.ins _ _ _)=>True
 | some (.ext _)=>True
 | _=>False
section
variable {P:Program}{w:World}{H:Hp}{h h':Heap}{x e:Addr}{o':HO}
theorem HOk.write (ok:HOk P w H h)(mu:Mut (H x))(he:e=x∨H e=some (.own x))(k:∀b u,b≠e→h.get? b=some u→h'.get? b=some u)(heo:∃u,h'.get? e=some u)
  (new:ObjOk P w (upd H x o') h' x o'):HOk P w (upd H x o') h':=fun b u q=>by
 have nown:∀c y,H c=some (.own y)→c≠x:=fun c y r z=>by subst z;rw [r] at mu;exact mu
 have ntup:∀c xs,H c=some (.tup xs)→c≠x:=fun c xs r z=>by subst z;rw [r] at mu;exact mu
 by_cases hb:b=x
 ·subst hb;rw [upd_same] at q;cases q;exact new
 ·rw [upd_ne hb] at q
  by_cases hbe:b=e
  ·have q':H b=some (.own x):=by
    rcases he with z | z
    ·exact absurd (hbe.trans z) hb
    ·rw [hbe];exact z
   rw [q] at q';cases q'
   obtain ⟨v,hv⟩:=heo
   exact ⟨v,by rw [hbe];exact hv⟩
  ·refine (ok b u q).stay (fun c v hc r=>k c v ?_ r) (fun c r=>by rw [upd_ne (nown c b r)];exact r) fun c xs r=>by rw [upd_ne (ntup c xs r)];exact r
   rcases hc with rfl | hc
   ·exact hbe
   ·rintro rfl
    rcases he with z | z
    ·exact nown c b hc z
    ·rw [hc] at z;cases z;exact hb rfl
end
structure Un (fs ex:List Addr) (H H':Hp) (h h':Heap):Prop where
 keep:∀b o,h.get? b=some o→H b=none→b∉fs→b∉ex→h'.get? b=some o
 slot:∀b o,h.get? b=some o→H b=none→b∈fs→b∉ex→∃sl,h'.get? b=some {o with slots:=sl}
 free:∀b o,h.get? b=some o→H b=none→b∉ex→H' b=none
 there:∀b o,h.get? b=some o→b∉ex→∃o',h'.get? b=some o'
 tups:∀b xs,H b=some (.tup xs)→H' b=some (.tup xs)
 frzs:∀b o u,H b=some (.frz o u)→H' b=some (.frz o u)
 tbls:∀b ps,H b=some (.tbl ps)→∃more,H' b=some (.tbl (ps ++ more))
section
variable {fs fs' ex ex':List Addr}{H H1 H2:Hp}{h h1 h2 h':Heap}{a x e:Addr}{o:HO}
theorem Un.any (u:Un fs ex H H1 h h1){b:Addr}{ob:Obj}(q:h.get? b=some ob)(n:H b=none)(hx:b∉ex):∃sl,h1.get? b=some {ob with slots:=sl}:=by
 by_cases hb:b∈fs
 ·exact u.slot b ob q n hb hx
 ·exact ⟨ob.slots,u.keep b ob q n hb hx⟩
theorem Un.trans (a:Un fs ex H H1 h h1)(b:Un fs ex H1 H2 h1 h2):Un fs ex H H2 h h2 where
 keep:=fun c ob q n hc hx=>b.keep c ob (a.keep c ob q n hc hx) (a.free c ob q n hx) hc hx
 slot:=fun c ob q n hc hx=>by
  obtain ⟨sl,e1⟩:=a.slot c ob q n hc hx
  obtain ⟨sl',e2⟩:=b.slot c _ e1 (a.free c ob q n hx) hc hx
  exact ⟨sl',e2⟩
 free:=fun c ob q n hx=>by
  obtain ⟨o',e1⟩:=a.there c ob q hx
  exact b.free c o' e1 (a.free c ob q n hx) hx
 there:=fun c ob q hx=>by
  obtain ⟨o',e1⟩:=a.there c ob q hx
  exact b.there c o' e1 hx
 tups:=fun c xs q=>b.tups c xs (a.tups c xs q)
 frzs:=fun c ob xs q=>b.frzs c ob xs (a.frzs c ob xs q)
 tbls:=fun c ps q=>by
  obtain ⟨m1,e1⟩:=a.tbls c ps q
  obtain ⟨m2,e2⟩:=b.tbls c _ e1
  exact ⟨m1 ++ m2,by rw [e2,Array.append_assoc]⟩
theorem Un.kept (k:∀b u,h.get? b=some u→h'.get? b=some u):Un fs ex H H h h':=
 ⟨fun b ob q _ _ _=>k b ob q,fun b ob q _ _ _=>⟨ob.slots,k b ob q⟩,fun _ _ _ n _=>n,fun b ob q _=>⟨ob,k b ob q⟩,fun _ _ q=>q,fun _ _ _ q=>q,fun _ ps q=>⟨#[],by rw [q];simp⟩⟩
theorem Un.refl:Un fs ex H H h h:=Un.kept fun _ _ q=>q
theorem Un.laid (k:∀b u,h.get? b=some u→h'.get? b=some u)(hp:h.objs.size≤a)(hn:H a=none):Un fs ex H (upd H a o) h h' where
 keep:=fun b u q _ _ _=>k b u q
 slot:=fun b u q _ _ _=>⟨u.slots,k b u q⟩
 free:=fun b u q n _=>by rw [upd_ne (Nat.ne_of_lt (Nat.lt_of_lt_of_le (Heap.lt_size q) hp))];exact n
 there:=fun b u q _=>⟨u,k b u q⟩
 tups:=fun b xs q=>by rw [upd_ne (ne_of_none q hn)];exact q
 frzs:=fun b u xs q=>by rw [upd_ne (ne_of_none q hn)];exact q
 tbls:=fun b ps q=>⟨#[],by rw [upd_ne (ne_of_none q hn),q];simp⟩
theorem Un.write (mu:Mut (H x))(he:e=x∨H e=some (.own x))(k:∀b u,b≠e→h.get? b=some u→h'.get? b=some u)(heo:∃u,h'.get? e=some u):Un fs ex H (upd H x o) h h':=by
 have hx:∀b,H b=none→b≠x:=fun b n z=>by subst z;rw [n] at mu;exact mu
 have hb:∀b,H b=none→b≠e:=fun b n z=>by
  subst z
  rcases he with r | r
  ·exact hx b n r
  ·rw [n] at r;cases r
 have hm:∀b u,H b=some u→¬Mut (some u)→b≠x:=fun b u q nm z=>by subst z;rw [q] at mu;exact nm mu
 refine ⟨fun b u q n _ _=>k b u (hb b n) q,fun b u q n _ _=>⟨u.slots,k b u (hb b n) q⟩,fun b u q n _=>by rw [upd_ne (hx b n)];exact n,fun b u q _=>?_,
  fun b xs q=>by rw [upd_ne (hm b _ q fun z=>z)];exact q,fun b u xs q=>by rw [upd_ne (hm b _ q fun z=>z)];exact q,fun b ps q=>⟨#[],by rw [upd_ne (hm b _ q fun z=>z),q];simp⟩⟩
 by_cases hbe:b=e
 ·subst hbe;exact heo
 ·exact ⟨u,k b u hbe q⟩
theorem Un.mono (u:Un fs ex H H1 h h1)(hs:∀b∈fs,b∈fs')(hx:∀b∈ex,b∈ex'):Un fs' ex' H H1 h h1:=
 ⟨fun b ob q n hb he=>u.keep b ob q n (fun z=>hb (hs b z)) fun z=>he (hx b z),fun _ _ q n _ he=>u.any q n fun z=>he (hx _ z),fun b ob q n he=>u.free b ob q n fun z=>he (hx b z),fun b ob q he=>u.there b ob q fun z=>he (hx b z),u.tups,u.frzs,u.tbls⟩
end
noncomputable def trk (h:Heap) (H:Hp):List Addr:=(List.range h.objs.size).filter fun a=>(H a).isSome
noncomputable def hidT (h:Heap) (H:Hp):Heap:=PySem.W.hideAll h (trk h H)
theorem hidT_size (h:Heap)(H:Hp):(hidT h H).objs.size=h.objs.size:=PySem.W.hideAll_size _ _
theorem hidT_get {h:Heap}{H:Hp}{b:Addr}{o:Obj}(e:h.get? b=some o)(n:H b=none):(hidT h H).get? b=some o:=
 PySem.W.hideAll_get _ e fun hm=>by
  have q:(H b).isSome=true:=(List.mem_filter.mp hm).2
  rw [n] at q;simp at q
theorem of_hidT {h:Heap}{H:Hp}{b:Addr}{o:Obj}(e:(hidT h H).get? b=some o):h.get? b=some o∧H b=none:=by
 have e':h.get? b=some o:=PySem.W.of_hideAll (trk h H) e
 refine ⟨e',?_⟩
 cases q:H b with
 | none=>rfl
 | some x=>
  have hm:b∈trk h H:=List.mem_filter.mpr ⟨List.mem_range.mpr (Heap.lt_size e'),by simp [q]⟩
  have z:(hidT h H).get? b=none:=PySem.W.hideAll_none (trk h H) hm
  rw [z] at e;cases e
noncomputable def allNews (g h:Heap) (L:Addr):List (Addr×Obj):=(List.range h.objs.size).filterMap fun a=>if a=L∨(g.get? a).isSome=true then none else (h.get? a).map fun o=>(a,o)
theorem mem_allNews {g h:Heap}{L a:Addr}{o:Obj}(h1:a≠L)(h2:g.get? a=none)(h3:h.get? a=some o):(a,o)∈allNews g h L:=
 List.mem_filterMap.mpr ⟨a,List.mem_range.mpr (Heap.lt_size h3),by simp [h1,h2,h3]⟩
theorem of_mem_allNews {g h:Heap}{L:Addr}{p:Addr×Obj}(hp:p∈allNews g h L):p.1≠L∧g.get? p.1=none∧h.get? p.1=some p.2:=by
 obtain ⟨b,_,e⟩:=List.mem_filterMap.mp hp
 split at e
 ·cases e
 ·rename_i hn
  cases q:h.get? b with
  | none=>rw [q] at e;simp at e
  | some u=>
   rw [q] at e
   simp only [Option.map_some,Option.some.injEq] at e
   subst e
   refine ⟨fun z=>hn (.inl z),?_,q⟩
   show g.get? b=none
   cases r:g.get? b with
   | none=>rfl
   | some v=>exact (hn (.inr (by simp [r]))).elim
noncomputable def rest (g h:Heap) (L d:Addr):List (Addr×Obj):=(allNews g h L).filter fun p=>decide (p.1≠d)
theorem rest_ne {g h:Heap}{L d:Addr}:∀p∈rest g h L d,p.1≠d:=fun p hp=>of_decide_eq_true (List.mem_filter.mp hp).2
theorem mem_rest {g h:Heap}{L d a:Addr}{o:Obj}(h1:a≠L)(h2:g.get? a=none)(h3:h.get? a=some o)(h4:a≠d):(a,o)∈rest g h L d:=
 List.mem_filter.mpr ⟨mem_allNews h1 h2 h3,decide_eq_true h4⟩
theorem news_all {g h:Heap}{L:Addr}:News g L h (allNews g h L):=fun p hp=>let ⟨a,b,c⟩:=of_mem_allNews hp;⟨c,a,b⟩
theorem news_at {g h:Heap}{L d:Addr}{o:Obj}(h1:d≠L)(h2:g.get? d=none)(h3:h.get? d=some o):News g L h ((d,o) :: rest g h L d):=fun p hp=>by
 rcases List.mem_cons.mp hp with rfl | hp
 ·exact ⟨h3,h1,h2⟩
 ·exact news_all p (List.mem_filter.mp hp).1
theorem kept_of_news {g h h':Heap}{L d:Addr}{m:Str→Option Value}(k:∀b o,g.get? b=some o→h.get? b=some o)(F:Fr g L h' m)(N:News g L h' (rest g h L d)):
  ∀b o,b≠L→b≠d→h.get? b=some o→h'.get? b=some o:=fun b o h1 h2 e=>by
 cases q:g.get? b with
 | some u=>
  have:=k b u q
  rw [e] at this;cases this
  exact F.keep b _ q
 | none=>exact (N (b,o) (mem_rest h1 q e h2)).1
end L2
namespace L2
open PySem PySem.Spec PyProof.Rows
structure Mod (K:PySem.W.Frag) (mg:Str→Option Value) (base:Heap):Prop where
 kin:K.In base
 glob:base.Ns mainGlobals mg
 blt:∃mb,base.Ns builtinsNs mb∧∀x:Str,x≠"__name__"→mb x=bootBuiltins x
 nolimit:base.NoLimit
structure Cx where
 prog:Program
 w:World
 K:PySem.W.Frag
 mg:Str→Option Value
 base:Heap
 A:Around
 N:List Str
 s₀:Shared
 H₀:Hp
 env:Env
 outer:List Env
 stack:List Env
 ex:List Addr
 fn:Str→Bool
 calm:Bool
 pn:List (Addr×Obj)
 xe:Value→Shared→Prop
noncomputable def frs (l:List Env):List Addr:=l.filterMap (·.frame)
noncomputable abbrev Cx.fs (X:Cx):List Addr:=frs X.outer
noncomputable def Vis (sc:Scope) (x:Str):Prop:=sc.names.lookup x=some .local∨sc.names.lookup x=some .cell∨sc.names.lookup x=some .free
noncomputable def Loc (sc:Scope) (x:Str):Prop:=sc.names.lookup x=some .local∨sc.names.lookup x=some .cell
noncomputable def Look (env:Env) (h:Heap) (m:Str→Option Value) (x:Str) (u:Value):Prop:=
 (env.kindOf x=some .local∧m x=some u)∨((env.kindOf x=some .cell∨env.kindOf x=some .free)∧∃c,env.cells.lookup x=some c∧h.IsCell c (some u))
structure Cx.Ok (X:Cx):Prop where
 mod:Mod X.K X.mg X.base
 kind:X.env.scope.kind= .function
 glob:X.env.globals=mainGlobals
 blt:X.env.builtins=builtinsNs
 above:X.s₀.heap.objs.size≤X.env.locals
 inj:∀x y c,X.env.cells.lookup x=some c→X.env.cells.lookup y=some c→x=y
 has:∀x,(X.env.kindOf x=some .cell∨X.env.kindOf x=some .free)→∃c,X.env.cells.lookup x=some c
 cab:∀x c,X.fn x=true→X.env.cells.lookup x=some c→X.s₀.heap.objs.size≤c
 hd:X.calm=true→X.A.handled=none
 frames:X.A.frames=some X.stack
 stk:X.stack=X.outer∨(X.stack=X.env :: X.outer∧X.env.frame=some X.env.locals)
 exf:∀b∈X.ex,b≠X.env.locals∧∀x c,X.env.cells.lookup x=some c→c≠b
 bs:∀b o,X.base.get? b=some o→X.s₀.heap.get? b=some o∧X.H₀ b=none
 bsz:X.base.objs.size≤X.s₀.heap.objs.size
 noex:∀b o,X.base.get? b=some o→b∉X.ex
 exfs:∀b∈X.ex,b∉X.fs
 funs:X.s₀.heap.FunFrames X.base X.outer
 frf:∀b∈X.fs,X.H₀ b=none
structure Inv (X:Cx) (pins:List (Addr×Obj)) (σ:List (Option V)) (H:Hp) (s:Shared):Prop where
 ok:X.Ok
 os:s.os=X.s₀.os
 bare:AllBare s.gens
 base:Un X.fs X.ex X.H₀ H X.s₀.heap s.heap
 loc:∃m,s.heap.Ns X.env.locals m∧∀(i:Nat) (x:Str) (v:V),X.N[i]? =some x→σ[i]? =some (some v)→Vis X.env.scope x→∃u,RelV v u∧Look X.env s.heap m x u
 cell:∀x c,X.env.cells.lookup x=some c→∃v,s.heap.IsCell c v
 free:H X.env.locals=none
 freeC:∀x c,X.env.cells.lookup x=some c→H c=none
 pin:∀p∈X.pn ++ pins,s.heap.get? p.1=some p.2∧H p.1=none∧p.1≠X.env.locals∧p.1∉X.fs∧∀v,p.2.data≠.cell v
 hok:HOk X.prog X.w H s.heap
 len:σ.length=X.N.length
section
variable {X:Cx}{pins:List (Addr×Obj)}{σ:List (Option V)}{H H':Hp}{s:Shared}{h':Heap}
theorem Cx.Ok.nofr (ok:X.Ok){b:Addr}{o:Obj}(e:X.base.get? b=some o):b∉X.fs:=fun hb=>by
 have:=(ok.funs.mem hb).1
 rw [e] at this;cases this
theorem Inv.bs (I:Inv X pins σ H s):∀b o,X.base.get? b=some o→s.heap.get? b=some o∧H b=none:=fun b o e=>
 ⟨I.base.keep b o (I.ok.bs b o e).1 (I.ok.bs b o e).2 (I.ok.nofr e) (I.ok.noex b o e),I.base.free b o (I.ok.bs b o e).1 (I.ok.bs b o e).2 (I.ok.noex b o e)⟩
theorem Inv.bk (I:Inv X pins σ H s):∀b o,X.base.get? b=some o→s.heap.get? b=some o:=fun b o e=>(I.bs b o e).1
theorem Inv.mod (I:Inv X pins σ H s):Mod X.K X.mg X.base:=I.ok.mod
theorem Inv.kIn (I:Inv X pins σ H s):X.K.In s.heap:=I.ok.mod.kin.keeps I.bk
theorem Inv.nolimit (I:Inv X pins σ H s):s.heap.NoLimit:=I.ok.mod.nolimit.keeps I.bk
theorem Inv.fr (I:Inv X pins σ H s):∃m,Fr X.base X.env.locals s.heap m:=
 let ⟨m,hn,_⟩:=I.loc
 ⟨m,hn,I.bk,Nat.le_trans I.ok.bsz I.ok.above⟩
theorem Inv.lt (I:Inv X pins σ H s):X.env.locals < s.heap.objs.size:=let ⟨_,hn,_⟩:=I.loc;hn.lt
theorem Inv.sz (I:Inv X pins σ H s):X.s₀.heap.objs.size≤s.heap.objs.size:=Nat.le_trans I.ok.above (Nat.le_of_lt I.lt)
theorem Inv.nofs (I:Inv X pins σ H s){a:Addr}(h:s.heap.objs.size≤a):a∉X.fs:=fun hb=>by
 obtain ⟨_,o,ho,_⟩:=I.ok.funs.mem hb
 exact absurd (Nat.lt_of_lt_of_le (Heap.lt_size ho) (Nat.le_trans I.sz h)) (Nat.lt_irrefl _)
theorem Inv.cne (I:Inv X pins σ H s):∀x c,X.env.cells.lookup x=some c→c≠X.env.locals:=fun x c e z=>by
 obtain ⟨v,o,ho,hd⟩:=I.cell x c e
 obtain ⟨m,⟨o',es,ep,ho',hd',_⟩,_⟩:=I.loc
 rw [z,ho'] at ho;cases ho;rw [hd'] at hd;cases hd
theorem Inv.funs (I:Inv X pins σ H s):s.heap.FunFrames X.base X.outer:=by
 have all:∀(l:List Env),(∀b∈frs l,b∈X.fs)→X.s₀.heap.FunFrames X.base l→s.heap.FunFrames X.base l:=by
  intro l
  induction l with
  | nil=>intro _ _;trivial
  | cons env r ih=>
   intro hs hl
   obtain ⟨hk,⟨L,o,hf,hn,ho,hd⟩,hr⟩:=hl
   have hL:L∈X.fs:=hs L (by unfold frs;rw [List.filterMap_cons,hf];exact List.mem_cons_self)
   obtain ⟨sl,e⟩:=I.base.slot L o ho (I.ok.frf L hL) hL fun z=>I.ok.exfs L z hL
   exact ⟨hk,⟨L,_,hf,hn,e,hd⟩,ih (fun b hb=>hs b (by unfold frs;rw [List.filterMap_cons,hf];exact List.mem_cons_of_mem _ hb)) hr⟩
 exact all X.outer (fun _ hb=>hb) I.ok.funs
theorem Inv.stack (I:Inv X pins σ H s):s.heap.FunFrames X.base X.stack:=by
 rcases I.ok.stk with e | ⟨e,hf⟩
 ·rw [e];exact I.funs
 ·rw [e]
  obtain ⟨m,hn,_⟩:=I.loc
  refine .cons (by rw [I.ok.kind];decide) hf hn ?_ I.funs
  exact Heap.get?_none_of_le (Nat.le_trans I.ok.bsz I.ok.above)
theorem Inv.stkSub (I:Inv X pins σ H s):∀b∈frs X.stack,b∈X.env.locals :: X.fs:=fun b hb=>by
 rcases I.ok.stk with e | ⟨e,hf⟩
 ·rw [e] at hb;exact List.mem_cons_of_mem _ hb
 ·rw [e] at hb
  unfold frs at hb
  rw [List.filterMap_cons,hf] at hb
  exact hb
theorem Inv.stkFree (I:Inv X pins σ H s):∀b∈frs X.stack,H b=none:=fun b hb=>by
 rcases List.mem_cons.mp (I.stkSub b hb) with e | hb
 ·rw [e];exact I.free
 ·obtain ⟨_,o,ho,_⟩:=I.ok.funs.mem hb
  exact I.base.free b o ho (I.ok.frf b hb) fun z=>I.ok.exfs b z hb
theorem Inv.step {g':Array GenState}{t':Nat}{d':Drawn}{ch:List Addr}(I:Inv X pins σ H s)
  (hch:∀b∈ch,(b∈X.ex∨X.s₀.heap.objs.size≤b)∧b≠X.env.locals∧(∀x c,X.env.cells.lookup x=some c→c≠b)∧∀p∈X.pn ++ pins,p.1≠b)
  (keep:∀b o,b≠X.env.locals→b∉X.fs→b∉ch→s.heap.get? b=some o→H b=none→h'.get? b=some o)
  (slot:∀b o,b≠X.env.locals→b∈X.fs→b∉ch→s.heap.get? b=some o→H b=none→∃sl,h'.get? b=some {o with slots:=sl}) (free:∀b o,b∉ch→s.heap.get? b=some o→H b=none→H' b=none)
  (there:∀b o,b∉ch→s.heap.get? b=some o→∃o',h'.get? b=some o')
  (tups:∀b xs,H b=some (.tup xs)→H' b=some (.tup xs)) (frzs:∀b o u,H b=some (.frz o u)→H' b=some (.frz o u)) (tbls:∀b ps,H b=some (.tbl ps)→∃more,H' b=some (.tbl (ps ++ more)))
  (ns:∀m,s.heap.Ns X.env.locals m→h'.Ns X.env.locals m) (hok:HOk X.prog X.w H' h') (hg:AllBare g'):
  Inv X pins σ H' {s with heap:=h',gens:=g',drawn:=d',toks:=t'}:=by
 have neL:∀b o,X.s₀.heap.get? b=some o→b≠X.env.locals:=fun b o e=>Nat.ne_of_lt (Nat.lt_of_lt_of_le (Heap.lt_size e) I.ok.above)
 have neC:∀b o,X.s₀.heap.get? b=some o→b∉X.ex→b∉ch:=fun b o e hx hb=>by
  rcases (hch b hb).1 with z | z
  ·exact hx z
  ·exact absurd (Nat.lt_of_lt_of_le (Heap.lt_size e) z) (Nat.lt_irrefl _)
 have cellK:∀x c,X.env.cells.lookup x=some c→∀v,s.heap.IsCell c v→h'.IsCell c v:=fun x c e v ⟨o,ho,hd⟩=>by
  have nch:c∉ch:=fun z=>(hch c z).2.2.1 x c e rfl
  by_cases hc:c∈X.fs
  ·obtain ⟨sl,q⟩:=slot c o (I.cne x c e) hc nch ho (I.freeC x c e)
   exact ⟨_,q,hd⟩
  ·exact ⟨o,keep c o (I.cne x c e) hc nch ho (I.freeC x c e),hd⟩
 refine ⟨I.ok,I.os,hg,⟨fun b o e n hb hx=>?_,fun b o e n hb hx=>?_,fun b o e n hx=>?_,fun b o e hx=>?_,fun b xs e=>tups b xs (I.base.tups b xs e),fun b o xs e=>frzs b o xs (I.base.frzs b o xs e),fun b ps e=>?_⟩,?_,fun x c e=>?_,?_,fun x c e=>?_,fun p hp=>?_,hok,I.len⟩
 ·exact keep b o (neL b o e) hb (neC b o e hx) (I.base.keep b o e n hb hx) (I.base.free b o e n hx)
 ·obtain ⟨sl,e1⟩:=I.base.slot b o e n hb hx
  obtain ⟨sl',e2⟩:=slot b _ (neL b o e) hb (neC b o e hx) e1 (I.base.free b o e n hx)
  exact ⟨sl',e2⟩
 ·obtain ⟨o',e1⟩:=I.base.there b o e hx
  exact free b o' (neC b o e hx) e1 (I.base.free b o e n hx)
 ·obtain ⟨o',e1⟩:=I.base.there b o e hx
  exact there b o' (neC b o e hx) e1
 ·obtain ⟨m1,e1⟩:=I.base.tbls b ps e
  obtain ⟨m2,e2⟩:=tbls b _ e1
  exact ⟨m1 ++ m2,by rw [e2,Array.append_assoc]⟩
 ·obtain ⟨m,hn,hl⟩:=I.loc
  refine ⟨m,ns m hn,fun i x v e1 e2 e3=>?_⟩
  obtain ⟨u,r,l⟩:=hl i x v e1 e2 e3
  refine ⟨u,r,?_⟩
  rcases l with l | ⟨k,c,e,z⟩
  ·exact .inl l
  ·exact .inr ⟨k,c,e,cellK x c e _ z⟩
 ·obtain ⟨v,z⟩:=I.cell x c e
  exact ⟨v,cellK x c e v z⟩
 ·obtain ⟨m,⟨o,_,_,ho,_⟩,_⟩:=I.loc
  exact free _ o (fun z=>(hch _ z).2.1 rfl) ho I.free
 ·obtain ⟨v,o,ho,hd⟩:=I.cell x c e
  exact free c o (fun z=>(hch c z).2.2.1 x c e rfl) ho (I.freeC x c e)
 ·obtain ⟨e,n,ne,nf,d⟩:=I.pin p hp
  have nch:p.1∉ch:=fun z=>(hch p.1 z).2.2.2 p hp rfl
  exact ⟨keep p.1 p.2 ne nf nch e n,free p.1 p.2 nch e n,ne,nf,d⟩
theorem Inv.un {t':Nat}(I:Inv X pins σ H s)(u:Un X.fs [] H H' s.heap h')(hok:HOk X.prog X.w H' h'):Inv X pins σ H' {s with heap:=h',toks:=t'}:=by
 obtain ⟨m,⟨o,es,ep,ho,r⟩,_⟩:=id I.loc
 obtain ⟨sl,hL⟩:=u.any ho I.free (by simp)
 exact I.step (g':=s.gens) (d':=s.drawn) (ch:=[]) (fun _ z=>nomatch z) (fun b o _ hb _ e n=>u.keep b o e n hb (by simp)) (fun b o _ hb _ e n=>u.slot b o e n hb (by simp)) (fun b o _ e n=>u.free b o e n (by simp)) (fun b o _ e=>u.there b o e (by simp)) u.tups u.frzs u.tbls (fun m' hm=>by
  obtain ⟨o',es',ep',ho',r'⟩:=hm
  rw [ho] at ho';cases ho'
  exact ⟨_,es',ep',hL,r'⟩) hok I.bare
theorem Inv.call {g':Array GenState}{t':Nat}{d':Drawn}{ch:List Addr}(I:Inv X pins σ H s)(u:Un (frs X.stack) ch H H' s.heap h')(hok:HOk X.prog X.w H' h')(hg:AllBare g')
  (hch:∀b∈ch,(b∈X.ex∨X.s₀.heap.objs.size≤b)∧b≠X.env.locals∧(∀x c,X.env.cells.lookup x=some c→c≠b)∧∀p∈X.pn ++ pins,p.1≠b):
  Inv X pins σ H' {s with heap:=h',gens:=g',drawn:=d',toks:=t'}:=by
 obtain ⟨m,⟨o,es,ep,ho,r⟩,_⟩:=id I.loc
 obtain ⟨sl,hL⟩:=u.any ho I.free fun z=>(hch _ z).2.1 rfl
 exact I.step (ch:=ch) hch (fun b o hL hb hc e n=>u.keep b o e n (fun z=>(List.mem_cons.mp (I.stkSub b z)).elim hL hb) hc) (fun b o _ _ hc e n=>u.any e n hc) (fun b o hc e n=>u.free b o e n hc) (fun b o hc e=>u.there b o e hc) u.tups u.frzs u.tbls (fun m' hm=>by
  obtain ⟨o',es',ep',ho',r'⟩:=hm
  rw [ho] at ho';cases ho'
  exact ⟨_,es',ep',hL,r'⟩) hok hg
theorem Inv.turned {t':Nat}{it:Addr}(I:Inv X pins σ H s)(k:∀b o,b≠it→s.heap.get? b=some o→h'.get? b=some o)(hn:H it=none)(hL:it≠X.env.locals)
  (h1:it∈X.ex∨X.s₀.heap.objs.size≤it) (h2:∀x c,X.env.cells.lookup x=some c→c≠it) (h3:∀p∈X.pn ++ pins,p.1≠it):Inv X pins σ H {s with heap:=h',toks:=t'}:=by
 have nit:∀b u,H b=some u→b≠it:=fun b u e z=>by rw [z,hn] at e;cases e
 refine I.step (g':=s.gens) (d':=s.drawn) (ch:=[it]) (fun b hb=>?_) (fun b o _ _ hc e _=>k b o (fun z=>hc (by simp [z])) e) (fun b o _ _ hc e _=>⟨o.slots,k b o (fun z=>hc (by simp [z])) e⟩) (fun _ _ _ _ n=>n)
  (fun b o hc e=>⟨o,k b o (fun z=>hc (by simp [z])) e⟩) (fun _ _ e=>e) (fun _ _ _ e=>e) (fun b ps e=>⟨#[],by rw [e];simp⟩) (fun m hm=>?_) (fun b u e=>?_) I.bare
 ·have e:b=it:=by simpa using hb
  subst e
  exact ⟨h1,hL,h2,h3⟩
 ·obtain ⟨o,es,ep,ho,r⟩:=hm
  exact ⟨o,es,ep,k _ o (Ne.symm hL) ho,r⟩
 ·refine (I.hok b u e).stay (fun c v hc q=>k c v ?_ q) (fun _ q=>q) fun _ _ q=>q
  rcases hc with z | z
  ·rw [z];exact nit b u e
  ·exact nit c _ z
theorem Inv.tok (I:Inv X pins σ H s)(t:Nat):Inv X pins σ H {s with toks:=t}:=I.un (h':=s.heap) (t':=t) Un.refl I.hok
theorem Inv.kept {t':Nat}(I:Inv X pins σ H s)(k:∀b u,s.heap.get? b=some u→h'.get? b=some u):Inv X pins σ H {s with heap:=h',toks:=t'}:=I.un (Un.kept k) (I.hok.kept k)
theorem Inv.laid {a:Addr}{o:HO}{t':Nat}(I:Inv X pins σ H s)(k:∀b u,s.heap.get? b=some u→h'.get? b=some u)(hp:s.heap.objs.size≤a)(new:ObjOk X.prog X.w (upd H a o) h' a o):
  Inv X pins σ (upd H a o) {s with heap:=h',toks:=t'}:=I.un (Un.laid k hp (I.hok.fresh hp)) (I.hok.laid k hp new)
theorem Inv.write {x e:Addr}{o:HO}{t':Nat}(I:Inv X pins σ H s)(mu:Mut (H x))(he:e=x∨H e=some (.own x))(k:∀b u,b≠e→s.heap.get? b=some u→h'.get? b=some u)(heo:∃u,h'.get? e=some u)
  (new:ObjOk X.prog X.w (upd H x o) h' x o):Inv X pins σ (upd H x o) {s with heap:=h',toks:=t'}:=I.un (Un.write mu he k heo) (I.hok.write mu he k heo new)
theorem Inv.weak {σ':List (Option V)}(I:Inv X pins σ H s)(hl:σ'.length=σ.length)(w:∀(i:Nat) v,σ'[i]? =some (some v)→σ[i]? =some (some v)):Inv X pins σ' H s:=
 ⟨I.ok,I.os,I.bare,I.base,let ⟨m,hn,hl'⟩:=I.loc;⟨m,hn,fun i x v e1 e2 e3=>hl' i x v e1 (w i v e2) e3⟩,I.cell,I.free,I.freeC,I.pin,I.hok,hl.trans I.len⟩
theorem Inv.pins_of {pins':List (Addr×Obj)}(I:Inv X pins σ H s)(h:∀p∈pins',s.heap.get? p.1=some p.2∧H p.1=none∧p.1≠X.env.locals∧p.1∉X.fs∧∀v,p.2.data≠.cell v):Inv X pins' σ H s:=
 ⟨I.ok,I.os,I.bare,I.base,I.loc,I.cell,I.free,I.freeC,fun p hp=>(List.mem_append.mp hp).elim (fun z=>I.pin p (List.mem_append_left _ z)) (h p),I.hok,I.len⟩
theorem nodup_ix {N:List Str}(hN:N.Nodup){i j:Nat}{x:Str}(a:N[i]? =some x)(b:N[j]? =some x):i=j:=by
 obtain ⟨h1,e1⟩:=List.getElem?_eq_some_iff.mp a
 obtain ⟨h2,e2⟩:=List.getElem?_eq_some_iff.mp b
 exact (List.getElem_inj hN).mp (e1.trans e2.symm)
theorem store_ok2 {M:Model}{A:Around}{E:Value→Shared→Prop}{i:Nat}{x:Str}{v:V}{u:Value}{Q:Unit→Shared→Prop}(I:Inv X pins σ H s)(hN:X.N.Nodup)(hi:X.N[i]? =some x)(hx:Loc X.env.scope x)(r:RelV v u)
  (h:∀s',Inv X pins (σ.set i (some v)) H s'→(∃a,Heap.SameBut a s.heap s'.heap∧(a=X.env.locals∨X.env.cells.lookup x=some a))→Q () s') (hf:autoParam (X.fn x=true∨X.env.scope.names.lookup x=some .local) Zau.a0._auto_1):wpAny M A (storeName X.env x u) Q E s:=by
 obtain ⟨m,hn,hl⟩:=id I.loc
 have hcls:(X.env.scope.kind == .class || (X.env.scope.kind == .module && X.env.locals != X.env.globals))=false:=by rw [I.ok.kind];rfl
 have hiσ:i < σ.length:=by rw [I.len];exact (List.getElem?_eq_some_iff.mp hi).1
 have cne:=I.cne
 have tracked:∀{a:Addr} {h':Heap},(∃o,s.heap.get? a=some o∧H a=none)→Heap.SameBut a s.heap h'→HOk X.prog X.w H h':=fun {a h'} ha hs b ob e=>by
  obtain ⟨_,_,hfree⟩:=ha
  refine (I.hok b ob e).stay (fun c w' hc q=>(hs.2 c ?_).trans q) (fun _ q=>q) fun _ _ q=>q
  rintro rfl
  rcases hc with rfl | hc
  ·rw [hfree] at e;cases e
  ·rw [hfree] at hc;cases hc
 rcases hx with hk | hk
 ·refine wpAny_storeName_local hk hn (fun h' hn' hs=>?_) hcls
  obtain ⟨oL,_,_,hoL,_⟩:=id hn
  refine h _ ⟨I.ok,I.os,I.bare,⟨fun b o e n hb hx=>?_,fun b o e n hb hx=>?_,I.base.free,fun b o e hx=>?_,I.base.tups,I.base.frzs,I.base.tbls⟩,⟨_,hn',fun j y v' e1 e2 e3=>?_⟩,fun y c e=>?_,I.free,I.freeC,fun p hp=>?_,tracked ⟨oL,hoL,I.free⟩ hs,by simpa using I.len⟩ ⟨_,hs,.inl rfl⟩
  ·exact (hs.2 b (Nat.ne_of_lt (Nat.lt_of_lt_of_le (Heap.lt_size e) I.ok.above))).trans (I.base.keep b o e n hb hx)
  ·obtain ⟨sl,e1⟩:=I.base.slot b o e n hb hx
   exact ⟨sl,(hs.2 b (Nat.ne_of_lt (Nat.lt_of_lt_of_le (Heap.lt_size e) I.ok.above))).trans e1⟩
  ·obtain ⟨o',e1⟩:=I.base.there b o e hx
   exact ⟨o',(hs.2 b (Nat.ne_of_lt (Nat.lt_of_lt_of_le (Heap.lt_size e) I.ok.above))).trans e1⟩
  ·by_cases hj:j=i
   ·subst hj
    rw [hi] at e1;cases e1
    rw [List.getElem?_set_self hiσ] at e2
    cases e2
    exact ⟨u,r,.inl ⟨hk,by simp⟩⟩
   ·rw [List.getElem?_set_ne (Ne.symm hj)] at e2
    obtain ⟨u',r',q⟩:=hl j y v' e1 e2 e3
    refine ⟨u',r',?_⟩
    rcases q with ⟨k,e⟩ | ⟨k,c,e,z⟩
    ·refine .inl ⟨k,?_⟩
     have:y≠x:=fun e=>hj (nodup_ix hN e1 (e▸hi))
     simp [this,e]
    ·exact .inr ⟨k,c,e,z.sameBut hs (cne y c e)⟩
  ·obtain ⟨w',z⟩:=I.cell y c e
   exact ⟨w',z.sameBut hs (cne y c e)⟩
  ·obtain ⟨e,n,ne,nf,d⟩:=I.pin p hp
   exact ⟨(hs.2 p.1 ne).trans e,n,ne,nf,d⟩
 ·have hfn:X.fn x=true:=by
   rcases hf with z | z
   ·exact z
   ·rw [z] at hk;cases hk
  obtain ⟨c,hc⟩:=I.ok.has x (.inl hk)
  obtain ⟨w',z⟩:=I.cell x c hc
  refine wpAny_storeName_cell I.ok.kind hk hc z (fun h' hc' hs=>?_)
  obtain ⟨oc,hoc,hocd⟩:=id z
  refine h {s with heap:=h'} ⟨I.ok,I.os,I.bare,⟨fun b o e n hb hx=>?_,fun b o e n hb hx=>?_,I.base.free,fun b o e hx=>?_,I.base.tups,I.base.frzs,I.base.tbls⟩,⟨m,hn.sameBut hs (Ne.symm (cne x c hc)),fun j y v' e1 e2 e3=>?_⟩,fun y c' e=>?_,I.free,I.freeC,fun p hp=>?_,tracked ⟨oc,hoc,I.freeC x c hc⟩ hs,by simpa using I.len⟩ ⟨c,hs,.inr hc⟩
  ·exact (hs.2 b (Nat.ne_of_lt (Nat.lt_of_lt_of_le (Heap.lt_size e) (I.ok.cab x c hfn hc)))).trans (I.base.keep b o e n hb hx)
  ·obtain ⟨sl,e1⟩:=I.base.slot b o e n hb hx
   exact ⟨sl,(hs.2 b (Nat.ne_of_lt (Nat.lt_of_lt_of_le (Heap.lt_size e) (I.ok.cab x c hfn hc)))).trans e1⟩
  ·obtain ⟨o',e1⟩:=I.base.there b o e hx
   exact ⟨o',(hs.2 b (Nat.ne_of_lt (Nat.lt_of_lt_of_le (Heap.lt_size e) (I.ok.cab x c hfn hc)))).trans e1⟩
  ·by_cases hj:j=i
   ·subst hj
    rw [hi] at e1;cases e1
    rw [List.getElem?_set_self hiσ] at e2
    cases e2
    exact ⟨u,r,.inr ⟨.inl hk,c,hc,hc'⟩⟩
   ·rw [List.getElem?_set_ne (Ne.symm hj)] at e2
    obtain ⟨u',r',q⟩:=hl j y v' e1 e2 e3
    refine ⟨u',r',?_⟩
    rcases q with q | ⟨k,c',e,z'⟩
    ·exact .inl q
    ·refine .inr ⟨k,c',e,z'.sameBut hs ?_⟩
     rintro rfl
     exact hj (nodup_ix hN e1 (I.ok.inj _ _ _ e hc▸hi))
  ·by_cases hcc:c'=c
   ·subst hcc;exact ⟨_,hc'⟩
   ·obtain ⟨w2,z2⟩:=I.cell y c' e
    exact ⟨w2,z2.sameBut hs hcc⟩
  ·obtain ⟨e,n,ne,nf,d⟩:=I.pin p hp
   refine ⟨(hs.2 p.1 ?_).trans e,n,ne,nf,d⟩
   intro q
   rw [q,hoc] at e
   have q':oc=p.2:=Option.some.inj e
   exact d w' (by rw [←q'];exact hocd)
theorem store_ok {M:Model}{A:Around}{E:Value→Shared→Prop}{i:Nat}{x:Str}{v:V}{u:Value}{Q:Unit→Shared→Prop}(I:Inv X pins σ H s)(hN:X.N.Nodup)(hi:X.N[i]? =some x)(hx:Loc X.env.scope x)(r:RelV v u)
  (h:∀s',Inv X pins (σ.set i (some v)) H s'→Q () s') (hf:autoParam (X.fn x=true∨X.env.scope.names.lookup x=some .local) Zau.a0._auto_1):wpAny M A (storeName X.env x u) Q E s:=
 store_ok2 I hN hi hx r (fun s' I' _=>h s' I') hf
theorem Inv.call' {s':Shared}{ch:List Addr}(I:Inv X pins σ H s)(ho:s'.os=s.os)(u:Un (frs X.stack) ch H H' s.heap s'.heap)(hok:HOk X.prog X.w H' s'.heap)(hg:AllBare s'.gens)
  (hch:∀b∈ch,(b∈X.ex∨X.s₀.heap.objs.size≤b)∧b≠X.env.locals∧(∀x c,X.env.cells.lookup x=some c→c≠b)∧∀p∈X.pn ++ pins,p.1≠b):Inv X pins σ H' s':=by
 obtain ⟨h',g',d',t',o'⟩:=s'
 have e:o'=s.os:=ho
 subst e
 exact I.call (g':=g') (t':=t') (d':=d') u hok hg hch
end
noncomputable abbrev XK:=Value→Option Addr→Hp→Prop
noncomputable abbrev St:=List (Option V)
noncomputable abbrev VK:=V→Hp→Prop
noncomputable abbrev TE:=St→Hp→VK→Prop
noncomputable abbrev TT:=St→Hp→(Bool→Hp→Prop)→Prop
noncomputable abbrev TA:=St→Hp→(List V→Hp→Prop)→Prop
structure Ends where
 nx:St→Hp→Prop
 rt:VK
 bk:St→Hp→Prop:=fun _ _=>False
 ct:St→Hp→Prop:=fun _ _=>False
noncomputable abbrev TS:=Ends→St→Hp→Prop
noncomputable def EP (X:Cx) (pins:List (Addr×Obj)) (σ:St) (Q:VK) (u:Value) (s':Shared):Prop:=∃v H',Inv X pins σ H' s'∧RelV v u∧Q v H'
noncomputable def TP (X:Cx) (pins:List (Addr×Obj)) (σ:St) (Q:Bool→Hp→Prop) (b:Bool) (s':Shared):Prop:=∃H',Inv X pins σ H' s'∧Q b H'
noncomputable def AP (X:Cx) (pins:List (Addr×Obj)) (σ:St) (Q:List V→Hp→Prop) (us:List Value) (s':Shared):Prop:=∃vs H',Inv X pins σ H' s'∧Vals vs us∧Q vs H'
noncomputable def SP (X:Cx) (pins:List (Addr×Obj)) (D:Ends) (f:Flow) (s':Shared):Prop:=
 match f with
 | .next=>∃σ' H',Inv X pins σ' H' s'∧D.nx σ' H'
 | .brk=>∃σ' H',Inv X pins σ' H' s'∧D.bk σ' H'
 | .cont=>∃σ' H',Inv X pins σ' H' s'∧D.ct σ' H'
 | .ret u=>∃v σ' H',Inv X pins σ' H' s'∧RelV v u∧D.rt v H'
noncomputable def PE (X:Cx) (e:Expr) (t:TE):Prop:=
 ∀(pins:List (Addr×Obj)) (s:Shared) (σ:St) (H:Hp) (Q:VK),Inv X pins σ H s→t σ H Q→wpAny (model X.prog X.w) X.A (eval e X.env) (EP X pins σ Q) X.xe s
noncomputable def PT (X:Cx) (e:Expr) (t:TT):Prop:=
 ∀(pins:List (Addr×Obj)) (s:Shared) (σ:St) (H:Hp) (Q:Bool→Hp→Prop),Inv X pins σ H s→t σ H Q→wpAny (model X.prog X.w) X.A (isTrue e X.env (eval e X.env)) (TP X pins σ Q) X.xe s
noncomputable def PW (X:Cx) (e:Expr) (t:TT):Prop:=
 ∀(whole:Sem Value) (pins:List (Addr×Obj)) (s:Shared) (σ:St) (H:Hp) (Q:Bool→Hp→Prop),Inv X pins σ H s→t σ H Q→wpAny (model X.prog X.w) X.A (isTrue e X.env whole) (TP X pins σ Q) X.xe s
theorem PW.pt {X:Cx}{e:Expr}{t:TT}(h:PW X e t):PT X e t:=h _
noncomputable def PA (X:Cx) (es:List Expr) (t:TA):Prop:=
 ∀(pos:Pos) (pins:List (Addr×Obj)) (s:Shared) (σ:St) (H:Hp) (Q:List V→Hp→Prop),Inv X pins σ H s→t σ H Q→wpAny (model X.prog X.w) X.A (spliced (backTo pos (starEach es X.env))) (AP X pins σ Q) X.xe s
noncomputable def PS (X:Cx) (st:Stmt) (t:TS):Prop:=
 ∀(pins:List (Addr×Obj)) (s:Shared) (σ:St) (H:Hp) (D:Ends),Inv X pins σ H s→t D σ H→wpAny (model X.prog X.w) X.A (exec st X.env) (SP X pins D) X.xe s
noncomputable def PSs (X:Cx) (st:List Stmt) (t:TS):Prop:=
 ∀(pins:List (Addr×Obj)) (s:Shared) (σ:St) (H:Hp) (D:Ends),Inv X pins σ H s→t D σ H→wpAny (model X.prog X.w) X.A (execs st X.env) (SP X pins D) X.xe s
theorem thn {α:Type}{t:Sem α}{Q Q':α→Shared→Prop}{M:Model}{A:Around}{E:Value→Shared→Prop}{s:Shared}(h:wpAny M A t Q E s)(hQ:∀a s,Q a s→Q' a s):wpAny M A t Q' E s:=wpAny_mono h hQ fun _ _ x=>x
end L2
namespace L2
open PySem PySem.Spec PyProof.Rows
section
variable {X:Cx}
noncomputable def tVar (i:Nat):TE:=fun σ H Q=>∃v,σ[i]? =some (some v)∧Q v H
noncomputable def tC (v:V):TE:=fun _ H Q=>Q v H
theorem pe_var {i:Nat}{x:Str}{pos:Pos}(hN:X.N[i]? =some x)(hv:Vis X.env.scope x)(hd:autoParam ((x == ("__debug__":Str))=false) Zau.a1._auto_1)(hcd:autoParam ((x == ("__classdict__":Str))=false) Zau.a1._auto_1):PE X (.Name x pos) (tVar i):=by
 intro pins s σ H Q I h
 obtain ⟨v,e,h⟩:=h
 obtain ⟨m,hn,hl⟩:=I.loc
 obtain ⟨u,r,l⟩:=hl i x v hN e hv
 have fin:EP X pins σ Q u s:=⟨v,H,I,r,h⟩
 rcases l with ⟨hk,hm⟩ | ⟨hk,c,hc,hcell⟩
 ·exact wpAny_Name (wpAny_loadName_local I.ok.kind hk hn hm fin) hd
 ·rcases hk with hk | hk
  ·exact wpAny_Name (wpAny_loadName_cell I.ok.kind hk hc hcell fin) hd
  ·exact wpAny_Name (wpAny_loadName_free I.ok.kind hk hc hcell fin hcd) hd
theorem pe_int {i j pos}:PE X (.Constant (.int i) j pos) (tC (.int i)):=fun _ _ _ H _ I h=>wpAny_Constant_int ⟨.int i,H,I.tok _,⟨_,rfl⟩,h⟩
theorem pe_bl {b j pos}:PE X (.Constant (.bool b) j pos) (tC (.bl b)):=fun _ _ _ H _ I h=>Constant_bool ⟨.bl b,H,I,rfl,h⟩
noncomputable def Gl (X:Cx) (x:Str):Prop:=X.env.kindOf x=some .globalImplicit
theorem ld_glob {E:Value→Shared→Prop}{pins:List (Addr×Obj)}{s:Shared}{σ:St}{H:Hp}{x:Str}{u:Value}{pos:Pos}{Q:Value→Shared→Prop}(I:Inv X pins σ H s)(hg:Gl X x)(hm:X.mg x=some u)(h:Q u s)
  (hd:autoParam ((x == ("__debug__":Str))=false) Zau.a1._auto_1):wpAny (model X.prog X.w) X.A (eval (.Name x pos) X.env) Q E s:=
 Calls.Name_function_global I.ok.kind hg (Calls.loadGlobal_global (by rw [I.ok.glob];exact I.mod.glob.keeps I.bk) hm h) hd
theorem ld_blt {E:Value→Shared→Prop}{pins:List (Addr×Obj)}{s:Shared}{σ:St}{H:Hp}{x:Str}{u:Value}{pos:Pos}{Q:Value→Shared→Prop}(I:Inv X pins σ H s)(hg:Gl X x)(hm:X.mg x=none)(hv:bootBuiltins x=some u)(h:Q u s)
  (hn:autoParam (x≠"__name__") Zau.a1._auto_1) (hd:autoParam ((x == ("__debug__":Str))=false) Zau.a1._auto_1):wpAny (model X.prog X.w) X.A (eval (.Name x pos) X.env) Q E s:=by
 obtain ⟨mb,h1,h2⟩:=I.mod.blt
 exact Calls.Name_function_global I.ok.kind hg (Calls.loadGlobal_builtin (by rw [I.ok.glob];exact I.mod.glob.keeps I.bk) hm (by rw [I.ok.blt];exact h1.keeps I.bk) ((h2 x hn).trans hv) h) hd
theorem pe_bltn {x:Str}{v:V}{u:Value}{pos:Pos}(hg:Gl X x)(hm:X.mg x=none)(hv:bootBuiltins x=some u)(r:RelV v u)(hn:autoParam (x≠"__name__") Zau.a1._auto_1)(hd:autoParam ((x == ("__debug__":Str))=false) Zau.a1._auto_1):PE X (.Name x pos) (tC v):=
 fun _ _ _ H _ I h=>ld_blt I hg hm hv ⟨v,H,I,r,h⟩ hn hd
variable {a b:Expr}{ta tb:TE}{pos:Pos}
variable {tA tB':TT}{rest:List Expr}
noncomputable def tAnd (t u:TT):TT:=fun σ H Q=>t σ H fun c H1=>if c=true then u σ H1 Q else Q false H1
noncomputable def tOr (t u:TT):TT:=fun σ H Q=>t σ H fun c H1=>if c=true then Q true H1 else u σ H1 Q
noncomputable def tNot (t:TT):TT:=fun σ H Q=>t σ H fun c H1=>Q (!c) H1
theorem pw_and1 (ha:PT X a tA):PW X (.BoolOp .And [a] pos) tA:=by
 intro wh pins s σ H Q I h
 refine isTrue_and (thn (ha pins s σ H Q I h) fun c s1 e=>?_)
 cases c with
 | true=>exact isTrue_and_nil e
 | false=>exact e
theorem pw_or1 (ha:PT X a tA):PW X (.BoolOp .Or [a] pos) tA:=by
 intro wh pins s σ H Q I h
 refine isTrue_or (thn (ha pins s σ H Q I h) fun c s1 e=>?_)
 cases c with
 | false=>exact isTrue_or_nil e
 | true=>exact e
theorem pw_and (ha:PT X a tA)(hb:PW X (.BoolOp .And (b :: rest) pos) tB'):PW X (.BoolOp .And (a :: b :: rest) pos) (tAnd tA tB'):=by
 intro wh pins s σ H Q I h
 refine isTrue_and (thn (ha pins s σ H _ I h) fun c s1 ⟨H1,I1,q1⟩=>?_)
 cases c with
 | true=>exact hb wh pins s1 σ H1 Q I1 q1
 | false=>exact ⟨H1,I1,q1⟩
theorem pw_or (ha:PT X a tA)(hb:PW X (.BoolOp .Or (b :: rest) pos) tB'):PW X (.BoolOp .Or (a :: b :: rest) pos) (tOr tA tB'):=by
 intro wh pins s σ H Q I h
 refine isTrue_or (thn (ha pins s σ H _ I h) fun c s1 ⟨H1,I1,q1⟩=>?_)
 cases c with
 | true=>exact ⟨H1,I1,q1⟩
 | false=>exact hb wh pins s1 σ H1 Q I1 q1
theorem pt_not (ha:PT X a tA):PT X (.UnaryOp .Not a pos) (tNot tA):=by
 intro pins s σ H Q I h
 exact isTrue_not (ha pins s σ H (fun c H1=>Q (!c) H1) I h)
noncomputable def tAndV (ta tb:TE):TE:=fun σ H Q=>ta σ H fun x H1=>∃c,x= .bl c∧if c=true then tb σ H1 Q else Q (.bl false) H1
noncomputable def tNotV (ta:TE):TE:=fun σ H Q=>ta σ H fun x H1=>∃c,x= .bl c∧Q (.bl (!c)) H1
theorem pe_one {op}{t:TE}(h:PE X a t):PE X (.BoolOp op [a] pos) t:=fun pins s σ H Q I hw=>BoolOp_one (h pins s σ H Q I hw)
theorem pe_and (ha:PE X a ta)(hb:PE X (.BoolOp .And (b :: rest) pos) tb):PE X (.BoolOp .And (a :: b :: rest) pos) (tAndV ta tb):=by
 intro pins s σ H Q I h
 refine BoolOp_and (thn (ha pins s σ H _ I h) fun v s1 ⟨x,H1,I1,r1,q1⟩=>?_)
 obtain ⟨c,rfl,q1⟩:=q1
 cases r1
 refine wpAny_truthy_bool ?_
 cases c with
 | true=>exact hb pins s1 σ H1 Q I1 q1
 | false=>exact ⟨.bl false,H1,I1,rfl,q1⟩
theorem pe_not (ha:PE X a ta):PE X (.UnaryOp .Not a pos) (tNotV ta):=by
 intro pins s σ H Q I h
 refine UnaryOp_ (thn (ha pins s σ H _ I h) fun v s1 ⟨x,H1,I1,r1,q1⟩=>?_)
 obtain ⟨c,rfl,q1⟩:=q1
 cases r1
 exact not_of (wpAny_truthy_bool ⟨.bl (!c),H1,I1,rfl,q1⟩)
end
end L2
namespace L2
open PySem PySem.Spec PyProof.Rows
noncomputable def SqL (K:PySem.W.Frag) (H:Hp) (a:Addr) (xs:List V):Prop:=
 Rd H a (.lst xs)∨
  ∃(o:Obj) (its:Array Value) (n:Nat),K.lookup a=some o∧o.cls= .type "list"∧o.dict=none∧o.data= .seq its n∧its.size≤sizeLine∧Vals xs its.toList
noncomputable def SqT (K:PySem.W.Frag) (H:Hp) (a:Addr) (xs:List V):Prop:=
 Rd H a (.tup xs)∨
  ∃(o:Obj) (its:Array Value) (n:Nat),K.lookup a=some o∧o.cls= .type "tuple"∧o.data= .seq its n∧its.size≤sizeLine∧Vals xs its.toList
noncomputable def absV:Value→Option V
 | .none=>some .non
 | .bool b=>some (.bl b)
 | .int i _=>some (.int i)
 | .str x _=>some (.str x)
 | .bytes b _=>some (.byt b)
 | .float b _=>some (.flt b)
 | .ref a=>some (.ref a)
 | .type n=>some (.ty n)
 | _=>none
theorem RelV.abs {x:V}{u:Value}(r:RelV x u):absV u=some x:=by
 cases x with
 | non=>cases r;rfl
 | bl _=>cases r;rfl
 | int _=>obtain ⟨t,rfl⟩:=r;rfl
 | str _=>obtain ⟨t,rfl⟩:=r;rfl
 | byt _=>obtain ⟨t,rfl⟩:=r;rfl
 | flt _=>obtain ⟨t,rfl⟩:=r;rfl
 | ref _=>cases r;rfl
 | ty _=>cases r;rfl
theorem RelV.inj {x y:V}{u:Value}(r:RelV x u)(q:RelV y u):x=y:=Option.some.inj (r.abs.symm.trans q.abs)
theorem Vals.inj:∀{xs ys:List V} {us:List Value},Vals xs us→Vals ys us→xs=ys
 | _,_,_,.nil,.nil=>rfl
 | _,_,_,.cons r t,.cons r' t'=>by rw [r.inj r',Vals.inj t t']
section
variable {X:Cx}{pins:List (Addr×Obj)}{σ:St}{H:Hp}{s:Shared}{a:Addr}{xs ys:List V}
theorem SqL.of {K:PySem.W.Frag}(h:H a=some (.lst xs)):SqL K H a xs:=.inl (.inl h)
theorem SqT.of {K:PySem.W.Frag}(h:H a=some (.tup xs)):SqT K H a xs:=.inl (.inl h)
theorem Inv.list (I:Inv X pins σ H s)(h:SqL X.K H a xs):∃its:List Value,Vals xs its∧PlainL s.heap a its.toArray∧xs.length≤sizeLine:=by
 rcases h with h | ⟨o,its,n,hk,hc,hd,hs,hz,r⟩
 ·obtain ⟨z,its,n,r,e⟩:=h.ok I.hok
  exact ⟨its,r,⟨_,n,e,rfl,rfl,rfl⟩,z⟩
 ·refine ⟨its.toList,r,⟨o,n,I.kIn a o hk,hc,hd,by simpa using hs⟩,?_⟩
  have e:=r.length
  simp only [Array.length_toList] at e
  (first|lia|omega)
theorem Inv.tuple (I:Inv X pins σ H s)(h:SqT X.K H a xs):∃its:List Value,Vals xs its∧IsTup s.heap a its.toArray∧xs.length≤sizeLine:=by
 rcases h with h | ⟨o,its,n,hk,hc,hs,hz,r⟩
 ·obtain ⟨z,its,r,p⟩:=h.ok I.hok
  exact ⟨its,r,p,z⟩
 ·refine ⟨its.toList,r,⟨o,I.kIn a o hk,hc,n,by simpa using hs⟩,?_⟩
  have e:=r.length
  simp only [Array.length_toList] at e
  (first|lia|omega)
theorem Inv.list_inj (I:Inv X pins σ H s)(h:SqL X.K H a xs)(h':SqL X.K H a ys):xs=ys:=by
 obtain ⟨its,r,⟨o,n,e,_,_,d⟩,_⟩:=I.list h
 obtain ⟨its',r',⟨o',n',e',_,_,d'⟩,_⟩:=I.list h'
 rw [e] at e';cases e'
 rw [d] at d'
 injection d' with d1 _
 have:its=its':=by simpa using congrArg Array.toList d1
 subst this
 exact r.inj r'
theorem Inv.tuple_inj (I:Inv X pins σ H s)(h:SqT X.K H a xs)(h':SqT X.K H a ys):xs=ys:=by
 obtain ⟨its,r,⟨o,e,_,n,d⟩,_⟩:=I.tuple h
 obtain ⟨its',r',⟨o',e',_,n',d'⟩,_⟩:=I.tuple h'
 rw [e] at e';cases e'
 rw [d] at d'
 injection d' with d1 _
 have:its=its':=by simpa using congrArg Array.toList d1
 subst this
 exact r.inj r'
end
noncomputable abbrev Cx.wish (X:Cx) (E:Value→Shared→Prop):Cx:={X with xe:=E}
noncomputable abbrev Cx.nox (X:Cx):Cx:=X.wish fun _ _=>False
theorem Cx.Ok.wish {X:Cx}(ok:X.Ok)(E:Value→Shared→Prop):(X.wish E).Ok:=
 ⟨ok.mod,ok.kind,ok.glob,ok.blt,ok.above,ok.inj,ok.has,ok.cab,ok.hd,ok.frames,ok.stk,ok.exf,ok.bs,ok.bsz,ok.noex,ok.exfs,ok.funs,ok.frf⟩
theorem Cx.Ok.unwish {X:Cx}{E:Value→Shared→Prop}(ok:(X.wish E).Ok):X.Ok:=
 ⟨ok.mod,ok.kind,ok.glob,ok.blt,ok.above,ok.inj,ok.has,ok.cab,ok.hd,ok.frames,ok.stk,ok.exf,ok.bs,ok.bsz,ok.noex,ok.exfs,ok.funs,ok.frf⟩
section
variable {X:Cx}{pins:List (Addr×Obj)}{σ:St}{H:Hp}{s:Shared}{E:Value→Shared→Prop}
theorem Inv.wish (I:Inv X pins σ H s)(E:Value→Shared→Prop):Inv (X.wish E) pins σ H s:=⟨I.ok.wish E,I.os,I.bare,I.base,I.loc,I.cell,I.free,I.freeC,I.pin,I.hok,I.len⟩
theorem Inv.unwish (I:Inv (X.wish E) pins σ H s):Inv X pins σ H s:=⟨I.ok.unwish,I.os,I.bare,I.base,I.loc,I.cell,I.free,I.freeC,I.pin,I.hok,I.len⟩
theorem SP.unwish {D:Ends}{f:Flow}{s':Shared}(h:SP (X.wish E) pins D f s'):SP X pins D f s':=by
 cases f with
 | next=>obtain ⟨σ',H',I,q⟩:=h;exact ⟨σ',H',I.unwish,q⟩
 | brk=>obtain ⟨σ',H',I,q⟩:=h;exact ⟨σ',H',I.unwish,q⟩
 | cont=>obtain ⟨σ',H',I,q⟩:=h;exact ⟨σ',H',I.unwish,q⟩
 | ret u=>obtain ⟨v,σ',H',I,r,q⟩:=h;exact ⟨v,σ',H',I.unwish,r,q⟩
theorem PE.nox {e:Expr}{t:TE}(h:PE X.nox e t):PE X e t:=fun pins s σ H Q I hw=>
 wpAny_mono (h pins s σ H Q (I.wish _) hw) (fun _ _ ⟨v,H',I',r,q⟩=>⟨v,H',I'.unwish,r,q⟩) fun _ _ z=>False.elim z
theorem PT.nox {e:Expr}{t:TT}(h:PT X.nox e t):PT X e t:=fun pins s σ H Q I hw=>
 wpAny_mono (h pins s σ H Q (I.wish _) hw) (fun _ _ ⟨H',I',q⟩=>⟨H',I'.unwish,q⟩) fun _ _ z=>False.elim z
theorem PSs.nox {st:List Stmt}{t:TS}(h:PSs X.nox st t):PSs X st t:=fun pins s σ H D I hw=>
 wpAny_mono (h pins s σ H D (I.wish _) hw) (fun _ _ q=>q.unwish) fun _ _ z=>False.elim z
end
section
variable {X:Cx}{st:Stmt}{rest:List Stmt}{t u:TS}{e:Expr}{te:TE}{pos:Pos}
noncomputable def tNext:TS:=fun D σ H=>D.nx σ H
noncomputable def tSeq (t u:TS):TS:=fun D σ H=>t {D with nx:=u D} σ H
theorem pss_nil:PSs X [] tNext:=fun _ _ σ H _ I h=>wpAny_execs_nil ⟨σ,H,I,h⟩
theorem pss_cons (h1:PS X st t)(h2:PSs X rest u):PSs X (st :: rest) (tSeq t u):=by
 intro pins s σ H D I h
 refine wpAny_execs_cons (thn (h1 pins s σ H {D with nx:=u D} I h) fun f s1 q=>?_)
 cases f with
 | next=>
  obtain ⟨σ',H',I',q⟩:=q
  exact h2 pins s1 σ' H' D I' q
 | ret v=>exact q
 | brk=>exact q
 | cont=>exact q
theorem pss_one (h1:PS X st t):PSs X [st] t:=by
 intro pins s σ H D I h
 refine wpAny_execs_cons (thn (h1 pins s σ H D I h) fun f s1 q=>?_)
 cases f with
 | next=>exact wpAny_execs_nil q
 | ret v=>exact q
 | brk=>exact q
 | cont=>exact q
theorem Inv.quiet {pins:List (Addr×Obj)}{σ:St}{H:Hp}{s:Shared}(I:Inv X pins σ H s):interactive X.env=false:=by simp [interactive,I.ok.kind]
noncomputable def tDrop (te:TE):TS:=fun D σ H=>te σ H fun _ H1=>D.nx σ H1
theorem ps_expr (he:PE X e te)(hs:autoParam (swapsWith e none pos.line X.env=pure false) Zau.a2._auto_1):PS X (.Expr e pos) (tDrop te):=by
 intro pins s σ H D I h
 exact wpAny_Expr_any (thn (he pins s σ H _ I h) fun v s1 ⟨x,H1,I1,r1,q1⟩=>⟨σ,H1,I1,q1⟩) I.quiet hs
noncomputable def tRet (te:TE):TS:=fun D σ H=>te σ H D.rt
theorem ps_ret (he:PE X e te):PS X (.Return (some e) pos) (tRet te):=by
 intro pins s σ H D I h
 exact wpAny_Return_some (thn (he pins s σ H _ I h) fun v s1 ⟨x,H1,I1,r1,q1⟩=>⟨x,σ,H1,I1,r1,q1⟩)
noncomputable def tIfS (c:TT) (t u:TS):TS:=fun D σ H=>c σ H fun b H1=>if b=true then t D σ H1 else u D σ H1
theorem ps_if {c:Expr}{a b:List Stmt}{tc:TT}(hc:PT X c tc)(ha:PSs X a t)(hb:PSs X b u):PS X (.If c a b pos) (tIfS tc t u):=by
 intro pins s σ H D I h
 refine wpAny_If (thn (hc pins s σ H _ I h) fun d s1 ⟨H1,I1,q1⟩=>?_)
 cases d with
 | true=>exact ha pins s1 σ H1 D I1 q1
 | false=>exact hb pins s1 σ H1 D I1 q1
end
noncomputable abbrev TG:=V→St→Hp→(St→Hp→Prop)→Prop
noncomputable abbrev TGs:=List V→St→Hp→(St→Hp→Prop)→Prop
noncomputable def PG (X:Cx) (target:Expr) (t:TG):Prop:=
 ∀(pins:List (Addr×Obj)) (s:Shared) (σ:St) (H:Hp) (v:V) (u:Value) (Q:St→Hp→Prop),Inv X pins σ H s→RelV v u→t v σ H Q→
  wpAny (model X.prog X.w) X.A (assign target X.env u) (fun _ s'=>∃σ' H',Inv X pins σ' H' s'∧Q σ' H') X.xe s
noncomputable def PGs (X:Cx) (ts:List Expr) (t:TGs):Prop:=
 ∀(pins:List (Addr×Obj)) (s:Shared) (σ:St) (H:Hp) (vs:List V) (us:List Value) (Q:St→Hp→Prop),Inv X pins σ H s→Vals vs us→t vs σ H Q→
  wpAny (model X.prog X.w) X.A (assignInOrder ((assignEach ts X.env).map (·.2)) us) (fun _ s'=>∃σ' H',Inv X pins σ' H' s'∧Q σ' H') X.xe s
section
variable {X:Cx}{pos:Pos}
noncomputable def gName (i:Nat):TG:=fun v σ H Q=>Q (σ.set i (some v)) H
theorem pg_name {i:Nat}{x:Str}(hN:X.N.Nodup)(hi:X.N[i]? =some x)(hx:Loc X.env.scope x)(hf:autoParam (X.fn x=true∨X.env.scope.names.lookup x=some .local) Zau.a0._auto_1):PG X (.Name x pos) (gName i):=by
 intro pins s σ H v u Q I r h
 exact wpAny_assign_Name (store_ok I hN hi hx r (fun s' I'=>⟨_,H,I',h⟩) hf)
noncomputable def gNil:TGs:=fun vs σ H Q=>vs=[]∧Q σ H
noncomputable def gCons (t:TG) (u:TGs):TGs:=fun vs σ H Q=>∃v r,vs=v :: r∧t v σ H fun σ' H'=>u r σ' H' Q
theorem pgs_nil:PGs X [] gNil:=by
 intro pins s σ H vs us Q I r h
 obtain ⟨e,h⟩:=h
 subst e
 cases r
 exact assignInOrder_nil ⟨σ,H,I,h⟩
theorem pgs_cons {e:Expr}{es:List Expr}{t:TG}{u:TGs}(h1:PG X e t)(h2:PGs X es u)
  (hs:autoParam ((assignEach (e :: es) X.env).map (·.2)=assign e X.env :: (assignEach es X.env).map (·.2)) Zau.a2._auto_1):PGs X (e :: es) (gCons t u):=by
 intro pins s σ H vs us Q I r h
 obtain ⟨v,vr,e1,h⟩:=h
 subst e1
 cases r with
 | cons r rr=>
  rw [hs]
  refine assignInOrder_cons (thn (h1 pins s σ H _ _ _ I r h) fun _ s1 ⟨σ1,H1,I1,q1⟩=>?_)
  exact h2 pins s1 σ1 H1 _ _ Q I1 rr q1
noncomputable def gTup (K:PySem.W.Frag) (n:Nat) (t:TGs):TG:=fun v σ H Q=>∃a xs,v= .ref a∧SqT K H a xs∧xs.length=n∧t xs σ H Q
theorem pg_tup {es:List Expr}{k:Nat}{t:TGs}{n:Nat}(hc:X.calm=true)(h:PGs X es t)
  (hn:autoParam ((assignEach es X.env).length=n) Zau.a2._auto_1) (hst:autoParam ((assignEach es X.env).findIdx? (·.1)=none) Zau.a2._auto_1):PG X (.Tuple es k pos) (gTup X.K n t):=by
 intro pins s σ H v u Q I r hw
 obtain ⟨a,xs,e1,hq,hl,hw⟩:=hw
 subst e1
 cases r
 obtain ⟨its,rv,ht,hz⟩:=I.tuple hq
 refine assign_Tuple_tuple (I.ok.hd hc) ht (by simp [hn,←hl,rv.length]) hst fun h' hx=>?_
 have I1:Inv X pins σ H {s with heap:=h'}:=I.kept (t':=s.toks) fun b o e=>hx b o (Nat.ne_of_lt (Heap.lt_size e)) e
 exact h pins _ σ H xs _ Q I1 (by simpa using rv) hw
noncomputable def tAsg (te:TE) (g:TG):TS:=fun D σ H=>te σ H fun x H1=>g x σ H1 D.nx
theorem ps_asg {tg e:Expr}{te:TE}{g:TG}(he:PE X e te)(hg:PG X tg g)(hs:autoParam (swapsWithSole [tg] e pos.line X.env=pure false) Zau.a2._auto_1)(hw:autoParam (swappedStores [tg] e X.env=pure none) Zau.a2._auto_1)
  (h1:autoParam ((assignEach [tg] X.env).map (·.2)=[assign tg X.env]) Zau.a2._auto_1):PS X (.Assign [tg] e pos) (tAsg te g):=by
 intro pins s σ H D I h
 refine wpAny_Assign_stores (thn (he pins s σ H _ I h) fun v s1 ⟨x,H1,I1,r1,q1⟩=>?_) hs hw
 rw [h1]
 exact thn (hg pins s1 σ H1 x v _ I1 r1 q1) fun _ s2 q=>q
theorem ps_set {i:Nat}{x:Str}{e:Expr}{te:TE}{pos':Pos}(hN:X.N.Nodup)(hi:X.N[i]? =some x)(hx:Loc X.env.scope x)(he:PE X e te)(hs:autoParam (swapsWith e (some (.Name x pos')) pos.line X.env=pure false) Zau.a2._auto_1)(hf:autoParam (X.fn x=true∨X.env.scope.names.lookup x=some .local) Zau.a0._auto_1):
  PS X (.Assign [.Name x pos'] e pos) (tAsg te (gName i)):=by
 intro pins s σ H D I h
 refine wpAny_Assign_Name (thn (he pins s σ H _ I h) fun v s1 ⟨y,H1,I1,r1,q1⟩=>?_) hs
 exact store_ok I1 hN hi hx r1 (fun s2 I2=>⟨_,H1,I2,q1⟩) hf
end
section
variable {X:Cx}{pos:Pos}
noncomputable def tWhile (c:TT) (tb:TS):TS:=fun D σ H=>∃W:Nat→St→Hp→Prop,(∃m,W m σ H)∧∀m σ H,W m σ H→
 c σ H fun b H1=>if b=true then ∃N:St→Hp→Prop,(∀σ' H',N σ' H'→∃m',m' < m∧W m' σ' H')∧tb {D with nx:=N,ct:=N,bk:=D.nx} σ H1 else D.nx σ H1
theorem ps_while {c:Expr}{body:List Stmt}{tc:TT}{tb:TS}(hp:PassesOwn (model X.prog X.w) X.A X.env X.xe)(hc:PT X c tc)(hb:PSs X body tb):PS X (.While c body [] pos) (tWhile tc tb):=by
 intro pins s σ H D I h
 obtain ⟨W,⟨m0,w0⟩,turn⟩:=h
 refine wpAny_While (codeAny_whileLoop (fun n s'=>∃σ' H',Inv X pins σ' H' s'∧W n σ' H') ?_ m0 ⟨σ,H,I,w0⟩)
 rintro n s1 ⟨σ1,H1,I1,w1⟩
 refine wpAny_passesOwn hp (thn (hc pins s1 σ1 H1 _ I1 (turn n σ1 H1 w1)) fun b s2 ⟨H2,I2,q2⟩=>?_)
 cases b with
 | true=>
  obtain ⟨N,hN,q2⟩:=q2
  rw [if_pos rfl]
  refine wpAny_passesOwn hp (thn (hb pins s2 σ1 H2 _ I2 q2) fun f s3 q3=>?_)
  cases f with
  | next=>
   obtain ⟨σ3,H3,I3,n3⟩:=q3
   obtain ⟨m',hm,w3⟩:=hN σ3 H3 n3
   exact ⟨m',hm,σ3,H3,I3,w3⟩
  | cont=>
   obtain ⟨σ3,H3,I3,n3⟩:=q3
   obtain ⟨m',hm,w3⟩:=hN σ3 H3 n3
   exact ⟨m',hm,σ3,H3,I3,w3⟩
  | brk=>exact q3
  | ret v=>exact q3
 | false=>
  rw [if_neg Bool.false_ne_true]
  exact wpAny_execs_nil ⟨σ1,H2,I2,q2⟩
end
structure It where
 go:Nat→Hp→Prop
 yld:Nat→Hp→V→Hp→Prop
 stop:Nat→Hp→Prop
noncomputable def FpOk (X:Cx) (pins:List (Addr×Obj)) (H:Hp) (b:Addr):Prop:=
 H b=none∧b≠X.env.locals∧b∉X.fs∧(b∈X.ex∨X.s₀.heap.objs.size≤b)∧(∀x c,X.env.cells.lookup x=some c→c≠b)∧∀p∈X.pn ++ pins,p.1≠b
theorem Inv.fpOk {X:Cx}{pins:List (Addr×Obj)}{σ:St}{H H':Hp}{s:Shared}{b:Addr}(I:Inv X pins σ H s)(hb:s.heap.objs.size≤b)(hn:H' b=none):FpOk X pins H' b:=by
 refine ⟨hn,Nat.ne_of_gt (Nat.lt_of_lt_of_le I.lt hb),I.nofs hb,.inr (Nat.le_trans I.sz hb),fun x c e z=>?_,fun p hp z=>?_⟩
 ·obtain ⟨v,q⟩:=I.cell x c e
  exact absurd (Nat.lt_of_lt_of_le q.lt (by rw [z];exact hb)) (Nat.lt_irrefl _)
 ·exact absurd (Nat.lt_of_lt_of_le (Heap.lt_size (I.pin p hp).1) (by rw [z];exact hb)) (Nat.lt_irrefl _)
structure Turn (P:Program) (w:World) (K:PySem.W.Frag) (tg:Expr) (J:It) (fp:List Addr) (it:Addr) (tn:Nat→Heap→Prop):Prop where
 mem:it∈fp
 obj:∀i h,tn i h→∀b∈fp,∃o,h.get? b=some o∧∀v,o.data≠.cell v
 keep:∀i h h',tn i h→(∀b∈fp,∀o,h.get? b=some o→h'.get? b=some o)→tn i h'
 item:∀(X:Cx),X.prog=P→X.w=w→X.K=K→X.calm=true→∀(i:Nat) (pins:List (Addr×Obj)) (s:Shared) (σ:St) (H:Hp) (E:Value→Shared→Prop),Inv X pins σ H s→(∀b∈fp,FpOk X pins H b)→tn i s.heap→J.go i H→
  wpAny (model P w) X.A (pyNext (.ref it)) (fun r s1=>∃u,r=some u∧
   wpAny (model P w) X.A (letOwnedTupleGo tg (.ref it) u) (fun _ s2=>∃x H',Inv X pins σ H' s2∧RelV x u∧J.yld i H x H'∧tn (i + 1) s2.heap∧∀b∈fp,H' b=none) E s1) E s
 done:∀(X:Cx),X.prog=P→X.w=w→X.K=K→X.calm=true→∀(i:Nat) (pins:List (Addr×Obj)) (s:Shared) (σ:St) (H:Hp) (E:Value→Shared→Prop),Inv X pins σ H s→(∀b∈fp,FpOk X pins H b)→tn i s.heap→J.stop i H→
  wpAny (model P w) X.A (pyNext (.ref it)) (fun r s1=>r=none∧Inv X pins σ H s1) E s
 self:∀(A:Around) (i:Nat) (s:Shared) (Q:Value→Shared→Prop) (E:Value→Shared→Prop),tn i s.heap→Q (.ref it) s→wpAny (model P w) A (pyIter (.ref it)) Q E s
noncomputable abbrev TI:=St→Hp→(It→Hp→Prop)→Prop
noncomputable def PIE (X:Cx) (pins:List (Addr×Obj)) (σ:St) (tg:Expr) (R:It→Hp→Prop) (itv:Value) (s2:Shared):Prop:=
 ∃(it:Addr) (fp:List Addr) (tn:Nat→Heap→Prop) (J:It) (H':Hp),itv= .ref it∧Inv X pins σ H' s2∧Turn X.prog X.w X.K tg J fp it tn∧tn 0 s2.heap∧(∀b∈fp,FpOk X pins H' b)∧R J H'
noncomputable def PI (X:Cx) (tg iter:Expr) (wi:TI):Prop:=
 ∀(pins:List (Addr×Obj)) (s:Shared) (σ:St) (H:Hp) (R:It→Hp→Prop),Inv X pins σ H s→wi σ H R→
  wpAny (model X.prog X.w) X.A (eval iter X.env) (fun v s1=>wpAny (model X.prog X.w) X.A (pyIter v) (PIE X pins σ tg R) X.xe s1) X.xe s
theorem go_of {M:Model}{A:Around}{E:Value→Shared→Prop}{s:Shared}{tg:Expr}{it:Addr}{u:Value}{o:Obj}{n:String}{vs:Array Value}{Q:Unit→Shared→Prop}(ho:s.heap.get? it=some o)(hc:o.cls= .type n)(hd:o.data= .fields vs)
  (hn:["enumerate","zip","dict_itemiterator","dict_reverseitemiterator","odict_iterator","itertools.zip_longest","itertools.pairwise"].contains n=false) (hQ:Q () s):wpAny M A (letOwnedTupleGo tg (.ref it) u) Q E s:=by
 unfold letOwnedTupleGo
 cases tg <;> first
  | exact wpAny_pure hQ
  | (cases u <;> first
    | exact wpAny_pure hQ
    | (refine wpAny_bind (wpAny_load ho ?_)
       rw [hc,hd]
       show wpAny M A (if (["enumerate","zip","dict_itemiterator","dict_reverseitemiterator","odict_iterator","itertools.zip_longest","itertools.pairwise"].contains n && vs[0]? == some (rawInt _))=true then _ else _) Q E s
       rw [if_neg (by intro h;rw [hn,Bool.false_and] at h;cases h)]
       exact wpAny_pure hQ))
noncomputable def Itl (K:PySem.W.Frag) (a:Addr):It:=
 ⟨fun i H=>∃xs x,SqL K H a xs∧xs[i]? =some x,fun i H x H'=>H'=H∧∀xs,SqL K H a xs→xs[i]? =some x,fun i H=>∃xs,SqL K H a xs∧xs.length≤i⟩
noncomputable def Itt (K:PySem.W.Frag) (a:Addr):It:=
 ⟨fun i H=>∃xs x,SqT K H a xs∧xs[i]? =some x,fun i H x H'=>H'=H∧∀xs,SqT K H a xs→xs[i]? =some x,fun i H=>∃xs,SqT K H a xs∧xs.length≤i⟩
noncomputable def Itr (lo:Int) (n:Nat):It:=⟨fun i _=>i < n,fun i H x H'=>H'=H∧x= .int (lo + i),fun i _=>n≤i⟩
theorem turn_list {P:Program}{w:World}{K:PySem.W.Frag}{tg:Expr}(a it:Addr):Turn P w K tg (Itl K a) [it] it (fun i h=>h.IsListIter it a i) where
 mem:=by simp
 obj:=fun i h st b hb=>by
  have e:b=it:=by simpa using hb
  subst e
  obtain ⟨o,e,c,d⟩:=st
  exact ⟨o,e,fun v z=>by rw [d] at z;cases z⟩
 keep:=fun i h h' st k=>st.at fun o e=>k it (by simp) o e
 item:=by
  intro X hP hw hK hc i pins s σ H E I hf st hg
  subst hP hw hK
  obtain ⟨xs,x,hq,hx⟩:=hg
  obtain ⟨its,rv,p,hz⟩:=I.list hq
  obtain ⟨u,hu,ru⟩:=rv.get hx
  obtain ⟨f0,f1,f2,f3,f4,f5⟩:=hf it (by simp)
  refine wpAny_pyNext_list_item st p.isList (x:=u) (by simpa using hu) fun h' st' sb=>?_
  have I1:Inv X pins σ H {s with heap:=h'}:=I.turned (t':=s.toks) (fun b o hb e=>(sb.2 b hb).trans e) f0 f1 f3 f4 f5
  obtain ⟨o,e,c,d⟩:=id st'
  exact ⟨u,rfl,go_of (s:={s with heap:=h'}) e c d (by decide) ⟨x,H,I1,ru,⟨rfl,fun ys hy=>by rw [I.list_inj hy hq];exact hx⟩,st',fun b hb=>(hf b hb).1⟩⟩
 done:=by
  intro X hP hw hK hc i pins s σ H E I hf st hg
  subst hP hw hK
  obtain ⟨xs,hq,hx⟩:=hg
  obtain ⟨its,rv,p,hz⟩:=I.list hq
  obtain ⟨f0,f1,f2,f3,f4,f5⟩:=hf it (by simp)
  have hl:=rv.length
  exact wpAny_pyNext_list_end (I.ok.hd hc) st p.isList (by simp;(first|lia|omega)) fun h' eb=>⟨rfl,I.turned (t':=s.toks) (fun b o hb e=>eb b o hb e) f0 f1 f3 f4 f5⟩
 self:=fun _ _ _ _ _ st h=>wpAny_pyIter_listiter st h
theorem turn_tuple {P:Program}{w:World}{K:PySem.W.Frag}{tg:Expr}(a it:Addr):Turn P w K tg (Itt K a) [it] it (fun i h=>h.IsTupleIter it a i) where
 mem:=by simp
 obj:=fun i h st b hb=>by
  have e:b=it:=by simpa using hb
  subst e
  obtain ⟨o,e,c,d⟩:=st
  exact ⟨o,e,fun v z=>by rw [d] at z;cases z⟩
 keep:=fun i h h' st k=>st.at fun o e=>k it (by simp) o e
 item:=by
  intro X hP hw hK hc i pins s σ H E I hf st hg
  subst hP hw hK
  obtain ⟨xs,x,hq,hx⟩:=hg
  obtain ⟨its,rv,p,hz⟩:=I.tuple hq
  obtain ⟨u,hu,ru⟩:=rv.get hx
  obtain ⟨f0,f1,f2,f3,f4,f5⟩:=hf it (by simp)
  refine wpAny_pyNext_tuple_item st (show s.heap.IsTuple a its.toArray from p) (x:=u) (by simpa using hu) fun h' st' sb=>?_
  have I1:Inv X pins σ H {s with heap:=h'}:=I.turned (t':=s.toks) (fun b o hb e=>(sb.2 b hb).trans e) f0 f1 f3 f4 f5
  obtain ⟨o,e,c,d⟩:=id st'
  exact ⟨u,rfl,go_of (s:={s with heap:=h'}) e c d (by decide) ⟨x,H,I1,ru,⟨rfl,fun ys hy=>by rw [I.tuple_inj hy hq];exact hx⟩,st',fun b hb=>(hf b hb).1⟩⟩
 done:=by
  intro X hP hw hK hc i pins s σ H E I hf st hg
  subst hP hw hK
  obtain ⟨xs,hq,hx⟩:=hg
  obtain ⟨its,rv,p,hz⟩:=I.tuple hq
  obtain ⟨f0,f1,f2,f3,f4,f5⟩:=hf it (by simp)
  have hl:=rv.length
  exact wpAny_pyNext_tuple_end (I.ok.hd hc) st (show s.heap.IsTuple a its.toArray from p) (by simp;(first|lia|omega)) fun h' eb=>⟨rfl,I.turned (t':=s.toks) (fun b o hb e=>eb b o hb e) f0 f1 f3 f4 f5⟩
 self:=fun _ _ _ _ _ st h=>wpAny_pyIter_tupleiter st h
theorem turn_range {P:Program}{w:World}{K:PySem.W.Frag}{tg:Expr}(it:Addr)(lo:Int)(n:Nat):Turn P w K tg (Itr lo n) [it] it (fun i h=>IsRangeIter h it (lo + (i:Nat) * 1) ((n:Int) - (i:Nat)) 1) where
 mem:=by simp
 obj:=fun i h st b hb=>by
  have e:b=it:=by simpa using hb
  subst e
  exact ⟨_,st,fun v z=>by
   have z':Data.fields _=Data.cell v:=z
   cases z'⟩
 keep:=fun i h h' st k=>k it (by simp) _ st
 item:=by
  intro X hP hw hK hc i pins s σ H E I hf st hg
  subst hP hw hK
  obtain ⟨f0,f1,f2,f3,f4,f5⟩:=hf it (by simp)
  have W:=Walks.range (prog:=X.prog) (w:=X.w) (I.ok.hd hc) it lo 1 n
  refine W.item i s _ _ hg st fun v h' tk hv st' kk=>?_
  obtain ⟨t,rfl⟩:=hv
  have I1:Inv X pins σ H {s with heap:=h',toks:=tk}:=I.turned (fun b o hb e=>kk b o (by simpa using hb) e) f0 f1 f3 f4 f5
  refine ⟨_,rfl,go_of (s:={s with heap:=h',toks:=tk}) (n:="range_iterator") st' rfl rfl (by decide) ⟨.int (lo + i),H,I1,⟨t,?_⟩,⟨rfl,rfl⟩,st',fun b hb=>(hf b hb).1⟩⟩
  rw [Int.mul_one]
 done:=by
  intro X hP hw hK hc i pins s σ H E I hf st hg
  subst hP hw hK
  obtain ⟨f0,f1,f2,f3,f4,f5⟩:=hf it (by simp)
  exact wpAny_pyNext_range_end (I.ok.hd hc) st (by have:n≤i:=hg;(first|lia|omega)) fun h' eb=>⟨rfl,I.turned (t':=s.toks) (fun b o hb e=>eb b o hb e) f0 f1 f3 f4 f5⟩
 self:=fun _ _ _ _ _ st h=>wpAny_pyIter_rangeiter st h
end L2
namespace L2
open PySem PySem.Spec PyProof.Rows
section
variable {X:Cx}{tg:Expr}
theorem range_it {pins:List (Addr×Obj)}{σ:St}{H:Hp}{s:Shared}{R:It→Hp→Prop}{E:Value→Shared→Prop}{lo hi:Int}{t u v:Tok}{tk:Nat}(I:Inv X pins σ H s)(h1:-(2 ^ 62)≤lo)(h2:lo < 2 ^ 62)(h3:-(2 ^ 62)≤hi)(h4:hi < 2 ^ 62)
  (q:R (Itr lo (hi - lo).toNat) H):wpAny (model X.prog X.w) X.A (pyIter (.ref s.heap.objs.size)) (PIE X pins σ tg R) E {s with heap:=s.heap.push {cls:=.type "range",data:=.fields #[.int lo t,.int hi u,.int 1 v]},toks:=tk}:=by
 refine wpAny_pyIter_range (IsRange.new ..) (small_one h1 h2 h3 h4) ?_
 have I1:Inv X pins σ H {s with heap:=s.heap.push {cls:=.type "range",data:=.fields #[.int lo t,.int hi u,.int 1 v]},toks:=tk}:=I.kept fun b o e=>Heap.get?_push_of_some _ e
 refine ⟨(s.heap.push {cls:=.type "range",data:=.fields #[.int lo t,.int hi u,.int 1 v]}).objs.size,[(s.heap.push {cls:=.type "range",data:=.fields #[.int lo t,.int hi u,.int 1 v]}).objs.size],_,_,H,rfl,
  I1.kept (t':=tk) fun b o e=>Heap.get?_push_of_some _ e,turn_range _ lo (hi - lo).toNat,?_,fun b hb=>?_,q⟩
 ·have e1:lo + ((0:Nat):Int) * 1=lo:=by simp
  have e2:(((hi - lo).toNat:Nat):Int) - ((0:Nat):Int)=Builtin.Range.rangeSize lo hi 1:=by rw [rangeSize_one];split <;> (first|lia|omega)
  show IsRangeIter _ _ (lo + ((0:Nat):Int) * 1) ((((hi - lo).toNat:Nat):Int) - ((0:Nat):Int)) 1
  rw [e1,e2]
  exact Heap.get?_push_size _ rfl
 ·have e:b=(s.heap.push {cls:=.type "range",data:=.fields #[.int lo t,.int hi u,.int 1 v]}).objs.size:=by simpa using hb
  subst e
  exact I1.fpOk (Nat.le_refl _) (I1.hok.fresh (Nat.le_refl _))
noncomputable def iRng1 (ta:TA):TI:=fun σ H R=>ta σ H fun vs H1=>∃j:Int,vs=[.int j]∧-(2 ^ 62)≤j∧j < 2 ^ 62∧R (Itr 0 j.toNat) H1
noncomputable def iRng2 (ta:TA):TI:=fun σ H R=>ta σ H fun vs H1=>∃i j:Int,vs=[.int i,.int j]∧(-(2 ^ 62)≤i∧i < 2 ^ 62∧-(2 ^ 62)≤j∧j < 2 ^ 62)∧R (Itr i (j - i).toNat) H1
theorem pi_range1 {a:Expr}{ta:TA}{p pos:Pos}(hg:Gl X "range")(hm:X.mg "range"=none)(ha:PA X [a] ta)(hs:autoParam (starEach [a] X.env=[(false,eval a X.env)]) Zau.a2._auto_1):PI X tg (.Call (.Name "range" p) [a] [] pos) (iRng1 ta):=by
 intro pins s σ H R I h
 refine Call_ (ld_blt I hg hm boot_range (PyProof.Rows.callWith_type1 (thn (ha pos pins s σ H _ I h) fun us s1 ⟨vs,H1,I1,r1,q1⟩=>?_) hs rfl))
 obtain ⟨j,e,q1,q2,q⟩:=q1
 subst e
 cases r1 with
 | cons r rr=>
  cases rr
  obtain ⟨t,rfl⟩:=r
  exact call_range_1 (range_it I1 (by (first|lia|omega)) (by (first|lia|omega)) q1 q2 (by simpa using q))
theorem pi_range2 {a b:Expr}{ta:TA}{p pos:Pos}(hg:Gl X "range")(hm:X.mg "range"=none)(ha:PA X [a,b] ta)(hs:autoParam (starEach [a,b] X.env=[(false,eval a X.env),(false,eval b X.env)]) Zau.a2._auto_1)(hs2:autoParam (starEach [b] X.env=[(false,eval b X.env)]) Zau.a2._auto_1):
  PI X tg (.Call (.Name "range" p) [a,b] [] pos) (iRng2 ta):=by
 intro pins s σ H R I h
 refine Call_ (ld_blt I hg hm boot_range (PyProof.Rows.callWith_type1 (thn (ha pos pins s σ H _ I h) fun us s1 ⟨vs,H1,I1,r1,q1⟩=>?_) (by rw [hs,hs2]) (by rw [hs2];rfl)))
 obtain ⟨i,j,e,⟨q1,q2,q3,q4⟩,q⟩:=q1
 subst e
 cases r1 with
 | cons r rr=>
  cases rr with
  | cons r' rr=>
   cases rr
   obtain ⟨t,rfl⟩:=r
   obtain ⟨t',rfl⟩:=r'
   exact call_range_2 (range_it I1 q1 q2 q3 q4 q)
noncomputable def tFor (wi:TI) (g:TG) (tb:TS):TS:=fun D σ H=>wi σ H fun J H1=>∃W:Nat→Nat→St→Hp→Prop,(∃m,W 0 m σ H1)∧∀i m σ H,W i m σ H→
 (J.stop i H∧D.nx σ H)∨(J.go i H∧∃N:St→Hp→Prop,(∀σ' H',N σ' H'→∃m',m' < m∧W (i + 1) m' σ' H')∧∀x H',J.yld i H x H'→g x σ H' fun σ2 H2=>tb {D with nx:=N,ct:=N,bk:=D.nx} σ2 H2)
noncomputable def pinsAt (fp:List Addr) (h:Heap):List (Addr×Obj):=fp.filterMap fun b=>(h.get? b).map fun o=>(b,o)
theorem mem_pinsAt {fp:List Addr}{h:Heap}{b:Addr}{o:Obj}(hb:b∈fp)(e:h.get? b=some o):(b,o)∈pinsAt fp h:=List.mem_filterMap.mpr ⟨b,hb,by rw [e];rfl⟩
theorem of_pinsAt {fp:List Addr}{h:Heap}{p:Addr×Obj}(hp:p∈pinsAt fp h):p.1∈fp∧h.get? p.1=some p.2:=by
 obtain ⟨b,hb,e⟩:=List.mem_filterMap.mp hp
 cases q:h.get? b with
 | none=>rw [q] at e;cases e
 | some o=>
  rw [q] at e
  have e':(b,o)=p:=Option.some.inj e
  subst e'
  exact ⟨hb,q⟩
theorem Inv.pinned {pins:List (Addr×Obj)}{σ:St}{H:Hp}{s:Shared}{fp:List Addr}(I:Inv X pins σ H s)(hf:∀b∈fp,FpOk X pins H b)(ho:∀b∈fp,∃o,s.heap.get? b=some o∧∀v,o.data≠.cell v):Inv X (pins ++ pinsAt fp s.heap) σ H s:=
 I.pins_of fun p hp=>(List.mem_append.mp hp).elim (fun z=>I.pin p (List.mem_append_right _ z)) fun z=>by
  obtain ⟨hb,e⟩:=of_pinsAt z
  obtain ⟨f0,f1,f2,_⟩:=hf p.1 hb
  obtain ⟨o,e',d⟩:=ho p.1 hb
  rw [e] at e';cases e'
  exact ⟨e,f0,f1,f2,d⟩
theorem Inv.unpinned {pins pl:List (Addr×Obj)}{σ:St}{H:Hp}{s:Shared}(I:Inv X (pins ++ pl) σ H s):Inv X pins σ H s:=I.pins_of fun p hp=>I.pin p (List.mem_append_right _ (List.mem_append_left _ hp))
theorem ps_for {iter:Expr}{body:List Stmt}{wi:TI}{g:TG}{tb:TS}{pos:Pos}(hp:PassesOwn (model X.prog X.w) X.A X.env X.xe)(hc:X.calm=true)(hi:PI X tg iter wi)(hg:PG X tg g)(hb:PSs X body tb)
  (hs:autoParam (∀x,foldedSetIterable iter X.env x=pure x) Zau.a3._auto_1):PS X (.For tg iter body [] pos) (tFor wi g tb):=by
 intro pins s σ H D I h
 refine wpAny_For (thn (hi pins s σ H _ I h) fun v s1 h1=>thn h1 fun itv s2 h2=>?_) hs
 obtain ⟨it,fp,tn,J,H2,e,I2,T,st2,f2,W,⟨m0,w0⟩,turn⟩:=h2
 subst e
 have stat:∀{H':Hp},(∀b∈fp,H' b=none)→∀b∈fp,FpOk X pins H' b:=fun hn b hb=>⟨hn b hb,(f2 b hb).2⟩
 refine codeAny_forLoop_any (fun n s'=>∃i σ' H',Inv X pins σ' H' s'∧tn i s'.heap∧(∀b∈fp,H' b=none)∧W i n σ' H') ?_ m0 ⟨0,σ,H2,I2,st2,fun b hb=>(f2 b hb).1,w0⟩
 rintro n s3 ⟨i,σ3,H3,I3,st3,fr3,w3⟩
 rcases turn i n σ3 H3 w3 with ⟨stop,qn⟩ | ⟨go,N,hN,step⟩
 ·refine wpAny_passesOwn hp (thn (T.done X rfl rfl rfl hc i pins s3 σ3 H3 X.xe I3 (stat fr3) st3 stop) fun r s4 ⟨hr,I4⟩=>?_)
  subst hr
  exact wpAny_execs_nil ⟨σ3,H3,I4,qn⟩
 ·refine wpAny_passesOwn hp (thn (T.item X rfl rfl rfl hc i pins s3 σ3 H3 X.xe I3 (stat fr3) st3 go) fun r s4 ⟨u,hr,h4⟩=>?_)
  subst hr
  refine wpAny_passesOwn hp (thn h4 fun _ s5 ⟨x,H5,I5,r5,y5,st5,fr5⟩=>?_)
  have I5':=I5.pinned (stat fr5) (T.obj _ _ st5)
  refine wpAny_passesOwn hp (thn (hg _ s5 σ3 H5 x u _ I5' r5 (step x H5 y5)) fun _ s6 ⟨σ6,H6,I6,q6⟩=>?_)
  refine wpAny_passesOwn hp (thn (hb _ s6 σ6 H6 _ I6 q6) fun f s7 q7=>?_)
  have again:∀{σ7:St} {H7:Hp},Inv X (pins ++ pinsAt fp s5.heap) σ7 H7 s7→N σ7 H7→∃m,m < n∧∃i σ' H',Inv X pins σ' H' s7∧tn i s7.heap∧(∀b∈fp,H' b=none)∧W i m σ' H':=fun {σ7 H7} I7 n7=>by
   obtain ⟨m',hm,w7⟩:=hN σ7 H7 n7
   refine ⟨m',hm,i + 1,σ7,H7,I7.unpinned,T.keep _ _ _ st5 fun b hb o e=>(I7.pin (b,o) (List.mem_append_right _ (List.mem_append_right _ (mem_pinsAt hb e)))).1,fun b hb=>?_,w7⟩
   obtain ⟨o,e,d⟩:=T.obj _ _ st5 b hb
   exact (I7.pin (b,o) (List.mem_append_right _ (List.mem_append_right _ (mem_pinsAt hb e)))).2.1
  cases f with
  | next=>obtain ⟨σ7,H7,I7,n7⟩:=q7;exact again I7 n7
  | cont=>obtain ⟨σ7,H7,I7,n7⟩:=q7;exact again I7 n7
  | brk=>obtain ⟨σ7,H7,I7,q7⟩:=q7;exact ⟨σ7,H7,I7.unpinned,q7⟩
  | ret v=>obtain ⟨x7,σ7,H7,I7,r7,q7⟩:=q7;exact ⟨x7,σ7,H7,I7.unpinned,r7,q7⟩
end
end L2
namespace L2
open PySem PySem.Spec PyProof.Rows
noncomputable abbrev R2:=V→V→Hp→VK→Prop
noncomputable def OpR (X:Cx) (f:Value→Value→Sem Value) (r:R2):Prop:=
 ∀(pins:List (Addr×Obj)) (s:Shared) (σ:St) (H:Hp) (x y:V) (v u:Value) (Q:VK),Inv X pins σ H s→RelV x v→RelV y u→r x y H Q→
  wpAny (model X.prog X.w) X.A (f v u) (EP X pins σ Q) X.xe s
noncomputable def CallR (X:Cx) (f:Value) (r:List V→Hp→VK→Prop):Prop:=
 ∀(pins:List (Addr×Obj)) (s:Shared) (σ:St) (H:Hp) (xs:List V) (us:List Value) (Q:VK),Inv X pins σ H s→Vals xs us→r xs H Q→
  wpAny (model X.prog X.w) X.A (call f us) (EP X pins σ Q) X.xe s
noncomputable def TruR (X:Cx) (r:V→Hp→(Bool→Hp→Prop)→Prop):Prop:=
 ∀(pins:List (Addr×Obj)) (s:Shared) (σ:St) (H:Hp) (x:V) (v:Value) (Q:Bool→Hp→Prop),Inv X pins σ H s→RelV x v→r x H Q→
  wpAny (model X.prog X.w) X.A (truthy v) (TP X pins σ Q) X.xe s
noncomputable def tOp (r:R2) (ta tb:TE):TE:=fun σ H Q=>ta σ H fun x H1=>tb σ H1 fun y H2=>r x y H2 Q
noncomputable def rI (C:Int→Int→Prop) (g:Int→Int→V):R2:=fun x y H Q=>∃i j,x= .int i∧y= .int j∧C i j∧Q (g i j) H
noncomputable def rI0 (g:Int→Int→V):R2:=fun x y H Q=>∃i j,x= .int i∧y= .int j∧Q (g i j) H
section
variable {X:Cx}{a b c:Expr}{ta tb tc:TE}{pos:Pos}
theorem binT (ha:PE X a ta)(hb:PE X b tb){pins:List (Addr×Obj)}{s:Shared}{σ:St}{H:Hp}{R:V→V→Hp→Prop}(I:Inv X pins σ H s)
  (h:ta σ H fun x H1=>tb σ H1 fun y H2=>R x y H2) {Q:Value→Shared→Prop} {f:Value→Value→Sem Value}
  (hf:∀v u s2 x y H2,Inv X pins σ H2 s2→RelV x v→RelV y u→R x y H2→wpAny (model X.prog X.w) X.A (f v u) Q X.xe s2):
  wpAny (model X.prog X.w) X.A (eval a X.env) (fun v s₁=>wpAny (model X.prog X.w) X.A (eval b X.env) (fun u s₂=>wpAny (model X.prog X.w) X.A (f v u) Q X.xe s₂) X.xe s₁) X.xe s:=by
 refine thn (ha pins s σ H _ I h) fun v s1 ⟨x,H1,I1,r1,q1⟩=>?_
 refine thn (hb pins s1 σ H1 _ I1 q1) fun u s2 ⟨y,H2,I2,r2,q2⟩=>?_
 exact hf v u s2 x y H2 I2 r1 r2 q2
theorem pe_op {op:Operator}{r:R2}(ho:OpR X (binaryOp op) r)(ha:PE X a ta)(hb:PE X b tb):PE X (.BinOp a op b pos) (tOp r ta tb):=by
 intro pins s σ H Q I h
 exact wpAny_BinOp (binT ha hb I h fun v u s2 x y H2 I2 rx ry q=>ho pins s2 σ H2 x y v u Q I2 rx ry q)
theorem opI {f:Value→Value→Sem Value}{C:Int→Int→Prop}{g:Int→Int→Int}
  (rule:∀(i j:Int) (t u:Tok) (s:Shared) (Q:Value→Shared→Prop) (E:Value→Shared→Prop),C i j→Q (.int (g i j) s.toks) {s with toks:=s.toks + 1}→wpAny (model X.prog X.w) X.A (f (.int i t) (.int j u)) Q E s):
  OpR X f (rI C fun i j=>.int (g i j)):=by
 intro pins s σ H x y v u Q I rx ry h
 obtain ⟨i,j,rfl,rfl,hc,q⟩:=h
 obtain ⟨t,rfl⟩:=rx
 obtain ⟨t',rfl⟩:=ry
 exact rule i j t t' s _ _ hc ⟨.int (g i j),H,I.tok _,⟨_,rfl⟩,q⟩
theorem opI0 {f:Value→Value→Sem Value}{g:Int→Int→Int}
  (rule:∀(i j:Int) (t u:Tok) (s:Shared) (Q:Value→Shared→Prop) (E:Value→Shared→Prop),Q (.int (g i j) s.toks) {s with toks:=s.toks + 1}→wpAny (model X.prog X.w) X.A (f (.int i t) (.int j u)) Q E s):
  OpR X f (rI0 fun i j=>.int (g i j)):=by
 intro pins s σ H x y v u Q I rx ry h
 obtain ⟨i,j,rfl,rfl,q⟩:=h
 obtain ⟨t,rfl⟩:=rx
 obtain ⟨t',rfl⟩:=ry
 exact rule i j t t' s _ _ ⟨.int (g i j),H,I.tok _,⟨_,rfl⟩,q⟩
theorem opB0 {f:Value→Value→Sem Value}{g:Int→Int→Bool}
  (rule:∀(i j:Int) (t u:Tok) (s:Shared) (Q:Value→Shared→Prop) (E:Value→Shared→Prop),Q (.bool (g i j)) s→wpAny (model X.prog X.w) X.A (f (.int i t) (.int j u)) Q E s):
  OpR X f (rI0 fun i j=>.bl (g i j)):=by
 intro pins s σ H x y v u Q I rx ry h
 obtain ⟨i,j,rfl,rfl,q⟩:=h
 obtain ⟨t,rfl⟩:=rx
 obtain ⟨t',rfl⟩:=ry
 exact rule i j t t' s _ _ ⟨.bl (g i j),H,I,rfl,q⟩
noncomputable def CPow (i j:Int):Prop:=0≤j∧j≤1000000∧i.natAbs < 2 ^ 64
noncomputable def CMul (i j:Int):Prop:=(-(2 ^ 64) < i∧i < 2 ^ 64)∨(-(2 ^ 64) < j∧j < 2 ^ 64)
theorem CMul.ok {i j:Int}(h:CMul i j):IntMulOk i j:=by
 rcases h with ⟨h1,h2⟩ | ⟨h1,h2⟩
 ·exact .of_left (intBits_le_64 h1 h2)
 ·exact .of_right (intBits_le_64 h1 h2)
theorem op_add:OpR X (binaryOp .Add) (rI0 fun i j=>.int (i + j)):=opI0 fun _ _ _ _ _ _ _ q=>add_int q
theorem op_sub:OpR X (binaryOp .Sub) (rI0 fun i j=>.int (i - j)):=opI0 fun _ _ _ _ _ _ _ q=>sub_int q
theorem op_mod:OpR X (binaryOp .Mod) (rI (fun _ j=>0 < j) fun i j=>.int (i % j)):=opI fun i j _ _ _ _ _ hc q=>by
 have h1:(0:Int) < j:=hc
 exact mod_int' (by (first|lia|omega)) (by rw [Int.fmod_eq_emod_of_nonneg i (by (first|lia|omega))];exact q)
theorem op_pow:OpR X (binaryOp .Pow) (rI CPow fun i j=>.int (i ^ j.toNat)):=opI fun _ _ _ _ _ _ _ hc q=>pow_int_small hc.1 hc.2.1 hc.2.2 q
end
section
variable {X:Cx}{a b c:Expr}{ta tb tc:TE}{pos:Pos}
theorem op_lt:OpR X (compareOp .Lt) (rI0 fun i j=>.bl (decide (i < j))):=opB0 fun _ _ _ _ _ _ _ q=>lt_int q
theorem op_gt:OpR X (compareOp .Gt) (rI0 fun i j=>.bl (decide (j < i))):=opB0 fun _ _ _ _ _ _ _ q=>gt_int q
theorem op_ge:OpR X (compareOp .GtE) (rI0 fun i j=>.bl (decide (j≤i))):=opB0 fun _ _ _ _ _ _ _ q=>ge_int q
theorem OpR.or {f:Value→Value→Sem Value}{r r':R2}(h:OpR X f r)(h':OpR X f r'):OpR X f (fun x y H Q=>r x y H Q∨r' x y H Q):=by
 intro pins s σ H x y v u Q I rx ry q
 rcases q with q | q
 ·exact h pins s σ H x y v u Q I rx ry q
 ·exact h' pins s σ H x y v u Q I rx ry q
theorem nomark (b:Expr){op:CmpOp}(h:autoParam (op≠.In) Zau.a1._auto_1)(h2:autoParam (op≠.NotIn) Zau.a1._auto_1):behindInMarks op b=false:=by
 have e1:(op == CmpOp.In)=false:=by cases op <;> first | rfl | exact absurd rfl h
 have e2:(op == CmpOp.NotIn)=false:=by cases op <;> first | rfl | exact absurd rfl h2
 cases b <;> simp [behindInMarks,e1,e2]
theorem pe_cmpR {op:CmpOp}{r:R2}(ho:OpR X (compareOp op) r)(ha:PE X a ta)(hb:PE X b tb)(hm:behindInMarks op b=false):PE X (.Compare a [op] [b] pos) (tOp r ta tb):=by
 intro pins s σ H Q I h
 exact wpAny_Compare1 (binT ha hb I h fun v u s2 x y H2 I2 rx ry q=>ho pins s2 σ H2 x y v u Q I2 rx ry q) hm
noncomputable def tTest (t:TE):TT:=fun σ H Q=>t σ H fun x H'=>∃k,x= .bl k∧Q k H'
theorem pt_cmpR {op:CmpOp}{r:R2}(ho:OpR X (compareOp op) r)(ha:PE X a ta)(hb:PE X b tb)(hm:behindInMarks op b=false):PT X (.Compare a [op] [b] pos) (tTest (tOp r ta tb)):=by
 intro pins s σ H Q I h
 refine wpAny_isTrue_Compare1 (thn (ha pins s σ H _ I h) fun v s1 ⟨x,H1,I1,r1,q1⟩=>thn (hb pins s1 σ H1 _ I1 q1) fun u s2 ⟨y,H2,I2,r2,q2⟩=>
  thn (ho pins s2 σ H2 x y v u _ I2 r1 r2 q2) fun c s3 ⟨z,H3,I3,r3,k,e,q3⟩=>?_) hm
 subst e
 cases r3
 exact wpAny_truthy_bool ⟨H3,I3,q3⟩
noncomputable def TruV (K:PySem.W.Frag) (x:V) (H:Hp) (k:Bool):Prop:=
 match x with
 | .non=>k=false
 | .bl b=>k=b
 | .int i=>k=(i != 0)
 | .str y=>y.length≤sizeLine∧k=((y.length:Int) != 0)
 | .byt y=>y.size≤sizeLine∧k=((y.size:Int) != 0)
 | .ref p=>(∃xs,SqL K H p xs∧k= !xs.isEmpty)∨(∃xs,SqT K H p xs∧k= !xs.isEmpty)∨∃kvs,H p=some (.dK kvs)∧k= !kvs.isEmpty
 | _=>False
theorem isEmpty_kv {κ:Type}{kvs:List (κ×V)}{vs:List (κ×Value)}(r:KV kvs vs):(!vs.isEmpty)= !kvs.isEmpty:=by
 cases r <;> rfl
theorem isEmpty_of {xs:List V}{its:List Value}(r:Vals xs its):(!its.toArray.isEmpty)= !xs.isEmpty:=by
 cases r <;> simp
theorem line63:(sizeLine:Nat) < 2 ^ 63:=by rw [sizeLine_eq];decide
theorem tru_ok:TruR X (fun x H Q=>∃k,TruV X.K x H k∧Q k H):=by
 intro pins s σ H x v Q I rx h
 obtain ⟨k,e,q⟩:=h
 have hl:=line63
 have hs:sizeLine=16777216:=sizeLine_eq
 cases x with
 | non=>
  cases rx
  have e':k=false:=e
  subst e'
  exact truthy_none ⟨H,I,q⟩
 | bl b=>
  cases rx
  have e':k=b:=e
  subst e'
  exact wpAny_truthy_bool ⟨H,I,q⟩
 | int i=>
  obtain ⟨t,rfl⟩:=rx
  have e':k=(i != 0):=e
  subst e'
  exact PySem.P.truthy_int ⟨H,I,q⟩
 | str y=>
  obtain ⟨t,rfl⟩:=rx
  obtain ⟨hy,e'⟩:y.length≤sizeLine∧k=((y.length:Int) != 0):=e
  subst e'
  exact PySem.P.truthy_str (by (first|lia|omega)) ⟨H,I.tok _,q⟩
 | byt y=>
  obtain ⟨t,rfl⟩:=rx
  obtain ⟨hy,e'⟩:y.size≤sizeLine∧k=((y.size:Int) != 0):=e
  subst e'
  exact PySem.W.truthy_bytes (by (first|lia|omega)) ⟨H,I.tok _,q⟩
 | ref p=>
  cases rx
  have e':(∃xs,SqL X.K H p xs∧k= !xs.isEmpty)∨(∃xs,SqT X.K H p xs∧k= !xs.isEmpty)∨∃kvs,H p=some (.dK kvs)∧k= !kvs.isEmpty:=e
  rcases e' with ⟨xs,hx,e'⟩ | ⟨xs,hx,e'⟩ | ⟨kvs,hx,e'⟩
  ·subst e'
   obtain ⟨its,r,pl,hz⟩:=I.list hx
   have hlen:=r.length
   exact wpAny_truthy_list pl.isList (by simp only [List.size_toArray];(first|lia|omega)) ⟨H,I.tok _,by rw [isEmpty_of r];exact q⟩
  ·subst e'
   obtain ⟨its,r,pl,hz⟩:=I.tuple hx
   have hlen:=r.length
   exact truthy_tuple pl (by simp only [List.size_toArray];(first|lia|omega)) ⟨H,I.tok _,by rw [isEmpty_of r];exact q⟩
  ·subst e'
   obtain ⟨hz,hS,vs,r,m⟩:kvs.length≤sizeLine∧(p == sysModules)=false∧∃vs,KV kvs vs∧s.heap.DictOf (mixKind X.prog X.w) p vs:=I.hok p _ hx
   have hlen:kvs.length=vs.length:=Paired.length r
   exact wpAny_truthy_dict hS m (by (first|lia|omega)) ⟨H,I.tok _,by rw [isEmpty_kv r];exact q⟩
 | _=>exact (show False from e).elim
theorem pt_truth (ha:PE X a ta)(he:∀whole,isTrue a X.env whole=(do let v ←whole;standAt a.pos;holding [v] (truthy v))):
  PT X a (fun σ H Q=>ta σ H fun x H'=>∃k,TruV X.K x H' k∧Q k H'):=by
 intro pins s σ H Q I h
 exact isTrue_plain (thn (ha pins s σ H _ I h) fun v s1 ⟨x,H1,I1,r1,q1⟩=>tru_ok pins s1 σ H1 x v Q I1 r1 q1) (he _)
theorem vals1 {x:V}{us:List Value}(r:Vals [x] us):∃u,us=[u]∧RelV x u:=by
 cases r with
 | cons r1 r2=>cases r2;exact ⟨_,rfl,r1⟩
theorem vals2 {x y:V}{us:List Value}(r:Vals [x,y] us):∃u w',us=[u,w']∧RelV x u∧RelV y w':=by
 cases r with
 | cons r1 r2=>
  cases r2 with
  | cons r3 r4=>cases r4;exact ⟨_,_,rfl,r1,r3⟩
theorem call_max2 (hc:X.calm=true):CallR X (.builtin "max") (fun xs H Q=>∃i j,xs=[.int i,.int j]∧Q (.int (if j > i then j else i)) H):=by
 intro pins s σ H xs us Q I r h
 obtain ⟨i,j,rfl,q⟩:=h
 obtain ⟨u,w',rfl,⟨t,rfl⟩,⟨t',rfl⟩⟩:=vals2 r
 refine max_two_ints (I.ok.hd hc) fun h' tk k=>⟨_,H,I.kept k,?_,q⟩
 by_cases hj:j > i
 ·rw [if_pos hj,if_pos hj];exact ⟨_,rfl⟩
 ·rw [if_neg hj,if_neg hj];exact ⟨_,rfl⟩
theorem call_min2 (hc:X.calm=true):CallR X (.builtin "min") (fun xs H Q=>∃i j,xs=[.int i,.int j]∧Q (.int (if j < i then j else i)) H):=by
 intro pins s σ H xs us Q I r h
 obtain ⟨i,j,rfl,q⟩:=h
 obtain ⟨u,w',rfl,⟨t,rfl⟩,⟨t',rfl⟩⟩:=vals2 r
 refine min_two_ints (I.ok.hd hc) fun h' tk k=>⟨_,H,I.kept k,?_,q⟩
 by_cases hj:j < i
 ·rw [if_pos hj,if_pos hj];exact ⟨_,rfl⟩
 ·rw [if_neg hj,if_neg hj];exact ⟨_,rfl⟩
end
end L2
namespace L2
open PySem PySem.Spec PyProof.Rows
structure ObjM (h:Heap) (x dx C:Addr) (mA:Str→Option Value):Prop where
 obj:h.get? x=some (PySem.W.instObj C dx)
 ns:h.Ns1 dx mA
 ne:dx≠x
section
variable {prog:Program}{w:World}{A:Around}{E:Value→Shared→Prop}{s:Shared}{K:PySem.W.Frag}{x dx C f:Addr}{mA:Str→Option Value}{name:Str}{v:Value}
end
theorem RelO.some_of {v:V}{o:Option Value}(r:RelO (some v) o):∃u,o=some u∧RelV v u:=by
 cases o with
 | none=>exact (show False from r).elim
 | some u=>exact ⟨u,rfl,r⟩
section
variable {P:Program}{w:World}{H H':Hp}{h h':Heap}{a C dx:Addr}{fs fs':List (Str×V)}
end
structure Cls (K:PySem.W.Frag) (C:Addr):Prop where
 pg:PySem.W.plainGet K C Str.empty=true
 hd:PySem.W.hasDictIn K C=true
 po:PySem.W.plainOver K C=true
 sa:PySem.W.findIn K (.ref C) "__setattr__"=some (some (.builtin "object.__setattr__"))
theorem Cls.get {K:PySem.W.Frag}{C:Addr}(c:Cls K C)(f:Str):PySem.W.plainGet K C f=true:=c.pg
structure Con (K:PySem.W.Frag) (C:Addr) (f:Str) (v:V) (u:Value):Prop where
 at_:PySem.W.findIn K (.ref C) f=some (some u)
 rel:RelV v u
 get:PySem.W.specialIn K u "__get__"=some none
 cp:PySem.W.copiedNames.contains f=false
structure Meth (K:PySem.W.Frag) (C:Addr) (m:Str) (f:Addr):Prop where
 at_:PySem.W.findIn K (.ref C) m=some (some (.ref f))
 fn:PySem.W.isFn K (.ref f)=true
 kp:PySem.W.keepIn K (.ref f)=true
section
variable {X:Cx}{pins:List (Addr×Obj)}{σ:St}{H:Hp}{s:Shared}{a C dx:Addr}{fs:List (Str×V)}{f:Str}{v:V}{A:Around}{E:Value→Shared→Prop}
theorem Inv.made (I:Inv X pins σ H s):Inv X pins σ (upd (upd H s.heap.objs.size (.own (s.heap.objs.size + 1))) (s.heap.objs.size + 1) (.ins C s.heap.objs.size []))
  {s with heap:=(s.heap.push PySem.W.emptyDict).push (PySem.W.instObj C s.heap.objs.size)}:=by
 have e1:(s.heap.push PySem.W.emptyDict).get? s.heap.objs.size=some PySem.W.emptyDict:=Heap.get?_push_size s.heap rfl
 have e2:((s.heap.push PySem.W.emptyDict).push (PySem.W.instObj C s.heap.objs.size)).get? (s.heap.objs.size + 1)=some (PySem.W.instObj C s.heap.objs.size):=by
  have:=Heap.get?_push_size (s.heap.push PySem.W.emptyDict) (o:=PySem.W.instObj C s.heap.objs.size) rfl
  rwa [Heap.size_push] at this
 have e3:(s.heap.push PySem.W.emptyDict).Ns s.heap.objs.size (fun _=>none):=⟨PySem.W.emptyDict, #[],_,e1,rfl,(fun e he=>absurd he (by simp)),fun _=>rfl⟩
 have I1:=I.laid (a:=s.heap.objs.size) (o:=.own (s.heap.objs.size + 1)) (h':=s.heap.push PySem.W.emptyDict) (t':=s.toks) (fun b u q=>Heap.get?_push_of_some _ q) (Nat.le_refl _) ⟨_,e1⟩
 refine I1.laid (a:=s.heap.objs.size + 1) (o:=.ins C s.heap.objs.size []) (t':=s.toks) (fun b u q=>Heap.get?_push_of_some _ q) (Nat.le_of_eq (Heap.size_push _ _)) ?_
 have ne:s.heap.objs.size≠s.heap.objs.size + 1:=Nat.ne_of_lt (Nat.lt_succ_self _)
 refine ⟨by rw [upd_ne ne,upd_same],Nat.zero_le _,ne,e2,fun _=>none,(Heap.Ns1.of_empty e3).at fun o q=>Heap.get?_push_of_some _ q,fun _=>True.intro,fun y hy=>absurd rfl hy⟩
end
section
variable {X:Cx}{o e value:Expr}{f:Str}{pos pos' tpos:Pos}{ta tv:TE}
end
section
variable {X:Cx}{pins:List (Addr×Obj)}{σ:St}{H:Hp}{s:Shared}{A:Around}{E:Value→Shared→Prop}{Q:Value→Shared→Prop}{c:Value}{b:Bool}
inductive TyOf (K:PySem.W.Frag) (H:Hp):V→Value→Prop where
 | non:TyOf K H .non (.type "NoneType")
 | bl (x:Bool):TyOf K H (.bl x) (.type "bool")
 | int (i:Int):TyOf K H (.int i) (.type "int")
 | str (x:Str):TyOf K H (.str x) (.type "str")
 | flt (x:UInt64):TyOf K H (.flt x) (.type "float")
 | lst {a:Addr} {xs:List V} (e:H a=some (.lst xs)):TyOf K H (.ref a) (.type "list")
 | frz {a:Addr} {o:Obj} {xs:List V} (e:H a=some (.frz o (.lst xs))):TyOf K H (.ref a) (.type "list")
 | tup {a:Addr} {xs:List V} (e:H a=some (.tup xs)):TyOf K H (.ref a) (.type "tuple")
 | dK {a:Addr} {kvs:List (Key×V)} (e:H a=some (.dK kvs)):TyOf K H (.ref a) (.type "dict")
 | dT {a:Addr} {kvs:List (List Key×V)} (e:H a=some (.dT kvs)):TyOf K H (.ref a) (.type "dict")
 | ins {a C dx:Addr} {fs:List (Str×V)} (e:H a=some (.ins C dx fs)) (cl:Cls K C) (ha:PySem.W.findIn K (.ref C) "__class__"=some (some (.builtin "object.__class__")))
   (hn:PySem.W.specialIn K (.builtin "object.__class__") "__get__"=some (some (.builtin "getset_descriptor.__get__"))) (htk:PySem.W.takesIn K (.builtin "object.__class__")=some true)
   (hm:PySem.W.mroIn K C (.type "object")=some true):TyOf K H (.ref a) (.ref C)
end
end L2
namespace L2
open PySem PySem.Spec PyProof.Rows
structure Room (k:Nat) (A:Around):Prop where
 hd:A.handled=none
 dp:A.depth + 3 * k + 5 < recursionLimit
 un:A.units + 16 * k + 200 < cLine
theorem Room.mono {j k:Nat}{A:Around}(r:Room k A)(h:j≤k):Room j A:=⟨r.hd,by have:=r.dp;(first|lia|omega),by have:=r.un;(first|lia|omega)⟩
theorem Room.deeper {k:Nat}{A:Around}(r:Room (k + 1) A)(env:Env):Room k (A.deeper env):=
 ⟨r.hd,by have:=r.dp;show A.depth + 1 + 3 * k + 5 < _;(first|lia|omega),by have:=r.un;show A.units + 3 + 16 * k + 200 < _;(first|lia|omega)⟩
theorem Room.in1 {k:Nat}{A:Around}(r:Room (k + 1) A):Room k A.in1:=
 ⟨r.hd,by have:=r.dp;show A.depth + 3 * k + 5 < _;(first|lia|omega),by have:=r.un;show A.units + 1 + 16 * k + 200 < _;(first|lia|omega)⟩
theorem Room.depth {k:Nat}{A:Around}(r:Room k A):A.depth < recursionLimit:=by have:=r.dp;(first|lia|omega)
theorem Room.units {k:Nat}{A:Around}(r:Room k A):A.units + 64 < cLine:=by have:=r.un;(first|lia|omega)
noncomputable def tNil:TA:=fun _ H Q=>Q [] H
noncomputable def tCons (ta:TE) (tr:TA):TA:=fun σ H Q=>ta σ H fun x H1=>tr σ H1 fun xs H2=>Q (x :: xs) H2
section
variable {X:Cx}{e:Expr}{es:List Expr}{te:TE}{t:TA}{pos:Pos}
theorem pa_nil:PA X [] tNil:=fun _ _ _ _ H Q I h=>Calls.spliced_nil ⟨[],H,I,.nil,h⟩
theorem pa_cons (ha:PE X e te)(hr:PA X es t)(hs:autoParam (starEach (e :: es) X.env=(false,eval e X.env) :: starEach es X.env) Zau.a2._auto_1):PA X (e :: es) (tCons te t):=by
 intro pos pins s σ H Q I h
 rw [hs]
 show wpAny _ _ (spliced ((false,eval e X.env) :: backTo pos (starEach es X.env))) _ _ s
 refine Calls.spliced_cons (thn (ha pins s σ H _ I h) fun u s1 ⟨x,H1,I1,r1,q1⟩=>?_)
 exact thn (hr pos pins s1 σ H1 _ I1 q1) fun us s2 ⟨xs,H2,I2,r2,q2⟩=>⟨x :: xs,H2,I2,.cons r1 r2,q2⟩
noncomputable def tTup (t:TA):TE:=fun σ H Q=>t σ H fun xs H1=>xs.length≤sizeLine∧∀p,H1 p=none→Q (.ref p) (upd H1 p (.tup xs))
noncomputable def tLst (t:TA):TE:=fun σ H Q=>t σ H fun xs H1=>xs.length≤sizeLine∧∀p,H1 p=none→Q (.ref p) (upd H1 p (.lst xs))
theorem pe_tup {x1}(h:PA X es t):PE X (.Tuple es x1 pos) (tTup t):=by
 intro pins s σ H Q I hq
 refine wpAny_Tuple_spliced (thn (h pos pins s σ H _ I hq) fun us s1 ⟨xs,H1,I1,r,z,q⟩=>⟨by rw [←r.length];exact z,?_⟩)
 have hf:H1 s1.heap.objs.size=none:=I1.hok.fresh (Nat.le_refl _)
 refine ⟨.ref s1.heap.objs.size,upd H1 s1.heap.objs.size (.tup xs),I1.laid (t':=s1.toks) (fun b u e=>Heap.get?_push_of_some _ e) (Nat.le_refl _) ?_,rfl,q _ hf⟩
 exact ⟨z,us,r,⟨_,Heap.get?_push_size _ rfl,rfl,_,rfl⟩⟩
theorem pe_lst (h:PA X es t):PE X (.List es pos) (tLst t):=by
 intro pins s σ H Q I hq
 refine wpAny_List_spliced (thn (h pos pins s σ H _ I hq) fun us s1 ⟨xs,H1,I1,r,z,q⟩=>⟨by rw [←r.length];exact z,?_⟩)
 have hf:H1 s1.heap.objs.size=none:=I1.hok.fresh (Nat.le_refl _)
 refine ⟨.ref s1.heap.objs.size,upd H1 s1.heap.objs.size (.lst xs),I1.laid (t':=s1.toks) (fun b u e=>Heap.get?_push_of_some _ e) (Nat.le_refl _) ?_,rfl,q _ hf⟩
 exact ⟨z,us,0,r,Heap.get?_push_size _ rfl⟩
end
noncomputable abbrev Sp:=List V→Hp→VK→XK→Prop
noncomputable abbrev CXT:=List Env→Hp→Shared→XK→Value→Shared→Prop
structure Env0 (P:Program) (w:World) (K:PySem.W.Frag) (mg:Str→Option Value) (base:Heap) (A:Around) (outer:List Env) (s:Shared) (H:Hp):Prop where
 frames:A.frames=some outer
 mod:Mod K mg base
 bs:∀b o,base.get? b=some o→s.heap.get? b=some o∧H b=none
 bsz:base.objs.size≤s.heap.objs.size
 funs:s.heap.FunFrames base outer
 frf:∀b∈frs outer,H b=none
 hok:HOk P w H s.heap
 bare:AllBare s.gens
noncomputable def CE (outer:List Env) (P:Program) (w:World) (H:Hp) (s:Shared) (Q:VK) (u:Value) (s':Shared):Prop:=
 ∃v H',s'.os=s.os∧AllBare s'.gens∧Un (frs outer) [] H H' s.heap s'.heap∧HOk P w H' s'.heap∧RelV v u∧Q v H'
noncomputable def CR (CX:CXT) (outer:List Env) (P:Program) (w:World) (H:Hp) (s:Shared) (Q:VK) (E:XK) (r:Result) (s':Shared):Prop:=
 match r with
 | .ok (.ret u)=>CE outer P w H s Q u s'
 | .ok _=>False
 | .error e=>CX outer H s E e s'
structure FnOk (P:Program) (w:World) (K:PySem.W.Frag) (mg:Str→Option Value) (base:Heap) (CX:CXT) (k:Nat) (f:Addr) (fd:FuncData) (ps:List Str) (sp:Sp):Prop where
 len:∀vs H Q E,sp vs H Q E→vs.length=ps.length
 run:∀(A:Around) (outer:List Env) (s:Shared) (H:Hp) (args:Args) (us:List Value) (vs:List V) (Q:VK) (E:XK),Room k A→Env0 P w K mg base A outer s H→BindsTo s fd args (ps.zip us)→Vals vs us→sp vs H Q E→
  codeAny (model P w) A (.call (.ref f) args) (CR CX outer P w H s Q E) s
theorem FnOk.mono {P:Program}{w:World}{K:PySem.W.Frag}{mg:Str→Option Value}{base:Heap}{CX:CXT}{j k:Nat}{f:Addr}{fd:FuncData}{ps:List Str}{sp:Sp}(F:FnOk P w K mg base CX j f fd ps sp)(h:j≤k):
  FnOk P w K mg base CX k f fd ps sp:=⟨F.len,fun A outer s H args us vs Q E hr=>F.run A outer s H args us vs Q E (hr.mono h)⟩
theorem FnOk.imp {P:Program}{w:World}{K:PySem.W.Frag}{mg:Str→Option Value}{base:Heap}{CX:CXT}{k:Nat}{f:Addr}{fd:FuncData}{ps:List Str}{sp sp':Sp}(F:FnOk P w K mg base CX k f fd ps sp)
  (h:∀vs H Q E,sp' vs H Q E→sp vs H Q E):FnOk P w K mg base CX k f fd ps sp':=
 ⟨fun vs H Q E q=>F.len vs H Q E (h _ _ _ _ q),fun A outer s H args us vs Q E hr he hb hv hs=>F.run A outer s H args us vs Q E hr he hb hv (h _ _ _ _ hs)⟩
theorem Env0.in1 {P:Program}{w:World}{K:PySem.W.Frag}{mg:Str→Option Value}{base:Heap}{A:Around}{outer:List Env}{s:Shared}{H:Hp}(e:Env0 P w K mg base A outer s H):
  Env0 P w K mg base A.in1 outer s H:=⟨e.frames,e.mod,e.bs,e.bsz,e.funs,e.frf,e.hok,e.bare⟩
section
variable {X:Cx}{pins:List (Addr×Obj)}{σ:St}{H:Hp}{s s':Shared}
theorem Inv.env0 (I:Inv X pins σ H s):Env0 X.prog X.w X.K X.mg X.base X.A X.stack s H:=
 ⟨I.ok.frames,I.ok.mod,I.bs,Nat.le_trans I.ok.bsz I.sz,I.stack,I.stkFree,I.hok,I.bare⟩
theorem Inv.after {Q:VK}{u:Value}(I:Inv X pins σ H s)(h:CE X.stack X.prog X.w H s Q u s'):EP X pins σ Q u s':=by
 obtain ⟨v,H',os,bare,un,hok,r,q⟩:=h
 obtain ⟨hh,g,d,t,os'⟩:=s'
 obtain rfl:os'=s.os:=os
 exact ⟨v,H',I.call (h':=hh) (g':=g) (d':=d) (t':=t) (ch:=[]) un hok bare (fun b z=>absurd z (by simp)),r,q⟩
end
noncomputable def tCall (sp:Sp) (dvs:List V) (E:XK) (t:TA):TE:=fun σ H Q=>t σ H fun vs H1=>sp (vs ++ dvs) H1 Q E
noncomputable def Binds (K:PySem.W.Frag) (fd:FuncData) (ps:List Str) (ds:List Value):Prop:=
 ∀(s:Shared) (us:List Value),K.In s.heap→(us ++ ds).length=ps.length→BindsTo s fd ⟨us,[]⟩ (ps.zip (us ++ ds))
theorem Binds.all {K:PySem.W.Frag}{fd:FuncData}{ps:List Str}(h:∀us:List Value,us.length=ps.length→bindArgs fd ⟨us,[]⟩=pure (ps.zip us)):Binds K fd ps []:=fun s us _ hl=>by
 rw [List.append_nil] at hl ⊢
 exact .of_eq (h us hl)
noncomputable def Passes (CX:CXT) (X:Cx) (E:XK):Prop:=∀(pins:List (Addr×Obj)) (σ:St) (H:Hp) (s:Shared) (e:Value) (s':Shared),Inv X pins σ H s→CX X.stack H s E e s'→X.xe e s'
section
variable {X:Cx}{CX:CXT}{k:Nat}{f C:Addr}{fd:FuncData}{ps:List Str}{sp:Sp}{dvs:List V}{ds:List Value}{E:XK}{x m:Str}{p pos apos:Pos}{e o:Expr}{es:List Expr}{ta:TE}{t:TA}
theorem run_fn {pins:List (Addr×Obj)}{σ:St}{H:Hp}{s:Shared}{Q:VK}{us:List Value}{vs:List V}(F:FnOk X.prog X.w X.K X.mg X.base CX k f fd ps sp)(hr:Room k X.A)(hb:Binds X.K fd ps ds)(hd:Vals dvs ds)(hx:Passes CX X E)
  (I:Inv X pins σ H s) (r:Vals vs us) (h:sp (vs ++ dvs) H Q E):wpAny (model X.prog X.w) X.A (call (.ref f) us) (EP X pins σ Q) X.xe s:=by
 have r2:Vals (vs ++ dvs) (us ++ ds):=r.append hd
 have hl:(us ++ ds).length=ps.length:=by rw [←r2.length];exact F.len _ _ _ _ h
 refine wpAny_call (codeAny_mono (F.run X.A X.stack s H ⟨us,[]⟩ (us ++ ds) (vs ++ dvs) Q E hr I.env0 (hb s us I.kIn hl) r2 h) fun r s' hq=>?_)
 cases r with
 | error e=>exact hx pins σ H s e s' I hq
 | ok fl=>
  cases fl with
  | ret u=>exact I.after hq
  | next=>exact False.elim hq
  | brk=>exact False.elim hq
  | cont=>exact False.elim hq
theorem pe_call (F:FnOk X.prog X.w X.K X.mg X.base CX k f fd ps sp)(hr:Room k X.A)(hg:Gl X x)(hm:X.mg x=some (.ref f))(hk:PySem.W.keepIn X.K (.ref f)=true)(hb:Binds X.K fd ps ds)(hd:Vals dvs ds)(hx:Passes CX X E)
  (ha:PA X (e :: es) t) (hdb:autoParam ((x == ("__debug__":Str))=false) Zau.a1._auto_1) (he:autoParam (starEach (e :: es) X.env=(false,eval e X.env) :: starEach es X.env) Zau.a2._auto_1) (hpl:autoParam ((backTo pos (starEach es X.env)).any (·.1)=false) Zau.a2._auto_1):
  PE X (.Call (.Name x p) (e :: es) [] pos) (tCall sp dvs E t):=by
 intro pins s σ H Q I h
 refine wpAny_Call_Name_kw (ld_glob I hg hm ?_ hdb)
 refine PySem.W.callWith_K (h₀:=X.base) I.ok.mod.kin hk (thn (ha pos pins s σ H _ I h) fun us s1 ⟨vs,H1,I1,r,q⟩=>⟨I1.kIn,?_⟩) he hpl
 exact run_fn F hr hb hd hx I1 r q
structure Mk (K:PySem.W.Frag) (C f:Addr):Prop where
 makes:PySem.W.makesIn K C=true
 init:PySem.W.findIn K (.ref C) "__init__"=some (some (.ref f))
 fn:PySem.W.isFn K (.ref f)=true
 kp:PySem.W.keepIn K (.ref C)=true
end
noncomputable def PK (X:Cx) (kws:List Keyword) (t:TA):Prop:=
 ∀(pos:Pos) (pins:List (Addr×Obj)) (s:Shared) (σ:St) (H:Hp) (Q:List V→Hp→Prop),Inv X pins σ H s→t σ H Q→wpAny (model X.prog X.w) X.A (evalAll ((backToKw pos (keywordEach kws X.env)).map (·.2))) (AP X pins σ Q) X.xe s
section
variable {X:Cx}{CX:CXT}{k:Nat}{f C:Addr}{fd:FuncData}{ps ks:List Str}{sp:Sp}{E:XK}{x m:Str}{p pos apos kpos:Pos}{e o:Expr}{es:List Expr}{kws:List Keyword}{te ta:TE}{t tk:TA}{nm:Option Str}
structure KBinds (K:PySem.W.Frag) (fd:FuncData) (ps ks:List Str) (g:List Value→List Value→List Value) (gV:List V→List V→List V):Prop where
 to:∀(s:Shared) (us ws:List Value),K.In s.heap→(g us ws).length=ps.length→BindsTo s fd ⟨us,ks.zip ws⟩ (ps.zip (g us ws))
 rel:∀{vs:List V} {us:List Value} {zs:List V} {ws:List Value},Vals vs us→Vals zs ws→Vals (gV vs zs) (g us ws)
variable {g:List Value→List Value→List Value}{gV:List V→List V→List V}
end
structure FnScope (N P:List Str) (sc:Scope):Prop where
 kind:sc.kind= .function
 co:sc.isCoroutine=false
 gen:sc.isGenerator=false
 nd:N.Nodup
 pre:N.take P.length=P
 par:∀x∈P,sc.names.lookup x=some .local∨sc.names.lookup x=some .cell
 nofree:∀y∈sc.names,y.2≠.free
theorem bindL_out {kindOf:Str→Option NameKind}{x:Str}:∀{binds:List (Str×Value)} {m:Str→Option Value},(∀v,(x,v)∉binds)→bindL kindOf binds m x=m x
 | [],_,_=>rfl
 | (n,v) :: r,m,h=>by
  unfold bindL
  rw [bindL_out fun w hw=>h w (List.mem_cons_of_mem _ hw)]
  split
  ·have:x≠n:=by rintro rfl;exact h v List.mem_cons_self
   simp [this]
  ·rfl
theorem bindC_out {kindOf:Str→Option NameKind}{x:Str}:∀{binds:List (Str×Value)} {m:Str→Option Value},(∀v,(x,v)∉binds)→bindC kindOf binds m x=m x
 | [],_,_=>rfl
 | (n,v) :: r,m,h=>by
  unfold bindC
  rw [bindC_out fun w hw=>h w (List.mem_cons_of_mem _ hw)]
  split
  ·rfl
  ·have:x≠n:=by rintro rfl;exact h v List.mem_cons_self
   simp [this]
theorem bindL_get {kindOf:Str→Option NameKind}{x:Str}{v:Value}:∀{P:List Str} {vs:List Value} {i:Nat} {m:Str→Option Value},P.Nodup→P[i]? =some x→vs[i]? =some v→kindOf x=some .local→
  bindL kindOf (P.zip vs) m x=some v
 | [],_,_,_,_,h,_,_=>by simp at h
 | _ :: _,[],_,_,_,_,h,_=>by simp at h
 | p :: P,w :: vs,0,m,nd,h1,h2,hk=>by
  simp at h1 h2;subst h1;subst h2
  show bindL kindOf ((p,w) :: P.zip vs) m p=_
  unfold bindL
  rw [bindL_out fun v hv=>(List.nodup_cons.mp nd).1 (List.of_mem_zip hv).1,if_pos hk]
  simp
 | p :: P,w :: vs,i + 1,m,nd,h1,h2,hk=>by
  show bindL kindOf ((p,w) :: P.zip vs) m x=_
  unfold bindL
  exact bindL_get (i:=i) (List.nodup_cons.mp nd).2 (by simpa using h1) (by simpa using h2) hk
theorem bindC_get {kindOf:Str→Option NameKind}{x:Str}{v:Value}:∀{P:List Str} {vs:List Value} {i:Nat} {m:Str→Option Value},P.Nodup→P[i]? =some x→vs[i]? =some v→kindOf x≠some .local→
  bindC kindOf (P.zip vs) m x=some v
 | [],_,_,_,_,h,_,_=>by simp at h
 | _ :: _,[],_,_,_,_,h,_=>by simp at h
 | p :: P,w :: vs,0,m,nd,h1,h2,hk=>by
  simp at h1 h2;subst h1;subst h2
  show bindC kindOf ((p,w) :: P.zip vs) m p=_
  unfold bindC
  rw [bindC_out fun v hv=>(List.nodup_cons.mp nd).1 (List.of_mem_zip hv).1,if_neg hk]
  simp
 | p :: P,w :: vs,i + 1,m,nd,h1,h2,hk=>by
  show bindC kindOf ((p,w) :: P.zip vs) m x=_
  unfold bindC
  exact bindC_get (i:=i) (List.nodup_cons.mp nd).2 (by simpa using h1) (by simpa using h2) hk
noncomputable def start (N:List Str) (vs:List V):St:=vs.map some ++ List.replicate (N.length - vs.length) none
noncomputable def cxOf (CX:CXT) (P:Program) (w:World) (K:PySem.W.Frag) (mg:Str→Option Value) (base:Heap) (N:List Str) (qual:Str) (scope:Scope) (f:Addr) (cd:Value) (A:Around) (outer:List Env) (s:Shared) (H:Hp) (E:XK):Cx where
 prog:=P
 w:=w
 K:=K
 mg:=mg
 base:=base
 A:=A.deeper (envOfC qual scope s.heap.objs.size f cd)
 N:=N
 s₀:=s
 H₀:=H
 env:=envOfC qual scope s.heap.objs.size f cd
 outer:=outer
 stack:=envOfC qual scope s.heap.objs.size f cd :: outer
 ex:=[]
 calm:=true
 fn:=fun _=>true
 pn:=[]
 xe:=fun e s'=>wpAny (model P w) (A.deeper (envOfC qual scope s.heap.objs.size f cd)) (leaving (envOfC qual scope s.heap.objs.size f cd) e) (fun _ s''=>CX outer H s E e s'') (fun e' s''=>CX outer H s E e' s'') s'
theorem cell_has {sc:Scope}{n:Nat}{x:Str}(h:sc.names.lookup x=some .cell):∃c,(cellsFrom n sc.names []).lookup x=some c:=by
 have q:=PySem.W.cellsFrom_some sc.names n [] (.inl h)
 exact Option.isSome_iff_exists.mp q
theorem inv_start {CX:CXT}{P:Program}{w:World}{K:PySem.W.Frag}{mg:Str→Option Value}{base:Heap}{N ps:List Str}{qual:Str}{scope:Scope}{f:Addr}{cd:Value}{A:Around}{outer:List Env}{s s1:Shared}{H:Hp}{E:XK}{us:List Value}{vs:List V}
  (S:FnScope N ps scope) (hd:A.handled=none) (e0:Env0 P w K mg base A outer s H) (hl:vs.length=ps.length) (r:Vals vs us)
  (x:InCallC s s.heap.objs.size (bindL (envOfC qual scope s.heap.objs.size f cd).kindOf (ps.zip us) fun _=>none) (cellsFrom (s.heap.objs.size + 1) scope.names []) (bindC (envOfC qual scope s.heap.objs.size f cd).kindOf (ps.zip us) fun _=>none) s1):
  Inv (cxOf CX P w K mg base N qual scope f cd A outer s H E) [] (start N vs) H s1:=by
 have hpl:ps.length≤N.length:=by have:=congrArg List.length S.pre;rw [List.length_take] at this;(first|lia|omega)
 obtain ⟨h1,tk,rfl,hk⟩:=x.done
 have noA:∀b:Addr,b∉(cxOf CX P w K mg base N qual scope f cd A outer s H E).ex:=fun b z=>absurd (show b∈([]:List Addr) from z) (by simp)
 refine ⟨⟨e0.mod,S.kind,rfl,rfl,Nat.le_refl _,fun y z c h1 h2=>?_,fun y hy=>?_,fun y c _ h=>?_,fun _=>hd,Around.frames_deeper e0.frames,.inr ⟨rfl,rfl⟩,fun b z=>absurd z (noA b),e0.bs,e0.bsz,fun b _ _=>noA b,fun b z=>absurd z (noA b),e0.funs,e0.frf⟩,
  rfl,e0.bare,Un.kept hk,⟨_,x.toInCall.ns,fun i y v h1 h2 h3=>?_⟩,fun y c h=>⟨_,x.cell y c h⟩,e0.hok.fresh (Nat.le_refl _),fun y c h=>?_,fun p hp=>absurd (show p∈([]:List (Addr×Obj)) from hp) (by simp),e0.hok.kept hk,?_⟩
 ·exact name_of_addr x.apart (PySem.mem_of_lookup h1) (PySem.mem_of_lookup h2)
 ·have hy:scope.names.lookup y=some .cell∨scope.names.lookup y=some .free:=hy
  rcases hy with hy | hy
  ·exact cell_has hy
  ·exact absurd rfl (S.nofree _ (PySem.mem_of_lookup hy))
 ·exact Nat.le_of_lt (x.above y c (PySem.mem_of_lookup h))
 ·have hi:i < vs.length:=by
   unfold start at h2
   by_cases hi:i < vs.length
   ·exact hi
   ·rw [List.getElem?_append_right (by simpa using hi)] at h2
    rw [List.getElem?_replicate] at h2
    split at h2 <;> cases h2
  have ha:vs[i]? =some v:=by
   unfold start at h2
   rw [List.getElem?_append_left (by simpa using hi),List.getElem?_map] at h2
   cases e:vs[i]? with
   | none=>rw [e] at h2;cases h2
   | some a=>rw [e] at h2;cases h2;rfl
  obtain ⟨u,hu,rv⟩:=r.get ha
  have hp:ps[i]? =some y:=by
   rw [←S.pre,List.getElem?_take_of_lt (by (first|lia|omega))];exact h1
  have ndP:ps.Nodup:=by rw [←S.pre];exact S.nd.sublist (List.take_sublist _ _)
  refine ⟨u,rv,?_⟩
  rcases S.par y (List.mem_of_getElem? hp) with k | k
  ·exact .inl ⟨k,bindL_get ndP hp hu k⟩
  ·obtain ⟨c,e⟩:=cell_has (n:=s.heap.objs.size + 1) k
   refine .inr ⟨.inl k,c,e,?_⟩
   have q:=x.cell y c e
   rw [bindC_get ndP hp hu (by show scope.names.lookup y≠_;rw [k];decide)] at q
   exact q
 ·exact e0.hok.fresh (Nat.le_of_lt (x.above y c (PySem.mem_of_lookup h)))
 ·unfold start
  show _=N.length
  rw [List.length_append,List.length_map,List.length_replicate]
  (first|lia|omega)
theorem fn_of {CX:CXT}{P:Program}{w:World}{K:PySem.W.Frag}{mg:Str→Option Value}{base:Heap}{k:Nat}{f:Addr}{name qual:Str}{params:Arguments}{body:List Stmt}{scope:Scope}{dV kV doc pm cdv ct oc:Value}{an od:Option Addr}
  {osl:Array (Option Value)} {N ps:List Str} {sp:Sp} (lk:K.lookup f=some ⟨oc,od,.func (PySem.W.fnOf name qual params body scope dV kV doc pm an cdv ct),osl⟩) (hcd:PySem.W.codeIn K cdv qual=true) (S:FnScope N ps scope)
  (len:∀vs H Q E,sp vs H Q E→vs.length=ps.length)
  (hbody:∀(A:Around) (outer:List Env) (s:Shared) (H:Hp) (vs:List V) (Q:VK) (E:XK),Room k (A.deeper (envOfC qual scope s.heap.objs.size f cdv))→sp vs H Q E→
   ∃t,PSs (cxOf CX P w K mg base N qual scope f cdv A outer s H E) body t∧t {nx:=fun _ H'=>Q .non H',rt:=Q} (start N vs) H):
  FnOk P w K mg base CX (k + 1) f (PySem.W.fnOf name qual params body scope dV kV doc pm an cdv ct) ps sp:=by
 refine ⟨len,fun A outer s H args us vs Q E hr e0 hb r hsp=>?_⟩
 have hl:=len _ _ _ _ hsp
 have KX:K.In s.heap:=e0.mod.kin.keeps fun b o e=>(e0.bs b o e).1
 have lim:s.heap.NoLimit:=e0.mod.nolimit.keeps fun b o e=>(e0.bs b o e).1
 have hkind:∀y∈ps.zip us,scope.names.lookup y.1=some .local∨(scope.names.lookup y.1=some .cell∧((cellsFrom (s.heap.objs.size + 1) scope.names []).lookup y.1).isSome=true):=fun ⟨n,v⟩ hy=>by
  rcases S.par n (List.of_mem_zip hy).1 with q | q
  ·exact .inl q
  ·exact .inr ⟨q,PySem.W.cellsFrom_some _ _ _ (.inl q)⟩
 refine codeAny_call_function hr.depth (KX _ _ lk) rfl S.co S.gen rfl (PySem.W.codeRec_of KX hcd) (hb _ _ _ _ ?_)
 refine wpAny_newFunctionEnv_cells S.kind hkind fun env he s1 x=>?_
 subst he
 refine ⟨lim.keeps x.toInCall.keep,codeAny_func ?_⟩
 obtain ⟨t,ht,hq⟩:=hbody A outer s H vs Q E (hr.deeper _) hsp
 have I:Inv (cxOf CX P w K mg base N qual scope f cdv A outer s H E) [] (start N vs) H s1:=inv_start S hr.hd e0 hl r x
 refine wpAny_mono (ht [] s1 (start N vs) H _ I hq) (fun fl s' hs=>?_) fun e s' hs=>hs
 have fin:∀{σ':St} {H':Hp} {v:V} {u:Value},Inv (cxOf CX P w K mg base N qual scope f cdv A outer s H E) [] σ' H' s'→RelV v u→Q v H'→CE outer P w H s Q u s':=
  fun {σ' H' v u} J rv q=>⟨v,H',J.os,J.bare,J.base,J.hok,rv,q⟩
 cases fl with
 | ret u=>
  obtain ⟨v,σ',H',J,rv,q⟩:=hs
  exact fin J rv q
 | next=>
  obtain ⟨σ',H',J,q⟩:=hs
  exact fin (v:=V.non) (u:=Value.none) J rfl q
 | brk=>
  obtain ⟨_,_,_,q⟩:=hs
  exact False.elim q
 | cont=>
  obtain ⟨_,_,_,q⟩:=hs
  exact False.elim q
end L2
namespace L2
open PySem PySem.Spec PyProof.Rows
section
variable {X:Cx}{x:Str}{p pos:Pos}{e:Expr}{es:List Expr}{t:TA}{id T:String}{r:List V→Hp→VK→Prop}
noncomputable def tCB (r:List V→Hp→VK→Prop) (t:TA):TE:=fun σ H Q=>t σ H fun vs H1=>r vs H1 Q
theorem pe_callB (hc:CallR X (.builtin id) r)(hg:Gl X x)(hm:X.mg x=none)(hv:bootBuiltins x=some (.builtin id))(ha:PA X (e :: es) t)(hn:autoParam (x≠"__name__") Zau.a1._auto_1)(hdb:autoParam ((x == ("__debug__":Str))=false) Zau.a1._auto_1)
  (he:autoParam (starEach (e :: es) X.env=(false,eval e X.env) :: starEach es X.env) Zau.a2._auto_1) (hpl:autoParam ((backTo pos (starEach es X.env)).any (·.1)=false) Zau.a2._auto_1):PE X (.Call (.Name x p) (e :: es) [] pos) (tCB r t):=by
 intro pins s σ H Q I h
 refine wpAny_Call_Name_kw (ld_blt I hg hm hv ?_ hn hdb)
 exact PyProof.Rows.callWith_builtin1 (thn (ha pos pins s σ H _ I h) fun us s1 ⟨vs,H1,I1,r1,q1⟩=>hc pins s1 σ H1 vs us Q I1 r1 q1) he hpl
theorem pe_callTy (hc:CallR X (.type T) r)(hg:Gl X x)(hm:X.mg x=none)(hv:bootBuiltins x=some (.type T))(ha:PA X (e :: es) t)(hn:autoParam (x≠"__name__") Zau.a1._auto_1)(hdb:autoParam ((x == ("__debug__":Str))=false) Zau.a1._auto_1)
  (he:autoParam (starEach (e :: es) X.env=(false,eval e X.env) :: starEach es X.env) Zau.a2._auto_1) (hpl:autoParam ((backTo pos (starEach es X.env)).any (·.1)=false) Zau.a2._auto_1):PE X (.Call (.Name x p) (e :: es) [] pos) (tCB r t):=by
 intro pins s σ H Q I h
 refine wpAny_Call_Name_kw (ld_blt I hg hm hv ?_ hn hdb)
 exact PyProof.Rows.callWith_type1 (thn (ha pos pins s σ H _ I h) fun us s1 ⟨vs,H1,I1,r1,q1⟩=>hc pins s1 σ H1 vs us Q I1 r1 q1) he hpl
end
end L2
namespace HT
open PySem PyProof.Rows
noncomputable def lexLt:List Int→List Int→Bool
 | [],[]=>false
 | [],_ :: _=>true
 | _ :: _,[]=>false
 | x :: xs,y :: ys=>if x=y then lexLt xs ys else decide (x < y)
theorem lexLt_cons (x y:Int)(xs ys:List Int):lexLt (x :: xs) (y :: ys)=if x=y then lexLt xs ys else decide (x < y):=rfl
theorem lexLt_nil_nil:lexLt [] []=false:=rfl
theorem lexLt_nil_cons (y:Int)(ys:List Int):lexLt [] (y :: ys)=true:=rfl
theorem lexLt_cons_nil (x:Int)(xs:List Int):lexLt (x :: xs) []=false:=rfl
theorem eqAt_int (A:Around)(s:Shared)(a:Int)(t:Tok)(c:Int)(u:Tok):∃e,SeqAt.EqAt A s (.int a t) (.int c u) e∧(e=true↔a=c):=
 ⟨(a == c),SeqAt.EqAt.int_int a t c u,by simp⟩
theorem rcLt_int (A:Around)(s:Shared)(a:Int)(t:Tok)(c:Int)(u:Tok)(prog:Program)(w:World)(E:Value→Shared→Prop)(Q:Value→Shared→Prop)(h:Q (.bool (decide (a < c))) s):
  wpAny (model prog w) A (richCompare .Lt (.int a t) (.int c u)) Q E s:=
 (PyProof.Rows.lt_int h:wpAny (model prog w) A (compareOp .Lt (.int a t) (.int c u)) Q E s)
section
open PySem.SeqAt
open PySem.AutoSeq1 (wpAny_loadPart')
open PySem.MeetsSeq PySem.MeetsSeq2 PySem.MeetsSeq3
theorem tuple_lt_ints (l b:Addr)(items items2:Array Value)(n n2:Nat)(dd dd2:Option Addr)(sl sl2:Array (Option Value))(ns ms:List Int)(hi:IntsAre items.toList ns)(hj:IntsAre items2.toList ms):
  Meets (Builtin.«tuple.__lt__» ⟨[.ref l,.ref b],[]⟩)
   (fun _ R s=>s.heap.get? l=some {cls:=.type "tuple",dict:=dd,data:=.seq items n,slots:=sl}∧s.heap.get? b=some {cls:=.type "tuple",dict:=dd2,data:=.seq items2 n2,slots:=sl2}∧
    R (.ok (.ret (.bool (lexLt ns ms)))) s):=
 .of_wp fun prog w A R s h=>by
  obtain ⟨hp,g,d,tk,os⟩:=s;obtain ⟨hl,hb,h⟩:=h
  have f2:=AutoSeq1.sub_tuple_tuple
  have z1:items.size=ns.length:=by rw [←hi.length];simp
  have z2:items2.size=ms.length:=by rw [←hj.length];simp
  wp_walk using wpAny_loadPart' hl,wpAny_loadPart' hb,wpAny_forIn_list _ (fun rest b s'=>b.1=none∧s'=⟨hp,g,d,tk,os⟩∧∃(vs ws:List Value) (ns' ms':List Int),rest=vs.zip ws∧
   IntsAre vs ns'∧IntsAre ws ms'∧ns'.length + items2.size=ms'.length + items.size∧R (.ok (.ret (.bool (lexLt ns' ms')))) ⟨hp,g,d,tk,os⟩) _
  case turn=>
   rintro ⟨y,x⟩ rest b s' ⟨hb',rfl,vs,ws,ns',ms',hz,hvi,hwi,hlen,hR⟩
   cases hvi with
   | nil=>rw [List.zip_nil_left] at hz;cases hz
   | cons a t hvi'=>
    cases hwi with
    | nil=>rw [List.zip_nil_right] at hz;cases hz
    | cons c u hwi'=>
     rw [List.zip_cons_cons] at hz
     injection hz with hyx hrest
     injection hyx with hy hx
     subst hy hx
     rw [lexLt_cons] at hR
     simp only [List.length_cons] at hlen
     obtain ⟨e,he,hiff⟩:=eqAt_int A.in1 ⟨hp,g,d,tk,os⟩ a t c u
     refine wpAny_bind (he prog w _ _ ?_)
     cases e with
     | true=>
      rw [if_pos (hiff.mp rfl)] at hR
      wp_walk
      exact ⟨rfl,rfl,_,_,_,_,hrest,hvi',hwi',by (first|lia|omega),hR⟩
     | false=>
      rw [if_neg (fun q=>absurd (hiff.mpr q) Bool.false_ne_true)] at hR
      have hri:=rcLt_int A.in1 ⟨hp,g,d,tk,os⟩ a t c u prog w
      wp_walk using hri
      exact ⟨_,rfl,by simpa using hR⟩
  case fin=>
   rintro ⟨b1,b2⟩ s' ⟨hb',rfl,vs,ws,ns',ms',hz,hvi,hwi,hlen,hR⟩
   simp only at hb'
   subst hb'
   have hv:lexLt ns' ms'=decide (items.size < items2.size):=by
    cases hvi with
    | nil=>
     cases hwi with
     | nil=>
      simp only [List.length_nil] at hlen
      rw [lexLt_nil_nil]
      exact (decide_eq_false (by (first|lia|omega))).symm
     | cons c u hw=>
      simp only [List.length_nil,List.length_cons] at hlen
      rw [lexLt_nil_cons]
      exact (decide_eq_true (by (first|lia|omega))).symm
    | cons a t hv=>
     cases hwi with
     | nil=>
      simp only [List.length_nil,List.length_cons] at hlen
      rw [lexLt_cons_nil]
      exact (decide_eq_false (by (first|lia|omega))).symm
     | cons c u hw=>
      rw [List.zip_cons_cons] at hz
      cases hz
   rw [hv] at hR
   wp_walk
   exact ⟨_,rfl,by simpa [Builtin.Tuple.tupleCompareSizes] using hR⟩
  case h=>
   exact ⟨rfl,rfl,items.toList,items2.toList,ns,ms,rfl,hi,hj,by (first|lia|omega),h⟩
end
section
variable {prog:Program}{w:World}{A:Around}{E:Value→Shared→Prop}{s:Shared}
theorem lt_tupInts {l b:Addr}{items items2:Array Value}{ns ms:List Int}{Q:Value→Shared→Prop}(hl:IsTup s.heap l items)(hb:IsTup s.heap b items2)(hi:IntsAre items.toList ns)(hj:IntsAre items2.toList ms)
  (hu:A.units < cLine) (h:Q (.bool (lexLt ns ms)) s):wpAny (model prog w) A (compareOp .Lt (.ref l) (.ref b)) Q E s:=by
 obtain ⟨⟨cls,dd,data,sl⟩,ho,hc,n,hd⟩:=id hl
 obtain ⟨⟨cls2,dd2,data2,sl2⟩,ho2,hc2,n2,hd2⟩:=id hb
 simp only at hc hd hc2 hd2
 subst hc hd hc2 hd2
 exact richCompare_meets_room (op:=.Lt) ⟨_,ho,rfl⟩ ⟨_,ho2,rfl⟩ PySem.F.slot_tuple_lt PySem.F.entry_tuple_lt (PySem.F.args_tuple_lt_2 _ _) (tuple_lt_ints l b items items2 n n2 dd dd2 sl sl2 ns ms hi hj)
  ⟨ho,ho2,show Value.bool (lexLt ns ms)≠Value.notImplemented∧Q (.bool (lexLt ns ms)) s from ⟨(fun x=>nomatch x),h⟩⟩ hu
theorem cat_tup {t b:Addr}{vs ws:List Value}{Q:Value→Shared→Prop}(ht:IsTup s.heap t vs.toArray)(hb:IsTup s.heap b ws.toArray)(hv:vs≠[])
  (h1:ws=[]→Q (.ref t) s) (h2:ws≠[]→Q (.ref s.heap.objs.size) {s with heap:=s.heap.push {cls:=.type "tuple",data:=.seq (vs ++ ws).toArray}})
  (hsz:vs.length + ws.length≤sizeLine):wpAny (model prog w) A (binaryOp .Add (.ref t) (.ref b)) Q E s:=by
 obtain ⟨⟨cls,dd,data,sl⟩,ho,hc,n,hd⟩:=id ht
 obtain ⟨⟨cls2,dd2,data2,sl2⟩,ho2,hc2,n2,hd2⟩:=id hb
 simp only at hc hd hc2 hd2
 subst hc hd hc2 hd2
 have e:vs.toArray ++ ws.toArray=(vs ++ ws).toArray:=by simp
 by_cases hw:ws=[]
 ·exact concat_meets ⟨_,ho,rfl⟩ ⟨_,ho2,rfl⟩ noFill_tuple_add seq_tuple_add PySem.F.slot_tuple_add PySem.F.entry_tuple_add (PySem.F.args_tuple_add_2 _ _)
   (tuple_addW1 t b vs.toArray ws.toArray n n2 dd dd2 sl sl2 (by simpa using hv) (by simp [hw])) ⟨ho,ho2,h1 hw⟩
 ·refine concat_meets ⟨_,ho,rfl⟩ ⟨_,ho2,rfl⟩ noFill_tuple_add seq_tuple_add PySem.F.slot_tuple_add PySem.F.entry_tuple_add (PySem.F.args_tuple_add_2 _ _)
   (tuple_addW2 t b vs.toArray ws.toArray n n2 dd dd2 sl sl2 (by simpa using hv) (by simpa using hw) (by rw [List.size_toArray,List.size_toArray];exact hsz)) ⟨ho,ho2,?_⟩
  rw [e]
  exact h2 hw
noncomputable def sIx (n d:Nat):Option Int→Nat
 | none=>d
 | some v=>if v < 0 then (v + (n:Int)).toNat else min v.toNat n
theorem sIx_none (n d:Nat):sIx n d none=d:=rfl
theorem sIx_nat (n d k:Nat):sIx n d (some (k:Int))=min k n:=by
 show (if (k:Int) < 0 then ((k:Int) + (n:Int)).toNat else min (k:Int).toNat n)=min k n
 rw [if_neg (by (first|lia|omega)),Int.toNat_natCast]
theorem sIx_le (n d:Nat)(hd:d≤n)(o:Option Int):sIx n d o≤n:=by
 cases o with
 | none=>exact hd
 | some v=>
  show (if v < 0 then (v + (n:Int)).toNat else min v.toNat n)≤n
  by_cases hv:v < 0
  ·rw [if_pos hv];(first|lia|omega)
  ·rw [if_neg hv];exact Nat.min_le_right _ _
theorem clip_eq (v:Int)(n d:Nat):(if v < 0 then max (v + (n:Int)) 0 else min v (n:Int))=((sIx n d (some v):Nat):Int):=by
 show (if v < 0 then max (v + (n:Int)) 0 else min v (n:Int))=(((if v < 0 then (v + (n:Int)).toNat else min v.toNat n):Nat):Int)
 by_cases hv:v < 0
 ·simp only [if_pos hv];(first|lia|omega)
 ·simp only [if_neg hv];(first|lia|omega)
theorem adjust_gen (lo hi:Option Int)(n:Nat):Builtin.Slice.sliceAdjust lo hi 1 (n:Int)=(((sIx n 0 lo:Nat):Int),((sIx n n hi:Nat):Int)):=by
 have h1:¬((1:Int) < 0):=by (first|lia|omega)
 unfold Builtin.Slice.sliceAdjust
 simp only [h1,if_false]
 refine Prod.ext ?_ ?_
 ·cases lo with
  | none=>rfl
  | some v=>exact clip_eq v n 0
 ·cases hi with
  | none=>rfl
  | some v=>exact clip_eq v n n
theorem places_gen (i j:Nat):Builtin.Slice.slicePlaces (i:Int) (j:Int) 1=j - i:=by
 unfold Builtin.Slice.slicePlaces
 have h1:(1:Int) > 0:=by (first|lia|omega)
 simp only [h1,if_true,Int.ediv_one]
 split <;> (first|lia|omega)
theorem slicePart_ {v:Value}{o:Option Int}{Q:Option Int→Shared→Prop}(p:IsPart v o)(h:Q o s):wpAny (model prog w) A (Builtin.Slice.slicePartIndex v) Q E s:=by
 cases p with
 | none=>exact slicePart_none h
 | int i t=>exact slicePart_int h
theorem sliceApplied_gen {sl:Addr}{vl vu:Value}{lo hi:Option Int}{n:Nat}{Q:Int×Int×Nat→Shared→Prop}(hs:s.heap.IsSliceOf sl vl vu .none)(pl:IsPart vl lo)(pu:IsPart vu hi)
  (h:Q (((sIx n 0 lo:Nat):Int),1,sIx n n hi - sIx n 0 lo) s):wpAny (model prog w) A (Builtin.Slice.sliceApplied (.ref sl) (pure (n:Int))) Q E s:=by
 obtain ⟨os,hos,hcs,hds⟩:=id hs
 unfold Builtin.Slice.sliceApplied Builtin.Slice.sliceFields
 refine wpAny_bind (wpAny_bind (wpAny_field hos hds (x:=vl) rfl (wpAny_bind (wpAny_field hos hds (x:=vu) rfl (wpAny_bind (wpAny_field hos hds (x:=.none) rfl (wpAny_pure ?_)))))))
 refine wpAny_bind (slicePart_none ?_)
 show wpAny _ _ (if ((1:Int) == 0)=true then _ else _) _ _ s
 rw [if_neg (by decide)]
 refine wpAny_bind (slicePart_ pl (wpAny_bind (slicePart_ pu (wpAny_bind (wpAny_pure ?_)))))
 show wpAny _ _ (match Builtin.Slice.sliceAdjust lo hi 1 (n:Int) with | (lo,hi)=>pure (lo,(1:Int),Builtin.Slice.slicePlaces lo hi 1)) _ _ s
 rw [adjust_gen lo hi n]
 show wpAny _ _ (pure (((sIx n 0 lo:Nat):Int),(1:Int),Builtin.Slice.slicePlaces ((sIx n 0 lo:Nat):Int) ((sIx n n hi:Nat):Int) 1)) _ _ s
 rw [places_gen]
 exact wpAny_pure h
theorem pick_gen (xs:Array Value)(i k:Nat):((List.range k).filterMap fun (m:Nat)=>xs[((i:Int) + (m:Int) * 1).toNat]?).toArray=((xs.toList.drop i).take k).toArray:=by
 have e:(fun (m:Nat)=>xs[((i:Int) + (m:Int) * 1).toNat]?)=fun m=>xs[i + m]?:=by
  funext m
  have:((i:Int) + (m:Int) * 1).toNat=i + m:=by (first|lia|omega)
  rw [this]
 rw [e]
 have:=pick_run xs i k
 rw [List.filterMap_map] at this
 have e2:((fun x=>xs[x]?) ∘ fun x=>i + x)=fun m=>xs[i + m]?:=rfl
 rw [e2] at this
 rw [this]
theorem getItem_tuple_cut {t sl:Addr}{items:Array Value}{vl vu:Value}{lo hi:Option Int}{Q:Value→Shared→Prop}(ht:IsTup s.heap t items)(hs:s.heap.IsSliceOf sl vl vu .none)(pl:IsPart vl lo)(pu:IsPart vu hi)
  (hw:¬(sIx items.size 0 lo=0∧sIx items.size items.size hi=items.size))
  (h:Q (.ref s.heap.objs.size) {s with heap:=s.heap.push {cls:=.type "tuple",data:=.seq ((items.toList.drop (sIx items.size 0 lo)).take (sIx items.size items.size hi - sIx items.size 0 lo)).toArray}})
  (hsz:items.size≤sizeLine):wpAny (model prog w) A (getItem (.ref t) (.ref sl)) Q E s:=by
 have htake:sizeOk (.seq ((items.toList.drop (sIx items.size 0 lo)).take (sIx items.size items.size hi - sIx items.size 0 lo)).toArray):=by
  show ((items.toList.drop (sIx items.size 0 lo)).take (sIx items.size items.size hi - sIx items.size 0 lo)).toArray.size≤sizeLine
  rw [List.size_toArray,List.length_take,List.length_drop,Array.length_toList]
  omega
 have hj:sIx items.size items.size hi≤items.size:=sIx_le _ _ (Nat.le_refl _) hi
 obtain ⟨os,hos,hcs,hds⟩:=id hs
 have hTs:s.TypeIs (.ref sl) "slice":=⟨os,hos,hcs⟩
 unfold getItem
 try with_reducible refine wpAny_holding ?_
 first | refine wpAny_bind (wpAny_pure ?_) | skip
 refine wpAny_bind (wpAny_sequenceKey ht.typeIs (by decide) ?_)
 refine wpAny_bind (wpAny_callSpecial?_slot (name:=Str.ofString "__getitem__") ht.typeIs PyProof.Rows.slot_tuple_getitem
  (wpAny_call_entry PyProof.Rows.slot_tuple_getitem ht.typeIs entry_tuple_getitem ?_ (args_tuple_getitem _ _)))
 show wpAny _ _ (Builtin.Tuple.tupleItemsOf (.ref t) >>=_) _ _ s
 refine wpAny_bind (tupleItemsOf_ ht ?_)
 refine wpAny_bind (wpAny_typeOf hTs ?_)
 rw [if_pos (by decide)]
 refine wpAny_bind (sliceApplied_gen hs pl pu ?_)
 have hno:¬((((sIx items.size 0 lo:Nat):Int) == 0 && (1:Int) == 1 && (sIx items.size items.size hi - sIx items.size 0 lo) == items.size)=true):=by
  intro q
  rw [Bool.and_eq_true,Bool.and_eq_true] at q
  have q1:((sIx items.size 0 lo:Nat):Int)=0:=eq_of_beq q.1.1
  have q2:sIx items.size items.size hi - sIx items.size 0 lo=items.size:=eq_of_beq q.2
  exact hw ⟨by omega,by omega⟩
 show wpAny _ _ (if (((sIx items.size 0 lo:Nat):Int) == 0 && (1:Int) == 1 && (sIx items.size items.size hi - sIx items.size 0 lo) == items.size)=true then _ else _) _ _ s
 rw [if_neg hno,pick_gen]
 first
  | exact wpAny_bind (m:=Builtin.Tuple.tupleExact _) (wpAny_newObj_type (wpAny_pure ⟨_,rfl,wpAny_pure h⟩) htake)
  | exact wpAny_bind (m:=Builtin.Tuple.tupleExact _) (wpAny_newObj_type (wpAny_bind (wpAny_pure (wpAny_pure ⟨_,rfl,wpAny_pure h⟩))) htake)
  | exact wpAny_bind (wpAny_bind (m:=Builtin.Tuple.tupleExact _) (wpAny_newObj_type (wpAny_pure (wpAny_pure ⟨_,rfl,wpAny_pure h⟩)) htake))
  | exact wpAny_bind (wpAny_bind (m:=Builtin.Tuple.tupleExact _) (wpAny_newObj_type (wpAny_pure ⟨_,rfl,wpAny_pure h⟩) htake))
end
end HT
namespace L2
open PySem PySem.Spec PyProof.Rows
noncomputable abbrev TO:=St→Hp→(Option Int→Hp→Prop)→Prop
noncomputable def PO (X:Cx) (e:Option Expr) (t:TO):Prop:=
 ∀(pins:List (Addr×Obj)) (s:Shared) (σ:St) (H:Hp) (Q:Option Int→Hp→Prop),Inv X pins σ H s→t σ H Q→
  wpAny (model X.prog X.w) X.A (evalPart e X.env) (fun u s'=>∃o H',Inv X pins σ H' s'∧IsPart u o∧Q o H') X.xe s
noncomputable def tNoPart:TO:=fun _ H Q=>Q none H
noncomputable def tPart (t:TE):TO:=fun σ H Q=>t σ H fun x H1=>∃i,x= .int i∧Q (some i) H1
theorem intsAre_of {ns:List Int}:∀{us:List Value},Vals (ns.map V.int) us→IntsAre us ns:=by
 induction ns with
 | nil=>intro us r;rw [List.map_nil] at r;cases r;exact .nil
 | cons n ns ih=>
  intro us r
  rw [List.map_cons] at r
  cases r with
  | cons r1 r2=>
   obtain ⟨t,e⟩:=r1
   subst e
   exact .cons n t (ih r2)
section
variable {X:Cx}{e:Expr}{te:TE}{lo hi:Option Expr}{tl th:TO}{pos p2:Pos}
theorem po_none:PO X none tNoPart:=by
 intro pins s σ H Q I h
 rw [evalPart_none]
 exact wpAny_pure ⟨none,H,I,.none,h⟩
theorem po_some (h:PE X e te):PO X (some e) (tPart te):=by
 intro pins s σ H Q I hw
 rw [evalPart_some]
 refine thn (h pins s σ H _ I hw) fun u s1 ⟨x,H1,I1,r1,q1⟩=>?_
 obtain ⟨i,rfl,q⟩:=q1
 obtain ⟨t,rfl⟩:=r1
 exact ⟨some i,H1,I1,.int i t,q⟩
noncomputable def SlR (X:Cx) (r:V→Option Int→Option Int→Hp→VK→Prop):Prop:=
 ∀(pins:List (Addr×Obj)) (s:Shared) (σ:St) (H:Hp) (x:V) (v vl vu:Value) (lo hi:Option Int) (sl:Addr) (Q:VK),Inv X pins σ H s→RelV x v→s.heap.IsSliceOf sl vl vu .none→IsPart vl lo→IsPart vu hi→r x lo hi H Q→
  ∃T id,typeLookup (.type T) "__getitem__"=pure (some (.builtin id))∧s.TypeIs v T∧wpAny (model X.prog X.w) X.A (getItem v (.ref sl)) (EP X pins σ Q) X.xe s
theorem SlR.or {r r':V→Option Int→Option Int→Hp→VK→Prop}(h:SlR X r)(h':SlR X r'):SlR X (fun x lo hi H Q=>r x lo hi H Q∨r' x lo hi H Q):=by
 intro pins s σ H x v vl vu lo hi sl Q I rx hs pl pu q
 rcases q with q | q
 ·exact h pins s σ H x v vl vu lo hi sl Q I rx hs pl pu q
 ·exact h' pins s σ H x v vl vu lo hi sl Q I rx hs pl pu q
noncomputable def tSl (r:V→Option Int→Option Int→Hp→VK→Prop) (te:TE) (tl th:TO):TE:=fun σ H Q=>te σ H fun x H1=>tl σ H1 fun l H2=>th σ H2 fun u H3=>r x l u H3 Q
theorem pe_slice {r:V→Option Int→Option Int→Hp→VK→Prop}(hr:SlR X r)(he:PE X e te)(hl:PO X lo tl)(hu:PO X hi th):PE X (.Subscript e (.Slice lo hi none p2) pos) (tSl r te tl th):=by
 intro pins s σ H Q I h
 refine Subscript_ (thn (he pins s σ H _ I h) fun v s1 ⟨x,H1,I1,r1,q1⟩=>?_)
 refine wpAny_Slice (thn (hl pins s1 σ H1 _ I1 q1) fun vl s2 ⟨l,H2,I2,pl,q2⟩=>thn (hu pins s2 σ H2 _ I2 q2) fun vu s3 ⟨u,H3,I3,pu,q3⟩=>?_)
 rw [evalPart_none]
 refine wpAny_pure ?_
 have I4:Inv X pins σ H3 {s3 with heap:=s3.heap.push {cls:=.type "slice",data:=.fields #[vl,vu,.none]}}:=I3.kept (t':=s3.toks) fun b ob q=>Heap.get?_push_of_some _ q
 obtain ⟨T,id,hT,ht,hg⟩:=hr pins {s3 with heap:=s3.heap.push {cls:=.type "slice",data:=.fields #[vl,vu,.none]}} σ H3 x v vl vu l u s3.heap.objs.size Q I4 r1 (Heap.IsSliceOf.new ..) pl pu q3
 show wpAny (model X.prog X.w) X.A (subscriptTail e (.Slice lo hi none p2) v (.ref s3.heap.objs.size)) (EP X pins σ Q) X.xe {s3 with heap:=s3.heap.push {cls:=.type "slice",data:=.fields #[vl,vu,.none]}}
 exact tail_any (ops:=[.ref s3.heap.objs.size,v]) ht hT hg (by with_unfolding_all rfl)
noncomputable def cutV (xs:List V) (lo hi:Option Int):List V:=(xs.drop (HT.sIx xs.length 0 lo)).take (HT.sIx xs.length xs.length hi - HT.sIx xs.length 0 lo)
theorem cutV_length (xs:List V)(lo hi:Option Int):(cutV xs lo hi).length≤xs.length:=by
 unfold cutV
 rw [List.length_take,List.length_drop]
 (first|lia|omega)
noncomputable def rSlT (K:PySem.W.Frag):V→Option Int→Option Int→Hp→VK→Prop:=fun x lo hi H Q=>∃a xs,x= .ref a∧SqT K H a xs∧
 ¬(HT.sIx xs.length 0 lo=0∧HT.sIx xs.length xs.length hi=xs.length)∧∀p,H p=none→Q (.ref p) (upd H p (.tup (cutV xs lo hi)))
theorem sl_tup:SlR X (rSlT X.K):=by
 intro pins s σ H x v vl vu lo hi sl Q I rx hs pl pu h
 obtain ⟨a,xs,rfl,hx,hw,q⟩:=h
 cases rx
 obtain ⟨its,r,ht,hz⟩:=I.tuple hx
 have hlen:its.toArray.size=xs.length:=by rw [List.size_toArray];exact r.length.symm
 refine ⟨"tuple",_,PyProof.Rows.slot_tuple_getitem.lookup,ht.typeIs,?_⟩
 refine HT.getItem_tuple_cut ht hs pl pu (by rw [hlen];exact hw) ?_ (by rw [hlen];exact hz)
 rw [hlen]
 refine ⟨.ref s.heap.objs.size,_,I.laid (t':=s.toks) (o:=.tup (cutV xs lo hi)) (fun b ob q=>Heap.get?_push_of_some _ q) (Nat.le_refl _) ?_,rfl,q _ (I.hok.fresh (Nat.le_refl _))⟩
 exact ⟨Nat.le_trans (cutV_length xs lo hi) hz,_,(r.drop (HT.sIx xs.length 0 lo)).take (HT.sIx xs.length xs.length hi - HT.sIx xs.length 0 lo),IsTup.new _ _⟩
noncomputable def rLtT (K:PySem.W.Frag):R2:=fun x y H Q=>∃a b ns ms,x= .ref a∧y= .ref b∧SqT K H a (ns.map V.int)∧SqT K H b (ms.map V.int)∧Q (.bl (HT.lexLt ns ms)) H
theorem op_ltT (hu:X.A.units < cLine):OpR X (compareOp .Lt) (rLtT X.K):=by
 intro pins s σ H x y v u Q I rx ry h
 obtain ⟨a,b,ns,ms,rfl,rfl,ha,hb,q⟩:=h
 cases rx
 cases ry
 obtain ⟨its,r1,p1,_⟩:=I.tuple ha
 obtain ⟨its2,r2,p2,_⟩:=I.tuple hb
 have i1:IntsAre its.toArray.toList ns:=intsAre_of r1
 have i2:IntsAre its2.toArray.toList ms:=intsAre_of r2
 exact HT.lt_tupInts p1 p2 i1 i2 hu ⟨.bl (HT.lexLt ns ms),H,I,rfl,q⟩
noncomputable def rCatT (K:PySem.W.Frag):R2:=fun x y H Q=>∃a b xs ys,x= .ref a∧y= .ref b∧SqT K H a xs∧SqT K H b ys∧xs≠[]∧xs.length + ys.length≤sizeLine∧
 (ys=[]→Q (.ref a) H)∧(ys≠[]→∀p,H p=none→Q (.ref p) (upd H p (.tup (xs ++ ys))))
theorem Vals.nil_iff {xs:List V}{us:List Value}(r:Vals xs us):us=[]↔xs=[]:=by
 cases r with
 | nil=>simp
 | cons _ _=>simp
theorem op_catT:OpR X (binaryOp .Add) (rCatT X.K):=by
 intro pins s σ H x y v u Q I rx ry h
 obtain ⟨a,b,xs,ys,rfl,rfl,ha,hb,hx,hz,q1,q2⟩:=h
 cases rx
 cases ry
 obtain ⟨its,r1,p1,_⟩:=I.tuple ha
 obtain ⟨its2,r2,p2,_⟩:=I.tuple hb
 refine HT.cat_tup p1 p2 (fun z=>hx (r1.nil_iff.mp z)) (fun z=>⟨.ref a,H,I,rfl,q1 (r2.nil_iff.mp z)⟩) (fun z=>?_) (by rw [←r1.length,←r2.length];exact hz)
 refine ⟨.ref s.heap.objs.size,_,I.laid (t':=s.toks) (o:=.tup (xs ++ ys)) (fun b ob q=>Heap.get?_push_of_some _ q) (Nat.le_refl _) ?_,rfl,q2 (fun w=>z (r2.nil_iff.mpr w)) _ (I.hok.fresh (Nat.le_refl _))⟩
 exact ⟨by rw [List.length_append];exact hz,_,r1.append r2,IsTup.new _ _⟩
end
end L2
namespace L2
open PySem PySem.Spec PyProof.Rows
noncomputable def ixN (n:Nat) (i:Int):Option Nat:=if 0≤i then (if i < n then some i.toNat else none) else if -(n:Int)≤i then some (i + n).toNat else none
noncomputable def atI {α:Type} (xs:List α) (i:Int):Option α:=(ixN xs.length i).bind fun j=>xs[j]?
theorem ixN_seq {n:Nat}{i:Int}{j:Nat}(h:ixN n i=some j):seqIndex? i n=some j∧j < n∧-(n:Int)≤i∧i < n:=by
 unfold ixN at h
 by_cases h0:0≤i
 ·rw [if_pos h0] at h
  by_cases h1:i < n
  ·rw [if_pos h1] at h
   have e:i.toNat=j:=Option.some.inj h
   exact ⟨by rw [seqIndex_of h0 h1,e],by (first|lia|omega),by (first|lia|omega),h1⟩
  ·rw [if_neg h1] at h;cases h
 ·rw [if_neg h0] at h
  by_cases h1:-(n:Int)≤i
  ·rw [if_pos h1] at h
   have e:(i + n).toNat=j:=Option.some.inj h
   exact ⟨by rw [seqIndex_neg (by (first|lia|omega)) h1,e],by (first|lia|omega),h1,by (first|lia|omega)⟩
  ·rw [if_neg h1] at h;cases h
theorem atI_get {α:Type}{xs:List α}{i:Int}{v:α}(h:atI xs i=some v):∃j,seqIndex? i xs.length=some j∧xs[j]? =some v∧j < xs.length∧-(xs.length:Int)≤i∧i < xs.length:=by
 unfold atI at h
 cases e:ixN xs.length i with
 | none=>rw [e] at h;cases h
 | some j=>
  rw [e] at h
  obtain ⟨h1,h2,h3,h4⟩:=ixN_seq e
  exact ⟨j,h1,h,h2,h3,h4⟩
theorem atI_nat {α:Type}{xs:List α}{j:Nat}{v:α}(h:xs[j]? =some v):atI xs (j:Int)=some v:=by
 have hj:j < xs.length:=(List.getElem?_eq_some_iff.mp h).1
 have e:ixN xs.length (j:Int)=some j:=by
  unfold ixN
  rw [if_pos (by (first|lia|omega)),if_pos (by (first|lia|omega))];simp
 unfold atI;rw [e];exact h
noncomputable def PlainIx (b:Expr):Prop:=∀o i,subscripted b false o i=operate [o,i] (getItem o i)
noncomputable def IxR (X:Cx) (r:R2):Prop:=
 ∀(value slice:Expr) (pins:List (Addr×Obj)) (s:Shared) (σ:St) (H:Hp) (x y:V) (v u:Value) (Q:VK),Inv X pins σ H s→RelV x v→RelV y u→r x y H Q→
  subscripted slice false v u=operate [v,u] (getItem v u)→wpAny (model X.prog X.w) X.A (subscriptTail value slice v u) (EP X pins σ Q) X.xe s
noncomputable def MtR (X:Cx) (id:String) (r:V→List V→Hp→VK→Prop):Prop:=
 ∀(pins:List (Addr×Obj)) (s:Shared) (σ:St) (H:Hp) (x:V) (xs:List V) (v:Value) (us:List Value) (Q:VK),Inv X pins σ H s→RelV x v→Vals xs us→r x xs H Q→
  wpAny (model X.prog X.w) X.A (call (.builtin id) (v :: us)) (EP X pins σ Q) X.xe s
section
variable {X:Cx}{a b:Expr}{ta tb:TE}{pos:Pos}
theorem IxR.or {r r':R2}(h:IxR X r)(h':IxR X r'):IxR X (fun x y H Q=>r x y H Q∨r' x y H Q):=by
 intro value slice pins s σ H x y v u Q I rx ry q hs
 rcases q with q | q
 ·exact h value slice pins s σ H x y v u Q I rx ry q hs
 ·exact h' value slice pins s σ H x y v u Q I rx ry q hs
theorem MtR.or {id:String}{r r':V→List V→Hp→VK→Prop}(h:MtR X id r)(h':MtR X id r'):MtR X id (fun x xs H Q=>r x xs H Q∨r' x xs H Q):=by
 intro pins s σ H x xs v us Q I rx rs q
 rcases q with q | q
 ·exact h pins s σ H x xs v us Q I rx rs q
 ·exact h' pins s σ H x xs v us Q I rx rs q
theorem pe_ix {r:R2}(hr:IxR X r)(ha:PE X a ta)(hb:PE X b tb)(hs:PlainIx b):PE X (.Subscript a b pos) (tOp r ta tb):=by
 intro pins s σ H Q I h
 exact Subscript_ (binT ha hb I h fun v u s2 x y H2 I2 rx ry q=>hr a b pins s2 σ H2 x y v u Q I2 rx ry q (hs _ _))
noncomputable def rIxL (K:PySem.W.Frag):R2:=fun x y H Q=>∃p xs i v,x= .ref p∧y= .int i∧SqL K H p xs∧atI xs i=some v∧Q v H
noncomputable def rIxT (K:PySem.W.Frag):R2:=fun x y H Q=>∃p xs i v,x= .ref p∧y= .int i∧SqT K H p xs∧atI xs i=some v∧Q v H
noncomputable def rIxS:R2:=fun x y H Q=>∃z i c,x= .str z∧y= .int i∧z.length≤sizeLine∧atI z.cps.toList i=some c∧Q (.str ⟨#[c]⟩) H
theorem ix_list:IxR X (rIxL X.K):=by
 intro value slice pins s σ H x y v u Q I rx ry h hs
 obtain ⟨p,xs,i,z,rfl,rfl,hq,he,q⟩:=h
 cases rx
 obtain ⟨t,rfl⟩:=ry
 obtain ⟨its,r,pl,hz⟩:=I.list hq
 obtain ⟨j,h1,h2,h3,h4,h5⟩:=atI_get he
 obtain ⟨w,ew,rw'⟩:=r.get h2
 have hl:=r.length
 have hn:=line63
 have fin:EP X pins σ Q w s:=⟨z,H,I,rw',q⟩
 by_cases h0:0≤i
 ·have hj:i.toNat=j:=by
   rw [seqIndex_of h0 h5] at h1
   exact Option.some.inj h1
  exact item_listR pl.isList h0 (by (first|lia|omega)) (by rw [hj];simpa using ew) fin hs
 ·have hj:(i + (its.toArray.size:Int)).toNat=j:=by
   rw [seqIndex_neg (by (first|lia|omega)) h4] at h1
   rw [List.size_toArray,←hl]
   exact Option.some.inj h1
  exact subscriptTail_builtinR (x:=w) pl.isList.typeIs slot_list_getitem.lookup
   (wpAny_getItem_list_neg (Q:=fun r s'=>r=w∧EP X pins σ Q r s') pl.isList (by (first|lia|omega)) (by rw [List.size_toArray] <;> (first|lia|omega)) (by (first|lia|omega)) (by rw [hj];simpa using ew) ⟨rfl,fin⟩) hs
theorem ix_tup:IxR X (rIxT X.K):=by
 intro value slice pins s σ H x y v u Q I rx ry h hs
 obtain ⟨p,xs,i,z,rfl,rfl,hq,he,q⟩:=h
 cases rx
 obtain ⟨t,rfl⟩:=ry
 obtain ⟨its,r,pl,hz⟩:=I.tuple hq
 obtain ⟨j,h1,h2,h3,h4,h5⟩:=atI_get he
 obtain ⟨w,ew,rw'⟩:=r.get h2
 have hl:=r.length
 have hn:=line63
 have fin:EP X pins σ Q w s:=⟨z,H,I,rw',q⟩
 exact subscriptTail_builtinR (x:=w) pl.typeIs slot_tuple_getitem.lookup
  (getItem_tuple (j:=j) (Q:=fun r s'=>r=w∧EP X pins σ Q r s') pl (by (first|lia|omega)) (by (first|lia|omega)) (by rw [List.size_toArray,←hl];exact h1) (by simpa using ew) ⟨rfl,fin⟩) hs
theorem ix_str:IxR X rIxS:=by
 intro value slice pins s σ H x y v u Q I rx ry h hs
 obtain ⟨z,i,c,rfl,rfl,hz,he,q⟩:=h
 obtain ⟨t,rfl⟩:=rx
 obtain ⟨t',rfl⟩:=ry
 obtain ⟨j,h1,h2,h3,h4,h5⟩:=atI_get he
 have hl:z.cps.toList.length=z.length:=by simp [Str.length]
 rw [hl] at h1 h4 h5
 have hn:=line63
 exact tail_any (typeIs_str s z t) slot_str_getitem.lookup (getItem_str (c:=c) (by
  have e1:decide (i < -(2 ^ 63:Int))=false:=decide_eq_false (by (first|lia|omega))
  have e2:decide (i≥2 ^ 63)=false:=decide_eq_false (by (first|lia|omega))
  rw [e1,e2,Bool.or_false]) (by rw [h1];simpa using h2) ⟨.str ⟨#[c]⟩,H,I.tok _,⟨_,rfl⟩,q⟩) hs
noncomputable def rIx (K:PySem.W.Frag):R2:=fun x y H Q=>rIxL K x y H Q∨rIxT K x y H Q∨rIxS x y H Q
theorem ix_seq:IxR X (rIx X.K):=ix_list.or (ix_tup.or ix_str)
theorem Inv.lst {pins:List (Addr×Obj)}{σ:St}{H:Hp}{s:Shared}{p:Addr}{xs:List V}(I:Inv X pins σ H s)(h:H p=some (.lst xs)):
  ∃(its:List Value) (n:Nat),Vals xs its∧s.heap.get? p=some {cls:=.type "list",data:=.seq its.toArray n}∧xs.length≤sizeLine:=by
 obtain ⟨z,its,n,r,e⟩:=I.hok p _ h
 exact ⟨its,n,r,e,z⟩
theorem slice_bounds (lo hi:Option Int)(n:Nat):(sliceBounds lo hi none n).1=((HT.sIx n 0 lo:Nat):Int)∧(sliceBounds lo hi none n).2.1=((HT.sIx n n hi:Nat):Int)∧(sliceBounds lo hi none n).2.2=1:=by
 refine ⟨?_,?_,rfl⟩
 ·cases lo with
  | none=>simp [sliceBounds,HT.sIx]
  | some i=>
   simp only [sliceBounds,HT.sIx,Option.getD_none,show (1:Int) > 0 by decide,if_true]
   by_cases h:i < 0
   ·simp only [h,if_true] <;> (first|lia|omega)
   ·simp only [h,if_false] <;> (first|lia|omega)
 ·cases hi with
  | none=>simp [sliceBounds,HT.sIx]
  | some i=>
   simp only [sliceBounds,HT.sIx,Option.getD_none,show (1:Int) > 0 by decide,if_true]
   by_cases h:i < 0
   ·simp only [h,if_true] <;> (first|lia|omega)
   ·simp only [h,if_false] <;> (first|lia|omega)
theorem slicePick_cut (its:List Value)(lo hi:Option Int):slicePick its.toArray lo hi none=((its.drop (HT.sIx its.length 0 lo)).take (HT.sIx its.length its.length hi - HT.sIx its.length 0 lo)).toArray:=by
 obtain ⟨h1,h2,h3⟩:=slice_bounds lo hi its.toArray.size
 unfold slicePick
 rw [h1,h2,h3]
 simp only [sliceRange_one,pick_run,List.size_toArray] <;> rfl
noncomputable def rSlL (K:PySem.W.Frag):V→Option Int→Option Int→Hp→VK→Prop:=fun x lo hi H Q=>∃a xs,x= .ref a∧SqL K H a xs∧∀p,H p=none→Q (.ref p) (upd H p (.lst (cutV xs lo hi)))
theorem sl_list:SlR X (rSlL X.K):=by
 intro pins s σ H x v vl vu lo hi sl Q I rx hs pl pu h
 obtain ⟨a,xs,rfl,hx,q⟩:=h
 cases rx
 obtain ⟨its,r,ht,hz⟩:=I.list hx
 have hlen:=r.length
 refine ⟨"list",_,slot_list_getitem.lookup,ht.isList.typeIs,?_⟩
 refine wpAny_getItem_list_slice ht.isList hs pl pu .none (by simp) ?_ (by rw [List.size_toArray] <;> (first|lia|omega))
 rw [slicePick_cut,←hlen]
 refine ⟨.ref s.heap.objs.size,_,I.laid (t':=s.toks) (o:=.lst (cutV xs lo hi)) (fun b ob q=>Heap.get?_push_of_some _ q) (Nat.le_refl _) ?_,rfl,q _ (I.hok.fresh (Nat.le_refl _))⟩
 exact ⟨Nat.le_trans (cutV_length xs lo hi) hz,_,0,(r.drop (HT.sIx xs.length 0 lo)).take (HT.sIx xs.length xs.length hi - HT.sIx xs.length 0 lo),Heap.get?_push_size _ rfl⟩
theorem call_len_seq:CallR X (.builtin "len") (fun xs H Q=>∃p ys,xs=[.ref p]∧(SqL X.K H p ys∨SqT X.K H p ys)∧Q (.int ys.length) H):=by
 intro pins s σ H xs us Q I r h
 obtain ⟨p,ys,rfl,hq,q⟩:=h
 obtain ⟨u,rfl,rx⟩:=vals1 r
 cases rx
 have hn:=line63
 rcases hq with hq | hq
 ·obtain ⟨its,r',pl,hz⟩:=I.list hq
  have hlen:=r'.length
  exact Calls.call_len_list pl.isList (by simp only [List.size_toArray] <;> (first|lia|omega)) ⟨.int ys.length,H,I.tok _,⟨s.toks + 1,by rw [List.size_toArray,hlen]⟩,q⟩
 ·obtain ⟨its,r',pl,hz⟩:=I.tuple hq
  have hlen:=r'.length
  exact len_tuple pl (by simp only [List.size_toArray] <;> (first|lia|omega)) ⟨.int ys.length,H,I.tok _,⟨s.toks + 1,by rw [List.size_toArray,hlen]⟩,q⟩
theorem CallR.or {f:Value}{r r':List V→Hp→VK→Prop}(h:CallR X f r)(h':CallR X f r'):CallR X f (fun xs H Q=>r xs H Q∨r' xs H Q):=by
 intro pins s σ H xs us Q I rs q
 rcases q with q | q
 ·exact h pins s σ H xs us Q I rs q
 ·exact h' pins s σ H xs us Q I rs q
theorem call_list_of:CallR X (.type "list") (fun xs H Q=>∃p ys,xs=[.ref p]∧(SqL X.K H p ys∨SqT X.K H p ys)∧∀l,H l=none→Q (.ref l) (upd H l (.lst ys))):=by
 intro pins s σ H xs us Q I r h
 obtain ⟨p,ys,rfl,hq,q⟩:=h
 obtain ⟨u,rfl,rx⟩:=vals1 r
 cases rx
 have fin:∀(its:List Value),Vals ys its→ys.length≤sizeLine→∀(h':Heap) (c':Nat),(∀b o',s.heap.get? b=some o'→h'.get? b=some o')→
   h'.get? s.heap.objs.size=some {cls:=.type "list",dict:=none,data:=.seq its.toArray c',slots:= #[]}→EP X pins σ Q (.ref s.heap.objs.size) {s with heap:=h'}:=fun its r' hz h' c' kp e=>
  ⟨.ref s.heap.objs.size,_,I.laid (t':=s.toks) kp (Nat.le_refl _) (show ObjOk X.prog X.w _ h' _ (.lst ys) from ⟨hz,its,c',r',e⟩),rfl,q _ (I.hok.fresh (Nat.le_refl _))⟩
 rcases hq with hq | hq
 ·obtain ⟨its,r',pl,hz⟩:=I.list hq
  have hlen:=r'.length
  obtain ⟨o,ho,hc,n,hd⟩:=pl.isList
  exact call_list_seq p (.inl rfl) ho hc hd (fun h' c' kp e=>fin its r' hz h' c' kp e) (by simp only [List.size_toArray] <;> (first|lia|omega))
 ·obtain ⟨its,r',pl,hz⟩:=I.tuple hq
  have hlen:=r'.length
  obtain ⟨o,ho,hc,n,hd⟩:=pl
  exact call_list_seq p (.inr rfl) ho hc hd (fun h' c' kp e=>fin its r' hz h' c' kp e) (by simp only [List.size_toArray] <;> (first|lia|omega))
theorem call_tuple_of:CallR X (.type "tuple") (fun xs H Q=>∃p ys,xs=[.ref p]∧((SqL X.K H p ys∧∀l,H l=none→Q (.ref l) (upd H l (.tup ys)))∨(SqT X.K H p ys∧Q (.ref p) H))):=by
 intro pins s σ H xs us Q I r h
 obtain ⟨p,ys,rfl,h⟩:=h
 obtain ⟨u,rfl,rx⟩:=vals1 r
 cases rx
 rcases h with ⟨hq,q⟩ | ⟨hq,q⟩
 ·obtain ⟨its,r',pl,hz⟩:=I.list hq
  have hlen:=r'.length
  refine call_tuple_list pl.isList (fun h' kp=>?_) (by simp only [List.size_toArray] <;> (first|lia|omega))
  have I1:Inv X pins σ H {s with heap:=h'}:=I.kept (t':=s.toks) kp
  have I2:Inv X pins σ (upd H h'.objs.size (.tup ys)) {s with heap:=h'.push {cls:=.type "tuple",data:=.seq its.toArray}}:=
   I1.laid (t':=s.toks) (fun b o e=>Heap.get?_push_of_some _ e) (Nat.le_refl _) (show ObjOk X.prog X.w _ _ _ (.tup ys) from ⟨hz,its,r',IsTup.new _ _⟩)
  exact ⟨.ref h'.objs.size,_,I2,rfl,q _ (I1.hok.fresh (Nat.le_refl _))⟩
 ·obtain ⟨its,r',pl,hz⟩:=I.tuple hq
  exact call_tuple_same pl ⟨.ref p,H,I,rfl,q⟩
noncomputable def tyV (K:PySem.W.Frag) (T:String) (x:V) (H:Hp):Prop:=match x with
 | .str _=>T="str"
 | .int _=>T="int"
 | .ref p=>(T="list"∧∃xs,SqL K H p xs)∨(T="tuple"∧∃o,K.lookup p=some o∧o.cls= .type "tuple"∧o.dict=none)∨
   (T="dict"∧((∃kvs,H p=some (.dK kvs))∨∃kvs,H p=some (.dT kvs)))∨(T="set"∧∃S n,H p=some (.set S n))
 | _=>False
theorem tyV_is {pins:List (Addr×Obj)}{σ:St}{H:Hp}{s:Shared}{T:String}{x:V}{v:Value}(I:Inv X pins σ H s)(r:RelV x v)(ty:tyV X.K T x H):
  s.TypeIs v T∧∀a,v= .ref a→∃ob,s.heap.get? a=some ob∧ob.dict=none:=by
 cases x with
 | str z=>
  obtain ⟨t,rfl⟩:=r
  cases (show T="str" from ty)
  exact ⟨typeIs_str s z t,fun _ e=>nomatch e⟩
 | int i=>
  obtain ⟨t,rfl⟩:=r
  cases (show T="int" from ty)
  exact ⟨typeIs_int s i t,fun _ e=>nomatch e⟩
 | ref p=>
  cases r
  rcases ty with ⟨rfl,xs,hq⟩ | ⟨rfl,o,hk,hc,hd⟩ | ⟨rfl,hk⟩ | ⟨rfl,S,n,hk⟩
  ·obtain ⟨its,_,pl,_⟩:=I.list hq
   refine ⟨pl.isList.typeIs,fun a e=>?_⟩
   cases e
   obtain ⟨o,n,e,c,hd,_⟩:=pl
   exact ⟨o,e,hd⟩
  ·refine ⟨⟨o,I.kIn p o hk,hc⟩,fun a e=>?_⟩
   cases e
   exact ⟨o,I.kIn _ o hk,hd⟩
  ·have z:∃o,s.heap.get? p=some o∧o.ExactDict:=by
    rcases hk with ⟨kvs,hk⟩ | ⟨kvs,hk⟩
    ·obtain ⟨_,_,_,_,o,_,_,e,ex,_⟩:=I.hok p _ hk
     exact ⟨o,e,ex⟩
    ·obtain ⟨_,_,_,_,o,_,_,e,ex,_⟩:=I.hok p _ hk
     exact ⟨o,e,ex⟩
   obtain ⟨o,e,ex⟩:=z
   refine ⟨⟨o,e,ex.1⟩,fun a e2=>?_⟩
   cases e2
   exact ⟨o,e,ex.2.1⟩
  ·obtain ⟨o,_,_,_,e,ex,_⟩:=I.hok p _ hk
   refine ⟨⟨o,e,ex.1⟩,fun a e2=>?_⟩
   cases e2
   exact ⟨o,e,ex.2.1⟩
 | _=>exact False.elim ty
noncomputable def tBM (K:PySem.W.Frag) (T:String) (r:V→List V→Hp→VK→Prop) (to:TE) (t:TA):TE:=fun σ H Q=>to σ H fun x H1=>tyV K T x H1∧t σ H1 fun xs H2=>r x xs H2 Q
variable {o e:Expr}{es:List Expr}{to:TE}{t:TA}{name:Str}{apos cpos:Pos}{T id:String}{r:V→List V→Hp→VK→Prop}
theorem pe_bm (pa:PlainAttrs T)(slot:Slot T name id)(hty:typeOf (.builtin id)=pure (.type "method_descriptor"))(hm:MtR X id r)(ho:PE X o to)(ha:PA X (e :: es) t)
  (hbase:autoParam (attributeBase o name X.env (eval o X.env)=eval o X.env) Zau.a2._auto_1)
  (hfew:autoParam (((backTo cpos (starEach (e :: es) X.env)).all (fun x=>!x.1) && (backToKw cpos (keywordEach [] X.env)).all (fun x=>x.1.isSome)
   && decide ((e :: es).length + ([]:List Keyword).length + (if ([]:List Keyword).isEmpty then 0 else 1) < 30))=true) Zau.a2._auto_1)
  (hline:autoParam ((apos.endLine == cpos.line)=true) Zau.a2._auto_1) (hs:autoParam (starEach (e :: es) X.env=(false,eval e X.env) :: starEach es X.env) Zau.a2._auto_1) (hplain:autoParam ((backTo cpos (starEach es X.env)).any (·.1)=false) Zau.a2._auto_1):
  PE X (.Call (.Attribute o name apos) (e :: es) [] cpos) (tBM X.K T r to t):=by
 intro pins s σ H Q I h
 refine wpAny_Call_method_late hbase hfew hline rfl (thn (ho pins s σ H _ I h) fun v s1 ⟨x,H1,I1,r1,ty,q1⟩=>?_)
 obtain ⟨h1,h2⟩:=tyV_is I1 r1 ty
 refine ⟨T,id,pa,slot,hty,h1,h2,?_⟩
 have hA:=ha cpos pins s1 σ H1 _ I1 q1
 rw [hs] at hA ⊢
 refine Calls.callWith_builtin (by show (false || (backTo cpos (starEach es X.env)).any (·.1))=false;rw [hplain] <;> rfl) (Calls.evalArgs_plain ?_)
 exact thn hA fun us s2 ⟨vs,H2,I2,r2,q2⟩=>hm pins s2 σ H2 x vs v us Q I2 r1 r2 q2
end
end L2
namespace L2
open PySem PySem.Spec PyProof.Rows
noncomputable def MtM (X:Cx) (id:String) (r:V→List V→Hp→VK→Prop):Prop:=
 ∀(pins:List (Addr×Obj)) (s:Shared) (σ:St) (H:Hp) (x:V) (xs:List V) (v:Value) (us:List Value) (Q:VK),Inv X pins σ H s→RelV x v→Vals xs us→r x xs H Q→
  wpAny (model X.prog X.w) X.A (call (.builtin id) (v :: us)) (EP X pins σ Q) X.xe s
theorem Vals.one:∀{x:V} {us:List Value},Vals [x] us→∃u,us=[u]∧RelV x u
 | _,_,.cons r .nil=>⟨_,rfl,r⟩
theorem Vals.two:∀{x y:V} {us:List Value},Vals [x,y] us→∃u v,us=[u,v]∧RelV x u∧RelV y v
 | _,_,_,.cons r (.cons q .nil)=>⟨_,_,rfl,r,q⟩
theorem Vals.zero:∀{us:List Value},Vals [] us→us=[]
 | _,.nil=>rfl
theorem Vals.eraseIdx:∀{xs:List V} {us:List Value} (i:Nat),Vals xs us→Vals (xs.eraseIdx i) (us.eraseIdx i)
 | _,_,_,.nil=>.nil
 | _,_,0,.cons _ t=>t
 | _,_,i + 1,.cons r t=>.cons r (Vals.eraseIdx i t)
theorem Vals.reverse {xs:List V}{us:List Value}(h:Vals xs us):Vals xs.reverse us.reverse:=by
 induction h with
 | nil=>exact .nil
 | cons r t ih=>rw [List.reverse_cons,List.reverse_cons];exact Vals.append ih (.cons r .nil)
theorem len_erase {α:Type}:∀(l:List α) (i:Nat),(l.eraseIdx i).length≤l.length
 | [],_=>Nat.le_refl _
 | _ :: _,0=>Nat.le_succ _
 | _ :: r,i + 1=>Nat.succ_le_succ (len_erase r i)
section
variable {X:Cx}{pins:List (Addr×Obj)}{σ:St}{H:Hp}{s:Shared}{l b:Addr}{xs ys zs:List V}
theorem Inv.lset {its its':List Value}{n:Nat}{f:Array Value→Array Value}{t':Nat}(I:Inv X pins σ H s)(hH:H l=some (.lst xs))
  (e:s.heap.get? l=some {cls:=.type "list",data:=.seq its.toArray n}) (hf:f its.toArray=its'.toArray) (hv:Vals ys its') (hz:ys.length≤sizeLine):
  Inv X pins σ (upd H l (.lst ys)) {s with heap:=s.heap.update l (Obj.mapSeq f),toks:=t'}:=by
 have q:=PySem.IsL.update e f
 rw [hf] at q
 refine I.write (x:=l) (e:=l) (by rw [hH];exact trivial) (.inl rfl) (fun b' u hb hu=>(Heap.get?_update_other s.heap (Obj.mapSeq f) (Ne.symm hb)).trans hu) ⟨_,q⟩ ?_
 exact ⟨hz,its',_,hv,q⟩
theorem Inv.lnew {its:List Value}{t':Nat}(I:Inv X pins σ H s)(hv:Vals ys its)(hz:ys.length≤sizeLine):
  Inv X pins σ (upd H s.heap.objs.size (.lst ys)) {s with heap:=s.heap.push {cls:=.type "list",data:=.seq its.toArray},toks:=t'}:=
 I.laid (fun _ _ q=>Heap.get?_push_of_some _ q) (Nat.le_refl _) ⟨hz,its,0,hv,Heap.get?_push_size _ rfl⟩
theorem Inv.fresh (I:Inv X pins σ H s):H s.heap.objs.size=none:=I.hok.fresh (Nat.le_refl _)
theorem Inv.lstM (I:Inv X pins σ H s)(hH:H l=some (.lst xs)):xs.length≤sizeLine∧∃(its:List Value) (n:Nat),Vals xs its∧xs.length=its.length∧s.heap.get? l=some {cls:=.type "list",data:=.seq its.toArray n}:=by
 obtain ⟨z,its,n,r,e⟩:=I.hok l _ hH
 exact ⟨z,its,n,r,r.length,e⟩
theorem notLongL {n:Nat}(h:n≤sizeLine):Builtin.List.listTooLong n=false:=by
 unfold Builtin.List.listTooLong
 exact decide_eq_false (by (first|lia|omega))
end
section
variable {X:Cx}
noncomputable def rAppend:V→List V→Hp→VK→Prop:=fun x vs H Q=>∃l xs y,x= .ref l∧vs=[y]∧H l=some (.lst xs)∧xs.length < sizeLine∧Q .non (upd H l (.lst (xs ++ [y])))
theorem mt_append:MtM X "list.append" rAppend:=by
 intro pins s σ H x vs v us Q I rx rv h
 obtain ⟨l,xs,y,rfl,rfl,hH,hz,q⟩:=h
 cases rx
 obtain ⟨u,rfl,ru⟩:=rv.one
 obtain ⟨z,its,n,r,hl,e⟩:=I.lstM hH
 refine call_meets F.slot_list_append ⟨_,e,rfl⟩ F.entry_list_append (F.args_list_append_2 _ _) (PySem.list_append l its.toArray n u (by rw [List.size_toArray];(first|lia|omega))) ⟨e,?_⟩
 refine ⟨.non,_,I.lset (its':=its ++ [u]) hH e (by simp) (r.append (.cons ru .nil)) ?_,rfl,q⟩
 rw [List.length_append,List.length_singleton]
 (first|lia|omega)
noncomputable def rPopAt:V→List V→Hp→VK→Prop:=fun x vs H Q=>∃l xs i k y,x= .ref l∧vs=[.int i]∧H l=some (.lst xs)∧-(2 ^ 63)≤i∧i < 2 ^ 63∧seqIndex? i xs.length=some k∧xs[k]? =some y∧Q y (upd H l (.lst (xs.eraseIdx k)))
theorem mt_popAt:MtM X "list.pop" rPopAt:=by
 intro pins s σ H x vs v us Q I rx rv h
 obtain ⟨l,xs,i,k,y,rfl,rfl,hH,h1,h2,hk,hy,q⟩:=h
 cases rx
 obtain ⟨u,rfl,ru⟩:=rv.one
 obtain ⟨t,rfl⟩:=ru
 obtain ⟨z,its,n,r,hl,e⟩:=I.lstM hH
 obtain ⟨w,hw,rw'⟩:=r.get hy
 refine call_meets F.slot_list_pop ⟨_,e,rfl⟩ F.entry_list_pop (F.args_list_pop_2 _ _)
  (MeetsSeq.list_pop_at l its.toArray n i t k w (fitsIndex_both h1 h2) (by rw [List.size_toArray,←hl];exact hk) (by rw [←Array.getElem?_toList];exact hw) (by rw [List.size_toArray];(first|lia|omega))) ⟨e,?_⟩
 refine ⟨y,_,I.lset (its':=its.eraseIdx k) hH e ?_ (r.eraseIdx k) ?_,rw',q⟩
 ·show its.toArray.eraseIdxIfInBounds k=(its.eraseIdx k).toArray
  rw [List.eraseIdxIfInBounds_toArray]
 ·have:=len_erase xs k
  (first|lia|omega)
noncomputable def rCat:R2:=fun x y H Q=>∃l b xs zs,x= .ref l∧y= .ref b∧H l=some (.lst xs)∧H b=some (.lst zs)∧xs.length + zs.length≤sizeLine∧∀p,H p=none→Q (.ref p) (upd H p (.lst (xs ++ zs)))
theorem op_cat:OpR X (binaryOp .Add) rCat:=by
 intro pins s σ H x y v u Q I rx ry h
 obtain ⟨l,b,xs,zs,rfl,rfl,hH,hB,hz,q⟩:=h
 cases rx
 cases ry
 obtain ⟨z,its,n,r,hl,e⟩:=I.lstM hH
 obtain ⟨z2,its2,n2,r2,hl2,e2⟩:=I.lstM hB
 refine PySem.P.add_list e e2 ?_ (by rw [List.size_toArray,List.size_toArray];(first|lia|omega))
 have ea:its.toArray ++ its2.toArray=(its ++ its2).toArray:=by simp
 rw [ea]
 exact ⟨.ref _,_,I.lnew (t':=s.toks) (r.append r2) (by rw [List.length_append];(first|lia|omega)),rfl,q _ I.fresh⟩
end
section
variable {prog:Program}{w:World}{A:Around}{E:Value→Shared→Prop}{s:Shared}
set_option maxRecDepth 100000 in
end
section
variable {X:Cx}
end
end L2
namespace Att
open PySem PySem.W PySem.Calls PyProof.Rows
theorem ints_of_wellAll {P:Params}{h:Heap}:∀(ns:List Int) (vs:List Value),WellAll P h vs (ns.map WData.int)→IntsAre vs ns:=by
 intro ns
 induction ns with
 | nil=>
  intro vs w
  rw [List.map_nil] at w
  cases w
  exact .nil
 | cons n ns ih=>
  intro vs w
  rw [List.map_cons] at w
  cases w with
  | cons a b=>
   cases a
   exact .cons _ _ (ih _ b)
theorem script_of {l:OpenLaw}{n:Nat}(hn:l.most=some n){P:Params}{h:Heap}{args:List WData}{vals:List Value}
  (hpre:l.row.toRowW.claim.pre args=true) (hwl:WellAll P h vals args):
  ∃a vs ns,vals=[Value.ref a]∧args=[WData.list (ns.map WData.int)]∧h.get? a=some {cls:=.type "list",data:=.seq vs.toArray}∧IntsAre vs ns∧ns.length≤n:=by
 have hsh:WShape.hasAll [] args [.list .int]=true:=(pre_splitW hpre).1
 have hc:l.pre.holds [] {args:=args}=true:=(pre_splitW hpre).2
 obtain ⟨d,r,rfl,h1,h2⟩:=hasAllW_cons hsh
 obtain rfl:=hasAllW_nil h2
 obtain ⟨xs,rfl,h3⟩:=hasW_list h1
 obtain ⟨ns,rfl⟩:=items_int h3
 have hlen:ns.length≤n:=by
  unfold OpenLaw.pre at hc
  have h4:(WTm.not (.lt (.lit (.int (n:Int))) (.len (.arg 0)))).holds [] {args:=[.list (ns.map .int)]}=true:=by
   have h4:=(holds_andW hc).1
   rw [hn] at h4
   exact h4
  have h5:=condW_of h4 (w_not (w_lt w_lit (w_len_list (w_arg rfl))))
  rw [List.length_map] at h5
  refine Nat.le_of_not_lt fun q=>?_
  have q':(n:Int) < ((ns.length:Nat):Int):=by (first|lia|omega)
  first
   | (rw [decide_eq_true q'] at h5;exact absurd h5 (by decide))
   | (simp at h5;(first|lia|omega))
 cases hwl with
 | cons w1 w2=>
  cases w2
  cases w1 with
  | list ho hall=>exact ⟨_,_,ns,rfl,rfl,ho,ints_of_wellAll ns _ hall,hlen⟩
theorem post_true (l:OpenLaw)(args:List WData):l.row.toRowW.claim.post args (.bool true) args=true:=
 postW_of (r:=l.row.toRowW) (X:=(true == true))
  (show WShape.has [] (.bool true) .bool=true by first | rfl | decide | simp [WShape.has,WShape.arms,WShape.armsAll])
  (show (WTm.eq .res (.lit (.bool true))).value [] {args:=args,res:=some (.bool true),after:=args}=some (.bool (true == true)) from w_eq_bool (w_res rfl) w_lit) rfl
theorem attach_call {l:OpenLaw}{n:Nat}{q:Program}{loose:List Str}{XP:(Str→Option Value)→Heap→Prop}{YP:World→Heap→Prop}{d:DefRec}
  (hn:l.most=some n) (hdf:d.params.defaults=[])
  (call:∀(w:World) (s₀ s₁:Shared) (mg mb:Str→Option Value) (fa:Addr) (o:Obj) (pm cd doc:Value) (a:Addr) (vs:List Value) (ns:List Int),
   Ground q loose [] XP w s₀ mg mb s₁.heap→YP w s₁.heap→
   s₁.heap.get? fa=some o→o.data= .func (docDef d.name d.params d.body d.scope pm cd doc)→s₁.heap.CodeRec cd d.name→mg d.name=some (.ref fa)→
   s₁.heap.get? a=some {cls:=.type "list",data:=.seq vs.toArray}→IntsAre vs ns→ns.length≤n→s₁.gens= #[]→
   codeAny (model l.prog w) callerA (.call (.ref fa) ⟨[.ref a],[]⟩) (fun r s'=>r= .ok (.ret (.bool true))∧OldK s₁.heap s'.heap∧s'.os=s₁.os∧AllBare s'.gens) s₁):
  WalkO q loose XP YP l.row.toRowW d [] (fun f vs=>PySem.call f vs):=by
 intro w s₀ s₁ mg mb G Y fa o pm cd doc dV kV ho hd hcd hD hmg hg args vals as hpre hlay hrd hwl hlo
 obtain rfl:dV= .none:=Dflts.none hD hdf
 obtain rfl:kV= .none:=Dflts.noKw hD
 obtain ⟨a,vs,ns,rfl,rfl,hobj,hints,hlen⟩:=script_of hn hpre hwl
 refine enter_call (codeAny_mono (call w s₀ s₁ mg mb fa o pm cd doc a vs ns G Y ho (fd_plain hd) hcd hmg hobj hints hlen hg) fun r s' hq=>?_)
 obtain ⟨rfl,h2,h3,h4⟩:=hq
 exact ⟨.inl ⟨.bool true,.bool true,[],rfl,fun _=>rfl,.bool true,post_true l _,fun _=>⟨List.Pairwise.nil,fun _ hm=>(nomatch hm)⟩⟩,h2,h3,h4⟩
section
variable {prog:Program}{w:World}{A:Around}{E:Value→Shared→Prop}{s:Shared}{K:Frag}
noncomputable def ledger (h:Heap) (L d:Addr):List (Addr×Obj):=(List.range h.objs.size).filterMap fun a=>if a=L∨a=d then none else (h.get? a).map fun o=>(a,o)
end
end Att
namespace L2
open PySem PySem.Spec PyProof.Rows
theorem vals_ints:∀{vs:List Value} {ns:List Int},IntsAre vs ns→Vals (ns.map V.int) vs
 | _,_,.nil=>.nil
 | _,_,.cons n t h=>.cons ⟨t,rfl⟩ (vals_ints h)
noncomputable def Only (H:Hp):Prop:=∀b,H b=none∨∃o xs,H b=some (.frz o (.lst xs))
theorem law_call {P:Program}{w:World}{K:PySem.W.Frag}{mg mb:Str→Option Value}{CX:CXT}{k:Nat}{fa a:Addr}{fd:FuncData}{x:Str}{sp:Sp}{s₁:Shared}{vs:List Value}{ns:List Int}
  (KX:K.In s₁.heap) (hns:s₁.heap.Ns mainGlobals mg) (hb:s₁.heap.Ns builtinsNs mb) (hbb:∀x:Str,x≠"__name__"→mb x=bootBuiltins x) (hlim:s₁.heap.NoLimit) (hg:s₁.gens= #[])
  (ha:s₁.heap.get? a=some {cls:=.type "list",data:=.seq vs.toArray}) (hi:IntsAre vs ns) (hl:ns.length≤sizeLine) (hr:Room k callerA)
  (F:∀base:Heap,K.In base→base.Ns mainGlobals mg→FnOk P w K mg base CX k fa fd [x] sp) (hbind:∀(s:Shared) (u:Value),BindsTo s fd ⟨[u],[]⟩ [(x,u)])
  (hsp:∀H:Hp,Only H→SqL K H a (ns.map V.int)→sp [.ref a] H (fun v _=>v= .bl true) fun _ _ _=>False)
  (hCX:∀H e s',CX [] H s₁ (fun _ _ _=>False) e s'→False):
  codeAny (model P w) callerA (.call (.ref fa) ⟨[.ref a],[]⟩) (fun r s'=>r= .ok (.ret (.bool true))∧OldK s₁.heap s'.heap∧s'.os=s₁.os∧AllBare s'.gens) s₁:=by
 have rv:=vals_ints hi
 have lenV:=hi.length
 have core:∀H:Hp,Only H→SqL K H a (ns.map V.int)→HOk P w H s₁.heap→(∀b,H b≠none→b=a)→(H a≠none→K.lookup a=none)→
   codeAny (model P w) callerA (.call (.ref fa) ⟨[.ref a],[]⟩) (fun r s'=>r= .ok (.ret (.bool true))∧OldK s₁.heap s'.heap∧s'.os=s₁.os∧AllBare s'.gens) s₁:=by
  intro H hO hS hok hA hK
  have base_of:∀{b:Addr} {o:Obj},s₁.heap.get? b=some o→H b=none→(hidT s₁.heap H).get? b=some o:=fun e n=>hidT_get e n
  have noA:∀{b:Addr} {o:Obj} {es:Array DictEntry} {ep:Nat},s₁.heap.get? b=some o→o.data= .dict es ep→H b=none:=fun {b o es ep} e d=>by
   cases q:H b with
   | none=>rfl
   | some u=>
    have e':b=a:=hA b (by rw [q];simp)
    subst e'
    rw [ha] at e;cases e
    have d':Data.seq vs.toArray _=Data.dict es ep:=d
    cases d'
  have nsK:∀{b:Addr} {m:Str→Option Value},s₁.heap.Ns b m→(hidT s₁.heap H).Ns b m:=fun {b m} ⟨o,es,ep,e,d,r⟩=>⟨o,es,ep,base_of e (noA e d),d,r⟩
  have hKb:K.In (hidT s₁.heap H):=fun b o e=>base_of (KX b o e) (by
   cases q:H b with
   | none=>rfl
   | some u=>
    have e':b=a:=hA b (by rw [q];simp)
    subst e'
    rw [hK (by rw [q];simp)] at e;cases e)
  have hM:Mod K mg (hidT s₁.heap H):=⟨hKb,nsK hns,⟨mb,nsK hb,hbb⟩,let ⟨mc,h1,h2⟩:=hlim;⟨mc,nsK h1,h2⟩⟩
  have e0:Env0 P w K mg (hidT s₁.heap H) callerA [] s₁ H:=⟨rfl,hM,fun b o e=>of_hidT e,Nat.le_of_eq (hidT_size _ _),trivial,fun b hb=>absurd (show b∈([]:List Addr) from hb) (by simp),hok,.of_eq hg⟩
  refine codeAny_mono ((F _ hKb (nsK hns)).run callerA [] s₁ H ⟨[.ref a],[]⟩ [.ref a] [.ref a] _ _ hr e0 (hbind s₁ (.ref a)) (.cons rfl .nil) (hsp H hO hS)) fun r s' h=>?_
  cases r with
  | error e=>exact (hCX H e s' h).elim
  | ok fl=>
   cases fl with
   | next=>exact False.elim h
   | brk=>exact False.elim h
   | cont=>exact False.elim h
   | ret u=>
    obtain ⟨v,H',os,bare,un,hok',r',q⟩:=h
    have q':v= .bl true:=q
    subst q'
    obtain rfl:u=Value.bool true:=r'
    refine ⟨rfl,OldK.of_keep fun b o e=>?_,os,bare⟩
    cases q:H b with
    | none=>exact un.keep b o e q (by intro z;exact absurd (show b∈([]:List Addr) from z) (by simp)) (by simp)
    | some u=>
     rcases hO b with z | ⟨ob,xs,z⟩
     ·rw [q] at z;cases z
     ·have z2:=un.frzs b ob _ z
      obtain ⟨e1,_⟩:=hok b _ z
      obtain ⟨e2,_⟩:=hok' b _ z2
      rw [e] at e1;cases e1
      exact e2
 cases hk:K.lookup a with
 | some o=>
  have e:=KX a o hk
  rw [ha] at e
  cases e
  refine core (fun _=>none) (fun _=>.inl rfl) (.inr ⟨_,vs.toArray,_,hk,rfl,rfl,rfl,by rw [List.size_toArray,lenV];exact hl,by simpa using rv⟩) (fun b u z=>by have z':(none:Option HO)=some u:=z;cases z') (fun b z=>absurd rfl z) fun z=>absurd rfl z
 | none=>
  refine core (fun b=>if b=a then some (.frz {cls:=.type "list",data:=.seq vs.toArray} (.lst (ns.map V.int))) else none) (fun b=>?_) (.inl (.inr ⟨{cls:=.type "list",data:=.seq vs.toArray},if_pos rfl⟩)) (fun b u z=>?_) (fun b z=>?_) fun _=>hk
  ·by_cases hb:b=a
   ·exact .inr ⟨_,_,if_pos hb⟩
   ·exact .inl (if_neg hb)
  ·by_cases hb:b=a
   ·have z':=(if_pos hb).symm.trans z
    cases z'
    subst hb
    exact ⟨ha,by rw [List.length_map];exact hl,vs,_,rv,ha⟩
   ·have z':=(if_neg hb).symm.trans z
    cases z'
  ·by_cases hb:b=a
   ·exact hb
   ·exact absurd (if_neg hb) z
end L2
namespace L2
open PySem PySem.Spec PyProof.Rows
noncomputable abbrev KOf {K:PySem.W.Frag} {h:Heap} (_:K.In h):PySem.W.Frag:=K
theorem walk_of {l:PySem.W.OpenLaw}{n k:Nat}{q:Program}{loose:List Str}{XP:(Str→Option Value)→Heap→Prop}{YP:World→Heap→Prop}{d:DefRec}{K:Params→PySem.W.Frag}{CX:World→CXT}{sp:World→Sp}{x:Str}
  (hn:l.most=some n) (hn2:n≤sizeLine) (hdf:d.params.defaults=[]) (hr:Room k callerA)
  (hY:∀(w:World) (h:Heap),YP w h→(K w.params).In h)
  (F:∀(w:World) (mg:Str→Option Value) (fa:Addr) (h:Heap),(K w.params).In h→h.Ns mainGlobals mg→mg d.name=some (.ref fa)→
   ∃fd:FuncData,(∀(s:Shared) (u:Value),BindsTo s fd ⟨[u],[]⟩ [(x,u)])∧
    ∀base:Heap,(K w.params).In base→base.Ns mainGlobals mg→FnOk l.prog w (K w.params) mg base (CX w) k fa fd [x] (sp w))
  (hsp:∀(w:World) (H:Hp) (a:Addr) (ns:List Int),ns.length≤n→Only H→SqL (K w.params) H a (ns.map V.int)→sp w [.ref a] H (fun v _=>v= .bl true) fun _ _ _=>False)
  (hCX:∀(w:World) (H:Hp) (s:Shared) (e:Value) (s':Shared),CX w [] H s (fun _ _ _=>False) e s'→False):
  PySem.W.WalkO q loose XP YP l.row.toRowW d [] (fun f vs=>PySem.call f vs):=by
 refine Att.attach_call hn hdf fun w s₀ s₁ mg mb fa o pm cd doc a vs ns G Y ho hd hcd hmg hobj hints hlen hg=>?_
 have KX:=hY w _ Y
 obtain ⟨fd,hb,hF⟩:=F w mg fa _ KX G.T.g hmg
 exact law_call KX G.T.g G.T.b G.T.builtins G.T.nolimit hg hobj hints (Nat.le_trans hlen hn2) hr hF hb (fun H hO hS=>hsp w H a ns hlen hO hS) fun H e s'=>hCX w H s₁ e s'
end L2
namespace L2
open PySem PySem.Spec PyProof.Rows
noncomputable def defArgs (s:Stmt):Arguments:=match s with
 | .FunctionDef _ a _ _ _ _ _ _ _ _=>a
 | _=>{posonlyargs:=[],args:=[],vararg:=none,kwonlyargs:=[],kw_defaults:=[],kwarg:=none,defaults:=[]}
noncomputable def defBody (s:Stmt):List Stmt:=match s with
 | .FunctionDef _ _ b _ _ _ _ _ _ _=>b
 | _=>[]
noncomputable def defScope (s:Stmt):Scope:=match s with
 | .FunctionDef _ _ _ _ _ _ sc _ _ _=>sc
 | _=>{kind:=.function,names:=[],isGenerator:=false,isCoroutine:=false}
noncomputable abbrev CX0:CXT:=fun _ _ _ _ _ _=>False
noncomputable abbrev E0:XK:=fun _ _ _=>False
theorem pass0 {X:Cx}:Passes CX0 X E0:=fun _ _ _ _ _ _ _ h=>h.elim
structure Fun (K:PySem.W.Frag) (x qual:Str) (st:Stmt) (f:Addr) (fd:FuncData):Prop where
 ex:∃(oc:Value) (od:Option Addr) (kV doc pm:Value) (an:Option Addr) (cdv ct:Value) (osl:Array (Option Value)),
  fd=PySem.W.fnOf x qual (defArgs st) (defBody st) (defScope st) .none kV doc pm an cdv ct∧K.lookup f=some ⟨oc,od,.func fd,osl⟩∧PySem.W.codeIn K cdv qual=true
 kp:PySem.W.keepIn K (.ref f)=true
section
variable {P:Program}{w:World}{K:PySem.W.Frag}{mg:Str→Option Value}{base:Heap}
theorem Fun.ok {x qual:Str}{st:Stmt}{f:Addr}{fd:FuncData}{N ps:List Str}{k:Nat}{sp:Sp}(F:Fun K x qual st f fd)(S:FnScope N ps (defScope st))(len:∀vs H Q E,sp vs H Q E→vs.length=ps.length)
  (hbody:∀(cdv:Value) (A:Around) (outer:List Env) (s:Shared) (H:Hp) (vs:List V) (Q:VK) (E:XK),Room k (A.deeper (envOfC qual (defScope st) s.heap.objs.size f cdv))→sp vs H Q E→
   ∃t,PSs (cxOf CX0 P w K mg base N qual (defScope st) f cdv A outer s H E).nox (defBody st) t∧t {nx:=fun _ H'=>Q .non H',rt:=Q} (start N vs) H):FnOk P w K mg base CX0 (k + 1) f fd ps sp:=by
 obtain ⟨oc,od,kV,doc,pm,an,cdv,ct,osl,rfl,lk,hcd⟩:=F.ex
 refine fn_of lk hcd S len fun A outer s H vs Q E hr hsp=>?_
 obtain ⟨t,h,q⟩:=hbody cdv A outer s H vs Q E hr hsp
 exact ⟨t,h.nox,q⟩
theorem Fun.binds {x qual:Str}{st:Stmt}{f:Addr}{fd:FuncData}{ps:List Str}(F:Fun K x qual st f fd)
  (h:∀(kV doc pm:Value) (an:Option Addr) (cdv ct:Value) (us:List Value),us.length=ps.length→bindArgs (PySem.W.fnOf x qual (defArgs st) (defBody st) (defScope st) .none kV doc pm an cdv ct) ⟨us,[]⟩=pure (ps.zip us)):Binds K fd ps []:=by
 obtain ⟨oc,od,kV,doc,pm,an,cdv,ct,osl,rfl,lk,hcd⟩:=F.ex
 exact .all (h kV doc pm an cdv ct)
theorem fun_mk {x qual:Str}{st:Stmt}{f:Addr}{oc:Value}{od an:Option Addr}{osl:Array (Option Value)}{kV doc pm cdv ct:Value}(l:K.lookup f=some ⟨oc,od,.func (PySem.W.fnOf x qual (defArgs st) (defBody st) (defScope st) .none kV doc pm an cdv ct),osl⟩)
  (c:PySem.W.codeIn K cdv qual=true) (k:PySem.W.keepIn K (.ref f)=true):Fun K x qual st f (PySem.W.fnOf x qual (defArgs st) (defBody st) (defScope st) .none kV doc pm an cdv ct):=⟨⟨oc,od,kV,doc,pm,an,cdv,ct,osl,rfl,l,c⟩,k⟩
end
theorem hu_of {A:Around}{k:Nat}(hr:Room k A):A.units + 1 < cLine:=Nat.lt_of_le_of_lt (Nat.add_le_add_left (by decide:1≤64) _) hr.units
section
variable {X:Cx}
end
noncomputable def Same (H H':Hp):Prop:=∀b o,H b=some o→H' b=some o
theorem Same.refl (H:Hp):Same H H:=fun _ _ h=>h
theorem Same.trans {H H1 H2:Hp}(a:Same H H1)(b:Same H1 H2):Same H H2:=fun c o h=>b c o (a c o h)
theorem Same.free {H H':Hp}(e:Same H H'){l:Addr}(h:H' l=Option.none):H l=Option.none:=by
 cases q:H l with
 | none=>rfl
 | some o=>
  rw [e l o q] at h
  cases h
theorem Same.seq {K:PySem.W.Frag}{H H':Hp}{a:Addr}{xs:List V}(e:Same H H')(h:SqL K H a xs):SqL K H' a xs:=by
 rcases h with (h | ⟨o,h⟩) | h
 ·exact .inl (.inl (e _ _ h))
 ·exact .inl (.inr ⟨o,e _ _ h⟩)
 ·exact .inr h
end L2
set_option Elab.async false
set_option linter.all false
set_option maxRecDepth 100000
set_option maxHeartbeats 1000000
namespace L2
open PySem PySem.Spec PyProof.Rows
section
variable {κ:Type} [DecidableEq κ]
noncomputable def valV (kvs:List (κ×V)) (k:κ):Option V:=(kvs.find? fun kv=>decide (kv.1=k)).map (·.2)
noncomputable def putK (kvs:List (κ×V)) (k:κ) (v:V):List (κ×V):=
 if (kvs.any fun kv=>decide (kv.1=k))=true then kvs.map (fun kv=>if kv.1=k then (kv.1,v) else kv) else kvs ++ [(k,v)]
noncomputable def dropK (kvs:List (κ×V)) (k:κ):List (κ×V):=kvs.filter fun kv=>decide (kv.1≠k)
theorem valV_pos {p:κ×V}{r:List (κ×V)}{k:κ}(e:p.1=k):valV (p :: r) k=some p.2:=by simp [valV,List.find?_cons,e]
theorem valV_neg {p:κ×V}{r:List (κ×V)}{k:κ}(e:¬p.1=k):valV (p :: r) k=valV r k:=by simp [valV,List.find?_cons,e]
theorem valV_any (k:κ):∀kvs:List (κ×V),(kvs.any fun kv=>decide (kv.1=k))=(valV kvs k).isSome
 | []=>rfl
 | p :: r=>by
  rw [List.any_cons]
  by_cases e:p.1=k
  ·simp only [valV_pos e,decide_eq_true e,Bool.true_or,Option.isSome_some]
  ·rw [valV_neg e,decide_eq_false e,Bool.false_or];exact valV_any k r
theorem length_putK (kvs:List (κ×V))(k:κ)(v:V):(putK kvs k v).length≤kvs.length + 1:=by
 unfold putK
 split
 ·rw [List.length_map];(first|lia|omega)
 ·rw [List.length_append,List.length_cons,List.length_nil];(first|lia|omega)
theorem RelO.isSome_eq {o:Option V}{u:Option Value}(r:RelO o u):o.isSome=u.isSome:=by
 cases o with
 | none=>cases u with
  | none=>rfl
  | some _=>exact (show False from r).elim
 | some _=>cases u with
  | none=>exact (show False from r).elim
  | some _=>rfl
theorem RelO.getD {o:Option V}{u:Option Value}{d:V}{d':Value}(r:RelO o u)(rd:RelV d d'):RelV (o.getD d) (u.getD d'):=by
 cases o with
 | none=>cases u with
  | none=>exact rd
  | some _=>exact (show False from r).elim
 | some _=>cases u with
  | none=>exact (show False from r).elim
  | some _=>exact r
theorem KV.val {kvs:List (κ×V)}{vs:List (κ×Value)}(r:KV kvs vs)(k:κ):RelO (valV kvs k) (valueAt vs k):=by
 unfold KV at r
 induction r with
 | nil=>exact True.intro
 | @cons p q ps qs h t ih=>
  obtain ⟨h1,h2⟩:=h
  by_cases e:p.1=k
  ·have e':q.1=k:=h1.symm.trans e
   have b:valueAt (q :: qs) k=some q.2:=by simp [valueAt,List.find?_cons,e']
   rw [valV_pos e,b];exact h2
  ·have e':¬q.1=k:=fun z=>e (h1.trans z)
   have b:valueAt (q :: qs) k=valueAt qs k:=by simp [valueAt,List.find?_cons,e']
   rw [valV_neg e,b];exact ih
theorem KV.any {kvs:List (κ×V)}{vs:List (κ×Value)}(r:KV kvs vs)(k:κ):(kvs.any fun kv=>decide (kv.1=k))=vs.any fun kv=>decide (kv.1=k):=by
 unfold KV at r
 induction r with
 | nil=>rfl
 | cons h t ih=>rw [List.any_cons,List.any_cons,ih,h.1]
theorem KV.repl {kvs:List (κ×V)}{vs:List (κ×Value)}(r:KV kvs vs)(k:κ){y:V}{u:Value}(ry:RelV y u):
  KV (kvs.map fun kv=>if kv.1=k then (kv.1,y) else kv) (vs.map fun kv=>if kv.1=k then (kv.1,u) else kv):=by
 unfold KV at r ⊢
 induction r with
 | nil=>exact .nil
 | @cons p q ps qs h t ih=>
  rw [List.map_cons,List.map_cons]
  refine .cons ?_ ih
  obtain ⟨h1,h2⟩:=h
  by_cases e:p.1=k
  ·rw [if_pos e,if_pos (h1.symm.trans e)];exact ⟨h1,ry⟩
  ·rw [if_neg e,if_neg (fun z=>e (h1.trans z))];exact ⟨h1,h2⟩
theorem KV.put {kvs:List (κ×V)}{vs:List (κ×Value)}(r:KV kvs vs)(k:κ){y:V}{u:Value}(ry:RelV y u):KV (putK kvs k y) (stored vs k u):=by
 unfold putK stored
 rw [r.any k]
 by_cases e:(vs.any fun kv=>decide (kv.1=k))=true
 ·rw [if_pos e,if_pos e];exact r.repl k ry
 ·rw [if_neg e,if_neg e];exact Paired.snoc r ⟨rfl,ry⟩
theorem KV.drop {kvs:List (κ×V)}{vs:List (κ×Value)}(r:KV kvs vs)(k:κ):KV (dropK kvs k) (without vs k):=by
 unfold KV at r ⊢
 unfold dropK without
 induction r with
 | nil=>exact .nil
 | @cons p q ps qs h t ih=>
  obtain ⟨h1,h2⟩:=h
  rw [List.filter_cons,List.filter_cons]
  by_cases e:p.1=k
  ·have a:¬decide (p.1≠k)=true:=by simp [e]
   have b:¬decide (q.1≠k)=true:=by simp [h1.symm.trans e]
   rw [if_neg a,if_neg b];exact ih
  ·have e':¬q.1=k:=fun z=>e (h1.trans z)
   have a:decide (p.1≠k)=true:=by simp [e]
   have b:decide (q.1≠k)=true:=by simp [e']
   rw [if_pos a,if_pos b];exact .cons ⟨h1,h2⟩ ih
theorem KV.keys {kvs:List (κ×V)}{vs:List (κ×Value)}(r:KV kvs vs):kvs.map (·.1)=vs.map (·.1):=by
 unfold KV at r
 induction r with
 | nil=>rfl
 | cons h t ih=>rw [List.map_cons,List.map_cons,ih,h.1]
theorem KV.length {kvs:List (κ×V)}{vs:List (κ×Value)}(r:KV kvs vs):kvs.length=vs.length:=Paired.length r
end
theorem kV_is {P:Program}{w:World}{k:Key}{u:Value}(r:RelV (kV k) u):(mixKind P w).is k u=true:=by
 cases k with
 | inl i=>obtain ⟨t,e⟩:=(show ∃t,u=Value.int i t from r);subst e;exact mixKind_int P w i t
 | inr x=>obtain ⟨t,e⟩:=(show ∃t,u=Value.str x t from r);subst e;exact mixKind_str P w x t
theorem items_are {P:Program}{w:World}:∀{ks:List Key} {us:List Value},Vals (ks.map kV) us→ItemsAre (mixKind P w) ks us
 | [],_,r=>by rw [List.map_nil] at r;cases r;exact .nil
 | k :: ks,_,r=>by
  rw [List.map_cons] at r
  cases r with
  | cons h t=>exact .cons (kV_is h) (items_are t)
noncomputable abbrev KT (H:Hp):List (List Key×V)→List (List Key×Addr×Value)→Prop:=Paired fun p q=>p.1=q.1∧H q.2.1=some (.tup (p.1.map kV))∧RelV p.2 q.2.2
theorem KT.val {H:Hp}{kvs:List (List Key×V)}{xs:List (List Key×Addr×Value)}(r:KT H kvs xs)(k:List Key):RelO (valV kvs k) ((atKey xs k).map (·.2)):=by
 induction r with
 | nil=>exact True.intro
 | @cons p q ps qs h t ih=>
  obtain ⟨h1,_,h2⟩:=h
  by_cases e:p.1=k
  ·have e':q.1=k:=h1.symm.trans e
   have b:atKey (q :: qs) k=some q.2:=by simp [atKey,List.find?_cons,e']
   rw [valV_pos e,b];exact h2
  ·have e':¬q.1=k:=fun z=>e (h1.trans z)
   have b:atKey (q :: qs) k=atKey qs k:=by simp [atKey,List.find?_cons,e']
   rw [valV_neg e,b];exact ih
theorem KT.repl {H:Hp}{kvs:List (List Key×V)}{xs:List (List Key×Addr×Value)}(r:KT H kvs xs)(k:List Key){y:V}{u:Value}(ry:RelV y u):
  KT H (kvs.map fun kv=>if kv.1=k then (kv.1,y) else kv) (xs.map (putAt k u)):=by
 induction r with
 | nil=>exact .nil
 | @cons p q ps qs h t ih=>
  rw [List.map_cons,List.map_cons]
  refine .cons ?_ ih
  obtain ⟨h1,h2,h3⟩:=h
  unfold putAt
  by_cases e:p.1=k
  ·rw [if_pos e,if_pos (h1.symm.trans e)];exact ⟨h1,h2,ry⟩
  ·rw [if_neg e,if_neg (fun z=>e (h1.trans z))];exact ⟨h1,h2,h3⟩
theorem KT.put {H:Hp}{kvs:List (List Key×V)}{xs:List (List Key×Addr×Value)}(r:KT H kvs xs)(k:List Key){b:Addr}{y:V}{u:Value}(hb:H b=some (.tup (k.map kV)))(ry:RelV y u):
  KT H (putK kvs k y) (storedH xs k b u):=by
 have e:(kvs.any fun kv=>decide (kv.1=k))=(atKey xs k).isSome:=by
  rw [valV_any,(r.val k).isSome_eq,Option.isSome_map]
 unfold putK storedH
 rw [e]
 by_cases q:(atKey xs k).isSome=true
 ·rw [if_pos q,if_pos q];exact r.repl k ry
 ·rw [if_neg q,if_neg q];exact Paired.snoc r ⟨rfl,hb,ry⟩
theorem KT.keeps {H H':Hp}{kvs:List (List Key×V)}{xs:List (List Key×Addr×Value)}(r:KT H kvs xs)(ht:∀b ys,H b=some (.tup ys)→H' b=some (.tup ys)):KT H' kvs xs:=
 Paired.mapP r fun _ _ z=>⟨z.1,ht _ _ z.2.1,z.2.2⟩
section
variable {P:Program}{w:World}{H:Hp}{h:Heap}{a:Addr}
theorem rd_of {u:HO}(ok:HOk P w H h)(e:Rd H a u):ObjOk P w H h a u:=e.ok ok
theorem dk_rd {kvs:List (Key×V)}(ok:HOk P w H h)(e:Rd H a (.dK kvs)):kvs.length≤sizeLine∧(a == sysModules)=false∧∃vs,KV kvs vs∧h.DictOf (mixKind P w) a vs:=
 show ObjOk P w H h a (.dK kvs) from rd_of ok e
theorem dk_of {kvs:List (Key×V)}(ok:HOk P w H h)(e:H a=some (.dK kvs)):kvs.length≤sizeLine∧(a == sysModules)=false∧∃vs,KV kvs vs∧h.DictOf (mixKind P w) a vs:=dk_rd ok (.inl e)
theorem key_of {ks:List Key}(ok:HOk P w H h)(e:H a=some (.tup (ks.map kV))):(tupleKind (mixKind P w)).is h ks a:=by
 obtain ⟨_,its,r,o,h1,h2,n,h3⟩:=(show ObjOk P w H h a (.tup (ks.map kV)) from ok a _ e)
 exact ⟨o,its.toArray,n,h1,h2,h3,by simpa using items_are r⟩
theorem dt_rd {kvs:List (List Key×V)}(ok:HOk P w H h)(e:Rd H a (.dT kvs)):kvs.length≤sizeLine∧(a == sysModules)=false∧
  ∃xs,KT H kvs xs∧h.DictOfH (tupleKind (mixKind P w)) a xs:=by
 obtain ⟨z,y,xs,r,o,es,ep,h1,h2,h3,h4,h5⟩:=(show ObjOk P w H h a (.dT kvs) from rd_of ok e)
 refine ⟨z,y,xs,r,o,es,ep,h1,h2,h3,h4,fun x hx=>?_,h5⟩
 have all:∀{l:List (List Key×V)} {m:List (List Key×Addr×Value)},KT H l m→∀x∈m,(tupleKind (mixKind P w)).is h x.1 x.2.1:=by
  intro l m q
  induction q with
  | nil=>intro x hx;exact nomatch hx
  | @cons p q ps qs hq t ih=>
   intro x hx
   rcases List.mem_cons.mp hx with e | hx
   ·subst e
    exact key_of ok (by rw [←hq.1];exact hq.2.1)
   ·exact ih x hx
 exact all r x hx
theorem dt_of {kvs:List (List Key×V)}(ok:HOk P w H h)(e:H a=some (.dT kvs)):kvs.length≤sizeLine∧(a == sysModules)=false∧
  ∃xs,KT H kvs xs∧h.DictOfH (tupleKind (mixKind P w)) a xs:=dt_rd ok (.inl e)
end
noncomputable def DGet (H:Hp) (a:Addr) (y:V) (r:Option V):Prop:=
 (∃kvs k,Rd H a (.dK kvs)∧y=kV k∧r=valV kvs k)∨∃kvs k b,Rd H a (.dT kvs)∧y= .ref b∧H b=some (.tup (k.map kV))∧r=valV kvs k
noncomputable def DPut (H:Hp) (a:Addr) (y v:V) (H':Hp):Prop:=
 (∃kvs k,H a=some (.dK kvs)∧y=kV k∧kvs.length < sizeLine∧H'=upd H a (.dK (putK kvs k v)))∨
 ∃kvs k b,H a=some (.dT kvs)∧y= .ref b∧H b=some (.tup (k.map kV))∧kvs.length < sizeLine∧H'=upd H a (.dT (putK kvs k v))
theorem DGet.k {H:Hp}{a:Addr}{kvs:List (Key×V)}{k:Key}(e:H a=some (.dK kvs)):DGet H a (kV k) (valV kvs k):=.inl ⟨kvs,k,.inl e,rfl,rfl⟩
theorem DGet.t {H:Hp}{a b:Addr}{kvs:List (List Key×V)}{k:List Key}(e:H a=some (.dT kvs))(eb:H b=some (.tup (k.map kV))):DGet H a (.ref b) (valV kvs k):=.inr ⟨kvs,k,b,.inl e,rfl,eb,rfl⟩
theorem DPut.k {H:Hp}{a:Addr}{kvs:List (Key×V)}{k:Key}{v:V}(e:H a=some (.dK kvs))(hl:kvs.length < sizeLine):DPut H a (kV k) v (upd H a (.dK (putK kvs k v))):=.inl ⟨kvs,k,e,rfl,hl,rfl⟩
theorem DPut.t {H:Hp}{a b:Addr}{kvs:List (List Key×V)}{k:List Key}{v:V}(e:H a=some (.dT kvs))(eb:H b=some (.tup (k.map kV)))(hl:kvs.length < sizeLine):
  DPut H a (.ref b) v (upd H a (.dT (putK kvs k v))):=.inr ⟨kvs,k,b,e,rfl,eb,hl,rfl⟩
section
variable {X:Cx}{pins:List (Addr×Obj)}{σ:St}{H:Hp}{s:Shared}{a:Addr}{y v:V}{u r:Value}{o:Option V}{A:Around}{E:Value→Shared→Prop}
theorem Inv.big (I:Inv X pins σ H s):sysModules < s.heap.objs.size:=by
 have h:mainGlobals < s.heap.objs.size:=(I.mod.glob.keeps I.bk).lt
 exact Nat.lt_trans (by decide) h
theorem d_write {h':Heap}{t':Nat}{ob:HO}(I:Inv X pins σ H s)(mu:Mut (H a))(hs:Heap.SameBut a s.heap h')(he:∃q,h'.get? a=some q)(new:ObjOk X.prog X.w (upd H a ob) h' a ob):
  Inv X pins σ (upd H a ob) {s with heap:=h',toks:=t'}:=
 I.write (x:=a) (e:=a) mu (.inl rfl) (fun b q hb z=>(hs.2 b hb).trans z) he new
theorem dk_new {P:Program}{w:World}{H':Hp}{h':Heap}{kvs:List (Key×V)}{vs:List (Key×Value)}(z:kvs.length≤sizeLine)(hd:(a == sysModules)=false)(rel:KV kvs vs)(dd:h'.DictOf (mixKind P w) a vs):
  ObjOk P w H' h' a (.dK kvs):=⟨z,hd,vs,rel,dd⟩
theorem d_setItem {H':Hp}{Q:Unit→Shared→Prop}(hu:A.units + 1 < cLine)(I:Inv X pins σ H s)(g:DPut H a y v H')(ry:RelV y u)(rv:RelV v r)(h:∀s',Inv X pins σ H' s'→Q () s'):
  wpAny (model X.prog X.w) A (setItem (.ref a) u r) Q E s:=by
 rcases g with ⟨kvs,k,e,ey,l,eH⟩ | ⟨kvs,k,b,e,ey,eb,l,eH⟩
 ·subst ey eH
  obtain ⟨z,hd,vs,rel,dd⟩:=dk_of I.hok e
  have hz:vs.length≤sizeLine:=by rw [←rel.length];exact z
  have hl:(putK kvs k v).length≤sizeLine:=by have:=length_putK kvs k v;(first|lia|omega)
  refine wpAny_setItem_pairs (hsz:=hz) (kV_is ry) dd fun h' dd' hs=>h _ ?_
  have he:∃q,h'.get? a=some q:=let ⟨q,_,_,hq,_⟩:=dd';⟨q,hq⟩
  exact d_write I (by rw [e];exact True.intro) hs he (dk_new hl hd (rel.put k rv) dd')
 ·subst ey eH
  cases (show u=Value.ref b from ry)
  obtain ⟨z,hd,xs,rel,dd⟩:=dt_of I.hok e
  have hz:xs.length≤sizeLine:=by rw [←Paired.length rel];exact z
  have hl:(putK kvs k v).length≤sizeLine:=by have:=length_putK kvs k v;(first|lia|omega)
  refine wpAny_setItem_heap (hsz:=hz) (tupleKind_room_in1 hu) (key_of I.hok eb) dd fun h' dd' hs=>h _ ?_
  obtain ⟨q,es,ep,hq,h2,h3,h4,_,h5⟩:=dd'
  refine d_write I (by rw [e];exact True.intro) hs ⟨q,hq⟩ ⟨hl,hd,_,(rel.put k eb rv).keeps fun c ys ec=>?_,q,es,ep,hq,h2,h3,h4,h5⟩
  rw [upd_ne (ne_of ec e (fun z=>nomatch z))]
  exact ec
end
section
variable {X:Cx}{pins:List (Addr×Obj)}{σ:St}{H:Hp}{s:Shared}{a:Addr}{kvs:List (Key×V)}{k:Key}{u:Value}{A:Around}{E:Value→Shared→Prop}
end
noncomputable def sDPut (td ty tv:TE):TS:=fun D σ H=>tv σ H fun v H1=>td σ H1 fun x H2=>ty σ H2 fun y H3=>∃a H4,x= .ref a∧DPut H3 a y v H4∧D.nx σ H4
section
variable {X:Cx}{o i e value:Expr}{pos pos' tpos:Pos}{td ty tv:TE}
theorem ps_dput (hu:X.A.units + 1 < cLine)(ho:PE X o td)(hi:PE X i ty)(hv:PE X value tv)(hs:swapsWith value (some (.Subscript o i pos')) pos.line X.env=pure false):
  PS X (.Assign [.Subscript o i pos'] value pos) (sDPut td ty tv):=by
 intro pins s σ H D I h
 refine wpAny_Assign_Subscript (thn (hv pins s σ H _ I h) fun r s1 ⟨v,H1,I1,rv,q1⟩=>thn (ho pins s1 σ H1 _ I1 q1) fun u s2 ⟨x,H2,I2,rx,q2⟩=>thn (hi pins s2 σ H2 _ I2 q2) fun iv s3 ⟨y,H3,I3,ry,a,H4,ex,g,q3⟩=>?_) hs
 subst ex
 obtain rfl:u=Value.ref a:=rx
 exact d_setItem hu I3 g ry rv fun s4 I4=>⟨σ,H4,I4,q3⟩
end
theorem dt_empty {P:Program}{w:World}{H:Hp}(h:Heap)(hb:sysModules < h.objs.size):ObjOk P w H (h.push {cls:=.type "dict",data:=.dict #[]}) h.objs.size (.dT []):=
 ⟨Nat.zero_le _,beq_eq_false_iff_ne.mpr (Ne.symm (Nat.ne_of_lt hb)),[],.nil,_, #[],0,Heap.get?_push_size _ rfl,⟨rfl,rfl,rfl⟩,rfl,rfl,List.nodup_nil⟩
noncomputable def tDNewT:TE:=fun _ H Q=>∀p,H p=none→Q (.ref p) (upd H p (.dT []))
section
variable {X:Cx}{pos:Pos}
theorem pe_dnewT:PE X (.Dict [] [] pos) tDNewT:=fun pins s σ H Q I h=>
 wpAny_Dict_empty ⟨.ref s.heap.objs.size,_,I.laid (a:=s.heap.objs.size) (o:=.dT []) (t':=s.toks) (fun _ _ q=>Heap.get?_push_of_some _ q) (Nat.le_refl _) (dt_empty s.heap I.big),rfl,h _ (I.hok.fresh (Nat.le_refl _))⟩
end
end L2
set_option Elab.async false
set_option linter.all false
set_option maxRecDepth 100000
set_option maxHeartbeats 1000000
namespace Tw
open PySem PySem.Spec PyProof.Rows L2
set_option genInjectivity true in
inductive D where
 | non | bl (b:Bool) | int (i:Int) | str (x:Str) | tup (xs:List D) | lst (xs:List D) | own (xs:List D) | scr (xs:List D) | dic | exn (C:Addr) | dct (ks:List (List Int)) (xs:List D) | odt (ks:List (List Int)) (xs:List D)
noncomputable def ExcAt (a C:Addr) (h:Heap):Prop:=∃o vs,h.get? a=some o∧o.cls= .ref C∧o.data= .fields vs
noncomputable abbrev Emp:Addr→Prop:=fun _=>False
noncomputable def Mu:HO→Prop
 | .lst _=>True
 | .dT _=>True
 | _=>False
noncomputable def zipK (ks:List (List Int)) (vs:List V):List (List Key×V):=List.zipWith (fun k v=>(k.map Sum.inl,v)) ks vs
mutual
noncomputable def Den (K:PySem.W.Frag) (O:Addr→Prop) (H:Hp):D→V→Prop
 | .non,v=>v= .non
 | .bl b,v=>v= .bl b
 | .int i,v=>v= .int i
 | .str x,v=>v= .str x
 | .tup xs,v=>∃a vs,v= .ref a∧SqT K H a vs∧DenL K O H xs vs
 | .lst xs,v=>∃a vs,v= .ref a∧H a=some (.lst vs)∧¬O a∧DenL K O H xs vs
 | .own xs,v=>∃a vs,v= .ref a∧H a=some (.lst vs)∧¬O a∧DenL K O H xs vs
 | .scr xs,v=>∃a vs,v= .ref a∧((∃o,H a=some (.frz o (.lst vs)))∨SqL K (fun _=>none) a vs)∧DenL K O H xs vs
 | .dic,v=>∃a kvs,v= .ref a∧H a=some (.dK kvs)
 | .exn C,v=>∃a,v= .ref a∧H a=some (.ext (ExcAt a C))
 | .dct ks xs,v=>∃a vs,v= .ref a∧H a=some (.dT (zipK ks vs))∧¬O a∧ks.length=xs.length∧DenL K O H xs vs
 | .odt ks xs,v=>∃a vs,v= .ref a∧H a=some (.dT (zipK ks vs))∧¬O a∧ks.length=xs.length∧DenL K O H xs vs
noncomputable def DenL (K:PySem.W.Frag) (O:Addr→Prop) (H:Hp):List D→List V→Prop
 | [],vs=>vs=[]
 | d :: ds,vs=>∃v r,vs=v :: r∧Den K O H d v∧DenL K O H ds r
end
section
variable {K:PySem.W.Frag}{O O':Addr→Prop}{H H':Hp}
mutual
theorem den_mono (h1:∀b o,H b=some o→¬O b→H' b=some o)(hO:∀b,O b→∃u,H b=some u∧Mu u)(h2:∀b,O' b→O b∨H b=none):
  ∀(d:D) (v:V),Den K O H d v→Den K O' H' d v
 | .non,v,h=>by rw [Den] at h ⊢;exact h
 | .bl b,v,h=>by rw [Den] at h ⊢;exact h
 | .int i,v,h=>by rw [Den] at h ⊢;exact h
 | .str x,v,h=>by rw [Den] at h ⊢;exact h
 | .tup xs,v,h=>by
  rw [Den] at h ⊢
  obtain ⟨a,vs,e,q,l⟩:=h
  refine ⟨a,vs,e,?_,denL_mono h1 hO h2 xs vs l⟩
  rcases q with (q | ⟨o,q⟩) | q
  ·exact .inl (.inl (h1 _ _ q fun z=>by obtain ⟨ws,e,m⟩:=hO a z;rw [q] at e;cases e;exact m))
  ·exact .inl (.inr ⟨o,h1 _ _ q fun z=>by obtain ⟨ws,e,m⟩:=hO a z;rw [q] at e;cases e;exact m⟩)
  ·exact .inr q
 | .lst xs,v,h=>by
  rw [Den] at h ⊢
  obtain ⟨a,vs,e,q,n,l⟩:=h
  refine ⟨a,vs,e,h1 _ _ q n,fun z=>?_,denL_mono h1 hO h2 xs vs l⟩
  rcases h2 a z with z | z
  ·exact n z
  ·rw [q] at z;cases z
 | .own xs,v,h=>by
  rw [Den] at h ⊢
  obtain ⟨a,vs,e,q,n,l⟩:=h
  refine ⟨a,vs,e,h1 _ _ q n,fun z=>?_,denL_mono h1 hO h2 xs vs l⟩
  rcases h2 a z with z | z
  ·exact n z
  ·rw [q] at z;cases z
 | .scr xs,v,h=>by
  rw [Den] at h ⊢
  obtain ⟨a,vs,e,q,l⟩:=h
  refine ⟨a,vs,e,?_,denL_mono h1 hO h2 xs vs l⟩
  rcases q with ⟨o,q⟩ | q
  ·exact .inl ⟨o,h1 _ _ q fun z=>by obtain ⟨ws,e,m⟩:=hO a z;rw [q] at e;cases e;exact m⟩
  ·exact .inr q
 | .dic,v,h=>by
  rw [Den] at h ⊢
  obtain ⟨a,kvs,e,q⟩:=h
  exact ⟨a,kvs,e,h1 _ _ q fun z=>by obtain ⟨ws,e,m⟩:=hO a z;rw [q] at e;cases e;exact m⟩
 | .exn C,v,h=>by
  rw [Den] at h ⊢
  obtain ⟨a,e,q⟩:=h
  exact ⟨a,e,h1 _ _ q fun z=>by obtain ⟨ws,e,m⟩:=hO a z;rw [q] at e;cases e;exact m⟩
 | .dct ks xs,v,h=>by
  rw [Den] at h ⊢
  obtain ⟨a,vs,e,q,n,hl,l⟩:=h
  refine ⟨a,vs,e,h1 _ _ q n,fun z=>?_,hl,denL_mono h1 hO h2 xs vs l⟩
  rcases h2 a z with z | z
  ·exact n z
  ·rw [q] at z;cases z
 | .odt ks xs,v,h=>by
  rw [Den] at h ⊢
  obtain ⟨a,vs,e,q,n,hl,l⟩:=h
  refine ⟨a,vs,e,h1 _ _ q n,fun z=>?_,hl,denL_mono h1 hO h2 xs vs l⟩
  rcases h2 a z with z | z
  ·exact n z
  ·rw [q] at z;cases z
theorem denL_mono (h1:∀b o,H b=some o→¬O b→H' b=some o)(hO:∀b,O b→∃u,H b=some u∧Mu u)(h2:∀b,O' b→O b∨H b=none):
  ∀(ds:List D) (vs:List V),DenL K O H ds vs→DenL K O' H' ds vs
 | [],vs,h=>by rw [DenL] at h ⊢;exact h
 | d :: ds,vs,h=>by
  rw [DenL] at h ⊢
  obtain ⟨v,r,e,q,l⟩:=h
  exact ⟨v,r,e,den_mono h1 hO h2 d v q,denL_mono h1 hO h2 ds r l⟩
end
theorem den_same (s:Same H H'){d:D}{v:V}(h:Den K Emp H d v):Den K Emp H' d v:=den_mono (fun b o e _=>s b o e) (fun _ z=>z.elim) (fun _ z=>z.elim) d v h
theorem denL_same (s:Same H H'){d:List D}{v:List V}(h:DenL K Emp H d v):DenL K Emp H' d v:=denL_mono (fun b o e _=>s b o e) (fun _ z=>z.elim) (fun _ z=>z.elim) d v h
theorem denL_cons {d:D}{ds:List D}{v:V}{vs:List V}(h:Den K O H d v)(t:DenL K O H ds vs):DenL K O H (d :: ds) (v :: vs):=by rw [DenL];exact ⟨v,vs,rfl,h,t⟩
theorem denL_nil:DenL K O H [] []:=by rw [DenL]
theorem denL_append:∀{ds es:List D} {vs ws:List V},DenL K O H ds vs→DenL K O H es ws→DenL K O H (ds ++ es) (vs ++ ws)
 | [],_,_,_,h,t=>by rw [DenL] at h;subst h;exact t
 | d :: ds,_,_,_,h,t=>by
  rw [DenL] at h
  obtain ⟨v,r,rfl,q,l⟩:=h
  exact denL_cons q (denL_append l t)
theorem denL_length:∀{ds:List D} {vs:List V},DenL K O H ds vs→ds.length=vs.length
 | [],_,h=>by rw [DenL] at h;subst h;rfl
 | d :: ds,_,h=>by
  rw [DenL] at h
  obtain ⟨v,r,rfl,q,l⟩:=h
  rw [List.length_cons,List.length_cons,denL_length l]
theorem denL_get:∀{ds:List D} {vs:List V} {i:Nat} {d:D},DenL K O H ds vs→ds[i]? =some d→∃v,vs[i]? =some v∧Den K O H d v
 | [],_,_,_,_,e=>by simp at e
 | d :: ds,_,0,_,h,e=>by
  rw [DenL] at h
  obtain ⟨v,r,rfl,q,l⟩:=h
  simp at e;subst e
  exact ⟨v,rfl,q⟩
 | d :: ds,_,i + 1,x,h,e=>by
  rw [DenL] at h
  obtain ⟨v,r,rfl,q,l⟩:=h
  obtain ⟨u,h1,h2⟩:=denL_get (i:=i) (d:=x) l (by simpa using e)
  exact ⟨u,by simpa using h1,h2⟩
theorem denL_take:∀{ds:List D} {vs:List V} (n:Nat),DenL K O H ds vs→DenL K O H (ds.take n) (vs.take n)
 | [],_,n,h=>by rw [DenL] at h;subst h;simp;exact denL_nil
 | d :: ds,_,0,h=>by simp;exact denL_nil
 | d :: ds,_,n + 1,h=>by
  rw [DenL] at h
  obtain ⟨v,r,rfl,q,l⟩:=h
  exact denL_cons q (denL_take n l)
theorem denL_drop:∀{ds:List D} {vs:List V} (n:Nat),DenL K O H ds vs→DenL K O H (ds.drop n) (vs.drop n)
 | [],_,n,h=>by rw [DenL] at h;subst h;simp;exact denL_nil
 | d :: ds,_,0,h=>h
 | d :: ds,_,n + 1,h=>by
  rw [DenL] at h
  obtain ⟨v,r,rfl,q,l⟩:=h
  exact denL_drop n l
end
mutual
noncomputable def lf:D→Bool
 | .tup xs=>lfL xs
 | .scr xs=>lfL xs
 | .lst _=>false
 | .own _=>false
 | .dct _ _=>false
 | .odt _ _=>false
 | _=>true
noncomputable def lfL:List D→Bool
 | []=>true
 | d :: ds=>lf d && lfL ds
end
section
variable {K:PySem.W.Frag}{O O':Addr→Prop}{H:Hp}
mutual
theorem den_lf:∀(d:D) (v:V),lf d=true→Den K O H d v→Den K O' H d v
 | .non,v,_,h=>by rw [Den] at h ⊢;exact h
 | .bl b,v,_,h=>by rw [Den] at h ⊢;exact h
 | .int i,v,_,h=>by rw [Den] at h ⊢;exact h
 | .str x,v,_,h=>by rw [Den] at h ⊢;exact h
 | .tup xs,v,f,h=>by
  rw [Den] at h ⊢
  obtain ⟨a,vs,e,q,l⟩:=h
  exact ⟨a,vs,e,q,denL_lf xs vs (by rw [lf] at f;exact f) l⟩
 | .scr xs,v,f,h=>by
  rw [Den] at h ⊢
  obtain ⟨a,vs,e,q,l⟩:=h
  exact ⟨a,vs,e,q,denL_lf xs vs (by rw [lf] at f;exact f) l⟩
 | .lst xs,v,f,h=>by rw [lf] at f;cases f
 | .own xs,v,f,h=>by rw [lf] at f;cases f
 | .dct _ xs,v,f,h=>by rw [lf] at f;cases f
 | .odt _ xs,v,f,h=>by rw [lf] at f;cases f
 | .dic,v,_,h=>by rw [Den] at h ⊢;exact h
 | .exn _,v,_,h=>by rw [Den] at h ⊢;exact h
theorem denL_lf:∀(d:List D) (v:List V),lfL d=true→DenL K O H d v→DenL K O' H d v
 | [],v,_,h=>by rw [DenL] at h ⊢;exact h
 | d :: ds,v,f,h=>by
  rw [lfL,Bool.and_eq_true] at f
  rw [DenL] at h ⊢
  obtain ⟨u,r,e,q,l⟩:=h
  exact ⟨u,r,e,den_lf d u f.1 q,denL_lf ds r f.2 l⟩
end
end
noncomputable def frz:D→D
 | .own xs=>.lst xs
 | .odt ks xs=>.dct ks xs
 | d=>d
theorem den_frz {K:PySem.W.Frag}{O:Addr→Prop}{H:Hp}{d:D}{v:V}:Den K O H (frz d) v↔Den K O H d v:=by
 cases d <;> simp only [frz]
 ·rw [Den,Den]
 ·rw [Den,Den]
noncomputable def DenF (K:PySem.W.Frag) (H H':Hp):D→V→Prop
 | .own xs,v=>∃a vs,v= .ref a∧H a=none∧H' a=some (.lst vs)∧DenL K (fun b=>b=a) H' xs vs
 | .odt ks xs,v=>∃a vs,v= .ref a∧H a=none∧H' a=some (.dT (zipK ks vs))∧ks.length=xs.length∧DenL K Emp H' xs vs
 | d,v=>Den K Emp H' d v
theorem DenF.den {K:PySem.W.Frag}{H H':Hp}:∀{d:D} {v:V},DenF K H H' d v→Den K Emp H' d v
 | .own xs,v,h=>by
  obtain ⟨a,vs,e,_,q,l⟩:=h
  rw [Den];exact ⟨a,vs,e,q,fun z=>z,denL_mono (fun _ _ z _=>z) (fun b z=>⟨.lst vs,by rw [z];exact q,trivial⟩) (fun _ z=>z.elim) _ _ l⟩
 | .odt ks xs,v,h=>by
  obtain ⟨a,vs,e,_,q,hl,l⟩:=h
  rw [Den];exact ⟨a,vs,e,q,fun z=>z,hl,l⟩
 | .dct _ _,v,h=>h
 | .non,v,h=>h
 | .bl _,v,h=>h
 | .int _,v,h=>h
 | .str _,v,h=>h
 | .tup _,v,h=>h
 | .lst _,v,h=>h
 | .scr _,v,h=>h
 | .dic,v,h=>h
 | .exn _,v,h=>h
theorem DenF.of {K:PySem.W.Frag}{H H':Hp}:∀{d:D} {v:V},Den K Emp H' (frz d) v→DenF K H H' (frz d) v
 | .own xs,v,h=>h
 | .odt _ xs,v,h=>h
 | .dct _ xs,v,h=>h
 | .non,v,h=>h
 | .bl _,v,h=>h
 | .int _,v,h=>h
 | .str _,v,h=>h
 | .tup _,v,h=>h
 | .lst _,v,h=>h
 | .scr _,v,h=>h
 | .dic,v,h=>h
 | .exn _,v,h=>h
theorem DenF.elder {K:PySem.W.Frag}{H0 H H':Hp}(s:Same H0 H):∀{d:D} {v:V},DenF K H H' d v→DenF K H0 H' d v
 | .own xs,v,h=>by
  obtain ⟨a,vs,e,n,q,l⟩:=h
  exact ⟨a,vs,e,s.free n,q,l⟩
 | .odt ks xs,v,h=>by
  obtain ⟨a,vs,e,n,q,l⟩:=h
  exact ⟨a,vs,e,s.free n,q,l⟩
 | .dct _ _,v,h=>h
 | .non,v,h=>h
 | .bl _,v,h=>h
 | .int _,v,h=>h
 | .str _,v,h=>h
 | .tup _,v,h=>h
 | .lst _,v,h=>h
 | .scr _,v,h=>h
 | .dic,v,h=>h
 | .exn _,v,h=>h
noncomputable abbrev Ev:=List (Option D)
noncomputable def RepV (K:PySem.W.Frag) (ρ:Ev) (σ:L2.St) (H:Hp):Prop:=∀(i:Nat) (d:D),ρ[i]? =some (some d)→∃v,σ[i]? =some (some v)∧Den K Emp H d v
theorem RepV.same {K:PySem.W.Frag}{ρ:Ev}{σ:L2.St}{H H':Hp}(r:RepV K ρ σ H)(s:Same H H'):RepV K ρ σ H':=fun i d e=>let ⟨v,h1,h2⟩:=r i d e;⟨v,h1,den_same s h2⟩
noncomputable abbrev FE:=Ev→Option D
noncomputable abbrev FT:=Ev→Option Bool
noncomputable abbrev FA:=Ev→Option (List D)
noncomputable def tX (X:Cx) (f:FE):TE:=fun σ H Q=>∃ρ d,RepV X.K ρ σ H∧f ρ=some d∧∀v H',Same H H'→DenF X.K H H' d v→Q v H'
noncomputable def tT (X:Cx) (f:FT):TT:=fun σ H Q=>∃ρ b,RepV X.K ρ σ H∧f ρ=some b∧∀H',Same H H'→Q b H'
noncomputable def tA (X:Cx) (f:FA):TA:=fun σ H Q=>∃ρ ds,RepV X.K ρ σ H∧f ρ=some ds∧∀vs H',Same H H'→DenL X.K Emp H' ds vs→Q vs H'
noncomputable def PX (X:Cx) (e:Expr) (f:FE):Prop:=PE X e (tX X f)
noncomputable def PXT (X:Cx) (e:Expr) (f:FT):Prop:=PT X e (tT X f)
noncomputable def PXW (X:Cx) (e:Expr) (f:FT):Prop:=PW X e (tT X f)
noncomputable def PXA (X:Cx) (es:List Expr) (f:FA):Prop:=PA X es (tA X f)
theorem PE.weak {X:Cx}{e:Expr}{t u:TE}(h:PE X e t)(w:∀σ H Q,u σ H Q→t σ H Q):PE X e u:=fun pins s σ H Q I q=>h pins s σ H Q I (w σ H Q q)
theorem PT.weak {X:Cx}{e:Expr}{t u:TT}(h:PT X e t)(w:∀σ H Q,u σ H Q→t σ H Q):PT X e u:=fun pins s σ H Q I q=>h pins s σ H Q I (w σ H Q q)
theorem PW.weak {X:Cx}{e:Expr}{t u:TT}(h:PW X e t)(w:∀σ H Q,u σ H Q→t σ H Q):PW X e u:=fun wh pins s σ H Q I q=>h wh pins s σ H Q I (w σ H Q q)
theorem PA.weak {X:Cx}{e:List Expr}{t u:TA}(h:PA X e t)(w:∀σ H Q,u σ H Q→t σ H Q):PA X e u:=fun pos pins s σ H Q I q=>h pos pins s σ H Q I (w σ H Q q)
inductive R where
 | nx (ρ:Ev) | bk (ρ:Ev) | ct (ρ:Ev) | rt (d:D)
noncomputable abbrev FS:=Ev→Option R
noncomputable def Own (own:Nat→Option Addr):Addr→Prop:=fun a=>∃i,own i=some a
noncomputable def SlotOk (K:PySem.W.Frag) (own:Nat→Option Addr) (H:Hp) (i:Nat):D→V→Prop
 | .own xs,v=>∃a vs,own i=some a∧v= .ref a∧H a=some (.lst vs)∧DenL K (Own own) H xs vs
 | .odt ks xs,v=>∃a vs,own i=some a∧v= .ref a∧H a=some (.dT (zipK ks vs))∧ks.length=xs.length∧lfL xs=true∧DenL K (Own own) H xs vs
 | d,v=>Den K (Own own) H d v
structure Rep (X:Cx) (P:List (D×V)) (ρ:Ev) (own:Nat→Option Addr) (σ:L2.St) (H:Hp):Prop where
 same:Same X.H₀ H
 len:ρ.length=σ.length
 slot:∀(i:Nat) (d:D),ρ[i]? =some (some d)→∃v,σ[i]? =some (some v)∧SlotOk X.K own H i d v
 inj:∀i j a,own i=some a→own j=some a→i=j
 lst:∀i a,own i=some a→∃u,H a=some u∧Mu u
 new:∀i a,own i=some a→X.H₀ a=none
 prot:∀p∈P,Den X.K (Own own) H p.1 p.2
noncomputable def EndsOk (X:Cx) (P:List (D×V)) (E:Ends):R→Prop
 | .nx ρ=>∀own σ H,Rep X P ρ own σ H→E.nx σ H
 | .bk ρ=>∀own σ H,Rep X P ρ own σ H→E.bk σ H
 | .ct ρ=>∀own σ H,Rep X P ρ own σ H→E.ct σ H
 | .rt d=>∀v H,Same X.H₀ H→DenF X.K X.H₀ H d v→E.rt v H
noncomputable def tS (X:Cx) (F:FS):TS:=fun E σ H=>∃P own ρ r,Rep X P ρ own σ H∧F ρ=some r∧EndsOk X P E r
noncomputable def PXS (X:Cx) (st:Stmt) (F:FS):Prop:=PS X st (tS X F)
noncomputable def PXSs (X:Cx) (st:List Stmt) (F:FS):Prop:=PSs X st (tS X F)
theorem PS.weak {X:Cx}{e:Stmt}{t u:TS}(h:PS X e t)(w:∀E σ H,u E σ H→t E σ H):PS X e u:=fun pins s σ H E I q=>h pins s σ H E I (w E σ H q)
theorem PSs.weak {X:Cx}{e:List Stmt}{t u:TS}(h:PSs X e t)(w:∀E σ H,u E σ H→t E σ H):PSs X e u:=fun pins s σ H E I q=>h pins s σ H E I (w E σ H q)
section
variable {X:Cx}{P:List (D×V)}{ρ:Ev}{own:Nat→Option Addr}{σ:L2.St}{H H':Hp}
theorem Rep.isL (r:Rep X P ρ own σ H):∀b,Own own b→∃u,H b=some u∧Mu u:=fun b ⟨i,e⟩=>r.lst i b e
theorem Rep.view (r:Rep X P ρ own σ H):RepV X.K ρ σ H:=fun i d e=>by
 obtain ⟨v,h1,h2⟩:=r.slot i d e
 refine ⟨v,h1,?_⟩
 have mono:∀d v,Den X.K (Own own) H d v→Den X.K Emp H d v:=fun d v=>den_mono (fun _ _ q _=>q) r.isL (fun _ z=>z.elim) d v
 cases d with
 | own xs=>
  obtain ⟨a,vs,_,e1,e2,l⟩:=h2
  rw [Den]
  exact ⟨a,vs,e1,e2,fun z=>z,denL_mono (fun _ _ q _=>q) r.isL (fun _ z=>z.elim) xs vs l⟩
 | odt ks xs=>
  obtain ⟨a,vs,_,e1,e2,hl,_,l⟩:=h2
  rw [Den]
  exact ⟨a,vs,e1,e2,fun z=>z,hl,denL_mono (fun _ _ q _=>q) r.isL (fun _ z=>z.elim) xs vs l⟩
 | _=>exact mono _ v h2
theorem SlotOk.grow {K:PySem.W.Frag}{own own':Nat→Option Addr}{i:Nat}{d:D}{v:V}(h1:∀b o,H b=some o→¬Own own b→H' b=some o)(hO:∀b,Own own b→∃u,H b=some u∧Mu u)(h2:∀b,Own own' b→Own own b∨H b=none)
  (ho:own' i=own i) (hk:∀a,own i=some a→H' a=H a) (h:SlotOk K own H i d v):SlotOk K own' H' i d v:=by
 cases d with
 | own xs=>
  obtain ⟨a,vs,e0,e1,e2,l⟩:=h
  exact ⟨a,vs,ho.trans e0,e1,(hk a e0).trans e2,denL_mono h1 hO h2 xs vs l⟩
 | odt ks xs=>
  obtain ⟨a,vs,e0,e1,e2,hl,f,l⟩:=h
  exact ⟨a,vs,ho.trans e0,e1,(hk a e0).trans e2,hl,f,denL_mono h1 hO h2 xs vs l⟩
 | _=>exact den_mono h1 hO h2 _ v h
theorem Rep.grow (r:Rep X P ρ own σ H)(s:Same H H'):Rep X P ρ own σ H' where
 same:=r.same.trans s
 len:=r.len
 slot:=fun i d e=>by
  obtain ⟨v,h1,h2⟩:=r.slot i d e
  refine ⟨v,h1,SlotOk.grow (fun b o q _=>s b o q) r.isL (fun b z=>.inl z) rfl (fun a e=>?_) h2⟩
  obtain ⟨ws,q,_⟩:=r.lst i a e
  rw [q,s a _ q]
 inj:=r.inj
 lst:=fun i a e=>let ⟨ws,q,m⟩:=r.lst i a e;⟨ws,s a _ q,m⟩
 new:=r.new
 prot:=fun p hp=>den_mono (fun b o q _=>s b o q) r.isL (fun b z=>.inl z) _ _ (r.prot p hp)
noncomputable def frzO:Option D→Option D
 | some d=>some (frz d)
 | none=>none
noncomputable def frzAll (ρ:Ev):Ev:=ρ.map frzO
noncomputable def bindD (ρ:Ev) (i:Nat) (d:D):Ev:=
 if lf d=true then ρ.set i (some d)
 else match d with
  | .own xs=>if lfL xs=true then ρ.set i (some (.own xs)) else (frzAll ρ).set i (some (.own xs))
  | .odt ks xs=>if lfL xs=true then ρ.set i (some (.odt ks xs)) else (frzAll ρ).set i (some (.dct ks xs))
  | d=>(frzAll ρ).set i (some d)
theorem SlotOk.plain {K:PySem.W.Frag}{i:Nat}{v:V}:∀{d:D},Den K (Own own) H (frz d) v→SlotOk K own H i (frz d) v
 | .own _,h=>h
 | .odt _ _,h=>h
 | .dct _ _,h=>h
 | .non,h=>h
 | .bl _,h=>h
 | .int _,h=>h
 | .str _,h=>h
 | .tup _,h=>h
 | .lst _,h=>h
 | .scr _,h=>h
 | .dic,h=>h
 | .exn _,h=>h
theorem lf_frz:∀{d:D},lf d=true→frz d=d
 | .own xs,h=>by rw [lf] at h;cases h
 | .odt _ xs,h=>by rw [lf] at h;cases h
 | .dct _ xs,h=>by rw [lf] at h;cases h
 | .non,_=>rfl
 | .bl _,_=>rfl
 | .int _,_=>rfl
 | .str _,_=>rfl
 | .tup _,_=>rfl
 | .lst _,_=>rfl
 | .scr _,_=>rfl
 | .dic,_=>rfl
 | .exn _,_=>rfl
theorem Rep.frozen (r:Rep X P ρ own σ H):Rep X P (frzAll ρ) (fun _=>none) σ H where
 same:=r.same
 len:=by unfold frzAll;rw [List.length_map];exact r.len
 slot:=fun i d e=>by
  unfold frzAll at e
  rw [List.getElem?_map] at e
  cases q:ρ[i]? with
  | none=>rw [q] at e;cases e
  | some o=>
   rw [q] at e
   cases o with
   | none=>cases e
   | some d0=>
    have e':frz d0=d:=by cases e;rfl
    subst e'
    obtain ⟨v,h1,h2⟩:=r.view i d0 q
    refine ⟨v,h1,SlotOk.plain ?_⟩
    exact den_mono (fun _ _ q _=>q) (fun _ z=>z.elim) (fun b z=>by obtain ⟨i,z⟩:=z;cases z) _ v (den_frz.mpr h2)
 inj:=fun i j a e=>by cases e
 lst:=fun i a e=>by cases e
 new:=fun i a e=>by cases e
 prot:=fun p hp=>den_mono (fun _ _ q _=>q) r.isL (fun b z=>by obtain ⟨i,z⟩:=z;cases z) _ _ (r.prot p hp)
theorem Rep.put (r:Rep X P ρ own σ H){i:Nat}{d:D}{v:V}(hd:frz d=d)(h:Den X.K (Own own) H d v):Rep X P (ρ.set i (some d)) (fun j=>if j=i then none else own j) (σ.set i (some v)) H:=by
 have sub:∀b,Own (fun j=>if j=i then none else own j) b→Own own b:=fun b ⟨j,e⟩=>by
  by_cases q:j=i
  ·simp [q] at e
  ·simp [q] at e;exact ⟨j,e⟩
 refine ⟨r.same,by rw [List.length_set,List.length_set];exact r.len,fun j d' e=>?_,fun j k a e1 e2=>?_,fun j a e=>?_,fun j a e=>?_,fun p hp=>den_mono (fun _ _ q _=>q) r.isL (fun b z=>.inl (sub b z)) _ _ (r.prot p hp)⟩
 ·by_cases q:i=j
  ·subst q
   rw [List.getElem?_set] at e
   rw [if_pos rfl] at e
   split at e
   ·rename_i hl
    cases e
    refine ⟨v,by rw [List.getElem?_set,if_pos rfl,if_pos (by rw [←r.len];exact hl)],?_⟩
    rw [←hd]
    refine SlotOk.plain (den_mono (fun _ _ q _=>q) r.isL (fun b z=>.inl (sub b z)) _ _ ?_)
    rw [hd];exact h
   ·cases e
  ·rw [List.getElem?_set_ne q] at e
   obtain ⟨u,h1,h2⟩:=r.slot j d' e
   refine ⟨u,by rw [List.getElem?_set_ne q];exact h1,SlotOk.grow (fun _ _ q _=>q) r.isL (fun b z=>.inl (sub b z)) (by show (if j=i then none else own j)=own j;rw [if_neg (Ne.symm q)]) (fun _ _=>rfl) h2⟩
 ·try dsimp only at e1 e2
  split at e1
  ·cases e1
  ·split at e2
   ·cases e2
   ·exact r.inj j k a e1 e2
 ·try dsimp only at e
  split at e
  ·cases e
  ·exact r.lst j a e
 ·try dsimp only at e
  split at e
  ·cases e
  ·exact r.new j a e
theorem Rep.putOwn (r:Rep X P ρ own σ H){i:Nat}{a:Addr}{xs:List D}{vs:List V}(hn:¬Own (fun j=>if j=i then none else own j) a)(hP:∀p∈P,Den X.K (fun b=>Own own b∨b=a) H p.1 p.2)(hS:∀(j:Nat) (d:D) (v:V),ρ[j]? =some (some d)→σ[j]? =some (some v)→frz d=d→Den X.K (fun b=>Own own b∨b=a) H d v)
  (hO:∀(j:Nat) (ys:List D) (b:Addr) (ws:List V),ρ[j]? =some (some (.own ys))→own j=some b→H b=some (.lst ws)→DenL X.K (fun b=>Own own b∨b=a) H ys ws) (h0:X.H₀ a=none) (h:H a=some (.lst vs)) (l:DenL X.K (fun b=>Own own b∨b=a) H xs vs):
  Rep X P (ρ.set i (some (.own xs))) (fun j=>if j=i then some a else own j) (σ.set i (some (.ref a))) H:=by
 have sub:∀b,Own (fun j=>if j=i then some a else own j) b→(Own own b∨b=a):=fun b ⟨j,e⟩=>by
  by_cases q:j=i
  ·simp [q] at e;exact .inr e.symm
  ·simp [q] at e;exact .inl ⟨j,e⟩
 have isL:∀b,(Own own b∨b=a)→∃u,H b=some u∧Mu u:=fun b z=>by
  rcases z with z | z
  ·exact r.isL b z
  ·rw [z];exact ⟨_,h,trivial⟩
 refine ⟨r.same,by rw [List.length_set,List.length_set];exact r.len,fun j d' e=>?_,fun j k b e1 e2=>?_,fun j b e=>?_,fun j b e=>?_,fun p hp=>den_mono (fun _ _ q _=>q) isL (fun b z=>.inl (sub b z)) _ _ (hP p hp)⟩
 ·by_cases q:i=j
  ·subst q
   rw [List.getElem?_set,if_pos rfl] at e
   split at e
   ·rename_i hl
    cases e
    exact ⟨.ref a,by rw [List.getElem?_set,if_pos rfl,if_pos (by rw [←r.len];exact hl)],a,vs,by simp,rfl,h,denL_mono (fun _ _ q _=>q) isL (fun b z=>.inl (sub b z)) _ _ l⟩
   ·cases e
  ·rw [List.getElem?_set_ne q] at e
   obtain ⟨u,h1,h2⟩:=r.slot j d' e
   refine ⟨u,by rw [List.getElem?_set_ne q];exact h1,?_⟩
   cases d' with
   | own xs'=>
    obtain ⟨b,ws,e0,e1,e2,l'⟩:=h2
    exact ⟨b,ws,by show (if j=i then some a else own j)=some b;rw [if_neg (Ne.symm q)];exact e0,e1,e2,denL_mono (fun _ _ q _=>q) isL (fun b z=>.inl (sub b z)) _ _ (hO j _ b ws e e0 e2)⟩
   | odt ks' xs'=>
    obtain ⟨b,ws,e0,e1,e2,hl',f',l'⟩:=h2
    exact ⟨b,ws,by show (if j=i then some a else own j)=some b;rw [if_neg (Ne.symm q)];exact e0,e1,e2,hl',f',denL_lf _ _ f' l'⟩
   | _=>exact den_mono (fun _ _ q _=>q) isL (fun b z=>.inl (sub b z)) _ _ (hS j _ u e h1 rfl)
 ·try dsimp only at e1 e2
  by_cases q1:j=i
  ·by_cases q2:k=i
   ·rw [q1,q2]
   ·rw [if_pos q1] at e1;cases e1
    rw [if_neg q2] at e2
    exact absurd ⟨k,by simp [q2];exact e2⟩ hn
  ·by_cases q2:k=i
   ·rw [if_pos q2] at e2;cases e2
    rw [if_neg q1] at e1
    exact absurd ⟨j,by simp [q1];exact e1⟩ hn
   ·rw [if_neg q1] at e1;rw [if_neg q2] at e2
    exact r.inj j k b e1 e2
 ·try dsimp only at e
  split at e
  ·cases e;exact ⟨_,h,trivial⟩
  ·exact r.lst j b e
 ·try dsimp only at e
  split at e
  ·cases e;exact h0
  ·exact r.new j b e
theorem Rep.bindOwn (r:Rep X P ρ own σ H)(s:Same H H'){i:Nat}{a:Addr}{xs:List D}{vs:List V}(hn:H a=none)(h:H' a=some (.lst vs))(l:DenL X.K (fun b=>Own own b∨b=a) H' xs vs):
  Rep X P (ρ.set i (some (.own xs))) (fun j=>if j=i then some a else own j) (σ.set i (some (.ref a))) H':=by
 have up:∀b,(Own own b∨b=a)→Own own b∨H b=none:=fun b z=>z.elim .inl fun z=>.inr (by rw [z];exact hn)
 refine (r.grow s).putOwn (fun ⟨j,e⟩=>?_) (fun p hp=>den_mono (fun b o q _=>s b o q) r.isL up _ _ (r.prot p hp)) (fun j d v e1 e2 e3=>?_) (fun j ys b ws e1 e2 e3=>?_) (r.same.free hn) h l
 ·have e':own j=some a:=by
   dsimp only at e
   split at e
   ·cases e
   ·exact e
  obtain ⟨ws,q,_⟩:=r.lst j a e'
  rw [hn] at q;cases q
 ·obtain ⟨u,h1,h2⟩:=r.slot j d e1
  rw [e2] at h1;cases h1
  refine den_mono (fun b o q _=>s b o q) r.isL up _ _ ?_
  cases d with
  | own _=>cases e3
  | odt _ _=>cases e3
  | _=>exact h2
 ·obtain ⟨u,h1,h2⟩:=r.slot j _ e1
  obtain ⟨c,us,q0,q1,q2,l'⟩:=h2
  rw [e2] at q0;cases q0
  have q3:=s _ _ q2
  rw [e3] at q3;cases q3
  exact denL_mono (fun b o q _=>s b o q) r.isL up _ _ l'
theorem Rep.mut (r:Rep X P ρ own σ H){i:Nat}{a:Addr}{xs ys:List D}{vs:List V}(e:ρ[i]? =some (some (D.own xs)))(ei:own i=some a)(l:DenL X.K (Own own) H ys vs):
  Rep X P (ρ.set i (some (.own ys))) own σ (upd H a (.lst vs)):=by
 have step:∀b o,H b=some o→¬Own own b→upd H a (.lst vs) b=some o:=fun b o q n=>by
  have ne:b≠a:=fun z=>n ⟨i,by rw [z];exact ei⟩
  rw [upd_ne ne];exact q
 have isL:∀b,Own own b→∃u,upd H a (.lst vs) b=some u∧Mu u:=fun b z=>by
  by_cases q:b=a
  ·rw [q];exact ⟨_,upd_same,trivial⟩
  ·rw [upd_ne q];exact r.isL b z
 refine ⟨fun b o q=>?_,by rw [List.length_set];exact r.len,fun j d' e'=>?_,r.inj,fun j b e'=>isL b ⟨j,e'⟩,r.new,fun p hp=>den_mono step r.isL (fun b z=>.inl z) _ _ (r.prot p hp)⟩
 ·have ne:b≠a:=fun z=>by
   have:=r.new i a ei
   rw [←z,q] at this;cases this
  rw [upd_ne ne];exact r.same b o q
 ·by_cases q:i=j
  ·subst q
   rw [List.getElem?_set,if_pos rfl] at e'
   split at e'
   ·cases e'
    obtain ⟨v,h1,b,ws,h2,h3,_⟩:=r.slot i _ e
    rw [ei] at h2;cases h2
    refine ⟨v,h1,a,vs,ei,h3,upd_same,denL_mono step r.isL (fun b z=>.inl z) _ _ l⟩
   ·cases e'
  ·rw [List.getElem?_set_ne q] at e'
   obtain ⟨u,h1,h2⟩:=r.slot j d' e'
   refine ⟨u,h1,SlotOk.grow step r.isL (fun b z=>.inl z) rfl (fun b e2=>?_) h2⟩
   have ne:b≠a:=fun z=>q (r.inj i j a ei (by rw [←z];exact e2))
   rw [upd_ne ne]
theorem Rep.putOdt (r:Rep X P ρ own σ H){i:Nat}{a:Addr}{ks:List (List Int)}{xs:List D}{vs:List V}(hn:¬Own (fun j=>if j=i then none else own j) a)(hP:∀p∈P,Den X.K (fun b=>Own own b∨b=a) H p.1 p.2)(hS:∀(j:Nat) (d:D) (v:V),ρ[j]? =some (some d)→σ[j]? =some (some v)→frz d=d→Den X.K (fun b=>Own own b∨b=a) H d v)
  (hO:∀(j:Nat) (ys:List D) (b:Addr) (ws:List V),ρ[j]? =some (some (.own ys))→own j=some b→H b=some (.lst ws)→DenL X.K (fun b=>Own own b∨b=a) H ys ws) (hk:ks.length=xs.length) (f:lfL xs=true) (h0:X.H₀ a=none) (h:H a=some (.dT (zipK ks vs))) (l:DenL X.K (fun b=>Own own b∨b=a) H xs vs):
  Rep X P (ρ.set i (some (.odt ks xs))) (fun j=>if j=i then some a else own j) (σ.set i (some (.ref a))) H:=by
 have sub:∀b,Own (fun j=>if j=i then some a else own j) b→(Own own b∨b=a):=fun b ⟨j,e⟩=>by
  by_cases q:j=i
  ·simp [q] at e;exact .inr e.symm
  ·simp [q] at e;exact .inl ⟨j,e⟩
 have isL:∀b,(Own own b∨b=a)→∃u,H b=some u∧Mu u:=fun b z=>by
  rcases z with z | z
  ·exact r.isL b z
  ·rw [z];exact ⟨_,h,trivial⟩
 refine ⟨r.same,by rw [List.length_set,List.length_set];exact r.len,fun j d' e=>?_,fun j k b e1 e2=>?_,fun j b e=>?_,fun j b e=>?_,fun p hp=>den_mono (fun _ _ q _=>q) isL (fun b z=>.inl (sub b z)) _ _ (hP p hp)⟩
 ·by_cases q:i=j
  ·subst q
   rw [List.getElem?_set,if_pos rfl] at e
   split at e
   ·rename_i hl
    cases e
    exact ⟨.ref a,by rw [List.getElem?_set,if_pos rfl,if_pos (by rw [←r.len];exact hl)],a,vs,by simp,rfl,h,hk,f,denL_mono (fun _ _ q _=>q) isL (fun b z=>.inl (sub b z)) _ _ l⟩
   ·cases e
  ·rw [List.getElem?_set_ne q] at e
   obtain ⟨u,h1,h2⟩:=r.slot j d' e
   refine ⟨u,by rw [List.getElem?_set_ne q];exact h1,?_⟩
   cases d' with
   | own xs'=>
    obtain ⟨b,ws,e0,e1,e2,l'⟩:=h2
    exact ⟨b,ws,by show (if j=i then some a else own j)=some b;rw [if_neg (Ne.symm q)];exact e0,e1,e2,denL_mono (fun _ _ q _=>q) isL (fun b z=>.inl (sub b z)) _ _ (hO j _ b ws e e0 e2)⟩
   | odt ks' xs'=>
    obtain ⟨b,ws,e0,e1,e2,hl',f',l'⟩:=h2
    exact ⟨b,ws,by show (if j=i then some a else own j)=some b;rw [if_neg (Ne.symm q)];exact e0,e1,e2,hl',f',denL_lf _ _ f' l'⟩
   | _=>exact den_mono (fun _ _ q _=>q) isL (fun b z=>.inl (sub b z)) _ _ (hS j _ u e h1 rfl)
 ·try dsimp only at e1 e2
  by_cases q1:j=i
  ·by_cases q2:k=i
   ·rw [q1,q2]
   ·rw [if_pos q1] at e1;cases e1
    rw [if_neg q2] at e2
    exact absurd ⟨k,by simp [q2];exact e2⟩ hn
  ·by_cases q2:k=i
   ·rw [if_pos q2] at e2;cases e2
    rw [if_neg q1] at e1
    exact absurd ⟨j,by simp [q1];exact e1⟩ hn
   ·rw [if_neg q1] at e1;rw [if_neg q2] at e2
    exact r.inj j k b e1 e2
 ·try dsimp only at e
  split at e
  ·cases e;exact ⟨_,h,trivial⟩
  ·exact r.lst j b e
 ·try dsimp only at e
  split at e
  ·cases e;exact h0
  ·exact r.new j b e
theorem Rep.bindOdt (r:Rep X P ρ own σ H)(s:Same H H'){i:Nat}{a:Addr}{ks:List (List Int)}{xs:List D}{vs:List V}(hn:H a=none)(h:H' a=some (.dT (zipK ks vs)))(hk:ks.length=xs.length)(f:lfL xs=true)(l:DenL X.K Emp H' xs vs):
  Rep X P (ρ.set i (some (.odt ks xs))) (fun j=>if j=i then some a else own j) (σ.set i (some (.ref a))) H':=by
 have up:∀b,(Own own b∨b=a)→Own own b∨H b=none:=fun b z=>z.elim .inl fun z=>.inr (by rw [z];exact hn)
 refine (r.grow s).putOdt (fun ⟨j,e⟩=>?_) (fun p hp=>den_mono (fun b o q _=>s b o q) r.isL up _ _ (r.prot p hp)) (fun j d v e1 e2 e3=>?_) (fun j ys b ws e1 e2 e3=>?_) hk f (r.same.free hn) h (denL_lf _ _ f l)
 ·have e':own j=some a:=by
   dsimp only at e
   split at e
   ·cases e
   ·exact e
  obtain ⟨ws,q,_⟩:=r.lst j a e'
  rw [hn] at q;cases q
 ·obtain ⟨u,h1,h2⟩:=r.slot j d e1
  rw [e2] at h1;cases h1
  refine den_mono (fun b o q _=>s b o q) r.isL up _ _ ?_
  cases d with
  | own _=>cases e3
  | odt _ _=>cases e3
  | _=>exact h2
 ·obtain ⟨u,h1,h2⟩:=r.slot j _ e1
  obtain ⟨c,us,q0,q1,q2,l'⟩:=h2
  rw [e2] at q0;cases q0
  have q3:=s _ _ q2
  rw [e3] at q3;cases q3
  exact denL_mono (fun b o q _=>s b o q) r.isL up _ _ l'
theorem Rep.mutT (r:Rep X P ρ own σ H){i:Nat}{a:Addr}{ks ks2:List (List Int)}{xs ys:List D}{vs:List V}(e:ρ[i]? =some (some (D.odt ks xs)))(ei:own i=some a)(hk:ks2.length=ys.length)(f:lfL ys=true)(l:DenL X.K Emp H ys vs):
  Rep X P (ρ.set i (some (.odt ks2 ys))) own σ (upd H a (.dT (zipK ks2 vs))):=by
 have step:∀b o,H b=some o→¬Own own b→upd H a (.dT (zipK ks2 vs)) b=some o:=fun b o q n=>by
  have ne:b≠a:=fun z=>n ⟨i,by rw [z];exact ei⟩
  rw [upd_ne ne];exact q
 have isL:∀b,Own own b→∃u,upd H a (.dT (zipK ks2 vs)) b=some u∧Mu u:=fun b z=>by
  by_cases q:b=a
  ·rw [q];exact ⟨_,upd_same,trivial⟩
  ·rw [upd_ne q];exact r.isL b z
 refine ⟨fun b o q=>?_,by rw [List.length_set];exact r.len,fun j d' e'=>?_,r.inj,fun j b e'=>isL b ⟨j,e'⟩,r.new,fun p hp=>den_mono step r.isL (fun b z=>.inl z) _ _ (r.prot p hp)⟩
 ·have ne:b≠a:=fun z=>by
   have:=r.new i a ei
   rw [←z,q] at this;cases this
  rw [upd_ne ne];exact r.same b o q
 ·by_cases q:i=j
  ·subst q
   rw [List.getElem?_set,if_pos rfl] at e'
   split at e'
   ·cases e'
    obtain ⟨v,h1,b,ws,h2,h3,_⟩:=r.slot i _ e
    rw [ei] at h2;cases h2
    refine ⟨v,h1,a,vs,ei,h3,upd_same,hk,f,denL_lf (O:=Own own) _ _ f (denL_mono step r.isL (fun b z=>.inl z) _ _ (denL_lf _ _ f l))⟩
   ·cases e'
  ·rw [List.getElem?_set_ne q] at e'
   obtain ⟨u,h1,h2⟩:=r.slot j d' e'
   refine ⟨u,h1,SlotOk.grow step r.isL (fun b z=>.inl z) rfl (fun b e2=>?_) h2⟩
   have ne:b≠a:=fun z=>q (r.inj i j a ei (by rw [←z];exact e2))
   rw [upd_ne ne]
theorem Rep.bind (r:Rep X P ρ own σ H)(s:Same H H'){i:Nat}{d:D}{v:V}(h:DenF X.K H H' d v):∃own',Rep X P (bindD ρ i d) own' (σ.set i (some v)) H':=by
 unfold bindD
 by_cases f:lf d=true
 ·rw [if_pos f]
  exact ⟨_,(r.grow s).put (lf_frz f) (den_lf _ _ f h.den)⟩
 ·rw [if_neg f]
  have fz:∀d',frz d'=d'→Den X.K Emp H' d' v→∃own',Rep X P ((frzAll ρ).set i (some d')) own' (σ.set i (some v)) H':=fun d' e q=>
   ⟨_,(r.grow s).frozen.put e (den_mono (fun _ _ q _=>q) (fun _ z=>z.elim) (fun b z=>by obtain ⟨i,z⟩:=z;cases z) _ v q)⟩
  cases d with
  | own xs=>
   dsimp only
   by_cases g:lfL xs=true
   ·rw [if_pos g]
    obtain ⟨a,vs,rfl,hn,ha,l⟩:=h
    exact ⟨_,r.bindOwn s hn ha (denL_lf _ _ g l)⟩
   ·rw [if_neg g]
    obtain ⟨a,vs,rfl,hn,ha,l⟩:=h
    refine ⟨_,r.frozen.bindOwn s hn ha (denL_mono (fun _ _ z _=>z) (fun b z=>⟨.lst vs,by rw [z];exact ha,trivial⟩) (fun b z=>?_) _ _ l)⟩
    rcases z with ⟨j,z⟩ | z
    ·cases z
    ·exact .inl z
  | odt ks xs=>
   dsimp only
   by_cases g:lfL xs=true
   ·rw [if_pos g]
    obtain ⟨a,vs,rfl,hn,ha,hk,l⟩:=h
    exact ⟨_,r.bindOdt s hn ha hk g l⟩
   ·rw [if_neg g]
    exact fz _ rfl (den_frz.mpr h.den)
  | dct ks xs=>exact fz _ rfl h.den
  | lst xs=>exact fz _ rfl h.den
  | tup xs=>exact fz _ rfl h.den
  | scr xs=>exact fz _ rfl h.den
  | dic=>exact fz _ rfl h.den
  | exn C=>exact fz _ rfl h.den
  | non=>exact absurd rfl f
  | bl b=>exact absurd rfl f
  | int b=>exact absurd rfl f
  | str b=>exact absurd rfl f
end
end Tw
set_option Elab.async false
set_option linter.all false
set_option maxRecDepth 100000
set_option maxHeartbeats 1000000
namespace Tw
open PySem PySem.Spec PyProof.Rows L2
section
variable {X:Cx}{a b c e:Expr}{pos:Pos}{f g h:FE}
noncomputable def fVar (i:Nat):FE:=fun ρ=>match ρ[i]? with
 | some (some d)=>some (frz d)
 | _=>none
noncomputable def fC (d:D):FE:=fun _=>some d
theorem px_name (i:Nat){x:Str}(hN:autoParam (X.N[i]? =some x) Zau.a2._auto_1)(hv:autoParam (Vis X.env.scope x) Zau.a4._auto_1)(hd:autoParam ((x == ("__debug__":Str))=false) Zau.a1._auto_1)(hcd:autoParam ((x == ("__classdict__":Str))=false) Zau.a1._auto_1):PX X (.Name x pos) (fVar i):=by
 refine PE.weak (pe_var hN hv hd hcd) fun σ H Q ⟨ρ,d,rv,e,q⟩=>?_
 unfold fVar at e
 split at e
 ·rename_i d0 e0
  cases e
  obtain ⟨v,h1,h2⟩:=rv i d0 e0
  exact ⟨v,h1,q v H (Same.refl H) (DenF.of (den_frz.mpr h2))⟩
 ·cases e
theorem tC_of {d:D}{v:V}(hd:∀H,DenF X.K H H d v):∀σ H Q,tX X (fC d) σ H Q→tC v σ H Q:=fun σ H Q ⟨ρ,d',rv,e,q⟩=>by cases e;exact q v H (Same.refl H) (hd H)
theorem px_int {i:Int}{j:Nat}:PX X (.Constant (.int i) j pos) (fC (.int i)):=PE.weak pe_int (tC_of fun H=>by show Den _ Emp _ _ _;rw [Den])
theorem px_bl {i:Bool}{j:Nat}:PX X (.Constant (.bool i) j pos) (fC (.bl i)):=PE.weak pe_bl (tC_of fun H=>by show Den _ Emp _ _ _;rw [Den])
noncomputable def fBin (op:D→D→Option D) (f g:FE):FE:=fun ρ=>(f ρ).bind fun x=>(g ρ).bind fun y=>op x y
theorem bin_weak {r:R2}{op:D→D→Option D}(k:∀(x y d:D) (v u:V) (H:Hp) (Q:VK),op x y=some d→Den X.K Emp H x v→Den X.K Emp H y u→(∀w H',Same H H'→DenF X.K H H' d w→Q w H')→r v u H Q):
  ∀σ H Q,tX X (fBin op f g) σ H Q→tOp r (tX X f) (tX X g) σ H Q:=fun σ H Q ⟨ρ,d,rv,e,q⟩=>by
 unfold fBin at e
 cases e1:f ρ with
 | none=>rw [e1] at e;cases e
 | some x=>
  cases e2:g ρ with
  | none=>rw [e1,e2] at e;cases e
  | some y=>
   rw [e1,e2] at e
   refine ⟨ρ,x,rv,e1,fun v H1 s1 d1=>⟨ρ,y,rv.same s1,e2,fun u H2 s2 d2=>?_⟩⟩
   exact k x y d v u H2 Q e (den_same s2 d1.den) d2.den fun w H' s3 d3=>q w H' ((s1.trans s2).trans s3) (d3.elder (s1.trans s2))
theorem px_bin {op:Operator}{r:R2}{o:D→D→Option D}(ho:OpR X (binaryOp op) r)(k:∀(x y d:D) (v u:V) (H:Hp) (Q:VK),o x y=some d→Den X.K Emp H x v→Den X.K Emp H y u→(∀w H',Same H H'→DenF X.K H H' d w→Q w H')→r v u H Q)
  (ha:PX X a f) (hb:PX X b g):PX X (.BinOp a op b pos) (fBin o f g):=PE.weak (pe_op ho ha hb) (bin_weak k)
theorem px_cmp {op:CmpOp}{r:R2}{o:D→D→Option D}(ho:OpR X (compareOp op) r)(k:∀(x y d:D) (v u:V) (H:Hp) (Q:VK),o x y=some d→Den X.K Emp H x v→Den X.K Emp H y u→(∀w H',Same H H'→DenF X.K H H' d w→Q w H')→r v u H Q)
  (ha:PX X a f) (hb:PX X b g) (hm:autoParam (behindInMarks op b=false) Zau.a5._auto_1):PX X (.Compare a [op] [b] pos) (fBin o f g):=PE.weak (pe_cmpR ho ha hb hm) (bin_weak k)
noncomputable def fTest (f:FE):FT:=fun ρ=>(f ρ).bind fun d=>match d with | .bl k=>some k | _=>none
theorem pt_cmpX {op:CmpOp}{r:R2}{o:D→D→Option D}(ho:OpR X (compareOp op) r)(k:∀(x y d:D) (v u:V) (H:Hp) (Q:VK),o x y=some d→Den X.K Emp H x v→Den X.K Emp H y u→(∀w H',Same H H'→DenF X.K H H' d w→Q w H')→r v u H Q)
  (ha:PX X a f) (hb:PX X b g) (hm:autoParam (behindInMarks op b=false) Zau.a5._auto_1):PXT X (.Compare a [op] [b] pos) (fTest (fBin o f g)):=by
 refine PT.weak (pt_cmpR ho ha hb hm) fun σ H Q ⟨ρ,t,rv,e,q⟩=>?_
 unfold fTest at e
 cases e1:fBin o f g ρ with
 | none=>rw [e1] at e;cases e
 | some d=>
  rw [e1] at e
  refine bin_weak k σ H _ ⟨ρ,d,rv,e1,fun v H' s d'=>?_⟩
  cases d with
  | bl k1=>cases e;exact ⟨_,by have z:=d'.den;rw [Den] at z;exact z,q H' s⟩
  | _=>cases e
noncomputable def big:Nat:=2 ^ 8000
noncomputable def mOk (i j:Int):Prop:=i.natAbs < 2 ^ 64∨j.natAbs < 2 ^ 64∨(i.natAbs < big∧j.natAbs < big)
noncomputable instance (i j:Int):Decidable (mOk i j):=by unfold mOk;infer_instance
theorem mOk.ok {i j:Int}(m:mOk i j):IntMulOk i j:=by
 rcases m with m | m | ⟨m,n⟩
 ·exact .of_left (KE_bits m)
 ·exact .of_right (KE_bits m)
 ·exact .of_bits (Nat.le_trans (KE_bits m) (by decide)) (Nat.le_trans (KE_bits n) (by decide))
where KE_bits {x:Int} {m:Nat} (h:x.natAbs < 2 ^ m):Builtin.Int.intBits x≤m:=intBits_le_iff.mpr h
theorem op_mulB:OpR X (binaryOp .Mult) (rI mOk fun i j=>.int (i * j)):=opI fun _ _ _ _ _ _ _ hc q=>mul_int q hc.ok
noncomputable def dOk (j:Int):Prop:=0 < j∧j.natAbs < big
noncomputable instance (j:Int):Decidable (dOk j):=by unfold dOk;infer_instance
theorem op_divB:OpR X (binaryOp .FloorDiv) (rI (fun _ j=>dOk j) fun i j=>.int (i / j)):=opI fun i j _ _ _ _ _ hc q=>by
 have e:i.fdiv j=i / j:=Int.fdiv_eq_ediv_of_nonneg i (Int.le_of_lt hc.1)
 refine floordiv_int (Int.ne_of_gt hc.1) (by rw [e];exact q) (.inl (PyProof.noPylong_of_log2 ?_))
 by_cases z:j.natAbs=0
 ·rw [z];decide
 ·exact Nat.lt_of_lt_of_le ((Nat.log2_lt z).mpr (show j.natAbs < 2 ^ 8000 from hc.2)) (by decide)
noncomputable def oI (C:Int→Int→Prop) [∀i j,Decidable (C i j)] (g:Int→Int→D):D→D→Option D
 | .int i,.int j=>if C i j then some (g i j) else none
 | _,_=>none
noncomputable def oI0 (g:Int→Int→D):D→D→Option D
 | .int i,.int j=>some (g i j)
 | _,_=>none
theorem den_int {K:PySem.W.Frag}{O:Addr→Prop}{H:Hp}{i:Int}{v:V}:Den K O H (.int i) v↔v= .int i:=by rw [Den]
theorem den_bl {K:PySem.W.Frag}{O:Addr→Prop}{H:Hp}{i:Bool}{v:V}:Den K O H (.bl i) v↔v= .bl i:=by rw [Den]
theorem denF_int {K:PySem.W.Frag}{H H':Hp}{i:Int}:DenF K H H' (.int i) (.int i):=by show Den _ Emp _ _ _;rw [Den]
theorem denF_bl {K:PySem.W.Frag}{H H':Hp}{i:Bool}:DenF K H H' (.bl i) (.bl i):=by show Den _ Emp _ _ _;rw [Den]
theorem kI {C:Int→Int→Prop} [∀i j,Decidable (C i j)] {g:Int→Int→Int}:∀(x y d:D) (v u:V) (H:Hp) (Q:VK),oI C (fun i j=>.int (g i j)) x y=some d→Den X.K Emp H x v→Den X.K Emp H y u→(∀w H',Same H H'→DenF X.K H H' d w→Q w H')→rI C (fun i j=>.int (g i j)) v u H Q:=by
 intro x y d v u H Q e hx hy q
 cases x <;> cases y <;> simp only [oI] at e <;> try cases e
 rename_i i j
 split at e
 ·rename_i hc
  cases e
  exact ⟨i,j,den_int.mp hx,den_int.mp hy,hc,q _ H (Same.refl H) denF_int⟩
 ·cases e
theorem kI0 {g:Int→Int→Int}:∀(x y d:D) (v u:V) (H:Hp) (Q:VK),oI0 (fun i j=>.int (g i j)) x y=some d→Den X.K Emp H x v→Den X.K Emp H y u→(∀w H',Same H H'→DenF X.K H H' d w→Q w H')→rI0 (fun i j=>.int (g i j)) v u H Q:=by
 intro x y d v u H Q e hx hy q
 cases x <;> cases y <;> simp only [oI0] at e <;> cases e
 rename_i i j
 exact ⟨i,j,den_int.mp hx,den_int.mp hy,q _ H (Same.refl H) denF_int⟩
theorem kB0 {g:Int→Int→Bool}:∀(x y d:D) (v u:V) (H:Hp) (Q:VK),oI0 (fun i j=>.bl (g i j)) x y=some d→Den X.K Emp H x v→Den X.K Emp H y u→(∀w H',Same H H'→DenF X.K H H' d w→Q w H')→rI0 (fun i j=>.bl (g i j)) v u H Q:=by
 intro x y d v u H Q e hx hy q
 cases x <;> cases y <;> simp only [oI0] at e <;> cases e
 rename_i i j
 exact ⟨i,j,den_int.mp hx,den_int.mp hy,q _ H (Same.refl H) denF_bl⟩
noncomputable abbrev fSub:=fBin (oI0 fun i j=>.int (i - j))
noncomputable abbrev fMul:=fBin (oI mOk fun i j=>.int (i * j))
noncomputable abbrev fDiv:=fBin (oI (fun _ j=>dOk j) fun i j=>.int (i / j))
noncomputable abbrev fMod:=fBin (oI (fun _ j=>0 < j) fun i j=>.int (i % j))
noncomputable instance (i j:Int):Decidable (CPow i j):=by unfold CPow;infer_instance
noncomputable abbrev fPow:=fBin (oI CPow fun i j=>.int (i ^ j.toNat))
theorem px_sub (ha:PX X a f)(hb:PX X b g):PX X (.BinOp a .Sub b pos) (fSub f g):=px_bin op_sub kI0 ha hb
theorem px_mul (ha:PX X a f)(hb:PX X b g):PX X (.BinOp a .Mult b pos) (fMul f g):=px_bin op_mulB kI ha hb
theorem px_div (ha:PX X a f)(hb:PX X b g):PX X (.BinOp a .FloorDiv b pos) (fDiv f g):=px_bin op_divB kI ha hb
theorem px_mod (ha:PX X a f)(hb:PX X b g):PX X (.BinOp a .Mod b pos) (fMod f g):=px_bin op_mod kI ha hb
theorem px_pow (ha:PX X a f)(hb:PX X b g):PX X (.BinOp a .Pow b pos) (fPow f g):=px_bin op_pow kI ha hb
noncomputable abbrev oLt:=oI0 fun i j=>.bl (decide (i < j))
noncomputable abbrev oGt:=oI0 fun i j=>.bl (decide (j < i))
noncomputable abbrev oGe:=oI0 fun i j=>.bl (decide (j≤i))
theorem pxt_gt (ha:PX X a f)(hb:PX X b g):PXT X (.Compare a [.Gt] [b] pos) (fTest (fBin oGt f g)):=pt_cmpX op_gt kB0 ha hb
theorem pxt_ge (ha:PX X a f)(hb:PX X b g):PXT X (.Compare a [.GtE] [b] pos) (fTest (fBin oGe f g)):=pt_cmpX op_ge kB0 ha hb
noncomputable def asL:D→Option (List D)
 | .lst xs=>some xs
 | .own xs=>some xs
 | _=>none
noncomputable def lim:Nat:=1000000
noncomputable def oCat (x y:D):Option D:=(asL x).bind fun xs=>(asL y).bind fun ys=>if xs.length + ys.length≤lim then some (.own (xs ++ ys)) else none
noncomputable def oAdd:D→D→Option D
 | .int i,.int j=>some (.int (i + j))
 | x,y=>oCat x y
theorem den_asL {K:PySem.W.Frag}{O:Addr→Prop}{H:Hp}{d:D}{xs:List D}{v:V}(e:asL d=some xs)(h:Den K O H d v):∃a vs,v= .ref a∧H a=some (.lst vs)∧¬O a∧DenL K O H xs vs:=by
 cases d <;> simp only [asL] at e <;> cases e <;> (rw [Den] at h;exact h)
theorem lim_line:lim≤sizeLine:=by unfold lim;rw [sizeLine_eq];decide
theorem same_upd {H:Hp}{p:Addr}(h:H p=none)(o:HO):Same H (upd H p o):=fun b u q=>by rw [upd_ne (ne_of_none q h)];exact q
theorem denF_new {K:PySem.W.Frag}{H:Hp}{p:Addr}{xs:List D}{vs:List V}(hp:H p=none)(l:DenL K Emp H xs vs):DenF K H (upd H p (.lst vs)) (.own xs) (.ref p):=
 ⟨p,vs,rfl,hp,upd_same,denL_mono (fun b o q _=>same_upd hp _ b o q) (fun _ z=>z.elim) (fun b z=>.inr (by rw [z];exact hp)) _ _ l⟩
theorem denF_tup {K:PySem.W.Frag}{H H0:Hp}{p:Addr}{xs:List D}{vs:List V}(hp:H p=none)(l:DenL K Emp H xs vs):DenF K H0 (upd H p (.tup vs)) (.tup xs) (.ref p):=by
 show Den _ Emp _ _ _;rw [Den]
 exact ⟨p,vs,rfl,.inl (.inl upd_same),denL_same (same_upd hp _) l⟩
noncomputable def fNeg (f:FE):FE:=fun ρ=>(f ρ).bind fun d=>match d with | .int i=>some (.int (-i)) | _=>none
end
end Tw
set_option Elab.async false
set_option linter.all false
set_option maxRecDepth 100000
set_option maxHeartbeats 1000000
namespace Tw
open PySem PySem.Spec PyProof.Rows L2
section
variable {X:Cx}{a b c e:Expr}{es rest:List Expr}{pos:Pos}{f g h:FE}{t u:FT}{fa:FA}
noncomputable def truth:D→Option Bool
 | .non=>some false
 | .bl b=>some b
 | .int i=>some (i != 0)
 | .tup xs=>some (!xs.isEmpty)
 | .lst xs=>some (!xs.isEmpty)
 | .own xs=>some (!xs.isEmpty)
 | _=>none
noncomputable def fTru (f:FE):FT:=fun ρ=>(f ρ).bind truth
theorem denL_empty {K:PySem.W.Frag}{O:Addr→Prop}{H:Hp}{xs:List D}{vs:List V}(l:DenL K O H xs vs):(!xs.isEmpty)= !vs.isEmpty:=by
 have:=denL_length l
 cases xs <;> cases vs <;> simp at this ⊢
theorem tru_den {K:PySem.W.Frag}{H:Hp}{d:D}{v:V}{k:Bool}(e:truth d=some k)(h:Den K Emp H d v):TruV K v H k:=by
 cases d <;> simp only [truth] at e <;> cases e <;> rw [Den] at h
 ·subst h;rfl
 ·subst h;rfl
 ·subst h;rfl
 ·obtain ⟨a,vs,rfl,q,l⟩:=h
  exact .inr (.inl ⟨vs,q,denL_empty l⟩)
 ·obtain ⟨a,vs,rfl,q,_,l⟩:=h
  exact .inl ⟨vs,.inl (.inl q),denL_empty l⟩
 ·obtain ⟨a,vs,rfl,q,_,l⟩:=h
  exact .inl ⟨vs,.inl (.inl q),denL_empty l⟩
theorem pxt_tru (ha:PX X a f)(he:autoParam (∀whole,isTrue a X.env whole=(do let v ←whole;standAt a.pos;holding [v] (truthy v))) Zau.a3._auto_1):PXT X a (fTru f):=PT.weak (pt_truth ha he) fun σ H Q ⟨ρ,k,rv,e,q⟩=>by
 unfold fTru at e
 cases e1:f ρ with
 | none=>rw [e1] at e;cases e
 | some d=>
  rw [e1] at e
  exact ⟨ρ,d,rv,e1,fun v H1 s1 d1=>⟨k,tru_den e d1.den,q H1 s1⟩⟩
noncomputable def fNot (t:FT):FT:=fun ρ=>(t ρ).map (!·)
theorem pxt_not (ha:PXT X a t):PXT X (.UnaryOp .Not a pos) (fNot t):=PT.weak (L2.pt_not ha) fun σ H Q ⟨ρ,k,rv,e,q⟩=>by
 unfold fNot at e
 cases e1:t ρ with
 | none=>rw [e1] at e;cases e
 | some d=>
  rw [e1] at e;cases e
  exact ⟨ρ,d,rv,e1,fun H1 s1=>q H1 s1⟩
noncomputable def fAnd (t u:FT):FT:=fun ρ=>(t ρ).bind fun k=>if k=true then u ρ else some false
noncomputable def fOr (t u:FT):FT:=fun ρ=>(t ρ).bind fun k=>if k=true then some true else u ρ
theorem pxw_and1 (ha:PXT X a t):PXW X (.BoolOp .And [a] pos) t:=pw_and1 ha
theorem pxw_or1 (ha:PXT X a t):PXW X (.BoolOp .Or [a] pos) t:=pw_or1 ha
theorem pxw_and (ha:PXT X a t)(hb:PXW X (.BoolOp .And (b :: rest) pos) u):PXW X (.BoolOp .And (a :: b :: rest) pos) (fAnd t u):=PW.weak (pw_and ha hb) fun σ H Q ⟨ρ,k,rv,e,q⟩=>by
 unfold fAnd at e
 cases e1:t ρ with
 | none=>rw [e1] at e;cases e
 | some d=>
  rw [e1] at e
  refine ⟨ρ,d,rv,e1,fun H1 s1=>?_⟩
  cases d with
  | true=>rw [if_pos rfl];exact ⟨ρ,k,rv.same s1,e,fun H2 s2=>q H2 (s1.trans s2)⟩
  | false=>rw [if_neg Bool.false_ne_true];cases e;exact q H1 s1
theorem pxw_or (ha:PXT X a t)(hb:PXW X (.BoolOp .Or (b :: rest) pos) u):PXW X (.BoolOp .Or (a :: b :: rest) pos) (fOr t u):=PW.weak (pw_or ha hb) fun σ H Q ⟨ρ,k,rv,e,q⟩=>by
 unfold fOr at e
 cases e1:t ρ with
 | none=>rw [e1] at e;cases e
 | some d=>
  rw [e1] at e
  refine ⟨ρ,d,rv,e1,fun H1 s1=>?_⟩
  cases d with
  | false=>rw [if_neg Bool.false_ne_true];exact ⟨ρ,k,rv.same s1,e,fun H2 s2=>q H2 (s1.trans s2)⟩
  | true=>rw [if_pos rfl];cases e;exact q H1 s1
theorem pxt_of (ha:PXW X a t):PXT X a t:=PW.pt ha
noncomputable def bV (f:FE):FT:=fun ρ=>(f ρ).bind fun d=>match d with | .bl k=>some k | _=>none
theorem px_one {op}(ha:PX X a f):PX X (.BoolOp op [a] pos) f:=pe_one ha
noncomputable def fAndV (f g:FE):FE:=fun ρ=>(bV f ρ).bind fun k=>if k=true then g ρ else some (.bl false)
noncomputable def fOrV (f g:FE):FE:=fun ρ=>(bV f ρ).bind fun k=>if k=true then some (.bl true) else g ρ
noncomputable def fNotV (f:FE):FE:=fun ρ=>(bV f ρ).map fun k=>.bl (!k)
theorem bV_some {f:FE}{ρ:Ev}{k:Bool}(e:bV f ρ=some k):f ρ=some (.bl k):=by
 unfold bV at e
 cases e1:f ρ with
 | none=>rw [e1] at e;cases e
 | some d=>rw [e1] at e;cases d <;> simp only [Option.bind_some] at e <;> cases e;rfl
theorem px_and (ha:PX X a f)(hb:PX X (.BoolOp .And (b :: rest) pos) g):PX X (.BoolOp .And (a :: b :: rest) pos) (fAndV f g):=PE.weak (pe_and ha hb) fun σ H Q ⟨ρ,d,rv,e,q⟩=>by
 unfold fAndV at e
 cases e1:bV f ρ with
 | none=>rw [e1] at e;cases e
 | some k=>
  rw [e1] at e
  refine ⟨ρ,_,rv,bV_some e1,fun v H1 s1 d1=>⟨k,den_bl.mp d1.den,?_⟩⟩
  cases k with
  | true=>rw [if_pos rfl];exact ⟨ρ,d,rv.same s1,e,fun w H2 s2 d2=>q w H2 (s1.trans s2) (d2.elder s1)⟩
  | false=>rw [if_neg Bool.false_ne_true];cases e;exact q _ H1 s1 denF_bl
theorem px_not (ha:PX X a f):PX X (.UnaryOp .Not a pos) (fNotV f):=PE.weak (L2.pe_not ha) fun σ H Q ⟨ρ,d,rv,e,q⟩=>by
 unfold fNotV at e
 cases e1:bV f ρ with
 | none=>rw [e1] at e;cases e
 | some k=>
  rw [e1] at e
  cases e
  exact ⟨ρ,_,rv,bV_some e1,fun v H1 s1 d1=>⟨k,den_bl.mp d1.den,q _ H1 s1 denF_bl⟩⟩
noncomputable def fIf (t:FT) (f g:FE):FE:=fun ρ=>(t ρ).bind fun k=>if k=true then f ρ else g ρ
noncomputable def fNil:FA:=fun _=>some []
noncomputable def fCons (f:FE) (fa:FA):FA:=fun ρ=>(f ρ).bind fun d=>(fa ρ).map fun ds=>d :: ds
theorem pxa_nil:PXA X [] fNil:=PA.weak pa_nil fun σ H Q ⟨ρ,ds,rv,e,q⟩=>by cases e;exact q [] H (Same.refl H) denL_nil
theorem pxa_cons (ha:PX X e f)(hr:PXA X es fa)(hs:autoParam (starEach (e :: es) X.env=(false,eval e X.env) :: starEach es X.env) Zau.a2._auto_1):PXA X (e :: es) (fCons f fa):=PA.weak (pa_cons ha hr hs) fun σ H Q ⟨ρ,ds,rv,e,q⟩=>by
 unfold fCons at e
 cases e1:f ρ with
 | none=>rw [e1] at e;cases e
 | some d=>
  cases e2:fa ρ with
  | none=>rw [e1,e2] at e;cases e
  | some dr=>
   rw [e1,e2] at e;cases e
   exact ⟨ρ,d,rv,e1,fun v H1 s1 d1=>⟨ρ,dr,rv.same s1,e2,fun vs H2 s2 l2=>q _ H2 (s1.trans s2) (denL_cons (den_same s2 d1.den) l2)⟩⟩
noncomputable def fTup (fa:FA):FE:=fun ρ=>(fa ρ).bind fun ds=>if ds.length≤lim then some (.tup ds) else none
noncomputable def fLst (fa:FA):FE:=fun ρ=>(fa ρ).bind fun ds=>if ds.length≤lim then some (.own ds) else none
theorem px_tup {k:Nat}(ha:PXA X es fa):PX X (.Tuple es k pos) (fTup fa):=PE.weak (pe_tup ha) fun σ H Q ⟨ρ,d,rv,e,q⟩=>by
 unfold fTup at e
 cases e1:fa ρ with
 | none=>rw [e1] at e;cases e
 | some ds=>
  rw [e1] at e
  simp only [Option.bind_some] at e
  split at e
  ·rename_i hl
   cases e
   refine ⟨ρ,ds,rv,e1,fun vs H1 s1 l1=>⟨?_,fun p hp=>q _ _ (s1.trans (same_upd hp _)) (denF_tup hp l1)⟩⟩
   rw [←denL_length l1];exact Nat.le_trans hl lim_line
  ·cases e
theorem px_lst (ha:PXA X es fa):PX X (.List es pos) (fLst fa):=PE.weak (pe_lst ha) fun σ H Q ⟨ρ,d,rv,e,q⟩=>by
 unfold fLst at e
 cases e1:fa ρ with
 | none=>rw [e1] at e;cases e
 | some ds=>
  rw [e1] at e
  simp only [Option.bind_some] at e
  split at e
  ·rename_i hl
   cases e
   refine ⟨ρ,ds,rv,e1,fun vs H1 s1 l1=>⟨?_,fun p hp=>q _ _ (s1.trans (same_upd hp _)) ((denF_new hp l1).elder s1)⟩⟩
   rw [←denL_length l1];exact Nat.le_trans hl lim_line
  ·cases e
noncomputable def items:D→Option (List D)
 | .tup xs=>some xs
 | .lst xs=>some xs
 | .own xs=>some xs
 | .scr xs=>some xs
 | _=>none
theorem den_items {K:PySem.W.Frag}{O:Addr→Prop}{H:Hp}{d:D}{xs:List D}{v:V}(e:items d=some xs)(h:Den K O H d v):∃a vs,v= .ref a∧(SqL K H a vs∨SqT K H a vs)∧DenL K O H xs vs:=by
 cases d <;> simp only [items] at e <;> cases e <;> rw [Den] at h
 ·obtain ⟨a,vs,ev,q,l⟩:=h;exact ⟨a,vs,ev,.inr q,l⟩
 ·obtain ⟨a,vs,ev,q,_,l⟩:=h;exact ⟨a,vs,ev,.inl (.inl (.inl q)),l⟩
 ·obtain ⟨a,vs,ev,q,_,l⟩:=h;exact ⟨a,vs,ev,.inl (.inl (.inl q)),l⟩
 ·obtain ⟨a,vs,ev,q,l⟩:=h
  refine ⟨a,vs,ev,.inl ?_,l⟩
  rcases q with ⟨o,q⟩ | q
  ·exact .inl (.inr ⟨o,q⟩)
  ·rcases q with (q | ⟨o,q⟩) | q
   ·cases q
   ·cases q
   ·exact .inr q
noncomputable def oIx (x y:D):Option D:=match y with
 | .int i=>(items x).bind fun xs=>(atI xs i).map frz
 | _=>none
theorem atI_den {K:PySem.W.Frag}{O:Addr→Prop}{H:Hp}{xs:List D}{vs:List V}{i:Int}{d:D}(l:DenL K O H xs vs)(e:atI xs i=some d):∃v,atI vs i=some v∧Den K O H d v:=by
 unfold atI at e ⊢
 rw [←denL_length l]
 cases q:ixN xs.length i with
 | none=>rw [q] at e;cases e
 | some j=>rw [q] at e;exact denL_get l e
noncomputable abbrev FO:=Ev→Option (Option Int)
noncomputable def tO (X:Cx) (f:FO):TO:=fun σ H Q=>∃ρ o,RepV X.K ρ σ H∧f ρ=some o∧∀H',Same H H'→Q o H'
noncomputable def PXO (X:Cx) (e:Option Expr) (f:FO):Prop:=PO X e (tO X f)
theorem PO.weak {X:Cx}{e:Option Expr}{t u:TO}(h:PO X e t)(w:∀σ H Q,u σ H Q→t σ H Q):PO X e u:=fun pins s σ H Q I q=>h pins s σ H Q I (w σ H Q q)
noncomputable def fO0:FO:=fun _=>some none
noncomputable def fO1 (f:FE):FO:=fun ρ=>(f ρ).bind fun d=>match d with | .int i=>some (some i) | _=>none
theorem pxo_none:PXO X none fO0:=PO.weak po_none fun σ H Q ⟨ρ,o,rv,e,q⟩=>by cases e;exact q H (Same.refl H)
theorem pxo_some (ha:PX X e f):PXO X (some e) (fO1 f):=PO.weak (po_some ha) fun σ H Q ⟨ρ,o,rv,e,q⟩=>by
 unfold fO1 at e
 cases e1:f ρ with
 | none=>rw [e1] at e;cases e
 | some d=>
  rw [e1] at e
  refine ⟨ρ,d,rv,e1,fun v H1 s1 d1=>?_⟩
  cases d <;> simp only [Option.bind_some] at e <;> cases e
  rename_i i
  exact ⟨i,den_int.mp d1.den,q H1 s1⟩
noncomputable def cutD (xs:List D) (lo hi:Option Int):List D:=(xs.drop (HT.sIx xs.length 0 lo)).take (HT.sIx xs.length xs.length hi - HT.sIx xs.length 0 lo)
theorem cutD_den {K:PySem.W.Frag}{O:Addr→Prop}{H:Hp}{xs:List D}{vs:List V}(lo hi:Option Int)(l:DenL K O H xs vs):DenL K O H (cutD xs lo hi) (cutV vs lo hi):=by
 unfold cutD cutV
 rw [←denL_length l]
 exact denL_take _ (denL_drop _ l)
noncomputable def fCall (k:List D→Option D) (fa:FA):FE:=fun ρ=>(fa ρ).bind k
theorem px_callB {x:Str}{p:Pos}{id:String}{r:List V→Hp→VK→Prop}{k:List D→Option D}(hc:CallR X (.builtin id) r)
  (hk:∀(ds:List D) (d:D) (vs:List V) (H:Hp) (Q:VK),k ds=some d→DenL X.K Emp H ds vs→(∀w H',Same H H'→DenF X.K H H' d w→Q w H')→r vs H Q)
  (hv:bootBuiltins x=some (.builtin id)) (hm:X.mg x=none) (ha:PXA X (e :: es) fa) (hg:autoParam (Gl X x) Zau.a2._auto_1) (hn:autoParam (x≠"__name__") Zau.a1._auto_1) (hdb:autoParam ((x == ("__debug__":Str))=false) Zau.a1._auto_1)
  (he:autoParam (starEach (e :: es) X.env=(false,eval e X.env) :: starEach es X.env) Zau.a2._auto_1) (hpl:autoParam ((backTo pos (starEach es X.env)).any (·.1)=false) Zau.a2._auto_1):PX X (.Call (.Name x p) (e :: es) [] pos) (fCall k fa):=PE.weak (pe_callB hc hg hm hv ha hn hdb he hpl) fun σ H Q ⟨ρ,d,rv,e,q⟩=>by
 unfold fCall at e
 cases e1:fa ρ with
 | none=>rw [e1] at e;cases e
 | some ds=>
  rw [e1] at e
  exact ⟨ρ,ds,rv,e1,fun vs H1 s1 l1=>hk ds d vs H1 Q e l1 fun w H2 s2 d2=>q w H2 (s1.trans s2) (d2.elder s1)⟩
theorem px_callT {x:Str}{p:Pos}{T:String}{r:List V→Hp→VK→Prop}{k:List D→Option D}(hc:CallR X (.type T) r)
  (hk:∀(ds:List D) (d:D) (vs:List V) (H:Hp) (Q:VK),k ds=some d→DenL X.K Emp H ds vs→(∀w H',Same H H'→DenF X.K H H' d w→Q w H')→r vs H Q)
  (hv:bootBuiltins x=some (.type T)) (hm:X.mg x=none) (ha:PXA X (e :: es) fa) (hg:autoParam (Gl X x) Zau.a2._auto_1) (hn:autoParam (x≠"__name__") Zau.a1._auto_1) (hdb:autoParam ((x == ("__debug__":Str))=false) Zau.a1._auto_1)
  (he:autoParam (starEach (e :: es) X.env=(false,eval e X.env) :: starEach es X.env) Zau.a2._auto_1) (hpl:autoParam ((backTo pos (starEach es X.env)).any (·.1)=false) Zau.a2._auto_1):PX X (.Call (.Name x p) (e :: es) [] pos) (fCall k fa):=PE.weak (pe_callTy hc hg hm hv ha hn hdb he hpl) fun σ H Q ⟨ρ,d,rv,e,q⟩=>by
 unfold fCall at e
 cases e1:fa ρ with
 | none=>rw [e1] at e;cases e
 | some ds=>
  rw [e1] at e
  exact ⟨ρ,ds,rv,e1,fun vs H1 s1 l1=>hk ds d vs H1 Q e l1 fun w H2 s2 d2=>q w H2 (s1.trans s2) (d2.elder s1)⟩
theorem denL1 {K:PySem.W.Frag}{O:Addr→Prop}{H:Hp}{d:D}{vs:List V}(l:DenL K O H [d] vs):∃v,vs=[v]∧Den K O H d v:=by
 rw [DenL] at l
 obtain ⟨v,r,rfl,h,l⟩:=l
 rw [DenL] at l;subst l
 exact ⟨v,rfl,h⟩
theorem denL2 {K:PySem.W.Frag}{O:Addr→Prop}{H:Hp}{d d':D}{vs:List V}(l:DenL K O H [d,d'] vs):∃v v',vs=[v,v']∧Den K O H d v∧Den K O H d' v':=by
 rw [DenL] at l
 obtain ⟨v,r,rfl,h,l⟩:=l
 obtain ⟨v',rfl,h'⟩:=denL1 l
 exact ⟨v,v',rfl,h,h'⟩
noncomputable def kLen:List D→Option D
 | [d]=>(items d).map fun xs=>.int xs.length
 | _=>none
theorem px_len {p:Pos}(hm:X.mg "len"=none)(ha:PXA X [e] fa)(hg:autoParam (Gl X "len") Zau.a2._auto_1)(he:autoParam (starEach [e] X.env=(false,eval e X.env) :: starEach [] X.env) Zau.a2._auto_1):PX X (.Call (.Name "len" p) [e] [] pos) (fCall kLen fa):=px_callB call_len_seq (by
 intro ds d vs H Q ek l q
 match ds,ek,l with
 | [x],ek,l=>
  simp only [kLen] at ek
  cases e1:items x with
  | none=>rw [e1] at ek;cases ek
  | some xs=>
   rw [e1] at ek;cases ek
   obtain ⟨v,rfl,h⟩:=denL1 l
   obtain ⟨a,ws,rfl,hq,lw⟩:=den_items e1 h
   exact ⟨a,ws,rfl,hq,by rw [←denL_length lw];exact q _ H (Same.refl H) denF_int⟩) PySem.boot_len hm ha hg (by decide) (by decide) he rfl
noncomputable def kAbs:List D→Option D
 | [.int i]=>some (.int (if i < 0 then -i else i))
 | _=>none
noncomputable def kMax:List D→Option D
 | [.int i,.int j]=>some (.int (if j > i then j else i))
 | _=>none
theorem px_max {p:Pos}{e':Expr}(hc:X.calm=true)(hm:X.mg "max"=none)(ha:PXA X [e,e'] fa)(hb:autoParam (bootBuiltins "max"=some (.builtin "max")) Zau.a2._auto_1)(hg:autoParam (Gl X "max") Zau.a2._auto_1)(he:autoParam (starEach [e,e'] X.env=(false,eval e X.env) :: starEach [e'] X.env) Zau.a2._auto_1)(hpl:autoParam ((backTo pos (starEach [e'] X.env)).any (·.1)=false) Zau.a2._auto_1):PX X (.Call (.Name "max" p) [e,e'] [] pos) (fCall kMax fa):=px_callB (call_max2 hc) (by
 intro ds d vs H Q ek l q
 unfold kMax at ek
 split at ek
 ·cases ek
  obtain ⟨v,v',rfl,h,h'⟩:=denL2 l
  exact ⟨_,_,by rw [den_int.mp h,den_int.mp h'],q _ H (Same.refl H) denF_int⟩
 ·cases ek) hb hm ha hg (by decide) (by decide) he hpl
end
end Tw
set_option Elab.async false
set_option linter.all false
set_option maxRecDepth 100000
set_option maxHeartbeats 1000000
namespace Tw
open PySem PySem.Spec PyProof.Rows L2
section
variable {X:Cx}{a b c e:Expr}{es rest:List Expr}{pos:Pos}{f g h:FE}{t u:FT}{fa:FA}
noncomputable def fBits (f:FE):FE:=fun ρ=>(f ρ).bind fun d=>match d with | .int i=>some (.int (Builtin.Int.intBits i:Nat)) | _=>none
theorem inv_big {pins:List (Addr×Obj)}{σ:L2.St}{H:Hp}{s:Shared}(I:Inv X pins σ H s):sysModules < s.heap.objs.size:=by
 have h:mainGlobals < s.heap.objs.size:=(I.mod.glob.keeps I.bk).lt
 exact Nat.lt_trans (by decide) h
noncomputable def tyD:D→String
 | .non=>"NoneType"
 | .bl _=>"bool"
 | .int _=>"int"
 | .str _=>"str"
 | .tup _=>"tuple"
 | .dic=>"dict"
 | .dct _ _=>"dict"
 | .odt _ _=>"dict"
 | _=>"list"
noncomputable def isX:D→Bool
 | .exn _=>true
 | _=>false
noncomputable def isiB (T:String) (d:D):Bool:=tyD d == T || (tyD d == "bool" && T == "int")
noncomputable def Kit (K:PySem.W.Frag) (T:String):Prop:=∀d:D,PySem.W.kitOne K (.type (tyD d)) (.type T)=some (isiB T d)
theorem call_isi {T:String}(hk:Kit X.K T):CallR X (.builtin "isinstance") (fun xs H Q=>∃x d,xs=[x,.ty T]∧isX d=false∧Den X.K Emp H d x∧Q (.bl (isiB T d)) H):=by
 intro pins s σ H xs us Q I r h
 obtain ⟨x,d,rfl,nx,hd,q⟩:=h
 obtain ⟨u,w,rfl,ru,rw'⟩:=vals2 r
 cases (show w=Value.type T from rw')
 have e:=hk d
 have fin:∀tk,EP X pins σ Q (.bool (isiB T d)) {s with toks:=tk}:=fun tk=>⟨.bl _,H,I.tok _,rfl,q⟩
 have lst:∀a vs,SqL X.K H a vs→u= .ref a→tyD d="list"→wpAny (model X.prog X.w) X.A (call (.builtin "isinstance") [u,.type T]) (EP X pins σ Q) X.xe s:=fun a vs hq eu et=>by
  obtain ⟨its,_,p,_⟩:=I.list hq
  obtain ⟨o,n,h1,h2,_⟩:=p
  rw [et] at e
  subst eu
  exact PySem.W.kia_one PySem.W.kitx_list I.kIn ⟨o,h1,h2⟩ e (fun z=>nomatch z) fin
 cases d with
 | non=>rw [Den] at hd;subst hd;cases (show u=Value.none from ru);exact PySem.W.kia_one PySem.W.kitx_none I.kIn True.intro e (fun z=>nomatch z) fin
 | bl y=>rw [Den] at hd;subst hd;cases (show u=Value.bool y from ru);exact PySem.W.kia_one PySem.W.kitx_bool I.kIn True.intro e (fun z=>nomatch z) fin
 | int i=>rw [Den] at hd;subst hd;obtain ⟨t,z⟩:=(show ∃t,u=Value.int i t from ru);cases z;exact PySem.W.kia_one PySem.W.kitx_int I.kIn True.intro e (fun z=>nomatch z) fin
 | str y=>rw [Den] at hd;subst hd;obtain ⟨t,z⟩:=(show ∃t,u=Value.str y t from ru);cases z;exact PySem.W.kia_one PySem.W.kitx_str I.kIn True.intro e (fun z=>nomatch z) fin
 | tup ys=>
  rw [Den] at hd
  obtain ⟨a,vs,rfl,hq,_⟩:=hd
  cases (show u=Value.ref a from ru)
  obtain ⟨its,_,p,_⟩:=I.tuple hq
  obtain ⟨o,h1,h2,_⟩:=p
  exact PySem.W.kia_one PySem.W.kitx_tuple I.kIn ⟨o,h1,h2⟩ e (fun z=>nomatch z) fin
 | lst ys=>
  rw [Den] at hd
  obtain ⟨a,vs,rfl,hq,_⟩:=hd
  exact lst a vs (.inl (.inl hq)) ru rfl
 | own ys=>
  rw [Den] at hd
  obtain ⟨a,vs,rfl,hq,_⟩:=hd
  exact lst a vs (.inl (.inl hq)) ru rfl
 | scr ys=>
  rw [Den] at hd
  obtain ⟨a,vs,rfl,hq,_⟩:=hd
  refine lst a vs ?_ ru rfl
  rcases hq with ⟨o,hq⟩ | hq
  ·exact .inl (.inr ⟨o,hq⟩)
  ·rcases hq with (hq | ⟨o,hq⟩) | hq
   ·cases hq
   ·cases hq
   ·exact .inr hq
 | dic=>
  rw [Den] at hd
  obtain ⟨a,kvs,rfl,hq⟩:=hd
  cases (show u=Value.ref a from ru)
  obtain ⟨_,_,vs,_,p⟩:=(show ObjOk X.prog X.w H s.heap a (.dK kvs) from I.hok a _ hq)
  obtain ⟨o,es,ep,h1,h2,_⟩:=p
  exact PySem.W.kia_one PySem.W.kitx_dict I.kIn ⟨o,h1,h2.1⟩ e (fun z=>nomatch z) fin
 | dct ks ys=>
  rw [Den] at hd
  obtain ⟨a,vs,rfl,hq,_⟩:=hd
  cases (show u=Value.ref a from ru)
  obtain ⟨_,_,xs,_,o,es,ep,h1,h2,_⟩:=(show ObjOk X.prog X.w H s.heap a (.dT (zipK ks vs)) from I.hok a _ hq)
  exact PySem.W.kia_one PySem.W.kitx_dict I.kIn ⟨o,h1,h2.1⟩ e (fun z=>nomatch z) fin
 | odt ks ys=>
  rw [Den] at hd
  obtain ⟨a,vs,rfl,hq,_⟩:=hd
  cases (show u=Value.ref a from ru)
  obtain ⟨_,_,xs,_,o,es,ep,h1,h2,_⟩:=(show ObjOk X.prog X.w H s.heap a (.dT (zipK ks vs)) from I.hok a _ hq)
  exact PySem.W.kia_one PySem.W.kitx_dict I.kIn ⟨o,h1,h2.1⟩ e (fun z=>nomatch z) fin
 | exn C=>cases nx
noncomputable def fIsi (T:String) (f:FE):FE:=fun ρ=>(f ρ).bind fun d=>if isX d=true then none else some (.bl (isiB T d))
theorem px_isi {T:String}{x:Str}{p p2:Pos}(hk:Kit X.K T)(hm:X.mg "isinstance"=none)(hmT:X.mg x=none)(ha:PX X e f)(hT:autoParam (bootBuiltins x=some (.type T)) Zau.a2._auto_1)(hb:autoParam (bootBuiltins "isinstance"=some (.builtin "isinstance")) Zau.a2._auto_1)(hg:autoParam (Gl X "isinstance") Zau.a2._auto_1)(hgT:autoParam (Gl X x) Zau.a2._auto_1)(hn:autoParam (x≠"__name__") Zau.a1._auto_1)(hdb:autoParam ((x == ("__debug__":Str))=false) Zau.a1._auto_1)
  (he:autoParam (starEach [e,.Name x p2] X.env=(false,eval e X.env) :: starEach [.Name x p2] X.env) Zau.a2._auto_1) (hpl:autoParam ((backTo pos (starEach [.Name x p2] X.env)).any (·.1)=false) Zau.a2._auto_1) (hs:autoParam (starEach [.Name x p2] X.env=(false,eval (.Name x p2) X.env) :: starEach [] X.env) Zau.a2._auto_1):PX X (.Call (.Name "isinstance" p) [e,.Name x p2] [] pos) (fIsi T f):=
 PE.weak (pe_callB (call_isi hk) hg hm hb (pa_cons ha (pa_cons (pe_bltn (v:=.ty T) hgT hmT hT rfl hn hdb) pa_nil hs) he) (by decide) (by decide) he hpl) fun σ H Q ⟨ρ,d,rv,e,q⟩=>by
 unfold fIsi at e
 cases e1:f ρ with
 | none=>rw [e1] at e;cases e
 | some x=>
  rw [e1] at e
  simp only [Option.bind_some] at e
  split at e
  ·cases e
  ·rename_i nx
   cases e
   exact ⟨ρ,x,rv,e1,fun v H1 s1 d1=>⟨v,x,rfl,by simpa using nx,d1.den,q _ H1 s1 denF_bl⟩⟩
noncomputable def isD:D→D→Option Bool
 | .non,.non=>some true
 | d,.non=>some false
 | .bl a,.bl b=>some (a == b)
 | .non,.bl _=>some false
 | .int _,.bl _=>some false
 | .str _,.bl _=>some false
 | .tup _,.bl _=>some false
 | .lst _,.bl _=>some false
 | .own _,.bl _=>some false
 | .dic,.bl _=>some false
 | .exn _,.bl _=>some false
 | _,_=>none
end
end Tw
set_option Elab.async false
set_option linter.all false
set_option maxRecDepth 100000
set_option maxHeartbeats 1000000
namespace Tw
open PySem PySem.Spec PyProof.Rows L2
section
variable {X:Cx}{a b c e:Expr}{es rest:List Expr}{pos:Pos}{f g h:FE}{t u:FT}{fa:FA}
theorem kit_mk {K:PySem.W.Frag}{T:String}(h:T="int"∨T="bool"∨T="str"∨T="tuple"∨T="list"):Kit K T:=by
 rcases h with h | h | h | h | h <;> subst h <;> intro d <;> cases d <;> rfl
noncomputable def oIs (neg:Bool) (x y:D):Option D:=(isD x y).map fun k=>.bl (if neg then !k else k)
noncomputable def flatE:D→D→Option Bool
 | .non,.non=>some true
 | .bl a,.bl b=>some (a == b)
 | .bl a,.int b=>some ((if a then 1 else 0) == b)
 | .int a,.bl b=>some (a == (if b then 1 else 0))
 | .int a,.int b=>some (a == b)
 | .str a,.str b=>some (a == b)
 | _,_=>none
noncomputable def deqL (eq:D→D→Option Bool):List D→List D→Option Bool
 | [],[]=>some true
 | [],_ :: _=>some false
 | _ :: _,[]=>some false
 | x :: xs,y :: ys=>(eq x y).bind fun p=>(deqL eq xs ys).map fun q=>p && q
noncomputable def deq:Nat→D→D→Option Bool
 | 0,x,y=>flatE x y
 | n + 1,.tup xs,.tup ys=>deqL (deq n) xs ys
 | n + 1,.lst xs,.lst ys=>deqL (deq n) xs ys
 | n + 1,.lst xs,.own ys=>deqL (deq n) xs ys
 | n + 1,.own xs,.lst ys=>deqL (deq n) xs ys
 | n + 1,.own xs,.own ys=>deqL (deq n) xs ys
 | _ + 1,x,y=>flatE x y
theorem flat_eqAt {K:PySem.W.Frag}{O:Addr→Prop}{H:Hp}{A:Around}{s:Shared}{x y:D}{v u:V}{vv uu:Value}{k:Bool}(e:flatE x y=some k)(hx:Den K O H x v)(hy:Den K O H y u)(rx:RelV v vv)(ry:RelV u uu):SeqAt.EqAt A s vv uu k∧SeqAt.RcAt A s vv uu k∧SeqAt.RcNeAt A s vv uu (!k):=by
 cases x <;> cases y <;> simp only [flatE] at e <;> cases e <;> rw [Den] at hx <;> rw [Den] at hy <;> subst hx <;> subst hy
 ·cases (show vv=Value.none from rx);cases (show uu=Value.none from ry);exact ⟨.same _,.none_none,.none_none⟩
 ·cases (show vv=Value.bool _ from rx);cases (show uu=Value.bool _ from ry);exact ⟨.bool_bool _ _,.bool_bool _ _,.bool_bool _ _⟩
 ·cases (show vv=Value.bool _ from rx);obtain ⟨t,z⟩:=(show ∃t,uu=Value.int _ t from ry);cases z;exact ⟨.bool_int _ _ _,.bool_int _ _ _,.bool_int _ _ _⟩
 ·cases (show uu=Value.bool _ from ry);obtain ⟨t,z⟩:=(show ∃t,vv=Value.int _ t from rx);cases z;exact ⟨.int_bool _ _ _,.int_bool _ _ _,.int_bool _ _ _⟩
 ·obtain ⟨t,z⟩:=(show ∃t,vv=Value.int _ t from rx);cases z;obtain ⟨t,z⟩:=(show ∃t,uu=Value.int _ t from ry);cases z;exact ⟨.int_int _ _ _ _,.int_int _ _ _ _,.int_int _ _ _ _⟩
 ·obtain ⟨t,z⟩:=(show ∃t,vv=Value.str _ t from rx);cases z;obtain ⟨t,z⟩:=(show ∃t,uu=Value.str _ t from ry);cases z;exact ⟨.str_str _ _ _ _,.str_str _ _ _ _,.str_str _ _ _ _⟩
theorem flat_self {K:PySem.W.Frag}{O:Addr→Prop}{H:Hp}{x y:D}{v:V}{k:Bool}(e:flatE x y=some k)(hx:Den K O H x v)(hy:Den K O H y v):k=true:=by
 cases x <;> cases y <;> simp only [flatE] at e <;> cases e <;> rw [Den] at hx <;> rw [Den] at hy
 all_goals first
  | rfl
  | (rw [hx] at hy;cases hy;simp)
  | (rw [hx] at hy;cases hy)
theorem deqL_at {K:PySem.W.Frag}{O:Addr→Prop}{H:Hp}{A:Around}{s:Shared}{eq:D→D→Option Bool}(hq:∀x y v u vv uu k,eq x y=some k→Den K O H x v→Den K O H y u→RelV v vv→RelV u uu→SeqAt.EqAt A s vv uu k):
  ∀{xs ys:List D} {vs us:List V} {its jts:List Value} {k:Bool},deqL eq xs ys=some k→DenL K O H xs vs→DenL K O H ys us→Vals vs its→Vals us jts→
   ∃e:Nat→Bool,(∀j (h1:j < its.toArray.size) (h2:j < jts.toArray.size),SeqAt.EqAt A s its.toArray[j] jts.toArray[j] (e j))∧k=((List.range (min its.toArray.size jts.toArray.size)).all e && its.toArray.size == jts.toArray.size)
 | [],[],vs,us,its,jts,k,e,hx,hy,rx,ry=>by
  rw [DenL] at hx hy;subst hx;subst hy;cases rx;cases ry
  cases e
  exact ⟨fun _=>true,fun j h1 h2=>absurd h1 (by simp),rfl⟩
 | [],y :: ys,vs,us,its,jts,k,e,hx,hy,rx,ry=>by
  rw [DenL] at hx;rw [DenL] at hy;subst hx
  obtain ⟨u,r,rfl,_,_⟩:=hy
  cases rx;cases ry
  cases e
  exact ⟨fun _=>true,fun j h1 h2=>absurd h1 (by simp),by simp⟩
 | x :: xs,[],vs,us,its,jts,k,e,hx,hy,rx,ry=>by
  rw [DenL] at hx;rw [DenL] at hy;subst hy
  obtain ⟨u,r,rfl,_,_⟩:=hx
  cases rx;cases ry
  cases e
  exact ⟨fun _=>true,fun j h1 h2=>absurd h2 (by simp),by simp⟩
 | x :: xs,y :: ys,vs,us,its,jts,k,e,hx,hy,rx,ry=>by
  rw [DenL] at hx hy
  obtain ⟨v,r,rfl,dx,lx⟩:=hx
  obtain ⟨u,q,rfl,dy,ly⟩:=hy
  cases rx with
  | cons r1 rs1=>
   cases ry with
   | cons r2 rs2=>
    rw [deqL] at e
    cases e1:eq x y with
    | none=>rw [e1] at e;cases e
    | some p=>
     cases e2:deqL eq xs ys with
     | none=>rw [e1,e2] at e;cases e
     | some q2=>
      rw [e1,e2] at e;cases e
      obtain ⟨w,h1,h2⟩:=deqL_at hq e2 lx ly rs1 rs2
      refine ⟨fun j=>if j=0 then p else w (j - 1),fun j g1 g2=>?_,?_⟩
      ·cases j with
       | zero=>simpa using hq x y v u _ _ p e1 dx dy r1 r2
       | succ j=>
        have z:=h1 j (by simpa using g1) (by simpa using g2)
        simp only [List.getElem_toArray] at z ⊢
        simpa using z
      ·rw [h2]
       simp only [List.size_toArray,List.length_cons]
       rw [show min (_ + 1) (_ + 1)=min _ _ + 1 from Nat.succ_min_succ _ _,List.range_succ_eq_map,List.all_cons,List.all_map]
       simp [Function.comp_def,Bool.and_assoc]
theorem deqL_self {K:PySem.W.Frag}{O:Addr→Prop}{H:Hp}{eq:D→D→Option Bool}(hq:∀x y v k,eq x y=some k→Den K O H x v→Den K O H y v→k=true):
  ∀{xs ys:List D} {vs:List V} {k:Bool},deqL eq xs ys=some k→DenL K O H xs vs→DenL K O H ys vs→k=true
 | [],[],vs,k,e,hx,hy=>by cases e;rfl
 | [],y :: ys,vs,k,e,hx,hy=>by have:=denL_length hx;have:=denL_length hy;simp at *;(first|lia|omega)
 | x :: xs,[],vs,k,e,hx,hy=>by have:=denL_length hx;have:=denL_length hy;simp at *;(first|lia|omega)
 | x :: xs,y :: ys,vs,k,e,hx,hy=>by
  rw [DenL] at hx hy
  obtain ⟨v,r,rfl,dx,lx⟩:=hx
  obtain ⟨u,q,e0,dy,ly⟩:=hy
  cases e0
  rw [deqL] at e
  cases e1:eq x y with
  | none=>rw [e1] at e;cases e
  | some p=>
   cases e2:deqL eq xs ys with
   | none=>rw [e1,e2] at e;cases e
   | some q2=>
    rw [e1,e2] at e;cases e
    rw [hq x y v p e1 dx dy,deqL_self hq e2 lx ly];rfl
theorem deq_cases {n:Nat}{x y:D}{k:Bool}(e:deq (n + 1) x y=some k):flatE x y=some k∨(∃xs ys,x= .tup xs∧y= .tup ys∧deqL (deq n) xs ys=some k)∨∃xs ys,asL x=some xs∧asL y=some ys∧deqL (deq n) xs ys=some k:=by
 cases x <;> cases y <;> first
  | exact .inl e
  | exact .inr (.inl ⟨_,_,rfl,rfl,e⟩)
  | exact .inr (.inr ⟨_,_,rfl,rfl,e⟩)
theorem deq_self {pins:List (Addr×Obj)}{σ:L2.St}{H:Hp}{s:Shared}(I:Inv X pins σ H s):∀(n:Nat) (x y:D) (v:V) (k:Bool),deq n x y=some k→Den X.K Emp H x v→Den X.K Emp H y v→k=true
 | 0,x,y,v,k,e,hx,hy=>flat_self e hx hy
 | n + 1,x,y,v,k,e,hx,hy=>by
  rcases deq_cases e with e | ⟨xs,ys,rfl,rfl,e⟩ | ⟨xs,ys,e1,e2,e⟩
  ·exact flat_self e hx hy
  ·rw [Den] at hx hy
   obtain ⟨a,vs,rfl,q1,l1⟩:=hx
   obtain ⟨b,us,z,q2,l2⟩:=hy
   cases z
   rw [I.tuple_inj q2 q1] at l2
   exact deqL_self (deq_self I n) e l1 l2
  ·obtain ⟨a,vs,rfl,q1,_,l1⟩:=den_asL e1 hx
   obtain ⟨b,us,z,q2,_,l2⟩:=den_asL e2 hy
   cases z
   rw [q1] at q2;cases q2
   exact deqL_self (deq_self I n) e l1 l2
theorem deq_at {pins:List (Addr×Obj)}{σ:L2.St}{H:Hp}{s:Shared}(I:Inv X pins σ H s):∀(n:Nat) (A:Around),A.units + n + 1 < cLine→∀(x y:D) (v u:V) (vv uu:Value) (k:Bool),deq n x y=some k→Den X.K Emp H x v→Den X.K Emp H y u→RelV v vv→RelV u uu→
  SeqAt.EqAt A s vv uu k∧SeqAt.RcAt A s vv uu k∧SeqAt.RcNeAt A s vv uu (!k)
 | 0,A,hA,x,y,v,u,vv,uu,k,e,hx,hy,rx,ry=>flat_eqAt e hx hy rx ry
 | n + 1,A,hA,x,y,v,u,vv,uu,k,e,hx,hy,rx,ry=>by
  have hin:∀x y v u vv uu k,deq n x y=some k→Den X.K Emp H x v→Den X.K Emp H y u→RelV v vv→RelV u uu→SeqAt.EqAt A.in1 s vv uu k:=fun x y v u vv uu k e hx hy rx ry=>(deq_at I n A.in1 (by show A.units + 1 + n + 1 < _;(first|lia|omega)) x y v u vv uu k e hx hy rx ry).1
  have hu:A.units < cLine:=by (first|lia|omega)
  have done:∀(p q:Addr),v= .ref p→u= .ref q→SeqAt.RcAt A s (.ref p) (.ref q) k→SeqAt.RcNeAt A s (.ref p) (.ref q) (!k)→SeqAt.EqAt A s vv uu k∧SeqAt.RcAt A s vv uu k∧SeqAt.RcNeAt A s vv uu (!k):=fun p q ev eu rc rn=>by
   subst ev;subst eu
   cases (show vv=Value.ref p from rx);cases (show uu=Value.ref q from ry)
   refine ⟨?_,rc,rn⟩
   by_cases pq:p=q
   ·subst pq
    rw [deq_self I (n + 1) x y _ k e hx hy]
    exact .same _
   ·exact .of_refs pq rc
  rcases deq_cases e with e | ⟨xs,ys,rfl,rfl,e⟩ | ⟨xs,ys,e1,e2,e⟩
  ·exact flat_eqAt e hx hy rx ry
  ·have hx':=hx
   have hy':=hy
   rw [Den] at hx' hy'
   obtain ⟨p,vs,ev,q1,l1⟩:=hx'
   obtain ⟨q,us,eu,q2,l2⟩:=hy'
   obtain ⟨its,r1,t1,_⟩:=I.tuple q1
   obtain ⟨jts,r2,t2,_⟩:=I.tuple q2
   obtain ⟨w,h1,h2⟩:=deqL_at hin e l1 l2 r1 r2
   refine done p q ev eu ?_ ?_
   ·rw [h2]
    exact SeqAt.RcAt.tuples t1 t2 hu h1
   ·rw [h2]
    exact SeqAt.RcNeAt.tuples t1 t2 hu h1
  ·obtain ⟨p,vs,ev,q1,_,l1⟩:=den_asL e1 hx
   obtain ⟨q,us,eu,q2,_,l2⟩:=den_asL e2 hy
   obtain ⟨its,r1,t1,_⟩:=I.list (.inl (.inl q1))
   obtain ⟨jts,r2,t2,_⟩:=I.list (.inl (.inl q2))
   obtain ⟨w,h1,h2⟩:=deqL_at hin e l1 l2 r1 r2
   by_cases sz:its.toArray.size=jts.toArray.size
   ·have r1:=SeqAt.RcAt.lists t1.isList t2.isList sz hu h1
    have r2:=SeqAt.RcNeAt.lists t1.isList t2.isList sz hu h1
    rw [sz,Nat.min_self,show (jts.toArray.size == jts.toArray.size)=true by simp,Bool.and_true] at h2
    rw [sz,←h2] at r1 r2
    exact done p q ev eu r1 r2
   ·have r1:=SeqAt.RcAt.lists_lengths (A:=A) t1.isList t2.isList (by simpa using sz) hu
    have r2:=SeqAt.RcNeAt.lists_lengths (A:=A) t1.isList t2.isList (by simpa using sz) hu
    rw [show (its.toArray.size == jts.toArray.size)=false by simpa using sz,Bool.and_false] at h2
    subst h2
    exact done p q ev eu r1 r2
noncomputable def rEqD (K:PySem.W.Frag) (neg:Bool):R2:=fun v u H Q=>∃x y k,deq 20 x y=some k∧Den K Emp H x v∧Den K Emp H y u∧Q (.bl (if neg then !k else k)) H
theorem op_eqD {k:Nat}(hr:Room k X.A):OpR X (compareOp .Eq) (rEqD X.K false):=by
 intro pins s σ H x y v u Q I rx ry ⟨dx,dy,k,e,hx,hy,q⟩
 have:=(deq_at I 20 X.A (by have:=hr.units;(first|lia|omega)) dx dy x y v u k e hx hy rx ry).2.1
 exact this X.prog X.w X.xe _ ⟨.bl k,H,I,rfl,q⟩
theorem op_neD {k:Nat}(hr:Room k X.A):OpR X (compareOp .NotEq) (rEqD X.K true):=by
 intro pins s σ H x y v u Q I rx ry ⟨dx,dy,k,e,hx,hy,q⟩
 have:=(deq_at I 20 X.A (by have:=hr.units;(first|lia|omega)) dx dy x y v u k e hx hy rx ry).2.2
 exact this X.prog X.w X.xe _ ⟨.bl (!k),H,I,rfl,q⟩
noncomputable def oEqN (neg:Bool) (x y:D):Option D:=(deq 20 x y).map fun k=>.bl (if neg then !k else k)
theorem kEq {neg:Bool}:∀(x y d:D) (v u:V) (H:Hp) (Q:VK),oEqN neg x y=some d→Den X.K Emp H x v→Den X.K Emp H y u→(∀w H',Same H H'→DenF X.K H H' d w→Q w H')→rEqD X.K neg v u H Q:=by
 intro x y d v u H Q e hx hy q
 unfold oEqN at e
 cases e1:deq 20 x y with
 | none=>rw [e1] at e;cases e
 | some k=>rw [e1] at e;cases e;exact ⟨x,y,k,e1,hx,hy,q _ H (Same.refl H) denF_bl⟩
theorem px_eq {k:Nat}(hr:Room k X.A)(ha:PX X a f)(hb:PX X b g):PX X (.Compare a [.Eq] [b] pos) (fBin (oEqN false) f g):=px_cmp (op_eqD hr) kEq ha hb
theorem pxt_eq {k:Nat}(hr:Room k X.A)(ha:PX X a f)(hb:PX X b g):PXT X (.Compare a [.Eq] [b] pos) (fTest (fBin (oEqN false) f g)):=pt_cmpX (op_eqD hr) kEq ha hb
theorem pxt_ne {k:Nat}(hr:Room k X.A)(ha:PX X a f)(hb:PX X b g):PXT X (.Compare a [.NotEq] [b] pos) (fTest (fBin (oEqN true) f g)):=pt_cmpX (op_neD hr) kEq ha hb
end
end Tw
set_option Elab.async false
set_option linter.all false
set_option maxRecDepth 100000
set_option maxHeartbeats 1000000
namespace Tw
open PySem PySem.Spec PyProof.Rows L2
noncomputable def fThen (F G:FS):FS:=fun ρ=>(F ρ).bind fun r=>match r with
 | .nx ρ'=>G ρ'
 | r=>some r
section
variable {X:Cx}{P:List (D×V)}{a b c e:Expr}{es:List Expr}{st:Stmt}{rest bd els:List Stmt}{pos:Pos}{f g:FE}{t:FT}{fa:FA}{F G:FS}
theorem px_nil:PXSs X [] (fun ρ=>some (.nx ρ)):=PSs.weak pss_nil fun E σ H ⟨P,own,ρ,r,rp,e,q⟩=>by cases e;exact q own σ H rp
theorem px_cons (h1:PXS X st F)(h2:PXSs X rest G):PXSs X (st :: rest) (fThen F G):=PSs.weak (pss_cons h1 h2) fun E σ H ⟨P,own,ρ,r,rp,e,q⟩=>by
 unfold fThen at e
 cases e1:F ρ with
 | none=>rw [e1] at e;cases e
 | some r1=>
  rw [e1] at e
  refine ⟨P,own,ρ,r1,rp,e1,?_⟩
  cases r1 with
  | nx ρ'=>exact fun own' σ' H' rp'=>⟨P,own',ρ',r,rp',e,q⟩
  | bk ρ'=>cases e;exact q
  | ct ρ'=>cases e;exact q
  | rt d=>cases e;exact q
theorem px_last (h1:PXS X st F):PXSs X [st] F:=pss_one h1
noncomputable def fRet (f:FE):FS:=fun ρ=>(f ρ).map .rt
theorem pxs_ret (ha:PX X e f):PXS X (.Return (some e) pos) (fRet f):=PS.weak (ps_ret ha) fun E σ H ⟨P,own,ρ,r,rp,e,q⟩=>by
 unfold fRet at e
 cases e1:f ρ with
 | none=>rw [e1] at e;cases e
 | some d=>
  rw [e1] at e;cases e
  exact ⟨ρ,d,rp.view,e1,fun v H1 s1 d1=>q v H1 (rp.same.trans s1) (d1.elder rp.same)⟩
noncomputable def fRetN (i:Nat):FS:=fun ρ=>match ρ[i]? with
 | some (some d)=>some (.rt d)
 | _=>none
theorem pxs_retN (i:Nat){x:Str}{p:Pos}(hN:autoParam (X.N[i]? =some x) Zau.a2._auto_1)(hv:autoParam (Vis X.env.scope x) Zau.a4._auto_1)(hd:autoParam ((x == ("__debug__":Str))=false) Zau.a1._auto_1)(hcd:autoParam ((x == ("__classdict__":Str))=false) Zau.a1._auto_1):
  PXS X (.Return (some (.Name x p)) pos) (fRetN i):=PS.weak (ps_ret (pe_var hN hv hd hcd)) fun E σ H ⟨P,own,ρ,r,rp,e,q⟩=>by
 unfold fRetN at e
 split at e
 ·rename_i d e0
  cases e
  obtain ⟨v,h1,h2⟩:=rp.slot i d e0
  obtain ⟨v',h1',h3⟩:=rp.view i d e0
  rw [h1] at h1';cases h1'
  refine ⟨v,h1,q v H rp.same ?_⟩
  cases d with
  | own xs=>
   obtain ⟨a,vs,e1,e2,e3,l⟩:=h2
   exact ⟨a,vs,e2,rp.new i a e1,e3,denL_mono (fun _ _ q _=>q) rp.isL (fun b z=>.inl ⟨i,by rw [z];exact e1⟩) _ _ l⟩
  | odt ks xs=>
   obtain ⟨a,vs,e1,e2,e3,hl,fl,l⟩:=h2
   exact ⟨a,vs,e2,rp.new i a e1,e3,hl,denL_lf _ _ fl l⟩
  | _=>exact h3
 ·cases e
noncomputable def fIfS (t:FT) (F G:FS):FS:=fun ρ=>(t ρ).bind fun k=>if k=true then F ρ else G ρ
theorem pxs_if (hc:PXT X c t)(ha:PXSs X bd F)(hb:PXSs X els G):PXS X (.If c bd els pos) (fIfS t F G):=PS.weak (ps_if hc ha hb) fun E σ H ⟨P,own,ρ,r,rp,e,q⟩=>by
 unfold fIfS at e
 cases e1:t ρ with
 | none=>rw [e1] at e;cases e
 | some k=>
  rw [e1] at e
  refine ⟨ρ,k,rp.view,e1,fun H1 s1=>?_⟩
  cases k with
  | true=>rw [if_pos rfl];exact ⟨P,own,ρ,r,rp.grow s1,e,q⟩
  | false=>rw [if_neg Bool.false_ne_true];exact ⟨P,own,ρ,r,rp.grow s1,e,q⟩
noncomputable def fAsg (i:Nat) (f:FE):FS:=fun ρ=>(f ρ).map fun d=>.nx (bindD ρ i d)
theorem pxs_set (i:Nat){x:Str}{pos':Pos}(hN:X.N.Nodup)(ha:PX X e f)(hi:autoParam (X.N[i]? =some x) Zau.a2._auto_1)(hx:autoParam (Loc X.env.scope x) Zau.a6._auto_1)(hs:autoParam (swapsWith e (some (.Name x pos')) pos.line X.env=pure false) Zau.a2._auto_1)(hf:autoParam (X.fn x=true∨X.env.scope.names.lookup x=some .local) Zau.a7._auto_1):
  PXS X (.Assign [.Name x pos'] e pos) (fAsg i f):=PS.weak (ps_set hN hi hx ha hs hf) fun E σ H ⟨P,own,ρ,r,rp,e,q⟩=>by
 unfold fAsg at e
 cases e1:f ρ with
 | none=>rw [e1] at e;cases e
 | some d=>
  rw [e1] at e;cases e
  refine ⟨ρ,d,rp.view,e1,fun v H1 s1 d1=>?_⟩
  obtain ⟨own',rp'⟩:=rp.bind (i:=i) s1 d1
  exact q own' _ H1 rp'
noncomputable def fPar (i j:Nat) (fa:FA):FS:=fun ρ=>(fa ρ).bind fun ds=>match ds with
 | [d,d']=>if lf d=true∧lf d'=true then some (.nx ((ρ.set i (some d)).set j (some d'))) else none
 | _=>none
noncomputable def setAll:List Nat→List D→Ev→Ev
 | i :: is,d :: ds,ρ=>setAll is ds (ρ.set i (some d))
 | _,_,ρ=>ρ
noncomputable def fUnp (is:List Nat) (f:FE):FS:=fun ρ=>(f ρ).bind fun d=>match d with
 | .tup ds=>if ds.length=is.length∧lfL ds=true then some (.nx (setAll is ds ρ)) else none
 | _=>none
inductive Tg (X:Cx):List Expr→List Nat→Prop where
 | nil:Tg X [] []
 | cons {i:Nat} {x:Str} {p:Pos} {es:List Expr} {is:List Nat} (hi:X.N[i]? =some x) (hx:Loc X.env.scope x) (hf:X.fn x=true∨X.env.scope.names.lookup x=some .local)
   (hs:(assignEach (.Name x p :: es) X.env).map (·.2)=assign (.Name x p) X.env :: (assignEach es X.env).map (·.2)) (t:Tg X es is):Tg X (.Name x p :: es) (i :: is)
theorem tg_cons {i:Nat}{x:Str}{p:Pos}{es:List Expr}{is:List Nat}(t:Tg X es is)(hi:autoParam (X.N[i]? =some x) Zau.a2._auto_1)(hx:autoParam (Loc X.env.scope x) Zau.a6._auto_1)(hf:autoParam (X.fn x=true∨X.env.scope.names.lookup x=some .local) Zau.a7._auto_1)
   (hs:autoParam ((assignEach (.Name x p :: es) X.env).map (·.2)=assign (.Name x p) X.env :: (assignEach es X.env).map (·.2)) Zau.a2._auto_1):Tg X (.Name x p :: es) (i :: is):=.cons hi hx hf hs t
noncomputable def gAll:List Nat→TGs
 | []=>gNil
 | i :: is=>gCons (gName i) (gAll is)
theorem tg_pgs (hN:X.N.Nodup):∀{es:List Expr} {is:List Nat},Tg X es is→PGs X es (gAll is)
 | _,_,.nil=>pgs_nil
 | _,_,.cons hi hx hf hs t=>pgs_cons (pg_name hN hi hx hf) (tg_pgs hN t) hs
theorem gAll_of {Q:L2.St→Hp→Prop}{H:Hp}:∀{is:List Nat} {ds:List D} {vs:List V} {own:Nat→Option Addr} {ρ:Ev} {σ:L2.St},ds.length=is.length→lfL ds=true→DenL X.K Emp H ds vs→Rep X P ρ own σ H→
  (∀own' σ',Rep X P (setAll is ds ρ) own' σ' H→Q σ' H)→gAll is vs σ H Q
 | [],[],vs,own,ρ,σ,hl,fl,l,rp,q=>by rw [DenL] at l;subst l;exact ⟨rfl,q own σ rp⟩
 | [],_ :: _,vs,own,ρ,σ,hl,fl,l,rp,q=>by simp at hl
 | _ :: _,[],vs,own,ρ,σ,hl,fl,l,rp,q=>by simp at hl
 | i :: is,d :: ds,vs,own,ρ,σ,hl,fl,l,rp,q=>by
  rw [DenL] at l
  obtain ⟨v,r,rfl,h,l⟩:=l
  rw [lfL,Bool.and_eq_true] at fl
  exact ⟨v,r,rfl,gAll_of (by simpa using hl) fl.2 l (rp.put (i:=i) (lf_frz fl.1) (den_lf _ _ fl.1 h)) q⟩
theorem pg_names {is:List Nat}{k:Nat}(hc:X.calm=true)(hN:X.N.Nodup)(tg:Tg X es is)(hn:autoParam ((assignEach es X.env).length=is.length) Zau.a2._auto_1)(hst:autoParam ((assignEach es X.env).findIdx? (·.1)=none) Zau.a2._auto_1):PG X (.Tuple es k pos) (gTup X.K is.length (gAll is)):=pg_tup hc (tg_pgs hN tg) hn hst
noncomputable def fApp (i:Nat) (f:FE):FS:=fun ρ=>(f ρ).bind fun d=>match ρ[i]? with
 | some (some (.own xs))=>if lf d=true∧xs.length < lim then some (.nx (ρ.set i (some (.own (xs ++ [d]))))) else none
 | _=>none
theorem lfL_append {xs:List D}{d:D}:lfL xs=true→lf d=true→lfL (xs ++ [d])=true:=by
 induction xs with
 | nil=>intro _ h;simp [lfL,h]
 | cons x xs ih=>intro h1 h2;rw [lfL,Bool.and_eq_true] at h1;rw [List.cons_append,lfL,Bool.and_eq_true];exact ⟨h1.1,ih h1.2 h2⟩
theorem pxs_app (i:Nat){x:Str}{p apos cpos:Pos}(ha:PX X e f)(hN:autoParam (X.N[i]? =some x) Zau.a2._auto_1)(hv:autoParam (Vis X.env.scope x) Zau.a4._auto_1)(hd:autoParam ((x == ("__debug__":Str))=false) Zau.a1._auto_1)(hcd:autoParam ((x == ("__classdict__":Str))=false) Zau.a1._auto_1)
  (hbase:autoParam (attributeBase (.Name x p) "append" X.env (eval (.Name x p) X.env)=eval (.Name x p) X.env) Zau.a2._auto_1)
  (hfew:autoParam (((backTo cpos (starEach [e] X.env)).all (fun x=>!x.1) && (backToKw cpos (keywordEach [] X.env)).all (fun x=>x.1.isSome) && decide (([e]:List Expr).length + ([]:List Keyword).length + (if ([]:List Keyword).isEmpty then 0 else 1) < 30))=true) Zau.a2._auto_1)
  (hline:autoParam ((apos.endLine == cpos.line)=true) Zau.a2._auto_1) (hs:autoParam (starEach [e] X.env=(false,eval e X.env) :: starEach [] X.env) Zau.a2._auto_1) (hsw:autoParam (swapsWith (.Call (.Attribute (.Name x p) "append" apos) [e] [] cpos) none pos.line X.env=pure false) Zau.a2._auto_1):
  PXS X (.Expr (.Call (.Attribute (.Name x p) "append" apos) [e] [] cpos) pos) (fApp i f):=
 PS.weak (ps_expr (pe_bm PySem.F.plainAttrs_list PySem.F.slot_list_append PySem.F.type_list_append mt_append (pe_var hN hv hd hcd) (pa_cons ha pa_nil hs) hbase hfew hline hs rfl) hsw) fun E σ H ⟨P,own,ρ,r,rp,e,q⟩=>by
 unfold fApp at e
 cases e1:f ρ with
 | none=>rw [e1] at e;cases e
 | some d=>
  rw [e1] at e
  simp only [Option.bind_some] at e
  split at e
  ·rename_i xs e0
   split at e
   ·rename_i hl
    cases e
    obtain ⟨v,h1,a,vs,h2,h3,h4,l⟩:=rp.slot i _ e0
    subst h3
    refine ⟨_,h1,.inl ⟨rfl,vs,.inl (.inl h4)⟩,⟨ρ,d,rp.view,e1,fun w H1 s1 d1=>⟨a,vs,w,rfl,rfl,s1 _ _ h4,?_,?_⟩⟩⟩
    ·rw [←denL_length l];exact Nat.lt_of_lt_of_le hl.2 lim_line
    ·have rp1:=rp.grow s1
     have l1:DenL X.K (Own own) H1 xs vs:=denL_mono (fun b o q _=>s1 b o q) rp.isL (fun b z=>.inl z) _ _ l
     exact q own σ _ (rp1.mut e0 h2 (denL_append l1 (denL_cons (den_lf _ _ hl.1 d1.den) denL_nil)))
   ·cases e
  ·cases e
noncomputable def fDrop (f:FE):FS:=fun ρ=>(f ρ).map fun _=>.nx ρ
noncomputable def whileF (c:FT) (b:FS):Nat→Ev→Option R
 | 0,_=>none
 | n + 1,ρ=>(c ρ).bind fun k=>if k=true then (b ρ).bind (fun r=>match r with
   | .nx ρ'=>whileF c b n ρ'
   | .ct ρ'=>whileF c b n ρ'
   | .bk ρ'=>some (.nx ρ')
   | .rt d=>some (.rt d)) else some (.nx ρ)
theorem whileF_more {c:FT}{b:FS}:∀{n:Nat} {ρ:Ev} {r:R},whileF c b n ρ=some r→whileF c b (n + 1) ρ=some r
 | 0,ρ,r,h=>by cases h
 | n + 1,ρ,r,h=>by
  rw [whileF] at h ⊢
  cases e:c ρ with
  | none=>rw [e] at h;cases h
  | some k=>
   rw [e] at h
   cases k with
   | false=>exact h
   | true=>
    simp only [Option.bind_some,if_true] at h ⊢
    cases e2:b ρ with
    | none=>rw [e2] at h;cases h
    | some r2=>
     rw [e2] at h
     cases r2 with
     | nx ρ'=>exact whileF_more (n:=n) h
     | ct ρ'=>exact whileF_more (n:=n) h
     | bk ρ'=>exact h
     | rt d=>exact h
theorem whileF_le {c:FT}{b:FS}{n m:Nat}{ρ:Ev}{r:R}(h:whileF c b n ρ=some r)(hm:n≤m):whileF c b m ρ=some r:=by
 induction hm with
 | refl=>exact h
 | step _ ih=>exact whileF_more ih
open Classical in
noncomputable def whileV (c:FT) (b:FS):FS:=fun ρ=>if h:∃r,∃n,whileF c b n ρ=some r then some h.choose else none
theorem whileV_of {c:FT}{b:FS}{n:Nat}{ρ:Ev}{r:R}(h:whileF c b n ρ=some r):whileV c b ρ=some r:=by
 have z:∃r,∃n,whileF c b n ρ=some r:=⟨r,n,h⟩
 unfold whileV
 rw [dif_pos z]
 obtain ⟨m,hm⟩:=z.choose_spec
 have h1:=whileF_le h (Nat.le_max_left n m)
 have h2:=whileF_le hm (Nat.le_max_right n m)
 rw [h1] at h2
 exact h2.symm
theorem of_whileV {c:FT}{b:FS}{ρ:Ev}{r:R}(h:whileV c b ρ=some r):∃n,whileF c b n ρ=some r:=by
 unfold whileV at h
 split at h
 ·rename_i z
  cases h
  exact z.choose_spec
 ·cases h
theorem pxs_while {body:List Stmt}{b:FS}(hp:PassesOwn (model X.prog X.w) X.A X.env X.xe)(hc:PXT X c t)(hb:PXSs X body b):PXS X (.While c body [] pos) (whileV t b):=PS.weak (ps_while hp hc hb) fun E σ H ⟨P,own,ρ,r,rp,e,q⟩=>by
 obtain ⟨n,e⟩:=of_whileV e
 refine ⟨fun m σ H=>∃own ρ,Rep X P ρ own σ H∧whileF t b m ρ=some r,⟨n,own,ρ,rp,e⟩,fun m σ H ⟨own,ρ,rp,e⟩=>?_⟩
 cases m with
 | zero=>cases e
 | succ m=>
  rw [whileF] at e
  cases e1:t ρ with
  | none=>rw [e1] at e;cases e
  | some k=>
   rw [e1] at e
   refine ⟨ρ,k,rp.view,e1,fun H1 s1=>?_⟩
   cases k with
   | false=>
    rw [if_neg Bool.false_ne_true]
    cases e
    exact q own σ H1 (rp.grow s1)
   | true=>
    rw [if_pos rfl]
    simp only [Option.bind_some,if_true] at e
    cases e2:b ρ with
    | none=>rw [e2] at e;cases e
    | some r2=>
     rw [e2] at e
     refine ⟨fun σ' H'=>∃own ρ,Rep X P ρ own σ' H'∧whileF t b m ρ=some r,fun σ' H' h=>⟨m,Nat.lt_succ_self m,h⟩,P,own,ρ,r2,rp.grow s1,e2,?_⟩
     cases r2 with
     | nx ρ'=>exact fun own' σ' H' rp'=>⟨own',ρ',rp',e⟩
     | ct ρ'=>exact fun own' σ' H' rp'=>⟨own',ρ',rp',e⟩
     | bk ρ'=>cases e;exact fun own' σ' H' rp'=>q own' σ' H' rp'
     | rt d=>cases e;exact q
noncomputable def loopF (b:D→FS):List D→Ev→Option R
 | [],ρ=>some (.nx ρ)
 | x :: xs,ρ=>(b x ρ).bind fun r=>match r with
  | .nx ρ'=>loopF b xs ρ'
  | .ct ρ'=>loopF b xs ρ'
  | .bk ρ'=>some (.nx ρ')
  | .rt d=>some (.rt d)
noncomputable def PXG (X:Cx) (tg:Expr) (g:TG) (gf:D→Ev→Option Ev):Prop:=∀(P:List (D×V)) (d:D) (v:V) (own:Nat→Option Addr) (ρ ρ':Ev) (σ:L2.St) (H:Hp) (Q:L2.St→Hp→Prop),Rep X P ρ own σ H→Den X.K (Own own) H d v→gf d ρ=some ρ'→(∀own' σ',Rep X P ρ' own' σ' H→Q σ' H)→g v σ H Q
noncomputable def gfName (i:Nat):D→Ev→Option Ev:=fun d ρ=>some (ρ.set i (some (frz d)))
theorem pxg_name (i:Nat):PXG X (.Name "" pos) (gName i) (gfName i):=fun P d v own ρ ρ' σ H Q rp h e q=>by
 unfold gfName at e
 cases e
 exact q _ _ (rp.put (i:=i) (by cases d <;> rfl) (den_frz.mpr h))
noncomputable def gfTup (is:List Nat):D→Ev→Option Ev:=fun d ρ=>match d with
 | .tup ds=>if ds.length=is.length∧lfL ds=true then some (setAll is ds ρ) else none
 | _=>none
theorem pxg_tup (is:List Nat):PXG X (.Name "" pos) (gTup X.K is.length (gAll is)) (gfTup is):=fun P d v own ρ ρ' σ H Q rp h e q=>by
 unfold gfTup at e
 cases d with
 | tup ds=>
  simp only at e
  split at e
  ·rename_i hl
   cases e
   rw [Den] at h
   obtain ⟨p,vs,ev,hq,l⟩:=h
   exact ⟨p,vs,ev,hq,by rw [←denL_length l];exact hl.1,gAll_of hl.1 hl.2 (denL_lf _ _ hl.2 l) rp q⟩
  ·cases e
 | _=>cases e
noncomputable def turnF (gf:D→Ev→Option Ev) (b:FS):D→FS:=fun x ρ=>(gf x ρ).bind b
theorem loop_ok {K:PySem.W.Frag}{J:It}{g:TG}{gf:D→Ev→Option Ev}{tg:Expr}{b:FS}{E:Ends}{xs:List D}{r:R}{H0:Hp}{σ:L2.St}{own:Nat→Option Addr}{ρ:Ev}(hg:PXG X tg g gf)(P':List (D×V))(hP:∀p∈P,p∈P')
  (hgo:∀(i:Nat) (own:Nat→Option Addr) (ρ:Ev) (σ:L2.St) (H:Hp) (x:D),Rep X P' ρ own σ H→xs[i]? =some x→J.go i H∧∀v H',J.yld i H v H'→H'=H∧Den X.K (Own own) H x v)
  (hst:∀(own:Nat→Option Addr) (ρ:Ev) (σ:L2.St) (H:Hp),Rep X P' ρ own σ H→J.stop xs.length H)
  (rp:Rep X P' ρ own σ H0) (e:loopF (turnF gf b) xs ρ=some r) (q:EndsOk X P E r):
  ∃W:Nat→Nat→L2.St→Hp→Prop,(∃m,W 0 m σ H0)∧∀i m σ H,W i m σ H→
   (J.stop i H∧E.nx σ H)∨(J.go i H∧∃N:L2.St→Hp→Prop,(∀σ' H',N σ' H'→∃m',m' < m∧W (i + 1) m' σ' H')∧∀x H',J.yld i H x H'→g x σ H' fun σ2 H2=>tS X b {E with nx:=N,ct:=N,bk:=E.nx} σ2 H2):=by
 have weak:∀{ρ own σ H},Rep X P' ρ own σ H→Rep X P ρ own σ H:=fun rp=>⟨rp.same,rp.len,rp.slot,rp.inj,rp.lst,rp.new,fun p hp=>rp.prot p (hP p hp)⟩
 refine ⟨fun i m σ H=>m=xs.length - i∧i≤xs.length∧∃own ρ,Rep X P' ρ own σ H∧loopF (turnF gf b) (xs.drop i) ρ=some r,⟨xs.length,by simp,Nat.zero_le _,own,ρ,rp,by simpa using e⟩,?_⟩
 rintro i m σ H ⟨rfl,hi,own,ρ,rp,e⟩
 by_cases hlt:i < xs.length
 ·obtain ⟨go,yl⟩:=hgo i own ρ σ H xs[i] rp (by simp [hlt])
  refine .inr ⟨go,fun σ' H'=>∃own ρ,Rep X P' ρ own σ' H'∧loopF (turnF gf b) (xs.drop (i + 1)) ρ=some r,fun σ' H' h=>⟨xs.length - (i + 1),by (first|lia|omega),rfl,hlt,h⟩,fun v H' y=>?_⟩
  obtain ⟨rfl,dv⟩:=yl v H' y
  rw [List.drop_eq_getElem_cons hlt,loopF] at e
  cases e1:turnF gf b xs[i] ρ with
  | none=>rw [e1] at e;cases e
  | some r1=>
   rw [e1] at e
   simp only [Option.bind_some] at e
   unfold turnF at e1
   cases e2:gf xs[i] ρ with
   | none=>rw [e2] at e1;cases e1
   | some ρ1=>
    rw [e2] at e1
    refine hg P' xs[i] v own ρ ρ1 σ _ _ rp dv e2 fun own' σ' rp'=>⟨P',own',ρ1,r1,rp',e1,?_⟩
    cases r1 with
    | nx ρ2=>exact fun own2 σ2 H2 rp2=>⟨own2,ρ2,rp2,e⟩
    | ct ρ2=>exact fun own2 σ2 H2 rp2=>⟨own2,ρ2,rp2,e⟩
    | bk ρ2=>cases e;exact fun own2 σ2 H2 rp2=>q own2 σ2 H2 (weak rp2)
    | rt d=>cases e;exact q
 ·have ei:i=xs.length:=by (first|lia|omega)
  subst ei
  rw [List.drop_length,loopF] at e
  cases e
  exact .inl ⟨hst own ρ σ H rp,q own σ H (weak rp)⟩
noncomputable def iSeq (K:PySem.W.Frag) (tl:TE):TI:=fun σ H R=>tl σ H fun x H1=>(∃a,x= .ref a∧(∃xs,SqL K H1 a xs)∧R (Itl K a) H1)∨∃a,x= .ref a∧(∃xs,SqT K H1 a xs)∧R (Itt K a) H1
theorem pi_seq {tg l:Expr}{tl:TE}(hl:PE X l tl):PI X tg l (iSeq X.K tl):=by
 intro pins s σ H R I h
 refine thn (hl pins s σ H _ I h) fun v s1 ⟨x,H1,I1,r1,q1⟩=>?_
 rcases q1 with ⟨a,e,⟨xs,hq⟩,q⟩ | ⟨a,e,⟨xs,hq⟩,q⟩
 ·subst e
  cases r1
  obtain ⟨its,rv,p,hz⟩:=I1.list hq
  refine wpAny_pyIter_list p.isList ?_
  refine ⟨s1.heap.objs.size,[s1.heap.objs.size],_,_,H1,rfl,I1.kept (t':=s1.toks) fun b o e=>Heap.get?_push_of_some _ e,turn_list a _,⟨_,Heap.get?_push_size _ rfl,rfl,rfl⟩,fun b hb=>?_,q⟩
  have e:b=s1.heap.objs.size:=by simpa using hb
  subst e
  exact I1.fpOk (Nat.le_refl _) (I1.hok.fresh (Nat.le_refl _))
 ·subst e
  cases r1
  obtain ⟨its,rv,p,hz⟩:=I1.tuple hq
  refine wpAny_pyIter_tuple (show s1.heap.IsTuple a its.toArray from p) ?_
  refine ⟨s1.heap.objs.size,[s1.heap.objs.size],_,_,H1,rfl,I1.kept (t':=s1.toks) fun b o e=>Heap.get?_push_of_some _ e,turn_tuple a _,⟨_,Heap.get?_push_size _ rfl,rfl,rfl⟩,fun b hb=>?_,q⟩
  have e:b=s1.heap.objs.size:=by simpa using hb
  subst e
  exact I1.fpOk (Nat.le_refl _) (I1.hok.fresh (Nat.le_refl _))
theorem Rep.more {ρ:Ev}{own:Nat→Option Addr}{σ:L2.St}{H:Hp}(rp:Rep X P ρ own σ H){d:D}{v:V}(h:Den X.K (Own own) H d v):Rep X ((d,v) :: P) ρ own σ H:=
 ⟨rp.same,rp.len,rp.slot,rp.inj,rp.lst,rp.new,fun p hp=>by
  rcases List.mem_cons.mp hp with e | e
  ·rw [e];exact h
  ·exact rp.prot p e⟩
noncomputable def walkD:D→Ev→Option (List D×Ev)
 | .own xs,ρ=>if lfL xs=true then some (xs,ρ) else none
 | .scr xs,ρ=>if lfL xs=true then some (xs,ρ) else none
 | .tup xs,ρ=>if lfL xs=true then some (xs,ρ) else none
 | .lst xs,ρ=>if lfL xs=true then some (xs,frzAll ρ) else none
 | _,_=>none
noncomputable def fFor (f:FE) (gf:D→Ev→Option Ev) (b:FS):FS:=fun ρ=>(f ρ).bind fun d=>(walkD d ρ).bind fun p=>loopF (turnF gf b) p.1 p.2
theorem seq_loop {g:TG}{gf:D→Ev→Option Ev}{tg:Expr}{b:FS}{E:Ends}{xs:List D}{r:R}{H:Hp}{σ:L2.St}{own:Nat→Option Addr}{ρ:Ev}{a:Addr}{d:D}(hg:PXG X tg g gf)(hd:items d=some xs)(fl:lfL xs=true)
  (rp:Rep X P ρ own σ H) (h:Den X.K (Own own) H d (.ref a)) (e:loopF (turnF gf b) xs ρ=some r) (q:EndsOk X P E r):
  (∃a',V.ref a= .ref a'∧(∃xs,SqL X.K H a' xs)∧∃W:Nat→Nat→L2.St→Hp→Prop,(∃m,W 0 m σ H)∧∀i m σ H,W i m σ H→
   ((Itl X.K a').stop i H∧E.nx σ H)∨((Itl X.K a').go i H∧∃N:L2.St→Hp→Prop,(∀σ' H',N σ' H'→∃m',m' < m∧W (i + 1) m' σ' H')∧∀x H',(Itl X.K a').yld i H x H'→g x σ H' fun σ2 H2=>tS X b {E with nx:=N,ct:=N,bk:=E.nx} σ2 H2))∨
  (∃a',V.ref a= .ref a'∧(∃xs,SqT X.K H a' xs)∧∃W:Nat→Nat→L2.St→Hp→Prop,(∃m,W 0 m σ H)∧∀i m σ H,W i m σ H→
   ((Itt X.K a').stop i H∧E.nx σ H)∨((Itt X.K a').go i H∧∃N:L2.St→Hp→Prop,(∀σ' H',N σ' H'→∃m',m' < m∧W (i + 1) m' σ' H')∧∀x H',(Itt X.K a').yld i H x H'→g x σ H' fun σ2 H2=>tS X b {E with nx:=N,ct:=N,bk:=E.nx} σ2 H2)):=by
 have rp':=rp.more h
 have any:∀{ρ own σ H},Rep X ((d,.ref a) :: P) ρ own σ H→∃vs,(SqL X.K H a vs∧(∀ys,d≠.tup ys)∨SqT X.K H a vs∧∃ys,d= .tup ys)∧DenL X.K (Own own) H xs vs:=fun {ρ own σ H} rp=>by
  have z:=rp.prot _ List.mem_cons_self
  cases d with
  | tup ys=>
   cases hd
   rw [Den] at z
   obtain ⟨a',vs,ev,hq,l⟩:=z
   cases ev
   exact ⟨vs,.inr ⟨hq,_,rfl⟩,l⟩
  | lst ys=>cases hd;rw [Den] at z;obtain ⟨a',vs,ev,hq,_,l⟩:=z;cases ev;exact ⟨vs,.inl ⟨.inl (.inl hq),fun ys z=>by cases z⟩,l⟩
  | own ys=>cases hd;rw [Den] at z;obtain ⟨a',vs,ev,hq,_,l⟩:=z;cases ev;exact ⟨vs,.inl ⟨.inl (.inl hq),fun ys z=>by cases z⟩,l⟩
  | scr ys=>
   cases hd;rw [Den] at z;obtain ⟨a',vs,ev,hq,l⟩:=z;cases ev
   refine ⟨vs,.inl ⟨?_,fun ys z=>by cases z⟩,l⟩
   rcases hq with ⟨o,hq⟩ | hq
   ·exact .inl (.inr ⟨o,hq⟩)
   ·rcases hq with (hq | ⟨o,hq⟩) | hq
    ·cases hq
    ·cases hq
    ·exact .inr hq
  | _=>cases hd
 obtain ⟨vs,kind,l⟩:=any rp'
 rcases kind with ⟨hq,nt⟩ | ⟨hq,ys,et⟩
 ·refine .inl ⟨a,rfl,⟨vs,hq⟩,loop_ok (K:=X.K) hg ((d,.ref a) :: P) (fun p hp=>List.mem_cons_of_mem _ hp) (fun i own ρ σ H x rp ex=>?_) (fun own ρ σ H rp=>?_) rp' e q⟩
  ·obtain ⟨vs,kind,l⟩:=any rp
   rcases kind with ⟨hq,_⟩ | ⟨_,ys,et⟩
   ·obtain ⟨v,hv,dv⟩:=denL_get l ex
    refine ⟨⟨vs,v,hq,hv⟩,fun w H' y=>?_⟩
    obtain ⟨e1,e2⟩:=y
    have:=e2 vs hq
    rw [hv] at this;cases this
    exact ⟨e1,dv⟩
   ·exact absurd et (nt ys)
  ·obtain ⟨vs,kind,l⟩:=any rp
   rcases kind with ⟨hq,_⟩ | ⟨_,ys,et⟩
   ·exact ⟨vs,hq,by rw [←denL_length l];exact Nat.le_refl _⟩
   ·exact absurd et (nt ys)
 ·refine .inr ⟨a,rfl,⟨vs,hq⟩,loop_ok (K:=X.K) hg ((d,.ref a) :: P) (fun p hp=>List.mem_cons_of_mem _ hp) (fun i own ρ σ H x rp ex=>?_) (fun own ρ σ H rp=>?_) rp' e q⟩
  ·obtain ⟨vs,kind,l⟩:=any rp
   rcases kind with ⟨_,nt⟩ | ⟨hq,_⟩
   ·exact absurd et (nt ys)
   ·obtain ⟨v,hv,dv⟩:=denL_get l ex
    refine ⟨⟨vs,v,hq,hv⟩,fun w H' y=>?_⟩
    obtain ⟨e1,e2⟩:=y
    have:=e2 vs hq
    rw [hv] at this;cases this
    exact ⟨e1,dv⟩
  ·obtain ⟨vs,kind,l⟩:=any rp
   rcases kind with ⟨_,nt⟩ | ⟨hq,_⟩
   ·exact absurd et (nt ys)
   ·exact ⟨vs,hq,by rw [←denL_length l];exact Nat.le_refl _⟩
theorem pxs_for {tg:Expr}{g:TG}{gf:D→Ev→Option Ev}{iter:Expr}{body:List Stmt}{b:FS}(hp:PassesOwn (model X.prog X.w) X.A X.env X.xe)(hc:X.calm=true)(ha:PX X iter f)(hg:PG X tg g)(hgf:PXG X (.Name "" pos) g gf)(hb:PXSs X body b)(hs:autoParam (∀x,foldedSetIterable iter X.env x=pure x) Zau.a3._auto_1):
  PXS X (.For tg iter body [] pos) (fFor f gf b):=PS.weak (ps_for hp hc (pi_seq ha) hg hb hs) fun E σ H ⟨P,own,ρ,r,rp,e,q⟩=>by
 unfold fFor at e
 cases e1:f ρ with
 | none=>rw [e1] at e;cases e
 | some d=>
  rw [e1] at e
  simp only [Option.bind_some] at e
  refine ⟨ρ,d,rp.view,e1,fun v H1 s1 d1=>?_⟩
  have rp1:=rp.grow s1
  cases d with
  | own xs=>
   simp only [walkD] at e
   split at e
   ·rename_i fl
    obtain ⟨a,vs,rfl,hn,h1,l⟩:=d1
    refine seq_loop (d:=.lst xs) hgf rfl fl rp1 ?_ e q
    rw [Den]
    refine ⟨a,vs,rfl,h1,fun ⟨i,z⟩=>?_,denL_lf _ _ fl l⟩
    obtain ⟨ws,w,_⟩:=rp.lst i a z
    rw [hn] at w;cases w
   ·cases e
  | tup xs=>
   simp only [walkD] at e
   split at e
   ·rename_i fl
    have z:=d1.den
    have z2:=z
    rw [Den] at z2
    obtain ⟨a,vs,rfl,_⟩:=z2
    exact seq_loop hgf rfl fl rp1 (den_lf _ _ (by rw [lf];exact fl) z) e q
   ·cases e
  | scr xs=>
   simp only [walkD] at e
   split at e
   ·rename_i fl
    have z:=d1.den
    have z2:=z
    rw [Den] at z2
    obtain ⟨a,vs,rfl,_⟩:=z2
    exact seq_loop hgf rfl fl rp1 (den_lf _ _ (by rw [lf];exact fl) z) e q
   ·cases e
  | lst xs=>
   simp only [walkD] at e
   split at e
   ·rename_i fl
    have z:=d1.den
    have z2:=z
    rw [Den] at z2
    obtain ⟨a,vs,rfl,_⟩:=z2
    exact seq_loop hgf rfl fl rp1.frozen (den_mono (fun _ _ q _=>q) (fun _ z=>z.elim) (fun b z=>by obtain ⟨i,z⟩:=z;cases z) _ _ z) e q
   ·cases e
  | _=>simp only [walkD] at e;cases e
noncomputable def fForR (f:FA) (gf:D→Ev→Option Ev) (b:FS):FS:=fun ρ=>(f ρ).bind fun ds=>match ds with
 | [.int n]=>if n < 2 ^ 62∧-(2 ^ 62)≤n then loopF (turnF gf b) ((List.range n.toNat).map fun i=>.int (i:Nat)) ρ else none
 | _=>none
theorem pxs_forR {tg:Expr}{g:TG}{gf:D→Ev→Option Ev}{a:Expr}{p p2:Pos}{body:List Stmt}{b:FS}(hp:PassesOwn (model X.prog X.w) X.A X.env X.xe)(hc:X.calm=true)(hm:X.mg "range"=none)(ha:PXA X [a] fa)(hg:PG X tg g)(hgf:PXG X (.Name "" pos) g gf)(hb:PXSs X body b)(hgl:autoParam (Gl X "range") Zau.a2._auto_1)(hs:autoParam (∀x,foldedSetIterable (.Call (.Name "range" p) [a] [] p2) X.env x=pure x) Zau.a3._auto_1)(hst:autoParam (starEach [a] X.env=[(false,eval a X.env)]) Zau.a2._auto_1):
  PXS X (.For tg (.Call (.Name "range" p) [a] [] p2) body [] pos) (fForR fa gf b):=PS.weak (ps_for hp hc (pi_range1 hgl hm ha hst) hg hb hs) fun E σ H ⟨P,own,ρ,r,rp,e,q⟩=>by
 unfold fForR at e
 cases e1:fa ρ with
 | none=>rw [e1] at e;cases e
 | some ds=>
  rw [e1] at e
  simp only [Option.bind_some] at e
  split at e
  ·rename_i n
   split at e
   ·rename_i hl
    refine ⟨ρ,_,rp.view,e1,fun vs H1 s1 l1=>?_⟩
    obtain ⟨v,rfl,h⟩:=denL1 l1
    refine ⟨n,by rw [den_int.mp h],hl.2,hl.1,?_⟩
    refine loop_ok (K:=X.K) hgf P (fun p hp=>hp) (fun i own ρ σ H x rp ex=>?_) (fun own ρ σ H rp=>?_) (rp.grow s1) e q
    ·rw [List.getElem?_map] at ex
     have hi:i < n.toNat:=by
      by_cases z:i < n.toNat
      ·exact z
      ·rw [List.getElem?_eq_none (by simpa using z)] at ex;cases ex
     rw [List.getElem?_range hi] at ex
     cases ex
     refine ⟨hi,fun w H' y=>?_⟩
     obtain ⟨e2,e3⟩:=y
     exact ⟨e2,by rw [Den,e3];simp⟩
    ·show n.toNat≤_
     simp
   ·cases e
  ·cases e
end
end Tw
set_option Elab.async false
set_option linter.all false
set_option maxRecDepth 100000
set_option maxHeartbeats 1000000
namespace Tw
open PySem PySem.Spec PyProof.Rows L2
noncomputable def spF (K:PySem.W.Frag) (g:List D→Option D):Sp:=fun vs H Q _=>∃ds d,DenL K Emp H ds vs∧g ds=some d∧∀v H',Same H H'→DenF K H H' d v→Q v H'
structure Fn (P:Program) (w:World) (K:PySem.W.Frag) (mg:Str→Option Value) (base:Heap) (x:Str) (k:Nat) (g:List D→Option D):Prop where
 ex:∃(f:Addr) (fd:FuncData) (ps:List Str),FnOk P w K mg base CX0 k f fd ps (spF K g)∧Binds K fd ps []∧PySem.W.keepIn K (.ref f)=true∧mg x=some (.ref f)
section
variable {P:Program}{w:World}{K:PySem.W.Frag}{mg:Str→Option Value}{base:Heap}
theorem Fn.mono {x:Str}{j k:Nat}{g:List D→Option D}(F:Fn P w K mg base x j g)(h:j≤k):Fn P w K mg base x k g:=by
 obtain ⟨f,fd,ps,a,b,c,d⟩:=F.ex
 exact ⟨f,fd,ps,a.mono h,b,c,d⟩
theorem Fn.imp {x:Str}{k:Nat}{g g':List D→Option D}(F:Fn P w K mg base x k g)(h:∀ds d,g' ds=some d→g ds=some d):Fn P w K mg base x k g':=by
 obtain ⟨f,fd,ps,a,b,c,d⟩:=F.ex
 exact ⟨f,fd,ps,a.imp fun vs H Q E ⟨ds,d,l,e,q⟩=>⟨ds,d,l,h ds d e,q⟩,b,c,d⟩
end
section
variable {X:Cx}{e:Expr}{es:List Expr}{pos p:Pos}{fa:FA}{x:Str}{k:Nat}{g:List D→Option D}
theorem px_call (F:Fn X.prog X.w X.K X.mg X.base x k g)(hr:Room k X.A)(ha:PXA X (e :: es) fa)(hg:autoParam (Gl X x) Zau.a2._auto_1)(hdb:autoParam ((x == ("__debug__":Str))=false) Zau.a1._auto_1)
  (he:autoParam (starEach (e :: es) X.env=(false,eval e X.env) :: starEach es X.env) Zau.a2._auto_1) (hpl:autoParam ((backTo pos (starEach es X.env)).any (·.1)=false) Zau.a2._auto_1):PX X (.Call (.Name x p) (e :: es) [] pos) (fCall g fa):=by
 obtain ⟨f,fd,ps,F,b,kp,hm⟩:=F.ex
 refine PE.weak (pe_call F hr hg hm kp b .nil pass0 ha hdb he hpl) fun σ H Q ⟨ρ,d,rv,e,q⟩=>?_
 unfold fCall at e
 cases e1:fa ρ with
 | none=>rw [e1] at e;cases e
 | some ds=>
  rw [e1] at e
  exact ⟨ρ,ds,rv,e1,fun vs H1 s1 l1=>⟨ds,d,by rw [List.append_nil];exact l1,e,fun v H2 s2 d2=>q v H2 (s1.trans s2) (d2.elder s1)⟩⟩
end
section
variable {X:Cx}{a iter:Expr}{pos p p2 px:Pos}{f:FE}{fa:FA}{x:Str}{body:List Stmt}{b:FS}
theorem pxs_forRi (i:Nat)(hN:X.N.Nodup)(hp:PassesOwn (model X.prog X.w) X.A X.env X.xe)(hc:X.calm=true)(hm:X.mg "range"=none)(ha:PXA X [a] fa)(hb:PXSs X body b)(hi:autoParam (X.N[i]? =some x) Zau.a2._auto_1)(hx:autoParam (Loc X.env.scope x) Zau.a6._auto_1)(hf:autoParam (X.fn x=true∨X.env.scope.names.lookup x=some .local) Zau.a7._auto_1)
  (hgl:autoParam (Gl X "range") Zau.a2._auto_1) (hs:autoParam (∀x,foldedSetIterable (.Call (.Name "range" p) [a] [] p2) X.env x=pure x) Zau.a3._auto_1) (hst:autoParam (starEach [a] X.env=[(false,eval a X.env)]) Zau.a2._auto_1):
  PXS X (.For (.Name x px) (.Call (.Name "range" p) [a] [] p2) body [] pos) (fForR fa (gfName i) b):=pxs_forR hp hc hm ha (pg_name hN hi hx hf) (pxg_name i) hb hgl hs hst
theorem pxs_fori (i:Nat)(hN:X.N.Nodup)(hp:PassesOwn (model X.prog X.w) X.A X.env X.xe)(hc:X.calm=true)(ha:PX X iter f)(hb:PXSs X body b)(hi:autoParam (X.N[i]? =some x) Zau.a2._auto_1)(hx:autoParam (Loc X.env.scope x) Zau.a6._auto_1)(hf:autoParam (X.fn x=true∨X.env.scope.names.lookup x=some .local) Zau.a7._auto_1)
  (hs:autoParam (∀x,foldedSetIterable iter X.env x=pure x) Zau.a3._auto_1):PXS X (.For (.Name x px) iter body [] pos) (fFor f (gfName i) b):=pxs_for hp hc ha (pg_name hN hi hx hf) (pxg_name i) hb hs
theorem pxs_forT {es:List Expr}{is:List Nat}{k:Nat}(hN:X.N.Nodup)(hp:PassesOwn (model X.prog X.w) X.A X.env X.xe)(hc:X.calm=true)(tg:Tg X es is)(ha:PX X iter f)(hb:PXSs X body b)(hn:autoParam ((assignEach es X.env).length=is.length) Zau.a2._auto_1)(hst:autoParam ((assignEach es X.env).findIdx? (·.1)=none) Zau.a2._auto_1)
  (hs:autoParam (∀x,foldedSetIterable iter X.env x=pure x) Zau.a3._auto_1):PXS X (.For (.Tuple es k px) iter body [] pos) (fFor f (gfTup is) b):=pxs_for hp hc ha (pg_names hc hN tg hn hst) (pxg_tup is) hb hs
end
noncomputable def start0 (n:Nat) (ds:List D):Ev:=ds.map (fun d=>some (frz d)) ++ List.replicate (n - ds.length) none
noncomputable def runD (np n:Nat) (G:FS):List D→Option D:=fun ds=>if ds.length=np then match G (start0 n ds) with
 | some (.rt d)=>some d
 | some (.nx _)=>some .non
 | _=>none else none
section
variable {P:Program}{w:World}{K:PySem.W.Frag}{mg:Str→Option Value}{base:Heap}
theorem rep_start {X:Cx}{ds:List D}{vs:List V}{n:Nat}{N:List Str}{H:Hp}(hH:X.H₀=H)(hN:N.length=n)(l:DenL X.K Emp H ds vs):Rep X [] (start0 n ds) (fun _=>none) (start N vs) H where
 same:=by rw [hH];exact Same.refl H
 len:=by unfold start0 L2.start;simp [denL_length l,hN]
 slot:=fun i d e=>by
  unfold start0 at e
  by_cases hi:i < ds.length
  ·rw [List.getElem?_append_left (by simpa using hi),List.getElem?_map] at e
   cases q:ds[i]? with
   | none=>rw [q] at e;cases e
   | some d0=>
    rw [q] at e;cases e
    obtain ⟨v,h1,h2⟩:=denL_get l q
    refine ⟨v,?_,SlotOk.plain (den_mono (fun _ _ q _=>q) (fun _ z=>z.elim) (fun b z=>by obtain ⟨i,z⟩:=z;cases z) _ v (den_frz.mpr h2))⟩
    unfold L2.start
    rw [List.getElem?_append_left (by have:=denL_length l;simp;(first|lia|omega)),List.getElem?_map,h1];rfl
  ·rw [List.getElem?_append_right (by simpa using hi),List.getElem?_replicate] at e
   split at e <;> cases e
 inj:=fun i j a e=>by cases e
 lst:=fun i a e=>by cases e
 new:=fun i a e=>by cases e
 prot:=fun p hp=>by cases hp
theorem fn_mk {x:Str}{st:Stmt}{f:Addr}{fd:FuncData}{N ps:List Str}{k np n:Nat}{G:FS}(F:Fun K x x st f fd)(S:FnScope N ps (defScope st))(B:Binds K fd ps [])(hm:mg x=some (.ref f))(hp:ps.length=np)(hn:N.length=n)
  (body:∀(cdv:Value) (A:Around) (outer:List Env) (s:Shared) (H:Hp) (E:XK),Room k (A.deeper (envOfC x (defScope st) s.heap.objs.size f cdv))→
   PXSs (cxOf CX0 P w K mg base N x (defScope st) f cdv A outer s H E).nox (defBody st) G):Fn P w K mg base x (k + 1) (runD np n G):=by
 refine ⟨f,fd,ps,F.ok S (fun vs H Q E ⟨ds,d,l,e,q⟩=>?_) (fun cdv A outer s H vs Q E hr ⟨ds,d,l,e,q⟩=>⟨_,body cdv A outer s H E hr,?_⟩),B,F.kp,hm⟩
 ·unfold runD at e
  split at e
  ·rename_i hl;rw [←denL_length l,hl,hp]
  ·cases e
 ·unfold runD at e
  split at e
  ·rename_i hl
   cases e1:G (start0 n ds) with
   | none=>rw [e1] at e;cases e
   | some r=>
    rw [e1] at e
    refine ⟨[],_,_,r,rep_start rfl hn l,e1,?_⟩
    cases r with
    | rt d'=>cases e;exact fun v H' s' d1=>q v H' s' d1
    | nx ρ'=>cases e;exact fun own' σ' H' rp'=>q .non H' rp'.same (by show Den _ Emp _ _ _;rw [Den])
    | bk ρ'=>cases e
    | ct ρ'=>cases e
  ·cases e
noncomputable def spLaw (K:PySem.W.Frag):Sp:=fun vs H Q _=>∃(a:Addr) (ns:List Int),vs=[.ref a]∧((∃o,H a=some (.frz o (.lst (ns.map V.int))))∨SqL K (fun _=>none) a (ns.map V.int))∧ns.length≤63∧∀H',Q (.bl true) H'
theorem denL_ints {K:PySem.W.Frag}{O:Addr→Prop}{H:Hp}:∀ns:List Int,DenL K O H (ns.map D.int) (ns.map V.int)
 | []=>by rw [List.map_nil,List.map_nil];exact denL_nil
 | n :: ns=>by rw [List.map_cons,List.map_cons];exact denL_cons (by rw [Den]) (denL_ints ns)
end
end Tw
set_option Elab.async false
set_option linter.all false
set_option maxRecDepth 100000
set_option maxHeartbeats 1000000
namespace Tw
open PySem PySem.Spec PyProof.Rows L2
structure QX (X:Cx) (e:Expr) (f:FE):Prop where
 to:PX X e f
structure QT (X:Cx) (e:Expr) (f:FT):Prop where
 to:PXT X e f
structure QW (X:Cx) (e:Expr) (f:FT):Prop where
 to:PXW X e f
structure QA (X:Cx) (e:List Expr) (f:FA):Prop where
 to:PXA X e f
structure QO (X:Cx) (e:Option Expr) (f:FO):Prop where
 to:PXO X e f
structure QS (X:Cx) (e:Stmt) (f:FS):Prop where
 to:PXS X e f
structure QSs (X:Cx) (e:List Stmt) (f:FS):Prop where
 to:PXSs X e f
section
variable {X:Cx}{a b c e:Expr}{pos:Pos}{f g h:FE}
theorem qx_name (i:Nat){x:Str}(hN:autoParam (X.N[i]? =some x) Zau.a2._auto_1)(hv:autoParam (Vis X.env.scope x) Zau.a4._auto_1)(hd:autoParam ((x == ("__debug__":Str))=false) Zau.a1._auto_1)(hcd:autoParam ((x == ("__classdict__":Str))=false) Zau.a1._auto_1):QX X (.Name x pos) (fVar i):=⟨px_name i hN hv hd hcd⟩
theorem qx_int {i:Int}{j:Nat}:QX X (.Constant (.int i) j pos) (fC (.int i)):=⟨px_int⟩
theorem qx_bl {i:Bool}{j:Nat}:QX X (.Constant (.bool i) j pos) (fC (.bl i)):=⟨px_bl⟩
theorem qx_sub (ha:QX X a f)(hb:QX X b g):QX X (.BinOp a .Sub b pos) (fSub f g):=⟨px_sub ha.to hb.to⟩
theorem qx_mul (ha:QX X a f)(hb:QX X b g):QX X (.BinOp a .Mult b pos) (fMul f g):=⟨px_mul ha.to hb.to⟩
theorem qx_div (ha:QX X a f)(hb:QX X b g):QX X (.BinOp a .FloorDiv b pos) (fDiv f g):=⟨px_div ha.to hb.to⟩
theorem qx_mod (ha:QX X a f)(hb:QX X b g):QX X (.BinOp a .Mod b pos) (fMod f g):=⟨px_mod ha.to hb.to⟩
theorem qx_pow (ha:QX X a f)(hb:QX X b g):QX X (.BinOp a .Pow b pos) (fPow f g):=⟨px_pow ha.to hb.to⟩
theorem qxt_gt (ha:QX X a f)(hb:QX X b g):QT X (.Compare a [.Gt] [b] pos) (fTest (fBin oGt f g)):=⟨pxt_gt ha.to hb.to⟩
theorem qxt_ge (ha:QX X a f)(hb:QX X b g):QT X (.Compare a [.GtE] [b] pos) (fTest (fBin oGe f g)):=⟨pxt_ge ha.to hb.to⟩
end
section
variable {X:Cx}{a b c e:Expr}{es rest:List Expr}{pos:Pos}{f g h:FE}{t u:FT}{fa:FA}
theorem qxt_tru (ha:QX X a f)(he:autoParam (∀whole,isTrue a X.env whole=(do let v ←whole;standAt a.pos;holding [v] (truthy v))) Zau.a3._auto_1):QT X a (fTru f):=⟨pxt_tru ha.to he⟩
theorem qxt_not (ha:QT X a t):QT X (.UnaryOp .Not a pos) (fNot t):=⟨pxt_not ha.to⟩
theorem qxw_and1 (ha:QT X a t):QW X (.BoolOp .And [a] pos) t:=⟨pxw_and1 ha.to⟩
theorem qxw_or1 (ha:QT X a t):QW X (.BoolOp .Or [a] pos) t:=⟨pxw_or1 ha.to⟩
theorem qxw_and (ha:QT X a t)(hb:QW X (.BoolOp .And (b :: rest) pos) u):QW X (.BoolOp .And (a :: b :: rest) pos) (fAnd t u):=⟨pxw_and ha.to hb.to⟩
theorem qxw_or (ha:QT X a t)(hb:QW X (.BoolOp .Or (b :: rest) pos) u):QW X (.BoolOp .Or (a :: b :: rest) pos) (fOr t u):=⟨pxw_or ha.to hb.to⟩
theorem qxt_of (ha:QW X a t):QT X a t:=⟨pxt_of ha.to⟩
theorem qx_one {op}(ha:QX X a f):QX X (.BoolOp op [a] pos) f:=⟨px_one ha.to⟩
theorem qx_and (ha:QX X a f)(hb:QX X (.BoolOp .And (b :: rest) pos) g):QX X (.BoolOp .And (a :: b :: rest) pos) (fAndV f g):=⟨px_and ha.to hb.to⟩
theorem qx_not (ha:QX X a f):QX X (.UnaryOp .Not a pos) (fNotV f):=⟨px_not ha.to⟩
theorem qxa_nil:QA X [] fNil:=⟨pxa_nil⟩
theorem qxa_cons (ha:QX X e f)(hr:QA X es fa)(hs:autoParam (starEach (e :: es) X.env=(false,eval e X.env) :: starEach es X.env) Zau.a2._auto_1):QA X (e :: es) (fCons f fa):=⟨pxa_cons ha.to hr.to hs⟩
theorem qx_tup {k:Nat}(ha:QA X es fa):QX X (.Tuple es k pos) (fTup fa):=⟨px_tup ha.to⟩
theorem qx_lst (ha:QA X es fa):QX X (.List es pos) (fLst fa):=⟨px_lst ha.to⟩
theorem qxo_none:QO X none fO0:=⟨pxo_none⟩
theorem qxo_some (ha:QX X e f):QO X (some e) (fO1 f):=⟨pxo_some ha.to⟩
theorem qx_len {p:Pos}(hm:X.mg "len"=none)(ha:QA X [e] fa)(hg:autoParam (Gl X "len") Zau.a2._auto_1)(he:autoParam (starEach [e] X.env=(false,eval e X.env) :: starEach [] X.env) Zau.a2._auto_1):QX X (.Call (.Name "len" p) [e] [] pos) (fCall kLen fa):=⟨px_len hm ha.to hg he⟩
theorem qx_max {p:Pos}{e':Expr}(hc:X.calm=true)(hm:X.mg "max"=none)(ha:QA X [e,e'] fa)(hb:autoParam (bootBuiltins "max"=some (.builtin "max")) Zau.a2._auto_1)(hg:autoParam (Gl X "max") Zau.a2._auto_1)(he:autoParam (starEach [e,e'] X.env=(false,eval e X.env) :: starEach [e'] X.env) Zau.a2._auto_1)(hpl:autoParam ((backTo pos (starEach [e'] X.env)).any (·.1)=false) Zau.a2._auto_1):QX X (.Call (.Name "max" p) [e,e'] [] pos) (fCall kMax fa):=⟨px_max hc hm ha.to hb hg he hpl⟩
end
section
variable {X:Cx}{a b c e:Expr}{es rest:List Expr}{pos:Pos}{f g h:FE}{t u:FT}{fa:FA}
theorem qx_isi {T:String}{x:Str}{p p2:Pos}(hk:Kit X.K T)(hm:X.mg "isinstance"=none)(hmT:X.mg x=none)(ha:QX X e f)(hT:autoParam (bootBuiltins x=some (.type T)) Zau.a2._auto_1)(hb:autoParam (bootBuiltins "isinstance"=some (.builtin "isinstance")) Zau.a2._auto_1)(hg:autoParam (Gl X "isinstance") Zau.a2._auto_1)(hgT:autoParam (Gl X x) Zau.a2._auto_1)(hn:autoParam (x≠"__name__") Zau.a1._auto_1)(hdb:autoParam ((x == ("__debug__":Str))=false) Zau.a1._auto_1)
  (he:autoParam (starEach [e,.Name x p2] X.env=(false,eval e X.env) :: starEach [.Name x p2] X.env) Zau.a2._auto_1) (hpl:autoParam ((backTo pos (starEach [.Name x p2] X.env)).any (·.1)=false) Zau.a2._auto_1) (hs:autoParam (starEach [.Name x p2] X.env=(false,eval (.Name x p2) X.env) :: starEach [] X.env) Zau.a2._auto_1):QX X (.Call (.Name "isinstance" p) [e,.Name x p2] [] pos) (fIsi T f):=⟨px_isi hk hm hmT ha.to hT hb hg hgT hn hdb he hpl hs⟩
end
section
variable {X:Cx}{a b c e:Expr}{es rest:List Expr}{pos:Pos}{f g h:FE}{t u:FT}{fa:FA}
theorem qx_eq {k:Nat}(hr:Room k X.A)(ha:QX X a f)(hb:QX X b g):QX X (.Compare a [.Eq] [b] pos) (fBin (oEqN false) f g):=⟨px_eq hr ha.to hb.to⟩
theorem qxt_eq {k:Nat}(hr:Room k X.A)(ha:QX X a f)(hb:QX X b g):QT X (.Compare a [.Eq] [b] pos) (fTest (fBin (oEqN false) f g)):=⟨pxt_eq hr ha.to hb.to⟩
theorem qxt_ne {k:Nat}(hr:Room k X.A)(ha:QX X a f)(hb:QX X b g):QT X (.Compare a [.NotEq] [b] pos) (fTest (fBin (oEqN true) f g)):=⟨pxt_ne hr ha.to hb.to⟩
end
section
variable {X:Cx}{P:List (D×V)}{a b c e:Expr}{es:List Expr}{st:Stmt}{rest bd els:List Stmt}{pos:Pos}{f g:FE}{t:FT}{fa:FA}{F G:FS}
theorem qx_nil:QSs X [] (fun ρ=>some (.nx ρ)):=⟨px_nil⟩
theorem qx_cons (h1:QS X st F)(h2:QSs X rest G):QSs X (st :: rest) (fThen F G):=⟨px_cons h1.to h2.to⟩
theorem qx_last (h1:QS X st F):QSs X [st] F:=⟨px_last h1.to⟩
theorem qxs_ret (ha:QX X e f):QS X (.Return (some e) pos) (fRet f):=⟨pxs_ret ha.to⟩
theorem qxs_retN (i:Nat){x:Str}{p:Pos}(hN:autoParam (X.N[i]? =some x) Zau.a2._auto_1)(hv:autoParam (Vis X.env.scope x) Zau.a4._auto_1)(hd:autoParam ((x == ("__debug__":Str))=false) Zau.a1._auto_1)(hcd:autoParam ((x == ("__classdict__":Str))=false) Zau.a1._auto_1):QS X (.Return (some (.Name x p)) pos) (fRetN i):=⟨pxs_retN i hN hv hd hcd⟩
theorem qxs_if (hc:QT X c t)(ha:QSs X bd F)(hb:QSs X els G):QS X (.If c bd els pos) (fIfS t F G):=⟨pxs_if hc.to ha.to hb.to⟩
theorem qxs_set (i:Nat){x:Str}{pos':Pos}(hN:X.N.Nodup)(ha:QX X e f)(hi:autoParam (X.N[i]? =some x) Zau.a2._auto_1)(hx:autoParam (Loc X.env.scope x) Zau.a6._auto_1)(hs:autoParam (swapsWith e (some (.Name x pos')) pos.line X.env=pure false) Zau.a2._auto_1)(hf:autoParam (X.fn x=true∨X.env.scope.names.lookup x=some .local) Zau.a7._auto_1):QS X (.Assign [.Name x pos'] e pos) (fAsg i f):=⟨pxs_set i hN ha.to hi hx hs hf⟩
theorem qxs_app (i:Nat){x:Str}{p apos cpos:Pos}(ha:QX X e f)(hN:autoParam (X.N[i]? =some x) Zau.a2._auto_1)(hv:autoParam (Vis X.env.scope x) Zau.a4._auto_1)(hd:autoParam ((x == ("__debug__":Str))=false) Zau.a1._auto_1)(hcd:autoParam ((x == ("__classdict__":Str))=false) Zau.a1._auto_1)
  (hbase:autoParam (attributeBase (.Name x p) "append" X.env (eval (.Name x p) X.env)=eval (.Name x p) X.env) Zau.a2._auto_1)
  (hfew:autoParam (((backTo cpos (starEach [e] X.env)).all (fun x=>!x.1) && (backToKw cpos (keywordEach [] X.env)).all (fun x=>x.1.isSome) && decide (([e]:List Expr).length + ([]:List Keyword).length + (if ([]:List Keyword).isEmpty then 0 else 1) < 30))=true) Zau.a2._auto_1)
  (hline:autoParam ((apos.endLine == cpos.line)=true) Zau.a2._auto_1) (hs:autoParam (starEach [e] X.env=(false,eval e X.env) :: starEach [] X.env) Zau.a2._auto_1) (hsw:autoParam (swapsWith (.Call (.Attribute (.Name x p) "append" apos) [e] [] cpos) none pos.line X.env=pure false) Zau.a2._auto_1):QS X (.Expr (.Call (.Attribute (.Name x p) "append" apos) [e] [] cpos) pos) (fApp i f):=⟨pxs_app i ha.to hN hv hd hcd hbase hfew hline hs hsw⟩
theorem qxs_while {body:List Stmt}{b:FS}(hp:PassesOwn (model X.prog X.w) X.A X.env X.xe)(hc:QT X c t)(hb:QSs X body b):QS X (.While c body [] pos) (whileV t b):=⟨pxs_while hp hc.to hb.to⟩
end
section
variable {P:Program}{w:World}{K:PySem.W.Frag}{mg:Str→Option Value}{base:Heap}
end
section
variable {X:Cx}{e:Expr}{es:List Expr}{pos p:Pos}{fa:FA}{x:Str}{k:Nat}{g:List D→Option D}
theorem qx_call (F:Fn X.prog X.w X.K X.mg X.base x k g)(hr:Room k X.A)(ha:QA X (e :: es) fa)(hg:autoParam (Gl X x) Zau.a2._auto_1)(hdb:autoParam ((x == ("__debug__":Str))=false) Zau.a1._auto_1)
  (he:autoParam (starEach (e :: es) X.env=(false,eval e X.env) :: starEach es X.env) Zau.a2._auto_1) (hpl:autoParam ((backTo pos (starEach es X.env)).any (·.1)=false) Zau.a2._auto_1):QX X (.Call (.Name x p) (e :: es) [] pos) (fCall g fa):=⟨px_call F hr ha.to hg hdb he hpl⟩
end
section
variable {X:Cx}{a iter:Expr}{pos p p2 px:Pos}{f:FE}{fa:FA}{x:Str}{body:List Stmt}{b:FS}
theorem qxs_forRi (i:Nat)(hN:X.N.Nodup)(hp:PassesOwn (model X.prog X.w) X.A X.env X.xe)(hc:X.calm=true)(hm:X.mg "range"=none)(ha:QA X [a] fa)(hb:QSs X body b)(hi:autoParam (X.N[i]? =some x) Zau.a2._auto_1)(hx:autoParam (Loc X.env.scope x) Zau.a6._auto_1)(hf:autoParam (X.fn x=true∨X.env.scope.names.lookup x=some .local) Zau.a7._auto_1)
  (hgl:autoParam (Gl X "range") Zau.a2._auto_1) (hs:autoParam (∀x,foldedSetIterable (.Call (.Name "range" p) [a] [] p2) X.env x=pure x) Zau.a3._auto_1) (hst:autoParam (starEach [a] X.env=[(false,eval a X.env)]) Zau.a2._auto_1):QS X (.For (.Name x px) (.Call (.Name "range" p) [a] [] p2) body [] pos) (fForR fa (gfName i) b):=⟨pxs_forRi i hN hp hc hm ha.to hb.to hi hx hf hgl hs hst⟩
theorem qxs_fori (i:Nat)(hN:X.N.Nodup)(hp:PassesOwn (model X.prog X.w) X.A X.env X.xe)(hc:X.calm=true)(ha:QX X iter f)(hb:QSs X body b)(hi:autoParam (X.N[i]? =some x) Zau.a2._auto_1)(hx:autoParam (Loc X.env.scope x) Zau.a6._auto_1)(hf:autoParam (X.fn x=true∨X.env.scope.names.lookup x=some .local) Zau.a7._auto_1)
  (hs:autoParam (∀x,foldedSetIterable iter X.env x=pure x) Zau.a3._auto_1):QS X (.For (.Name x px) iter body [] pos) (fFor f (gfName i) b):=⟨pxs_fori i hN hp hc ha.to hb.to hi hx hf hs⟩
theorem qxs_forT {es:List Expr}{is:List Nat}{k:Nat}(hN:X.N.Nodup)(hp:PassesOwn (model X.prog X.w) X.A X.env X.xe)(hc:X.calm=true)(tg:Tg X es is)(ha:QX X iter f)(hb:QSs X body b)(hn:autoParam ((assignEach es X.env).length=is.length) Zau.a2._auto_1)(hst:autoParam ((assignEach es X.env).findIdx? (·.1)=none) Zau.a2._auto_1)
  (hs:autoParam (∀x,foldedSetIterable iter X.env x=pure x) Zau.a3._auto_1):QS X (.For (.Tuple es k px) iter body [] pos) (fFor f (gfTup is) b):=⟨pxs_forT hN hp hc tg ha.to hb.to hn hst hs⟩
end
section
variable {P:Program}{w:World}{K:PySem.W.Frag}{mg:Str→Option Value}{base:Heap}
end
end Tw
set_option Elab.async false
set_option linter.all false
set_option maxRecDepth 100000
set_option maxHeartbeats 1000000
namespace Tw
open PySem L2
theorem loopF_inv {b:D→FS}(I:Nat→Ev→Prop):∀(xs:List D) (n:Nat) (ρ:Ev),I n ρ→(∀i x ρ,xs[i]? =some x→I (n + i) ρ→∃ρ',(b x ρ=some (.nx ρ')∨b x ρ=some (.ct ρ'))∧I (n + i + 1) ρ')→∃ρ',loopF b xs ρ=some (.nx ρ')∧I (n + xs.length) ρ'
 | [],n,ρ,h,_=>⟨ρ,rfl,h⟩
 | x :: xs,n,ρ,h,st=>by
  obtain ⟨ρ1,e1,h1⟩:=st 0 x ρ rfl h
  obtain ⟨ρ2,e2,h2⟩:=loopF_inv I xs (n + 1) ρ1 h1 (fun i y ρ hy hi=>by
   have:=st (i + 1) y ρ (by simpa using hy) (by rw [show n + (i + 1)=n + 1 + i by (first|lia|omega)];exact hi)
   rw [show n + (i + 1) + 1=n + 1 + i + 1 by (first|lia|omega)] at this;exact this)
  refine ⟨ρ2,?_,by rw [List.length_cons,show n + (xs.length + 1)=n + 1 + xs.length by (first|lia|omega)];exact h2⟩
  rw [loopF]
  rcases e1 with e1 | e1 <;> rw [e1] <;> exact e2
theorem loopF_all {b:D→FS}(I:Ev→Prop)(xs:List D)(ρ:Ev)(h:I ρ)(st:∀x ρ,x∈xs→I ρ→∃ρ',b x ρ=some (.nx ρ')∧I ρ'):∃ρ',loopF b xs ρ=some (.nx ρ')∧I ρ':=
 loopF_inv (fun _=>I) xs 0 ρ h fun i x ρ hx hi=>let ⟨ρ',e,h'⟩:=st x ρ (List.mem_of_getElem? hx) hi;⟨ρ',.inl e,h'⟩
theorem whileF_inv {c:FT}{b:FS}(I:Ev→Prop)(μ:Ev→Nat)(st:∀ρ,I ρ→c ρ=some false∨(c ρ=some true∧∃ρ',b ρ=some (.nx ρ')∧I ρ'∧μ ρ' < μ ρ)):∀(n:Nat) (ρ:Ev),μ ρ≤n→I ρ→∃ρ',whileF c b (n + 1) ρ=some (.nx ρ')∧I ρ'∧c ρ'=some false
 | n,ρ,hn,h=>by
  rcases st ρ h with e | ⟨e,ρ1,e1,h1,m1⟩
  ·exact ⟨ρ,by rw [whileF,e];rfl,h,e⟩
  ·cases n with
   | zero=>(first|lia|omega)
   | succ n=>
    obtain ⟨ρ2,e2,h2,h3⟩:=whileF_inv I μ st n ρ1 (by (first|lia|omega)) h1
    exact ⟨ρ2,by rw [whileF,e];simp only [Option.bind_some,if_true];rw [e1];exact e2,h2,h3⟩
theorem whileV_inv {c:FT}{b:FS}(I:Ev→Prop)(μ:Ev→Nat)(ρ:Ev)(h:I ρ)(st:∀ρ,I ρ→c ρ=some false∨(c ρ=some true∧∃ρ',b ρ=some (.nx ρ')∧I ρ'∧μ ρ' < μ ρ)):∃ρ',whileV c b ρ=some (.nx ρ')∧I ρ'∧c ρ'=some false:=by
 obtain ⟨ρ',e,h'⟩:=whileF_inv I μ st (μ ρ) ρ (Nat.le_refl _) h
 exact ⟨ρ',whileV_of e,h'⟩
end Tw
set_option Elab.async false
set_option linter.all false
set_option maxRecDepth 100000
set_option maxHeartbeats 1000000
namespace Tw
open PySem PySem.Spec PyProof.Rows L2
theorem lfL_ints:∀ns:List Int,lfL (ns.map D.int)=true
 | []=>by simp [lfL]
 | n :: ns=>by rw [List.map_cons,lfL,lfL_ints ns];rfl
theorem cutD_ints (ns:List Int)(lo hi:Option Int):∃ms:List Int,cutD (ns.map D.int) lo hi=ms.map D.int∧ms.length≤ns.length:=by
 refine ⟨(ns.drop (HT.sIx (ns.map D.int).length 0 lo)).take (HT.sIx (ns.map D.int).length (ns.map D.int).length hi - HT.sIx (ns.map D.int).length 0 lo),?_,?_⟩
 ·unfold cutD;rw [List.map_take,List.map_drop]
 ·rw [List.length_take,List.length_drop];(first|lia|omega)
section
variable {P:Program}{w:World}{K:PySem.W.Frag}{mg:Str→Option Value}{base:Heap}
theorem law_ok {st:Stmt}{f:Addr}{fd:FuncData}{N ps:List Str}{k np n:Nat}{G:FS}(F:Fun K "law" "law" st f fd)(S:FnScope N ps (defScope st))(hp:ps.length=np)(hn:N.length=n)
  (body:∀(cdv:Value) (A:Around) (outer:List Env) (s:Shared) (H:Hp) (E:XK),Room k (A.deeper (envOfC "law" (defScope st) s.heap.objs.size f cdv))→
   PXSs (cxOf CX0 P w K mg base N "law" (defScope st) f cdv A outer s H E).nox (defBody st) G)
  (h:∀ns:List Int,ns.length≤63→runD np n G [.scr (ns.map D.int)]=some (.bl true)):FnOk P w K mg base CX0 (k + 1) f fd ps (spLaw K):=by
 refine F.ok S (fun vs H Q E ⟨a,ns,ev,hq,hl,q⟩=>?_) (fun cdv A outer s H vs Q E hr ⟨a,ns,ev,hq,hl,q⟩=>⟨_,body cdv A outer s H E hr,?_⟩)
 ·have e:=h ns hl
  unfold runD at e
  split at e
  ·rename_i hl'
   rw [ev,hp,←hl'];rfl
  ·cases e
 ·have e:=h ns hl
  unfold runD at e
  split at e
  ·rename_i hl'
   cases e1:G (start0 n [.scr (ns.map D.int)]) with
   | none=>rw [e1] at e;cases e
   | some r=>
    rw [e1] at e
    have l:DenL K Emp H [.scr (ns.map D.int)] vs:=by
     rw [ev]
     refine denL_cons ?_ denL_nil
     rw [Den]
     exact ⟨a,_,rfl,hq,denL_ints ns⟩
    refine ⟨[],_,_,r,rep_start rfl hn l,e1,?_⟩
    cases r with
    | rt d'=>cases e;exact fun v H' s' d1=>by have:=den_bl.mp d1.den;rw [this];exact q H'
    | nx ρ'=>cases e
    | bk ρ'=>cases e
    | ct ρ'=>cases e
  ·cases e
theorem walk {l:PySem.W.OpenLaw}{q:Program}{loose:List Str}{XP:(Str→Option Value)→Heap→Prop}{YP:World→Heap→Prop}{d:DefRec}{K:Params→PySem.W.Frag}(hn:l.most=some 63)(hdf:d.params.defaults=[])
  (hY:∀(w:World) (h:Heap),YP w h→(K w.params).In h)
  (F:∀(w:World) (mg:Str→Option Value) (fa:Addr) (h:Heap),(K w.params).In h→h.Ns mainGlobals mg→mg d.name=some (.ref fa)→
   ∃fd:FuncData,(∀(s:Shared) (u:Value),BindsTo s fd ⟨[u],[]⟩ [("script",u)])∧∀base:Heap,(K w.params).In base→base.Ns mainGlobals mg→FnOk l.prog w (K w.params) mg base CX0 20 fa fd ["script"] (spLaw (K w.params))):
  PySem.W.WalkO q loose XP YP l.row.toRowW d [] (fun f vs=>PySem.call f vs):=
 L2.walk_of (n:=63) (k:=20) (x:="script") (CX:=fun _=>CX0) (sp:=fun w=>spLaw (K w.params)) hn (by decide) hdf ⟨rfl,by decide,by decide⟩ hY F (fun _ H a ns hl hO hS=>⟨a,ns,rfl,(by
  rcases hS with (hS | ⟨o,hS⟩) | hS
  ·rcases hO a with z | ⟨o,ys,z⟩
   ·rw [z] at hS;cases hS
   ·rw [z] at hS;cases hS
  ·exact .inl ⟨o,hS⟩
  ·exact .inr (.inr hS)),hl,fun _=>rfl⟩) fun _ _ _ _ _ z=>z
end
end Tw
set_option Elab.async false
set_option linter.all false
set_option maxRecDepth 100000
set_option maxHeartbeats 1000000
namespace Tw
open PySem PySem.Spec PyProof.Rows L2
structure Fly (P:Program) (w:World) (l:List Env) (H:Hp) (s:Shared) (C x:Addr) (H':Hp) (s':Shared):Prop where
 os:s'.os=s.os
 bare:AllBare s'.gens
 un:Un (frs l) [] H H' s.heap s'.heap
 hok:HOk P w H' s'.heap
 fly:∃B a0,Heap.FlyingW B l x (.ref C) a0 s'.heap∧∀b o,s'.heap.get? b=some o→b∉frs l→((∃o0,s.heap.get? b=some o0)∨H' b≠none)→B.get? b=some o
noncomputable def CXE (P:Program) (w:World):CXT:=fun l H s E e s'=>∃C x H',e= .ref x∧Fly P w l H s C x H' s'∧E e (some C) H'
section
variable {X:Cx}{pins:List (Addr×Obj)}{σ:L2.St}{H H':Hp}{s s':Shared}{h'' B:Heap}{x C:Addr}{a0:Value}
noncomputable def Thr (X:Cx) (C:Addr) (v:Value) (s':Shared):Prop:=∃pins σ x H1 s1,v= .ref x∧Inv X pins σ H1 s1∧Same X.H₀ H1∧
 ((∃h' args,Heap.MadeExcOf s1.heap h' x (.ref C) args∧s'={s1 with heap:=h'})∨∃H',Same H1 H'∧Fly X.prog X.w X.stack H1 s1 C x H' s')
end
end Tw
set_option Elab.async false
set_option linter.all false
set_option maxRecDepth 100000
set_option maxHeartbeats 1000000
namespace Tw
open PySem PySem.Spec PyProof.Rows L2
noncomputable abbrev FR:=Ev→Option Addr
theorem Rep.wish {X:Cx}{P:List (D×V)}{ρ:Ev}{own:Nat→Option Addr}{σ:L2.St}{H:Hp}(r:Rep X P ρ own σ H)(E:Value→Shared→Prop):Rep (X.wish E) P ρ own σ H:=⟨r.same,r.len,r.slot,r.inj,r.lst,r.new,r.prot⟩
theorem Rep.unwish {X:Cx}{E:Value→Shared→Prop}{P:List (D×V)}{ρ:Ev}{own:Nat→Option Addr}{σ:L2.St}{H:Hp}(r:Rep (X.wish E) P ρ own σ H):Rep X P ρ own σ H:=⟨r.same,r.len,r.slot,r.inj,r.lst,r.new,r.prot⟩
structure PR (X:Cx) (st:Stmt) (r:FR):Prop where
 to:∀(pins:List (Addr×Obj)) (s:Shared) (σ:L2.St) (H:Hp) (P:List (D×V)) (own:Nat→Option Addr) (ρ:Ev) (C:Addr),Inv X pins σ H s→Rep X P ρ own σ H→r ρ=some C→
  wpAny (model X.prog X.w) X.A (exec st X.env) (fun _ _=>False) (Thr X C) s
structure PRs (X:Cx) (st:List Stmt) (r:FR):Prop where
 to:∀(pins:List (Addr×Obj)) (s:Shared) (σ:L2.St) (H:Hp) (P:List (D×V)) (own:Nat→Option Addr) (ρ:Ev) (C:Addr),Inv X pins σ H s→Rep X P ρ own σ H→r ρ=some C→
  wpAny (model X.prog X.w) X.A (execs st X.env) (fun _ _=>False) (Thr X C) s
structure PRe (X:Cx) (e:Expr) (r:FR):Prop where
 to:∀(pins:List (Addr×Obj)) (s:Shared) (σ:L2.St) (H:Hp) (ρ:Ev) (C:Addr),Inv X pins σ H s→RepV X.K ρ σ H→r ρ=some C→
  wpAny (model X.prog X.w) X.A (eval e X.env) (fun _ _=>False) (fun v s'=>∃x H1 s1 H',v= .ref x∧Inv X pins σ H1 s1∧Same H H1∧Same H1 H'∧Fly X.prog X.w X.stack H1 s1 C x H' s') s
noncomputable def spR (K:PySem.W.Frag) (gx:List D→Option Addr):Sp:=fun vs H _ E=>∃ds C,DenL K Emp H ds vs∧gx ds=some C∧∀v H',Same H H'→E v (some C) H'
structure FnR (P:Program) (w:World) (K:PySem.W.Frag) (mg:Str→Option Value) (base:Heap) (x:Str) (k:Nat) (gx:List D→Option Addr):Prop where
 ex:∃(f:Addr) (fd:FuncData) (ps:List Str),FnOk P w K mg base (CXE P w) k f fd ps (spR K gx)∧Binds K fd ps []∧PySem.W.keepIn K (.ref f)=true∧mg x=some (.ref f)
theorem FnR.mono {P:Program}{w:World}{K:PySem.W.Frag}{mg:Str→Option Value}{base:Heap}{x:Str}{j k:Nat}{g:List D→Option Addr}(F:FnR P w K mg base x j g)(h:j≤k):FnR P w K mg base x k g:=by
 obtain ⟨f,fd,ps,a,b,c,d⟩:=F.ex
 exact ⟨f,fd,ps,a.mono h,b,c,d⟩
section
variable {X:Cx}{e:Expr}{es:List Expr}{pos p np cpos:Pos}{fa:FA}{x:Str}{k:Nat}{C:Addr}{st:Stmt}{rest bd els:List Stmt}{F:FS}{r r1 r2:FR}{t:FT}{c:Expr}
end
section
variable {P:Program}{w:World}{K:PySem.W.Frag}{mg:Str→Option Value}{base:Heap}
end
end Tw
set_option Elab.async false
set_option linter.all false
set_option maxRecDepth 100000
set_option maxHeartbeats 1000000
namespace Tw
open PySem PySem.Spec PyProof.Rows L2
section
variable {X:Cx}{pins:List (Addr×Obj)}{σ:L2.St}{H H1 H':Hp}{s s1 s':Shared}{h5 B:Heap}{x C:Addr}{a0 v:Value}{P:List (D×V)}{ρ:Ev}{own:Nat→Option Addr}
theorem Rep.drop (r:Rep X P ρ own σ H){i:Nat}:Rep X P (ρ.set i none) own (σ.set i none) H where
 same:=r.same
 len:=by rw [List.length_set,List.length_set];exact r.len
 slot:=fun j d e=>by
  by_cases q:i=j
  ·subst q
   rw [List.getElem?_set,if_pos rfl] at e
   split at e <;> cases e
  ·rw [List.getElem?_set_ne q] at e
   obtain ⟨u,h1,h2⟩:=r.slot j d e
   exact ⟨u,by rw [List.getElem?_set_ne q];exact h1,h2⟩
 inj:=r.inj
 lst:=r.lst
 new:=r.new
 prot:=r.prot
end
end Tw
set_option Elab.async false
set_option linter.all false
set_option maxRecDepth 100000
set_option maxHeartbeats 1000000
namespace Tw
open PySem PySem.Spec PyProof.Rows L2
section
variable {X:Cx}{e:Expr}{ep np hp pos:Pos}{f:FE}{r:FR}{G:FS}{T n:Str}{CT:Addr}{b₀:Stmt}{suite:List Stmt}
end
end Tw
set_option Elab.async false
set_option linter.all false
set_option maxRecDepth 100000
set_option maxHeartbeats 1000000
namespace Tw
open PySem PySem.Spec PyProof.Rows L2
section
variable {prog:Program}{w:World}{A:Around}{E:Value→Shared→Prop}{K:PySem.W.Frag}{h:Heap}{g:Array GenState}{d:Drawn}{t:Nat}{os:OsState}{a C:Addr}{o:Obj}
end
structure ExcC (K:PySem.W.Frag) (C:Addr):Prop where
 ob:PySem.W.mroIn K C (.type "object")=some true
 be:PySem.W.mroIn K C (.type "BaseException")=some true
 cl:PySem.W.findIn K (.ref C) "__class__"=some (some (.builtin "object.__class__"))
 ga:PySem.W.findIn K (.ref C) "__getattribute__"=some (some (.builtin "BaseException.__getattribute__"))
 na:PySem.W.findIn K (.ref C) "__getattr__"=some none
section
variable {X:Cx}{e:Expr}{pos p p2:Pos}{f:FE}{x:Str}
end
end Tw
set_option Elab.async false
set_option linter.all false
set_option maxRecDepth 100000
set_option maxHeartbeats 1000000
namespace Tw
open PySem PySem.Spec PyProof.Rows L2
section
variable {X:Cx}{a:Expr}{pos p p1 p2:Pos}{fa:FA}
end
noncomputable def k1 (c:Addr) (b:Bool):Addr→Option Bool:=fun C=>if C=c then some b else none
end Tw
set_option Elab.async false
set_option linter.all false
set_option maxRecDepth 100000
set_option maxHeartbeats 1000000
namespace Tw
open PySem PySem.Spec PyProof.Rows L2
section
variable {prog:Program}{w:World}{A:Around}{E:Value→Shared→Prop}{s:Shared}
theorem draw_lst {it t:Addr}{its:Array Value}(ne:t≠it):∀(n i:Nat) (s:Shared) (Q:List Value→Shared→Prop),s.heap.IsListIter it t i→s.heap.IsList t its→i + n≤its.size→
  (∀h',h'.IsListIter it t (i + n)→Heap.SameBut it s.heap h'→Q ((its.toList.drop i).take n) {s with heap:=h'})→wpAny (model prog w) A (draw (.ref it) n) Q E s
 | 0,i,s,Q,hi,_,_,q=>by
  show wpAny _ _ (pure []) Q E s
  exact wpAny_pure (by simpa using q s.heap hi (Heap.SameBut.refl ..))
 | n + 1,i,s,Q,hi,ht,le,q=>by
  have lt:i < its.size:=by (first|lia|omega)
  show wpAny _ _ (pyNext (.ref it) >>=_) Q E s
  refine wpAny_bind (wpAny_pyNext_list_item hi ht (x:=its[i]) (by simp [lt]) fun h1 hi1 hs1=>?_)
  refine wpAny_bind (wpAny_holding (draw_lst ne n (i + 1) _ _ hi1 (ht.extBut hs1.extBut ne) (by (first|lia|omega)) fun h2 hi2 hs2=>wpAny_pure ?_))
  have hd:its.toList.drop i=its[i] :: its.toList.drop (i + 1):=by simp [List.drop_eq_getElem_cons,lt]
  have z:=q h2 (by rw [show i + (n + 1)=i + 1 + n by (first|lia|omega)];exact hi2) (hs1.trans hs2)
  rw [hd,List.take_succ_cons] at z
  exact z
theorem items_lst {t:Addr}{its:Array Value}{Q:List Value→Shared→Prop}(hh:A.handled=none)(ht:s.heap.IsList t its)
  (q:∀h',Heap.ExtBut s.heap.objs.size s.heap h'→Q its.toList {s with heap:=h'}):wpAny (model prog w) A (unpackItems (.ref t) its.size none) Q E s:=by
 have ne:t≠s.heap.objs.size:=by obtain ⟨o,ho,_⟩:=ht;exact Nat.ne_of_lt (Heap.lt_size ho)
 unfold unpackItems
 refine wpAny_bind ?_
 unfold notIterableAtAll
 refine wpAny_bind (wpAny_specialOf ht.typeIs slot_list_iter.lookup ?_)
 refine wpAny_pure ?_
 simp only [Bool.false_eq_true,if_false]
 refine wpAny_bind (wpAny_holding (wpAny_pyIter_list ht ?_))
 refine wpAny_bind (wpAny_holding (draw_lst ne its.size 0 _ _ ⟨_,Heap.get?_push_size _ rfl,rfl,rfl⟩ (ht.push _) (by (first|lia|omega)) fun h1 hi1 hs1=>?_))
 have all:List.take its.size (List.drop 0 its.toList)=its.toList:=by rw [List.drop_zero];exact List.take_of_length_le (by simp)
 rw [all,if_neg (by simp)]
 have ht1:h1.IsList t its:=(ht.push _).extBut hs1.extBut ne
 refine wpAny_bind (wpAny_holding (wpAny_pyNext_list_end hh hi1 ht1 (by simp) fun h2 he2=>?_))
 simp only [Option.isSome_none,Bool.false_eq_true,if_false]
 exact wpAny_pure (q h2 fun b o hb e=>he2 b o hb (hs1.extBut b o hb (Heap.get?_push_of_some _ e)))
theorem assign_lst {env:Env}{elts:List Expr}{x1}{pos:Pos}{t:Addr}{its:Array Value}{Q:Unit→Shared→Prop}(hh:A.handled=none)(ht:s.heap.IsList t its)
  (hn:(assignEach elts env).length=its.size) (st:(assignEach elts env).findIdx? (·.1)=none)
  (h:∀h',Heap.ExtBut s.heap.objs.size s.heap h'→wpAny (model prog w) A (assignInOrder ((assignEach elts env).map (·.2)) its.toList) Q E {s with heap:=h'}):
  wpAny (model prog w) A (assign (.Tuple elts x1 pos) env (.ref t)) Q E s:=by
 rw [arm_assign_Tuple]
 refine wpAny_bind (wpAny_standAt ?_)
 unfold unpack
 rw [hn,st]
 exact wpAny_bind (wpAny_holding (items_lst hh ht h))
end
noncomputable def gLst (K:PySem.W.Frag) (n:Nat) (t:TGs):TG:=fun v σ H Q=>∃a xs,v= .ref a∧SqL K H a xs∧xs.length=n∧t xs σ H Q
section
variable {X:Cx}{e:Expr}{es:List Expr}{pos:Pos}{f:FE}
theorem pg_lst {k:Nat}{t:TGs}{n:Nat}(hc:X.calm=true)(h:PGs X es t)(hn:autoParam ((assignEach es X.env).length=n) Zau.a2._auto_1)(hst:autoParam ((assignEach es X.env).findIdx? (·.1)=none) Zau.a2._auto_1):PG X (.Tuple es k pos) (gLst X.K n t):=by
 intro pins s σ H v u Q I r hw
 obtain ⟨a,xs,e1,hq,hl,hw⟩:=hw
 subst e1
 cases r
 obtain ⟨its,rv,⟨o,m,h1,h2,_,h4⟩,hz⟩:=I.list hq
 refine assign_lst (I.ok.hd hc) ⟨o,h1,h2,m,h4⟩ (by simp [hn,←hl,rv.length]) hst fun h' hx=>?_
 have I1:Inv X pins σ H {s with heap:=h'}:=I.kept (t':=s.toks) fun b o e=>hx b o (Nat.ne_of_lt (Heap.lt_size e)) e
 exact h pins _ σ H xs _ Q I1 (by simpa using rv) hw
noncomputable def fUnS (is:List Nat) (f:FE):FS:=fun ρ=>(f ρ).bind fun d=>match d with
 | .tup ds=>if ds.length=is.length∧lfL ds=true then some (.nx (setAll is ds ρ)) else none
 | .lst ds=>if ds.length=is.length∧lfL ds=true then some (.nx (setAll is ds ρ)) else none
 | _=>none
theorem pg_seq {k n:Nat}{t:TGs}(hc:X.calm=true)(h:PGs X es t)(hn:autoParam ((assignEach es X.env).length=n) Zau.a2._auto_1)(hst:autoParam ((assignEach es X.env).findIdx? (·.1)=none) Zau.a2._auto_1):PG X (.Tuple es k pos) (fun v σ H Q=>gTup X.K n t v σ H Q∨gLst X.K n t v σ H Q):=by
 intro pins s σ H v u Q I r hw
 rcases hw with hw | hw
 ·exact pg_tup hc h hn hst pins s σ H v u Q I r hw
 ·exact pg_lst hc h hn hst pins s σ H v u Q I r hw
end
end Tw
set_option Elab.async false
set_option linter.all false
set_option maxRecDepth 100000
set_option maxHeartbeats 4000000
local macro_rules | `(tactic| walk_at "tv a") => `(tactic| first | exact Tw.qxa_nil | (refine' Tw.qxa_cons ?h0 ?h1; (case h0 => walk_at "tv e"); (case h1 => walk_at "tv a")))
local macro_rules | `(tactic| walk_at "tv n") => `(tactic| first | exact Tw.qx_name 0 | exact Tw.qx_name 1 | exact Tw.qx_name 2 | exact Tw.qx_name 3 | exact Tw.qx_name 4 | exact Tw.qx_name 5 | exact Tw.qx_name 6 | exact Tw.qx_name 7 | exact Tw.qx_name 8 | exact Tw.qx_name 9 | exact Tw.qx_name 10 | exact Tw.qx_name 11 | exact Tw.qx_name 12 | exact Tw.qx_name 13 | exact Tw.qx_name 14 | exact Tw.qx_name 15 | exact Tw.qx_name 16 | exact Tw.qx_name 17 | exact Tw.qx_name 18 | exact Tw.qx_name 19)
local macro_rules | `(tactic| walk_at "tv e") => `(tactic| first
 | exact Tw.qx_int | exact Tw.qx_bl | exact Tw.qx_non | exact Tw.qx_str | exact Tw.qx_dic | walk_at "tv n"
 | (refine' Tw.qx_add ?h0 ?h1;(case h0=>walk_at "tv e");(case h1=>walk_at "tv e")) | (refine' Tw.qx_sub ?h0 ?h1;(case h0=>walk_at "tv e");(case h1=>walk_at "tv e")) | (refine' Tw.qx_mul ?h0 ?h1;(case h0=>walk_at "tv e");(case h1=>walk_at "tv e")) | (refine' Tw.qx_div ?h0 ?h1;(case h0=>walk_at "tv e");(case h1=>walk_at "tv e")) | (refine' Tw.qx_mod ?h0 ?h1;(case h0=>walk_at "tv e");(case h1=>walk_at "tv e")) | (refine' Tw.qx_pow ?h0 ?h1;(case h0=>walk_at "tv e");(case h1=>walk_at "tv e"))
 | (refine' Tw.qx_neg ?h0;(case h0=>walk_at "tv e")) | (refine' Tw.qx_not ?h0;(case h0=>walk_at "tv e"))
 | (refine' Tw.qx_lt ?h0 ?h1;(case h0=>walk_at "tv e");(case h1=>walk_at "tv e")) | (refine' Tw.qx_le ?h0 ?h1;(case h0=>walk_at "tv e");(case h1=>walk_at "tv e")) | (refine' Tw.qx_gt ?h0 ?h1;(case h0=>walk_at "tv e");(case h1=>walk_at "tv e")) | (refine' Tw.qx_ge ?h0 ?h1;(case h0=>walk_at "tv e");(case h1=>walk_at "tv e"))
 | (refine' Tw.qx_eq (by assumption) ?h0 ?h1;(case h0=>walk_at "tv e");(case h1=>walk_at "tv e")) | (refine' Tw.qx_ne (by assumption) ?h0 ?h1;(case h0=>walk_at "tv e");(case h1=>walk_at "tv e")) | (refine' Tw.qx_is ?h0 ?h1;(case h0=>walk_at "tv e");(case h1=>walk_at "tv e")) | (refine' Tw.qx_isnot ?h0 ?h1;(case h0=>walk_at "tv e");(case h1=>walk_at "tv e"))
 | (refine' Tw.qx_and ?h0 ?h1;(case h0=>walk_at "tv e");(case h1=>walk_at "tv e")) | (refine' Tw.qx_or ?h0 ?h1;(case h0=>walk_at "tv e");(case h1=>walk_at "tv e")) | (refine' Tw.qx_one ?h0;(case h0=>walk_at "tv e"))
 | (refine' Tw.qx_tup ?h0;(case h0=>walk_at "tv a")) | (refine' Tw.qx_lst ?h0;(case h0=>walk_at "tv a"))
 | (refine' Tw.qx_slice ?h0 ?h1 ?h2;(case h0=>walk_at "tv e");(case h1=>walk_at "tv o");(case h2=>walk_at "tv o")) | (refine' Tw.qx_ix ?h0 ?h1;(case h0=>walk_at "tv e");(case h1=>walk_at "tv e"))
 | (refine' Tw.qx_lenS (by assumption) ?h0;(case h0=>walk_at "tv a")) | (refine' Tw.qx_len (by assumption) ?h0;(case h0=>walk_at "tv a")) | (refine' Tw.qx_abs (by assumption) ?h0;(case h0=>walk_at "tv a")) | (refine' Tw.qx_max rfl (by assumption) ?h0;(case h0=>walk_at "tv a")) | (refine' Tw.qx_strI (by assumption) ?h0;(case h0=>walk_at "tv a"))
 | (refine' Tw.qx_isi (T:="tuple") (Tw.kit_mk (by decide)) (by assumption) (by assumption) ?h0;(case h0=>walk_at "tv e")) | (refine' Tw.qx_isi (T:="int") (Tw.kit_mk (by decide)) (by assumption) (by assumption) ?h0;(case h0=>walk_at "tv e")) | (refine' Tw.qx_isi (T:="bool") (Tw.kit_mk (by decide)) (by assumption) (by assumption) ?h0;(case h0=>walk_at "tv e")) | (refine' Tw.qx_isi (T:="str") (Tw.kit_mk (by decide)) (by assumption) (by assumption) ?h0;(case h0=>walk_at "tv e")) | (refine' Tw.qx_isi (T:="list") (Tw.kit_mk (by decide)) (by assumption) (by assumption) ?h0;(case h0=>walk_at "tv e")) | (refine' Tw.qx_isC (by assumption) (by assumption) (by assumption) (by assumption) ?h0;(case h0=>walk_at "tv e")) | (refine' Tw.qx_isT (by assumption) (by assumption) (by assumption) (by assumption) ?h0;(case h0=>walk_at "tv e")) | (refine' Tw.qx_bits ?h0;(case h0=>walk_at "tv e"))
 | (refine' Tw.qx_call (by assumption) (by assumption) ?h0;(case h0=>walk_at "tv a")) | (refine' Tw.qx_if ?h0 ?h1 ?h2;(case h0=>walk_at "tv t");(case h1=>walk_at "tv e");(case h2=>walk_at "tv e")))
local macro_rules | `(tactic| walk_at "tv o") => `(tactic| first | exact Tw.qxo_none | (refine' Tw.qxo_some ?h0; (case h0 => walk_at "tv e")))
local macro_rules | `(tactic| walk_at "tv w") => `(tactic| first | (refine' Tw.qxw_and ?h0 ?h1; (case h0 => walk_at "tv t"); (case h1 => walk_at "tv w")) | (refine' Tw.qxw_or ?h0 ?h1; (case h0 => walk_at "tv t"); (case h1 => walk_at "tv w")) | (refine' Tw.qxw_and1 ?h0; (case h0 => walk_at "tv t")) | (refine' Tw.qxw_or1 ?h0; (case h0 => walk_at "tv t")))
local macro_rules | `(tactic| walk_at "tv t") => `(tactic| first
 | (refine' Tw.qxt_lt ?h0 ?h1;(case h0=>walk_at "tv e");(case h1=>walk_at "tv e")) | (refine' Tw.qxt_le ?h0 ?h1;(case h0=>walk_at "tv e");(case h1=>walk_at "tv e")) | (refine' Tw.qxt_gt ?h0 ?h1;(case h0=>walk_at "tv e");(case h1=>walk_at "tv e")) | (refine' Tw.qxt_ge ?h0 ?h1;(case h0=>walk_at "tv e");(case h1=>walk_at "tv e"))
 | (refine' Tw.qxt_eq (by assumption) ?h0 ?h1;(case h0=>walk_at "tv e");(case h1=>walk_at "tv e")) | (refine' Tw.qxt_ne (by assumption) ?h0 ?h1;(case h0=>walk_at "tv e");(case h1=>walk_at "tv e")) | (refine' Tw.qxt_is ?h0 ?h1;(case h0=>walk_at "tv e");(case h1=>walk_at "tv e")) | (refine' Tw.qxt_isnot ?h0 ?h1;(case h0=>walk_at "tv e");(case h1=>walk_at "tv e"))
 | (refine' Tw.qxt_not ?h0;(case h0=>walk_at "tv t")) | (refine' Tw.qxt_of ?h0;(case h0=>walk_at "tv w")) | (refine' Tw.qxt_tru ?h0;(case h0=>walk_at "tv e")))
local macro_rules | `(tactic| walk_at "tv ss") => `(tactic| first | exact Tw.qx_nil | (refine' Tw.qx_last ?h0; (case h0 => walk_at "tv s")) | (refine' Tw.qx_cons ?h0 ?h1; (case h0 => walk_at "tv s"); (case h1 => walk_at "tv ss")))
local macro_rules | `(tactic| walk_at "tv tg") => `(tactic| first | exact Tw.Tg.nil | (refine' Tw.tg_cons (i := 0) ?h0; (case h0 => walk_at "tv tg")) | (refine' Tw.tg_cons (i := 1) ?h0; (case h0 => walk_at "tv tg")) | (refine' Tw.tg_cons (i := 2) ?h0; (case h0 => walk_at "tv tg")) | (refine' Tw.tg_cons (i := 3) ?h0; (case h0 => walk_at "tv tg")) | (refine' Tw.tg_cons (i := 4) ?h0; (case h0 => walk_at "tv tg")) | (refine' Tw.tg_cons (i := 5) ?h0; (case h0 => walk_at "tv tg")) | (refine' Tw.tg_cons (i := 6) ?h0; (case h0 => walk_at "tv tg")) | (refine' Tw.tg_cons (i := 7) ?h0; (case h0 => walk_at "tv tg")) | (refine' Tw.tg_cons (i := 8) ?h0; (case h0 => walk_at "tv tg")) | (refine' Tw.tg_cons (i := 9) ?h0; (case h0 => walk_at "tv tg")) | (refine' Tw.tg_cons (i := 10) ?h0; (case h0 => walk_at "tv tg")) | (refine' Tw.tg_cons (i := 11) ?h0; (case h0 => walk_at "tv tg")) | (refine' Tw.tg_cons (i := 12) ?h0; (case h0 => walk_at "tv tg")) | (refine' Tw.tg_cons (i := 13) ?h0; (case h0 => walk_at "tv tg")) | (refine' Tw.tg_cons (i := 14) ?h0; (case h0 => walk_at "tv tg")) | (refine' Tw.tg_cons (i := 15) ?h0; (case h0 => walk_at "tv tg")) | (refine' Tw.tg_cons (i := 16) ?h0; (case h0 => walk_at "tv tg")) | (refine' Tw.tg_cons (i := 17) ?h0; (case h0 => walk_at "tv tg")) | (refine' Tw.tg_cons (i := 18) ?h0; (case h0 => walk_at "tv tg")) | (refine' Tw.tg_cons (i := 19) ?h0; (case h0 => walk_at "tv tg")))
local macro_rules | `(tactic| walk_at "tv s") => `(tactic| first
 | exact Tw.qxs_pass | exact Tw.qxs_break | exact Tw.qxs_cont | exact Tw.qxs_retNone
 | exact Tw.qxs_retN 0 | exact Tw.qxs_retN 1 | exact Tw.qxs_retN 2 | exact Tw.qxs_retN 3 | exact Tw.qxs_retN 4 | exact Tw.qxs_retN 5 | exact Tw.qxs_retN 6 | exact Tw.qxs_retN 7 | exact Tw.qxs_retN 8 | exact Tw.qxs_retN 9 | exact Tw.qxs_retN 10 | exact Tw.qxs_retN 11 | exact Tw.qxs_retN 12 | exact Tw.qxs_retN 13 | exact Tw.qxs_retN 14 | exact Tw.qxs_retN 15 | exact Tw.qxs_retN 16 | exact Tw.qxs_retN 17 | exact Tw.qxs_retN 18 | exact Tw.qxs_retN 19
 | (refine' Tw.qxs_ret ?h0;(case h0=>walk_at "tv e"))
 | (refine' Tw.qxs_set 0 (by assumption) ?h0;(case h0=>walk_at "tv e")) | (refine' Tw.qxs_set 1 (by assumption) ?h0;(case h0=>walk_at "tv e")) | (refine' Tw.qxs_set 2 (by assumption) ?h0;(case h0=>walk_at "tv e")) | (refine' Tw.qxs_set 3 (by assumption) ?h0;(case h0=>walk_at "tv e")) | (refine' Tw.qxs_set 4 (by assumption) ?h0;(case h0=>walk_at "tv e")) | (refine' Tw.qxs_set 5 (by assumption) ?h0;(case h0=>walk_at "tv e")) | (refine' Tw.qxs_set 6 (by assumption) ?h0;(case h0=>walk_at "tv e")) | (refine' Tw.qxs_set 7 (by assumption) ?h0;(case h0=>walk_at "tv e")) | (refine' Tw.qxs_set 8 (by assumption) ?h0;(case h0=>walk_at "tv e")) | (refine' Tw.qxs_set 9 (by assumption) ?h0;(case h0=>walk_at "tv e")) | (refine' Tw.qxs_set 10 (by assumption) ?h0;(case h0=>walk_at "tv e")) | (refine' Tw.qxs_set 11 (by assumption) ?h0;(case h0=>walk_at "tv e")) | (refine' Tw.qxs_set 12 (by assumption) ?h0;(case h0=>walk_at "tv e")) | (refine' Tw.qxs_set 13 (by assumption) ?h0;(case h0=>walk_at "tv e")) | (refine' Tw.qxs_set 14 (by assumption) ?h0;(case h0=>walk_at "tv e")) | (refine' Tw.qxs_set 15 (by assumption) ?h0;(case h0=>walk_at "tv e")) | (refine' Tw.qxs_set 16 (by assumption) ?h0;(case h0=>walk_at "tv e")) | (refine' Tw.qxs_set 17 (by assumption) ?h0;(case h0=>walk_at "tv e")) | (refine' Tw.qxs_set 18 (by assumption) ?h0;(case h0=>walk_at "tv e")) | (refine' Tw.qxs_set 19 (by assumption) ?h0;(case h0=>walk_at "tv e"))
 | (refine' Tw.qxs_if ?h0 ?h1 ?h2;(case h0=>walk_at "tv t");(case h1=>walk_at "tv ss");(case h2=>walk_at "tv ss"))
 | (refine' Tw.qxs_par 0 1 rfl (by assumption) ?h0 rfl;(case h0=>walk_at "tv a")) | (refine' Tw.qxs_par 1 0 rfl (by assumption) ?h0 rfl;(case h0=>walk_at "tv a"))
 | (refine' Tw.qxs_unS rfl (by assumption) (by walk_at "tv tg") ?h0;(case h0=>walk_at "tv e"))
 | (refine' Tw.qxs_app 0 ?h0;(case h0=>walk_at "tv e")) | (refine' Tw.qxs_app 1 ?h0;(case h0=>walk_at "tv e")) | (refine' Tw.qxs_app 2 ?h0;(case h0=>walk_at "tv e")) | (refine' Tw.qxs_app 3 ?h0;(case h0=>walk_at "tv e")) | (refine' Tw.qxs_app 4 ?h0;(case h0=>walk_at "tv e")) | (refine' Tw.qxs_app 5 ?h0;(case h0=>walk_at "tv e")) | (refine' Tw.qxs_app 6 ?h0;(case h0=>walk_at "tv e")) | (refine' Tw.qxs_app 7 ?h0;(case h0=>walk_at "tv e")) | (refine' Tw.qxs_app 8 ?h0;(case h0=>walk_at "tv e")) | (refine' Tw.qxs_app 9 ?h0;(case h0=>walk_at "tv e")) | (refine' Tw.qxs_app 10 ?h0;(case h0=>walk_at "tv e")) | (refine' Tw.qxs_app 11 ?h0;(case h0=>walk_at "tv e")) | (refine' Tw.qxs_app 12 ?h0;(case h0=>walk_at "tv e")) | (refine' Tw.qxs_app 13 ?h0;(case h0=>walk_at "tv e")) | (refine' Tw.qxs_app 14 ?h0;(case h0=>walk_at "tv e")) | (refine' Tw.qxs_app 15 ?h0;(case h0=>walk_at "tv e")) | (refine' Tw.qxs_app 16 ?h0;(case h0=>walk_at "tv e")) | (refine' Tw.qxs_app 17 ?h0;(case h0=>walk_at "tv e")) | (refine' Tw.qxs_app 18 ?h0;(case h0=>walk_at "tv e")) | (refine' Tw.qxs_app 19 ?h0;(case h0=>walk_at "tv e"))
 | (refine' Tw.qxs_while PySem.PassesOwn.never ?h0 ?h1;(case h0=>walk_at "tv t");(case h1=>walk_at "tv ss"))
 | (refine' Tw.qxs_forRi 0 (by assumption) PySem.PassesOwn.never rfl (by assumption) ?h0 ?h1;(case h0=>walk_at "tv a");(case h1=>walk_at "tv ss"))
 | (refine' Tw.qxs_forRi 1 (by assumption) PySem.PassesOwn.never rfl (by assumption) ?h0 ?h1;(case h0=>walk_at "tv a");(case h1=>walk_at "tv ss"))
 | (refine' Tw.qxs_forRi 2 (by assumption) PySem.PassesOwn.never rfl (by assumption) ?h0 ?h1;(case h0=>walk_at "tv a");(case h1=>walk_at "tv ss"))
 | (refine' Tw.qxs_forRi 3 (by assumption) PySem.PassesOwn.never rfl (by assumption) ?h0 ?h1;(case h0=>walk_at "tv a");(case h1=>walk_at "tv ss"))
 | (refine' Tw.qxs_forRi 4 (by assumption) PySem.PassesOwn.never rfl (by assumption) ?h0 ?h1;(case h0=>walk_at "tv a");(case h1=>walk_at "tv ss"))
 | (refine' Tw.qxs_forRi 5 (by assumption) PySem.PassesOwn.never rfl (by assumption) ?h0 ?h1;(case h0=>walk_at "tv a");(case h1=>walk_at "tv ss"))
 | (refine' Tw.qxs_forRi 6 (by assumption) PySem.PassesOwn.never rfl (by assumption) ?h0 ?h1;(case h0=>walk_at "tv a");(case h1=>walk_at "tv ss"))
 | (refine' Tw.qxs_forRi 7 (by assumption) PySem.PassesOwn.never rfl (by assumption) ?h0 ?h1;(case h0=>walk_at "tv a");(case h1=>walk_at "tv ss"))
 | (refine' Tw.qxs_forRi 8 (by assumption) PySem.PassesOwn.never rfl (by assumption) ?h0 ?h1;(case h0=>walk_at "tv a");(case h1=>walk_at "tv ss"))
 | (refine' Tw.qxs_forRi 9 (by assumption) PySem.PassesOwn.never rfl (by assumption) ?h0 ?h1;(case h0=>walk_at "tv a");(case h1=>walk_at "tv ss")) | (refine' Tw.qxs_forRi 10 (by assumption) PySem.PassesOwn.never rfl (by assumption) ?h0 ?h1;(case h0=>walk_at "tv a");(case h1=>walk_at "tv ss")) | (refine' Tw.qxs_forRi 11 (by assumption) PySem.PassesOwn.never rfl (by assumption) ?h0 ?h1;(case h0=>walk_at "tv a");(case h1=>walk_at "tv ss")) | (refine' Tw.qxs_forRi 12 (by assumption) PySem.PassesOwn.never rfl (by assumption) ?h0 ?h1;(case h0=>walk_at "tv a");(case h1=>walk_at "tv ss")) | (refine' Tw.qxs_forRi 13 (by assumption) PySem.PassesOwn.never rfl (by assumption) ?h0 ?h1;(case h0=>walk_at "tv a");(case h1=>walk_at "tv ss")) | (refine' Tw.qxs_forRi 14 (by assumption) PySem.PassesOwn.never rfl (by assumption) ?h0 ?h1;(case h0=>walk_at "tv a");(case h1=>walk_at "tv ss")) | (refine' Tw.qxs_forRi 15 (by assumption) PySem.PassesOwn.never rfl (by assumption) ?h0 ?h1;(case h0=>walk_at "tv a");(case h1=>walk_at "tv ss")) | (refine' Tw.qxs_forRi 16 (by assumption) PySem.PassesOwn.never rfl (by assumption) ?h0 ?h1;(case h0=>walk_at "tv a");(case h1=>walk_at "tv ss")) | (refine' Tw.qxs_forRi 17 (by assumption) PySem.PassesOwn.never rfl (by assumption) ?h0 ?h1;(case h0=>walk_at "tv a");(case h1=>walk_at "tv ss")) | (refine' Tw.qxs_forRi 18 (by assumption) PySem.PassesOwn.never rfl (by assumption) ?h0 ?h1;(case h0=>walk_at "tv a");(case h1=>walk_at "tv ss")) | (refine' Tw.qxs_forRi 19 (by assumption) PySem.PassesOwn.never rfl (by assumption) ?h0 ?h1;(case h0=>walk_at "tv a");(case h1=>walk_at "tv ss"))
 | (refine' Tw.qxs_fori 0 (by assumption) PySem.PassesOwn.never rfl ?h0 ?h1;(case h0=>walk_at "tv e");(case h1=>walk_at "tv ss"))
 | (refine' Tw.qxs_fori 1 (by assumption) PySem.PassesOwn.never rfl ?h0 ?h1;(case h0=>walk_at "tv e");(case h1=>walk_at "tv ss"))
 | (refine' Tw.qxs_fori 2 (by assumption) PySem.PassesOwn.never rfl ?h0 ?h1;(case h0=>walk_at "tv e");(case h1=>walk_at "tv ss"))
 | (refine' Tw.qxs_fori 3 (by assumption) PySem.PassesOwn.never rfl ?h0 ?h1;(case h0=>walk_at "tv e");(case h1=>walk_at "tv ss"))
 | (refine' Tw.qxs_fori 4 (by assumption) PySem.PassesOwn.never rfl ?h0 ?h1;(case h0=>walk_at "tv e");(case h1=>walk_at "tv ss"))
 | (refine' Tw.qxs_fori 5 (by assumption) PySem.PassesOwn.never rfl ?h0 ?h1;(case h0=>walk_at "tv e");(case h1=>walk_at "tv ss"))
 | (refine' Tw.qxs_fori 6 (by assumption) PySem.PassesOwn.never rfl ?h0 ?h1;(case h0=>walk_at "tv e");(case h1=>walk_at "tv ss"))
 | (refine' Tw.qxs_fori 7 (by assumption) PySem.PassesOwn.never rfl ?h0 ?h1;(case h0=>walk_at "tv e");(case h1=>walk_at "tv ss"))
 | (refine' Tw.qxs_fori 8 (by assumption) PySem.PassesOwn.never rfl ?h0 ?h1;(case h0=>walk_at "tv e");(case h1=>walk_at "tv ss"))
 | (refine' Tw.qxs_fori 9 (by assumption) PySem.PassesOwn.never rfl ?h0 ?h1;(case h0=>walk_at "tv e");(case h1=>walk_at "tv ss")) | (refine' Tw.qxs_fori 10 (by assumption) PySem.PassesOwn.never rfl ?h0 ?h1;(case h0=>walk_at "tv e");(case h1=>walk_at "tv ss")) | (refine' Tw.qxs_fori 11 (by assumption) PySem.PassesOwn.never rfl ?h0 ?h1;(case h0=>walk_at "tv e");(case h1=>walk_at "tv ss")) | (refine' Tw.qxs_fori 12 (by assumption) PySem.PassesOwn.never rfl ?h0 ?h1;(case h0=>walk_at "tv e");(case h1=>walk_at "tv ss")) | (refine' Tw.qxs_fori 13 (by assumption) PySem.PassesOwn.never rfl ?h0 ?h1;(case h0=>walk_at "tv e");(case h1=>walk_at "tv ss")) | (refine' Tw.qxs_fori 14 (by assumption) PySem.PassesOwn.never rfl ?h0 ?h1;(case h0=>walk_at "tv e");(case h1=>walk_at "tv ss")) | (refine' Tw.qxs_fori 15 (by assumption) PySem.PassesOwn.never rfl ?h0 ?h1;(case h0=>walk_at "tv e");(case h1=>walk_at "tv ss")) | (refine' Tw.qxs_fori 16 (by assumption) PySem.PassesOwn.never rfl ?h0 ?h1;(case h0=>walk_at "tv e");(case h1=>walk_at "tv ss")) | (refine' Tw.qxs_fori 17 (by assumption) PySem.PassesOwn.never rfl ?h0 ?h1;(case h0=>walk_at "tv e");(case h1=>walk_at "tv ss")) | (refine' Tw.qxs_fori 18 (by assumption) PySem.PassesOwn.never rfl ?h0 ?h1;(case h0=>walk_at "tv e");(case h1=>walk_at "tv ss")) | (refine' Tw.qxs_fori 19 (by assumption) PySem.PassesOwn.never rfl ?h0 ?h1;(case h0=>walk_at "tv e");(case h1=>walk_at "tv ss"))
 | (refine' Tw.qxs_forT (by assumption) PySem.PassesOwn.never rfl (by walk_at "tv tg") ?h0 ?h1;(case h0=>walk_at "tv e");(case h1=>walk_at "tv ss"))
 | exact Tw.qxs_raise)
local macro_rules | `(tactic| walk_at "tv r") => `(tactic| simp only [Tw.runD, Tw.start0, Tw.fThen, Tw.fTest, Tw.fBin, Tw.fVar, Tw.fC, Tw.oI0, Tw.oI, Tw.oAdd, Tw.oIx, Tw.oEqN, Tw.oIs, Tw.isD, Tw.deq, Tw.deqL, Tw.flatE, Tw.frz, Tw.fPar, Tw.fCons, Tw.fNil, Tw.lf, Tw.lfL, Tw.fAsg, Tw.bindD, Tw.fIfS, Tw.fRet, Tw.fRetN, Tw.fCall, Tw.kAbs, Tw.kLen, Tw.kMax, Tw.fTup, Tw.fLst, Tw.fNeg, Tw.fNotV, Tw.fAndV, Tw.fOrV, Tw.bV, Tw.fNot, Tw.fAnd, Tw.fOr, Tw.fTru, Tw.truth, Tw.fIsi, Tw.isiB, Tw.tyD, Tw.items, Tw.fUnp, Tw.fUnS, Tw.setAll, Tw.fApp, Tw.fDrop, Tw.fIf, Tw.fBits, Tw.turnF, Tw.gfName, Tw.gfTup, Tw.isX,   List.length_cons, List.length_nil, List.map_cons, List.map_nil, List.replicate, List.append_nil, List.nil_append, List.cons_append, List.getElem?_cons_zero, List.getElem?_cons_succ, List.set_cons_zero, List.set_cons_succ, Option.bind_some, Option.map_some, Option.bind_none, Option.map_none, if_true, if_false, Bool.false_eq_true, Nat.zero_add, Nat.reduceAdd, Nat.reduceSub, Nat.sub_self, Nat.add_zero, and_self, and_true, true_and, Bool.and_self, Bool.and_true, Bool.true_and, Bool.not_true, Bool.not_false, Bool.or_false, Bool.or_true, Bool.false_or, Bool.true_or, Bool.and_false, Bool.false_and, reduceIte, decide_true, decide_false, Nat.reduceEqDiff, Nat.reduceLeDiff])
namespace KS
open PySem L2 Tw
theorem mOkL {a b:Int}(h:a.natAbs < 2 ^ 64):mOk a b:=.inl h
theorem dOk_small {j:Int}(h0:0 < j)(h:j.natAbs < 2 ^ 200):dOk j:=⟨h0,Nat.lt_of_lt_of_le h (by unfold big;exact Nat.pow_le_pow_right (by decide) (by decide))⟩
theorem cp {j:Int}(h0:0≤j)(h:j≤1000000):CPow 10 j:=⟨h0,h,by decide⟩
structure Good (B:Nat) (p q:Int):Prop where
 pos:0 < q
 top:p.natAbs≤B
 bot:q.natAbs≤B
 low:Int.gcd p q=1
theorem atI_ints {ns:List Int}{i:Int}(h0:0≤i)(h1:i < ns.length):∃n∈ns,atI (ns.map D.int) i=some (.int n):=by
 obtain ⟨j,rfl⟩:=Int.eq_ofNat_of_zero_le h0
 have hj:j < ns.length:=by (first|lia|omega)
 exact ⟨ns[j],List.getElem_mem hj,atI_nat (by rw [List.getElem?_map,List.getElem?_eq_getElem hj];rfl)⟩
theorem Good.mono {B B':Nat}{p q:Int}(h:Good B p q)(hb:B≤B'):Good B' p q:=⟨h.pos,Nat.le_trans h.top hb,Nat.le_trans h.bot hb,h.low⟩
noncomputable abbrev tp (a b:Int):D:=.tup [.int a,.int b]
end KS
set_option Elab.async false
set_option linter.all false
set_option maxRecDepth 100000
set_option maxHeartbeats 4000000
namespace KS
open PySem L2 Tw
noncomputable def isW:D→Bool
 | .int _=>true
 | _=>false
noncomputable def WholeSpec (g:List D→Option D):Prop:=∀d,isX d=false→g [d]=some (.bl (isW d))
noncomputable def Fin (xs:List D) (n:Nat) (r:Option R):Prop:=∃(ρ':Ev) (c':Option D),List.length ρ'=n∧r=some (.nx (some (.scr xs) :: c' :: ρ'))
end KS
set_option Elab.async false
set_option linter.all false
set_option maxRecDepth 100000
set_option maxHeartbeats 1500000
namespace K34
open PySem L2 Tw KS
noncomputable def top (i:Nat):Stmt:=PySem.Challenge.pw_twainhoard_k34_swaps_judged.main.body.getD i (.Pass ⟨0,0,0,0⟩)
noncomputable abbrev sWhole:Stmt:=top 1
noncomputable abbrev sLaw:Stmt:=top 27
section
variable {P:Program}{w:World}{K:PySem.W.Frag}{mg:Str→Option Value}{base:Heap}{f:Addr}{fd:FuncData}{k:Nat}
theorem scWhole:FnScope ["thing"] ["thing"] (defScope sWhole):=⟨rfl,rfl,rfl,by decide +kernel,rfl,by decide +kernel,by decide +kernel⟩
theorem fn_whole (mi:mg "isinstance"=none)(mt:mg "int"=none)(mb:mg "bool"=none)(F:Fun K "is_whole" "is_whole" sWhole f fd)(B:Binds K fd ["thing"] [])(hm:mg "is_whole"=some (.ref f)):∃g,Fn P w K mg base "is_whole" (k + 1) g∧WholeSpec g:=by
 have nd:=scWhole.nd
 refine ⟨_,fn_mk F scWhole B hm rfl rfl (fun cdv A outer s H E hr=>(by walk_at "tv ss":QSs _ _ _).to),fun d nx=>?_⟩
 cases d <;> first | rfl | cases nx
end
end K34
set_option Elab.async false
set_option linter.all false
set_option maxRecDepth 100000
set_option maxHeartbeats 1000000
namespace Tw
open PySem PySem.Spec PyProof.Rows L2
section
variable {prog:Program}{w:World}{A:Around}{R:Result→Shared→Prop}{s:Shared}
noncomputable abbrev Fa:Value→Shared→Prop:=fun _ _=>False
theorem comp_loop {elt tg iter:Expr}{ifs:List Expr}{scope:Scope}{pos:Pos}{it acc:Value}{env:Env}(I:Nat→Shared→Prop)
  (turn:∀n s,I n s→wpAny (model prog w) A (pyNext it) (fun r s1=>match r with
   | none=>R (.ok .next) s1
   | some v=>wpAny (model prog w) A (letOwnedTupleGo tg it v) (fun _ s2=>wpAny (model prog w) A (assign tg env v) (fun _ s3=>
     wpAny (model prog w) A (forIn ifs true fun c r=>if r=true then do let ok ←isTrue c env (eval c env);pure (ForInStep.yield ok) else pure (ForInStep.yield r)) (fun ok s4=>
      if ok=true then wpAny (model prog w) A (eval elt env) (fun x s5=>wpAny (model prog w) A (call (.builtin "list.append") [acc,x]) (fun _ s6=>∃m,m < n∧I m s6) Fa s5) Fa s4
      else ∃m,m < n∧I m s4) Fa s3) Fa s2) Fa s1) Fa s)
  (n:Nat) (h:I n s):codeAny (model prog w) A (.compLoop (.ListComp elt [⟨tg,iter,ifs,0⟩] scope pos) 0 it acc env) R s:=by
 refine codeAny_loop rfl I (fun n s hI=>?_) n h
 show wpAny _ A ((compTurn (.ListComp elt [⟨tg,iter,ifs,0⟩] scope pos) 0 it acc env).onRaise (fun x=>do noteFrame x env;theTreesLotGoes x)) _ _ s
 refine wpAny_noted ?_
 rw [compTurn_list]
 refine wpAny_bind (wpAny_standAt (wpAny_bind (wpAny_mono (turn n s hI) (fun r s1 h1=>?_) fun _ _ z=>z.elim)))
 cases r with
 | none=>exact wpAny_pure h1
 | some v=>
  refine wpAny_bind (wpAny_mono h1 (fun _ s2 h2=>wpAny_bind (wpAny_mono h2 (fun _ s3 h3=>wpAny_bind (wpAny_mono h3 (fun ok s4 h4=>?_) fun _ _ z=>z.elim)) fun _ _ z=>z.elim)) fun _ _ z=>z.elim)
  cases ok with
  | true=>
   rw [if_pos rfl] at h4 ⊢
   exact wpAny_bind (wpAny_bind (wpAny_mono h4 (fun x s5 h5=>wpAny_bind (wpAny_mono h5 (fun _ s6 h6=>wpAny_pure (wpAny_pure ⟨rfl,h6⟩)) fun _ _ z=>z.elim)) fun _ _ z=>z.elim))
  | false=>
   rw [if_neg Bool.false_ne_true] at h4 ⊢
   exact wpAny_bind (wpAny_pure (wpAny_pure ⟨rfl,h4⟩))
end
end Tw
set_option Elab.async false
set_option linter.all false
set_option maxRecDepth 100000
set_option maxHeartbeats 1000000
namespace Tw
open PySem PySem.Spec PyProof.Rows L2
noncomputable def blk (X:Cx) (scope:Scope) (cl:List (Str×Addr)) (s2:Shared) (H2:Hp) (fp:List Addr) (C:Addr) (N:List Str):Cx where
 prog:=X.prog
 w:=X.w
 K:=X.K
 mg:=X.mg
 base:=X.base
 A:=X.A
 N:=N
 s₀:=s2
 H₀:=H2
 env:=compEnvC scope cl C X.env
 outer:=X.stack
 stack:=X.stack
 ex:=fp
 fn:=fun _=>false
 calm:=X.calm
 pn:=[]
 xe:=fun _ _=>False
noncomputable abbrev accN:Str:=" acc"
inductive Cap (X:Cx) (sc:Scope) (cl:List (Str×Addr)):List Str→List (Option Nat)→Prop where
 | nil:Cap X sc cl [] []
 | own {n:Str} {N:List Str} {js:List (Option Nat)} (t:Cap X sc cl N js):Cap X sc cl (n :: N) (none :: js)
 | cap {n:Str} {N:List Str} {j:Nat} {js:List (Option Nat)} (hj:X.N[j]? =some n) (hk:X.env.scope.names.lookup n=some .cell) (hl:sc.names.lookup n=some .cell) (hc:cl.lookup n=X.env.cells.lookup n) (t:Cap X sc cl N js):Cap X sc cl (n :: N) (some j :: js)
theorem Cap.len {X:Cx}{sc:Scope}{cl:List (Str×Addr)}{N:List Str}{js:List (Option Nat)}(h:Cap X sc cl N js):js.length=N.length:=by
 induction h with
 | nil=>rfl
 | own t ih=>simp [ih]
 | cap _ _ _ _ t ih=>simp [ih]
theorem Cap.get {X:Cx}{sc:Scope}{cl:List (Str×Addr)}{N:List Str}{js:List (Option Nat)}(h:Cap X sc cl N js):∀{i j:Nat} {n:Str},N[i]? =some n→js[i]? =some (some j)→X.N[j]? =some n∧X.env.scope.names.lookup n=some .cell∧sc.names.lookup n=some .cell∧cl.lookup n=X.env.cells.lookup n:=by
 induction h with
 | nil=>intro i j n e1 _;simp at e1
 | own t ih=>
  intro i j n e1 e2
  cases i with
  | zero=>simp at e2
  | succ i=>exact ih (by simpa using e1) (by simpa using e2)
 | cap hj hk hl hc t ih=>
  intro i j n e1 e2
  cases i with
  | zero=>simp at e1 e2;subst e1;subst e2;exact ⟨hj,hk,hl,hc⟩
  | succ i=>exact ih (by simpa using e1) (by simpa using e2)
noncomputable def capS (js:List (Option Nat)) (σ:L2.St):L2.St:=js.map fun o=>o.bind fun j=>(σ[j]?).join
noncomputable def capE (js:List (Option Nat)) (ρ:Ev):Ev:=js.map fun o=>o.bind fun j=>((ρ[j]?).join).map frz
structure Blk (X:Cx) (scope:Scope) (cl:List (Str×Addr)) (N:List Str) (js:List (Option Nat)):Prop where
 clos:closureFor scope X.env=pure cl
 kind:scope.kind= .function
 cell:∀y∈scope.names,y.2≠.cell
 nms:∀y∈scope.names,y.2= .local→scope.names.lookup y.1=some .local
 cap:Cap X (relabel scope X.env) cl N js
 sub:∀y c,cl.lookup y=some c→X.env.cells.lookup y=some c
 has:∀y,((relabel scope X.env).names.lookup y=some .cell∨(relabel scope X.env).names.lookup y=some .free)→∃c,cl.lookup y=some c
 acc:∀k,(relabel scope X.env).names.lookup accN≠some k
section
variable {X:Cx}{pins:List (Addr×Obj)}{σ:L2.St}{H2:Hp}{s2 s4:Shared}{scope:Scope}{cl:List (Str×Addr)}{N:List Str}{js:List (Option Nat)}{fp:List Addr}{Dd C:Addr}{m:Str→Option Value}
theorem blk_ok (I:Inv X pins σ H2 s2)(b:Blk X scope cl N js)(f2:∀y∈fp,FpOk X pins H2 y)(fl:∀y∈fp,y < s2.heap.objs.size)(hC:s2.heap.objs.size≤C):(blk X scope cl s2 H2 fp C (N ++ [accN])).Ok where
 mod:=I.ok.mod
 kind:=b.kind
 glob:=I.ok.glob
 blt:=I.ok.blt
 above:=hC
 inj:=fun x y c e1 e2=>I.ok.inj x y c (b.sub x c e1) (b.sub y c e2)
 has:=fun x h=>b.has x h
 cab:=fun x c h=>nomatch h
 hd:=I.ok.hd
 frames:=I.ok.frames
 stk:=.inl rfl
 exf:=fun y hy=>⟨Nat.ne_of_lt (Nat.lt_of_lt_of_le (fl y hy) hC),fun x c e=>(f2 y hy).2.2.2.2.1 x c (b.sub x c e)⟩
 bs:=I.bs
 bsz:=Nat.le_trans I.ok.bsz I.sz
 noex:=fun y o e hy=>by
  rcases (f2 y hy).2.2.2.1 with z | z
  ·exact I.ok.noex y o e z
  ·exact absurd (Nat.lt_of_lt_of_le (Heap.lt_size e) (Nat.le_trans I.ok.bsz z)) (Nat.lt_irrefl _)
 exfs:=fun y hy z=>(List.mem_cons.mp (I.stkSub y z)).elim (f2 y hy).2.1 (f2 y hy).2.2.1
 funs:=I.stack
 frf:=I.stkFree
theorem blk_inv (I:Inv X pins σ H2 s2)(b:Blk X scope cl N js)(f2:∀y∈fp,FpOk X pins H2 y)(fl:∀y∈fp,y < s2.heap.objs.size)(hC:s2.heap.objs.size≤C)(hD:s2.heap.objs.size≤Dd)(ne:Dd≠C)
  (ho:s4.os=s2.os) (hg:AllBare s4.gens) (kp:∀y o,s2.heap.get? y=some o→s4.heap.get? y=some o) (hn:s4.heap.Ns C m) (hk:HOk X.prog X.w (upd H2 Dd (.lst [])) s4.heap):
  Inv (blk X scope cl s2 H2 fp C (N ++ [accN])) [] (capS js σ ++ [some (.ref Dd)]) (upd H2 Dd (.lst [])) s4:=by
 have nD:∀y o,s2.heap.get? y=some o→y≠Dd:=fun y o e=>Nat.ne_of_lt (Nat.lt_of_lt_of_le (Heap.lt_size e) hD)
 have nH:∀y u,H2 y=some u→y≠Dd:=fun y u e=>Nat.ne_of_lt (Nat.lt_of_lt_of_le (I.hok.lt e) hD)
 have cD:∀x c,X.env.cells.lookup x=some c→c≠Dd:=fun x c e=>by
  obtain ⟨v,o,e1,_⟩:=I.cell x c e
  exact nD c o e1
 refine ⟨blk_ok I b f2 fl hC,ho,hg,⟨fun y o e _ _ _=>kp y o e,fun y o e _ _ _=>⟨o.slots,kp y o e⟩,fun y o e n _=>?_,fun y o e _=>⟨o,kp y o e⟩,fun y xs e=>?_,fun y o u e=>?_,fun y ps e=>?_⟩,⟨m,hn,fun i x v e1 e2 e3=>?_⟩,fun x c e=>?_,?_,fun x c e=>?_,fun p hp=>absurd (show p∈([]:List (Addr×Obj)) from hp) (by simp),hk,?_⟩
 ·rw [upd_ne (nD y o e)];exact n
 ·rw [upd_ne (nH _ _ e)];exact e
 ·rw [upd_ne (nH _ _ e)];exact e
 ·have e':H2 y=some (.tbl ps):=e
  exact ⟨#[],by rw [upd_ne (nH _ _ e'),e'];simp⟩
 ·have hl:js.length=N.length:=b.cap.len
  by_cases hi:i < N.length
  ·have e1':N[i]? =some x:=by
    have z:(N ++ [accN])[i]? =some x:=e1
    rw [List.getElem?_append_left hi] at z;exact z
   rw [List.getElem?_append_left (by unfold capS;simp;(first|lia|omega))] at e2
   unfold capS at e2
   rw [List.getElem?_map] at e2
   cases ej:js[i]? with
   | none=>rw [ej] at e2;cases e2
   | some o=>
    rw [ej] at e2
    cases o with
    | none=>cases e2
    | some j=>
     obtain ⟨c1,c2,c3,c4⟩:=b.cap.get e1' ej
     simp only [Option.map_some,Option.bind_some] at e2
     have e2':σ[j]? =some (some v):=by
      cases q:σ[j]? with
      | none=>rw [q] at e2;cases e2
      | some o=>rw [q] at e2;simp at e2;rw [e2]
     obtain ⟨m2,_,hl2⟩:=I.loc
     obtain ⟨u,r,lk⟩:=hl2 j x v c1 e2' (.inr (.inl c2))
     refine ⟨u,r,.inr ⟨.inl c3,?_⟩⟩
     rcases lk with ⟨k,_⟩ | ⟨_,c,e,z⟩
     ·have k':X.env.scope.names.lookup x=some .local:=k
      rw [c2] at k';cases k'
     ·exact ⟨c,c4.trans e,z.keeps kp⟩
  ·have hx:x=accN:=by
    have z:(N ++ [accN])[i]? =some x:=e1
    rw [List.getElem?_append_right (by (first|lia|omega))] at z
    cases q:i - N.length with
    | zero=>rw [q] at z;simp at z;exact z.symm
    | succ k=>rw [q] at z;simp at z
   subst hx
   rcases e3 with z | z | z
   ·exact absurd z (b.acc _)
   ·exact absurd z (b.acc _)
   ·exact absurd z (b.acc _)
 ·obtain ⟨v,z⟩:=I.cell x c (b.sub x c e)
  exact ⟨v,z.keeps kp⟩
 ·show upd H2 Dd (.lst []) C=none
  rw [upd_ne (Ne.symm ne)]
  exact I.hok.fresh hC
 ·rw [upd_ne (cD x c (b.sub x c e))]
  exact I.freeC x c (b.sub x c e)
 ·show (capS js σ ++ [some (V.ref Dd)]).length=(N ++ [accN]).length
  unfold capS
  simp [b.cap.len]
theorem blk_rep {P:List (D×V)}{ρ:Ev}(b:Blk X scope cl N js)(rv:RepV X.K ρ σ H2)(hP:∀p∈P,Den X.K Emp H2 p.1 p.2)(hn:H2 Dd=none):
  Rep (blk X scope cl s2 H2 fp C (N ++ [accN])) P (capE js ρ ++ [some (.own [])]) (fun k=>if k=js.length then some Dd else none) (capS js σ ++ [some (.ref Dd)]) (upd H2 Dd (.lst [])):=by
 have up:∀{d v},Den X.K Emp H2 d v→Den X.K (Own fun k=>if k=js.length then some Dd else none) (upd H2 Dd (.lst [])) d v:=fun {d v} h=>
  den_mono (fun y o e _=>by rw [upd_ne (fun z=>by rw [z,hn] at e;cases e)];exact e) (fun _ z=>z.elim) (fun y ⟨i,z⟩=>by
   try dsimp only at z
   split at z
   ·cases z;exact .inr hn
   ·cases z) d v h
 refine ⟨same_upd hn _,by unfold capE capS;simp,fun i d e=>?_,fun i j a e1 e2=>?_,fun i a e=>?_,fun i a e=>?_,fun p hp=>up (hP p hp)⟩
 ·by_cases hi:i < js.length
  ·rw [List.getElem?_append_left (by unfold capE;simpa using hi)] at e
   unfold capE at e
   rw [List.getElem?_map] at e
   cases ej:js[i]? with
   | none=>rw [ej] at e;cases e
   | some o=>
    rw [ej] at e
    cases o with
    | none=>cases e
    | some j=>
     simp only [Option.map_some,Option.bind_some] at e
     cases q:ρ[j]? with
     | none=>rw [q] at e;cases e
     | some o=>
      rw [q] at e
      cases o with
      | none=>cases e
      | some d0=>
       simp only [Option.join_some,Option.map_some] at e
       have e':frz d0=d:=Option.some.inj (Option.some.inj e)
       subst e'
       obtain ⟨v,h1,h2⟩:=rv j d0 q
       refine ⟨v,?_,SlotOk.plain (up (den_frz.mpr h2))⟩
       rw [List.getElem?_append_left (by unfold capS;simpa using hi)]
       unfold capS
       rw [List.getElem?_map,ej]
       simp only [Option.map_some,Option.bind_some]
       rw [h1];rfl
  ·rw [List.getElem?_append_right (by unfold capE;simpa using hi)] at e
   have hc:(capE js ρ).length=js.length:=by unfold capE;simp
   rw [hc] at e
   cases q:i - js.length with
   | succ k=>rw [q] at e;simp at e
   | zero=>
    rw [q] at e
    simp at e
    subst e
    have hi':i=js.length:=by (first|lia|omega)
    subst hi'
    refine ⟨.ref Dd,?_,Dd,[],by simp,rfl,upd_same,denL_nil⟩
    rw [List.getElem?_append_right (by unfold capS;simp)]
    unfold capS
    simp
 ·try dsimp only at e1 e2
  split at e1
  ·split at e2
   ·(first|lia|omega)
   ·cases e2
  ·cases e1
 ·try dsimp only at e
  split at e
  ·cases e;exact ⟨_,upd_same,trivial⟩
  ·cases e
 ·try dsimp only at e
  split at e
  ·cases e;exact hn
  ·cases e
end
end Tw
set_option Elab.async false
set_option linter.all false
set_option maxRecDepth 100000
set_option maxHeartbeats 1000000
namespace Tw
open PySem PySem.Spec PyProof.Rows L2
noncomputable abbrev blkB (k:Nat) (t:FT) (fe:FE):FS:=fIfS t (fApp k fe) (fun ρ=>some (.nx ρ))
noncomputable def lastL (k:Nat):Option R→Option D
 | some (.nx ρ)=>match ρ[k]? with
  | some (some (.own ys))=>some (.own ys)
  | _=>none
 | _=>none
noncomputable def PXGk (Y:Cx) (k:Nat) (g:TG) (gf:D→Ev→Option Ev):Prop:=∀(P:List (D×V)) (d:D) (v:V) (own:Nat→Option Addr) (ρ ρ':Ev) (σ:L2.St) (H:Hp) (Q:L2.St→Hp→Prop),Rep Y P ρ own σ H→Den Y.K (Own own) H d v→gf d ρ=some ρ'→
 (∀own' σ',Rep Y P ρ' own' σ' H→σ'[k]? =σ[k]? →Q σ' H)→g v σ H Q
theorem pxgk_name {Y:Cx}{k:Nat}(i:Nat)(h:i≠k):PXGk Y k (gName i) (gfName i):=fun P d v own ρ ρ' σ H Q rp hd e q=>by
 unfold gfName at e
 cases e
 exact q _ _ (rp.put (i:=i) (by cases d <;> rfl) (den_frz.mpr hd)) (List.getElem?_set_ne h)
theorem gAll_ofk {Y:Cx}{k:Nat}{P:List (D×V)}{Q:L2.St→Hp→Prop}{H:Hp}:∀{is:List Nat} {ds:List D} {vs:List V} {own:Nat→Option Addr} {ρ:Ev} {σ:L2.St},(∀i∈is,i≠k)→ds.length=is.length→lfL ds=true→DenL Y.K Emp H ds vs→Rep Y P ρ own σ H→
  (∀own' σ',Rep Y P (setAll is ds ρ) own' σ' H→σ'[k]? =σ[k]? →Q σ' H)→gAll is vs σ H Q
 | [],[],vs,own,ρ,σ,hk,hl,fl,l,rp,q=>by rw [DenL] at l;subst l;exact ⟨rfl,q own σ rp rfl⟩
 | [],_ :: _,vs,own,ρ,σ,hk,hl,fl,l,rp,q=>by simp at hl
 | _ :: _,[],vs,own,ρ,σ,hk,hl,fl,l,rp,q=>by simp at hl
 | i :: is,d :: ds,vs,own,ρ,σ,hk,hl,fl,l,rp,q=>by
  rw [DenL] at l
  obtain ⟨v,r,rfl,h,l⟩:=l
  rw [lfL,Bool.and_eq_true] at fl
  exact ⟨v,r,rfl,gAll_ofk (fun j hj=>hk j (List.mem_cons_of_mem _ hj)) (by simpa using hl) fl.2 l (rp.put (i:=i) (lf_frz fl.1) (den_lf _ _ fl.1 h)) fun own' σ' rp' e'=>q own' σ' rp' (e'.trans (List.getElem?_set_ne (hk i List.mem_cons_self)))⟩
theorem pxgk_tup {Y:Cx}{k:Nat}(is:List Nat)(h:∀i∈is,i≠k):PXGk Y k (gTup Y.K is.length (gAll is)) (gfTup is):=fun P d v own ρ ρ' σ H Q rp hd e q=>by
 unfold gfTup at e
 cases d with
 | tup ds=>
  simp only at e
  split at e
  ·rename_i hl
   cases e
   rw [Den] at hd
   obtain ⟨p,vs,ev,hq,l⟩:=hd
   exact ⟨p,vs,ev,hq,by rw [←denL_length l];exact hl.1,gAll_ofk h hl.1 hl.2 (denL_lf _ _ hl.2 l) rp q⟩
  ·cases e
 | _=>cases e
section
variable {X:Cx}{pins:List (Addr×Obj)}{σ:L2.St}{H2:Hp}{s2:Shared}{scope:Scope}{cl:List (Str×Addr)}{N:List Str}{js:List (Option Nat)}{fp:List Addr}{it:Addr}{tn:Nat→Heap→Prop}{J:It}
 {elt tg iter:Expr} {ifs:List Expr} {pos:Pos} {P:List (D×V)} {ρ:Ev} {xs:List D} {g:TG} {gf:D→Ev→Option Ev} {t:FT} {fe:FE} {ys:List D} {Q:VK}
theorem comp_core (hcalm:X.calm=true)(I2:Inv X pins σ H2 s2)(T:Turn X.prog X.w X.K tg J fp it tn)(st2:tn 0 s2.heap)(f2:∀y∈fp,FpOk X pins H2 y)(b:Blk X scope cl N js)(rv:RepV X.K ρ σ H2)(hP:∀p∈P,Den X.K Emp H2 p.1 p.2)
  (hgo:∀(Y:Cx),Y.K=X.K→∀(i:Nat) (own:Nat→Option Addr) (ρ:Ev) (σ:L2.St) (H:Hp) (x:D),Rep Y P ρ own σ H→xs[i]? =some x→J.go i H∧∀v H',J.yld i H v H'→Same H H'∧Den X.K (Own own) H' x v)
  (hst:∀(Y:Cx),Y.K=X.K→∀(own:Nat→Option Addr) (ρ:Ev) (σ:L2.St) (H:Hp),Rep Y P ρ own σ H→J.stop xs.length H)
  (hg:∀C,PG (blk X scope cl s2 H2 fp C (N ++ [accN])) tg g) (hgf:∀C,PXGk (blk X scope cl s2 H2 fp C (N ++ [accN])) js.length g gf)
  (htt:∀C pins' s σ' H ρ k Q,Inv (blk X scope cl s2 H2 fp C (N ++ [accN])) pins' σ' H s→RepV X.K ρ σ' H→t ρ=some k→(∀H',Same H H'→Q k H')→
   wpAny (model X.prog X.w) X.A (forIn ifs true fun c r=>if r=true then do let ok ←isTrue c (compEnvC scope cl C X.env) (eval c (compEnvC scope cl C X.env));pure (ForInStep.yield ok) else pure (ForInStep.yield r)) (TP (blk X scope cl s2 H2 fp C (N ++ [accN])) pins' σ' Q) Fa s)
  (he:∀C,PX (blk X scope cl s2 H2 fp C (N ++ [accN])) elt fe)
  (e:lastL js.length (loopF (turnF gf (blkB js.length t fe)) xs (capE js ρ ++ [some (.own [])]))=some (.own ys))
  (q:∀Dd H',Same H2 H'→DenF X.K H2 H' (.own ys) (.ref Dd)→Q (.ref Dd) H'):
  wpAny (model X.prog X.w) X.A (newList []) (fun acc s3=>wpAny (model X.prog X.w) X.A (newFunctionEnv scope X.env.globals cl [] X.env.qual none .none (some X.env)) (fun cenv s4=>
   codeAny (model X.prog X.w) X.A (.compStart (.ListComp elt [⟨tg,iter,ifs,0⟩] scope pos) 0 (.ref it) acc {cenv with scope:=relabel scope X.env}) (compPost (model X.prog X.w) X.A X.xe none (EP X pins σ Q) acc cenv.locals) s4) X.xe s3) X.xe s2:=by
 have fl:∀y∈fp,y < s2.heap.objs.size:=fun y hy=>by obtain ⟨o,eo,_⟩:=T.obj _ _ st2 y hy;exact Heap.lt_size eo
 refine wpAny_newObj_type (wpAny_newFunctionEnv b.cell (by intro y hy;simp at hy) (fun h' hns hsb=>?_) b.kind)
 dsimp only at hns hsb ⊢
 generalize hH:s2.heap.push {cls:=.type "list",dict:=none,data:=.seq ([]:List Value).toArray}=H3 at hns hsb ⊢
 have hC:H3.objs.size=s2.heap.objs.size + 1:=by rw [←hH,Heap.size_push]
 have ne:s2.heap.objs.size≠H3.objs.size:=by rw [hC];exact Nat.ne_of_lt (Nat.lt_succ_self _)
 have leC:s2.heap.objs.size≤H3.objs.size:=by rw [hC];exact Nat.le_succ _
 have kp3:∀y o,s2.heap.get? y=some o→H3.get? y=some o:=fun y o e=>hH▸Heap.get?_push_of_some _ e
 have kp4:∀y o,H3.get? y=some o→h'.get? y=some o:=fun y o e=>hsb.extBut y o (Nat.ne_of_lt (Heap.lt_size e)) (Heap.get?_push_of_some _ e)
 have hDn:H2 s2.heap.objs.size=none:=I2.hok.fresh (Nat.le_refl _)
 have ok3:HOk X.prog X.w (upd H2 s2.heap.objs.size (.lst [])) H3:=I2.hok.laid kp3 (Nat.le_refl _) ⟨Nat.zero_le _,[],0,.nil,by rw [←hH];exact Heap.get?_push_size _ rfl⟩
 have I4:=blk_inv (s4:={s2 with heap:=h',toks:=s2.toks + ([]:List (Str×Value)).length}) (Dd:=s2.heap.objs.size) (C:=H3.objs.size) I2 b f2 fl leC (Nat.le_refl _) ne rfl I2.bare (fun y o e=>kp4 y o (kp3 y o e)) hns (ok3.kept kp4)
 have R4:=blk_rep (s2:=s2) (fp:=fp) (C:=H3.objs.size) (Dd:=s2.heap.objs.size) (P:=P) b rv hP hDn
 have hfree:∀{H':Hp},(∀y∈fp,H' y=none)→∀y∈fp,FpOk (blk X scope cl s2 H2 fp H3.objs.size (N ++ [accN])) [] H' y:=fun hn y hy=>
  ⟨hn y hy,Nat.ne_of_lt (Nat.lt_of_lt_of_le (fl y hy) leC),fun z=>(List.mem_cons.mp (I2.stkSub y z)).elim (f2 y hy).2.1 (f2 y hy).2.2.1,.inl hy,fun x c ec=>(f2 y hy).2.2.2.2.1 x c (b.sub x c ec),fun p hp=>absurd (show p∈([]:List (Addr×Obj)) from hp) (by simp)⟩
 have loop:∀s5:Shared,s5={s2 with heap:=h',toks:=s2.toks + ([]:List (Str×Value)).length}→
   codeAny (model X.prog X.w) X.A (.compLoop (.ListComp elt [⟨tg,iter,ifs,0⟩] scope pos) 0 (.ref it) (.ref s2.heap.objs.size) (compEnvC scope cl H3.objs.size X.env))
    (compPost (model X.prog X.w) X.A X.xe none (EP X pins σ Q) (.ref s2.heap.objs.size) H3.objs.size) s5:=by
  rintro s5 rfl
  let Y:=blk X scope cl s2 H2 fp H3.objs.size (N ++ [accN])
  have he':∃ρe,loopF (turnF gf (blkB js.length t fe)) xs (capE js ρ ++ [some (.own [])])=some (.nx ρe)∧ρe[js.length]? =some (some (.own ys)):=by
   unfold lastL at e
   split at e
   ·rename_i ρe eq
    refine ⟨ρe,eq,?_⟩
    split at e
    ·rename_i ys' eq';cases e;exact eq'
    ·cases e
   ·cases e
  obtain ⟨ρe,eL,eY⟩:=he'
  refine comp_loop (fun n s=>∃i σ' H' own' ρ',n=xs.length - i∧i≤xs.length∧Inv Y [] σ' H' s∧tn i s.heap∧(∀y∈fp,H' y=none)∧σ'[js.length]? =some (some (.ref s2.heap.objs.size))∧Rep Y P ρ' own' σ' H'∧loopF (turnF gf (blkB js.length t fe)) (xs.drop i) ρ'=some (.nx ρe)) ?_ xs.length
   ⟨0,_,_,_,_,by simp,Nat.zero_le _,I4,T.keep 0 _ _ st2 fun y hy o eo=>kp4 y o (kp3 y o eo),fun y hy=>by rw [upd_ne (Nat.ne_of_lt (fl y hy))];exact (f2 y hy).1,by rw [List.getElem?_append_right (by unfold capS;simp)];unfold capS;simp,R4,by simpa using eL⟩
  rintro n s ⟨i,σ',H',own',ρ',rfl,hi,I,st,fr,sl,rp,el⟩
  by_cases hlt:i < xs.length
  ·obtain ⟨go,yl⟩:=hgo Y rfl i own' ρ' σ' H' xs[i] rp (by simp [hlt])
   refine wpAny_mono (T.item Y rfl rfl rfl hcalm i [] s σ' H' Fa I (hfree fr) st go) (fun r s1 ⟨u,hr,h1⟩=>?_) fun _ _ z=>z
   subst hr
   refine wpAny_mono h1 (fun _ s3 ⟨x,H5,I5,r5,y5,st5,fr5⟩=>?_) fun _ _ z=>z
   obtain ⟨sm5,dx⟩:=yl x H5 y5
   replace rp:=rp.grow sm5
   rw [List.drop_eq_getElem_cons hlt,loopF] at el
   cases e1:turnF gf (blkB js.length t fe) xs[i] ρ' with
   | none=>rw [e1] at el;cases el
   | some r1=>
    rw [e1] at el
    simp only [Option.bind_some] at el
    unfold turnF at e1
    cases e2:gf xs[i] ρ' with
    | none=>rw [e2] at e1;cases e1
    | some ρ1=>
     rw [e2] at e1
     simp only [Option.bind_some,blkB,fIfS] at e1
     cases e3:t ρ1 with
     | none=>rw [e3] at e1;cases e1
     | some k=>
      rw [e3] at e1
      simp only [Option.bind_some] at e1
      have I5':=I5.pinned (hfree fr5) (T.obj _ _ st5)
      have gg:=hgf H3.objs.size P xs[i] x own' ρ' ρ1 σ' H5 (fun σ2 Hh=>∃own2,Rep Y P ρ1 own2 σ2 Hh∧σ2[js.length]? =some (some (.ref s2.heap.objs.size))) rp dx e2 (fun own2 σ2 rp2 k2=>⟨own2,rp2,k2.trans sl⟩)
      refine wpAny_mono (hg H3.objs.size _ s3 σ' H5 x u _ I5' r5 gg) (fun _ s6 ⟨σ6,H6,I6,own6,rp6,sl6⟩=>?_) fun _ _ z=>z
      have back:∀{s7:Shared} {H7:Hp} {own7:Nat→Option Addr} {ρ7:Ev},Inv Y ([] ++ pinsAt fp s3.heap) σ6 H7 s7→Rep Y P ρ7 own7 σ6 H7→loopF (turnF gf (blkB js.length t fe)) (xs.drop (i + 1)) ρ7=some (.nx ρe)→
        ∃m,m < xs.length - i∧∃i σ' H' own' ρ',m=xs.length - i∧i≤xs.length∧Inv Y [] σ' H' s7∧tn i s7.heap∧(∀y∈fp,H' y=none)∧σ'[js.length]? =some (some (.ref s2.heap.objs.size))∧Rep Y P ρ' own' σ' H'∧loopF (turnF gf (blkB js.length t fe)) (xs.drop i) ρ'=some (.nx ρe):=fun {s7 H7 own7 ρ7} I7 rp7 e7=>by
       refine ⟨xs.length - (i + 1),by (first|lia|omega),i + 1,σ6,H7,own7,ρ7,rfl,hlt,I7.unpinned,T.keep _ _ _ st5 fun y hy o eo=>(I7.pin (y,o) (List.mem_append_right _ (List.mem_append_right _ (mem_pinsAt hy eo)))).1,fun y hy=>?_,sl6,rp7,e7⟩
       obtain ⟨o,eo,_⟩:=T.obj _ _ st5 y hy
       exact (I7.pin (y,o) (List.mem_append_right _ (List.mem_append_right _ (mem_pinsAt hy eo)))).2.1
      refine wpAny_mono (htt H3.objs.size _ s6 σ6 H6 ρ1 k (fun k' Hh=>k'=k∧Same H6 Hh) I6 rp6.view e3 (fun H' sm=>⟨rfl,sm⟩)) (fun ok s7 ⟨H7,I7,hk,sm7⟩=>?_) fun _ _ z=>z
      subst hk
      cases ok with
      | false=>
       rw [if_neg Bool.false_ne_true] at e1 ⊢
       cases e1
       exact back I7 (rp6.grow sm7) el
      | true=>
       rw [if_pos rfl] at e1 ⊢
       have rp7:=rp6.grow sm7
       unfold fApp at e1
       cases e4:fe ρ1 with
       | none=>rw [e4] at e1;cases e1
       | some d=>
        rw [e4] at e1
        simp only [Option.bind_some] at e1
        split at e1
        ·rename_i zs e5
         split at e1
         ·rename_i hl
          cases e1
          refine wpAny_mono (he H3.objs.size _ s7 σ6 H7 (fun v H8=>Same H7 H8∧DenF X.K H7 H8 d v) I7 ⟨ρ1,d,rp7.view,e4,fun v H8 s8 d8=>⟨s8,d8⟩⟩) (fun u8 s8 ⟨v8,H8,I8,r8,sm8,d8⟩=>?_) fun _ _ z=>z
          have rp8:=rp7.grow sm8
          obtain ⟨va,h1,a,vs,h2,h3,h4,lz⟩:=rp8.slot js.length _ e5
          rw [sl6] at h1
          cases h1
          cases h3
          have lz':DenL X.K (Own own6) H8 zs vs:=lz
          have h9:=mt_append (X:=Y) _ s8 σ6 H8 (.ref s2.heap.objs.size) [v8] (.ref s2.heap.objs.size) [u8] (fun v H9=>H9=upd H8 s2.heap.objs.size (.lst (vs ++ [v8]))) I8 rfl (.cons r8 .nil) ⟨_,vs,v8,rfl,rfl,h4,by rw [←denL_length lz'];exact Nat.lt_of_lt_of_le hl.2 lim_line,rfl⟩
          refine wpAny_mono h9 (fun _ s9 ⟨v9,H9,I9,_,e9⟩=>?_) fun _ _ z=>z
          subst e9
          exact back I9 (rp8.mut e5 h2 (denL_append lz' (denL_cons (den_lf _ _ hl.1 d8.den) denL_nil))) el
         ·cases e1
        ·cases e1
  ·have hie:i=xs.length:=by (first|lia|omega)
   subst hie
   refine wpAny_mono (T.done Y rfl rfl rfl hcalm _ [] s σ' H' Fa I (hfree fr) st (hst Y rfl own' ρ' σ' H' rp)) (fun r s1 ⟨hr,I1⟩=>?_) fun _ _ z=>z
   subst hr
   rw [List.drop_eq_nil_of_le (Nat.le_refl _),loopF] at el
   cases el
   obtain ⟨m,hnm,_⟩:=id I1.loc
   refine ⟨m,hnm,fun h9 hs9=>?_⟩
   obtain ⟨va,h1,a,vs,h2,h3,h4,lz⟩:=rp.slot js.length _ eY
   rw [sl] at h1
   cases h1
   cases h3
   have neC:∀y,H' y≠none→y≠H3.objs.size:=fun y z w=>z (by rw [w];exact I1.free)
   have inS:∀y o,s2.heap.get? y=some o→y≠H3.objs.size:=fun y o e0=>Nat.ne_of_lt (Nat.lt_of_lt_of_le (Heap.lt_size e0) leC)
   have B:=I1.base
   have un:Un (frs X.stack) fp H2 H' s2.heap h9:=⟨fun y o e0 n hb hx=>(hs9.2 y (inS y o e0)).trans (B.keep y o e0 n hb hx),fun y o e0 n hb hx=>by
     obtain ⟨sl',z⟩:=B.slot y o e0 n hb hx
     exact ⟨sl',(hs9.2 y (inS y o e0)).trans z⟩,B.free,fun y o e0 hx=>by
     obtain ⟨o',z⟩:=B.there y o e0 hx
     exact ⟨o',(hs9.2 y (inS y o e0)).trans z⟩,B.tups,B.frzs,B.tbls⟩
   have hok:HOk X.prog X.w H' h9:=fun y u0 q0=>(I1.hok y u0 q0).stay (fun c v hc z=>(hs9.2 c (neC c (by
     rcases hc with w | w
     ·rw [w,q0];exact fun z=>nomatch z
     ·rw [w];exact fun z=>nomatch z))).trans z) (fun _ z=>z) fun _ _ z=>z
   refine ⟨.ref s2.heap.objs.size,H',I2.call' (s':={s1 with heap:=h9}) (ch:=fp) I1.os un hok I1.bare (fun y hy=>⟨(f2 y hy).2.2.2.1,(f2 y hy).2.1,(f2 y hy).2.2.2.2.1,(f2 y hy).2.2.2.2.2⟩),rfl,?_⟩
   exact q _ H' rp.same ⟨_,vs,rfl,hDn,h4,denL_mono (fun _ _ q _=>q) rp.isL (fun b z=>.inl ⟨js.length,by rw [z];exact h2⟩) _ _ lz⟩
 exact codeAny_compStart_list (loop _ rfl) (T.self _ 0 _ _ _ (T.keep 0 _ _ st2 fun y hy o eo=>kp4 y o (kp3 y o eo)) (loop _ rfl))
end
end Tw
set_option Elab.async false
set_option linter.all false
set_option maxRecDepth 100000
set_option maxHeartbeats 1000000
namespace Tw
open PySem PySem.Spec PyProof.Rows L2
noncomputable def fCompL (js:List (Option Nat)) (gf:D→Ev→Option Ev) (t:FT) (fe:FE) (xs:List D):FE:=fun ρ=>lastL js.length (loopF (turnF gf (blkB js.length t fe)) xs (capE js ρ ++ [some (.own [])]))
noncomputable def fComp (f:FE) (js:List (Option Nat)) (gf:D→Ev→Option Ev) (t:FT) (fe:FE):FE:=fun ρ=>(f ρ).bind fun d=>(items d).bind fun xs=>fCompL js gf t fe xs ρ
noncomputable def fCompR (fa:FA) (js:List (Option Nat)) (gf:D→Ev→Option Ev) (t:FT) (fe:FE):FE:=fun ρ=>(fa ρ).bind fun ds=>match ds with
 | [.int n]=>if n < 2 ^ 62∧-(2 ^ 62)≤n then fCompL js gf t fe ((List.range n.toNat).map fun i=>.int (i:Nat)) ρ else none
 | _=>none
theorem lastL_own {k:Nat}{r:Option R}{d:D}(e:lastL k r=some d):∃ys,d= .own ys:=by
 unfold lastL at e
 split at e
 ·split at e
  ·cases e;exact ⟨_,rfl⟩
  ·cases e
 ·cases e
structure Tst (Y:Cx) (ifs:List Expr) (t:FT):Prop where
 to:∀pins' s σ' H ρ k Q,Inv Y pins' σ' H s→RepV Y.K ρ σ' H→t ρ=some k→(∀H',Same H H'→Q k H')→
  wpAny (model Y.prog Y.w) Y.A (forIn ifs true fun c r=>if r=true then do let ok ←isTrue c Y.env (eval c Y.env);pure (ForInStep.yield ok) else pure (ForInStep.yield r)) (TP Y pins' σ' Q) Fa s
theorem tst_nil {Y:Cx}:Tst Y [] (fun _=>some true):=⟨fun pins' s σ' H ρ k Q I rv e q=>by cases e;exact wpAny_tests_nil ⟨H,I,q H (Same.refl H)⟩⟩
theorem tst_one {Y:Cx}{c:Expr}{t:FT}(hx:Y.xe=Fa)(h:QT Y c t):Tst Y [c] t:=⟨fun pins' s σ' H ρ k Q I rv e q=>by
 have z:=h.to pins' s σ' H Q I ⟨ρ,k,rv,e,q⟩
 rw [hx] at z
 exact wpAny_tests_one z⟩
section
variable {X:Cx}{scope:Scope}{cl:List (Str×Addr)}{N:List Str}{js:List (Option Nat)}{elt iter a:Expr}{ifs:List Expr}{x:Str}{px pos p p2:Pos}{f:FE}{fa:FA}{t:FT}{fe:FE}
theorem qx_compG {tg:Expr}{gg:TG}{gf:D→Ev→Option Ev}(hc:X.calm=true)(b:Blk X scope cl N js)(hg:∀s2 H2 fp C,PG (blk X scope cl s2 H2 fp C (N ++ [accN])) tg gg)(hgf:∀s2 H2 fp C,PXGk (blk X scope cl s2 H2 fp C (N ++ [accN])) js.length gg gf)(ha:QX X iter f)(ht:∀s2 H2 fp C,Tst (blk X scope cl s2 H2 fp C (N ++ [accN])) ifs t)(he:∀s2 H2 fp C,QX (blk X scope cl s2 H2 fp C (N ++ [accN])) elt fe)
  (hs:autoParam (∀x,foldedSetIterable iter X.env x=pure x) Zau.a3._auto_1):
  QX X (.ListComp elt [⟨tg,iter,ifs,0⟩] scope pos) (fComp f js gf t fe):=by
 refine ⟨fun pins s σ H Q I ⟨ρ,d,rv,e,q⟩=>?_⟩
 unfold fComp at e
 cases e1:f ρ with
 | none=>rw [e1] at e;cases e
 | some d0=>
  rw [e1] at e
  simp only [Option.bind_some] at e
  cases e2:items d0 with
  | none=>rw [e2] at e;cases e
  | some xs=>
   rw [e2] at e
   simp only [Option.bind_some] at e
   obtain ⟨ys,rfl⟩:=lastL_own e
   rw [eval_ListComp]
   refine wpAny_comprehension_free (use:=none) rfl hs b.clos b.kind b.nms ?_
   have hw:iSeq X.K (tX X f) σ H (fun J H1=>Same H H1∧∃a0,Den X.K Emp H1 (frz d0) (.ref a0)∧((J=Itl X.K a0∧∀zs,d0≠.tup zs)∨(J=Itt X.K a0∧∃zs,d0= .tup zs))):=by
    refine ⟨ρ,d0,rv,e1,fun v H1 s1 d1=>?_⟩
    have dd:=d1.den
    obtain ⟨a0,vs,rfl,hq,l⟩:=den_items e2 dd
    cases d0 with
    | tup zs=>
     have z:=dd
     rw [Den] at z
     obtain ⟨a1,vs1,ev,hq1,_⟩:=z
     cases ev
     exact .inr ⟨a0,rfl,⟨_,hq1⟩,s1,a0,den_frz.mpr dd,.inr ⟨rfl,zs,rfl⟩⟩
    | lst zs=>
     have z:=dd
     rw [Den] at z
     obtain ⟨a1,vs1,ev,hq1,_⟩:=z
     cases ev
     exact .inl ⟨a0,rfl,⟨_,.inl (.inl hq1)⟩,s1,a0,den_frz.mpr dd,.inl ⟨rfl,fun zs z=>nomatch z⟩⟩
    | own zs=>
     have z:=dd
     rw [Den] at z
     obtain ⟨a1,vs1,ev,hq1,_⟩:=z
     cases ev
     exact .inl ⟨a0,rfl,⟨_,.inl (.inl hq1)⟩,s1,a0,den_frz.mpr dd,.inl ⟨rfl,fun zs z=>nomatch z⟩⟩
    | scr zs=>
     have z:=dd
     rw [Den] at z
     obtain ⟨a1,vs1,ev,hq1,_⟩:=z
     cases ev
     refine .inl ⟨a0,rfl,⟨vs1,?_⟩,s1,a0,den_frz.mpr dd,.inl ⟨rfl,fun zs z=>nomatch z⟩⟩
     rcases hq1 with ⟨o,w⟩ | w
     ·exact .inl (.inr ⟨o,w⟩)
     ·rcases w with (w | ⟨o,w⟩) | w
      ·cases w
      ·cases w
      ·exact .inr w
    | _=>simp [items] at e2
   refine wpAny_mono (pi_seq (tg:=tg) ha.to pins s σ H _ I hw) (fun v s1 h1=>wpAny_mono h1 (fun itv s2 h2=>?_) fun _ _ z=>z) fun _ _ z=>z
   obtain ⟨it,fp,tn,J,H2,rfl,I2,T,st2,f2,sm,a0,dd,kd⟩:=h2
   have e2':items (frz d0)=some xs:=by cases d0 <;> first | exact e2 | (simp [items] at e2)
   have any:∀{K:PySem.W.Frag} {O:Addr→Prop} {Hh:Hp},Den K O Hh (frz d0) (.ref a0)→∃vs,DenL K O Hh xs vs∧((SqL K Hh a0 vs∧∀zs,d0≠.tup zs)∨(SqT K Hh a0 vs∧∃zs,d0= .tup zs)):=fun {K O Hh} z=>by
    cases d0 with
    | tup zs=>
     cases e2
     simp only [frz] at z
     rw [Den] at z
     obtain ⟨a1,vs1,ev,hq1,l⟩:=z
     cases ev
     exact ⟨vs1,l,.inr ⟨hq1,_,rfl⟩⟩
    | lst zs=>
     cases e2
     simp only [frz] at z
     rw [Den] at z
     obtain ⟨a1,vs1,ev,hq1,_,l⟩:=z
     cases ev
     exact ⟨vs1,l,.inl ⟨.inl (.inl hq1),fun zs z=>nomatch z⟩⟩
    | own zs=>
     cases e2
     simp only [frz] at z
     rw [Den] at z
     obtain ⟨a1,vs1,ev,hq1,_,l⟩:=z
     cases ev
     exact ⟨vs1,l,.inl ⟨.inl (.inl hq1),fun zs z=>nomatch z⟩⟩
    | scr zs=>
     cases e2
     simp only [frz] at z
     rw [Den] at z
     obtain ⟨a1,vs1,ev,hq1,l⟩:=z
     cases ev
     refine ⟨vs1,l,.inl ⟨?_,fun zs z=>nomatch z⟩⟩
     rcases hq1 with ⟨o,w⟩ | w
     ·exact .inl (.inr ⟨o,w⟩)
     ·rcases w with (w | ⟨o,w⟩) | w
      ·cases w
      ·cases w
      ·exact .inr w
    | _=>simp [items] at e2
   refine comp_core (P:=[(frz d0,.ref a0)]) (xs:=xs) hc I2 T st2 f2 b (rv.same sm) (fun p hp=>by rw [List.mem_singleton.mp hp];exact dd) (fun Y hY i own ρ σ Hh y rp ey=>?_) (fun Y hY own ρ σ Hh rp=>?_) (hg s2 H2 fp) (hgf s2 H2 fp) (fun C=>(ht s2 H2 fp C).to) (fun C=>(he s2 H2 fp C).to) e (fun Dd H' s' d'=>q _ H' (sm.trans s') (d'.elder sm))
   ·have z:=rp.prot _ List.mem_cons_self
    rw [hY] at z
    obtain ⟨vs,l,kk⟩:=any z
    obtain ⟨v0,hv0,dv0⟩:=denL_get l ey
    rcases kd with ⟨rfl,nt⟩ | ⟨rfl,zs,et⟩
    ·rcases kk with ⟨hq,_⟩ | ⟨_,zs,et⟩
     ·exact ⟨⟨vs,v0,hq,hv0⟩,fun w H' ⟨y1,y2⟩=>by subst y1;have:=y2 vs hq;rw [hv0] at this;cases this;exact ⟨Same.refl _,dv0⟩⟩
     ·exact absurd et (nt _)
    ·rcases kk with ⟨_,nt⟩ | ⟨hq,_⟩
     ·exact absurd et (nt _)
     ·exact ⟨⟨vs,v0,hq,hv0⟩,fun w H' ⟨y1,y2⟩=>by subst y1;have:=y2 vs hq;rw [hv0] at this;cases this;exact ⟨Same.refl _,dv0⟩⟩
   ·have z:=rp.prot _ List.mem_cons_self
    rw [hY] at z
    obtain ⟨vs,l,kk⟩:=any z
    rcases kd with ⟨rfl,nt⟩ | ⟨rfl,zs,et⟩
    ·rcases kk with ⟨hq,_⟩ | ⟨_,zs,et⟩
     ·exact ⟨vs,hq,by rw [←denL_length l];exact Nat.le_refl _⟩
     ·exact absurd et (nt _)
    ·rcases kk with ⟨_,nt⟩ | ⟨hq,_⟩
     ·exact absurd et (nt _)
     ·exact ⟨vs,hq,by rw [←denL_length l];exact Nat.le_refl _⟩
theorem qx_comp (i:Nat)(hc:X.calm=true)(b:Blk X scope cl N js)(hN:(N ++ [accN]).Nodup)(ha:QX X iter f)(ht:∀s2 H2 fp C,Tst (blk X scope cl s2 H2 fp C (N ++ [accN])) ifs t)(he:∀s2 H2 fp C,QX (blk X scope cl s2 H2 fp C (N ++ [accN])) elt fe)
  (hi:(N ++ [accN])[i]? =some x) (hx:(relabel scope X.env).names.lookup x=some .local) (hk:i≠js.length) (hs:autoParam (∀x,foldedSetIterable iter X.env x=pure x) Zau.a3._auto_1):
  QX X (.ListComp elt [⟨.Name x px,iter,ifs,0⟩] scope pos) (fComp f js (gfName i) t fe):=
 qx_compG hc b (fun s2 H2 fp C=>pg_name hN hi (.inl hx) (.inr hx)) (fun s2 H2 fp C=>pxgk_name i hk) ha ht he hs
theorem qx_compT {es:List Expr}{is:List Nat}{kt:Nat}{pt:Pos}(hc:X.calm=true)(b:Blk X scope cl N js)(hN:(N ++ [accN]).Nodup)(tg:∀s2 H2 fp C,Tg (blk X scope cl s2 H2 fp C (N ++ [accN])) es is)(ha:QX X iter f)(ht:∀s2 H2 fp C,Tst (blk X scope cl s2 H2 fp C (N ++ [accN])) ifs t)(he:∀s2 H2 fp C,QX (blk X scope cl s2 H2 fp C (N ++ [accN])) elt fe)
  (hk:∀i∈is,i≠js.length) (hn:autoParam (∀C,(assignEach es (compEnvC scope cl C X.env)).length=is.length) Zau.a3._auto_1) (hst:autoParam (∀C,(assignEach es (compEnvC scope cl C X.env)).findIdx? (·.1)=none) Zau.a3._auto_1) (hs:autoParam (∀x,foldedSetIterable iter X.env x=pure x) Zau.a3._auto_1):
  QX X (.ListComp elt [⟨.Tuple es kt pt,iter,ifs,0⟩] scope pos) (fComp f js (gfTup is) t fe):=
 qx_compG (gg:=gTup X.K is.length (gAll is)) hc b (fun s2 H2 fp C=>pg_names (X:=blk X scope cl s2 H2 fp C (N ++ [accN])) hc hN (tg s2 H2 fp C) (hn C) (hst C)) (fun s2 H2 fp C=>pxgk_tup (Y:=blk X scope cl s2 H2 fp C (N ++ [accN])) is hk) ha ht he hs
theorem qx_compR (i:Nat)(hc:X.calm=true)(hm:X.mg "range"=none)(b:Blk X scope cl N js)(hN:(N ++ [accN]).Nodup)(ha:QA X [a] fa)(ht:∀s2 H2 fp C,Tst (blk X scope cl s2 H2 fp C (N ++ [accN])) ifs t)(he:∀s2 H2 fp C,QX (blk X scope cl s2 H2 fp C (N ++ [accN])) elt fe)
  (hi:(N ++ [accN])[i]? =some x) (hx:(relabel scope X.env).names.lookup x=some .local) (hk:i≠js.length) (hgl:autoParam (Gl X "range") Zau.a2._auto_1) (hst:autoParam (starEach [a] X.env=[(false,eval a X.env)]) Zau.a2._auto_1) (hs:autoParam (∀x,foldedSetIterable (.Call (.Name "range" p) [a] [] p2) X.env x=pure x) Zau.a3._auto_1):
  QX X (.ListComp elt [⟨.Name x px,.Call (.Name "range" p) [a] [] p2,ifs,0⟩] scope pos) (fCompR fa js (gfName i) t fe):=by
 refine ⟨fun pins s σ H Q I ⟨ρ,d,rv,e,q⟩=>?_⟩
 unfold fCompR at e
 cases e1:fa ρ with
 | none=>rw [e1] at e;cases e
 | some ds=>
  rw [e1] at e
  simp only [Option.bind_some] at e
  split at e
  ·rename_i n
   split at e
   ·rename_i hl
    obtain ⟨ys,rfl⟩:=lastL_own e
    rw [eval_ListComp]
    refine wpAny_comprehension_free (use:=none) rfl hs b.clos b.kind b.nms ?_
    have hw:iRng1 (tA X fa) σ H (fun J H1=>Same H H1∧J=Itr 0 n.toNat):=by
     refine ⟨ρ,_,rv,e1,fun vs H1 s1 l1=>?_⟩
     obtain ⟨v,rfl,h⟩:=denL1 l1
     exact ⟨n,by rw [den_int.mp h],hl.2,hl.1,s1,rfl⟩
    refine wpAny_mono (pi_range1 (tg:=.Name x px) hgl hm ha.to hst pins s σ H _ I hw) (fun v s1 h1=>wpAny_mono h1 (fun itv s2 h2=>?_) fun _ _ z=>z) fun _ _ z=>z
    obtain ⟨it,fp,tn,J,H2,rfl,I2,T,st2,f2,sm,rfl⟩:=h2
    refine comp_core (P:=[]) (xs:=(List.range n.toNat).map fun i=>.int (i:Nat)) hc I2 T st2 f2 b (rv.same sm) (fun p hp=>nomatch hp) (fun Y hY i own ρ σ Hh y rp ey=>?_) (fun Y hY own ρ σ Hh rp=>?_) (fun C=>pg_name hN hi (.inl hx) (.inr hx)) (fun C=>pxgk_name i hk) (fun C=>(ht s2 H2 fp C).to) (fun C=>(he s2 H2 fp C).to) e (fun Dd H' s' d'=>q _ H' (sm.trans s') (d'.elder sm))
    ·rw [List.getElem?_map] at ey
     have hj:i < n.toNat:=by
      by_cases z:i < n.toNat
      ·exact z
      ·rw [List.getElem?_eq_none (by simpa using z)] at ey;cases ey
     rw [List.getElem?_range hj] at ey
     cases ey
     exact ⟨hj,fun w H' ⟨y1,y2⟩=>by subst y1;exact ⟨Same.refl _,by rw [Den,y2];simp⟩⟩
    ·show n.toNat≤_
     simp
   ·cases e
  ·cases e
end
end Tw
set_option Elab.async false
set_option linter.all false
set_option maxRecDepth 100000
set_option maxHeartbeats 1000000
namespace Tw
open PySem PySem.Spec PyProof.Rows L2
noncomputable def AllC (X:Cx):List (Str×Addr)→Prop
 | []=>True
 | p :: r=>X.env.cells.lookup p.1=some p.2∧AllC X r
theorem AllC.sub {X:Cx}:∀{cl:List (Str×Addr)},AllC X cl→∀y c,cl.lookup y=some c→X.env.cells.lookup y=some c
 | [],_,y,c,e=>by simp at e
 | (n,c0) :: r,h,y,c,e=>by
  rw [List.lookup_cons] at e
  cases q:y == n with
  | true=>
   rw [q] at e
   cases e
   have:y=n:=by simpa using q
   rw [this];exact h.1
  | false=>rw [q] at e;exact AllC.sub h.2 y c e
theorem lookup_mem {α:Type}:∀{l:List (Str×α)} {y:Str} {k:α},l.lookup y=some k→(y,k)∈l
 | [],y,k,e=>by simp at e
 | (n,a) :: r,y,k,e=>by
  rw [List.lookup_cons] at e
  cases q:y == n with
  | true=>
   rw [q] at e
   cases e
   have:y=n:=by simpa using q
   rw [this];exact List.mem_cons_self
  | false=>rw [q] at e;exact List.mem_cons_of_mem _ (lookup_mem e)
section
variable {X:Cx}{scope:Scope}{cl:List (Str×Addr)}{N:List Str}{js:List (Option Nat)}
theorem blk_mk (cap:Cap X (relabel scope X.env) cl N js)(clos:closureFor scope X.env=pure cl)(sub:AllC X cl)(has:(relabel scope X.env).names.all (fun p=>(p.2 != .cell && p.2 != .free) || (cl.lookup p.1).isSome)=true)(kind:autoParam (scope.kind= .function) Zau.a2._auto_1)(cell:autoParam (scope.names.all (fun y=>y.2 != .cell)=true) Zau.a8._auto_1)
  (nms:autoParam (scope.names.all (fun y=>y.2 != .local || scope.names.lookup y.1 == some .local)=true) Zau.a8._auto_1) (acc:autoParam ((relabel scope X.env).names.lookup accN=none) Zau.a2._auto_1):Blk X scope cl N js where
 clos:=clos
 kind:=kind
 cell:=fun y hy=>by have:=List.all_eq_true.mp cell y hy;simpa using this
 nms:=fun y hy hl=>by have:=List.all_eq_true.mp nms y hy;rw [hl] at this;simpa using this
 cap:=cap
 sub:=sub.sub
 has:=fun y h=>by
  have key:∀k,(relabel scope X.env).names.lookup y=some k→k= .cell∨k= .free→∃c,cl.lookup y=some c:=fun k e hk=>by
   have:=List.all_eq_true.mp has (y,k) (lookup_mem e)
   rcases hk with rfl | rfl <;> simpa [Option.isSome_iff_exists] using this
  rcases h with h | h
  ·exact key _ h (.inl rfl)
  ·exact key _ h (.inr rfl)
 acc:=fun k e=>by rw [acc] at e;cases e
end
end Tw
set_option Elab.async false
set_option linter.all false
set_option maxRecDepth 100000
set_option maxHeartbeats 1000000
namespace Tw
open PySem PySem.Spec PyProof.Rows L2
theorem walks_lst {prog:Program}{w:World}{A:Around}(hh:A.handled=none){l I:Addr}{its:Array Value}(ne:l≠I):
  Walks prog w A I [I,l] [I] its.size (fun i v=>its[i]? =some v) (fun i h=>h.IsListIter I l i∧h.IsList l its) where
 sub:=fun b hb=>by rw [List.mem_singleton.mp hb];exact List.mem_cons_self
 frame:=fun i h h' ⟨⟨o,e,r⟩,⟨o2,e2,r2⟩⟩ k=>⟨⟨o,k I List.mem_cons_self o e,r⟩,⟨o2,k l (List.mem_cons_of_mem _ List.mem_cons_self) o2 e2,r2⟩⟩
 item:=fun i s Q E hi ⟨h1,h2⟩ q=>wpAny_pyNext_list_item h1 h2 (x:=its[i]) (by simp [hi]) fun h' hit hs=>q its[i] h' s.toks (by simp [hi]) ⟨hit,h2.extBut hs.extBut ne⟩ fun b o hb e=>hs.extBut b o (fun z=>hb (by rw [z];exact List.mem_singleton.mpr rfl)) e
 done:=fun s Q E ⟨h1,h2⟩ q=>wpAny_pyNext_list_end hh h1 h2 (by simp) fun h' hx=>q h' s.toks fun b o hb e=>hx b o (fun z=>hb (by rw [z];exact List.mem_singleton.mpr rfl)) e
 self:=fun i s Q E ⟨h1,_⟩ q=>wpAny_pyIter_listiter h1 q
theorem bools_at {bs:List Bool}{its:List Value}(r:Vals (bs.map V.bl) its){i:Nat}{v:Value}(e:its.toArray[i]? =some v):v= .bool (bs.getD i false):=by
 rw [List.getElem?_toArray] at e
 induction bs generalizing its i with
 | nil=>cases r;simp at e
 | cons b bs ih=>
  cases r with
  | cons r1 r2=>
   cases i with
   | zero=>simp at e;subst e;exact r1
   | succ i=>exact ih r2 (by simpa using e)
theorem range_all (bs:List Bool)(n:Nat)(hn:n=bs.length):(List.range n).all (fun i=>bs.getD i false)=bs.all id:=by
 subst hn
 apply Bool.eq_iff_iff.mpr
 simp only [List.all_eq_true,List.mem_range,id]
 constructor
 ·intro h x hx
  obtain ⟨i,hi,e⟩:=List.mem_iff_getElem.mp hx
  have:=h i hi
  rw [List.getD_eq_getElem?_getD,List.getElem?_eq_getElem hi] at this
  simpa [e] using this
 ·intro h i hi
  rw [List.getD_eq_getElem?_getD,List.getElem?_eq_getElem hi]
  exact h _ (List.getElem_mem hi)
theorem range_any (bs:List Bool)(n:Nat)(hn:n=bs.length):(List.range n).any (fun i=>bs.getD i false)=bs.any id:=by
 subst hn
 apply Bool.eq_iff_iff.mpr
 simp only [List.any_eq_true,List.mem_range,id]
 constructor
 ·rintro ⟨i,hi,h⟩
  rw [List.getD_eq_getElem?_getD,List.getElem?_eq_getElem hi] at h
  exact ⟨_,List.getElem_mem hi,by simpa using h⟩
 ·rintro ⟨x,hx,h⟩
  obtain ⟨i,hi,e⟩:=List.mem_iff_getElem.mp hx
  refine ⟨i,hi,?_⟩
  rw [List.getD_eq_getElem?_getD,List.getElem?_eq_getElem hi]
  simpa [e] using h
section
variable {X:Cx}
theorem call_allL (hc:X.calm=true):CallR X (.builtin "all") (fun xs H Q=>∃(p:Addr) (bs:List Bool),xs=[.ref p]∧SqL X.K H p (bs.map V.bl)∧Q (.bl (bs.all id)) H):=by
 intro pins s σ H xs us Q I r h
 obtain ⟨p,bs,rfl,hq,q⟩:=h
 obtain ⟨u,rfl,ru⟩:=vals1 r
 cases ru
 obtain ⟨its,rv,⟨o,m,h1,h2,_,h4⟩,hz⟩:=I.list hq
 have hl:s.heap.IsList p its.toArray:=⟨o,h1,h2,m,h4⟩
 have ne:p≠s.heap.objs.size:=Nat.ne_of_lt (Heap.lt_size h1)
 refine call_all_walk (wpAny_pyIter_list hl ⟨s.heap.objs.size,_,_,_,_,_,fun i=>bs.getD i false,rfl,walks_lst (show X.A.in1.handled=none from I.ok.hd hc) ne,⟨⟨_,Heap.get?_push_size _ rfl,rfl,rfl⟩,hl.push _⟩,fun i v s' Q' E' hv hq'=>?_,fun h' tk hk=>?_⟩)
 ·rw [bools_at rv hv];exact wpAny_truthy_bool hq'
 ·have I1:Inv X pins σ H {s with heap:=h',toks:=tk}:=I.kept (t':=tk) fun b ob e=>hk b ob (fun z=>absurd (Heap.lt_size e) (by rw [List.mem_singleton.mp z];exact Nat.lt_irrefl _)) (Heap.get?_push_of_some _ e)
  refine ⟨.bl _,H,I1,?_,q⟩
  show Value.bool _=Value.bool _
  rw [range_all bs _ (by rw [List.size_toArray,←rv.length,List.length_map])]
theorem call_anyL (hc:X.calm=true):CallR X (.builtin "any") (fun xs H Q=>∃(p:Addr) (bs:List Bool),xs=[.ref p]∧SqL X.K H p (bs.map V.bl)∧Q (.bl (bs.any id)) H):=by
 intro pins s σ H xs us Q I r h
 obtain ⟨p,bs,rfl,hq,q⟩:=h
 obtain ⟨u,rfl,ru⟩:=vals1 r
 cases ru
 obtain ⟨its,rv,⟨o,m,h1,h2,_,h4⟩,hz⟩:=I.list hq
 have hl:s.heap.IsList p its.toArray:=⟨o,h1,h2,m,h4⟩
 have ne:p≠s.heap.objs.size:=Nat.ne_of_lt (Heap.lt_size h1)
 refine call_any_walk (wpAny_pyIter_list hl ⟨s.heap.objs.size,_,_,_,_,_,fun i=>bs.getD i false,rfl,walks_lst (show X.A.in1.handled=none from I.ok.hd hc) ne,⟨⟨_,Heap.get?_push_size _ rfl,rfl,rfl⟩,hl.push _⟩,fun i v s' Q' E' hv hq'=>?_,fun h' tk hk=>?_⟩)
 ·rw [bools_at rv hv];exact wpAny_truthy_bool hq'
 ·have I1:Inv X pins σ H {s with heap:=h',toks:=tk}:=I.kept (t':=tk) fun b ob e=>hk b ob (fun z=>absurd (Heap.lt_size e) (by rw [List.mem_singleton.mp z];exact Nat.lt_irrefl _)) (Heap.get?_push_of_some _ e)
  refine ⟨.bl _,H,I1,?_,q⟩
  show Value.bool _=Value.bool _
  rw [range_any bs _ (by rw [List.size_toArray,←rv.length,List.length_map])]
end
end Tw
set_option Elab.async false
set_option linter.all false
set_option maxRecDepth 100000
set_option maxHeartbeats 1000000
namespace Tw
open PySem PySem.Spec PyProof.Rows L2
noncomputable def intsOf:List D→Option (List Int)
 | []=>some []
 | .int i :: ds=>(intsOf ds).map fun is=>i :: is
 | _=>none
theorem intsOf_eq:∀{ds:List D} {is:List Int},intsOf ds=some is→ds=is.map D.int
 | [],is,e=>by simp [intsOf] at e;subst e;rfl
 | d :: ds,is,e=>by
  cases d <;> simp only [intsOf] at e <;> try cases e
  rename_i i
  cases e1:intsOf ds with
  | none=>rw [e1] at e;cases e
  | some js=>
   rw [e1] at e;cases e
   rw [intsOf_eq e1];rfl
theorem intsOf_map:∀is:List Int,intsOf (is.map D.int)=some is
 | []=>rfl
 | i :: is=>by rw [List.map_cons,intsOf,intsOf_map is];rfl
theorem denL_of_ints {K:PySem.W.Frag}{O:Addr→Prop}{H:Hp}:∀{is:List Int} {vs:List V},DenL K O H (is.map D.int) vs→vs=is.map V.int
 | [],vs,l=>by rw [List.map_nil,DenL] at l;exact l
 | i :: is,vs,l=>by
  rw [List.map_cons,DenL] at l
  obtain ⟨v,r,rfl,h,l⟩:=l
  rw [denL_of_ints l,den_int.mp h];rfl
noncomputable def boolsOf:List D→Option (List Bool)
 | []=>some []
 | .bl i :: ds=>(boolsOf ds).map fun is=>i :: is
 | _=>none
theorem boolsOf_eq:∀{ds:List D} {is:List Bool},boolsOf ds=some is→ds=is.map D.bl
 | [],is,e=>by simp [boolsOf] at e;subst e;rfl
 | d :: ds,is,e=>by
  cases d <;> simp only [boolsOf] at e <;> try cases e
  rename_i i
  cases e1:boolsOf ds with
  | none=>rw [e1] at e;cases e
  | some js=>
   rw [e1] at e;cases e
   rw [boolsOf_eq e1];rfl
theorem boolsOf_map:∀is:List Bool,boolsOf (is.map D.bl)=some is
 | []=>rfl
 | i :: is=>by rw [List.map_cons,boolsOf,boolsOf_map is];rfl
theorem denL_of_bools {K:PySem.W.Frag}{O:Addr→Prop}{H:Hp}:∀{is:List Bool} {vs:List V},DenL K O H (is.map D.bl) vs→vs=is.map V.bl
 | [],vs,l=>by rw [List.map_nil,DenL] at l;exact l
 | i :: is,vs,l=>by
  rw [List.map_cons,DenL] at l
  obtain ⟨v,r,rfl,h,l⟩:=l
  rw [denL_of_bools l,den_bl.mp h];rfl
section
variable {X:Cx}{a b c e e':Expr}{es:List Expr}{pos p:Pos}{f g h:FE}{fa:FA}{x:Str}
noncomputable def oAddT:D→D→Option D
 | .tup xs,.tup ys=>if xs.length + ys.length≤lim then some (.tup (xs ++ ys)) else none
 | x,y=>oAdd x y
noncomputable def rCat0 (K:PySem.W.Frag):R2:=fun x y H Q=>∃a b ys,x= .ref a∧y= .ref b∧SqT K H a []∧SqT K H b ys∧Q (.ref b) H
theorem op_cat0:OpR X (binaryOp .Add) (rCat0 X.K):=by
 intro pins s σ H x y v u Q I rx ry h
 obtain ⟨a,b,ys,rfl,rfl,ha,hb,q⟩:=h
 cases rx
 cases ry
 obtain ⟨its,r1,p1,_⟩:=I.tuple ha
 obtain ⟨its2,r2,p2,_⟩:=I.tuple hb
 cases r1
 obtain ⟨⟨cls,dd,data,sl⟩,ho,hc,n,hd⟩:=id p1
 obtain ⟨⟨cls2,dd2,data2,sl2⟩,ho2,hc2,n2,hd2⟩:=id p2
 simp only at hc hd hc2 hd2
 subst hc hd hc2 hd2
 exact concat_meets ⟨_,ho,rfl⟩ ⟨_,ho2,rfl⟩ noFill_tuple_add seq_tuple_add PySem.F.slot_tuple_add PySem.F.entry_tuple_add (PySem.F.args_tuple_add_2 _ _)
   (tuple_addW0 a b _ its2.toArray n n2 dd dd2 sl sl2 rfl) ⟨ho,ho2,.ref b,H,I,rfl,q⟩
theorem qx_addT (ha:QX X a f)(hb:QX X b g):QX X (.BinOp a .Add b pos) (fBin oAddT f g):=⟨px_bin ((op_add.or op_cat).or (op_catT.or op_cat0)) (by
 intro x y d v u H Q e hx hy q
 have cat:oCat x y=some d→rCat v u H Q:=fun e=>by
  unfold oCat at e
  cases e1:asL x with
  | none=>rw [e1] at e;cases e
  | some xs=>
   cases e2:asL y with
   | none=>rw [e1,e2] at e;cases e
   | some ys=>
    rw [e1,e2] at e
    simp only [Option.bind_some] at e
    split at e
    ·rename_i hl
     cases e
     obtain ⟨a,vs,ev,ha,_,la⟩:=den_asL e1 hx
     obtain ⟨b,us,eu,hb,_,lb⟩:=den_asL e2 hy
     refine ⟨a,b,vs,us,ev,eu,ha,hb,?_,fun p hp=>q _ _ (same_upd hp _) (denF_new hp (denL_append la lb))⟩
     rw [←denL_length la,←denL_length lb]
     exact Nat.le_trans hl lim_line
    ·cases e
 have all:oAdd x y=some d→(rI0 (fun i j=>.int (i + j)) v u H Q∨rCat v u H Q):=fun e=>by
  cases x <;> cases y <;> first
   | exact .inr (cat e)
   | (simp only [oAdd] at e;cases e;rename_i i j;exact .inl ⟨i,j,den_int.mp hx,den_int.mp hy,q _ H (Same.refl H) denF_int⟩)
 by_cases z:∃xs ys,x= .tup xs∧y= .tup ys
 ·obtain ⟨xs,ys,rfl,rfl⟩:=z
  simp only [oAddT] at e
  split at e
  ·rename_i hl
   cases e
   have hx':=hx
   have hy':=hy
   rw [Den] at hx' hy'
   obtain ⟨a,vs,ev,ha,la⟩:=hx'
   obtain ⟨b,us,eu,hb,lb⟩:=hy'
   cases xs with
   | nil=>
    rw [DenL] at la
    subst la
    refine .inr (.inr ⟨a,b,us,ev,eu,ha,hb,q _ H (Same.refl H) ?_⟩)
    rw [←eu]
    exact hy
   | cons x0 xs=>
    refine .inr (.inl ⟨a,b,vs,us,ev,eu,ha,hb,?_,?_,fun z=>?_,fun z p hp=>q _ _ (same_upd hp _) (denF_tup hp (denL_append la lb))⟩)
    ·rw [DenL] at la
     obtain ⟨v0,r0,rfl,_⟩:=la
     exact fun z=>nomatch z
    ·rw [←denL_length la,←denL_length lb]
     exact Nat.le_trans hl lim_line
    ·subst z
     have hyn:ys=[]:=by have:=denL_length lb;simpa using this
     subst hyn
     refine q _ H (Same.refl H) ?_
     rw [List.append_nil,←ev]
     exact hx
  ·cases e
 ·refine .inl (all ?_)
  cases x <;> cases y <;> first | exact e | exact absurd ⟨_,_,rfl,rfl⟩ z) ha.to hb.to⟩
noncomputable def oLtT:D→D→Option D
 | .tup xs,.tup ys=>(intsOf xs).bind fun ns=>(intsOf ys).map fun ms=>.bl (HT.lexLt ns ms)
 | x,y=>oLt x y
theorem kLtT:∀(x y d:D) (v u:V) (H:Hp) (Q:VK),oLtT x y=some d→Den X.K Emp H x v→Den X.K Emp H y u→(∀w H',Same H H'→DenF X.K H H' d w→Q w H')→(rI0 (fun i j=>.bl (decide (i < j))) v u H Q∨rLtT X.K v u H Q):=by
 intro x y d v u H Q e hx hy q
 by_cases z:∃xs ys,x= .tup xs∧y= .tup ys
 ·obtain ⟨xs,ys,rfl,rfl⟩:=z
  simp only [oLtT] at e
  cases e1:intsOf xs with
  | none=>rw [e1] at e;cases e
  | some ns=>
   cases e2:intsOf ys with
   | none=>rw [e1,e2] at e;cases e
   | some ms=>
    rw [e1,e2] at e
    cases e
    rw [intsOf_eq e1,Den] at hx
    rw [intsOf_eq e2,Den] at hy
    obtain ⟨a,vs,ev,ha,la⟩:=hx
    obtain ⟨b,us,eu,hb,lb⟩:=hy
    rw [denL_of_ints la] at ha
    rw [denL_of_ints lb] at hb
    exact .inr ⟨a,b,ns,ms,ev,eu,ha,hb,q _ H (Same.refl H) denF_bl⟩
 ·refine .inl (kB0 (g:=fun i j=>decide (i < j)) x y d v u H Q ?_ hx hy q)
  cases x <;> cases y <;> first | exact e | exact absurd ⟨_,_,rfl,rfl⟩ z
theorem qx_ltT {k:Nat}(hr:Room k X.A)(ha:QX X a f)(hb:QX X b g):QX X (.Compare a [.Lt] [b] pos) (fBin oLtT f g):=⟨px_cmp (op_lt.or (op_ltT (by have:=hr.units;(first|lia|omega)))) kLtT ha.to hb.to⟩
theorem qxt_ltT {k:Nat}(hr:Room k X.A)(ha:QX X a f)(hb:QX X b g):QT X (.Compare a [.Lt] [b] pos) (fTest (fBin oLtT f g)):=⟨pt_cmpX (op_lt.or (op_ltT (by have:=hr.units;(first|lia|omega)))) kLtT ha.to hb.to⟩
noncomputable def fChain (o o':D→D→Option D) (f g h:FE):FE:=fun ρ=>(f ρ).bind fun x=>(g ρ).bind fun y=>(o x y).bind fun d=>match d with
 | .bl k=>if k=true then (h ρ).bind fun z=>o' y z else some (.bl false)
 | _=>none
noncomputable def kMin:List D→Option D
 | [.int i,.int j]=>some (.int (if j < i then j else i))
 | _=>none
theorem qx_min (hc:X.calm=true)(hm:X.mg "min"=none)(ha:QA X [e,e'] fa)(hb:autoParam (bootBuiltins "min"=some (.builtin "min")) Zau.a2._auto_1)(hg:autoParam (Gl X "min") Zau.a2._auto_1)(he:autoParam (starEach [e,e'] X.env=(false,eval e X.env) :: starEach [e'] X.env) Zau.a2._auto_1)(hpl:autoParam ((backTo pos (starEach [e'] X.env)).any (·.1)=false) Zau.a2._auto_1):QX X (.Call (.Name "min" p) [e,e'] [] pos) (fCall kMin fa):=⟨px_callB (call_min2 hc) (by
 intro ds d vs H Q ek l q
 unfold kMin at ek
 split at ek
 ·cases ek
  obtain ⟨v,v',rfl,h,h'⟩:=denL2 l
  exact ⟨_,_,by rw [den_int.mp h,den_int.mp h'],q _ H (Same.refl H) denF_int⟩
 ·cases ek) hb hm ha.to hg (by decide) (by decide) he hpl⟩
noncomputable def kBools (r:List Bool→Bool):List D→Option D
 | [d]=>(asL d).bind fun xs=>(boolsOf xs).map fun bs=>.bl (r bs)
 | _=>none
theorem kBools_ok {r:List Bool→Bool}:∀(ds:List D) (d:D) (vs:List V) (H:Hp) (Q:VK),kBools r ds=some d→DenL X.K Emp H ds vs→(∀w H',Same H H'→DenF X.K H H' d w→Q w H')→∃(p:Addr) (bs:List Bool),vs=[.ref p]∧SqL X.K H p (bs.map V.bl)∧Q (.bl (r bs)) H:=by
 intro ds d vs H Q ek l q
 match ds,ek,l with
 | [x],ek,l=>
  simp only [kBools] at ek
  cases e1:asL x with
  | none=>rw [e1] at ek;cases ek
  | some xs=>
   rw [e1] at ek
   simp only [Option.bind_some] at ek
   cases e2:boolsOf xs with
   | none=>rw [e2] at ek;cases ek
   | some bs=>
    rw [e2] at ek;cases ek
    obtain ⟨v,rfl,h⟩:=denL1 l
    obtain ⟨a,ws,rfl,hq,_,lw⟩:=den_asL e1 h
    rw [boolsOf_eq e2] at lw
    rw [denL_of_bools lw] at hq
    exact ⟨a,bs,rfl,.inl (.inl hq),q _ H (Same.refl H) denF_bl⟩
noncomputable abbrev kAll:=kBools (·.all id)
noncomputable abbrev kAny:=kBools (·.any id)
theorem qx_all (hc:X.calm=true)(hm:X.mg "all"=none)(ha:QA X [e] fa)(hb:autoParam (bootBuiltins "all"=some (.builtin "all")) Zau.a2._auto_1)(hg:autoParam (Gl X "all") Zau.a2._auto_1)(he:autoParam (starEach [e] X.env=(false,eval e X.env) :: starEach [] X.env) Zau.a2._auto_1):QX X (.Call (.Name "all" p) [e] [] pos) (fCall kAll fa):=⟨px_callB (call_allL hc) (kBools_ok (r:=(·.all id))) hb hm ha.to hg (by decide) (by decide) he rfl⟩
theorem qx_any (hc:X.calm=true)(hm:X.mg "any"=none)(ha:QA X [e] fa)(hb:autoParam (bootBuiltins "any"=some (.builtin "any")) Zau.a2._auto_1)(hg:autoParam (Gl X "any") Zau.a2._auto_1)(he:autoParam (starEach [e] X.env=(false,eval e X.env) :: starEach [] X.env) Zau.a2._auto_1):QX X (.Call (.Name "any" p) [e] [] pos) (fCall kAny fa):=⟨px_callB (call_anyL hc) (kBools_ok (r:=(·.any id))) hb hm ha.to hg (by decide) (by decide) he rfl⟩
noncomputable def kTuple:List D→Option D
 | [d]=>(items d).map .tup
 | _=>none
theorem qx_tupleOf (hm:X.mg "tuple"=none)(ha:QA X [e] fa)(hb:autoParam (bootBuiltins "tuple"=some (.type "tuple")) Zau.a2._auto_1)(hg:autoParam (Gl X "tuple") Zau.a2._auto_1)(he:autoParam (starEach [e] X.env=(false,eval e X.env) :: starEach [] X.env) Zau.a2._auto_1):QX X (.Call (.Name "tuple" p) [e] [] pos) (fCall kTuple fa):=⟨px_callT call_tuple_of (by
 intro ds d vs H Q ek l q
 match ds,ek,l with
 | [x],ek,l=>
  simp only [kTuple] at ek
  cases e1:items x with
  | none=>rw [e1] at ek;cases ek
  | some xs=>
   rw [e1] at ek;cases ek
   obtain ⟨v,rfl,h⟩:=denL1 l
   obtain ⟨a,ws,rfl,hq,lw⟩:=den_items e1 h
   refine ⟨a,ws,rfl,?_⟩
   rcases hq with hq | hq
   ·exact .inl ⟨hq,fun p hp=>q _ _ (same_upd hp _) (denF_tup hp lw)⟩
   ·refine .inr ⟨hq,q _ H (Same.refl H) ?_⟩
    show Den _ Emp _ _ _
    rw [Den]
    exact ⟨a,ws,rfl,hq,lw⟩) hb hm ha.to hg (by decide) (by decide) he rfl⟩
noncomputable def kList:List D→Option D
 | [d]=>(items d).map .own
 | _=>none
theorem qx_listOf (hm:X.mg "list"=none)(ha:QA X [e] fa)(hb:autoParam (bootBuiltins "list"=some (.type "list")) Zau.a2._auto_1)(hg:autoParam (Gl X "list") Zau.a2._auto_1)(he:autoParam (starEach [e] X.env=(false,eval e X.env) :: starEach [] X.env) Zau.a2._auto_1):QX X (.Call (.Name "list" p) [e] [] pos) (fCall kList fa):=⟨px_callT call_list_of (by
 intro ds d vs H Q ek l q
 match ds,ek,l with
 | [x],ek,l=>
  simp only [kList] at ek
  cases e1:items x with
  | none=>rw [e1] at ek;cases ek
  | some xs=>
   rw [e1] at ek;cases ek
   obtain ⟨v,rfl,h⟩:=denL1 l
   obtain ⟨a,ws,rfl,hq,lw⟩:=den_items e1 h
   exact ⟨a,ws,rfl,hq,fun p hp=>q _ _ (same_upd hp _) (denF_new hp lw)⟩) hb hm ha.to hg (by decide) (by decide) he rfl⟩
end
end Tw
set_option Elab.async false
set_option linter.all false
set_option maxRecDepth 100000
set_option maxHeartbeats 1000000
namespace Tw
open PySem PySem.Spec PyProof.Rows L2
noncomputable def lookD:List (List Int)→List D→List Int→Option D
 | k' :: ks,x :: xs,k=>if k'=k then some x else lookD ks xs k
 | _,_,_=>none
noncomputable def putKs (ks:List (List Int)) (k:List Int):List (List Int):=if k∈ks then ks else ks ++ [k]
noncomputable def putX {α:Type} (ks:List (List Int)) (xs:List α) (k:List Int) (d:α):List α:=if k∈ks then List.zipWith (fun k' x=>if k'=k then d else x) ks xs else xs ++ [d]
theorem inl_inj {a b:List Int}(h:a.map (Sum.inl:Int→Key)=b.map Sum.inl):a=b:=by
 induction a generalizing b with
 | nil=>cases b with | nil=>rfl | cons _ _=>cases h
 | cons x a ih=>cases b with
  | nil=>cases h
  | cons y b=>rw [List.map_cons,List.map_cons] at h;injection h with h1 h2;injection h1 with h1;rw [h1,ih h2]
theorem inl_kV (k:List Int):(k.map (Sum.inl:Int→Key)).map kV=k.map V.int:=by rw [List.map_map];rfl
theorem zipK_val {K:PySem.W.Frag}{O:Addr→Prop}{H:Hp}:∀{ks:List (List Int)} {xs:List D} {vs:List V} {k:List Int} {x:D},DenL K O H xs vs→lookD ks xs k=some x→∃v,valV (zipK ks vs) (k.map Sum.inl)=some v∧Den K O H x v
 | [],_,_,_,_,_,e=>by simp [lookD] at e
 | _ :: _,[],_,_,_,_,e=>by simp [lookD] at e
 | k' :: ks,x0 :: xs,vs,k,x,l,e=>by
  rw [DenL] at l
  obtain ⟨v,r,rfl,h,l⟩:=l
  simp only [lookD] at e
  unfold zipK
  rw [List.zipWith_cons_cons]
  split at e
  ·rename_i q
   cases e
   exact ⟨v,valV_pos (by simp [q]),h⟩
  ·rename_i q
   rw [valV_neg (fun z=>q (inl_inj z))]
   exact zipK_val l e
theorem zipK_any {ks:List (List Int)}{vs:List V}{k:List Int}(hl:ks.length=vs.length):((zipK ks vs).any fun kv=>decide (kv.1=k.map Sum.inl))=decide (k∈ks):=by
 induction ks generalizing vs with
 | nil=>simp [zipK]
 | cons k' ks ih=>
  cases vs with
  | nil=>simp at hl
  | cons v vs=>
   have ih':=ih (vs:=vs) (by simpa using hl)
   unfold zipK at ih' ⊢
   rw [List.zipWith_cons_cons,List.any_cons,ih']
   by_cases q:k'=k
   ·simp [q]
   ·have q2:¬(k'.map (Sum.inl:Int→Key)=k.map Sum.inl):=fun z=>q (inl_inj z)
    have q3:¬k=k':=fun z=>q z.symm
    simp [q2,q3]
theorem zipK_put {ks:List (List Int)}{vs:List V}{k:List Int}{v:V}(hl:ks.length=vs.length):putK (zipK ks vs) (k.map Sum.inl) v=zipK (putKs ks k) (putX ks vs k v):=by
 unfold putK putKs putX
 rw [zipK_any hl]
 by_cases q:k∈ks
 ·rw [if_pos (by simpa using q),if_pos q,if_pos q]
  unfold zipK
  clear q
  induction ks generalizing vs with
  | nil=>simp
  | cons k' ks ih=>
   cases vs with
   | nil=>simp at hl
   | cons w vs=>
    have ih':=ih (vs:=vs) (by simpa using hl)
    rw [List.zipWith_cons_cons,List.map_cons,List.zipWith_cons_cons,List.zipWith_cons_cons,ih']
    by_cases q:k'=k
    ·simp [q]
    ·have q2:¬(k'.map (Sum.inl:Int→Key)=k.map Sum.inl):=fun z=>q (inl_inj z)
     simp [q,q2]
 ·rw [if_neg (by simpa using q),if_neg q,if_neg q]
  unfold zipK
  rw [List.zipWith_append hl]
  rfl
theorem putX_length {α:Type}{ks:List (List Int)}{xs:List α}{k:List Int}{d:α}(hl:ks.length=xs.length):(putKs ks k).length=(putX ks xs k d).length:=by
 unfold putKs putX
 split
 ·rw [List.length_zipWith,hl];simp
 ·simp [hl]
theorem putX_den {K:PySem.W.Frag}{O:Addr→Prop}{H:Hp}{ks:List (List Int)}{xs:List D}{vs:List V}{k:List Int}{d:D}{v:V}(l:DenL K O H xs vs)(h:Den K O H d v):DenL K O H (putX ks xs k d) (putX ks vs k v):=by
 unfold putX
 split
 ·rename_i q;clear q
  induction ks generalizing xs vs with
  | nil=>simp;exact denL_nil
  | cons k' ks ih=>
   cases xs with
   | nil=>rw [DenL] at l;subst l;simp;exact denL_nil
   | cons x xs=>
    rw [DenL] at l
    obtain ⟨u,r,rfl,hx,l⟩:=l
    rw [List.zipWith_cons_cons,List.zipWith_cons_cons]
    refine denL_cons ?_ (ih l)
    split
    ·exact h
    ·exact hx
 ·exact denL_append l (denL_cons h denL_nil)
theorem putX_lf {ks:List (List Int)}{xs:List D}{k:List Int}{d:D}(f:lfL xs=true)(h:lf d=true):lfL (putX ks xs k d)=true:=by
 unfold putX
 split
 ·rename_i q;clear q
  induction ks generalizing xs with
  | nil=>simp [lfL]
  | cons k' ks ih=>
   cases xs with
   | nil=>simp [lfL]
   | cons x xs=>
    rw [lfL,Bool.and_eq_true] at f
    rw [List.zipWith_cons_cons,lfL,Bool.and_eq_true]
    refine ⟨?_,ih f.2⟩
    split
    ·exact h
    ·exact f.1
 ·exact lfL_append f h
section
variable {X:Cx}{a b e:Expr}{es:List Expr}{pos p:Pos}{f g:FE}{fa:FA}{x:Str}
theorem key_ofT {pins:List (Addr×Obj)}{σ:L2.St}{H:Hp}{s:Shared}{b:Addr}{ks:List Key}(I:Inv X pins σ H s)(q:SqT X.K H b (ks.map kV)):(tupleKind (mixKind X.prog X.w)).is s.heap ks b:=by
 obtain ⟨its,r,⟨o,h1,h2,n,h3⟩,_⟩:=I.tuple q
 exact ⟨o,its.toArray,n,h1,h2,h3,by simpa using items_are r⟩
noncomputable def rIxD (K:PySem.W.Frag):R2:=fun x y H Q=>∃a b kvs k v,x= .ref a∧y= .ref b∧H a=some (.dT kvs)∧SqT K H b (k.map kV)∧valV kvs k=some v∧Q v H
theorem ix_dict {k:Nat}(hr:Room k X.A):IxR X (rIxD X.K):=by
 intro value slice pins s σ H x y v u Q I rx ry h hs
 obtain ⟨a,b,kvs,k,z,rfl,rfl,ha,hq,hv,q⟩:=h
 cases rx
 cases ry
 obtain ⟨_,hd,xs,rel,dd⟩:=dt_of I.hok ha
 obtain ⟨w',hw,rw'⟩:=RelO.some_of (v:=z) (o:=(atKey xs k).map (·.2)) (by rw [←hv];exact rel.val k)
 obtain ⟨p,hp,hp2⟩:=Option.map_eq_some_iff.mp hw
 refine subscriptTail_builtinR (x:=w') dd.typeIs PySem.F.slot_dict_getitem.lookup ?_ hs
 refine wpAny_getItem_heap (tupleKind_room_in1 (hu_of hr)) (key_ofT I hq) dd hp ?_
 rw [hp2]
 exact ⟨rfl,z,H,I.tok _,rw',q⟩
noncomputable def oIxD (x y:D):Option D:=match x with
 | .dct ks xs=>match y with
  | .tup ds=>(intsOf ds).bind fun k=>(lookD ks xs k).map frz
  | _=>none
 | x=>oIx x y
theorem qx_ixD {k:Nat}(hr:Room k X.A)(ha:QX X a f)(hb:QX X b g)(hs:autoParam (PlainIx b) Zau.a9._auto_1):QX X (.Subscript a b pos) (fBin oIxD f g):=by
 have ho:IxR X (fun x y H Q=>rIx X.K x y H Q∨rIxD X.K x y H Q):=by
  intro value slice pins s σ H x y v u Q I rx ry h hs
  rcases h with h | h
  ·exact ix_seq value slice pins s σ H x y v u Q I rx ry h hs
  ·exact ix_dict hr value slice pins s σ H x y v u Q I rx ry h hs
 refine ⟨PE.weak (pe_ix ho ha.to hb.to hs) (bin_weak ?_)⟩
 intro x y d v u H Q e hx hy q
 by_cases z:∃ks xs,x= .dct ks xs
 ·obtain ⟨ks,xs,rfl⟩:=z
  simp only [oIxD] at e
  cases y <;> simp only at e <;> try cases e
  rename_i ds
  cases e1:intsOf ds with
  | none=>rw [e1] at e;cases e
  | some k=>
   rw [e1] at e
   simp only [Option.bind_some] at e
   cases e2:lookD ks xs k with
   | none=>rw [e2] at e;cases e
   | some z=>
    rw [e2] at e;cases e
    rw [Den] at hx
    obtain ⟨a,vs,ev,ha,_,hl,la⟩:=hx
    rw [intsOf_eq e1,Den] at hy
    obtain ⟨b,us,eu,hb,lb⟩:=hy
    rw [denL_of_ints lb,←inl_kV] at hb
    obtain ⟨w,hw,dw⟩:=zipK_val la e2
    exact .inr ⟨a,b,_,_,w,ev,eu,ha,hb,hw,q w H (Same.refl H) (DenF.of (den_frz.mpr dw))⟩
 ·have e':oIx x y=some d:=by
   cases x <;> first | exact e | exact absurd ⟨_,_,rfl⟩ z
  refine .inl ?_
  cases y <;> simp only [oIx] at e' <;> try cases e'
  rename_i i
  cases e1:items x with
  | none=>rw [e1] at e';cases e'
  | some xs=>
   rw [e1] at e'
   simp only [Option.bind_some] at e'
   cases e2:atI xs i with
   | none=>rw [e2] at e';cases e'
   | some z=>
    rw [e2] at e';cases e'
    obtain ⟨p,vs,ev,hq,l⟩:=den_items e1 hx
    obtain ⟨w,hw,dw⟩:=atI_den l e2
    have fin:=q w H (Same.refl H) (DenF.of (den_frz.mpr dw))
    rcases hq with hq | hq
    ·exact .inl ⟨p,vs,i,w,ev,den_int.mp hy,hq,hw,fin⟩
    ·exact .inr (.inl ⟨p,vs,i,w,ev,den_int.mp hy,hq,hw,fin⟩)
theorem qx_odt:QX X (.Dict [] [] pos) (fC (.odt [] [])):=⟨PE.weak pe_dnewT fun σ H Q ⟨ρ,d,rv,e,q⟩=>by
 cases e
 exact fun p hp=>q _ _ (same_upd hp _) ⟨p,[],rfl,hp,upd_same,rfl,denL_nil⟩⟩
noncomputable def fDPut (i:Nat) (fk:FA) (fv:FE):FS:=fun ρ=>(fv ρ).bind fun d=>(fk ρ).bind fun ds=>(intsOf ds).bind fun k=>match ρ[i]? with
 | some (some (.odt ks xs))=>if lf d=true∧ks.length < lim∧k.length≤lim then some (.nx (ρ.set i (some (.odt (putKs ks k) (putX ks xs k d))))) else none
 | _=>none
theorem qxs_dput (i:Nat){k:Nat}{x1}{p1 p2 p3:Pos}(hr:Room k X.A)(ha:QA X es fa)(hv:QX X e f)(hN:autoParam (X.N[i]? =some x) Zau.a2._auto_1)(hvi:autoParam (Vis X.env.scope x) Zau.a4._auto_1)(hd:autoParam ((x == ("__debug__":Str))=false) Zau.a1._auto_1)(hcd:autoParam ((x == ("__classdict__":Str))=false) Zau.a1._auto_1)
  (hs:autoParam (swapsWith e (some (.Subscript (.Name x p1) (.Tuple es x1 p2) p3)) pos.line X.env=pure false) Zau.a2._auto_1):QS X (.Assign [.Subscript (.Name x p1) (.Tuple es x1 p2) p3] e pos) (fDPut i fa f):=by
 refine ⟨PS.weak (ps_dput (hu_of hr) (pe_var hN hvi hd hcd) (pe_tup ha.to) hv.to hs) fun E σ H ⟨P,own,ρ,r,rp,e,q⟩=>?_⟩
 unfold fDPut at e
 cases e1:f ρ with
 | none=>rw [e1] at e;cases e
 | some d=>
  cases e2:fa ρ with
  | none=>rw [e1,e2] at e;cases e
  | some ds=>
   rw [e1,e2] at e
   simp only [Option.bind_some] at e
   cases e3:intsOf ds with
   | none=>rw [e3] at e;cases e
   | some k=>
    rw [e3] at e
    simp only [Option.bind_some] at e
    split at e
    ·rename_i ks xs e0
     split at e
     ·rename_i hl
      cases e
      obtain ⟨v,h1,a,vs,h2,h3,h4,hk,fl,l⟩:=rp.slot i _ e0
      subst h3
      refine ⟨ρ,d,rp.view,e1,fun w H1 s1 d1=>⟨_,h1,ρ,ds,(rp.grow s1).view,e2,fun us H2 s2 l2=>⟨?_,fun p hp=>?_⟩⟩⟩
      ·rw [←denL_length l2,intsOf_eq e3,List.length_map];exact Nat.le_trans hl.2.2 lim_line
      ·rw [intsOf_eq e3] at l2
       have eu:=denL_of_ints l2
       subst eu
       have s3:Same H2 (upd H2 p (.tup (k.map V.int))):=same_upd hp _
       have rp3:=((rp.grow s1).grow s2).grow s3
       have l3:DenL X.K Emp (upd H2 p (.tup (k.map V.int))) xs vs:=denL_same s3 (denL_same s2 (denL_same s1 (denL_lf _ _ fl l)))
       have d3:=den_same s3 (den_same s2 d1.den)
       have hlv:ks.length=vs.length:=by rw [hk,denL_length l3]
       refine ⟨a,_,rfl,DPut.t (k:=k.map Sum.inl) (s3 _ _ (s2 _ _ (s1 _ _ h4))) (by rw [inl_kV];exact upd_same) ?_,?_⟩
       ·unfold zipK
        rw [List.length_zipWith,hlv,Nat.min_self,←hlv]
        exact Nat.lt_of_lt_of_le hl.2.1 lim_line
       ·rw [zipK_put hlv]
        exact q own σ _ (rp3.mutT e0 h2 (putX_length hk) (putX_lf fl hl.1) (putX_den l3 d3))
     ·cases e
    ·cases e
end
end Tw
set_option Elab.async false
set_option linter.all false
set_option maxRecDepth 100000
set_option maxHeartbeats 1000000
namespace Tw
open PySem PySem.Spec PyProof.Rows L2
section
variable {prog:Program}{w:World}{A:Around}{E:Value→Shared→Prop}{s:Shared}
theorem tuple_full {t sl:Addr}{items:Array Value}{vl vu:Value}{lo hi:Option Int}{Q:Value→Shared→Prop}(ht:IsTup s.heap t items)(hs:s.heap.IsSliceOf sl vl vu .none)(pl:IsPart vl lo)(pu:IsPart vu hi)
  (hw:HT.sIx items.size 0 lo=0∧HT.sIx items.size items.size hi=items.size) (h:Q (.ref t) s):wpAny (model prog w) A (getItem (.ref t) (.ref sl)) Q E s:=by
 obtain ⟨os,hos,hcs,hds⟩:=id hs
 have hTs:s.TypeIs (.ref sl) "slice":=⟨os,hos,hcs⟩
 unfold getItem
 try with_reducible refine wpAny_holding ?_
 first | refine wpAny_bind (wpAny_pure ?_) | skip
 refine wpAny_bind (wpAny_sequenceKey ht.typeIs (by decide) ?_)
 refine wpAny_bind (wpAny_callSpecial?_slot (name:=Str.ofString "__getitem__") ht.typeIs PyProof.Rows.slot_tuple_getitem
  (wpAny_call_entry PyProof.Rows.slot_tuple_getitem ht.typeIs entry_tuple_getitem ?_ (args_tuple_getitem _ _)))
 show wpAny _ _ (Builtin.Tuple.tupleItemsOf (.ref t) >>=_) _ _ s
 refine wpAny_bind (tupleItemsOf_ ht ?_)
 refine wpAny_bind (wpAny_typeOf hTs ?_)
 rw [if_pos (by decide)]
 refine wpAny_bind (HT.sliceApplied_gen hs pl pu ?_)
 show wpAny _ _ (if (((HT.sIx items.size 0 lo:Nat):Int) == 0 && (1:Int) == 1 && (HT.sIx items.size items.size hi - HT.sIx items.size 0 lo) == items.size)=true then _ else _) _ _ s
 rw [if_pos (by rw [hw.1,hw.2];simp)]
 unfold Builtin.Tuple.tupleIsExact
 refine wpAny_bind (wpAny_bind (wpAny_typeOf ht.typeIs (wpAny_pure ?_)))
 rw [if_pos (by decide)]
 first
  | exact wpAny_bind (wpAny_rule (wpAny_pure ⟨_,rfl,wpAny_pure h⟩))
  | exact wpAny_bind (wpAny_rule (wpAny_bind (wpAny_pure (wpAny_pure ⟨_,rfl,wpAny_pure h⟩))))
end
section
variable {X:Cx}{a e:Expr}{pos:Pos}{f:FE}
noncomputable def rSlF (K:PySem.W.Frag):V→Option Int→Option Int→Hp→VK→Prop:=fun x lo hi H Q=>∃a xs,x= .ref a∧SqT K H a xs∧(HT.sIx xs.length 0 lo=0∧HT.sIx xs.length xs.length hi=xs.length)∧Q (.ref a) H
theorem sl_full:SlR X (rSlF X.K):=by
 intro pins s σ H x v vl vu lo hi sl Q I rx hs pl pu h
 obtain ⟨a,xs,rfl,hx,hw,q⟩:=h
 cases rx
 obtain ⟨its,r,ht,hz⟩:=I.tuple hx
 have hlen:its.toArray.size=xs.length:=by rw [List.size_toArray];exact r.length.symm
 refine ⟨"tuple",_,PyProof.Rows.slot_tuple_getitem.lookup,ht.typeIs,?_⟩
 exact tuple_full ht hs pl pu (by rw [hlen];exact hw) ⟨.ref a,H,I,rfl,q⟩
noncomputable def slT (x:D) (lo hi:Option Int):Option D:=match x with
 | .tup xs=>some (.tup (cutD xs lo hi))
 | x=>(items x).map fun xs=>.own (cutD xs lo hi)
noncomputable def fSlT (f:FE) (lo hi:FO):FE:=fun ρ=>(f ρ).bind fun x=>(lo ρ).bind fun l=>(hi ρ).bind fun u=>slT x l u
theorem qx_sliceT {lo hi:Option Expr}{fl fu:FO}{p2:Pos}(ha:QX X a f)(hl:QO X lo fl)(hu:QO X hi fu):QX X (.Subscript a (.Slice lo hi none p2) pos) (fSlT f fl fu):=⟨PE.weak (pe_slice ((sl_list.or sl_tup).or sl_full) ha.to hl.to hu.to) fun σ H Q ⟨ρ,d,rv,e,q⟩=>by
 unfold fSlT at e
 cases e1:f ρ with
 | none=>rw [e1] at e;cases e
 | some x=>
  cases e2:fl ρ with
  | none=>rw [e1,e2] at e;cases e
  | some l=>
   cases e3:fu ρ with
   | none=>rw [e1,e2,e3] at e;cases e
   | some u=>
    rw [e1,e2,e3] at e
    simp only [Option.bind_some] at e
    refine ⟨ρ,x,rv,e1,fun v H1 s1 d1=>⟨ρ,l,rv.same s1,e2,fun H2 s2=>⟨ρ,u,(rv.same s1).same s2,e3,fun H3 s3=>?_⟩⟩⟩
    have dx:=den_same s3 (den_same s2 d1.den)
    have s:Same H H3:=(s1.trans s2).trans s3
    have fin:∀xs vs a,DenL X.K Emp H3 xs vs→d= .own (cutD xs l u)→v= .ref a→SqL X.K H3 a vs→rSlL X.K v l u H3 Q:=fun xs vs a la ed ev hq=>
     ⟨a,vs,ev,hq,fun p hp=>q _ _ (s.trans (same_upd hp _)) (by rw [ed];exact (denF_new hp (cutD_den l u la)).elder s)⟩
    cases x with
    | tup xs=>
     simp only [slT] at e
     cases e
     have dx2:=dx
     rw [Den] at dx
     obtain ⟨a,vs,ev,hq,la⟩:=dx
     by_cases hn:HT.sIx xs.length 0 l=0∧HT.sIx xs.length xs.length u=xs.length
     ·refine .inr ⟨a,vs,ev,hq,by rw [←denL_length la];exact hn,q _ _ s ?_⟩
      have ec:cutD xs l u=xs:=by
       unfold cutD
       rw [hn.1,hn.2,List.drop_zero,Nat.sub_zero,List.take_length]
      rw [ec,←ev]
      exact dx2
     ·exact .inl (.inr ⟨a,vs,ev,hq,by rw [←denL_length la];exact hn,fun p hp=>q _ _ (s.trans (same_upd hp _)) (denF_tup hp (cutD_den l u la))⟩)
    | lst xs=>
     simp only [slT,items,Option.map_some] at e
     cases e
     rw [Den] at dx
     obtain ⟨a,vs,ev,hq,_,la⟩:=dx
     exact .inl (.inl (fin xs vs a la rfl ev (.inl (.inl hq))))
    | own xs=>
     simp only [slT,items,Option.map_some] at e
     cases e
     rw [Den] at dx
     obtain ⟨a,vs,ev,hq,_,la⟩:=dx
     exact .inl (.inl (fin xs vs a la rfl ev (.inl (.inl hq))))
    | scr xs=>
     simp only [slT,items,Option.map_some] at e
     cases e
     rw [Den] at dx
     obtain ⟨a,vs,ev,hq,la⟩:=dx
     refine .inl (.inl (fin xs vs a la rfl ev ?_))
     rcases hq with ⟨o,hq⟩ | hq
     ·exact .inl (.inr ⟨o,hq⟩)
     ·rcases hq with (hq | ⟨o,hq⟩) | hq
      ·cases hq
      ·cases hq
      ·exact .inr hq
    | _=>simp only [slT,items,Option.map_none] at e;cases e⟩
noncomputable def fRev (f:FE):FE:=fun ρ=>(f ρ).bind fun x=>match x with
 | .tup xs=>some (.tup xs.reverse)
 | _=>none
end
end Tw
set_option Elab.async false
set_option linter.all false
set_option maxRecDepth 100000
set_option maxHeartbeats 1000000
namespace Tw
open PySem PySem.W PyProof.Rows
noncomputable def TWp {α:Type} (n:Nat) (lt:Nat→Nat→Bool):KasT α→(α→Prop)→Prop
 | .ret a,Q=>Q a
 | .ask i j k,Q=>i < n∧j < n∧TWp n lt (k (lt i j)) Q
theorem twp_bind {α β:Type}{n:Nat}{lt:Nat→Nat→Bool}{g:α→KasT β}{Q:β→Prop}:∀(t:KasT α),TWp n lt t (fun a=>TWp n lt (g a) Q)→TWp n lt (t.bind g) Q
 | .ret _,h=>h
 | .ask i j k,⟨h1,h2,h⟩=>⟨h1,h2,twp_bind (k (lt i j)) h⟩
theorem twp_kas {α:Type}{n:Nat}{lt:Nat→Nat→Bool}{cmp:Nat→Nat→(Bool→Shared→Prop)→Shared→Prop}{s:Shared}{Q:α→Shared→Prop}
  (hc:∀i j (C:Bool→Shared→Prop),i < n→j < n→C (lt i j) s→cmp i j C s):∀(t:KasT α),TWp n lt t (fun a=>Q a s)→t.kasWp cmp Q s
 | .ret a,h=>h
 | .ask i j k,⟨h1,h2,h⟩=>hc i j _ h1 h2 (twp_kas hc (k (lt i j)) h)
section
variable {O:KeyOrd}{f:Nat→O.α}{n:Nat}
noncomputable def Ky (f:Nat→O.α) (p:Array Nat) (i:Nat):O.α:=f (p.getD i 0)
noncomputable def SoTo (f:Nat→O.α) (p:Array Nat) (k:Nat):Prop:=∀i j,i≤j→j < k→O.kle (Ky f p i) (Ky f p j)
noncomputable def NoIn (f:Nat→O.α) (p:Array Nat) (k:Nat):Prop:=∀i j,i≤j→j < k→O.kle (Ky f p j) (Ky f p i)
structure PB (n:Nat) (p:Array Nat):Prop where
 perm:p.Perm (List.toArray (List.range n))
 pos:0 < n
theorem PB.size {p:Array Nat}(h:PB n p):p.size=n:=by rw [h.perm.size_eq];simp
theorem PB.lt {p:Array Nat}(h:PB n p)(i:Nat):p.getD i 0 < n:=by
 by_cases q:i < p.size
 ·have e:p.getD i 0=p[i]:=by simp [Array.getD,q]
  rw [e]
  have m:p[i]∈p.toList:=by simp
  have:=(Array.perm_iff_toList_perm.mp h.perm).mem_iff.mp m
  simpa using this
 ·have e:p.getD i 0=0:=by simp [Array.getD,q]
  rw [e];exact h.pos
theorem Ky_congr {p q:Array Nat}{i j:Nat}(h:p[i]? =q[j]?):Ky f p i=Ky f q j:=by
 unfold Ky
 congr 1
 rw [Array.getD_eq_getD_getElem?,Array.getD_eq_getD_getElem?,h]
theorem Ky_bubble {xs:Array Nat}{src d:Nat}(hs:src < xs.size)(hd:d≤src)(k:Nat):
  Ky f (bubble xs src d) k=if k=src - d then Ky f xs src else if src - d < k∧k≤src then Ky f xs (k - 1) else Ky f xs k:=by
 have e:=getElem?_bubble hs d hd k
 by_cases h1:k=src - d
 ·rw [if_pos h1] at e ⊢;exact Ky_congr e
 ·rw [if_neg h1] at e ⊢
  by_cases h2:src - d < k∧k≤src
  ·rw [if_pos h2] at e ⊢;exact Ky_congr e
  ·rw [if_neg h2] at e ⊢;exact Ky_congr e
theorem Ky_mirror {xs:Array Nat}{i j:Nat}(hj:j≤xs.size)(k:Nat):
  Ky f (kas_rev xs i j) k=if i≤k∧k < j then Ky f xs (i + j - 1 - k) else Ky f xs k:=by
 have e:=getElem?_mirror_all (i:=i) hj k
 unfold kas_rev
 by_cases h1:i≤k∧k < j
 ·rw [if_pos h1] at e ⊢;exact Ky_congr e
 ·rw [if_neg h1] at e ⊢;exact Ky_congr e
theorem Ky_mirror_equal {xs:Array Nat}{i j:Nat}(hj:j≤xs.size)(heq:∀k,i≤k→k < j→Ky f xs k=Ky f xs (j - 1))(k:Nat):Ky f (kas_rev xs i j) k=Ky f xs k:=by
 rw [Ky_mirror hj]
 split
 ·rw [heq _ (by omega) (by omega),heq k (by omega) (by omega)]
 ·rfl
theorem PB.rev {p:Array Nat}(h:PB n p)(i j:Nat):PB n (kas_rev p i j):=⟨(mirror_perm _ _ _ _).trans h.perm,h.pos⟩
theorem PB.bub {p:Array Nat}(h:PB n p)(i j:Nat):PB n (bubble p i j):=⟨(bubble_perm _ _ _).trans h.perm,h.pos⟩
noncomputable abbrev ltK (f:Nat→O.α):Nat→Nat→Bool:=fun i j=>O.blt (f i) (f j)
theorem twp_asc {p:Array Nat}(hB:PB n p){Q:Nat→Prop}:∀(c a:Nat),1≤a→SoTo f p a→(∀m,a≤m→m≤a + c→SoTo f p m→(m=a + c∨O.klt (Ky f p m) (Ky f p (m - 1)))→Q m)→TWp n (ltK f) (kas_asc p c a) Q
 | 0,a,_,hs,h=>h a (Nat.le_refl _) (Nat.le_refl _) hs (.inl rfl)
 | c + 1,a,h1,hs,h=>by
  refine ⟨hB.lt _,hB.lt _,?_⟩
  cases hless:O.blt (Ky f p a) (Ky f p (a - 1))
  case true=>
   rw [show ltK f (p.getD a 0) (p.getD (a - 1) 0)=true from hless];dsimp only;rw [if_pos rfl]
   exact h a (Nat.le_refl _) (by (first|lia|omega)) hs (.inr hless)
  case false=>
   rw [show ltK f (p.getD a 0) (p.getD (a - 1) 0)=false from hless];dsimp only;rw [if_neg (by simp)]
   refine twp_asc hB c (a + 1) (by (first|lia|omega)) (fun i j hij hj=>?_) fun m x1 x2 x3 x4=>h m (by (first|lia|omega)) (by (first|lia|omega)) x3 (x4.imp (fun q=>by (first|lia|omega)) id)
   by_cases hjx:j < a
   ·exact hs i j hij hjx
   ·have hj':j=a:=by (first|lia|omega)
    subst hj'
    by_cases hi':i=j
    ·subst hi';exact KeyOrd.kle_refl _
    ·exact KeyOrd.kle_trans (hs i (j - 1) (by (first|lia|omega)) (by (first|lia|omega))) hless
theorem twp_tail3 {p:Array Nat}(hB:PB n p){Q:Nat×Array Nat→Prop}{a m:Nat}(h1:1≤a)(ha:a≤m)(hm:m≤n)(hs:NoIn f p a)(h:∀k q,PB n q→1≤k→k≤m→SoTo f q k→Q (k,q)):TWp n (ltK f) (kas_tail3 a m p) Q:=by
 have hsz:a≤p.size:=by rw [hB.size];(first|lia|omega)
 refine twp_bind _ (twp_asc (hB.rev 0 a) (m - a) a h1 (fun i j hij hj=>?_) fun k x1 x2 x3 _=>h k _ (hB.rev 0 a) (by (first|lia|omega)) (by (first|lia|omega)) x3)
 rw [Ky_mirror hsz,Ky_mirror hsz,if_pos (by (first|lia|omega)),if_pos (by (first|lia|omega))]
 exact hs _ _ (by (first|lia|omega)) (by (first|lia|omega))
theorem twp_desc {Q:Array Nat×Nat×Nat→Prop}{m:Nat}(hm:m≤n):∀(c:Nat) (p:Array Nat) (a q:Nat),a + c=m→PB n p→1≤a→NoIn f p a→q + 1≤a→(∀i,a - (q + 1)≤i→i < a→Ky f p i=Ky f p (a - 1))→
  (∀k r p',PB n p'→a≤k→k≤m→NoIn f p' k→r + 1≤k→(∀i,k - (r + 1)≤i→i < k→Ky f p' i=Ky f p' (k - 1))→Q (p',k,r))→TWp n (ltK f) (kas_desc c p a q) Q
 | 0,p,a,q,hc,hB,h1,hs,hq,he,h=>h a q p hB (Nat.le_refl _) (by (first|lia|omega)) hs hq he
 | c + 1,p,a,q,hc,hB,h1,hs,hq,he,h=>by
  have hsz:a≤p.size:=by rw [hB.size];(first|lia|omega)
  refine ⟨hB.lt _,hB.lt _,?_⟩
  cases hless:O.blt (Ky f p a) (Ky f p (a - 1))
  case true=>
   rw [show ltK f (p.getD a 0) (p.getD (a - 1) 0)=true from hless];dsimp only;rw [if_pos rfl]
   have step1:∀xs:Array Nat,(∀k,Ky f xs k=Ky f p k)→NoIn f xs (a + 1):=by
    intro xs hk i j hij hj
    rw [hk,hk]
    by_cases hjx:j < a
    ·exact hs i j hij hjx
    ·have hj':j=a:=by (first|lia|omega)
     subst hj'
     by_cases hi':i=j
     ·subst hi';exact KeyOrd.kle_refl _
     ·exact KeyOrd.kle_trans (KeyOrd.kle_of_klt hless) (hs i (j - 1) (by (first|lia|omega)) (by (first|lia|omega)))
   by_cases hneq:q > 0
   ·rw [if_pos hneq]
    exact twp_desc hm c _ (a + 1) 0 (by (first|lia|omega)) (hB.rev _ _) (by (first|lia|omega)) (step1 _ (Ky_mirror_equal hsz he)) (by (first|lia|omega)) (fun i h1 h2=>by congr 1;(first|lia|omega)) fun k r p' x1 x2=>h k r p' x1 (by (first|lia|omega))
   ·rw [if_neg hneq]
    exact twp_desc hm c _ (a + 1) 0 (by (first|lia|omega)) hB (by (first|lia|omega)) (step1 _ (fun _=>rfl)) (by (first|lia|omega)) (fun i h1 h2=>by congr 1;(first|lia|omega)) fun k r p' x1 x2=>h k r p' x1 (by (first|lia|omega))
  case false=>
   rw [show ltK f (p.getD a 0) (p.getD (a - 1) 0)=false from hless];dsimp only;rw [if_neg (by simp)]
   refine ⟨hB.lt _,hB.lt _,?_⟩
   cases hlarger:O.blt (Ky f p (a - 1)) (Ky f p a)
   case true=>
    rw [show ltK f (p.getD (a - 1) 0) (p.getD a 0)=true from hlarger];dsimp only;rw [if_pos rfl]
    exact h a q p hB (Nat.le_refl _) (by (first|lia|omega)) hs hq he
   case false=>
    rw [show ltK f (p.getD (a - 1) 0) (p.getD a 0)=false from hlarger];dsimp only;rw [if_neg (by simp)]
    have heqx:Ky f p a=Ky f p (a - 1):=KeyOrd.kle_antisymm hlarger hless
    refine twp_desc hm c p (a + 1) (q + 1) (by (first|lia|omega)) hB (by (first|lia|omega)) (fun i j hij hj=>?_) (by (first|lia|omega)) (fun i h1 h2=>?_) fun k r p' x1 x2=>h k r p' x1 (by (first|lia|omega))
    ·by_cases hjx:j < a
     ·exact hs i j hij hjx
     ·have hj':j=a:=by (first|lia|omega)
      subst hj'
      by_cases hi':i=j
      ·subst hi';exact KeyOrd.kle_refl _
      ·rw [heqx];exact hs i (j - 1) (by (first|lia|omega)) (by (first|lia|omega))
    ·rw [show a + 1 - 1=a by (first|lia|omega)]
     by_cases hix:i=a
     ·subst hix;rfl
     ·rw [heqx];exact he i (by (first|lia|omega)) (by (first|lia|omega))
theorem twp_descPart {p:Array Nat}(hB:PB n p){Q:Nat×Array Nat→Prop}{a m:Nat}(ha:a + 1≤m)(hm:m≤n)(hs:NoIn f p (a + 1))(h:∀k q,PB n q→1≤k→k≤m→SoTo f q k→Q (k,q)):TWp n (ltK f) (kas_descPart a m p) Q:=by
 refine twp_bind _ (twp_desc hm (m - (a + 1)) p (a + 1) 0 (by (first|lia|omega)) hB (by (first|lia|omega)) hs (by (first|lia|omega)) (fun i h1 h2=>by congr 1;(first|lia|omega)) fun k r p' hB' x2 x3 hs' x5 he=>?_)
 have hsz:k≤p'.size:=by rw [hB'.size];(first|lia|omega)
 dsimp only
 by_cases hneq:r > 0
 ·rw [if_pos hneq]
  refine twp_tail3 (hB'.rev _ _) (by (first|lia|omega)) x3 hm (fun i j hij hj=>?_) h
  rw [Ky_mirror_equal hsz he,Ky_mirror_equal hsz he]
  exact hs' i j hij hj
 ·rw [if_neg hneq]
  exact twp_tail3 hB' (by (first|lia|omega)) x3 hm hs' h
theorem twp_count {p:Array Nat}(hB:PB n p){Q:Nat×Array Nat→Prop}{m:Nat}(h1:1≤m)(hm:m≤n)(h:∀k q,PB n q→1≤k→k≤m→SoTo f q k→Q (k,q)):TWp n (ltK f) (kas_count m p) Q:=by
 refine twp_bind _ (twp_asc hB (m - 1) 1 (Nat.le_refl 1) (fun i j hij hj=>by have:i=j:=(by (first|lia|omega));subst this;exact KeyOrd.kle_refl _) fun a ha1 ha2 hsn hor=>?_)
 by_cases hnn:a=m
 ·rw [if_pos (by simpa using hnn)]
  exact h a p hB ha1 (by (first|lia|omega)) hsn
 ·rw [if_neg (by simpa using hnn)]
  have hlt:O.klt (Ky f p a) (Ky f p (a - 1)):=hor.resolve_left (by (first|lia|omega))
  by_cases hgt:a > 1
  ·rw [if_pos hgt]
   refine ⟨hB.lt _,hB.lt _,?_⟩
   cases hrose:O.blt (Ky f p 0) (Ky f p (a - 1))
   case true=>
    rw [show ltK f (p.getD 0 0) (p.getD (a - 1) 0)=true from hrose];dsimp only;rw [if_pos rfl]
    exact h a p hB ha1 (by (first|lia|omega)) hsn
   case false=>
    rw [show ltK f (p.getD 0 0) (p.getD (a - 1) 0)=false from hrose];dsimp only;rw [if_neg (by simp)]
    have hsz:a≤p.size:=by rw [hB.size];(first|lia|omega)
    have hall:∀k,0≤k→k < a→Ky f p k=Ky f p (a - 1):=by
     intro k _ hk
     have a1:=hsn 0 k (by (first|lia|omega)) hk
     have a2:=hsn k (a - 1) (by (first|lia|omega)) (by (first|lia|omega))
     exact KeyOrd.kle_antisymm a2 (KeyOrd.kle_trans hrose a1)
    refine twp_descPart (hB.rev _ _) (by (first|lia|omega)) hm (fun i j hij hj=>?_) h
    rw [Ky_mirror_equal hsz hall,Ky_mirror_equal hsz hall]
    by_cases hjn:j < a
    ·rw [hall i (by (first|lia|omega)) (by (first|lia|omega)),hall j (by (first|lia|omega)) hjn];exact KeyOrd.kle_refl _
    ·have hj':j=a:=by (first|lia|omega)
     subst hj'
     by_cases hi':i=j
     ·subst hi';exact KeyOrd.kle_refl _
     ·rw [hall i (by (first|lia|omega)) (by (first|lia|omega))];exact KeyOrd.kle_of_klt hlt
  ·rw [if_neg hgt]
   have hn1':a=1:=by (first|lia|omega)
   subst hn1'
   refine twp_descPart hB (by (first|lia|omega)) hm (fun i j hij hj=>?_) h
   by_cases hi':i=j
   ·subst hi';exact KeyOrd.kle_refl _
   ·have hi0:i=0:=by (first|lia|omega)
    have hj1:j=1:=by (first|lia|omega)
    subst hi0;subst hj1
    exact KeyOrd.kle_of_klt hlt
theorem twp_place {p:Array Nat}(hB:PB n p){Q:Nat→Prop}{k:Nat}(hk:k < n)(hs:SoTo f p k)
  (h:∀l,l≤k→(∀i,i < l→O.kle (Ky f p i) (Ky f p k))→(∀i,l≤i→i < k→O.klt (Ky f p k) (Ky f p i))→Q l):
  ∀(c l r:Nat),l≤r→r≤k→r - l≤c→(∀i,i < l→O.kle (Ky f p i) (Ky f p k))→(∀i,r≤i→i < k→O.klt (Ky f p k) (Ky f p i))→TWp n (ltK f) (kas_place p k c l r) Q
 | 0,l,r,hlr,hrk,hc,hlo,hhi=>h l (by omega) hlo (fun i h1 h2=>hhi i (by omega) h2)
 | c + 1,l,r,hlr,hrk,hc,hlo,hhi=>by
  unfold kas_place
  by_cases hge:l≥r
  ·rw [if_pos hge]
   have:l=r:=by omega
   subst this
   exact h l hrk hlo hhi
  ·rw [if_neg hge]
   refine ⟨hB.lt _,hB.lt _,?_⟩
   cases hless:O.blt (Ky f p k) (Ky f p ((l + r) / 2))
   case true=>
    rw [show ltK f (p.getD k 0) (p.getD ((l + r) / 2) 0)=true from hless];dsimp only;rw [if_pos rfl]
    exact twp_place hB hk hs h c l ((l + r) / 2) (by omega) (by omega) (by omega) hlo fun i h1 h2=>KeyOrd.klt_of_klt_of_kle hless (hs _ _ h1 h2)
   case false=>
    rw [show ltK f (p.getD k 0) (p.getD ((l + r) / 2) 0)=false from hless];dsimp only;rw [if_neg (by simp)]
    exact twp_place hB hk hs h c ((l + r) / 2 + 1) r (by omega) (by omega) (by omega) (fun i h1=>KeyOrd.kle_trans (hs i ((l + r) / 2) (by omega) (by omega)) (show O.kle _ _ from hless)) hhi
theorem twp_bin {Q:Array Nat→Prop}(h:∀p,PB n p→SoTo f p n→Q p):∀(c k:Nat) (p:Array Nat),c + k=n→PB n p→SoTo f p k→TWp n (ltK f) (kas_bin c p k) Q
 | 0,k,p,hc,hB,hs=>h p hB (by rw [←hc];rw [Nat.zero_add];exact hs)
 | c + 1,k,p,hc,hB,hs=>by
  refine twp_bind _ (twp_place hB (by (first|lia|omega)) hs (fun l hlk hlo hhi=>?_) k 0 k (by (first|lia|omega)) (by (first|lia|omega)) (by (first|lia|omega)) (fun i hi=>by (first|lia|omega)) fun i h1 h2=>by (first|lia|omega))
  refine twp_bin h c (k + 1) _ (by (first|lia|omega)) (hB.bub _ _) fun i j hij hj=>?_
  have hks:k < p.size:=by rw [hB.size];(first|lia|omega)
  rw [Ky_bubble hks (by (first|lia|omega)),Ky_bubble hks (by (first|lia|omega)),show k - (k - l)=l by (first|lia|omega)]
  repeat' split
  all_goals first
   | (exfalso;(first|lia|omega))
   | exact KeyOrd.kle_refl _
   | exact hlo _ (by (first|lia|omega))
   | exact KeyOrd.kle_of_klt (hhi _ (by (first|lia|omega)) (by (first|lia|omega)))
   | exact hs _ _ (by (first|lia|omega)) (by (first|lia|omega))
theorem twp_sort {Q:Array Nat→Prop}(hn:1≤n)(h:∀p,PB n p→SoTo f p n→Q p):TWp n (ltK f) (kas_sort n) Q:=by
 refine twp_bind _ (twp_count ⟨Array.Perm.refl _,hn⟩ hn (Nat.le_refl _) fun k q hB x1 x2 hs=>?_)
 dsimp only
 split
 ·rw [show max k 1=k by (first|lia|omega)]
  exact twp_bin h (n - k) k q (by (first|lia|omega)) hB hs
 ·exact h q hB (by rw [show n=k by (first|lia|omega)];exact hs)
end
end Tw
set_option Elab.async false
set_option linter.all false
set_option maxRecDepth 100000
set_option maxHeartbeats 1000000
namespace Tw
open PySem PySem.Spec PyProof.Rows L2
theorem vals_none {xs:List V}{us:List Value}{i:Nat}(r:Vals xs us)(e:xs[i]? =none):us.toArray[i]? =none:=by
 have:=r.length
 rw [List.getElem?_eq_none_iff] at e
 rw [List.getElem?_toArray,List.getElem?_eq_none_iff]
 (first|lia|omega)
end Tw
set_option Elab.async false
set_option linter.all false
set_option maxRecDepth 100000
set_option maxHeartbeats 1000000
namespace Tw
open PySem PySem.Spec PyProof.Rows L2
noncomputable def zipD (xs ys:List D):List D:=List.zipWith (fun x y=>.tup [x,y]) xs ys
section
variable {X:Cx}{scope:Scope}{cl:List (Str×Addr)}{N:List Str}{js:List (Option Nat)}{elt a b:Expr}{ifs:List Expr}{pos p p2:Pos}{fa:FA}{t:FT}{fe:FE}
end
end Tw
set_option Elab.async false
set_option linter.all false
set_option maxRecDepth 100000
set_option maxHeartbeats 1000000
namespace Tw
open PySem PySem.W PyProof.Rows
noncomputable def DRaw (h:Heap) (d:Addr) (es:Array DictEntry) (ep:Nat):Prop:=∃o,h.get? d=some o∧o.ExactDict∧o.data= .dict es ep
theorem DRaw.typeIs {s:Shared}{d:Addr}{es:Array DictEntry}{ep:Nat}(x:DRaw s.heap d es ep):s.TypeIs (.ref d) "dict":=let ⟨o,e,c,_⟩:=x;⟨o,e,c.1⟩
theorem DRaw.lt {h:Heap}{d:Addr}{es:Array DictEntry}{ep:Nat}(x:DRaw h d es ep):d < h.objs.size:=let ⟨_,e,_⟩:=x;Heap.lt_size e
theorem DRaw.on {h h':Heap}{d:Addr}{es:Array DictEntry}{ep:Nat}(x:DRaw h d es ep)(k:∀o,h.get? d=some o→h'.get? d=some o):DRaw h' d es ep:=let ⟨o,e,r⟩:=x;⟨o,k o e,r⟩
section
variable {prog:Program}{w:World}{A:Around}{E:Value→Shared→Prop}{s:Shared}{it d:Addr}{es:Array DictEntry}{i ep:Nat}
theorem iter_raw {Q:Value→Shared→Prop}(ns:(d == sysModules)=false)(hm:DRaw s.heap d es ep)
  (q:Q (.ref s.heap.objs.size) {s with heap:=s.heap.push {cls:=.type "dict_keyiterator",data:=.fields #[.ref d,.int 0 0,.int es.size 0,.int ep 0]}}):wpAny (model prog w) A (pyIter (.ref d)) Q E s:=by
 obtain ⟨o,g0,gx,gd⟩:=id hm
 have T:=hm.typeIs
 refine wpAny_pyIter_slot T F.slot_dict_iter (wpAny_call_entry F.slot_dict_iter T F.entry_dict_iter ?_ (F.args_dict_iter_1 _))
 unfold Builtin.«dict.__iter__»
 refine wpAny_bind ?_
 unfold Builtin.Dict.dictSlotNone
 refine wpAny_bind (wpAny_notOrdered_dict T (wpAny_pure ?_))
 show wpAny _ _ (Builtin.Dict.showsAll d >>=_) _ _ s
 unfold Builtin.Dict.showsAll
 rw [if_neg (by rw [ns];simp)]
 refine wpAny_bind (wpAny_pure (wpAny_bind (wpAny_dictEntries g0 gd (wpAny_bind (wpAny_dictEpoch g0 gd ?_)))))
 refine wpAny_bind (wpAny_newObj_type (wpAny_pure ⟨_,rfl,"dict_keyiterator",_,⟨_,Heap.get?_push_size _ rfl,rfl⟩,F.slot_dict_keyiterator_next.lookup,?_⟩))
 simpa [rawInt] using q
theorem next_raw {Q:Option Value→Shared→Prop}{e:DictEntry}(hit:s.heap.IsKeyIter it d i es.size ep)(hm:DRaw s.heap d es ep)(he:es[i]? =some e)
  (q:∀h',h'.IsKeyIter it d (i + 1) es.size ep→Heap.SameBut it s.heap h'→Q (some e.key) {s with heap:=h'}):wpAny (model prog w) A (pyNext (.ref it)) Q E s:=by
 obtain ⟨o,t0,tc,td⟩:=id hit
 obtain ⟨od,g0,gx,gd⟩:=id hm
 unfold pyNext
 refine wpAny_bind (wpAny_attempt (wpAny_callSpecial?_slot (name:=Str.ofString "__next__") hit.typeIs F.slot_dict_keyiterator_next (wpAny_call_entry F.slot_dict_keyiterator_next hit.typeIs F.entry_dict_keyiterator_next ?_ (F.args_dict_keyiterator_next_1 _))))
 refine wpAny_bind (wpAny_pure (wpAny_bind (wpAny_bind ?_)))
 first | refine wpAny_bind (wpAny_typeNameOfWhole_keyiter hit.typeIs (wpAny_pure (wpAny_bind (wpAny_fieldsOf t0 td ?_)))) | refine wpAny_bind (wpAny_typeNameOf_keyiter hit.typeIs (wpAny_pure (wpAny_bind (wpAny_fieldsOf t0 td ?_))))
 have own:Builtin.Dict_items.ownsTuple "dict_keyiterator"=false:=by decide
 simp only [own,Bool.false_eq_true,if_false]
 show wpAny _ _ (if (Value.ref d == Value.none)=true then _ else _) _ _ s
 rw [if_neg (show ¬((Value.ref d == Value.none)=true) from Bool.false_ne_true)]
 refine wpAny_bind (wpAny_pure (wpAny_bind (wpAny_dictEntries g0 gd ?_)))
 rw [if_neg (by simp)]
 refine wpAny_bind (wpAny_pure (wpAny_bind (wpAny_dictEpoch g0 gd ?_)))
 rw [if_neg (by simp)]
 refine wpAny_pure ?_
 have lt:i < es.size:=by
  rcases Nat.lt_or_ge i es.size with z | z
  ·exact z
  ·rw [Array.getElem?_eq_none z] at he;cases he
 simp only [show ¬((i:Int) < 0) from by (first|lia|omega),if_false,Int.toNat_natCast,he]
 refine wpAny_bind ?_
 first | refine wpAny_bind (wpAny_typeNameOfWhole_keyiter hit.typeIs (wpAny_pure (wpAny_bind (wpAny_isOneOf_keyiter hit.typeIs ?_)))) | refine wpAny_bind (wpAny_typeNameOf_keyiter hit.typeIs (wpAny_pure (wpAny_bind (wpAny_isOneOf_keyiter hit.typeIs ?_))))
 show wpAny _ _ (setField (.ref it) 1 (rawInt ((i:Int) + 1)) >>=_) _ _ s
 refine wpAny_bind (wpAny_setField t0 td (by simp) ?_)
 have up:(s.heap.update it (Obj.mapFields (·.setIfInBounds 1 (rawInt ((i:Int) + 1))))).IsKeyIter it d (i + 1) es.size ep:=⟨_,Heap.get?_update_self _ t0 (Obj.isFreed_of_fields (Obj.data_mapFields td _)),(Obj.cls_mapFields ..).trans tc,by rw [Obj.data_mapFields td];simp [rawInt]⟩
 refine wpAny_bind (wpAny_holding (wpAny_bind (wpAny_isOneOf_keyiter (s:={s with heap:=s.heap.update it (Obj.mapFields (·.setIfInBounds 1 (rawInt ((i:Int) + 1))))}) up.typeIs ?_)))
 show wpAny _ _ (pure e.key) _ _ _
 exact wpAny_pure (wpAny_pure ⟨_,rfl,wpAny_pure (q _ up (Heap.SameBut.update ..))⟩)
theorem end_raw {Q:Option Value→Shared→Prop}(hh:A.handled=none)(hit:s.heap.IsKeyIter it d i es.size ep)(hm:DRaw s.heap d es ep)(he:es[i]? =none)
  (q:∀h',Heap.ExtBut it s.heap h'→Q none {s with heap:=h'}):wpAny (model prog w) A (pyNext (.ref it)) Q E s:=by
 obtain ⟨o,t0,tc,td⟩:=id hit
 obtain ⟨od,g0,gx,gd⟩:=id hm
 unfold pyNext
 refine wpAny_bind (wpAny_attempt (wpAny_callSpecial?_slot (name:=Str.ofString "__next__") hit.typeIs F.slot_dict_keyiterator_next (wpAny_call_entry F.slot_dict_keyiterator_next hit.typeIs F.entry_dict_keyiterator_next ?_ (F.args_dict_keyiterator_next_1 _))))
 refine wpAny_bind (wpAny_pure (wpAny_bind (wpAny_bind ?_)))
 first | refine wpAny_bind (wpAny_typeNameOfWhole_keyiter hit.typeIs (wpAny_pure (wpAny_bind (wpAny_fieldsOf t0 td ?_)))) | refine wpAny_bind (wpAny_typeNameOf_keyiter hit.typeIs (wpAny_pure (wpAny_bind (wpAny_fieldsOf t0 td ?_))))
 have own:Builtin.Dict_items.ownsTuple "dict_keyiterator"=false:=by decide
 simp only [own,Bool.false_eq_true,if_false]
 show wpAny _ _ (if (Value.ref d == Value.none)=true then _ else _) _ _ s
 rw [if_neg (show ¬((Value.ref d == Value.none)=true) from Bool.false_ne_true)]
 refine wpAny_bind (wpAny_pure (wpAny_bind (wpAny_dictEntries g0 gd ?_)))
 rw [if_neg (by simp)]
 refine wpAny_bind (wpAny_pure (wpAny_bind (wpAny_dictEpoch g0 gd ?_)))
 rw [if_neg (by simp)]
 refine wpAny_pure ?_
 simp only [show ¬((i:Int) < 0) from by (first|lia|omega),if_false,Int.toNat_natCast,he]
 refine wpAny_bind ?_
 first | refine wpAny_bind (wpAny_typeNameOfWhole_keyiter hit.typeIs (wpAny_pure ?_)) | refine wpAny_bind (wpAny_typeNameOf_keyiter hit.typeIs (wpAny_pure ?_))
 show wpAny _ _ (setField (.ref it) 0 .none >>=_) _ _ s
 refine wpAny_bind (wpAny_setField t0 td (by simp) ?_)
 show wpAny _ _ (newExc (.type "StopIteration") [] >>=_) _ _ _
 refine wpAny_bind ?_
 simp only [newExc,newTuple]
 refine wpAny_bind (wpAny_newObj_type ?_ (by size_fits))
 refine wpAny_bind (m:=firstArgMember _ _) (wpAny_of_eq (a:=Value.none) (by first | rfl | (simp only [firstArgMember];rfl)) (wpAny_newObj_type ?_ (by size_fits)))
 simp only [raiseNew]
 refine wpAny_bind (wpAny_handled ?_)
 rw [show A.in1.handled=none from hh]
 refine wpAny_bind (wpAny_pure (wpAny_throw ?_))
 refine wpAny_bind (wpAny_isInstance (b:=true) (T:="StopIteration") ⟨_,Heap.get?_push_size _ rfl,rfl⟩ isSubtype_stop ?_)
 exact wpAny_pure (q _ (((Heap.SameBut.update ..).extBut.push _).push _))
theorem walks_raw (hh:A.handled=none)(I d:Addr)(hne:d≠I)(es:Array DictEntry)(ep:Nat):
  Walks prog w A I [I,d] [I] es.size (fun i v=>∃e,es[i]? =some e∧v=e.key) (fun i h=>h.IsKeyIter I d i es.size ep∧DRaw h d es ep) where
 sub:=fun b hb=>by simp at hb;simp [hb]
 frame:=fun _ _ _ st hk=>⟨st.1.at fun o e=>hk I (by simp) o e,st.2.on fun o e=>hk d (by simp) o e⟩
 item:=fun i s Q E hi st hQ=>next_raw st.1 st.2 (e:=es[i]) (by simp [hi]) fun h' h1 h2=>hQ _ h' s.toks ⟨_,by simp [hi],rfl⟩ ⟨h1,st.2.on fun o e=>(h2.2 d hne).trans e⟩ fun b o hb e=>(h2.2 b (fun z=>hb (by simp [z]))).trans e
 done:=fun s Q E st hQ=>end_raw hh st.1 st.2 (by simp) fun h' x=>hQ h' s.toks fun b o hb e=>x b o (fun z=>hb (by simp [z])) e
 self:=fun _ _ _ _ st hQ=>wpAny_pyIter_keyiter st.1 hQ
theorem src_raw (ns:(d == sysModules)=false):KdlSrc prog w "dict" d d es.size (fun i v=>∃e,es[i]? =some e∧v=e.key) (fun h=>DRaw h d es ep) where
 type:=fun _ x=>x.typeIs
 there:=fun _ x=>⟨x.lt,x.lt⟩
 keep:=fun _ _ x hk=>x.on fun o e=>hk d (.inl rfl) o e
 notList:=by decide
 notTuple:=by decide
 hint:=fun _ _ _ _ x q=>kdl_hint_dict x.typeIs q
 iter:=fun _ _ hh x=>⟨_,_,(fun _ _ q=>iter_raw ns x q),walks_raw hh _ d (Nat.ne_of_lt x.lt) es ep,⟨⟨_,Heap.get?_push_size _ rfl,rfl,rfl⟩,x.on fun o e=>Heap.get?_push_of_some _ e⟩⟩
end
end Tw
set_option Elab.async false
set_option linter.all false
set_option maxRecDepth 100000
set_option maxHeartbeats 1000000
namespace Tw
open PySem PySem.W PyProof.Rows
theorem lex_irr:∀a:List Int,HT.lexLt a a=false
 | []=>rfl
 | x :: a=>by rw [HT.lexLt_cons,if_pos rfl];exact lex_irr a
theorem lex_trans:∀a b c:List Int,HT.lexLt a b=true→HT.lexLt b c=true→HT.lexLt a c=true
 | [],[],_,h,_=>by cases h
 | [],_ :: _,[],_,h=>by cases h
 | [],_ :: _,_ :: _,_,_=>rfl
 | _ :: _,[],_,h,_=>by cases h
 | _ :: _,_ :: _,[],_,h=>by cases h
 | x :: a,y :: b,z :: c,h,h'=>by
  rw [HT.lexLt_cons] at h h' ⊢
  by_cases e1:x=y
  ·by_cases e2:y=z
   ·rw [if_pos e1] at h;rw [if_pos e2] at h';rw [if_pos (e1.trans e2)];exact lex_trans a b c h h'
   ·rw [if_neg e2] at h';rw [if_neg (fun q=>e2 (e1.symm.trans q)),e1];exact h'
  ·rw [if_neg e1] at h
   have h1:=of_decide_eq_true h
   by_cases e2:y=z
   ·rw [if_neg (fun q=>e1 (q.trans e2.symm)),←e2];exact h
   ·rw [if_neg e2] at h'
    have h2:=of_decide_eq_true h'
    rw [if_neg (by omega)]
    exact decide_eq_true (by omega)
theorem lex_neg:∀a b c:List Int,HT.lexLt a c=true→HT.lexLt a b=true∨HT.lexLt b c=true
 | [],[],_,h=>.inr h
 | [],_ :: _,_,_=>.inl rfl
 | _ :: _,_,[],h=>by cases h
 | _ :: _,[],_ :: _,_=>.inr rfl
 | x :: a,y :: b,z :: c,h=>by
  rw [HT.lexLt_cons] at h ⊢
  rw [HT.lexLt_cons]
  by_cases e1:x=y
  ·by_cases e2:y=z
   ·rw [if_pos (e1.trans e2)] at h;rw [if_pos e1,if_pos e2];exact lex_neg a b c h
   ·rw [if_neg (fun q=>e2 (e1.symm.trans q))] at h;rw [if_neg e2,←e1];exact .inr h
  ·rw [if_neg e1]
   by_cases e2:x=z
   ·have e3:¬y=z:=fun q=>e1 (e2.trans q.symm)
    rw [if_neg e3]
    rcases Int.lt_or_gt_of_ne e1 with q | q
    ·exact .inl (decide_eq_true q)
    ·exact .inr (decide_eq_true (by omega))
   ·rw [if_neg e2] at h
    have h1:=of_decide_eq_true h
    rcases Int.lt_or_gt_of_ne e1 with q | q
    ·exact .inl (decide_eq_true q)
    ·rw [if_neg (show ¬y=z by omega)];exact .inr (decide_eq_true (by omega))
theorem lex_tot:∀a b:List Int,HT.lexLt a b=false→HT.lexLt b a=false→a=b
 | [],[],_,_=>rfl
 | [],_ :: _,h,_=>by cases h
 | _ :: _,[],_,h=>by cases h
 | x :: a,y :: b,h,h'=>by
  rw [HT.lexLt_cons] at h h'
  by_cases e:x=y
  ·rw [if_pos e] at h;rw [if_pos e.symm] at h';rw [e,lex_tot a b h h']
  ·rw [if_neg e] at h;rw [if_neg (fun q=>e q.symm)] at h'
   have h1:=of_decide_eq_false h
   have h2:=of_decide_eq_false h'
   (first|lia|omega)
noncomputable def lexO:KeyOrd:=⟨List Int,HT.lexLt,lex_irr,lex_trans,lex_neg,lex_tot⟩
inductive Tups (h:Heap):List Value→List (List Int)→Prop where
 | nil:Tups h [] []
 | cons {a:Addr} {its:Array Value} {k:List Int} {vs:List Value} {ks:List (List Int)} (t:IsTup h a its) (i:IntsAre its.toList k) (ne:k≠[]) (r:Tups h vs ks):Tups h (.ref a :: vs) (k :: ks)
theorem Tups.len {h:Heap}{vs:List Value}{ks:List (List Int)}(t:Tups h vs ks):vs.length=ks.length:=by
 induction t with
 | nil=>rfl
 | cons _ _ _ _ ih=>simp [ih]
theorem Tups.on {h h':Heap}{vs:List Value}{ks:List (List Int)}(t:Tups h vs ks)(k:∀a o,(.ref a)∈vs→h.get? a=some o→h'.get? a=some o):Tups h' vs ks:=by
 induction t with
 | nil=>exact .nil
 | cons x i ne r ih=>
  obtain ⟨o,e,c⟩:=x
  exact .cons ⟨o,k _ o List.mem_cons_self e,c⟩ i ne (ih fun a o m e=>k a o (List.mem_cons_of_mem _ m) e)
theorem Tups.at {h:Heap}{vs:List Value}{ks:List (List Int)}(t:Tups h vs ks):∀{i:Nat},i < vs.length→∃a its,vs.getD i .none= .ref a∧IsTup h a its∧IntsAre its.toList (ks.getD i [])∧ks.getD i []≠[]:=by
 induction t with
 | nil=>intro i hi;simp at hi
 | cons x i ne r ih=>
  intro j hj
  cases j with
  | zero=>exact ⟨_,_,rfl,x,i,ne⟩
  | succ j=>exact ih (i:=j) (by simpa using hj)
section
variable {prog:Program}{w:World}{A:Around}{E:Value→Shared→Prop}{s:Shared}{h₀:Heap}{L D:Addr}{m:Str→Option Value}{vs:List Value}{ks:List (List Int)}
theorem lt_lex {fin:Bool}{Q:Bool→Shared→Prop}:∀{us ws:List Value} {ns ms:List Int} {i:Nat},IntsAre us ns→IntsAre ws ms→fin=decide (us.length < ws.length)→
  Q (HT.lexLt ns ms) s→KatLex prog w A true fin Q (us.zip ws) i s
 | [],[],_,_,i,h1,h2,ef,q=>by
  cases h1;cases h2
  rw [List.zip_nil_left]
  exact kat_nil (by rw [ef];exact q)
 | [],_ :: _,_,_,i,h1,h2,ef,q=>by
  cases h1;cases h2
  rw [List.zip_nil_left]
  exact kat_nil (by rw [ef];simpa [HT.lexLt] using q)
 | _ :: _,[],_,_,i,h1,h2,ef,q=>by
  cases h1;cases h2
  rw [List.zip_nil_right]
  exact kat_nil (by rw [ef];simpa [HT.lexLt] using q)
 | _ :: us,_ :: ws,_,_,i,h1,h2,ef,q=>by
  cases h1 with
  | cons a t h1=>
   cases h2 with
   | cons c u h2=>
    rw [List.zip_cons_cons]
    rw [HT.lexLt_cons] at q
    refine kat_cons (SeqAt.EqAt.int_int a t c u prog w _ _ ?_)
    by_cases e:a=c
    ·rw [if_pos e] at q
     rw [show (a == c)=true by simpa using e]
     exact kat_yes (lt_lex h1 h2 (by rw [ef];simp) q)
    ·rw [if_neg e] at q
     rw [show (a == c)=false by simpa using e]
     refine kat_no ?_
     cases hb:(true && i == 0) with
     | true=>exact oneLt_int q
     | false=>exact kat_one _ _ (lt_int q)
theorem katTups {h:Heap}{vs:List Value}{ks:List (List Int)}(t:Tups h vs ks):∃fs,KatTups h vs fs∧fs.length=ks.length∧∀v∈fs,∃(i:Int) (u:Tok),v= .int i u:=by
 induction t with
 | nil=>exact ⟨[],.nil,rfl,fun v hv=>by cases hv⟩
 | @cons a its k vs ks x i ne r ih=>
  obtain ⟨fs,h1,h2,h3⟩:=ih
  obtain ⟨o,e,c,n,d⟩:=x
  obtain ⟨its⟩:=its
  cases i with
  | nil=>exact absurd rfl ne
  | cons n0 t0 r'=>exact ⟨_,.cons e c d (by rfl) h1,by simp [h2],fun v hv=>(List.mem_cons.mp hv).elim (fun z=>⟨_,_,z⟩) (h3 v)⟩
theorem ask_lex {s:Shared}(T:Tups s.heap vs ks)(i j:Nat)(C:Bool→Shared→Prop)(hi:i < vs.length)(hj:j < vs.length)(q:C (HT.lexLt (ks.getD i []) (ks.getD j [])) s):kas_ask prog w A (tuples' true) vs i j C s:=by
 obtain ⟨a,its,ea,⟨o,h1,h2,n,h3⟩,ia,_⟩:=T.at hi
 obtain ⟨b,its2,eb,⟨o2,g1,g2,n2,g3⟩,ib,_⟩:=T.at hj
 unfold kas_ask
 rw [ea,eb]
 exact kat_lt h1 h3 g1 g3 (lt_lex ia ib (by simp) q)
theorem sort_long {Q:Value→Shared→Prop}(F:Fr h₀ L s.heap m)(hD:s.heap.get? D=some (listOf vs.toArray 0))(hDL:D≠L)(hD0:h₀.get? D=none)(T:Tups s.heap vs ks)(nD:Value.ref D∉vs)(nL:Value.ref L∉vs)(k0:∀b o,h₀.get? b=some o→s.heap.get? b=some o)(h2:2≤vs.length)(h64:vs.length < 64)
  (q:∀(h':Heap) (p:Array Nat) (e:Nat),Fr h₀ L h' m→(∀b o,b≠L→b≠D→s.heap.get? b=some o→h'.get? b=some o)→h'.get? D=some (listOf (p.toList.map fun i=>vs.getD i .none).toArray e)→PB vs.length p→SoTo (O:=lexO) (fun i=>ks.getD i []) p vs.length→Q .none {s with heap:=h'}):
  wpAny (model prog w) A (call (.builtin "list.sort") [.ref D]) Q E s:=by
 have kept:=fun {h':Heap} (F':Fr h₀ L h' m) (N':News h₀ L h' (L2.rest h₀ s.heap L D))=>L2.kept_of_news (d:=D) k0 F' N'
 refine kat_lsort (vs:=vs) F (L2.news_at hDL hD0 hD) (.head L2.rest_ne) (by simp) h2 h64 fun e1 h' F' N'=>?_
 have K':=kept F' fun p hp=>N' p (List.mem_cons_of_mem _ hp)
 have T':Tups h' vs ks:=T.on fun a o ma e=>K' a o (fun z=>nL (z▸ma)) (fun z=>nD (z▸ma)) e
 obtain ⟨fs,f1,f2,f3⟩:=katTups T'
 refine kat_kind (s:={s with heap:=h'}) (T:=.type "int") f1 (by rw [f2,←T.len];(first|lia|omega)) (fun v hv=>by obtain ⟨i,u,rfl⟩:=f3 v hv;exact Looks.of_pure rfl) (by decide) ?_
 have tb:(Value.type "int" != Value.type "tuple")=true:=by decide
 rw [tb]
 refine twp_kas (s:={s with heap:=h'}) (n:=vs.length) (lt:=ltK (O:=lexO) fun i=>ks.getD i []) (fun i j C hi hj c=>ask_lex (s:={s with heap:=h'}) T' i j C hi hj c) _ (twp_sort (by (first|lia|omega)) fun p hp hs=>?_)
 refine KasFin.intro F' N' (.head L2.rest_ne) fun h3 c F3 N3=>?_
 exact q h3 p c F3 (kept F3 fun p hp=>N3 p (List.mem_cons_of_mem _ hp)) (N3 _ List.mem_cons_self).1 hp hs
theorem sort_short {Q:Value→Shared→Prop}(hD:s.heap.get? D=some (listOf vs.toArray 0))(h2:vs.length < 2)
  (q:∀(h':Heap) (e:Nat),(∀b o,b≠D→s.heap.get? b=some o→h'.get? b=some o)→h'.get? D=some (listOf vs.toArray e)→Q .none {s with heap:=h'}):
  wpAny (model prog w) A (call (.builtin "list.sort") [.ref D]) Q E s:=by
 refine wpAny_call_entry slot_list_sort ⟨_,hD,rfl⟩ entry_list_sort ?_ (args_list_sort _)
 rw [list_sort_plain]
 have lt:D < s.heap.objs.size:=Heap.lt_size hD
 refine wpAny_bind (listItems_at hD rfl (wpAny_bind (listUpdate_at hD rfl ?_)))
 obtain ⟨e1,k1⟩:∃e1,(s.heap.update D (Obj.mapSeq fun _=> #[])).get? D=some (seqObj "list" #[] e1):=⟨_,get?_update_seq hD (fun _=> #[])⟩
 refine wpAny_bind (seqEpoch_at k1 rfl (wpAny_bind (wpAny_newTuple (wpAny_bind (wpAny_newList (wpAny_holding ?_))))))
 have k2:(((s.heap.update D (Obj.mapSeq fun _=> #[])).push (seqObj "tuple" vs.toArray 0)).push (seqObj "list" #[] 0)).get? D=some (seqObj "list" #[] e1):=Heap.get?_push_of_some _ (Heap.get?_push_of_some _ k1)
 show wpAny (model prog w) _ _ _ E {s with heap:=((s.heap.update D (Obj.mapSeq fun _=> #[])).push (seqObj "tuple" vs.toArray 0)).push (seqObj "list" #[] 0)}
 dsimp only
 have sz:vs.toArray.size < 2:=by simpa using h2
 rw [if_pos sz,if_pos sz]
 refine wpAny_bind (wpAny_pure ?_)
 rw [StateT.run_pure]
 refine wpAny_bind (wpAny_pure ?_)
 dsimp only
 have out:(arrOf (SortSt.mk' general' (vs.toArray.zip vs.toArray) #[] 7 none)).map (·.2)=vs.toArray:=by
  show (vs.toArray.zip vs.toArray).map (·.2)=vs.toArray
  have e:(vs.toArray.zip vs.toArray)=(vs.zip vs).toArray:=by simp
  rw [e,List.map_toArray]
  congr 1
  exact List.map_snd_zip (Nat.le_refl _)
 rw [out]
 refine wpAny_bind (seqEpoch_at k2 rfl (wpAny_bind (listUpdate_at k2 rfl ?_ (hsz2:=by rw [sizeLine_eq];(first|lia|omega)))))
 simp only [bne_self_eq_false,Bool.false_eq_true,if_false]
 obtain ⟨e2,k3⟩:∃e2,((((s.heap.update D (Obj.mapSeq fun _=> #[])).push (seqObj "tuple" vs.toArray 0)).push (seqObj "list" #[] 0)).update D (Obj.mapSeq fun _=>vs.toArray)).get? D=some (seqObj "list" vs.toArray e2):=⟨_,get?_update_seq k2 (fun _=>vs.toArray)⟩
 refine wpAny_pure ⟨_,rfl,q _ e2 (fun b o hb e=>?_) k3⟩
 rw [Heap.get?_update_ne _ _ _ _ hb]
 refine Heap.get?_push_of_some _ (Heap.get?_push_of_some _ ?_)
 rw [Heap.get?_update_ne _ _ _ _ hb]
 exact e
end
end Tw
set_option Elab.async false
set_option linter.all false
set_option maxRecDepth 100000
set_option maxHeartbeats 1000000
namespace Tw
open PySem PySem.Spec PyProof.Rows L2
noncomputable abbrev kleB (a b:List Int):Bool:=!HT.lexLt b a
noncomputable def sortK (ks:List (List Int)):List (List Int):=ks.mergeSort kleB
theorem sortK_perm (ks:List (List Int)):(sortK ks).Perm ks:=List.mergeSort_perm ks _
theorem sortK_sorted (ks:List (List Int)):(sortK ks).Pairwise fun a b=>HT.lexLt b a=false:=by
 have:=List.pairwise_mergeSort (le:=kleB) (fun a b c h1 h2=>by
  simp only [kleB,Bool.not_eq_true'] at *
  exact KeyOrd.kle_trans (O:=lexO) h1 h2) (fun a b=>by
  simp only [kleB,Bool.or_eq_true,Bool.not_eq_true']
  cases q:HT.lexLt b a with
  | false=>exact .inl rfl
  | true=>exact .inr (KeyOrd.klt_asymm (O:=lexO) q)) ks
 exact this.imp fun h=>by simpa [kleB] using h
theorem sort_uniq:∀{l1 l2:List (List Int)},l1.Perm l2→(l1.Pairwise fun a b=>HT.lexLt b a=false)→(l2.Pairwise fun a b=>HT.lexLt b a=false)→l1=l2
 | [],l2,h,_,_=>(List.nil_perm.mp h).symm
 | a :: l1,[],h,_,_=>by have:=h.length_eq;simp at this
 | a :: l1,b :: l2,h,h1,h2=>by
  have h1':=List.pairwise_cons.mp h1
  have h2':=List.pairwise_cons.mp h2
  have e:a=b:=by
   have ma:a∈b :: l2:=h.mem_iff.mp List.mem_cons_self
   have mb:b∈a :: l1:=h.mem_iff.mpr List.mem_cons_self
   rcases List.mem_cons.mp ma with z | z
   ·exact z
   ·rcases List.mem_cons.mp mb with y | y
    ·exact y.symm
    ·exact lex_tot a b (h2'.1 a z) (h1'.1 b y)
  subst e
  rw [sort_uniq ((List.perm_cons a).mp h) h1'.2 h2'.2]
inductive Al (K:PySem.W.Frag) (H:Hp):List Addr→List (List Int)→Prop where
 | nil:Al K H [] []
 | cons {a:Addr} {k:List Int} {as:List Addr} {ks:List (List Int)} (q:SqT K H a (k.map V.int)) (r:Al K H as ks):Al K H (a :: as) (k :: ks)
section
variable {K:PySem.W.Frag}{H:Hp}
theorem Al.len {as:List Addr}{ks:List (List Int)}(h:Al K H as ks):as.length=ks.length:=by
 induction h with
 | nil=>rfl
 | cons _ _ ih=>simp [ih]
theorem Al.at {as:List Addr}{ks:List (List Int)}(h:Al K H as ks):∀{i:Nat},i < as.length→SqT K H (as.getD i 0) ((ks.getD i []).map V.int):=by
 induction h with
 | nil=>intro i hi;simp at hi
 | cons q r ih=>
  intro i hi
  cases i with
  | zero=>exact q
  | succ i=>exact ih (i:=i) (by simpa using hi)
theorem Al.pick {as:List Addr}{ks:List (List Int)}(h:Al K H as ks):∀{l:List Nat},(∀i∈l,i < as.length)→Al K H (l.map fun i=>as.getD i 0) (l.map fun i=>ks.getD i [])
 | [],_=>.nil
 | i :: l,hl=>.cons (h.at (hl i List.mem_cons_self)) (h.pick fun j hj=>hl j (List.mem_cons_of_mem _ hj))
theorem Al.same {H':Hp}{as:List Addr}{ks:List (List Int)}(h:Al K H as ks)(s:Same H H'):Al K H' as ks:=by
 induction h with
 | nil=>exact .nil
 | cons q r ih=>
  refine .cons ?_ ih
  rcases q with (q | ⟨o,q⟩) | q
  ·exact .inl (.inl (s _ _ q))
  ·exact .inl (.inr ⟨o,s _ _ q⟩)
  ·exact .inr q
noncomputable def tupI (k:List Int):D:=.tup (k.map D.int)
theorem Al.den {O:Addr→Prop}{as:List Addr}{ks:List (List Int)}(h:Al K H as ks):DenL K O H (ks.map tupI) (as.map V.ref):=by
 induction h with
 | nil=>exact denL_nil
 | cons q r ih=>
  refine denL_cons ?_ ih
  unfold tupI
  rw [Den]
  exact ⟨_,_,rfl,q,denL_ints _⟩
end
noncomputable def tupsOf:List D→Option (List (List Int))
 | []=>some []
 | .tup ds :: r=>(intsOf ds).bind fun k=>(tupsOf r).map fun ks=>k :: ks
 | _=>none
theorem tupsOf_den {K:PySem.W.Frag}{O:Addr→Prop}{H:Hp}:∀{ds:List D} {ks:List (List Int)} {vs:List V},tupsOf ds=some ks→DenL K O H ds vs→∃as,vs=as.map V.ref∧Al K H as ks
 | [],ks,vs,e,l=>by rw [DenL] at l;subst l;cases e;exact ⟨[],rfl,.nil⟩
 | d :: ds,ks,vs,e,l=>by
  rw [DenL] at l
  obtain ⟨v,r,rfl,h,l⟩:=l
  cases d <;> simp only [tupsOf] at e <;> try cases e
  rename_i xs
  cases e1:intsOf xs with
  | none=>rw [e1] at e;cases e
  | some k=>
   rw [e1] at e
   simp only [Option.bind_some] at e
   cases e2:tupsOf ds with
   | none=>rw [e2] at e;cases e
   | some ks'=>
    rw [e2] at e;cases e
    obtain ⟨as,rfl,a⟩:=tupsOf_den e2 l
    rw [intsOf_eq e1,Den] at h
    obtain ⟨p,us,rfl,q,lu⟩:=h
    rw [denL_of_ints lu] at q
    exact ⟨p :: as,rfl,.cons q a⟩
theorem tupsOf_map:∀ks:List (List Int),tupsOf (ks.map tupI)=some ks
 | []=>rfl
 | k :: ks=>by rw [List.map_cons,tupI,tupsOf,intsOf_map,tupsOf_map ks];rfl
section
variable {X:Cx}{pins:List (Addr×Obj)}{σ:L2.St}{H:Hp}{s:Shared}
theorem Al.tups {as:List Addr}{ks:List (List Int)}(I:Inv X pins σ H s)(h:Al X.K H as ks)(ne:∀k∈ks,k≠[]):Tups s.heap (as.map Value.ref) ks:=by
 induction h with
 | nil=>exact .nil
 | cons q r ih=>
  obtain ⟨its,r1,p1,_⟩:=I.tuple q
  exact .cons p1 (intsAre_of r1) (ne _ List.mem_cons_self) (ih fun k hk=>ne k (List.mem_cons_of_mem _ hk))
theorem vals_refs:∀as:List Addr,Vals (as.map V.ref) (as.map Value.ref)
 | []=>.nil
 | a :: as=>.cons rfl (vals_refs as)
theorem of_vals_refs:∀{as:List Addr} {us:List Value},Vals (as.map V.ref) us→us=as.map Value.ref
 | [],us,r=>by cases r;rfl
 | a :: as,us,r=>by
  cases r with
  | cons h t=>cases h;rw [of_vals_refs t];rfl
theorem sort_call {A:Around}{E:Value→Shared→Prop}{as:List Addr}{ks:List (List Int)}{Q:VK}(I:Inv X pins σ H s)(a:Al X.K H as ks)(ne:∀k∈ks,k≠[])(h64:ks.length < 64)
  (q:∀l bs,H l=none→Al X.K H bs (sortK ks)→Q (.ref l) (upd H l (.lst (bs.map V.ref)))):
  wpAny (model X.prog X.w) A (call (.builtin "list.sort") [.ref s.heap.objs.size]) (fun _ s'=>EP X pins σ Q (.ref s.heap.objs.size) s') E {s with heap:=s.heap.push (PySem.W.listOf (as.map Value.ref).toArray 0)}:=by
 have I2:Inv X pins σ H {s with heap:=s.heap.push (PySem.W.listOf (as.map Value.ref).toArray 0)}:=I.kept (t':=s.toks) fun b o e=>Heap.get?_push_of_some _ e
 obtain ⟨m,F⟩:=I2.fr
 have T:=a.tups I2 ne
 have fr:H s.heap.objs.size=none:=I.hok.fresh (Nat.le_refl _)
 have hD:(s.heap.push (PySem.W.listOf (as.map Value.ref).toArray 0)).get? s.heap.objs.size=some (PySem.W.listOf (as.map Value.ref).toArray 0):=Heap.get?_push_size _ rfl
 have dL:s.heap.objs.size≠X.env.locals:=Nat.ne_of_gt I.lt
 have al:=a.len
 have fin:∀(h':Heap) (p:List Nat) (ec:Nat),Fr X.base X.env.locals h' m→(∀b o,b≠X.env.locals→b≠s.heap.objs.size→(s.heap.push (PySem.W.listOf (as.map Value.ref).toArray 0)).get? b=some o→h'.get? b=some o)→
   h'.get? s.heap.objs.size=some (PySem.W.listOf (p.map fun i=>Value.ref (as.getD i 0)).toArray ec)→p.Perm (List.range ks.length)→((p.map fun i=>ks.getD i []).Pairwise fun a b=>HT.lexLt b a=false)→EP X pins σ Q (.ref s.heap.objs.size) {s with heap:=h'}:=fun h' p ec F' kp hD' pp ps=>by
  have lt:∀i∈p,i < as.length:=fun i hi=>by have:=pp.mem_iff.mp hi;rw [al];simpa using this
  have ek:(p.map fun i=>ks.getD i [])=sortK ks:=by
   refine sort_uniq (((pp.map _).trans ?_).trans (sortK_perm ks).symm) ps (sortK_sorted ks)
   have:(List.range ks.length).map (fun i=>ks.getD i [])=ks:=by
    apply List.ext_getElem?
    intro i
    by_cases hi:i < ks.length
    ·rw [List.getElem?_map,List.getElem?_range hi];simp [hi]
    ·rw [List.getElem?_eq_none (by simp;(first|lia|omega)),List.getElem?_eq_none (by (first|lia|omega))]
   rw [this]
  have pk:=a.pick lt
  rw [ek] at pk
  have kept:∀b o,b≠X.env.locals→s.heap.get? b=some o→h'.get? b=some o:=fun b o hb e=>kp b o hb (Nat.ne_of_lt (Heap.lt_size e)) (Heap.get?_push_of_some _ e)
  have nD:∀b o,s.heap.get? b=some o→b≠s.heap.objs.size:=fun b o e=>Nat.ne_of_lt (Heap.lt_size e)
  have nH:∀b u,H b=some u→b≠s.heap.objs.size:=fun b u e=>ne_of_none e fr
  have nLH:∀b u,H b=some u→b≠X.env.locals:=fun b u e z=>by rw [z,I.free] at e;cases e
  refine ⟨.ref s.heap.objs.size,upd H s.heap.objs.size (.lst ((p.map fun i=>as.getD i 0).map V.ref)),?_,rfl,q _ _ fr pk⟩
  refine I.step (g':=s.gens) (t':=s.toks) (d':=s.drawn) (ch:=[]) (fun _ z=>nomatch z) (fun b o hL _ _ e _=>kept b o hL e) (fun b o hL _ _ e _=>⟨o.slots,kept b o hL e⟩) (fun b o _ e n=>by rw [upd_ne (nD b o e)];exact n) (fun b o _ e=>?_)
   (fun b xs e=>by rw [upd_ne (nH _ _ e)];exact e) (fun b o u e=>by rw [upd_ne (nH _ _ e)];exact e) (fun b ps e=>⟨#[],by rw [upd_ne (nH _ _ e),e];simp⟩) (fun m' hm=>?_) (fun b u e=>?_) I.bare
  ·by_cases hL:b=X.env.locals
   ·obtain ⟨o',_,_,e',_⟩:=F'.ns
    rw [hL];exact ⟨o',e'⟩
   ·exact ⟨o,kept b o hL e⟩
  ·have e1:m'=m:=by
    have z1:(s.heap.push (PySem.W.listOf (as.map Value.ref).toArray 0)).Ns X.env.locals m':=by
     obtain ⟨o,es,ep,e,r⟩:=hm
     exact ⟨o,es,ep,Heap.get?_push_of_some _ e,r⟩
    rw [z1.eq_nsMap,F.ns.eq_nsMap]
   rw [e1];exact F'.ns
  ·by_cases hb:b=s.heap.objs.size
   ·subst hb
    rw [upd_same] at e;cases e
    refine ⟨?_,(p.map fun i=>as.getD i 0).map Value.ref,ec,vals_refs _,?_⟩
    ·rw [List.length_map,List.length_map,pp.length_eq,List.length_range,sizeLine_eq];(first|lia|omega)
    ·rw [hD'];simp [List.map_map,Function.comp_def]
   ·rw [upd_ne hb] at e
    refine (I.hok b u e).stay (fun c v hc z=>kept c v (by
     rcases hc with w | w
     ·rw [w];exact nLH b u e
     ·exact nLH c _ w) z) (fun c z=>by rw [upd_ne (nH _ _ z)];exact z) fun c ys z=>by rw [upd_ne (nH _ _ z)];exact z
 have gr:∀p:List Nat,(∀i∈p,i < as.length)→(p.map fun i=>(as.map Value.ref).getD i .none)=p.map fun i=>Value.ref (as.getD i 0):=fun p hp=>List.map_congr_left fun i hi=>by simp [hp i hi]
 have tp:∀{vs:List Value} {ks:List (List Int)},Tups s.heap vs ks→∀a,Value.ref a∈vs→∃its,IsTup s.heap a its:=fun {vs ks} t=>by
  induction t with
  | nil=>intro a z;cases z
  | cons x i ne r ih=>
   intro a z
   rcases List.mem_cons.mp z with z | z
   ·cases z;exact ⟨_,x⟩
   ·exact ih a z
 have tp:=tp (a.tups I ne)
 by_cases h2:ks.length < 2
 ·refine sort_short hD (by rw [List.length_map,al];exact h2) fun h' e kp hD'=>fin h' (List.range ks.length) e ⟨?_,fun b o eb=>kp b o (fun z=>?_) (F.keep b o eb),F.above⟩ (fun b o _ hb eb=>kp b o hb eb) ?_ (List.Perm.refl _) ?_
  ·obtain ⟨o,es,ep,e1,r⟩:=F.ns
   exact ⟨o,es,ep,kp _ o (Ne.symm dL) e1,r⟩
  ·have:=I.bk b o eb
   exact absurd (Heap.lt_size this) (by rw [z];exact Nat.lt_irrefl _)
  ·rw [hD',←al]
   congr 3
   apply List.ext_getElem?
   intro i
   by_cases hi:i < as.length
   ·rw [List.getElem?_map,List.getElem?_map,List.getElem?_range hi];simp [hi]
   ·rw [List.getElem?_eq_none (by simp;(first|lia|omega)),List.getElem?_eq_none (by simp;(first|lia|omega))]
  ·match ks,h2 with
   | [],_=>exact .nil
   | [k],_=>exact List.pairwise_singleton _ _
 ·refine sort_long F hD dL ?_ T (fun z=>?_) (fun z=>?_) F.keep (by rw [List.length_map,al];(first|lia|omega)) (by rw [List.length_map,al];(first|lia|omega)) fun h' p e F' kp hD' hp hs=>?_
  ·cases q0:X.base.get? s.heap.objs.size with
   | none=>rfl
   | some o=>exact absurd (Heap.lt_size (I.bk _ o q0)) (Nat.lt_irrefl _)
  ·obtain ⟨its,o,e1,_⟩:=tp _ z
   exact absurd (Heap.lt_size e1) (Nat.lt_irrefl _)
  ·obtain ⟨its,o,e1,_,n,d1⟩:=tp _ z
   obtain ⟨m2,⟨o2,es,ep,e2,d2,_⟩,_⟩:=id I.loc
   rw [e1] at e2;cases e2
   rw [d1] at d2;cases d2
  ·have pp:p.toList.Perm (List.range ks.length):=by
    have:=Array.perm_iff_toList_perm.mp hp.perm
    rw [List.length_map,al] at this
    simpa using this
   have sz:p.size=ks.length:=by rw [hp.size,List.length_map,al]
   refine fin h' p.toList e F' kp ?_ pp ?_
   ·rw [hD',gr p.toList fun i hi=>by have:=pp.mem_iff.mp hi;rw [al];simpa using this]
   ·rw [List.pairwise_iff_getElem]
    intro i j hi hj hij
    have hj':j < p.size:=by simpa using hj
    have hi':i < p.size:=by simpa using hi
    have z:=hs i j (Nat.le_of_lt hij) (by rw [List.length_map,al,←sz];exact hj')
    simp only [List.getElem_map,Array.getElem_toList]
    unfold Ky at z
    have g1:p.getD i 0=p[i]:=by simp [Array.getD,hi']
    have g2:p.getD j 0=p[j]:=by simp [Array.getD,hj']
    rw [g1,g2] at z
    exact z
end
end Tw
set_option Elab.async false
set_option linter.all false
set_option maxRecDepth 100000
set_option maxHeartbeats 1000000
namespace Tw
open PySem PySem.Spec PyProof.Rows L2
noncomputable def SrcT (K:PySem.W.Frag) (H:Hp) (p:Addr) (ks:List (List Int)):Prop:=(∃as,SqL K H p (as.map V.ref)∧Al K H as ks)∨∃vs,H p=some (.dT (zipK ks vs))∧ks.length=vs.length
theorem kt_al {K:PySem.W.Frag}{H:Hp}:∀{ks:List (List Int)} {vs:List V} {xs:List (List Key×Addr×Value)},ks.length=vs.length→KT H (zipK ks vs) xs→Al K H (xs.map (·.2.1)) ks
 | [],vs,xs,hl,r=>by
  unfold zipK at r
  rw [List.zipWith_nil_left] at r
  cases r;exact .nil
 | k :: ks,[],xs,hl,r=>by simp at hl
 | k :: ks,v :: vs,xs,hl,r=>by
  unfold zipK at r
  rw [List.zipWith_cons_cons] at r
  cases r with
  | cons h t=>
   obtain ⟨h1,h2,_⟩:=h
   rw [List.map_cons]
   refine .cons (.inl (.inl ?_)) (kt_al (by simpa using hl) t)
   rw [h2,inl_kV]
section
variable {X:Cx}{e:Expr}{pos p:Pos}{fa:FA}
theorem call_sortedT (hc:X.calm=true):CallR X (.builtin "sorted") (fun xs H Q=>∃p ks,xs=[.ref p]∧SrcT X.K H p ks∧ks.length < 64∧(∀k∈ks,k≠[])∧∀l bs,H l=none→Al X.K H bs (sortK ks)→Q (.ref l) (upd H l (.lst (bs.map V.ref)))):=by
 intro pins s σ H xs us Q I r h
 obtain ⟨p,ks,rfl,src,h64,ne,q⟩:=h
 obtain ⟨u,rfl,ru⟩:=vals1 r
 cases ru
 refine Calls.call_function_entry kind_sorted plain_sorted entry_sorted (args_sorted1 _) ?_
 unfold Builtin.«sorted»
 refine wpAny_bind (m:=checkCount "sorted" 1 1 _) (wpAny_pure ?_)
 rcases src with ⟨as,hq,al⟩ | ⟨vs,hq,hl⟩
 ·have len:=al.len
  obtain ⟨its,rv,⟨o,m,h1,h2,_,h4⟩,hz⟩:=I.list hq
  have ei:=of_vals_refs rv
  subst ei
  have hL:s.heap.IsList p (as.map Value.ref).toArray:=⟨o,h1,h2,m,h4⟩
  have sz:(as.map Value.ref).length≤sizeLine:=by rw [List.length_map,len,sizeLine_eq];(first|lia|omega)
  refine wpAny_bind (collect_list hL ?_ sz)
  refine wpAny_bind (wpAny_newList ?_ sz)
  have I1:Inv X pins σ H {s with heap:=(s.heap.push (seqObj "list" #[] 0)).update s.heap.objs.size (Obj.mapSeq (· ++ (as.map Value.ref).toArray))}:=I.kept (t':=s.toks) fun b o e=>by
   rw [Heap.get?_update_ne _ _ _ _ (Nat.ne_of_lt (Heap.lt_size e))];exact Heap.get?_push_of_some _ e
  refine wpAny_bind (wpAny_holding (wpAny_mono (sort_call I1 al ne h64 q) (fun _ s' x=>?_) fun _ _ z=>z))
  exact wpAny_pure ⟨_,rfl,x⟩
 ·obtain ⟨z,hs,xs,rel,o,es,ep,h1,h2,h3,h4,h5⟩:=(show ObjOk X.prog X.w H s.heap p (.dT (zipK ks vs)) from I.hok p _ hq)
  have al:=kt_al (K:=X.K) hl rel
  have len:=al.len
  have sz:es.size=ks.length:=by rw [←len,List.length_map,←Array.length_toList,h4,List.length_map]
  have szl:es.size≤sizeLine:=by rw [sz,sizeLine_eq];(first|lia|omega)
  refine wpAny_bind (PySem.W.kdu_collect (src_raw (es:=es) (ep:=ep) hs) (show X.A.in1.handled=none from I.ok.hd hc) ⟨o,h1,h2,h3⟩ szl fun h' tk acc hk hacc=>?_)
  have ea:acc.toList=(xs.map (·.2.1)).map Value.ref:=by
   have e0:(xs.map (·.2.1)).map Value.ref=es.toList.map (·.key):=by rw [h4,List.map_map,List.map_map];rfl
   rw [e0]
   apply List.ext_getElem?
   intro i
   rw [Array.getElem?_toList,List.getElem?_map,Array.getElem?_toList]
   by_cases hi:i < es.size
   ·have hi2:i < acc.size:=by rw [hacc.1];exact hi
    obtain ⟨e,he,hv⟩:=hacc.2 i acc[i] (by simp [hi2])
    rw [he,Array.getElem?_eq_getElem hi2,hv];rfl
   ·rw [Array.getElem?_eq_none (by rw [hacc.1];(first|lia|omega)),Array.getElem?_eq_none (by (first|lia|omega))];rfl
  rw [ea]
  refine wpAny_bind (wpAny_newList ?_ (by rw [List.length_map,len,←sz];exact szl))
  have I1:Inv X pins σ H {s with heap:=h',toks:=tk}:=I.kept (t':=tk) hk
  refine wpAny_bind (wpAny_holding (wpAny_mono (sort_call I1 al ne h64 q) (fun _ s' x=>?_) fun _ _ z=>z))
  exact wpAny_pure ⟨_,rfl,x⟩
noncomputable def keysOf:D→Option (List (List Int))
 | .dct ks _=>some ks
 | .odt ks _=>some ks
 | .lst ds=>tupsOf ds
 | .own ds=>tupsOf ds
 | _=>none
noncomputable def kSort:List D→Option D
 | [d]=>(keysOf d).bind fun ks=>if ks.length < 64∧(∀k∈ks,k≠[]) then some (.own ((sortK ks).map tupI)) else none
 | _=>none
theorem keysOf_src {K:PySem.W.Frag}{O:Addr→Prop}{H:Hp}{d:D}{ks:List (List Int)}{v:V}(e:keysOf d=some ks)(h:Den K O H d v):∃p,v= .ref p∧SrcT K H p ks:=by
 have lst:∀{ds:List D} {a:Addr} {vs:List V},tupsOf ds=some ks→H a=some (.lst vs)→DenL K O H ds vs→SrcT K H a ks:=fun {ds a vs} e hq l=>by
  obtain ⟨as,rfl,al⟩:=tupsOf_den e l
  exact .inl ⟨as,.inl (.inl hq),al⟩
 cases d <;> simp only [keysOf] at e <;> try cases e
 ·rw [Den] at h
  obtain ⟨a,vs,rfl,hq,_,l⟩:=h
  exact ⟨a,rfl,lst e hq l⟩
 ·rw [Den] at h
  obtain ⟨a,vs,rfl,hq,_,l⟩:=h
  exact ⟨a,rfl,lst e hq l⟩
 ·rw [Den] at h
  obtain ⟨a,vs,rfl,hq,_,hl,l⟩:=h
  exact ⟨a,rfl,.inr ⟨vs,hq,by rw [hl,denL_length l]⟩⟩
 ·rw [Den] at h
  obtain ⟨a,vs,rfl,hq,_,hl,l⟩:=h
  exact ⟨a,rfl,.inr ⟨vs,hq,by rw [hl,denL_length l]⟩⟩
theorem qx_sorted (hc:X.calm=true)(hm:X.mg "sorted"=none)(ha:QA X [e] fa)(hb:autoParam (bootBuiltins "sorted"=some (.builtin "sorted")) Zau.a2._auto_1)(hg:autoParam (Gl X "sorted") Zau.a2._auto_1)(he:autoParam (starEach [e] X.env=(false,eval e X.env) :: starEach [] X.env) Zau.a2._auto_1):QX X (.Call (.Name "sorted" p) [e] [] pos) (fCall kSort fa):=⟨px_callB (call_sortedT hc) (by
 intro ds d vs H Q ek l q
 match ds,ek,l with
 | [x],ek,l=>
  simp only [kSort] at ek
  cases e1:keysOf x with
  | none=>rw [e1] at ek;cases ek
  | some ks=>
   rw [e1] at ek
   simp only [Option.bind_some] at ek
   split at ek
   ·rename_i hl
    cases ek
    obtain ⟨v,rfl,h⟩:=denL1 l
    obtain ⟨a,rfl,src⟩:=keysOf_src e1 h
    exact ⟨a,ks,rfl,src,hl.1,hl.2,fun l bs hp al=>q _ _ (same_upd hp _) (denF_new hp al.den)⟩
   ·cases ek) hb hm ha.to hg (by decide) (by decide) he rfl⟩
end
end Tw
set_option Elab.async false
set_option linter.all false
set_option maxRecDepth 100000
set_option maxHeartbeats 1000000
namespace Tw
open PySem PySem.Spec PyProof.Rows L2
theorem add_ii {a b:Int}:oAddT (.int a) (.int b)=some (.int (a + b)):=rfl
theorem add_tt {xs ys:List D}:oAddT (.tup xs) (.tup ys)=if xs.length + ys.length≤lim then some (.tup (xs ++ ys)) else none:=rfl
theorem add_oo {xs ys:List D}:oAddT (.own xs) (.own ys)=if xs.length + ys.length≤lim then some (.own (xs ++ ys)) else none:=rfl
theorem add_lo {xs ys:List D}:oAddT (.lst xs) (.own ys)=if xs.length + ys.length≤lim then some (.own (xs ++ ys)) else none:=rfl
theorem add_ol {xs ys:List D}:oAddT (.own xs) (.lst ys)=if xs.length + ys.length≤lim then some (.own (xs ++ ys)) else none:=rfl
theorem add_ll {xs ys:List D}:oAddT (.lst xs) (.lst ys)=if xs.length + ys.length≤lim then some (.own (xs ++ ys)) else none:=rfl
theorem lt_ii {a b:Int}:oLtT (.int a) (.int b)=some (.bl (decide (a < b))):=rfl
theorem lt_tt {xs ys:List D}:oLtT (.tup xs) (.tup ys)=(intsOf xs).bind fun ns=>(intsOf ys).map fun ms=>.bl (HT.lexLt ns ms):=rfl
theorem ix_t {xs:List D}{i:Int}:oIxD (.tup xs) (.int i)=(atI xs i).map frz:=rfl
theorem ix_l {xs:List D}{i:Int}:oIxD (.lst xs) (.int i)=(atI xs i).map frz:=rfl
theorem ix_o {xs:List D}{i:Int}:oIxD (.own xs) (.int i)=(atI xs i).map frz:=rfl
theorem ix_s {xs:List D}{i:Int}:oIxD (.scr xs) (.int i)=(atI xs i).map frz:=rfl
theorem ix_d {ks:List (List Int)}{xs ds:List D}:oIxD (.dct ks xs) (.tup ds)=(intsOf ds).bind fun k=>(lookD ks xs k).map frz:=rfl
theorem sl_t {xs:List D}{lo hi:Option Int}:slT (.tup xs) lo hi=some (.tup (cutD xs lo hi)):=rfl
theorem sl_l {xs:List D}{lo hi:Option Int}:slT (.lst xs) lo hi=some (.own (cutD xs lo hi)):=rfl
theorem sl_o {xs:List D}{lo hi:Option Int}:slT (.own xs) lo hi=some (.own (cutD xs lo hi)):=rfl
theorem sl_s {xs:List D}{lo hi:Option Int}:slT (.scr xs) lo hi=some (.own (cutD xs lo hi)):=rfl
theorem frz_non:frz .non= .non:=rfl
theorem frz_bl {b:Bool}:frz (.bl b)= .bl b:=rfl
theorem frz_int {i:Int}:frz (.int i)= .int i:=rfl
theorem frz_str {x:Str}:frz (.str x)= .str x:=rfl
theorem frz_tup {xs:List D}:frz (.tup xs)= .tup xs:=rfl
theorem frz_lst {xs:List D}:frz (.lst xs)= .lst xs:=rfl
theorem frz_own {xs:List D}:frz (.own xs)= .lst xs:=rfl
theorem frz_scr {xs:List D}:frz (.scr xs)= .scr xs:=rfl
theorem frz_dic:frz .dic= .dic:=rfl
theorem frz_exn {C:Addr}:frz (.exn C)= .exn C:=rfl
theorem frz_dct {ks:List (List Int)}{xs:List D}:frz (.dct ks xs)= .dct ks xs:=rfl
theorem frz_odt {ks:List (List Int)}{xs:List D}:frz (.odt ks xs)= .dct ks xs:=rfl
theorem frz_frz {d:D}:frz (frz d)=frz d:=by cases d <;> rfl
theorem comp_run {α:Type}{gf:D→Ev→Option Ev}{t:FT}{fe:FE}{k:Nat}(S:Ev→Prop)(e h:α→D)(p:α→Bool)(hk:∀ρ,S ρ→ρ.length=k):
  ∀(ys:List α) (zs:List D) (ρ:Ev),(∀y∈ys,∀ρ zs,S ρ→∃ρ',S ρ'∧gf (e y) (ρ ++ [some (.own zs)])=some (ρ' ++ [some (.own zs)])∧t (ρ' ++ [some (.own zs)])=some (p y)∧(p y=true→fe (ρ' ++ [some (.own zs)])=some (h y)∧lf (h y)=true))→S ρ→zs.length + ys.length≤lim→
   lastL k (loopF (turnF gf (blkB k t fe)) (ys.map e) (ρ ++ [some (.own zs)]))=some (.own (zs ++ (ys.filter p).map h))
 | [],zs,ρ,_,s,_=>by
  have e:(ρ ++ [some (D.own zs)])[k]? =some (some (.own zs)):=by rw [←hk ρ s,List.getElem?_append_right (Nat.le_refl _)];simp
  simp only [List.map_nil,loopF,lastL,e,List.filter_nil,List.map_nil,List.append_nil]
 | x :: xs,zs,ρ,st,s,l=>by
  obtain ⟨ρ',s',e1,e2,e3⟩:=st x List.mem_cons_self ρ zs s
  have st':=fun y hy=>st y (List.mem_cons_of_mem _ hy)
  have eg:(ρ' ++ [some (D.own zs)])[k]? =some (some (.own zs)):=by rw [←hk ρ' s',List.getElem?_append_right (Nat.le_refl _)];simp
  simp only [List.length_cons] at l
  rw [List.map_cons]
  cases q:p x with
  | false=>
   have b:turnF gf (blkB k t fe) (e x) (ρ ++ [some (.own zs)])=some (.nx (ρ' ++ [some (.own zs)])):=by
    simp only [turnF,e1,Option.bind_some,blkB,fIfS,e2,q];rfl
   rw [loopF,b]
   simp only [Option.bind_some]
   rw [comp_run S e h p hk xs zs ρ' st' s' (by omega),List.filter_cons,if_neg (by simp [q])]
  | true=>
   obtain ⟨e4,e5⟩:=e3 q
   have b:turnF gf (blkB k t fe) (e x) (ρ ++ [some (.own zs)])=some (.nx (ρ' ++ [some (.own (zs ++ [h x]))])):=by
    have hl:zs.length < lim:=by omega
    have es:(ρ' ++ [some (D.own zs)]).set k (some (.own (zs ++ [h x])))=ρ' ++ [some (.own (zs ++ [h x]))]:=by rw [←hk ρ' s'];simp
    simp only [turnF,e1,Option.bind_some,blkB,fIfS,e2,q,if_true,fApp,e4,eg,e5,hl,and_self,es]
   rw [loopF,b]
   simp only [Option.bind_some]
   rw [comp_run S e h p hk xs (zs ++ [h x]) ρ' st' s' (by simp;omega),List.filter_cons,if_pos q,List.map_cons,List.append_assoc]
   rfl
theorem compL_run {α:Type}{js:List (Option Nat)}{gf:D→Ev→Option Ev}{t:FT}{fe:FE}{ys:List α}{ρ:Ev}(S:Ev→Prop)(e h:α→D)(p:α→Bool)(s:S (capE js ρ))(hk:∀ρ,S ρ→ρ.length=js.length)
  (st:∀y∈ys,∀ρ zs,S ρ→∃ρ',S ρ'∧gf (e y) (ρ ++ [some (.own zs)])=some (ρ' ++ [some (.own zs)])∧t (ρ' ++ [some (.own zs)])=some (p y)∧(p y=true→fe (ρ' ++ [some (.own zs)])=some (h y)∧lf (h y)=true)) (hl:ys.length≤lim):
  fCompL js gf t fe (ys.map e) ρ=some (.own ((ys.filter p).map h)):=by
 unfold fCompL
 rw [comp_run S e h p hk ys [] _ st s (by simpa using hl),List.nil_append]
theorem compL_map {α:Type}{js:List (Option Nat)}{gf:D→Ev→Option Ev}{fe:FE}{ys:List α}{ρ:Ev}(S:Ev→Prop)(e h:α→D)(s:S (capE js ρ))(hk:∀ρ,S ρ→ρ.length=js.length)
  (st:∀y∈ys,∀ρ zs,S ρ→∃ρ',S ρ'∧gf (e y) (ρ ++ [some (.own zs)])=some (ρ' ++ [some (.own zs)])∧fe (ρ' ++ [some (.own zs)])=some (h y)∧lf (h y)=true) (hl:ys.length≤lim):
  fCompL js gf (fun _=>some true) fe (ys.map e) ρ=some (.own (ys.map h)):=by
 have:=compL_run (js:=js) (gf:=gf) (t:=fun _=>some true) (fe:=fe) (ys:=ys) (ρ:=ρ) S e h (fun _=>true) s hk (fun x hx ρ zs sρ=>by
  obtain ⟨ρ',a,b,c⟩:=st x hx ρ zs sρ
  exact ⟨ρ',a,b,rfl,fun _=>c⟩) hl
 rw [this]
 congr 2
 rw [List.filter_eq_self.mpr (fun _ _=>rfl)]
theorem zipD_map {α β:Type}(f:α→D)(g:β→D):∀(xs:List α) (ys:List β),zipD (xs.map f) (ys.map g)=(xs.zip ys).map fun p=>.tup [f p.1,g p.2]
 | [],_=>by simp [zipD]
 | _ :: _,[]=>by simp [zipD]
 | x :: xs,y :: ys=>by
  have:=zipD_map f g xs ys
  unfold zipD at this ⊢
  simp [this]
noncomputable def fUnF (is:List Nat) (f:FE):FS:=fun ρ=>(f ρ).bind fun d=>match d with
 | .tup ds=>if ds.length=is.length then (if lfL ds=true then some (.nx (setAll is ds ρ)) else some (.nx (setAll is (ds.map frz) (frzAll ρ)))) else none
 | .lst ds=>if ds.length=is.length then (if lfL ds=true then some (.nx (setAll is ds ρ)) else some (.nx (setAll is (ds.map frz) (frzAll ρ)))) else none
 | _=>none
section
variable {X:Cx}{e:Expr}{es:List Expr}{pos:Pos}{f:FE}{P:List (D×V)}
theorem gAll_frz {Q:L2.St→Hp→Prop}{H:Hp}:∀{is:List Nat} {ds:List D} {vs:List V} {own:Nat→Option Addr} {ρ:Ev} {σ:L2.St},ds.length=is.length→(∀i,own i=none)→DenL X.K Emp H ds vs→Rep X P ρ own σ H→
  (∀own' σ',Rep X P (setAll is (ds.map frz) ρ) own' σ' H→Q σ' H)→gAll is vs σ H Q
 | [],[],vs,own,ρ,σ,hl,ho,l,rp,q=>by rw [DenL] at l;subst l;exact ⟨rfl,q own σ rp⟩
 | [],_ :: _,vs,own,ρ,σ,hl,ho,l,rp,q=>by simp at hl
 | _ :: _,[],vs,own,ρ,σ,hl,ho,l,rp,q=>by simp at hl
 | i :: is,d :: ds,vs,own,ρ,σ,hl,ho,l,rp,q=>by
  rw [DenL] at l
  obtain ⟨v,r,rfl,h,l⟩:=l
  have hf:frz (frz d)=frz d:=by cases d <;> rfl
  exact ⟨v,r,rfl,gAll_frz (by simpa using hl) (fun j=>by show (if j=i then none else own j)=none;split;rfl;exact ho j) l (rp.put (i:=i) hf (den_mono (fun _ _ q _=>q) (fun _ z=>z.elim) (fun b ⟨j,z⟩=>by rw [ho j] at z;cases z) _ _ (den_frz.mpr h))) q⟩
theorem qxs_unF {is:List Nat}{k:Nat}{p2:Pos}(hc:X.calm=true)(hN:X.N.Nodup)(tg:Tg X es is)(ha:QX X e f)(hn:autoParam ((assignEach es X.env).length=is.length) Zau.a2._auto_1)(hst:autoParam ((assignEach es X.env).findIdx? (·.1)=none) Zau.a2._auto_1)
  (hs:autoParam (swapsWithSole [.Tuple es k p2] e pos.line X.env=pure false) Zau.a2._auto_1) (hw:autoParam (swappedStores [.Tuple es k p2] e X.env=pure none) Zau.a2._auto_1)
  (h1:autoParam ((assignEach [.Tuple es k p2] X.env).map (·.2)=[assign (.Tuple es k p2) X.env]) Zau.a2._auto_1):QS X (.Assign [.Tuple es k p2] e pos) (fUnF is f):=⟨PS.weak (ps_asg ha.to (pg_seq hc (tg_pgs hN tg) hn hst) hs hw h1) fun E σ H ⟨P,own,ρ,r,rp,e,q⟩=>by
 unfold fUnF at e
 cases e1:f ρ with
 | none=>rw [e1] at e;cases e
 | some d=>
  rw [e1] at e
  simp only [Option.bind_some] at e
  refine ⟨ρ,d,rp.view,e1,fun v H1 s1 d1=>?_⟩
  have go:∀ds vs,ds.length=is.length→(if lfL ds=true then some (R.nx (setAll is ds ρ)) else some (.nx (setAll is (ds.map frz) (frzAll ρ))))=some r→DenL X.K Emp H1 ds vs→gAll is vs σ H1 (fun σ' H'=>E.nx σ' H'):=fun ds vs hl e l=>by
   split at e
   ·rename_i fl
    cases e
    exact gAll_of hl fl l (rp.grow s1) fun own' σ' rp'=>q own' σ' H1 rp'
   ·cases e
    exact gAll_frz hl (fun _=>rfl) l (rp.grow s1).frozen fun own' σ' rp'=>q own' σ' H1 rp'
  cases d with
  | tup ds=>
   simp only at e
   split at e
   ·rename_i hl
    have z:=d1.den
    rw [Den] at z
    obtain ⟨p,vs,ev,hq,l⟩:=z
    exact .inl ⟨p,vs,ev,hq,by rw [←denL_length l];exact hl,go ds vs hl e l⟩
   ·cases e
  | lst ds=>
   simp only at e
   split at e
   ·rename_i hl
    have z:=d1.den
    rw [Den] at z
    obtain ⟨p,vs,ev,hq,_,l⟩:=z
    exact .inr ⟨p,vs,ev,.inl (.inl hq),by rw [←denL_length l];exact hl,go ds vs hl e l⟩
   ·cases e
  | _=>cases e⟩
end
end Tw
set_option Elab.async false
set_option linter.all false
set_option maxRecDepth 100000
set_option maxHeartbeats 1000000
namespace Tw
open PySem PySem.Spec PyProof.Rows L2
noncomputable def Ends (o:Option R) (Q:D→Prop):Prop:=∃d,o=some (.rt d)∧Q d
theorem ends_run {np n:Nat}{G:FS}{ds:List D}{Q:D→Prop}(h:ds.length=np)(e:Ends (G (start0 n ds)) Q):∃d,runD np n G ds=some d∧Q d:=by
 obtain ⟨d,e,q⟩:=e
 refine ⟨d,?_,q⟩
 unfold runD
 rw [if_pos h,e]
theorem ends_ex1 {α:Type}{P:α→Prop}{t:α→D}{np n:Nat}{G:FS}{ds:List D}(h:ds.length=np)(e:Ends (G (start0 n ds)) (fun d=>∃a,P a∧d=t a)):∃a,P a∧runD np n G ds=some (t a):=by
 obtain ⟨d,e,a,p,rfl⟩:=ends_run h e
 exact ⟨a,p,e⟩
theorem ends_ex2 {α β:Type}{P:α→β→Prop}{t:α→β→D}{np n:Nat}{G:FS}{ds:List D}(h:ds.length=np)(e:Ends (G (start0 n ds)) (fun d=>∃a b,P a b∧d=t a b)):∃a b,P a b∧runD np n G ds=some (t a b):=by
 obtain ⟨d,e,a,b,p,rfl⟩:=ends_run h e
 exact ⟨a,b,p,e⟩
theorem ends_then {F G:FS}{ρ:Ev}{Q:D→Prop}(S:Ev→Prop)(h:∃ρ',F ρ=some (.nx ρ')∧S ρ')(k:∀ρ',S ρ'→Ends (G ρ') Q):Ends (fThen F G ρ) Q:=by
 obtain ⟨ρ',e,s⟩:=h
 obtain ⟨d,e',q⟩:=k ρ' s
 refine ⟨d,?_,q⟩
 unfold fThen
 rw [e]
 exact e'
theorem ends_eq {F G:FS}{ρ:Ev}{Q:D→Prop}(ρ':Ev)(h:F ρ=some (.nx ρ'))(k:Ends (G ρ') Q):Ends (fThen F G ρ) Q:=ends_then (fun x=>x=ρ') ⟨ρ',h,rfl⟩ fun x e=>by rw [e];exact k
theorem ends_ret {F G:FS}{ρ:Ev}{Q:D→Prop}{d:D}(h:F ρ=some (.rt d))(q:Q d):Ends (fThen F G ρ) Q:=⟨d,by unfold fThen;rw [h];rfl,q⟩
theorem ends_last {F:FS}{ρ:Ev}{Q:D→Prop}{d:D}(h:F ρ=some (.rt d))(q:Q d):Ends (F ρ) Q:=⟨d,h,q⟩
theorem forR_inv {fa:FA}{gf:D→Ev→Option Ev}{B:FS}{ρ0:Ev}{n:Int}(hfa:fa ρ0=some [.int n])(hn:0≤n∧n < 2 ^ 62)(S:Nat→Ev→Prop)(h0:S 0 ρ0)
  (st:∀(i:Nat) (ρ:Ev),i < n.toNat→S i ρ→∃ρ',turnF gf B (.int (i:Nat)) ρ=some (.nx ρ')∧S (i + 1) ρ'):∃ρe,fForR fa gf B ρ0=some (.nx ρe)∧S n.toNat ρe:=by
 have go:∀(m i:Nat) (ρ:Ev),i + m=n.toNat→S i ρ→∃ρe,loopF (turnF gf B) ((List.range' i m).map fun i=>D.int (i:Nat)) ρ=some (.nx ρe)∧S n.toNat ρe:=by
  intro m
  induction m with
  | zero=>intro i ρ e s;exact ⟨ρ,rfl,by rw [←e,Nat.add_zero];exact s⟩
  | succ m ih=>
   intro i ρ e s
   obtain ⟨ρ',e1,s1⟩:=st i ρ (by (first|lia|omega)) s
   obtain ⟨ρe,e2,s2⟩:=ih (i + 1) ρ' (by (first|lia|omega)) s1
   refine ⟨ρe,?_,s2⟩
   rw [List.range'_succ,List.map_cons,loopF,e1]
   exact e2
 obtain ⟨ρe,e,s⟩:=go n.toNat 0 ρ0 (by (first|lia|omega)) h0
 refine ⟨ρe,?_,s⟩
 unfold fForR
 rw [hfa]
 simp only [Option.bind_some]
 rw [if_pos ⟨hn.2,by (first|lia|omega)⟩,List.range_eq_range']
 exact e
theorem forR_ex {fa:FA}{gf:D→Ev→Option Ev}{B:FS}{ρ0:Ev}{T:Ev→Prop}(n:Int)(S:Nat→Ev→Prop)(hfa:fa ρ0=some [.int n])(hn:0≤n∧n < 2 ^ 62)(h0:S 0 ρ0)
  (st:∀(i:Nat) (ρ:Ev),i < n.toNat→S i ρ→∃ρ',turnF gf B (.int (i:Nat)) ρ=some (.nx ρ')∧S (i + 1) ρ') (fin:∀ρ,S n.toNat ρ→T ρ):∃ρe,fForR fa gf B ρ0=some (.nx ρe)∧T ρe:=
 let ⟨ρe,e,s⟩:=forR_inv hfa hn S h0 st
 ⟨ρe,e,fin ρe s⟩
theorem turn_then {gf:D→Ev→Option Ev}{F G:FS}{x:D}{ρ ρ1:Ev}{T:Ev→Prop}(hg:gf x ρ=some ρ1)(S:Ev→Prop)(h:∃ρ',F ρ1=some (.nx ρ')∧S ρ')(k:∀ρ',S ρ'→∃ρ2,G ρ'=some (.nx ρ2)∧T ρ2):∃ρ2,turnF gf (fThen F G) x ρ=some (.nx ρ2)∧T ρ2:=by
 obtain ⟨ρ',e,s⟩:=h
 obtain ⟨ρ2,e2,t⟩:=k ρ' s
 refine ⟨ρ2,?_,t⟩
 unfold turnF fThen
 rw [hg]
 simp only [Option.bind_some]
 rw [e]
 exact e2
theorem nx_then {F G:FS}{ρ1:Ev}{T:Ev→Prop}(S:Ev→Prop)(h:∃ρ',F ρ1=some (.nx ρ')∧S ρ')(k:∀ρ',S ρ'→∃ρ2,G ρ'=some (.nx ρ2)∧T ρ2):∃ρ2,fThen F G ρ1=some (.nx ρ2)∧T ρ2:=by
 obtain ⟨ρ',e,s⟩:=h
 obtain ⟨ρ2,e2,t⟩:=k ρ' s
 refine ⟨ρ2,?_,t⟩
 unfold fThen
 rw [e]
 exact e2
end Tw
set_option Elab.async false
set_option linter.all false
set_option maxRecDepth 100000
set_option maxHeartbeats 1000000
namespace Tw
open PySem PySem.Spec PyProof.Rows L2
theorem nx_eq {F G:FS}{ρ1:Ev}{T:Ev→Prop}(ρ':Ev)(h:F ρ1=some (.nx ρ'))(k:∃ρ2,G ρ'=some (.nx ρ2)∧T ρ2):∃ρ2,fThen F G ρ1=some (.nx ρ2)∧T ρ2:=nx_then (fun x=>x=ρ') ⟨ρ',h,rfl⟩ fun x e=>by rw [e];exact k
end Tw
set_option Elab.async false
set_option linter.all false
set_option maxRecDepth 100000
set_option maxHeartbeats 1000000
namespace Tw
open PySem PySem.Spec PyProof.Rows L2
section
variable {X:Cx}{e k v:Expr}{es:List Expr}{pos p p2:Pos}{fa:FA}{f:FE}{st:List Stmt}{r r':FR}
inductive Cls (X:Cx):List Expr→List Addr→Prop where
 | nil:Cls X [] []
 | cons {x:Str} {p:Pos} {c:Addr} {es:List Expr} {cs:List Addr} (hx:X.mg x=some (.ref c)) (hg:Gl X x) (hd:(x == ("__debug__":Str))=false) (h:Cls X es cs) (hs:starEach (.Name x p :: es) X.env=(false,eval (.Name x p) X.env) :: starEach es X.env):Cls X (.Name x p :: es) (c :: cs)
end
noncomputable def k2 (c c':Addr) (b b':Bool):Addr→Option Bool:=fun C=>if C=c then some b else if C=c' then some b' else none
end Tw
set_option Elab.async false
set_option linter.all false
set_option maxRecDepth 100000
set_option maxHeartbeats 1000000
namespace Tw
open PySem PySem.Spec PyProof.Rows L2
section
variable {X:Cx}{a se le:Expr}{pos:Pos}{f:FE}
end
end Tw
set_option Elab.async false
set_option linter.all false
set_option maxRecDepth 100000
set_option maxHeartbeats 1000000
namespace Tw
open PySem PySem.Spec PyProof.Rows L2
section
variable {X:Cx}{e:Expr}{pos p:Pos}{fa:FA}
end
end Tw
set_option Elab.async false
set_option linter.all false
set_option maxRecDepth 100000
set_option maxHeartbeats 1000000
namespace Tw
open PySem PySem.Spec PyProof.Rows L2
section
variable {prog:Program}{w:World}{A:Around}{R:Result→Shared→Prop}{s:Shared}
theorem comp_loopD {kx vx tg iter:Expr}{ifs:List Expr}{scope:Scope}{pos:Pos}{it:Value}{D:Addr}{env:Env}(I:Nat→Shared→Prop)
  (turn:∀n s,I n s→wpAny (model prog w) A (pyNext it) (fun r s1=>match r with
   | none=>R (.ok .next) s1
   | some v=>wpAny (model prog w) A (letOwnedTupleGo tg it v) (fun _ s2=>wpAny (model prog w) A (assign tg env v) (fun _ s3=>
     wpAny (model prog w) A (forIn ifs true fun c r=>if r=true then do let ok ←isTrue c env (eval c env);pure (ForInStep.yield ok) else pure (ForInStep.yield r)) (fun ok s4=>
      if ok=true then wpAny (model prog w) A (eval kx env) (fun kv s5=>wpAny (model prog w) A (eval vx env) (fun vv s6=>wpAny (model prog w) A (dictSet D kv vv) (fun _ s7=>∃m,m < n∧I m s7) Fa s6) Fa s5) Fa s4
      else ∃m,m < n∧I m s4) Fa s3) Fa s2) Fa s1) Fa s)
  (n:Nat) (h:I n s):codeAny (model prog w) A (.compLoop (.DictComp kx vx [⟨tg,iter,ifs,0⟩] scope pos) 0 it (.ref D) env) R s:=by
 refine codeAny_loop rfl I (fun n s hI=>?_) n h
 show wpAny _ A ((compTurn (.DictComp kx vx [⟨tg,iter,ifs,0⟩] scope pos) 0 it (.ref D) env).onRaise (fun x=>do noteFrame x env;theTreesLotGoes x)) _ _ s
 refine wpAny_noted ?_
 rw [compTurn_dict]
 refine wpAny_bind (wpAny_standAt (wpAny_bind (wpAny_mono (turn n s hI) (fun r s1 h1=>?_) fun _ _ z=>z.elim)))
 cases r with
 | none=>exact wpAny_pure h1
 | some v=>
  refine wpAny_bind (wpAny_mono h1 (fun _ s2 h2=>wpAny_bind (wpAny_mono h2 (fun _ s3 h3=>wpAny_bind (wpAny_mono h3 (fun ok s4 h4=>?_) fun _ _ z=>z.elim)) fun _ _ z=>z.elim)) fun _ _ z=>z.elim)
  cases ok with
  | true=>
   rw [if_pos rfl] at h4 ⊢
   exact wpAny_bind (wpAny_bind (wpAny_mono h4 (fun kv s5 h5=>wpAny_bind (wpAny_holding (wpAny_mono h5 (fun vv s6 h6=>wpAny_bind (wpAny_standAt (wpAny_holding (wpAny_mono h6 (fun _ s7 h7=>wpAny_pure ⟨rfl,h7⟩) fun _ _ z=>z.elim)))) fun _ _ z=>z.elim))) fun _ _ z=>z.elim))
  | false=>
   rw [if_neg Bool.false_ne_true] at h4 ⊢
   first | exact wpAny_pure ⟨rfl,h4⟩ | exact wpAny_bind (wpAny_pure (wpAny_pure ⟨rfl,h4⟩))
end
section
variable {X:Cx}{pins:List (Addr×Obj)}{σ:L2.St}{H2:Hp}{s2 s4:Shared}{scope:Scope}{cl:List (Str×Addr)}{N:List Str}{js:List (Option Nat)}{fp:List Addr}{Dd C:Addr}{m:Str→Option Value}
theorem blk_invD (I:Inv X pins σ H2 s2)(b:Blk X scope cl N js)(f2:∀y∈fp,FpOk X pins H2 y)(fl:∀y∈fp,y < s2.heap.objs.size)(hC:s2.heap.objs.size≤C)(hD:s2.heap.objs.size≤Dd)(ne:Dd≠C)
  (ho:s4.os=s2.os) (hg:AllBare s4.gens) (kp:∀y o,s2.heap.get? y=some o→s4.heap.get? y=some o) (hn:s4.heap.Ns C m) (hk:HOk X.prog X.w (upd H2 Dd (.dT [])) s4.heap):
  Inv (blk X scope cl s2 H2 fp C (N ++ [accN])) [] (capS js σ ++ [some (.ref Dd)]) (upd H2 Dd (.dT [])) s4:=by
 have nD:∀y o,s2.heap.get? y=some o→y≠Dd:=fun y o e=>Nat.ne_of_lt (Nat.lt_of_lt_of_le (Heap.lt_size e) hD)
 have nH:∀y u,H2 y=some u→y≠Dd:=fun y u e=>Nat.ne_of_lt (Nat.lt_of_lt_of_le (I.hok.lt e) hD)
 have cD:∀x c,X.env.cells.lookup x=some c→c≠Dd:=fun x c e=>by
  obtain ⟨v,o,e1,_⟩:=I.cell x c e
  exact nD c o e1
 refine ⟨blk_ok I b f2 fl hC,ho,hg,⟨fun y o e _ _ _=>kp y o e,fun y o e _ _ _=>⟨o.slots,kp y o e⟩,fun y o e n _=>?_,fun y o e _=>⟨o,kp y o e⟩,fun y xs e=>?_,fun y o u e=>?_,fun y ps e=>?_⟩,⟨m,hn,fun i x v e1 e2 e3=>?_⟩,fun x c e=>?_,?_,fun x c e=>?_,fun p hp=>absurd (show p∈([]:List (Addr×Obj)) from hp) (by simp),hk,?_⟩
 ·rw [upd_ne (nD y o e)];exact n
 ·rw [upd_ne (nH _ _ e)];exact e
 ·rw [upd_ne (nH _ _ e)];exact e
 ·have e':H2 y=some (.tbl ps):=e
  exact ⟨#[],by rw [upd_ne (nH _ _ e'),e'];simp⟩
 ·have hl:js.length=N.length:=b.cap.len
  by_cases hi:i < N.length
  ·have e1':N[i]? =some x:=by
    have z:(N ++ [accN])[i]? =some x:=e1
    rw [List.getElem?_append_left hi] at z;exact z
   rw [List.getElem?_append_left (by unfold capS;simp;(first|lia|omega))] at e2
   unfold capS at e2
   rw [List.getElem?_map] at e2
   cases ej:js[i]? with
   | none=>rw [ej] at e2;cases e2
   | some o=>
    rw [ej] at e2
    cases o with
    | none=>cases e2
    | some j=>
     obtain ⟨c1,c2,c3,c4⟩:=b.cap.get e1' ej
     simp only [Option.map_some,Option.bind_some] at e2
     have e2':σ[j]? =some (some v):=by
      cases q:σ[j]? with
      | none=>rw [q] at e2;cases e2
      | some o=>rw [q] at e2;simp at e2;rw [e2]
     obtain ⟨m2,_,hl2⟩:=I.loc
     obtain ⟨u,r,lk⟩:=hl2 j x v c1 e2' (.inr (.inl c2))
     refine ⟨u,r,.inr ⟨.inl c3,?_⟩⟩
     rcases lk with ⟨k,_⟩ | ⟨_,c,e,z⟩
     ·have k':X.env.scope.names.lookup x=some .local:=k
      rw [c2] at k';cases k'
     ·exact ⟨c,c4.trans e,z.keeps kp⟩
  ·have hx:x=accN:=by
    have z:(N ++ [accN])[i]? =some x:=e1
    rw [List.getElem?_append_right (by (first|lia|omega))] at z
    cases q:i - N.length with
    | zero=>rw [q] at z;simp at z;exact z.symm
    | succ k=>rw [q] at z;simp at z
   subst hx
   rcases e3 with z | z | z
   ·exact absurd z (b.acc _)
   ·exact absurd z (b.acc _)
   ·exact absurd z (b.acc _)
 ·obtain ⟨v,z⟩:=I.cell x c (b.sub x c e)
  exact ⟨v,z.keeps kp⟩
 ·show upd H2 Dd (.dT []) C=none
  rw [upd_ne (Ne.symm ne)]
  exact I.hok.fresh hC
 ·rw [upd_ne (cD x c (b.sub x c e))]
  exact I.freeC x c (b.sub x c e)
 ·show (capS js σ ++ [some (V.ref Dd)]).length=(N ++ [accN]).length
  unfold capS
  simp [b.cap.len]
theorem blk_repD {P:List (D×V)}{ρ:Ev}(b:Blk X scope cl N js)(rv:RepV X.K ρ σ H2)(hP:∀p∈P,Den X.K Emp H2 p.1 p.2)(hn:H2 Dd=none):
  Rep (blk X scope cl s2 H2 fp C (N ++ [accN])) P (capE js ρ ++ [some (.odt [] [])]) (fun k=>if k=js.length then some Dd else none) (capS js σ ++ [some (.ref Dd)]) (upd H2 Dd (.dT [])):=by
 have up:∀{d v},Den X.K Emp H2 d v→Den X.K (Own fun k=>if k=js.length then some Dd else none) (upd H2 Dd (.dT [])) d v:=fun {d v} h=>
  den_mono (fun y o e _=>by rw [upd_ne (fun z=>by rw [z,hn] at e;cases e)];exact e) (fun _ z=>z.elim) (fun y ⟨i,z⟩=>by
   try dsimp only at z
   split at z
   ·cases z;exact .inr hn
   ·cases z) d v h
 refine ⟨same_upd hn _,by unfold capE capS;simp,fun i d e=>?_,fun i j a e1 e2=>?_,fun i a e=>?_,fun i a e=>?_,fun p hp=>up (hP p hp)⟩
 ·by_cases hi:i < js.length
  ·rw [List.getElem?_append_left (by unfold capE;simpa using hi)] at e
   unfold capE at e
   rw [List.getElem?_map] at e
   cases ej:js[i]? with
   | none=>rw [ej] at e;cases e
   | some o=>
    rw [ej] at e
    cases o with
    | none=>cases e
    | some j=>
     simp only [Option.map_some,Option.bind_some] at e
     cases q:ρ[j]? with
     | none=>rw [q] at e;cases e
     | some o=>
      rw [q] at e
      cases o with
      | none=>cases e
      | some d0=>
       simp only [Option.join_some,Option.map_some] at e
       have e':frz d0=d:=Option.some.inj (Option.some.inj e)
       subst e'
       obtain ⟨v,h1,h2⟩:=rv j d0 q
       refine ⟨v,?_,SlotOk.plain (up (den_frz.mpr h2))⟩
       rw [List.getElem?_append_left (by unfold capS;simpa using hi)]
       unfold capS
       rw [List.getElem?_map,ej]
       simp only [Option.map_some,Option.bind_some]
       rw [h1];rfl
  ·rw [List.getElem?_append_right (by unfold capE;simpa using hi)] at e
   have hc:(capE js ρ).length=js.length:=by unfold capE;simp
   rw [hc] at e
   cases q:i - js.length with
   | succ k=>rw [q] at e;simp at e
   | zero=>
    rw [q] at e
    simp at e
    subst e
    have hi':i=js.length:=by (first|lia|omega)
    subst hi'
    refine ⟨.ref Dd,?_,Dd,[],by simp,rfl,upd_same,rfl,by simp [lfL],denL_nil⟩
    rw [List.getElem?_append_right (by unfold capS;simp)]
    unfold capS
    simp
 ·try dsimp only at e1 e2
  split at e1
  ·split at e2
   ·(first|lia|omega)
   ·cases e2
  ·cases e1
 ·try dsimp only at e
  split at e
  ·cases e;exact ⟨_,upd_same,trivial⟩
  ·cases e
 ·try dsimp only at e
  split at e
  ·cases e;exact hn
  ·cases e
end
section
variable {X:Cx}{pins:List (Addr×Obj)}{σ:L2.St}{H:Hp}{s:Shared}{a b:Addr}{v:V}{r:Value}{A:Around}{E:Value→Shared→Prop}
theorem d_dictSet {kvs:List (List Key×V)}{k:List Key}{Q:Unit→Shared→Prop}(hu:A.units + 1 < cLine)(I:Inv X pins σ H s)(e:H a=some (.dT kvs))(eb:H b=some (.tup (k.map kV)))(l:kvs.length < sizeLine)(rv:RelV v r)(h:∀s',Inv X pins σ (upd H a (.dT (putK kvs k v))) s'→Q () s'):
  wpAny (model X.prog X.w) A (dictSet a (.ref b) r) Q E s:=by
 obtain ⟨z,hd,xs,rel,dd⟩:=dt_of I.hok e
 have hz:xs.length≤sizeLine:=by rw [←Paired.length rel];exact z
 have hl:(putK kvs k v).length≤sizeLine:=by have:=length_putK kvs k v;(first|lia|omega)
 refine wpAny_dictSet_heap (hsz:=hz) (show A.units < cLine from Nat.lt_of_succ_lt hu) (key_of I.hok eb) dd fun h' dd' hs=>h _ ?_
 obtain ⟨q,es,ep,hq,h2,h3,h4,_,h5⟩:=dd'
 refine d_write I (by rw [e];exact True.intro) hs ⟨q,hq⟩ ⟨hl,hd,_,(rel.put k eb rv).keeps fun c ys ec=>?_,q,es,ep,hq,h2,h3,h4,h5⟩
 rw [upd_ne (ne_of ec e (fun z=>nomatch z))]
 exact ec
end
noncomputable abbrev blkD (k:Nat) (t:FT) (fa:FA) (fe:FE):FS:=fIfS t (fDPut k fa fe) (fun ρ=>some (.nx ρ))
noncomputable def lastDt (k:Nat):Option R→Option D
 | some (.nx ρ)=>match ρ[k]? with
  | some (some (.odt ks ys))=>some (.odt ks ys)
  | _=>none
 | _=>none
section
variable {X:Cx}{pins:List (Addr×Obj)}{σ:L2.St}{H2:Hp}{s2:Shared}{scope:Scope}{cl:List (Str×Addr)}{N:List Str}{js:List (Option Nat)}{fp:List Addr}{it:Addr}{tn:Nat→Heap→Prop}{J:It}
 {tg iter vx:Expr} {es:List Expr} {kt:Nat} {kp:Pos} {fa:FA} {ks:List (List Int)} {ifs:List Expr} {pos:Pos} {P:List (D×V)} {ρ:Ev} {xs:List D} {g:TG} {gf:D→Ev→Option Ev} {t:FT} {fe:FE} {ys:List D} {Q:VK}
theorem comp_coreD (hcalm:X.calm=true)(I2:Inv X pins σ H2 s2)(T:Turn X.prog X.w X.K tg J fp it tn)(st2:tn 0 s2.heap)(f2:∀y∈fp,FpOk X pins H2 y)(b:Blk X scope cl N js)(rv:RepV X.K ρ σ H2)(hP:∀p∈P,Den X.K Emp H2 p.1 p.2)
  (hgo:∀(Y:Cx),Y.K=X.K→∀(i:Nat) (own:Nat→Option Addr) (ρ:Ev) (σ:L2.St) (H:Hp) (x:D),Rep Y P ρ own σ H→xs[i]? =some x→J.go i H∧∀v H',J.yld i H v H'→Same H H'∧Den X.K (Own own) H' x v)
  (hst:∀(Y:Cx),Y.K=X.K→∀(own:Nat→Option Addr) (ρ:Ev) (σ:L2.St) (H:Hp),Rep Y P ρ own σ H→J.stop xs.length H)
  (hg:∀C,PG (blk X scope cl s2 H2 fp C (N ++ [accN])) tg g) (hgf:∀C,PXGk (blk X scope cl s2 H2 fp C (N ++ [accN])) js.length g gf)
  (htt:∀C pins' s σ' H ρ k Q,Inv (blk X scope cl s2 H2 fp C (N ++ [accN])) pins' σ' H s→RepV X.K ρ σ' H→t ρ=some k→(∀H',Same H H'→Q k H')→
   wpAny (model X.prog X.w) X.A (forIn ifs true fun c r=>if r=true then do let ok ←isTrue c (compEnvC scope cl C X.env) (eval c (compEnvC scope cl C X.env));pure (ForInStep.yield ok) else pure (ForInStep.yield r)) (TP (blk X scope cl s2 H2 fp C (N ++ [accN])) pins' σ' Q) Fa s)
  (hu:X.A.units + 1 < cLine) (hka:∀C,PXA (blk X scope cl s2 H2 fp C (N ++ [accN])) es fa) (he:∀C,PX (blk X scope cl s2 H2 fp C (N ++ [accN])) vx fe)
  (e:lastDt js.length (loopF (turnF gf (blkD js.length t fa fe)) xs (capE js ρ ++ [some (.odt [] [])]))=some (.odt ks ys))
  (q:∀Dd H',Same H2 H'→DenF X.K H2 H' (.odt ks ys) (.ref Dd)→Q (.ref Dd) H'):
  wpAny (model X.prog X.w) X.A newDict (fun acc s3=>wpAny (model X.prog X.w) X.A (newFunctionEnv scope X.env.globals cl [] X.env.qual none .none (some X.env)) (fun cenv s4=>
   codeAny (model X.prog X.w) X.A (.compStart (.DictComp (.Tuple es kt kp) vx [⟨tg,iter,ifs,0⟩] scope pos) 0 (.ref it) acc {cenv with scope:=relabel scope X.env}) (compPost (model X.prog X.w) X.A X.xe none (EP X pins σ Q) acc cenv.locals) s4) X.xe s3) X.xe s2:=by
 have fl:∀y∈fp,y < s2.heap.objs.size:=fun y hy=>by obtain ⟨o,eo,_⟩:=T.obj _ _ st2 y hy;exact Heap.lt_size eo
 refine wpAny_newObj_type (wpAny_newFunctionEnv b.cell (by intro y hy;simp at hy) (fun h' hns hsb=>?_) b.kind)
 dsimp only at hns hsb ⊢
 generalize hH:s2.heap.push {cls:=.type "dict",dict:=none,data:=.dict #[]}=H3 at hns hsb ⊢
 have hC:H3.objs.size=s2.heap.objs.size + 1:=by rw [←hH,Heap.size_push]
 have ne:s2.heap.objs.size≠H3.objs.size:=by rw [hC];exact Nat.ne_of_lt (Nat.lt_succ_self _)
 have leC:s2.heap.objs.size≤H3.objs.size:=by rw [hC];exact Nat.le_succ _
 have kp3:∀y o,s2.heap.get? y=some o→H3.get? y=some o:=fun y o e=>hH▸Heap.get?_push_of_some _ e
 have kp4:∀y o,H3.get? y=some o→h'.get? y=some o:=fun y o e=>hsb.extBut y o (Nat.ne_of_lt (Heap.lt_size e)) (Heap.get?_push_of_some _ e)
 have hDn:H2 s2.heap.objs.size=none:=I2.hok.fresh (Nat.le_refl _)
 have ok3:HOk X.prog X.w (upd H2 s2.heap.objs.size (.dT [])) H3:=I2.hok.laid kp3 (Nat.le_refl _) (by rw [←hH];exact dt_empty s2.heap (inv_big I2))
 have I4:=blk_invD (s4:={s2 with heap:=h',toks:=s2.toks + ([]:List (Str×Value)).length}) (Dd:=s2.heap.objs.size) (C:=H3.objs.size) I2 b f2 fl leC (Nat.le_refl _) ne rfl I2.bare (fun y o e=>kp4 y o (kp3 y o e)) hns (ok3.kept kp4)
 have R4:=blk_repD (s2:=s2) (fp:=fp) (C:=H3.objs.size) (Dd:=s2.heap.objs.size) (P:=P) b rv hP hDn
 have hfree:∀{H':Hp},(∀y∈fp,H' y=none)→∀y∈fp,FpOk (blk X scope cl s2 H2 fp H3.objs.size (N ++ [accN])) [] H' y:=fun hn y hy=>
  ⟨hn y hy,Nat.ne_of_lt (Nat.lt_of_lt_of_le (fl y hy) leC),fun z=>(List.mem_cons.mp (I2.stkSub y z)).elim (f2 y hy).2.1 (f2 y hy).2.2.1,.inl hy,fun x c ec=>(f2 y hy).2.2.2.2.1 x c (b.sub x c ec),fun p hp=>absurd (show p∈([]:List (Addr×Obj)) from hp) (by simp)⟩
 have loop:∀s5:Shared,s5={s2 with heap:=h',toks:=s2.toks + ([]:List (Str×Value)).length}→
   codeAny (model X.prog X.w) X.A (.compLoop (.DictComp (.Tuple es kt kp) vx [⟨tg,iter,ifs,0⟩] scope pos) 0 (.ref it) (.ref s2.heap.objs.size) (compEnvC scope cl H3.objs.size X.env))
    (compPost (model X.prog X.w) X.A X.xe none (EP X pins σ Q) (.ref s2.heap.objs.size) H3.objs.size) s5:=by
  rintro s5 rfl
  let Y:=blk X scope cl s2 H2 fp H3.objs.size (N ++ [accN])
  have he':∃ρe,loopF (turnF gf (blkD js.length t fa fe)) xs (capE js ρ ++ [some (.odt [] [])])=some (.nx ρe)∧ρe[js.length]? =some (some (.odt ks ys)):=by
   unfold lastDt at e
   split at e
   ·rename_i ρe eq
    refine ⟨ρe,eq,?_⟩
    split at e
    ·rename_i ks' ys' eq';cases e;exact eq'
    ·cases e
   ·cases e
  obtain ⟨ρe,eL,eY⟩:=he'
  refine comp_loopD (fun n s=>∃i σ' H' own' ρ',n=xs.length - i∧i≤xs.length∧Inv Y [] σ' H' s∧tn i s.heap∧(∀y∈fp,H' y=none)∧σ'[js.length]? =some (some (.ref s2.heap.objs.size))∧Rep Y P ρ' own' σ' H'∧loopF (turnF gf (blkD js.length t fa fe)) (xs.drop i) ρ'=some (.nx ρe)) ?_ xs.length
   ⟨0,_,_,_,_,by simp,Nat.zero_le _,I4,T.keep 0 _ _ st2 fun y hy o eo=>kp4 y o (kp3 y o eo),fun y hy=>by rw [upd_ne (Nat.ne_of_lt (fl y hy))];exact (f2 y hy).1,by rw [List.getElem?_append_right (by unfold capS;simp)];unfold capS;simp,R4,by simpa using eL⟩
  rintro n s ⟨i,σ',H',own',ρ',rfl,hi,I,st,fr,sl,rp,el⟩
  by_cases hlt:i < xs.length
  ·obtain ⟨go,yl⟩:=hgo Y rfl i own' ρ' σ' H' xs[i] rp (by simp [hlt])
   refine wpAny_mono (T.item Y rfl rfl rfl hcalm i [] s σ' H' Fa I (hfree fr) st go) (fun r s1 ⟨u,hr,h1⟩=>?_) fun _ _ z=>z
   subst hr
   refine wpAny_mono h1 (fun _ s3 ⟨x,H5,I5,r5,y5,st5,fr5⟩=>?_) fun _ _ z=>z
   obtain ⟨sm5,dx⟩:=yl x H5 y5
   replace rp:=rp.grow sm5
   rw [List.drop_eq_getElem_cons hlt,loopF] at el
   cases e1:turnF gf (blkD js.length t fa fe) xs[i] ρ' with
   | none=>rw [e1] at el;cases el
   | some r1=>
    rw [e1] at el
    simp only [Option.bind_some] at el
    unfold turnF at e1
    cases e2:gf xs[i] ρ' with
    | none=>rw [e2] at e1;cases e1
    | some ρ1=>
     rw [e2] at e1
     simp only [Option.bind_some,blkB,fIfS] at e1
     cases e3:t ρ1 with
     | none=>rw [e3] at e1;cases e1
     | some k=>
      rw [e3] at e1
      simp only [Option.bind_some] at e1
      have I5':=I5.pinned (hfree fr5) (T.obj _ _ st5)
      have gg:=hgf H3.objs.size P xs[i] x own' ρ' ρ1 σ' H5 (fun σ2 Hh=>∃own2,Rep Y P ρ1 own2 σ2 Hh∧σ2[js.length]? =some (some (.ref s2.heap.objs.size))) rp dx e2 (fun own2 σ2 rp2 k2=>⟨own2,rp2,k2.trans sl⟩)
      refine wpAny_mono (hg H3.objs.size _ s3 σ' H5 x u _ I5' r5 gg) (fun _ s6 ⟨σ6,H6,I6,own6,rp6,sl6⟩=>?_) fun _ _ z=>z
      have back:∀{s7:Shared} {H7:Hp} {own7:Nat→Option Addr} {ρ7:Ev},Inv Y ([] ++ pinsAt fp s3.heap) σ6 H7 s7→Rep Y P ρ7 own7 σ6 H7→loopF (turnF gf (blkD js.length t fa fe)) (xs.drop (i + 1)) ρ7=some (.nx ρe)→
        ∃m,m < xs.length - i∧∃i σ' H' own' ρ',m=xs.length - i∧i≤xs.length∧Inv Y [] σ' H' s7∧tn i s7.heap∧(∀y∈fp,H' y=none)∧σ'[js.length]? =some (some (.ref s2.heap.objs.size))∧Rep Y P ρ' own' σ' H'∧loopF (turnF gf (blkD js.length t fa fe)) (xs.drop i) ρ'=some (.nx ρe):=fun {s7 H7 own7 ρ7} I7 rp7 e7=>by
       refine ⟨xs.length - (i + 1),by (first|lia|omega),i + 1,σ6,H7,own7,ρ7,rfl,hlt,I7.unpinned,T.keep _ _ _ st5 fun y hy o eo=>(I7.pin (y,o) (List.mem_append_right _ (List.mem_append_right _ (mem_pinsAt hy eo)))).1,fun y hy=>?_,sl6,rp7,e7⟩
       obtain ⟨o,eo,_⟩:=T.obj _ _ st5 y hy
       exact (I7.pin (y,o) (List.mem_append_right _ (List.mem_append_right _ (mem_pinsAt hy eo)))).2.1
      refine wpAny_mono (htt H3.objs.size _ s6 σ6 H6 ρ1 k (fun k' Hh=>k'=k∧Same H6 Hh) I6 rp6.view e3 (fun H' sm=>⟨rfl,sm⟩)) (fun ok s7 ⟨H7,I7,hk,sm7⟩=>?_) fun _ _ z=>z
      subst hk
      cases ok with
      | false=>
       rw [if_neg Bool.false_ne_true] at e1 ⊢
       cases e1
       exact back I7 (rp6.grow sm7) el
      | true=>
       rw [if_pos rfl] at e1 ⊢
       have rp7:=rp6.grow sm7
       unfold fDPut at e1
       cases e4:fe ρ1 with
       | none=>rw [e4] at e1;cases e1
       | some d=>
        cases e5:fa ρ1 with
        | none=>rw [e4,e5] at e1;cases e1
        | some ds=>
         rw [e4,e5] at e1
         simp only [Option.bind_some] at e1
         cases e6:intsOf ds with
         | none=>rw [e6] at e1;cases e1
         | some kk=>
          rw [e6] at e1
          simp only [Option.bind_some] at e1
          split at e1
          ·rename_i kz zs e0
           split at e1
           ·rename_i hl
            cases e1
            refine wpAny_mono (pe_tup (hka H3.objs.size) _ s7 σ6 H7 (fun v H9=>∃p H8,v= .ref p∧Same H7 H8∧H8 p=none∧H9=upd H8 p (.tup (kk.map V.int))) I7 ⟨ρ1,ds,rp7.view,e5,fun us H8 s8 l8=>⟨?_,fun p hp=>?_⟩⟩) (fun u8 s8 ⟨v8,H9,I9,r9,p,H8,ev8,sm8,hp8,eh9⟩=>?_) fun _ _ z=>z
            ·rw [←denL_length l8,intsOf_eq e6,List.length_map];exact Nat.le_trans hl.2.2 lim_line
            ·rw [intsOf_eq e6] at l8
             exact ⟨p,H8,rfl,s8,hp,by rw [denL_of_ints l8]⟩
            subst ev8 eh9
            cases (show u8=Value.ref p from r9)
            have sm9:Same H7 (upd H8 p (.tup (kk.map V.int))):=sm8.trans (same_upd hp8 _)
            have rp9:=rp7.grow sm9
            refine wpAny_mono (he H3.objs.size _ s8 σ6 _ (fun v H10=>Same (upd H8 p (.tup (kk.map V.int))) H10∧DenF X.K (upd H8 p (.tup (kk.map V.int))) H10 d v) I9 ⟨ρ1,d,rp9.view,e4,fun v H10 s10 d10=>⟨s10,d10⟩⟩) (fun u10 s10 ⟨v10,H10,I10,r10,sm10,d10⟩=>?_) fun _ _ z=>z
            have rp10:=rp9.grow sm10
            obtain ⟨va,h1,a,vs,h2,h3,h4,hkl,fz,lz⟩:=rp10.slot js.length _ e0
            rw [sl6] at h1
            cases h1
            cases h3
            have hlv:kz.length=vs.length:=by rw [hkl,denL_length lz]
            have kl:(zipK kz vs).length < sizeLine:=by
             unfold zipK
             rw [List.length_zipWith,hlv,Nat.min_self,←hlv]
             exact Nat.lt_of_lt_of_le hl.2.1 lim_line
            refine d_dictSet (X:=Y) (A:=X.A) hu I10 h4 (k:=kk.map Sum.inl) (b:=p) (by rw [inl_kV];exact sm10 _ _ upd_same) kl r10 fun s11 I11=>?_
            rw [zipK_put hlv] at I11
            exact back I11 (rp10.mutT e0 h2 (putX_length hkl) (putX_lf fz hl.1) (putX_den (denL_lf _ _ fz lz) d10.den)) el
           ·cases e1
          ·cases e1
  ·have hie:i=xs.length:=by (first|lia|omega)
   subst hie
   refine wpAny_mono (T.done Y rfl rfl rfl hcalm _ [] s σ' H' Fa I (hfree fr) st (hst Y rfl own' ρ' σ' H' rp)) (fun r s1 ⟨hr,I1⟩=>?_) fun _ _ z=>z
   subst hr
   rw [List.drop_eq_nil_of_le (Nat.le_refl _),loopF] at el
   cases el
   obtain ⟨m,hnm,_⟩:=id I1.loc
   refine ⟨m,hnm,fun h9 hs9=>?_⟩
   obtain ⟨va,h1,a,vs,h2,h3,h4,hkl,fz,lz⟩:=rp.slot js.length _ eY
   rw [sl] at h1
   cases h1
   cases h3
   have neC:∀y,H' y≠none→y≠H3.objs.size:=fun y z w=>z (by rw [w];exact I1.free)
   have inS:∀y o,s2.heap.get? y=some o→y≠H3.objs.size:=fun y o e0=>Nat.ne_of_lt (Nat.lt_of_lt_of_le (Heap.lt_size e0) leC)
   have B:=I1.base
   have un:Un (frs X.stack) fp H2 H' s2.heap h9:=⟨fun y o e0 n hb hx=>(hs9.2 y (inS y o e0)).trans (B.keep y o e0 n hb hx),fun y o e0 n hb hx=>by
     obtain ⟨sl',z⟩:=B.slot y o e0 n hb hx
     exact ⟨sl',(hs9.2 y (inS y o e0)).trans z⟩,B.free,fun y o e0 hx=>by
     obtain ⟨o',z⟩:=B.there y o e0 hx
     exact ⟨o',(hs9.2 y (inS y o e0)).trans z⟩,B.tups,B.frzs,B.tbls⟩
   have hok:HOk X.prog X.w H' h9:=fun y u0 q0=>(I1.hok y u0 q0).stay (fun c v hc z=>(hs9.2 c (neC c (by
     rcases hc with w | w
     ·rw [w,q0];exact fun z=>nomatch z
     ·rw [w];exact fun z=>nomatch z))).trans z) (fun _ z=>z) fun _ _ z=>z
   refine ⟨.ref s2.heap.objs.size,H',I2.call' (s':={s1 with heap:=h9}) (ch:=fp) I1.os un hok I1.bare (fun y hy=>⟨(f2 y hy).2.2.2.1,(f2 y hy).2.1,(f2 y hy).2.2.2.2.1,(f2 y hy).2.2.2.2.2⟩),rfl,?_⟩
   exact q _ H' rp.same ⟨_,vs,rfl,hDn,h4,hkl,denL_lf _ _ fz lz⟩
 exact codeAny_compStart_dict (loop _ rfl) (T.self _ 0 _ _ _ (T.keep 0 _ _ st2 fun y hy o eo=>kp4 y o (kp3 y o eo)) (loop _ rfl))
end
end Tw
set_option Elab.async false
set_option linter.all false
set_option maxRecDepth 100000
set_option maxHeartbeats 1000000
namespace Tw
open PySem PySem.Spec PyProof.Rows L2
noncomputable def fDCompL (js:List (Option Nat)) (gf:D→Ev→Option Ev) (t:FT) (fa:FA) (fe:FE) (xs:List D):FE:=fun ρ=>lastDt js.length (loopF (turnF gf (blkD js.length t fa fe)) xs (capE js ρ ++ [some (.odt [] [])]))
noncomputable def fDComp (f:FE) (js:List (Option Nat)) (gf:D→Ev→Option Ev) (t:FT) (fa:FA) (fe:FE):FE:=fun ρ=>(f ρ).bind fun d=>(items d).bind fun xs=>fDCompL js gf t fa fe xs ρ
theorem lastDt_odt {k:Nat}{r:Option R}{d:D}(e:lastDt k r=some d):∃ks ys,d= .odt ks ys:=by
 unfold lastDt at e
 split at e
 ·split at e
  ·cases e;exact ⟨_,_,rfl⟩
  ·cases e
 ·cases e
section
variable {X:Cx}{scope:Scope}{cl:List (Str×Addr)}{N:List Str}{js:List (Option Nat)}{iter a:Expr}{ifs:List Expr}{x:Str}{px pos p p2:Pos}{f:FE}{t:FT}{fe:FE}
theorem qx_dcompG {k:Nat}{es:List Expr}{vx tg:Expr}{kt:Nat}{kp:Pos}{fa:FA}{gg:TG}{gf:D→Ev→Option Ev}(hr:Room k X.A)(hc:X.calm=true)(b:Blk X scope cl N js)(hg:∀s2 H2 fp C,PG (blk X scope cl s2 H2 fp C (N ++ [accN])) tg gg)(hgf:∀s2 H2 fp C,PXGk (blk X scope cl s2 H2 fp C (N ++ [accN])) js.length gg gf)(ha:QX X iter f)(ht:∀s2 H2 fp C,Tst (blk X scope cl s2 H2 fp C (N ++ [accN])) ifs t)(hka:∀s2 H2 fp C,QA (blk X scope cl s2 H2 fp C (N ++ [accN])) es fa)(he:∀s2 H2 fp C,QX (blk X scope cl s2 H2 fp C (N ++ [accN])) vx fe)
  (hs:autoParam (∀x,foldedSetIterable iter X.env x=pure x) Zau.a3._auto_1):
  QX X (.DictComp (.Tuple es kt kp) vx [⟨tg,iter,ifs,0⟩] scope pos) (fDComp f js gf t fa fe):=by
 refine ⟨fun pins s σ H Q I ⟨ρ,d,rv,e,q⟩=>?_⟩
 unfold fDComp at e
 cases e1:f ρ with
 | none=>rw [e1] at e;cases e
 | some d0=>
  rw [e1] at e
  simp only [Option.bind_some] at e
  cases e2:items d0 with
  | none=>rw [e2] at e;cases e
  | some xs=>
   rw [e2] at e
   simp only [Option.bind_some] at e
   obtain ⟨ks,ys,rfl⟩:=lastDt_odt e
   rw [arm_eval_DictComp]
   refine wpAny_comprehension_free (use:=none) rfl hs b.clos b.kind b.nms ?_
   have hw:iSeq X.K (tX X f) σ H (fun J H1=>Same H H1∧∃a0,Den X.K Emp H1 (frz d0) (.ref a0)∧((J=Itl X.K a0∧∀zs,d0≠.tup zs)∨(J=Itt X.K a0∧∃zs,d0= .tup zs))):=by
    refine ⟨ρ,d0,rv,e1,fun v H1 s1 d1=>?_⟩
    have dd:=d1.den
    obtain ⟨a0,vs,rfl,hq,l⟩:=den_items e2 dd
    cases d0 with
    | tup zs=>
     have z:=dd
     rw [Den] at z
     obtain ⟨a1,vs1,ev,hq1,_⟩:=z
     cases ev
     exact .inr ⟨a0,rfl,⟨_,hq1⟩,s1,a0,den_frz.mpr dd,.inr ⟨rfl,zs,rfl⟩⟩
    | lst zs=>
     have z:=dd
     rw [Den] at z
     obtain ⟨a1,vs1,ev,hq1,_⟩:=z
     cases ev
     exact .inl ⟨a0,rfl,⟨_,.inl (.inl hq1)⟩,s1,a0,den_frz.mpr dd,.inl ⟨rfl,fun zs z=>nomatch z⟩⟩
    | own zs=>
     have z:=dd
     rw [Den] at z
     obtain ⟨a1,vs1,ev,hq1,_⟩:=z
     cases ev
     exact .inl ⟨a0,rfl,⟨_,.inl (.inl hq1)⟩,s1,a0,den_frz.mpr dd,.inl ⟨rfl,fun zs z=>nomatch z⟩⟩
    | scr zs=>
     have z:=dd
     rw [Den] at z
     obtain ⟨a1,vs1,ev,hq1,_⟩:=z
     cases ev
     refine .inl ⟨a0,rfl,⟨vs1,?_⟩,s1,a0,den_frz.mpr dd,.inl ⟨rfl,fun zs z=>nomatch z⟩⟩
     rcases hq1 with ⟨o,w⟩ | w
     ·exact .inl (.inr ⟨o,w⟩)
     ·rcases w with (w | ⟨o,w⟩) | w
      ·cases w
      ·cases w
      ·exact .inr w
    | _=>simp [items] at e2
   refine wpAny_mono (pi_seq (tg:=tg) ha.to pins s σ H _ I hw) (fun v s1 h1=>wpAny_mono h1 (fun itv s2 h2=>?_) fun _ _ z=>z) fun _ _ z=>z
   obtain ⟨it,fp,tn,J,H2,rfl,I2,T,st2,f2,sm,a0,dd,kd⟩:=h2
   have e2':items (frz d0)=some xs:=by cases d0 <;> first | exact e2 | (simp [items] at e2)
   have any:∀{K:PySem.W.Frag} {O:Addr→Prop} {Hh:Hp},Den K O Hh (frz d0) (.ref a0)→∃vs,DenL K O Hh xs vs∧((SqL K Hh a0 vs∧∀zs,d0≠.tup zs)∨(SqT K Hh a0 vs∧∃zs,d0= .tup zs)):=fun {K O Hh} z=>by
    cases d0 with
    | tup zs=>
     cases e2
     simp only [frz] at z
     rw [Den] at z
     obtain ⟨a1,vs1,ev,hq1,l⟩:=z
     cases ev
     exact ⟨vs1,l,.inr ⟨hq1,_,rfl⟩⟩
    | lst zs=>
     cases e2
     simp only [frz] at z
     rw [Den] at z
     obtain ⟨a1,vs1,ev,hq1,_,l⟩:=z
     cases ev
     exact ⟨vs1,l,.inl ⟨.inl (.inl hq1),fun zs z=>nomatch z⟩⟩
    | own zs=>
     cases e2
     simp only [frz] at z
     rw [Den] at z
     obtain ⟨a1,vs1,ev,hq1,_,l⟩:=z
     cases ev
     exact ⟨vs1,l,.inl ⟨.inl (.inl hq1),fun zs z=>nomatch z⟩⟩
    | scr zs=>
     cases e2
     simp only [frz] at z
     rw [Den] at z
     obtain ⟨a1,vs1,ev,hq1,l⟩:=z
     cases ev
     refine ⟨vs1,l,.inl ⟨?_,fun zs z=>nomatch z⟩⟩
     rcases hq1 with ⟨o,w⟩ | w
     ·exact .inl (.inr ⟨o,w⟩)
     ·rcases w with (w | ⟨o,w⟩) | w
      ·cases w
      ·cases w
      ·exact .inr w
    | _=>simp [items] at e2
   refine comp_coreD (P:=[(frz d0,.ref a0)]) (xs:=xs) hc I2 T st2 f2 b (rv.same sm) (fun p hp=>by rw [List.mem_singleton.mp hp];exact dd) (fun Y hY i own ρ σ Hh y rp ey=>?_) (fun Y hY own ρ σ Hh rp=>?_) (hg s2 H2 fp) (hgf s2 H2 fp) (fun C=>(ht s2 H2 fp C).to) (hu_of hr) (fun C=>(hka s2 H2 fp C).to) (fun C=>(he s2 H2 fp C).to) e (fun Dd H' s' d'=>q _ H' (sm.trans s') (d'.elder sm))
   ·have z:=rp.prot _ List.mem_cons_self
    rw [hY] at z
    obtain ⟨vs,l,kk⟩:=any z
    obtain ⟨v0,hv0,dv0⟩:=denL_get l ey
    rcases kd with ⟨rfl,nt⟩ | ⟨rfl,zs,et⟩
    ·rcases kk with ⟨hq,_⟩ | ⟨_,zs,et⟩
     ·exact ⟨⟨vs,v0,hq,hv0⟩,fun w H' ⟨y1,y2⟩=>by subst y1;have:=y2 vs hq;rw [hv0] at this;cases this;exact ⟨Same.refl _,dv0⟩⟩
     ·exact absurd et (nt _)
    ·rcases kk with ⟨_,nt⟩ | ⟨hq,_⟩
     ·exact absurd et (nt _)
     ·exact ⟨⟨vs,v0,hq,hv0⟩,fun w H' ⟨y1,y2⟩=>by subst y1;have:=y2 vs hq;rw [hv0] at this;cases this;exact ⟨Same.refl _,dv0⟩⟩
   ·have z:=rp.prot _ List.mem_cons_self
    rw [hY] at z
    obtain ⟨vs,l,kk⟩:=any z
    rcases kd with ⟨rfl,nt⟩ | ⟨rfl,zs,et⟩
    ·rcases kk with ⟨hq,_⟩ | ⟨_,zs,et⟩
     ·exact ⟨vs,hq,by rw [←denL_length l];exact Nat.le_refl _⟩
     ·exact absurd et (nt _)
    ·rcases kk with ⟨_,nt⟩ | ⟨hq,_⟩
     ·exact absurd et (nt _)
     ·exact ⟨vs,hq,by rw [←denL_length l];exact Nat.le_refl _⟩
theorem qx_dcompT {k:Nat}{es ts:List Expr}{vx:Expr}{kt kt2:Nat}{kp pt:Pos}{fa:FA}{is:List Nat}(hr:Room k X.A)(hc:X.calm=true)(b:Blk X scope cl N js)(hN:(N ++ [accN]).Nodup)(tg:∀s2 H2 fp C,Tg (blk X scope cl s2 H2 fp C (N ++ [accN])) ts is)(ha:QX X iter f)
  (hka:∀s2 H2 fp C,QA (blk X scope cl s2 H2 fp C (N ++ [accN])) es fa) (he:∀s2 H2 fp C,QX (blk X scope cl s2 H2 fp C (N ++ [accN])) vx fe)
  (hk:∀i∈is,i≠js.length) (hn:autoParam (∀C,(assignEach ts (compEnvC scope cl C X.env)).length=is.length) Zau.a3._auto_1) (hst:autoParam (∀C,(assignEach ts (compEnvC scope cl C X.env)).findIdx? (·.1)=none) Zau.a3._auto_1) (hs:autoParam (∀x,foldedSetIterable iter X.env x=pure x) Zau.a3._auto_1):
  QX X (.DictComp (.Tuple es kt kp) vx [⟨.Tuple ts kt2 pt,iter,[],0⟩] scope pos) (fDComp f js (gfTup is) (fun _=>some true) fa fe):=
 qx_dcompG (gg:=gTup X.K is.length (gAll is)) hr hc b (fun s2 H2 fp C=>pg_names (X:=blk X scope cl s2 H2 fp C (N ++ [accN])) hc hN (tg s2 H2 fp C) (hn C) (hst C)) (fun s2 H2 fp C=>pxgk_tup (Y:=blk X scope cl s2 H2 fp C (N ++ [accN])) is hk) ha (fun s2 H2 fp C=>tst_nil) hka he hs
end
end Tw
set_option Elab.async false
set_option linter.all false
set_option maxRecDepth 100000
set_option maxHeartbeats 1000000
namespace Tw
open PySem PySem.Spec PyProof.Rows L2
noncomputable def intV:Value→Int
 | .int i _=>i
 | _=>0
noncomputable def readI (h:Heap):Value→Option (List Int)
 | .ref a=>match h.get? a with
  | some o=>match o.data with
   | .seq its _=>some (its.toList.map intV)
   | _=>none
  | none=>none
 | _=>none
theorem vals_intV:∀{k:List Int} {its:List Value},Vals (k.map V.int) its→its.map intV=k
 | [],_,r=>by cases r;rfl
 | i :: k,_,r=>by
  cases r with
  | cons r1 r2=>
   obtain ⟨t,rfl⟩:=r1
   rw [List.map_cons,vals_intV r2];rfl
theorem deqL_ints {m:Nat}:∀(a b:List Int),deqL (deq m) (a.map D.int) (b.map D.int)=some (decide (a=b))
 | [],[]=>rfl
 | [],_ :: _=>rfl
 | _ :: _,[]=>rfl
 | x :: a,y :: b=>by
  have ih:=deqL_ints (m:=m) a b
  have e:deq m (.int x) (.int y)=some (x == y):=by cases m <;> rfl
  simp only [List.map_cons,deqL,e,ih,Option.bind_some,Option.map_some]
  congr 1
  by_cases h:x=y
  ·simp [h]
  ·simp [h]
theorem deq_tupI {m:Nat}(a b:List Int):deq (m + 1) (tupI a) (tupI b)=some (decide (a=b)):=deqL_ints a b
section
variable {X:Cx}{a b e:Expr}{pos:Pos}{f g:FE}
theorem den_tupI {K:PySem.W.Frag}{H:Hp}{c:Addr}{k:List Int}(q:SqT K H c (k.map V.int)):Den K Emp H (tupI k) (.ref c):=by
 unfold tupI
 rw [Den]
 exact ⟨c,_,rfl,q,denL_ints _⟩
noncomputable def rInT (K:PySem.W.Frag) (neg:Bool):R2:=fun x y H Q=>∃k ks p as,Den K Emp H (tupI k) x∧y= .ref p∧SqL K H p (as.map V.ref)∧Al K H as ks∧Q (.bl (if neg then !decide (k∈ks) else decide (k∈ks))) H
theorem vals_refs2:∀{as:List Addr} {its:List Value},Vals (as.map V.ref) its→its=as.map Value.ref
 | [],_,r=>by cases r;rfl
 | a :: as,_,r=>by
  cases r with
  | cons r1 r2=>cases (show _=Value.ref a from r1);rw [List.map_cons,vals_refs2 r2]
theorem inT_core {k0:Nat}(hr:Room k0 X.A){pins:List (Addr×Obj)}{σ:L2.St}{H:Hp}{s:Shared}(I:Inv X pins σ H s){k:List Int}{x:V}{v:Value}(hx:Den X.K Emp H (tupI k) x)(rx:RelV x v):∀{as:List Addr} {ks:List (List Int)},Al X.K H as ks→
  (∀y∈as.map Value.ref,SeqAt.EqAt X.A.in1 s y v (decide (readI s.heap y=some k)))∧((as.map Value.ref).any fun y=>decide (readI s.heap y=some k))=decide (k∈ks):=by
 intro as ks al
 induction al with
 | nil=>exact ⟨fun y hy=>by simp at hy,by simp⟩
 | @cons c k' as ks q r ih=>
  obtain ⟨its,r1,⟨o,ho,_,n,hd⟩,_⟩:=I.tuple q
  have er:readI s.heap (.ref c)=some k':=by
   unfold readI
   dsimp only
   rw [ho]
   dsimp only
   rw [hd]
   dsimp only
   rw [vals_intV r1]
  have eq:SeqAt.EqAt X.A.in1 s (.ref c) v (decide (readI s.heap (.ref c)=some k)):=by
   rw [er]
   have z:=(deq_at I 20 X.A.in1 (by have:=hr.units;show X.A.units + 1 + 20 + 1 < _;(first|lia|omega)) (tupI k') (tupI k) (.ref c) x (.ref c) v _ (deq_tupI k' k) (den_tupI q) hx rfl rx).1
   have e2:decide (some k'=some k)=decide (k'=k):=by simp
   rw [e2];exact z
  refine ⟨fun y hy=>?_,?_⟩
  ·rw [List.map_cons] at hy
   rcases List.mem_cons.mp hy with rfl | hy
   ·exact eq
   ·exact ih.1 y hy
  ·rw [List.map_cons,List.any_cons,ih.2,er]
   by_cases h:k'=k
   ·simp [h]
   ·have h':¬k=k':=fun z=>h z.symm
    simp [h,h']
theorem op_inT {k0:Nat}(hr:Room k0 X.A):OpR X (compareOp .In) (rInT X.K false):=by
 intro pins s σ H x y v u Q I rx ry ⟨k,ks,p,as,hx,ey,hq,al,q⟩
 subst ey
 cases ry
 obtain ⟨its,r,pl,hz⟩:=I.list hq
 obtain rfl:=vals_refs2 r
 obtain ⟨c1,c2⟩:=inT_core hr I hx rx al
 refine SeqAt.in_listAt (fun y=>decide (readI s.heap y=some k)) pl.isList (fun w hw=>c1 w (by simpa using hw)) ⟨.bl _,H,I,rfl,?_⟩
 rw [show ((as.map Value.ref).toArray.any fun y=>decide (readI s.heap y=some k))=((as.map Value.ref).any fun y=>decide (readI s.heap y=some k)) by simp,c2]
 exact q
noncomputable def oInT (neg:Bool) (x y:D):Option D:=match x with
 | .tup ds=>(intsOf ds).bind fun k=>(asL y).bind fun zs=>(tupsOf zs).map fun ks=>.bl (if neg then !decide (k∈ks) else decide (k∈ks))
 | _=>none
theorem kInT {neg:Bool}:∀(x y d:D) (v u:V) (H:Hp) (Q:VK),oInT neg x y=some d→Den X.K Emp H x v→Den X.K Emp H y u→(∀w H',Same H H'→DenF X.K H H' d w→Q w H')→rInT X.K neg v u H Q:=by
 intro x y d v u H Q e hx hy q
 unfold oInT at e
 cases x <;> simp only at e <;> try cases e
 rename_i ds
 cases e1:intsOf ds with
 | none=>rw [e1] at e;cases e
 | some k=>
  rw [e1] at e
  simp only [Option.bind_some] at e
  cases e2:asL y with
  | none=>rw [e2] at e;cases e
  | some zs=>
   rw [e2] at e
   simp only [Option.bind_some] at e
   cases e3:tupsOf zs with
   | none=>rw [e3] at e;cases e
   | some ks=>
    rw [e3] at e;cases e
    obtain ⟨p,vs,ev,hq,_,l⟩:=den_asL e2 hy
    obtain ⟨as,rfl,al⟩:=tupsOf_den e3 l
    refine ⟨k,ks,p,as,?_,ev,.inl (.inl hq),al,q _ H (Same.refl H) denF_bl⟩
    rw [intsOf_eq e1] at hx
    exact hx
theorem qx_inT {k:Nat}(hr:Room k X.A)(ha:QX X a f)(hb:QX X b g)(hm:autoParam (behindInMarks .In b=false) Zau.a2._auto_1):QX X (.Compare a [.In] [b] pos) (fBin (oInT false) f g):=⟨px_cmp (op_inT hr) kInT ha.to hb.to hm⟩
theorem qxt_inT {k:Nat}(hr:Room k X.A)(ha:QX X a f)(hb:QX X b g)(hm:autoParam (behindInMarks .In b=false) Zau.a2._auto_1):QT X (.Compare a [.In] [b] pos) (fTest (fBin (oInT false) f g)):=⟨pt_cmpX (op_inT hr) kInT ha.to hb.to hm⟩
theorem zipK_none {K:PySem.W.Frag}{O:Addr→Prop}{H:Hp}:∀{ks:List (List Int)} {xs:List D} {vs:List V} {k:List Int},DenL K O H xs vs→ks.length=xs.length→lookD ks xs k=none→valV (zipK ks vs) (k.map Sum.inl)=none
 | [],_,_,_,_,_,_=>by simp [zipK,valV]
 | _ :: _,[],_,_,_,hl,_=>by simp at hl
 | k' :: ks,x0 :: xs,vs,k,l,hl,e=>by
  rw [DenL] at l
  obtain ⟨v,r,rfl,h,l⟩:=l
  simp only [lookD] at e
  unfold zipK
  rw [List.zipWith_cons_cons]
  split at e
  ·cases e
  ·rename_i q
   rw [valV_neg (fun z=>q (inl_inj z))]
   exact zipK_none l (by simpa using hl) e
noncomputable def rGet (K:PySem.W.Frag):V→List V→Hp→VK→Prop:=fun x vs H Q=>∃a b kvs k w,x= .ref a∧vs=[.ref b,w]∧H a=some (.dT kvs)∧SqT K H b (k.map kV)∧Q ((valV kvs k).getD w) H
theorem mt_getD {k0:Nat}(hr:Room k0 X.A):MtR X "dict.get" (rGet X.K):=by
 intro pins s σ H x xs v us Q I rx rv ⟨a,b,kvs,k,w,ex,evs,ha,hq,q⟩
 subst ex evs
 cases rx
 obtain ⟨u,w',rfl,ru,rw'⟩:=vals2 rv
 cases (show u=Value.ref b from ru)
 obtain ⟨z,hd,ys,rel,dd⟩:=dt_of I.hok ha
 refine call_meetsIn PySem.F.slot_dict_get dd.typeIs PySem.F.entry_dict_get (PySem.F.args_dict_get_3 _ _ _) (meetsH_dict_get_default (tupleKind (mixKind X.prog X.w)) a b hd w') ⟨tupleKind_room_in1 (hu_of hr),k,ys,key_ofT I hq,dd,?_⟩
 exact ⟨_,H,I.tok _,(rel.val k).getD rw',q⟩
noncomputable def asDct:D→Option (List (List Int)×List D)
 | .dct ks xs=>some (ks,xs)
 | .odt ks xs=>some (ks,xs)
 | _=>none
noncomputable def fGet (f:FE) (fa:FA):FE:=fun ρ=>(f ρ).bind fun x=>(asDct x).bind fun p=>(fa ρ).bind fun ds=>match ds with
 | [.tup es,d]=>(intsOf es).map fun k=>match lookD p.1 p.2 k with | some y=>frz y | none=>frz d
 | _=>none
theorem qx_get {k0:Nat}{e':Expr}{apos cpos:Pos}{fa:FA}(hr:Room k0 X.A)(ha:QX X a f)(hb:QA X [e,e'] fa)
  (hbase:autoParam (attributeBase a "get" X.env (eval a X.env)=eval a X.env) Zau.a2._auto_1)
  (hfew:autoParam (((backTo cpos (starEach [e,e'] X.env)).all (fun x=>!x.1) && (backToKw cpos (keywordEach [] X.env)).all (fun x=>x.1.isSome) && decide (([e,e']:List Expr).length + ([]:List Keyword).length + (if ([]:List Keyword).isEmpty then 0 else 1) < 30))=true) Zau.a2._auto_1)
  (hline:autoParam ((apos.endLine == cpos.line)=true) Zau.a2._auto_1) (hs:autoParam (starEach [e,e'] X.env=(false,eval e X.env) :: starEach [e'] X.env) Zau.a2._auto_1) (hpl:autoParam ((backTo cpos (starEach [e'] X.env)).any (·.1)=false) Zau.a2._auto_1):
  QX X (.Call (.Attribute a "get" apos) [e,e'] [] cpos) (fGet f fa):=
 ⟨PE.weak (pe_bm PySem.F.plainAttrs_dict PySem.F.slot_dict_get PySem.F.type_dict_get (mt_getD hr) ha.to hb.to hbase hfew hline hs hpl) fun σ H Q ⟨ρ,d,rv,e,q⟩=>by
 unfold fGet at e
 cases e1:f ρ with
 | none=>rw [e1] at e;cases e
 | some x=>
  rw [e1] at e
  simp only [Option.bind_some] at e
  cases e2:asDct x with
  | none=>rw [e2] at e;cases e
  | some p=>
   obtain ⟨ks,xs⟩:=p
   rw [e2] at e
   simp only [Option.bind_some] at e
   cases e3:fa ρ with
   | none=>rw [e3] at e;cases e
   | some ds=>
    rw [e3] at e
    simp only [Option.bind_some] at e
    split at e
    ·rename_i es dd
     cases e4:intsOf es with
     | none=>rw [e4] at e;cases e
     | some k=>
      rw [e4] at e
      simp only [Option.map_some] at e
      have dict:∀{H1:Hp} {v:V},Den X.K Emp H1 x v→∃c vs,v= .ref c∧H1 c=some (.dT (zipK ks vs))∧ks.length=xs.length∧DenL X.K Emp H1 xs vs:=fun {H1 v} h=>by
       cases x <;> simp only [asDct] at e2 <;> try cases e2
       ·rw [Den] at h
        obtain ⟨c,vs,ev,hq,_,hl,l⟩:=h
        exact ⟨c,vs,ev,hq,hl,l⟩
       ·rw [Den] at h
        obtain ⟨c,vs,ev,hq,_,hl,l⟩:=h
        exact ⟨c,vs,ev,hq,hl,l⟩
      refine ⟨ρ,x,rv,e1,fun v H1 s1 d1=>?_⟩
      obtain ⟨c,vs,ev,hq,hl,l⟩:=dict d1.den
      subst ev
      refine ⟨.inr (.inr (.inl ⟨rfl,.inr ⟨_,hq⟩⟩)),ρ,_,rv.same s1,e3,fun us H2 s2 l2=>?_⟩
      rw [DenL] at l2
      obtain ⟨w1,r1,rfl,g1,l2⟩:=l2
      obtain ⟨w2,rfl,g2⟩:=denL1 l2
      rw [intsOf_eq e4,Den] at g1
      obtain ⟨b,ws,rfl,hb',lw⟩:=g1
      rw [denL_of_ints lw] at hb'
      have l3:=denL_same s2 l
      refine ⟨c,b,_,k.map Sum.inl,w2,rfl,rfl,s2 _ _ hq,by rw [inl_kV];exact hb',q _ _ (s1.trans s2) ?_⟩
      cases e5:lookD ks xs k with
      | none=>
       rw [e5] at e
       cases e
       rw [zipK_none l3 hl e5]
       exact DenF.of (den_frz.mpr g2)
      | some y=>
       rw [e5] at e
       cases e
       obtain ⟨v',hv',dv⟩:=zipK_val l3 e5
       rw [hv']
       exact DenF.of (den_frz.mpr dv)
    ·cases e⟩
end
end Tw
set_option Elab.async false
set_option linter.all false
set_option maxRecDepth 100000
set_option maxHeartbeats 1500000
local macro_rules | `(tactic| walk_at "tw a") => `(tactic| first | exact Tw.qxa_nil | (refine' Tw.qxa_cons ?h0 ?h1; (case h0 => walk_at "tw e"); (case h1 => walk_at "tw a")))
local macro_rules | `(tactic| walk_at "tw n") => `(tactic| first | exact Tw.qx_name 0 | exact Tw.qx_name 1 | exact Tw.qx_name 2 | exact Tw.qx_name 3 | exact Tw.qx_name 4 | exact Tw.qx_name 5 | exact Tw.qx_name 6 | exact Tw.qx_name 7 | exact Tw.qx_name 8 | exact Tw.qx_name 9 | exact Tw.qx_name 10 | exact Tw.qx_name 11 | exact Tw.qx_name 12 | exact Tw.qx_name 13 | exact Tw.qx_name 14 | exact Tw.qx_name 15 | exact Tw.qx_name 16 | exact Tw.qx_name 17 | exact Tw.qx_name 18 | exact Tw.qx_name 19)
local macro_rules | `(tactic| walk_at "tw e") => `(tactic| first
 | exact Tw.qx_int | exact Tw.qx_bl | exact Tw.qx_non | exact Tw.qx_str | exact Tw.qx_dic | walk_at "tw n"
 | (refine' Tw.qx_addT ?h0 ?h1;(case h0=>walk_at "tw e");(case h1=>walk_at "tw e")) | (refine' Tw.qx_sub ?h0 ?h1;(case h0=>walk_at "tw e");(case h1=>walk_at "tw e")) | (refine' Tw.qx_mul ?h0 ?h1;(case h0=>walk_at "tw e");(case h1=>walk_at "tw e")) | (refine' Tw.qx_div ?h0 ?h1;(case h0=>walk_at "tw e");(case h1=>walk_at "tw e")) | (refine' Tw.qx_mod ?h0 ?h1;(case h0=>walk_at "tw e");(case h1=>walk_at "tw e")) | (refine' Tw.qx_pow ?h0 ?h1;(case h0=>walk_at "tw e");(case h1=>walk_at "tw e"))
 | (refine' Tw.qx_neg ?h0;(case h0=>walk_at "tw e")) | (refine' Tw.qx_not ?h0;(case h0=>walk_at "tw e"))
 | (refine' Tw.qx_ltT (by assumption) ?h0 ?h1;(case h0=>walk_at "tw e");(case h1=>walk_at "tw e")) | (refine' Tw.qx_le ?h0 ?h1;(case h0=>walk_at "tw e");(case h1=>walk_at "tw e")) | (refine' Tw.qx_gt ?h0 ?h1;(case h0=>walk_at "tw e");(case h1=>walk_at "tw e")) | (refine' Tw.qx_ge ?h0 ?h1;(case h0=>walk_at "tw e");(case h1=>walk_at "tw e"))
 | (refine' Tw.qx_eq (by assumption) ?h0 ?h1;(case h0=>walk_at "tw e");(case h1=>walk_at "tw e")) | (refine' Tw.qx_ne (by assumption) ?h0 ?h1;(case h0=>walk_at "tw e");(case h1=>walk_at "tw e")) | (refine' Tw.qx_is ?h0 ?h1;(case h0=>walk_at "tw e");(case h1=>walk_at "tw e")) | (refine' Tw.qx_isnot ?h0 ?h1;(case h0=>walk_at "tw e");(case h1=>walk_at "tw e"))
 | (refine' Tw.qx_and ?h0 ?h1;(case h0=>walk_at "tw e");(case h1=>walk_at "tw e")) | (refine' Tw.qx_or ?h0 ?h1;(case h0=>walk_at "tw e");(case h1=>walk_at "tw e")) | (refine' Tw.qx_one ?h0;(case h0=>walk_at "tw e"))
 | (refine' Tw.qx_tup ?h0;(case h0=>walk_at "tw a")) | (refine' Tw.qx_lst ?h0;(case h0=>walk_at "tw a"))
 | (refine' Tw.qx_rev ?h0;(case h0=>walk_at "tw e")) | (refine' Tw.qx_sliceT ?h0 ?h1 ?h2;(case h0=>walk_at "tw e");(case h1=>walk_at "tw o");(case h2=>walk_at "tw o")) | (refine' Tw.qx_ixD (by assumption) ?h0 ?h1;(case h0=>walk_at "tw e");(case h1=>walk_at "tw e"))
 | (refine' Tw.qx_leLt ?h0 ?h1 ?h2;(case h0=>walk_at "tw e");(case h1=>walk_at "tw e");(case h2=>walk_at "tw e")) | (refine' Tw.qx_leLe ?h0 ?h1 ?h2;(case h0=>walk_at "tw e");(case h1=>walk_at "tw e");(case h2=>walk_at "tw e")) | exact Tw.qx_globI (by assumption) | walk_at "tw lc"
 | (refine' Tw.qx_min rfl (by assumption) ?h0;(case h0=>walk_at "tw a")) | (refine' Tw.qx_all rfl (by assumption) ?h0;(case h0=>walk_at "tw a")) | (refine' Tw.qx_any rfl (by assumption) ?h0;(case h0=>walk_at "tw a")) | (refine' Tw.qx_tupleOf (by assumption) ?h0;(case h0=>walk_at "tw a")) | (refine' Tw.qx_listOf (by assumption) ?h0;(case h0=>walk_at "tw a")) | (refine' Tw.qx_sorted rfl (by assumption) ?h0;(case h0=>walk_at "tw a"))
 | (refine' Tw.qx_lenS (by assumption) ?h0;(case h0=>walk_at "tw a")) | (refine' Tw.qx_len (by assumption) ?h0;(case h0=>walk_at "tw a")) | (refine' Tw.qx_abs (by assumption) ?h0;(case h0=>walk_at "tw a")) | (refine' Tw.qx_max rfl (by assumption) ?h0;(case h0=>walk_at "tw a")) | (refine' Tw.qx_strI (by assumption) ?h0;(case h0=>walk_at "tw a"))
 | (refine' Tw.qx_isi (T:="tuple") (Tw.kit_mk (by decide)) (by assumption) (by assumption) ?h0;(case h0=>walk_at "tw e")) | (refine' Tw.qx_isi (T:="int") (Tw.kit_mk (by decide)) (by assumption) (by assumption) ?h0;(case h0=>walk_at "tw e")) | (refine' Tw.qx_isi (T:="bool") (Tw.kit_mk (by decide)) (by assumption) (by assumption) ?h0;(case h0=>walk_at "tw e")) | (refine' Tw.qx_isi (T:="str") (Tw.kit_mk (by decide)) (by assumption) (by assumption) ?h0;(case h0=>walk_at "tw e")) | (refine' Tw.qx_isi (T:="list") (Tw.kit_mk (by decide)) (by assumption) (by assumption) ?h0;(case h0=>walk_at "tw e")) | (refine' Tw.qx_isC (by assumption) (by assumption) (by assumption) (by assumption) ?h0;(case h0=>walk_at "tw e")) | (refine' Tw.qx_isT (by assumption) (by assumption) (by assumption) (by assumption) ?h0;(case h0=>walk_at "tw e")) | (refine' Tw.qx_bits ?h0;(case h0=>walk_at "tw e"))
 | (refine' Tw.qx_call (by assumption) (by assumption) ?h0;(case h0=>walk_at "tw a")) | (refine' Tw.qx_if ?h0 ?h1 ?h2;(case h0=>walk_at "tw t");(case h1=>walk_at "tw e");(case h2=>walk_at "tw e")))
local macro_rules | `(tactic| walk_at "tw o") => `(tactic| first | exact Tw.qxo_none | (refine' Tw.qxo_some ?h0; (case h0 => walk_at "tw e")))
local macro_rules | `(tactic| walk_at "tw w") => `(tactic| first | (refine' Tw.qxw_and ?h0 ?h1; (case h0 => walk_at "tw t"); (case h1 => walk_at "tw w")) | (refine' Tw.qxw_or ?h0 ?h1; (case h0 => walk_at "tw t"); (case h1 => walk_at "tw w")) | (refine' Tw.qxw_and1 ?h0; (case h0 => walk_at "tw t")) | (refine' Tw.qxw_or1 ?h0; (case h0 => walk_at "tw t")))
local macro_rules | `(tactic| walk_at "tw t") => `(tactic| first
 | (refine' Tw.qxt_ltT (by assumption) ?h0 ?h1;(case h0=>walk_at "tw e");(case h1=>walk_at "tw e")) | (refine' Tw.qxt_le ?h0 ?h1;(case h0=>walk_at "tw e");(case h1=>walk_at "tw e")) | (refine' Tw.qxt_gt ?h0 ?h1;(case h0=>walk_at "tw e");(case h1=>walk_at "tw e")) | (refine' Tw.qxt_ge ?h0 ?h1;(case h0=>walk_at "tw e");(case h1=>walk_at "tw e"))
 | (refine' Tw.qxt_eq (by assumption) ?h0 ?h1;(case h0=>walk_at "tw e");(case h1=>walk_at "tw e")) | (refine' Tw.qxt_ne (by assumption) ?h0 ?h1;(case h0=>walk_at "tw e");(case h1=>walk_at "tw e")) | (refine' Tw.qxt_is ?h0 ?h1;(case h0=>walk_at "tw e");(case h1=>walk_at "tw e")) | (refine' Tw.qxt_isnot ?h0 ?h1;(case h0=>walk_at "tw e");(case h1=>walk_at "tw e"))
 | (refine' Tw.qxt_not ?h0;(case h0=>walk_at "tw t")) | (refine' Tw.qxt_of ?h0;(case h0=>walk_at "tw w")) | (refine' Tw.qxt_tru ?h0;(case h0=>walk_at "tw e")))
local macro_rules | `(tactic| walk_at "tw ss") => `(tactic| first | exact Tw.qx_nil | (refine' Tw.qx_last ?h0; (case h0 => walk_at "tw s")) | (refine' Tw.qx_cons ?h0 ?h1; (case h0 => walk_at "tw s"); (case h1 => walk_at "tw ss")))
local macro_rules | `(tactic| walk_at "tw tg") => `(tactic| first | exact Tw.Tg.nil | (refine' Tw.tg_cons (i := 0) ?h0; (case h0 => walk_at "tw tg")) | (refine' Tw.tg_cons (i := 1) ?h0; (case h0 => walk_at "tw tg")) | (refine' Tw.tg_cons (i := 2) ?h0; (case h0 => walk_at "tw tg")) | (refine' Tw.tg_cons (i := 3) ?h0; (case h0 => walk_at "tw tg")) | (refine' Tw.tg_cons (i := 4) ?h0; (case h0 => walk_at "tw tg")) | (refine' Tw.tg_cons (i := 5) ?h0; (case h0 => walk_at "tw tg")) | (refine' Tw.tg_cons (i := 6) ?h0; (case h0 => walk_at "tw tg")) | (refine' Tw.tg_cons (i := 7) ?h0; (case h0 => walk_at "tw tg")) | (refine' Tw.tg_cons (i := 8) ?h0; (case h0 => walk_at "tw tg")) | (refine' Tw.tg_cons (i := 9) ?h0; (case h0 => walk_at "tw tg")) | (refine' Tw.tg_cons (i := 10) ?h0; (case h0 => walk_at "tw tg")) | (refine' Tw.tg_cons (i := 11) ?h0; (case h0 => walk_at "tw tg")) | (refine' Tw.tg_cons (i := 12) ?h0; (case h0 => walk_at "tw tg")) | (refine' Tw.tg_cons (i := 13) ?h0; (case h0 => walk_at "tw tg")) | (refine' Tw.tg_cons (i := 14) ?h0; (case h0 => walk_at "tw tg")) | (refine' Tw.tg_cons (i := 15) ?h0; (case h0 => walk_at "tw tg")) | (refine' Tw.tg_cons (i := 16) ?h0; (case h0 => walk_at "tw tg")) | (refine' Tw.tg_cons (i := 17) ?h0; (case h0 => walk_at "tw tg")) | (refine' Tw.tg_cons (i := 18) ?h0; (case h0 => walk_at "tw tg")) | (refine' Tw.tg_cons (i := 19) ?h0; (case h0 => walk_at "tw tg")))
local macro_rules | `(tactic| walk_at "tw s") => `(tactic| first
 | exact Tw.qxs_pass | exact Tw.qxs_break | exact Tw.qxs_cont | exact Tw.qxs_retNone
 | exact Tw.qxs_retN 0 | exact Tw.qxs_retN 1 | exact Tw.qxs_retN 2 | exact Tw.qxs_retN 3 | exact Tw.qxs_retN 4 | exact Tw.qxs_retN 5 | exact Tw.qxs_retN 6 | exact Tw.qxs_retN 7 | exact Tw.qxs_retN 8 | exact Tw.qxs_retN 9 | exact Tw.qxs_retN 10 | exact Tw.qxs_retN 11 | exact Tw.qxs_retN 12 | exact Tw.qxs_retN 13 | exact Tw.qxs_retN 14 | exact Tw.qxs_retN 15 | exact Tw.qxs_retN 16 | exact Tw.qxs_retN 17 | exact Tw.qxs_retN 18 | exact Tw.qxs_retN 19
 | (refine' Tw.qxs_ret ?h0;(case h0=>walk_at "tw e"))
 | exact Tw.qxs_set 0 (by assumption) Tw.qx_odt | exact Tw.qxs_set 1 (by assumption) Tw.qx_odt | exact Tw.qxs_set 2 (by assumption) Tw.qx_odt | exact Tw.qxs_set 3 (by assumption) Tw.qx_odt | exact Tw.qxs_set 4 (by assumption) Tw.qx_odt | exact Tw.qxs_set 5 (by assumption) Tw.qx_odt | exact Tw.qxs_set 6 (by assumption) Tw.qx_odt | exact Tw.qxs_set 7 (by assumption) Tw.qx_odt | exact Tw.qxs_set 8 (by assumption) Tw.qx_odt | exact Tw.qxs_set 9 (by assumption) Tw.qx_odt | exact Tw.qxs_set 10 (by assumption) Tw.qx_odt | exact Tw.qxs_set 11 (by assumption) Tw.qx_odt | exact Tw.qxs_set 12 (by assumption) Tw.qx_odt | exact Tw.qxs_set 13 (by assumption) Tw.qx_odt | exact Tw.qxs_set 14 (by assumption) Tw.qx_odt | exact Tw.qxs_set 15 (by assumption) Tw.qx_odt | exact Tw.qxs_set 16 (by assumption) Tw.qx_odt | exact Tw.qxs_set 17 (by assumption) Tw.qx_odt | exact Tw.qxs_set 18 (by assumption) Tw.qx_odt | exact Tw.qxs_set 19 (by assumption) Tw.qx_odt
 | (refine' Tw.qxs_dput 0 (by assumption) ?h0 ?h1;(case h0=>walk_at "tw a");(case h1=>walk_at "tw e")) | (refine' Tw.qxs_dput 1 (by assumption) ?h0 ?h1;(case h0=>walk_at "tw a");(case h1=>walk_at "tw e")) | (refine' Tw.qxs_dput 2 (by assumption) ?h0 ?h1;(case h0=>walk_at "tw a");(case h1=>walk_at "tw e")) | (refine' Tw.qxs_dput 3 (by assumption) ?h0 ?h1;(case h0=>walk_at "tw a");(case h1=>walk_at "tw e")) | (refine' Tw.qxs_dput 4 (by assumption) ?h0 ?h1;(case h0=>walk_at "tw a");(case h1=>walk_at "tw e")) | (refine' Tw.qxs_dput 5 (by assumption) ?h0 ?h1;(case h0=>walk_at "tw a");(case h1=>walk_at "tw e")) | (refine' Tw.qxs_dput 6 (by assumption) ?h0 ?h1;(case h0=>walk_at "tw a");(case h1=>walk_at "tw e")) | (refine' Tw.qxs_dput 7 (by assumption) ?h0 ?h1;(case h0=>walk_at "tw a");(case h1=>walk_at "tw e")) | (refine' Tw.qxs_dput 8 (by assumption) ?h0 ?h1;(case h0=>walk_at "tw a");(case h1=>walk_at "tw e")) | (refine' Tw.qxs_dput 9 (by assumption) ?h0 ?h1;(case h0=>walk_at "tw a");(case h1=>walk_at "tw e")) | (refine' Tw.qxs_dput 10 (by assumption) ?h0 ?h1;(case h0=>walk_at "tw a");(case h1=>walk_at "tw e")) | (refine' Tw.qxs_dput 11 (by assumption) ?h0 ?h1;(case h0=>walk_at "tw a");(case h1=>walk_at "tw e")) | (refine' Tw.qxs_dput 12 (by assumption) ?h0 ?h1;(case h0=>walk_at "tw a");(case h1=>walk_at "tw e")) | (refine' Tw.qxs_dput 13 (by assumption) ?h0 ?h1;(case h0=>walk_at "tw a");(case h1=>walk_at "tw e")) | (refine' Tw.qxs_dput 14 (by assumption) ?h0 ?h1;(case h0=>walk_at "tw a");(case h1=>walk_at "tw e")) | (refine' Tw.qxs_dput 15 (by assumption) ?h0 ?h1;(case h0=>walk_at "tw a");(case h1=>walk_at "tw e")) | (refine' Tw.qxs_dput 16 (by assumption) ?h0 ?h1;(case h0=>walk_at "tw a");(case h1=>walk_at "tw e")) | (refine' Tw.qxs_dput 17 (by assumption) ?h0 ?h1;(case h0=>walk_at "tw a");(case h1=>walk_at "tw e")) | (refine' Tw.qxs_dput 18 (by assumption) ?h0 ?h1;(case h0=>walk_at "tw a");(case h1=>walk_at "tw e")) | (refine' Tw.qxs_dput 19 (by assumption) ?h0 ?h1;(case h0=>walk_at "tw a");(case h1=>walk_at "tw e"))
 | (refine' Tw.qxs_set 0 (by assumption) ?h0;(case h0=>walk_at "tw e")) | (refine' Tw.qxs_set 1 (by assumption) ?h0;(case h0=>walk_at "tw e")) | (refine' Tw.qxs_set 2 (by assumption) ?h0;(case h0=>walk_at "tw e")) | (refine' Tw.qxs_set 3 (by assumption) ?h0;(case h0=>walk_at "tw e")) | (refine' Tw.qxs_set 4 (by assumption) ?h0;(case h0=>walk_at "tw e")) | (refine' Tw.qxs_set 5 (by assumption) ?h0;(case h0=>walk_at "tw e")) | (refine' Tw.qxs_set 6 (by assumption) ?h0;(case h0=>walk_at "tw e")) | (refine' Tw.qxs_set 7 (by assumption) ?h0;(case h0=>walk_at "tw e")) | (refine' Tw.qxs_set 8 (by assumption) ?h0;(case h0=>walk_at "tw e")) | (refine' Tw.qxs_set 9 (by assumption) ?h0;(case h0=>walk_at "tw e")) | (refine' Tw.qxs_set 10 (by assumption) ?h0;(case h0=>walk_at "tw e")) | (refine' Tw.qxs_set 11 (by assumption) ?h0;(case h0=>walk_at "tw e")) | (refine' Tw.qxs_set 12 (by assumption) ?h0;(case h0=>walk_at "tw e")) | (refine' Tw.qxs_set 13 (by assumption) ?h0;(case h0=>walk_at "tw e")) | (refine' Tw.qxs_set 14 (by assumption) ?h0;(case h0=>walk_at "tw e")) | (refine' Tw.qxs_set 15 (by assumption) ?h0;(case h0=>walk_at "tw e")) | (refine' Tw.qxs_set 16 (by assumption) ?h0;(case h0=>walk_at "tw e")) | (refine' Tw.qxs_set 17 (by assumption) ?h0;(case h0=>walk_at "tw e")) | (refine' Tw.qxs_set 18 (by assumption) ?h0;(case h0=>walk_at "tw e")) | (refine' Tw.qxs_set 19 (by assumption) ?h0;(case h0=>walk_at "tw e"))
 | (refine' Tw.qxs_if ?h0 ?h1 ?h2;(case h0=>walk_at "tw t");(case h1=>walk_at "tw ss");(case h2=>walk_at "tw ss"))
 | (refine' Tw.qxs_par 0 1 rfl (by assumption) ?h0 rfl;(case h0=>walk_at "tw a")) | (refine' Tw.qxs_par 1 0 rfl (by assumption) ?h0 rfl;(case h0=>walk_at "tw a"))
 | (refine' Tw.qxs_unF rfl (by assumption) (by walk_at "tw tg") ?h0;(case h0=>walk_at "tw e"))
 | (refine' Tw.qxs_app 0 ?h0;(case h0=>walk_at "tw e")) | (refine' Tw.qxs_app 1 ?h0;(case h0=>walk_at "tw e")) | (refine' Tw.qxs_app 2 ?h0;(case h0=>walk_at "tw e")) | (refine' Tw.qxs_app 3 ?h0;(case h0=>walk_at "tw e")) | (refine' Tw.qxs_app 4 ?h0;(case h0=>walk_at "tw e")) | (refine' Tw.qxs_app 5 ?h0;(case h0=>walk_at "tw e")) | (refine' Tw.qxs_app 6 ?h0;(case h0=>walk_at "tw e")) | (refine' Tw.qxs_app 7 ?h0;(case h0=>walk_at "tw e")) | (refine' Tw.qxs_app 8 ?h0;(case h0=>walk_at "tw e")) | (refine' Tw.qxs_app 9 ?h0;(case h0=>walk_at "tw e")) | (refine' Tw.qxs_app 10 ?h0;(case h0=>walk_at "tw e")) | (refine' Tw.qxs_app 11 ?h0;(case h0=>walk_at "tw e")) | (refine' Tw.qxs_app 12 ?h0;(case h0=>walk_at "tw e")) | (refine' Tw.qxs_app 13 ?h0;(case h0=>walk_at "tw e")) | (refine' Tw.qxs_app 14 ?h0;(case h0=>walk_at "tw e")) | (refine' Tw.qxs_app 15 ?h0;(case h0=>walk_at "tw e")) | (refine' Tw.qxs_app 16 ?h0;(case h0=>walk_at "tw e")) | (refine' Tw.qxs_app 17 ?h0;(case h0=>walk_at "tw e")) | (refine' Tw.qxs_app 18 ?h0;(case h0=>walk_at "tw e")) | (refine' Tw.qxs_app 19 ?h0;(case h0=>walk_at "tw e"))
 | (refine' Tw.qxs_while PySem.PassesOwn.never ?h0 ?h1;(case h0=>walk_at "tw t");(case h1=>walk_at "tw ss"))
 | (refine' Tw.qxs_forRi 0 (by assumption) PySem.PassesOwn.never rfl (by assumption) ?h0 ?h1;(case h0=>walk_at "tw a");(case h1=>walk_at "tw ss"))
 | (refine' Tw.qxs_forRi 1 (by assumption) PySem.PassesOwn.never rfl (by assumption) ?h0 ?h1;(case h0=>walk_at "tw a");(case h1=>walk_at "tw ss"))
 | (refine' Tw.qxs_forRi 2 (by assumption) PySem.PassesOwn.never rfl (by assumption) ?h0 ?h1;(case h0=>walk_at "tw a");(case h1=>walk_at "tw ss"))
 | (refine' Tw.qxs_forRi 3 (by assumption) PySem.PassesOwn.never rfl (by assumption) ?h0 ?h1;(case h0=>walk_at "tw a");(case h1=>walk_at "tw ss"))
 | (refine' Tw.qxs_forRi 4 (by assumption) PySem.PassesOwn.never rfl (by assumption) ?h0 ?h1;(case h0=>walk_at "tw a");(case h1=>walk_at "tw ss"))
 | (refine' Tw.qxs_forRi 5 (by assumption) PySem.PassesOwn.never rfl (by assumption) ?h0 ?h1;(case h0=>walk_at "tw a");(case h1=>walk_at "tw ss"))
 | (refine' Tw.qxs_forRi 6 (by assumption) PySem.PassesOwn.never rfl (by assumption) ?h0 ?h1;(case h0=>walk_at "tw a");(case h1=>walk_at "tw ss"))
 | (refine' Tw.qxs_forRi 7 (by assumption) PySem.PassesOwn.never rfl (by assumption) ?h0 ?h1;(case h0=>walk_at "tw a");(case h1=>walk_at "tw ss"))
 | (refine' Tw.qxs_forRi 8 (by assumption) PySem.PassesOwn.never rfl (by assumption) ?h0 ?h1;(case h0=>walk_at "tw a");(case h1=>walk_at "tw ss"))
 | (refine' Tw.qxs_forRi 9 (by assumption) PySem.PassesOwn.never rfl (by assumption) ?h0 ?h1;(case h0=>walk_at "tw a");(case h1=>walk_at "tw ss")) | (refine' Tw.qxs_forRi 10 (by assumption) PySem.PassesOwn.never rfl (by assumption) ?h0 ?h1;(case h0=>walk_at "tw a");(case h1=>walk_at "tw ss")) | (refine' Tw.qxs_forRi 11 (by assumption) PySem.PassesOwn.never rfl (by assumption) ?h0 ?h1;(case h0=>walk_at "tw a");(case h1=>walk_at "tw ss")) | (refine' Tw.qxs_forRi 12 (by assumption) PySem.PassesOwn.never rfl (by assumption) ?h0 ?h1;(case h0=>walk_at "tw a");(case h1=>walk_at "tw ss")) | (refine' Tw.qxs_forRi 13 (by assumption) PySem.PassesOwn.never rfl (by assumption) ?h0 ?h1;(case h0=>walk_at "tw a");(case h1=>walk_at "tw ss")) | (refine' Tw.qxs_forRi 14 (by assumption) PySem.PassesOwn.never rfl (by assumption) ?h0 ?h1;(case h0=>walk_at "tw a");(case h1=>walk_at "tw ss")) | (refine' Tw.qxs_forRi 15 (by assumption) PySem.PassesOwn.never rfl (by assumption) ?h0 ?h1;(case h0=>walk_at "tw a");(case h1=>walk_at "tw ss")) | (refine' Tw.qxs_forRi 16 (by assumption) PySem.PassesOwn.never rfl (by assumption) ?h0 ?h1;(case h0=>walk_at "tw a");(case h1=>walk_at "tw ss")) | (refine' Tw.qxs_forRi 17 (by assumption) PySem.PassesOwn.never rfl (by assumption) ?h0 ?h1;(case h0=>walk_at "tw a");(case h1=>walk_at "tw ss")) | (refine' Tw.qxs_forRi 18 (by assumption) PySem.PassesOwn.never rfl (by assumption) ?h0 ?h1;(case h0=>walk_at "tw a");(case h1=>walk_at "tw ss")) | (refine' Tw.qxs_forRi 19 (by assumption) PySem.PassesOwn.never rfl (by assumption) ?h0 ?h1;(case h0=>walk_at "tw a");(case h1=>walk_at "tw ss"))
 | (refine' Tw.qxs_fori 0 (by assumption) PySem.PassesOwn.never rfl ?h0 ?h1;(case h0=>walk_at "tw e");(case h1=>walk_at "tw ss"))
 | (refine' Tw.qxs_fori 1 (by assumption) PySem.PassesOwn.never rfl ?h0 ?h1;(case h0=>walk_at "tw e");(case h1=>walk_at "tw ss"))
 | (refine' Tw.qxs_fori 2 (by assumption) PySem.PassesOwn.never rfl ?h0 ?h1;(case h0=>walk_at "tw e");(case h1=>walk_at "tw ss"))
 | (refine' Tw.qxs_fori 3 (by assumption) PySem.PassesOwn.never rfl ?h0 ?h1;(case h0=>walk_at "tw e");(case h1=>walk_at "tw ss"))
 | (refine' Tw.qxs_fori 4 (by assumption) PySem.PassesOwn.never rfl ?h0 ?h1;(case h0=>walk_at "tw e");(case h1=>walk_at "tw ss"))
 | (refine' Tw.qxs_fori 5 (by assumption) PySem.PassesOwn.never rfl ?h0 ?h1;(case h0=>walk_at "tw e");(case h1=>walk_at "tw ss"))
 | (refine' Tw.qxs_fori 6 (by assumption) PySem.PassesOwn.never rfl ?h0 ?h1;(case h0=>walk_at "tw e");(case h1=>walk_at "tw ss"))
 | (refine' Tw.qxs_fori 7 (by assumption) PySem.PassesOwn.never rfl ?h0 ?h1;(case h0=>walk_at "tw e");(case h1=>walk_at "tw ss"))
 | (refine' Tw.qxs_fori 8 (by assumption) PySem.PassesOwn.never rfl ?h0 ?h1;(case h0=>walk_at "tw e");(case h1=>walk_at "tw ss"))
 | (refine' Tw.qxs_fori 9 (by assumption) PySem.PassesOwn.never rfl ?h0 ?h1;(case h0=>walk_at "tw e");(case h1=>walk_at "tw ss")) | (refine' Tw.qxs_fori 10 (by assumption) PySem.PassesOwn.never rfl ?h0 ?h1;(case h0=>walk_at "tw e");(case h1=>walk_at "tw ss")) | (refine' Tw.qxs_fori 11 (by assumption) PySem.PassesOwn.never rfl ?h0 ?h1;(case h0=>walk_at "tw e");(case h1=>walk_at "tw ss")) | (refine' Tw.qxs_fori 12 (by assumption) PySem.PassesOwn.never rfl ?h0 ?h1;(case h0=>walk_at "tw e");(case h1=>walk_at "tw ss")) | (refine' Tw.qxs_fori 13 (by assumption) PySem.PassesOwn.never rfl ?h0 ?h1;(case h0=>walk_at "tw e");(case h1=>walk_at "tw ss")) | (refine' Tw.qxs_fori 14 (by assumption) PySem.PassesOwn.never rfl ?h0 ?h1;(case h0=>walk_at "tw e");(case h1=>walk_at "tw ss")) | (refine' Tw.qxs_fori 15 (by assumption) PySem.PassesOwn.never rfl ?h0 ?h1;(case h0=>walk_at "tw e");(case h1=>walk_at "tw ss")) | (refine' Tw.qxs_fori 16 (by assumption) PySem.PassesOwn.never rfl ?h0 ?h1;(case h0=>walk_at "tw e");(case h1=>walk_at "tw ss")) | (refine' Tw.qxs_fori 17 (by assumption) PySem.PassesOwn.never rfl ?h0 ?h1;(case h0=>walk_at "tw e");(case h1=>walk_at "tw ss")) | (refine' Tw.qxs_fori 18 (by assumption) PySem.PassesOwn.never rfl ?h0 ?h1;(case h0=>walk_at "tw e");(case h1=>walk_at "tw ss")) | (refine' Tw.qxs_fori 19 (by assumption) PySem.PassesOwn.never rfl ?h0 ?h1;(case h0=>walk_at "tw e");(case h1=>walk_at "tw ss"))
 | (refine' Tw.qxs_forT (by assumption) PySem.PassesOwn.never rfl (by walk_at "tw tg") ?h0 ?h1;(case h0=>walk_at "tw e");(case h1=>walk_at "tw ss"))
 | exact Tw.qxs_raise)
local macro_rules | `(tactic| walk_at "tw r") => `(tactic| simp only [Tw.runD, Tw.start0, Tw.fThen, Tw.fTest, Tw.fBin, Tw.fVar, Tw.fC, Tw.oI0, Tw.oI, Tw.oAdd, Tw.add_ii, Tw.add_tt, Tw.add_oo, Tw.add_lo, Tw.add_ol, Tw.add_ll, Tw.lt_ii, Tw.lt_tt, Tw.ix_t, Tw.ix_l, Tw.ix_o, Tw.ix_s, Tw.ix_d, Tw.sl_t, Tw.sl_l, Tw.sl_o, Tw.sl_s, Tw.fSlT, Tw.fO0, Tw.fO1, Tw.fRev, Tw.fChain, Tw.kMin, Tw.kTuple, Tw.kList, Tw.intsOf, Tw.fDPut, Tw.oIx, Tw.oEqN, Tw.oIs, Tw.isD, Tw.deq, Tw.deqL, Tw.flatE, Tw.frz_non, Tw.frz_bl, Tw.frz_int, Tw.frz_str, Tw.frz_tup, Tw.frz_lst, Tw.frz_own, Tw.frz_scr, Tw.frz_dic, Tw.frz_exn, Tw.frz_dct, Tw.frz_odt, Tw.frz_frz, Tw.fPar, Tw.fCons, Tw.fNil, Tw.lf, Tw.lfL, Tw.fAsg, Tw.bindD, Tw.fIfS, Tw.fRet, Tw.fRetN, Tw.fCall, Tw.kAbs, Tw.kLen, Tw.kMax, Tw.fTup, Tw.fLst, Tw.fNeg, Tw.fNotV, Tw.fAndV, Tw.fOrV, Tw.bV, Tw.fNot, Tw.fAnd, Tw.fOr, Tw.fTru, Tw.truth, Tw.fIsi, Tw.isiB, Tw.tyD, Tw.items, Tw.fUnp, Tw.fUnS, Tw.fUnF, Tw.setAll, Tw.fApp, Tw.fDrop, Tw.fIf, Tw.fBits, Tw.turnF, Tw.gfName, Tw.gfTup, Tw.isX,   List.length_cons, List.length_nil, List.map_cons, List.map_nil, List.replicate, List.append_nil, List.nil_append, List.cons_append, List.getElem?_cons_zero, List.getElem?_cons_succ, List.set_cons_zero, List.set_cons_succ, Option.bind_some, Option.map_some, Option.bind_none, Option.map_none, if_true, if_false, Bool.false_eq_true, Nat.zero_add, Nat.reduceAdd, Nat.reduceSub, Nat.sub_self, Nat.add_zero, and_self, and_true, true_and, Bool.and_self, Bool.and_true, Bool.true_and, Bool.not_true, Bool.not_false, Bool.or_false, Bool.or_true, Bool.false_or, Bool.true_or, Bool.and_false, Bool.false_and, reduceIte, decide_true, decide_false, Nat.reduceEqDiff, Nat.reduceLeDiff])
namespace K34
open PySem L2 Tw KS
noncomputable abbrev sParties:Stmt:=top 4
noncomputable abbrev sIsPar:Stmt:=top 5
noncomputable abbrev sIsPars:Stmt:=top 6
noncomputable abbrev sSortPars:Stmt:=top 7
noncomputable abbrev sSorted:Stmt:=top 2
noncomputable abbrev sGains:Stmt:=top 8
noncomputable abbrev sHeld:Stmt:=top 10
noncomputable abbrev sWorth:Stmt:=top 11
noncomputable abbrev sSwap:Stmt:=top 13
noncomputable abbrev sSwapSlack:Stmt:=top 14
section
variable {P:Program}{w:World}{K:PySem.W.Frag}{mg:Str→Option Value}{base:Heap}{f:Addr}{fd:FuncData}{k:Nat}
noncomputable def isPeo:D→Bool
 | .int i=>decide (1≤i) && decide (i≤8)
 | _=>false
noncomputable def isPer (n:Int):D→Bool
 | .int i=>decide (0≤i) && decide (i < n)
 | _=>false
noncomputable def isGain:D→Bool
 | .int i=>decide (1≤i) && decide (i≤10 ^ 12)
 | _=>false
noncomputable def isTri (n:Int):D→Bool
 | .tup [a,b,g]=>isPer n a && isPer n b && !(match a,b with | .int i,.int j=>i == j | _,_=>false) && isGain g
 | _=>false
noncomputable def rises (ks:List (List Int)):Bool:=(List.zipWith HT.lexLt ks ks.tail).all id
noncomputable def lt01:D→Bool
 | .tup (.int a :: .int b :: _)=>decide (a < b)
 | _=>false
noncomputable def key2:D→List Int
 | .tup (.int a :: .int b :: _)=>[a,b]
 | _=>[]
noncomputable def isTie (n:Int) (d:D):Bool:=isTri n d && lt01 d
noncomputable def isWebD:D→Bool
 | .tup [.int n,.tup ts]=>isPeo (.int n) && ts.all (isTie n) && rises (ts.map key2)
 | _=>false
theorem tri_is {n:Int}{t:D}(h:isTri n t=true):∃a b g:Int,t= .tup [.int a,.int b,.int g]:=by
 cases t <;> simp only [isTri] at h <;> try cases h
 rename_i xs
 match xs,h with
 | [],h=>cases h
 | [_],h=>cases h
 | [_,_],h=>cases h
 | [a,b,g],h=>
  simp only [Bool.and_eq_true] at h
  obtain ⟨⟨⟨h1,h2⟩,_⟩,h4⟩:=h
  cases a <;> simp only [isPer] at h1 <;> try cases h1
  cases b <;> simp only [isPer] at h2 <;> try cases h2
  cases g <;> simp only [isGain] at h4 <;> try cases h4
  exact ⟨_,_,_,rfl⟩
 | _ :: _ :: _ :: _ :: _,h=>cases h
structure GoodW (n:Int) (ts:List D):Prop where
 lo:1≤n
 hi:n≤8
 len:ts.length≤28
 tie:∀t∈ts,isTie n t=true
 inc:(ts.map key2).Pairwise fun a b=>HT.lexLt a b=true
end
end K34
set_option Elab.async false
set_option linter.all false
set_option maxRecDepth 100000
set_option maxHeartbeats 1500000
namespace K34
open PySem L2 Tw KS
section
variable {P:Program}{w:World}{K:PySem.W.Frag}{mg:Str→Option Value}{base:Heap}{f:Addr}{fd:FuncData}{k:Nat}
theorem lims:0≤lim∧1≤lim∧2≤lim∧3≤lim∧4≤lim∧5≤lim∧6≤lim∧7≤lim∧8≤lim∧9≤lim∧10≤lim∧11≤lim∧12≤lim∧13≤lim∧14≤lim∧15≤lim∧16≤lim∧17≤lim∧18≤lim∧19≤lim∧20≤lim∧21≤lim∧22≤lim∧23≤lim∧24≤lim∧25≤lim∧26≤lim∧27≤lim∧28≤lim∧29≤lim∧30≤lim:=by decide
theorem atI_mem {xs:List D}{i:Int}(h0:0≤i)(h1:i < xs.length):∃d∈xs,atI xs i=some d:=by
 obtain ⟨j,rfl⟩:=Int.eq_ofNat_of_zero_le h0
 have hj:j < xs.length:=by (first|lia|omega)
 exact ⟨xs[j],List.getElem_mem hj,atI_nat (by rw [List.getElem?_eq_getElem hj])⟩
theorem pw_rises:∀{ks:List (List Int)},(ks.Pairwise fun a b=>HT.lexLt a b=true)→rises ks=true
 | [],_=>rfl
 | [a],_=>rfl
 | a :: b :: r,h=>by
  have h2:=pw_rises (List.pairwise_cons.mp h).2
  have h1:=(List.pairwise_cons.mp h).1 b List.mem_cons_self
  unfold rises at h2 ⊢
  simpa using ⟨h1,by simpa using h2⟩
theorem GoodW.web {n:Int}{ts:List D}(g:GoodW n ts):isWebD (.tup [.int n,.tup ts])=true:=by
 simp only [isWebD,isPeo,decide_eq_true g.lo,decide_eq_true g.hi,List.all_eq_true.mpr g.tie,pw_rises g.inc,Bool.and_self]
theorem tie_is {n:Int}{t:D}(h:isTie n t=true):∃a b g:Int,t= .tup [.int a,.int b,.int g]∧0≤a∧a < b∧b < n∧1≤g∧g≤10 ^ 12:=by
 unfold isTie at h
 rw [Bool.and_eq_true] at h
 obtain ⟨a,b,g,rfl⟩:=tri_is h.1
 refine ⟨a,b,g,rfl,?_⟩
 simp only [isTri,isPer,isGain,lt01,Bool.and_eq_true,decide_eq_true_eq] at h
 (first|lia|omega)
theorem tie_lf {n:Int}{t:D}(h:isTie n t=true):lf t=true:=by
 obtain ⟨a,b,g,rfl,_⟩:=tie_is h
 rfl
theorem lfL_all:∀{ts:List D},(∀t∈ts,lf t=true)→lfL ts=true
 | [],_=>by simp [lfL]
 | t :: ts,h=>by rw [lfL,h t List.mem_cons_self,lfL_all fun t ht=>h t (List.mem_cons_of_mem _ ht)];rfl
end
end K34
set_option Elab.async false
set_option linter.all false
set_option maxRecDepth 100000
set_option maxHeartbeats 1500000
namespace K34
open PySem L2 Tw KS
section
variable {P:Program}{w:World}{K:PySem.W.Frag}{mg:Str→Option Value}{base:Heap}{f:Addr}{fd:FuncData}{k:Nat}
theorem whole_frz {gw:List D→Option D}(hg:WholeSpec gw){d:D}(nx:isX d=false):gw [frz d]=some (.bl (isW d)):=by
 have z:=hg (frz d) (by cases d <;> first | rfl | cases nx)
 rw [z];cases d <;> rfl
noncomputable def pers (n:Int):List (List Int):=(List.range n.toNat).map fun i=>[((i:Nat):Int)]
noncomputable def parK (n:Int) (ts:List D):List (List Int):=sortK (pers n ++ ts.map key2)
theorem c_pers {fa:FA}{ρ:Ev}{n:Int}(h:fa ρ=some [.int n])(h0:0≤n)(h8:n≤8):fCompR fa [none] (gfName 0) (fun _=>some true) (fTup (fCons (fVar 0) fNil)) ρ=some (.own ((pers n).map tupI)):=by
 have l1:1≤lim:=by decide
 have lb:100≤lim:=by decide
 have cm:=compL_map (js:=[none]) (gf:=gfName 0) (fe:=fTup (fCons (fVar 0) fNil)) (ys:=List.range n.toNat) (ρ:=ρ) (fun ρ=>∃o,ρ=[o]) (fun i=>.int ((i:Nat):Int)) (fun i=>tupI [((i:Nat):Int)]) ⟨_,rfl⟩ (by rintro ρ ⟨o,rfl⟩;rfl) (by
  rintro i him ρ zs ⟨o,rfl⟩
  refine ⟨[some (.int ((i:Nat):Int))],⟨_,rfl⟩,rfl,?_,rfl⟩
  simp only [tupI,List.map_cons,List.map_nil]
  repeat (first | walk_at "tw r" | simp only [l1])) (by rw [List.length_range];(first|lia|omega))
 unfold fCompR pers
 rw [h,List.map_map]
 simp only [Option.bind_some]
 rw [if_pos ⟨by (first|lia|omega),by (first|lia|omega)⟩,cm]
 rfl
theorem c_key2 {f:FE}{ρ:Ev}{ts:List D}(h:f ρ=some (.tup ts))(tri:∀t∈ts,∃a b g:Int,t= .tup [.int a,.int b,.int g])(hl:ts.length≤28):fComp f [none] (gfName 0) (fun _=>some true) (fSlT (fVar 0) fO0 (fO1 (fC (.int 2)))) ρ=some (.own ((ts.map key2).map tupI)):=by
 have c2:=compL_map (js:=[none]) (gf:=gfName 0) (fe:=fSlT (fVar 0) fO0 (fO1 (fC (.int 2)))) (ys:=ts) (ρ:=ρ)
  (fun ρ=>∃o,ρ=[o]) id (fun t=>tupI (key2 t)) ⟨_,rfl⟩ (by rintro ρ ⟨o,rfl⟩;rfl) (by
  rintro t htm ρ zs ⟨o,rfl⟩
  obtain ⟨x,y,z,rfl⟩:=tri t htm
  exact ⟨[some (.tup [.int x,.int y,.int z])],⟨_,rfl⟩,rfl,rfl,rfl⟩) (Nat.le_trans hl (by decide))
 rw [List.map_id] at c2
 rw [List.map_map]
 unfold fComp
 rw [h]
 simp only [Option.bind_some,items,c2]
 rfl
theorem c_two {f:FE}{ρ:Ev}{ts:List D}(h:f ρ=some (.tup ts))(tri:∀t∈ts,∃a b g:Int,t= .tup [.int a,.int b,.int g])(hl:ts.length≤28):fComp f [none,none,none] (gfTup [0,1,2]) (fun _=>some true) (fTup (fCons (fVar 0) (fCons (fVar 1) fNil))) ρ=some (.own ((ts.map key2).map tupI)):=by
 have l2:2≤lim:=by decide
 have c2:=compL_map (js:=[none,none,none]) (gf:=gfTup [0,1,2]) (fe:=fTup (fCons (fVar 0) (fCons (fVar 1) fNil))) (ys:=ts) (ρ:=ρ)
  (fun ρ=>∃a b c,ρ=[a,b,c]) id (fun t=>tupI (key2 t)) ⟨_,_,_,rfl⟩ (by rintro ρ ⟨a,b,c,rfl⟩;rfl) (by
  rintro t htm ρ zs ⟨o,o',o'',rfl⟩
  obtain ⟨x,y,z,rfl⟩:=tri t htm
  refine ⟨[some (.int x),some (.int y),some (.int z)],⟨_,_,_,rfl⟩,rfl,?_,rfl⟩
  simp only [tupI,key2,List.map_cons,List.map_nil]
  repeat (first | walk_at "tw r" | simp only [l2])) (Nat.le_trans hl (by decide))
 rw [List.map_id] at c2
 rw [List.map_map]
 unfold fComp
 rw [h]
 simp only [Option.bind_some,items,c2]
 rfl
theorem GoodW.tri {n:Int}{ts:List D}(gw:GoodW n ts):∀t∈ts,∃a b g:Int,t= .tup [.int a,.int b,.int g]:=fun t ht=>by
 obtain ⟨a,b,g,e,_⟩:=tie_is (gw.tie t ht)
 exact ⟨a,b,g,e⟩
theorem par_sort {n:Int}{ts:List D}(gw:GoodW n ts):kSort [.own ((pers n).map tupI ++ (ts.map key2).map tupI)]=some (.own ((parK n ts).map tupI)):=by
 rw [←List.map_append]
 simp only [kSort,keysOf,tupsOf_map,Option.bind_some]
 have h1:=gw.lo
 have h8:=gw.hi
 have hl:=gw.len
 refine if_pos ⟨by unfold pers;simp;(first|lia|omega),fun k hk=>?_⟩
 rcases List.mem_append.mp hk with hk | hk
 ·unfold pers at hk
  obtain ⟨i,_,rfl⟩:=List.mem_map.mp hk
  exact fun z=>nomatch z
 ·obtain ⟨t,ht,rfl⟩:=List.mem_map.mp hk
  obtain ⟨a,b,g,rfl⟩:=gw.tri t ht
  exact fun z=>nomatch z
theorem par_mem {n:Int}{ts:List D}{k:List Int}:k∈parK n ts↔k∈pers n∨k∈ts.map key2:=by
 unfold parK
 rw [(sortK_perm _).mem_iff,List.mem_append]
theorem lfL_tups (ks:List (List Int)):lfL (ks.map tupI)=true:=lfL_all fun t ht=>by
 obtain ⟨k,_,rfl⟩:=List.mem_map.mp ht
 simp [tupI,lf,lfL_ints]
local macro_rules | `(tactic| walk_at "tw lc") => `(tactic| first
 | (refine' Tw.qx_compR (N:=["person"]) (js:=[none]) 0 rfl (by assumption) (Tw.blk_mk (.own .nil) rfl trivial rfl) (by decide) ?h0 (fun s2 H2 fp C=>Tw.tst_nil) (fun s2 H2 fp C=>?h1) rfl rfl (by decide);(case h0=>walk_at "tw a");(case h1=>walk_at "tw e"))
 | (refine' Tw.qx_comp (N:=["tie"]) (js:=[none]) 0 rfl (Tw.blk_mk (.own .nil) rfl trivial rfl) (by decide) ?h0 (fun s2 H2 fp C=>Tw.tst_nil) (fun s2 H2 fp C=>?h1) rfl rfl (by decide);(case h0=>walk_at "tw e");(case h1=>walk_at "tw e"))
 | (refine' Tw.qx_comp (N:=["one","is_whole"]) (js:=[none]) 0 rfl (Tw.blk_mk (.own .nil) rfl trivial rfl) (by decide) ?h0 (fun s2 H2 fp C=>Tw.tst_nil) (fun s2 H2 fp C=>?h1) rfl rfl (by decide);(case h0=>walk_at "tw e");(case h1=>walk_at "tw e"))
 | (refine' Tw.qx_comp (N:=["one"]) (js:=[none]) 0 rfl (Tw.blk_mk (.own .nil) rfl trivial rfl) (by decide) ?h0 (fun s2 H2 fp C=>Tw.tst_nil) (fun s2 H2 fp C=>?h1) rfl rfl (by decide);(case h0=>walk_at "tw e");(case h1=>walk_at "tw e"))
 | (refine' Tw.qx_dcompT (N:=["one","other","gain"]) (js:=[none,none,none]) (is:=[0,1,2]) (by assumption) rfl (Tw.blk_mk (.own (.own (.own .nil))) rfl trivial rfl) (by decide) (fun s2 H2 fp C=>(by walk_at "tw tg")) ?h0 (fun s2 H2 fp C=>?h1) (fun s2 H2 fp C=>?h2) (by decide);(case h0=>walk_at "tw e");(case h1=>walk_at "tw a");(case h2=>walk_at "tw e"))
 | (refine' Tw.qx_inT (by assumption) ?h0 ?h1;(case h0=>walk_at "tw e");(case h1=>walk_at "tw e"))
 | (refine' Tw.qx_get (by assumption) ?h0 ?h1;(case h0=>walk_at "tw e");(case h1=>walk_at "tw a")))
noncomputable def ParSpec (g:List D→Option D):Prop:=∀(n:Int) (ts:List D),GoodW n ts→g [.tup [.int n,.tup ts]]=some (.own ((parK n ts).map tupI))
theorem scParties:FnScope ["web","people","ties"] ["web"] (defScope sParties):=⟨rfl,rfl,rfl,by decide +kernel,rfl,by decide +kernel,by decide +kernel⟩
theorem fn_parties (mr:mg "range"=none)(ms:mg "sorted"=none)(F:Fun K "parties" "parties" sParties f fd)(B:Binds K fd ["web"] [])(hm:mg "parties"=some (.ref f)):∃g,Fn P w K mg base "parties" (k + 1) g∧ParSpec g:=by
 have nd:=scParties.nd
 refine ⟨_,fn_mk F scParties B hm rfl rfl (fun cdv A outer s H E hr=>(by walk_at "tw ss":QSs _ _ _).to),fun n ts gw=>?_⟩
 have h1:=gw.lo
 have h8:=gw.hi
 have hl:=gw.len
 have fts:lfL ts=true:=lfL_all fun t ht=>tie_lf (gw.tie t ht)
 have z1:=c_pers (fa:=fCons (fVar 1) fNil) (ρ:=[some (.tup [.int n,.tup ts]),some (.int n),some (.tup ts)]) (n:=n) rfl (by (first|lia|omega)) h8
 have z2:=c_key2 (f:=fVar 2) (ρ:=[some (.tup [.int n,.tup ts]),some (.int n),some (.tup ts)]) (ts:=ts) rfl gw.tri hl
 have z3:=par_sort gw
 have s1:((pers n).map tupI).length + ((ts.map key2).map tupI).length≤lim:=by
  have lb:100≤lim:=by decide
  unfold pers;simp;(first|lia|omega)
 repeat (first | walk_at "tw r" | simp only [fts,z1,z2,z3,s1,lims])
noncomputable def isPar (n:Int) (ts:List D):D→Bool
 | .tup ds=>match intsOf ds with
  | some k=>decide (k∈parK n ts)
  | none=>false
 | _=>false
noncomputable def OkP:D→Prop
 | .tup ds=>(∀d∈ds,isX d=false)∧ds.length≤100
 | .exn _=>False
 | _=>True
noncomputable def IsParSpec (g:List D→Option D):Prop:=∀(n:Int) (ts:List D) (d:D),GoodW n ts→OkP d→g [.tup [.int n,.tup ts],d]=some (.bl (isPar n ts d))
theorem all_ints:∀{ds:List D},ds.all isW=true→∃k:List Int,ds=k.map D.int
 | [],_=>⟨[],rfl⟩
 | d :: ds,h=>by
  rw [List.all_cons,Bool.and_eq_true] at h
  obtain ⟨k,rfl⟩:=all_ints h.2
  cases d <;> first | cases h.1 | skip
  rename_i i
  exact ⟨i :: k,rfl⟩
theorem ints_all:∀(k:List Int),(k.map D.int).all isW=true
 | []=>rfl
 | i :: k=>by rw [List.map_cons,List.all_cons,ints_all k];rfl
theorem scIsPar:FnScope ["web","thing"] ["web","thing"] (defScope sIsPar):=⟨rfl,rfl,rfl,by decide +kernel,rfl,by decide +kernel,by decide +kernel⟩
theorem fn_ispar {gw gp:List D→Option D}(G1:Fn P w K mg base "is_whole" k gw)(h1:WholeSpec gw)(G2:Fn P w K mg base "parties" k gp)(h2:ParSpec gp)(mi:mg "isinstance"=none)(mt:mg "tuple"=none)(ma:mg "all"=none)(F:Fun K "is_party" "is_party" sIsPar f fd)(B:Binds K fd ["web","thing"] [])(hm:mg "is_party"=some (.ref f)):∃g,Fn P w K mg base "is_party" (k + 1) g∧IsParSpec g:=by
 have nd:=scIsPar.nd
 refine ⟨_,fn_mk F scIsPar B hm rfl rfl (fun cdv A outer s H E hr=>(by walk_at "tw ss":QSs _ _ _).to),fun n ts d gw' ok=>?_⟩
 have tt:("tuple" == "tuple")=true:=by decide
 by_cases hd:∃ds,d= .tup ds
 ·obtain ⟨ds,rfl⟩:=hd
  have lb:100≤lim:=by decide
  have cm:=compL_map (js:=[none]) (gf:=gfName 0) (fe:=fCall gw (fCons (fVar 0) fNil)) (ys:=ds) (ρ:=[some (.tup [.int n,.tup ts]),some (.tup ds)]) (fun ρ=>∃o,ρ=[o]) id (fun x=>.bl (isW x)) ⟨_,rfl⟩ (by rintro ρ ⟨o,rfl⟩;rfl) (by
   rintro x hx ρ zs ⟨o,rfl⟩
   have e:=whole_frz h1 (ok.1 x hx)
   refine ⟨[some (frz x)],⟨_,rfl⟩,rfl,?_,rfl⟩
   repeat (first | walk_at "tw r" | simp only [e])) (Nat.le_trans ok.2 lb)
  rw [List.map_id] at cm
  have hb:boolsOf (ds.map fun x=>D.bl (isW x))=some (ds.map isW):=by
   have z:=boolsOf_map (ds.map isW)
   rw [List.map_map] at z;exact z
  have z1:fComp (fVar 1) [none] (gfName 0) (fun _=>some true) (fCall gw (fCons (fVar 0) fNil)) [some (.tup [.int n,.tup ts]),some (.tup ds)]=some (.own (ds.map fun x=>.bl (isW x))):=by
   simp only [fComp,fVar,frz_tup,List.getElem?_cons_zero,List.getElem?_cons_succ,Option.bind_some,items,cm]
  have al:(ds.map isW).all id=ds.all isW:=by rw [List.all_map];rfl
  have e2:=h2 n ts gw'
  cases qa:ds.all isW with
  | false=>
   have ep:isPar n ts (.tup ds)=false:=by
    unfold isPar
    dsimp only
    cases e:intsOf ds with
    | none=>rfl
    | some k=>rw [intsOf_eq e,ints_all k] at qa;cases qa
   repeat (first | walk_at "tw r" | simp only [tt,z1,kBools,asL,hb,al,qa,ep])
  | true=>
   obtain ⟨k,rfl⟩:=all_ints qa
   have im:=intsOf_map k
   have tm:=tupsOf_map (parK n ts)
   have ep:isPar n ts (.tup (k.map D.int))=decide (k∈parK n ts):=by
    unfold isPar
    dsimp only
    rw [im]
   repeat (first | walk_at "tw r" | simp only [tt,z1,kBools,asL,hb,al,qa,ep,e2,oInT,im,tm])
 ·have ep:isPar n ts d=false:=by
   cases d <;> first | rfl | exact absurd ⟨_,rfl⟩ hd
  have s1:("NoneType" == "tuple")=false:=by decide
  have s2:("bool" == "tuple")=false:=by decide
  have s3:("int" == "tuple")=false:=by decide
  have s4:("str" == "tuple")=false:=by decide
  have s5:("list" == "tuple")=false:=by decide
  have s6:("dict" == "tuple")=false:=by decide
  have s7:("tuple" == "int")=false:=by decide
  cases d with
  | exn C=>exact ok.elim
  | tup ds=>exact absurd ⟨_,rfl⟩ hd
  | _=>repeat (first | walk_at "tw r" | simp only [s1,s2,s3,s4,s5,s6,s7,ep])
noncomputable def gainD:D→D
 | .tup [_,_,g]=>g
 | _=>.int 0
noncomputable abbrev gK:FA:=fCons (fVar 0) (fCons (fVar 1) fNil)
theorem gains_loop {ks0:List (List Int)}:∀(ts pre:List D) (o0 o1 o2:Option D),(∀t∈ts,∃a b g:Int,t= .tup [.int a,.int b,.int g])→((pre ++ ts).map key2).Nodup→(pre ++ ts).length≤28→
  lastDt 3 (loopF (turnF (gfTup [0,1,2]) (blkD 3 (fun _=>some true) gK (fVar 2))) ts [o0,o1,o2,some (.odt (pre.map key2) (pre.map gainD))])=some (.odt ((pre ++ ts).map key2) ((pre ++ ts).map gainD))
 | [],pre,o0,o1,o2,_,_,_=>by simp [loopF,lastDt]
 | t :: ts,pre,o0,o1,o2,h,nd,hl=>by
  obtain ⟨a,b,g,rfl⟩:=h t List.mem_cons_self
  have lb:100≤lim:=by decide
  have l2:2≤lim:=by decide
  have nk:¬[a,b]∈pre.map key2:=fun z=>by
   rw [List.map_append,List.nodup_append] at nd
   exact nd.2.2 _ z [a,b] (by simp [key2]) rfl
  have pl:(pre.map key2).length < lim:=by simp at hl ⊢;(first|lia|omega)
  have step:turnF (gfTup [0,1,2]) (blkD 3 (fun _=>some true) gK (fVar 2)) (.tup [.int a,.int b,.int g]) [o0,o1,o2,some (.odt (pre.map key2) (pre.map gainD))]=some (.nx [some (.int a),some (.int b),some (.int g),some (.odt ((pre ++ [D.tup [.int a,.int b,.int g]]).map key2) ((pre ++ [D.tup [.int a,.int b,.int g]]).map gainD))]):=by
   have ek:(pre ++ [D.tup [.int a,.int b,.int g]]).map key2=pre.map key2 ++ [[a,b]]:=by simp [key2]
   have eg:(pre ++ [D.tup [.int a,.int b,.int g]]).map gainD=pre.map gainD ++ [.int g]:=by simp [gainD]
   rw [ek,eg]
   have pk:putKs (pre.map key2) [a,b]=pre.map key2 ++ [[a,b]]:=by unfold putKs;rw [if_neg nk]
   have px:putX (pre.map key2) (pre.map gainD) [a,b] (.int g)=pre.map gainD ++ [.int g]:=by unfold putX;rw [if_neg nk]
   generalize pre.map key2=ks at pl pk px
   generalize pre.map gainD=gs at px
   repeat (first | walk_at "tw r" | simp only [pl,l2,pk,px])
  rw [loopF,step]
  simp only [Option.bind_some]
  have ih:=gains_loop (ks0:=ks0) ts (pre ++ [D.tup [.int a,.int b,.int g]]) (some (.int a)) (some (.int b)) (some (.int g)) (fun t ht=>h t (List.mem_cons_of_mem _ ht)) (by rw [List.append_assoc];exact nd) (by rw [List.append_assoc];exact hl)
  rw [ih,List.append_assoc]
  rfl
theorem GoodW.nd {n:Int}{ts:List D}(gw:GoodW n ts):(ts.map key2).Nodup:=gw.inc.imp fun {a b} z w=>by rw [w,lex_irr] at z;cases z
noncomputable def GainsSpec (g:List D→Option D):Prop:=∀(n:Int) (ts:List D),GoodW n ts→g [.tup [.int n,.tup ts]]=some (.odt (ts.map key2) (ts.map gainD))
theorem scGains:FnScope ["web"] ["web"] (defScope sGains):=⟨rfl,rfl,rfl,by decide +kernel,rfl,by decide +kernel,by decide +kernel⟩
theorem fn_gains (F:Fun K "gains" "gains" sGains f fd)(B:Binds K fd ["web"] [])(hm:mg "gains"=some (.ref f)):∃g,Fn P w K mg base "gains" (k + 1) g∧GainsSpec g:=by
 have nd:=scGains.nd
 refine ⟨_,fn_mk F scGains B hm rfl rfl (fun cdv A outer s H E hr=>(by walk_at "tw ss":QSs _ _ _).to),fun n ts gw=>?_⟩
 have i1:atI [D.int n,.tup ts] 1=some (.tup ts):=rfl
 have gl:=gains_loop (ks0:=[]) ts [] none none none gw.tri (by simpa using gw.nd) (by simpa using gw.len)
 have z1:fDComp (fBin oIxD (fVar 0) (fC (.int 1))) [none,none,none] (gfTup [0,1,2]) (fun _=>some true) gK (fVar 2) [some (.tup [.int n,.tup ts])]=some (.odt (ts.map key2) (ts.map gainD)):=by
  simp only [fDComp,fBin,fVar,fC,frz_tup,List.getElem?_cons_zero,Option.bind_some,Option.map_some,ix_t,i1,items,fDCompL]
  exact gl
 repeat (first | walk_at "tw r" | simp only [z1])
theorem par_is {n:Int}{ts:List D}{k:List Int}(h:k∈parK n ts):isPar n ts (tupI k)=true:=by
 unfold isPar tupI
 dsimp only
 rw [intsOf_map]
 simpa using h
theorem okp_int (k:List Int)(h:k.length≤100):OkP (tupI k):=⟨fun d hd=>by
 obtain ⟨i,_,rfl⟩:=List.mem_map.mp hd
 rfl,by simpa using h⟩
end
end K34
set_option Elab.async false
set_option linter.all false
set_option maxRecDepth 100000
set_option maxHeartbeats 1000000
namespace Tw
open PySem PySem.Spec PyProof.Rows L2
section
variable {X:Cx}{a b e:Expr}{pos p:Pos}{f g:FE}{fa:FA}
theorem preSum_list:∀(ns:List Int),preSum (fun i=>ns.getD i 0) ns.length=ns.sum:=by
 have key:∀(ns:List Int) (k:Nat),k≤ns.length→preSum (fun i=>ns.getD i 0) k=(ns.take k).sum:=by
  intro ns k
  induction k with
  | zero=>intro _;simp [preSum]
  | succ k ih=>
   intro h
   have h':k < ns.length:=by (first|lia|omega)
   rw [preSum,ih (by (first|lia|omega)),List.take_add_one,List.getElem?_eq_getElem h',List.sum_append]
   simp [List.getD_eq_getElem?_getD,List.getElem?_eq_getElem h']
 intro ns
 rw [key ns ns.length (Nat.le_refl _),List.take_length]
theorem ints_at {ns:List Int}{its:List Value}(r:Vals (ns.map V.int) its){i:Nat}{v:Value}(e:its.toArray[i]? =some v):∃t,v= .int (ns.getD i 0) t:=by
 rw [List.getElem?_toArray] at e
 induction ns generalizing its i with
 | nil=>cases r;simp at e
 | cons n ns ih=>
  cases r with
  | cons r1 r2=>
   cases i with
   | zero=>simp at e;subst e;exact r1
   | succ i=>exact ih r2 (by simpa using e)
theorem call_sumL (hc:X.calm=true):CallR X (.builtin "sum") (fun xs H Q=>∃(p:Addr) (ns:List Int),xs=[.ref p]∧SqL X.K H p (ns.map V.int)∧Q (.int ns.sum) H):=by
 intro pins s σ H xs us Q I r h
 obtain ⟨p,ns,rfl,hq,q⟩:=h
 obtain ⟨u,rfl,ru⟩:=vals1 r
 cases ru
 obtain ⟨its,rv,⟨o,m,h1,h2,_,h4⟩,hz⟩:=I.list hq
 have hl:s.heap.IsList p its.toArray:=⟨o,h1,h2,m,h4⟩
 have lt:p < s.heap.objs.size:=Heap.lt_size h1
 refine call_sum_walkG (wpAny_pyIter_list hl ⟨s.heap.objs.size,_,_,_,_,_,fun i=>ns.getD i 0,rfl,walks_lst (show X.A.in1.handled=none from I.ok.hd hc) (Nat.ne_of_lt lt),⟨⟨_,Heap.get?_push_size _ rfl,rfl,rfl⟩,hl.push _⟩,fun c hb=>?_,fun i v hv=>ints_at rv hv,fun h' tk t' hk=>?_⟩)
 ·show c < (s.heap.push _).objs.size
  rw [Heap.size_push]
  rcases List.mem_cons.mp hb with rfl | hb
  ·exact Nat.lt_succ_self _
  ·rw [List.mem_singleton.mp hb];exact Nat.lt_succ_of_lt lt
 ·have I1:Inv X pins σ H {s with heap:=h',toks:=tk}:=I.kept (t':=tk) fun b ob e=>hk b ob (fun z=>absurd (Heap.lt_size e) (by rw [List.mem_singleton.mp z];exact Nat.lt_irrefl _)) (Heap.get?_push_of_some _ e)
  refine ⟨.int ns.sum,H,I1,⟨t',?_⟩,q⟩
  have len:its.toArray.size=ns.length:=by rw [List.size_toArray,←rv.length,List.length_map]
  rw [len,preSum_list]
noncomputable def kSum:List D→Option D
 | [d]=>(asL d).bind fun xs=>(intsOf xs).map fun ns=>.int ns.sum
 | _=>none
theorem qx_sum (hc:X.calm=true)(hm:X.mg "sum"=none)(ha:QA X [e] fa)(hb:autoParam (bootBuiltins "sum"=some (.builtin "sum")) Zau.a2._auto_1)(hg:autoParam (Gl X "sum") Zau.a2._auto_1)(he:autoParam (starEach [e] X.env=(false,eval e X.env) :: starEach [] X.env) Zau.a2._auto_1):QX X (.Call (.Name "sum" p) [e] [] pos) (fCall kSum fa):=⟨px_callB (call_sumL hc) (by
 intro ds d vs H Q ek l q
 match ds,ek,l with
 | [x],ek,l=>
  simp only [kSum] at ek
  cases e1:asL x with
  | none=>rw [e1] at ek;cases ek
  | some xs=>
   rw [e1] at ek
   simp only [Option.bind_some] at ek
   cases e2:intsOf xs with
   | none=>rw [e2] at ek;cases ek
   | some ns=>
    rw [e2] at ek;cases ek
    obtain ⟨v,rfl,h⟩:=denL1 l
    obtain ⟨a,ws,rfl,hq,_,lw⟩:=den_asL e1 h
    rw [intsOf_eq e2] at lw
    rw [denL_of_ints lw] at hq
    exact ⟨a,ns,rfl,.inl (.inl hq),q _ H (Same.refl H) (by show Den _ Emp _ _ _;rw [Den])⟩) hb hm ha.to hg (by decide) (by decide) he rfl⟩
end
end Tw
set_option Elab.async false
set_option linter.all false
set_option maxRecDepth 100000
set_option maxHeartbeats 1000000
namespace Tw
open PySem PySem.Spec PyProof.Rows L2
noncomputable def sortI (ns:List Int):List Int:=ns.mergeSort fun a b=>decide (a≤b)
theorem sortI_perm (ns:List Int):(sortI ns).Perm ns:=List.mergeSort_perm ns _
theorem sortI_sorted (ns:List Int):(sortI ns).Pairwise (·≤·):=by
 have z:=List.pairwise_mergeSort (le:=fun a b:Int=>decide (a≤b)) (fun a b c h1 h2=>by
  simp only [decide_eq_true_eq] at *;(first|lia|omega)) (fun a b=>by
  simp only [Bool.or_eq_true,decide_eq_true_eq];(first|lia|omega)) ns
 exact z.imp fun h=>by simpa using h
theorem vals_of_ints:∀{its:List Value} {ns:List Int},IntsAre its ns→Vals (ns.map V.int) its
 | _,_,.nil=>.nil
 | _,_,.cons a t r=>.cons ⟨t,rfl⟩ (vals_of_ints r)
section
variable {X:Cx}{e:Expr}{pos p:Pos}{fa:FA}
theorem call_sortedI:CallR X (.builtin "sorted") (fun xs H Q=>∃(p:Addr) (ns:List Int),xs=[.ref p]∧SqL X.K H p (ns.map V.int)∧ns.length < 64∧∀l,H l=none→Q (.ref l) (upd H l (.lst ((sortI ns).map V.int)))):=by
 intro pins s σ H xs us Q I r h
 obtain ⟨p,ns,rfl,hq,h64,q⟩:=h
 obtain ⟨u,rfl,ru⟩:=vals1 r
 cases ru
 refine Calls.call_function_entry kind_sorted plain_sorted entry_sorted (args_sorted1 _) ?_
 unfold Builtin.«sorted»
 refine wpAny_bind (m:=checkCount "sorted" 1 1 _) (wpAny_pure ?_)
 obtain ⟨its,rv,⟨o,m,h1,h2,_,h4⟩,hz⟩:=I.list hq
 have len:its.length=ns.length:=by rw [←rv.length,List.length_map]
 have hL:s.heap.IsList p its.toArray:=⟨o,h1,h2,m,h4⟩
 have sz:its.length≤sizeLine:=by rw [len,sizeLine_eq];(first|lia|omega)
 refine wpAny_bind (collect_list hL ?_ sz)
 refine wpAny_bind (wpAny_newList ?_ sz)
 have I1:Inv X pins σ H {s with heap:=(s.heap.push (seqObj "list" #[] 0)).update s.heap.objs.size (Obj.mapSeq (· ++ its.toArray))}:=I.kept (t':=s.toks) fun b o e=>by
  rw [Heap.get?_update_ne _ _ _ _ (Nat.ne_of_lt (Heap.lt_size e))];exact Heap.get?_push_of_some _ e
 generalize hG:(s.heap.push (seqObj "list" #[] 0)).update s.heap.objs.size (Obj.mapSeq (· ++ its.toArray))=G at I1 ⊢
 have ho:(G.push (seqObj "list" its.toArray 0)).get? G.objs.size=some (seqObj "list" its.toArray 0):=Heap.get?_push_size _ rfl
 refine wpAny_bind (wpAny_holding ?_)
 refine wpAny_call_entry PyProof.Rows.slot_list_sort ⟨_,ho,rfl⟩ PyProof.Rows.entry_list_sort (list_sort_tree (n:=0) (vs:=its) ho (intsAre_of rv) (by (first|lia|omega)) fun out ns' hI hp hP=>⟨.none,rfl,?_⟩) (PyProof.Rows.args_list_sort _)
 have es:ns'=sortI ns:=PySem.W.lks_uniq (hp.trans (sortI_perm ns).symm) hP (sortI_sorted ns)
 subst es
 have g1:=get?_update_seq ho (fun _=> #[])
 have g2:=get?_update_seq (Heap.get?_push_of_some (seqObj "list" #[] 0) (Heap.get?_push_of_some (seqObj "tuple" its.toArray 0) g1)) (fun _=>out)
 have kept:∀b o,G.get? b=some o→(sortedHeap (G.push (seqObj "list" its.toArray 0)) G.objs.size its out).get? b=some o:=fun b o e=>by
  have ne:b≠G.objs.size:=Nat.ne_of_lt (Heap.lt_size e)
  unfold sortedHeap
  rw [Heap.get?_update_ne _ _ _ _ ne]
  refine Heap.get?_push_of_some _ (Heap.get?_push_of_some _ ?_)
  rw [Heap.get?_update_ne _ _ _ _ ne]
  exact Heap.get?_push_of_some _ e
 refine wpAny_pure ⟨_,rfl,.ref G.objs.size,_,I1.laid (t':=s.toks) (o:=.lst ((sortI ns).map V.int)) kept (Nat.le_refl _) ?_,rfl,q _ (I1.hok.fresh (Nat.le_refl _))⟩
 obtain ⟨ep,g3⟩:∃ep,(sortedHeap (G.push (seqObj "list" its.toArray 0)) G.objs.size its out).get? G.objs.size=some (seqObj "list" out.toList.toArray ep):=⟨_,by rw [Array.toArray_toList];exact g2⟩
 exact ⟨by rw [List.length_map,(sortI_perm ns).length_eq,sizeLine_eq];(first|lia|omega),out.toList,_,vals_of_ints hI,g3⟩
noncomputable def kSortI:List D→Option D
 | [d]=>(asL d).bind fun xs=>(intsOf xs).bind fun ns=>if ns.length < 64 then some (.own ((sortI ns).map D.int)) else none
 | _=>none
theorem qx_sortedI (hm:X.mg "sorted"=none)(ha:QA X [e] fa)(hb:autoParam (bootBuiltins "sorted"=some (.builtin "sorted")) Zau.a2._auto_1)(hg:autoParam (Gl X "sorted") Zau.a2._auto_1)(he:autoParam (starEach [e] X.env=(false,eval e X.env) :: starEach [] X.env) Zau.a2._auto_1):QX X (.Call (.Name "sorted" p) [e] [] pos) (fCall kSortI fa):=⟨px_callB call_sortedI (by
 intro ds d vs H Q ek l q
 match ds,ek,l with
 | [x],ek,l=>
  simp only [kSortI] at ek
  cases e1:asL x with
  | none=>rw [e1] at ek;cases ek
  | some xs=>
   rw [e1] at ek
   simp only [Option.bind_some] at ek
   cases e2:intsOf xs with
   | none=>rw [e2] at ek;cases ek
   | some ns=>
    rw [e2] at ek
    simp only [Option.bind_some] at ek
    split at ek
    ·rename_i h64
     cases ek
     obtain ⟨v,rfl,h⟩:=denL1 l
     obtain ⟨a,ws,rfl,hq,_,lw⟩:=den_asL e1 h
     rw [intsOf_eq e2] at lw
     rw [denL_of_ints lw] at hq
     exact ⟨a,ns,rfl,.inl (.inl hq),h64,fun l hl=>q _ _ (same_upd hl _) (denF_new hl (denL_ints _))⟩
    ·cases ek) hb hm ha.to hg (by decide) (by decide) he rfl⟩
end
end Tw
set_option Elab.async false
set_option linter.all false
set_option maxRecDepth 100000
set_option maxHeartbeats 1000000
namespace Tw
open PySem PySem.Spec PyProof.Rows L2
theorem meets_extT (l b:Addr)(items items2:Array Value)(n n2:Nat)(dd:Option Addr)(sl:Array (Option Value))(h0:¬(!items.isEmpty && Builtin.List.listTooLong (items.size + items2.size))=true)(h1:items.size≤sizeLine)(h2:items.size + items2.size≤sizeLine + 1):
  Meets (Builtin.«list.extend» ⟨[.ref l,.ref b],[]⟩) (fun _ R s=>s.heap.get? l=some {cls:=.type "list",dict:=none,data:=.seq items n,slots:= #[]}∧s.heap.get? b=some {cls:=.type "tuple",dict:=dd,data:=.seq items2 n2,slots:=sl}∧
   R (.ok (.ret Value.none)) {s with heap:=s.heap.update l (Obj.mapSeq fun x=>x ++ items2),toks:=s.toks}):=
 .of_wp fun prog w A R s hh=>by
  obtain ⟨hp,g,d,tk,os⟩:=s
  obtain ⟨hl,hb,hr⟩:=hh
  have f1:=PySem.AutoSeq1.idx_int
  have f2:=PySem.AutoSeq1.sub_tuple_tuple
  have f3:=PySem.AutoSeq1.sub_list_list
  have f4:=PySem.AutoSeq1.sub_tuple_list
  have f5:=PySem.AutoSeq1.sub_list_tuple
  have hz:(items ++ items2).size≤sizeLine + 1:=by rw [Array.size_append];exact h2
  wp_walk using (wpAny_updateSeq hl rfl (hz:=h1) (_hz':=hz)),PySem.AutoSeq1.wpAny_loadPart' hl,PySem.AutoSeq1.wpAny_loadPart' hb
  exact ⟨_,rfl,hr⟩
section
variable {X:Cx}{e:Expr}{pos:Pos}{f:FE}
theorem mt_extT:MtM X "list.extend" (fun x vs H Q=>∃l b xs zs,x= .ref l∧vs=[.ref b]∧H l=some (.lst xs)∧SqT X.K H b zs∧xs.length + zs.length≤sizeLine∧Q .non (upd H l (.lst (xs ++ zs)))):=by
 intro pins s σ H x vs v us Q I rx rv ⟨l,b,xs,zs,ex,ev,hH,hB,hz,q⟩
 subst ex ev
 cases rx
 obtain ⟨u,rfl,ru⟩:=rv.one
 cases ru
 obtain ⟨z,its,n,r,hl,el⟩:=I.lstM hH
 obtain ⟨its2,r2,⟨⟨oc,od,oda,osl⟩,ho,hc,n2,hd⟩,_⟩:=I.tuple hB
 dsimp only at hc hd
 subst hc hd
 have hl2:=r2.length
 have hsz:its.toArray.size + its2.toArray.size≤sizeLine:=by rw [List.size_toArray,List.size_toArray];(first|lia|omega)
 refine call_meets F.slot_list_extend ⟨_,el,rfl⟩ F.entry_list_extend (F.args_list_extend_2 _ _) (meets_extT l b its.toArray its2.toArray n n2 od osl (fun w=>?_) (by rw [List.size_toArray];(first|lia|omega)) (by (first|lia|omega))) ⟨el,ho,?_⟩
 ·rw [notLongL hsz,Bool.and_false] at w;cases w
 ·exact ⟨.non,_,I.lset (its':=its ++ its2) hH el (by simp) (r.append r2) (by rw [List.length_append];(first|lia|omega)),rfl,q⟩
noncomputable def fExt (i:Nat) (f:FE):FS:=fun ρ=>(f ρ).bind fun d=>match d with
 | .tup zs=>match ρ[i]? with
  | some (some (.own xs))=>if lfL zs=true∧xs.length + zs.length≤lim then some (.nx (ρ.set i (some (.own (xs ++ zs))))) else none
  | _=>none
 | _=>none
theorem qxs_extT (i:Nat){x:Str}{p apos cpos:Pos}(ha:QX X e f)(hN:autoParam (X.N[i]? =some x) Zau.a2._auto_1)(hv:autoParam (Vis X.env.scope x) Zau.a4._auto_1)(hd:autoParam ((x == ("__debug__":Str))=false) Zau.a1._auto_1)(hcd:autoParam ((x == ("__classdict__":Str))=false) Zau.a1._auto_1)
  (hbase:autoParam (attributeBase (.Name x p) "extend" X.env (eval (.Name x p) X.env)=eval (.Name x p) X.env) Zau.a2._auto_1)
  (hfew:autoParam (((backTo cpos (starEach [e] X.env)).all (fun x=>!x.1) && (backToKw cpos (keywordEach [] X.env)).all (fun x=>x.1.isSome) && decide (([e]:List Expr).length + ([]:List Keyword).length + (if ([]:List Keyword).isEmpty then 0 else 1) < 30))=true) Zau.a2._auto_1)
  (hline:autoParam ((apos.endLine == cpos.line)=true) Zau.a2._auto_1) (hs:autoParam (starEach [e] X.env=(false,eval e X.env) :: starEach [] X.env) Zau.a2._auto_1) (hsw:autoParam (swapsWith (.Call (.Attribute (.Name x p) "extend" apos) [e] [] cpos) none pos.line X.env=pure false) Zau.a2._auto_1):
  QS X (.Expr (.Call (.Attribute (.Name x p) "extend" apos) [e] [] cpos) pos) (fExt i f):=
 ⟨PS.weak (ps_expr (pe_bm PySem.F.plainAttrs_list PySem.F.slot_list_extend PySem.F.type_list_extend mt_extT (pe_var hN hv hd hcd) (pa_cons ha.to pa_nil hs) hbase hfew hline hs rfl) hsw) fun E σ H ⟨P,own,ρ,r,rp,e,q⟩=>by
 unfold fExt at e
 cases e1:f ρ with
 | none=>rw [e1] at e;cases e
 | some d=>
  rw [e1] at e
  simp only [Option.bind_some] at e
  cases d <;> simp only at e <;> try cases e
  rename_i zs
  split at e
  ·rename_i xs e0
   split at e
   ·rename_i hl
    cases e
    obtain ⟨v,h1,a,vs,h2,h3,h4,l⟩:=rp.slot i _ e0
    subst h3
    refine ⟨_,h1,.inl ⟨rfl,vs,.inl (.inl h4)⟩,⟨ρ,.tup zs,rp.view,e1,fun w H1 s1 d1=>?_⟩⟩
    have dz:Den X.K Emp H1 (.tup zs) w:=d1
    rw [Den] at dz
    obtain ⟨b,us,rfl,hq,lz⟩:=dz
    refine ⟨a,b,vs,us,rfl,rfl,s1 _ _ h4,hq,?_,?_⟩
    ·rw [←denL_length l,←denL_length lz];exact Nat.le_trans hl.2 lim_line
    ·have rp1:=rp.grow s1
     have l1:DenL X.K (Own own) H1 xs vs:=denL_mono (fun b o q _=>s1 b o q) rp.isL (fun b z=>.inl z) _ _ l
     exact q own σ _ (rp1.mut e0 h2 (denL_append l1 (denL_lf _ _ hl.1 lz)))
   ·cases e
  ·cases e⟩
end
end Tw
set_option Elab.async false
set_option linter.all false
set_option maxRecDepth 100000
set_option maxHeartbeats 1000000
namespace Tw
open PySem PySem.Spec PyProof.Rows L2
noncomputable abbrev G2 (elt t1 i1 t2 i2:Expr) (scope:Scope) (pos:Pos):Expr:=.ListComp elt [⟨t1,i1,[],0⟩,⟨t2,i2,[],0⟩] scope pos
theorem turn_out (elt t1 i1 t2 i2:Expr)(scope:Scope)(pos:Pos)(it acc:Value)(env:Env):
  compTurn (G2 elt t1 i1 t2 i2 scope pos) 0 it acc env=(standAt i1.pos >>=fun _=>pyNext it >>=fun r=>match r with
   | none=>pure (.done .next)
   | some v=>letOwnedTupleGo t1 it v >>=fun _=>assign t1 env v >>=fun _=>
    eval i2 env >>=fun x=>standAt i2.pos >>=fun _=>foldedSetIterable i2 env x >>=fun x=>holding [x] (pyIter x) >>=fun y=>runOwn (.compStart (G2 elt t1 i1 t2 i2 scope pos) 1 y acc env) env >>=fun _=>
     again (.compLoop (G2 elt t1 i1 t2 i2 scope pos) 0 it acc env)):=by rfl
theorem turn_in (elt t1 i1 t2 i2:Expr)(scope:Scope)(pos:Pos)(it acc:Value)(env:Env):
  compTurn (G2 elt t1 i1 t2 i2 scope pos) 1 it acc env=(standAt i2.pos >>=fun _=>pyNext it >>=fun r=>match r with
   | none=>pure (.done .next)
   | some v=>letOwnedTupleGo t2 it v >>=fun _=>assign t2 env v >>=fun _=>
    (eval elt env >>=fun x=>call (.builtin "list.append") [acc,x] >>=fun _=>pure ()) >>=fun _=>
     again (.compLoop (G2 elt t1 i1 t2 i2 scope pos) 1 it acc env)):=by rfl
section
variable {prog:Program}{w:World}{A:Around}{R:Result→Shared→Prop}{s:Shared}{elt t1 i1 t2 i2:Expr}{scope:Scope}{pos:Pos}{it acc:Value}{env:Env}
theorem loop_in (I:Nat→Shared→Prop)
  (turn:∀n s,I n s→wpAny (model prog w) A (pyNext it) (fun r s1=>match r with
   | none=>R (.ok .next) s1
   | some v=>wpAny (model prog w) A (letOwnedTupleGo t2 it v) (fun _ s2=>wpAny (model prog w) A (assign t2 env v) (fun _ s3=>
     wpAny (model prog w) A (eval elt env) (fun x s5=>wpAny (model prog w) A (call (.builtin "list.append") [acc,x]) (fun _ s6=>∃m,m < n∧I m s6) Fa s5) Fa s3) Fa s2) Fa s1) Fa s)
  (n:Nat) (h:I n s):codeAny (model prog w) A (.compLoop (G2 elt t1 i1 t2 i2 scope pos) 1 it acc env) R s:=by
 refine codeAny_loop rfl I (fun n s hI=>?_) n h
 show wpAny _ A ((compTurn (G2 elt t1 i1 t2 i2 scope pos) 1 it acc env).onRaise (fun x=>do noteFrame x env;theTreesLotGoes x)) _ _ s
 refine wpAny_noted ?_
 rw [turn_in]
 refine wpAny_bind (wpAny_standAt (wpAny_bind (wpAny_mono (turn n s hI) (fun r s1 h1=>?_) fun _ _ z=>z.elim)))
 cases r with
 | none=>exact wpAny_pure h1
 | some v=>exact wpAny_bind (wpAny_mono h1 (fun _ s2 h2=>wpAny_bind (wpAny_mono h2 (fun _ s3 h3=>wpAny_bind (wpAny_bind (wpAny_mono h3 (fun x s5 h5=>wpAny_bind (wpAny_mono h5 (fun _ s6 h6=>wpAny_pure (wpAny_pure ⟨rfl,h6⟩)) fun _ _ z=>z.elim)) fun _ _ z=>z.elim))) fun _ _ z=>z.elim)) fun _ _ z=>z.elim)
theorem loop_out (hs:∀x,foldedSetIterable i2 env x=pure x)(I:Nat→Shared→Prop)
  (turn:∀n s,I n s→wpAny (model prog w) A (pyNext it) (fun r s1=>match r with
   | none=>R (.ok .next) s1
   | some v=>wpAny (model prog w) A (letOwnedTupleGo t1 it v) (fun _ s2=>wpAny (model prog w) A (assign t1 env v) (fun _ s3=>
     wpAny (model prog w) A (eval i2 env) (fun x s4=>wpAny (model prog w) A (pyIter x) (fun y s5=>codeAny (model prog w) A (.compStart (G2 elt t1 i1 t2 i2 scope pos) 1 y acc env) (fun r s6=>r= .ok .next∧∃m,m < n∧I m s6) s5) Fa s4) Fa s3) Fa s2) Fa s1) Fa s)
  (n:Nat) (h:I n s):codeAny (model prog w) A (.compLoop (G2 elt t1 i1 t2 i2 scope pos) 0 it acc env) R s:=by
 refine codeAny_loop rfl I (fun n s hI=>?_) n h
 show wpAny _ A ((compTurn (G2 elt t1 i1 t2 i2 scope pos) 0 it acc env).onRaise (fun x=>do noteFrame x env;theTreesLotGoes x)) _ _ s
 refine wpAny_noted ?_
 rw [turn_out]
 refine wpAny_bind (wpAny_standAt (wpAny_bind (wpAny_mono (turn n s hI) (fun r s1 h1=>?_) fun _ _ z=>z.elim)))
 cases r with
 | none=>exact wpAny_pure h1
 | some v=>
  refine wpAny_bind (wpAny_mono h1 (fun _ s2 h2=>wpAny_bind (wpAny_mono h2 (fun _ s3 h3=>wpAny_bind (wpAny_mono h3 (fun x s4 h4=>wpAny_bind (wpAny_standAt ?_)) fun _ _ z=>z.elim)) fun _ _ z=>z.elim)) fun _ _ z=>z.elim)
  rw [hs]
  refine wpAny_bind (wpAny_pure (wpAny_bind (wpAny_holding (wpAny_mono h4 (fun y s5 h5=>wpAny_bind (wpAny_runOwn ?_)) fun _ _ z=>z.elim))))
  refine codeAny_mono (show codeAny (model prog w) (A.mark none) _ _ _ from h5) fun r s6 h6=>?_
  obtain ⟨rfl,h6⟩:=h6
  exact wpAny_pure ⟨rfl,h6⟩
theorem start_in (h0:codeAny (model prog w) A (.compLoop (G2 elt t1 i1 t2 i2 scope pos) 1 it acc env) R s)
  (h:wpAny (model prog w) A (pyIter it) (fun it' s'=>codeAny (model prog w) A (.compLoop (G2 elt t1 i1 t2 i2 scope pos) 1 it' acc env) R s') (notedBy (model prog w) A env fun x s'=>R (.error x) s') s):
  codeAny (model prog w) A (.compStart (G2 elt t1 i1 t2 i2 scope pos) 1 it acc env) R s:=by
 refine codeAny_of_tree ?_
 show wpAny _ A ((compStart (G2 elt t1 i1 t2 i2 scope pos) 1 it acc env).onRaise (fun x=>do noteFrame x env;standAt theWindowsPlace)) _ _ s
 refine wpAny_notedAt ?_
 unfold compStart
 show wpAny _ A (ask >>=_) _ _ s
 refine wpAny_bind (wpAny_askSetting (wpAny_ite ?_))
 split
 ·first
   | exact wpAny_bind (wpAny_pure (wpAny_pure (And.intro rfl h0)))
   | exact wpAny_pure (And.intro rfl h0)
 ·first
   | exact wpAny_bind (wpAny_rule (wpAny_bind (wpAny_standAt (wpAny_bind (wpAny_mono h (fun it' s' h'=>wpAny_pure (And.intro rfl h')) fun _ _ x=>x)))))
   | (refine wpAny_bind (wpAny_rule ?_);show wpAny _ _ (standAt i2.pos >>=_) _ _ s;exact wpAny_bind (wpAny_standAt (wpAny_bind (wpAny_mono h (fun it' s' h'=>wpAny_pure (And.intro rfl h')) fun _ _ x=>x))))
end
end Tw
set_option Elab.async false
set_option linter.all false
set_option maxRecDepth 100000
set_option maxHeartbeats 1000000
namespace Tw
open PySem PySem.Spec PyProof.Rows L2
theorem loopF_res {b:D→FS}:∀{xs:List D} {ρ:Ev} {r:R},loopF b xs ρ=some r→(∃ρ',r= .nx ρ')∨∃d,r= .rt d
 | [],ρ,r,e=>by rw [loopF] at e;cases e;exact .inl ⟨_,rfl⟩
 | x :: xs,ρ,r,e=>by
  rw [loopF] at e
  cases q:b x ρ with
  | none=>rw [q] at e;cases e
  | some r'=>
   rw [q] at e
   simp only [Option.bind_some] at e
   cases r' with
   | nx ρ'=>exact loopF_res e
   | ct ρ'=>exact loopF_res e
   | bk ρ'=>cases e;exact .inl ⟨_,rfl⟩
   | rt d=>cases e;exact .inr ⟨_,rfl⟩
noncomputable def blkI (k:Nat) (fi:FE) (gf2:D→Ev→Option Ev) (fe:FE):FS:=fun ρ=>(fi ρ).bind fun d=>match d with
 | .tup ys=>if lfL ys=true then loopF (turnF gf2 (fApp k fe)) ys ρ else none
 | _=>none
section
variable {X:Cx}{pins:List (Addr×Obj)}{σ:L2.St}{H2:Hp}{s2:Shared}{scope:Scope}{cl:List (Str×Addr)}{N:List Str}{js:List (Option Nat)}{fp:List Addr}{it:Addr}{tn:Nat→Heap→Prop}{J:It}
 {elt tg iter t2 i2:Expr} {fi:FE} {g2:TG} {gf2:D→Ev→Option Ev} {pos:Pos} {P:List (D×V)} {ρ:Ev} {xs:List D} {g:TG} {gf:D→Ev→Option Ev} {t:FT} {fe:FE} {ys:List D} {Q:VK}
theorem comp_core2 (hcalm:X.calm=true)(I2:Inv X pins σ H2 s2)(T:Turn X.prog X.w X.K tg J fp it tn)(st2:tn 0 s2.heap)(f2:∀y∈fp,FpOk X pins H2 y)(b:Blk X scope cl N js)(rv:RepV X.K ρ σ H2)(hP:∀p∈P,Den X.K Emp H2 p.1 p.2)
  (hgo:∀(Y:Cx),Y.K=X.K→∀(i:Nat) (own:Nat→Option Addr) (ρ:Ev) (σ:L2.St) (H:Hp) (x:D),Rep Y P ρ own σ H→xs[i]? =some x→J.go i H∧∀v H',J.yld i H v H'→Same H H'∧Den X.K (Own own) H' x v)
  (hst:∀(Y:Cx),Y.K=X.K→∀(own:Nat→Option Addr) (ρ:Ev) (σ:L2.St) (H:Hp),Rep Y P ρ own σ H→J.stop xs.length H)
  (hg:∀C,PG (blk X scope cl s2 H2 fp C (N ++ [accN])) tg g) (hgf:∀C,PXGk (blk X scope cl s2 H2 fp C (N ++ [accN])) js.length g gf)
  (hg2:∀C,PG (blk X scope cl s2 H2 fp C (N ++ [accN])) t2 g2) (hgf2:∀C,PXGk (blk X scope cl s2 H2 fp C (N ++ [accN])) js.length g2 gf2) (hi2:∀C,PX (blk X scope cl s2 H2 fp C (N ++ [accN])) i2 fi) (hs2:∀C x,foldedSetIterable i2 (compEnvC scope cl C X.env) x=pure x)
  (he:∀C,PX (blk X scope cl s2 H2 fp C (N ++ [accN])) elt fe)
  (e:lastL js.length (loopF (turnF gf (blkI js.length fi gf2 fe)) xs (capE js ρ ++ [some (.own [])]))=some (.own ys))
  (q:∀Dd H',Same H2 H'→DenF X.K H2 H' (.own ys) (.ref Dd)→Q (.ref Dd) H'):
  wpAny (model X.prog X.w) X.A (newList []) (fun acc s3=>wpAny (model X.prog X.w) X.A (newFunctionEnv scope X.env.globals cl [] X.env.qual none .none (some X.env)) (fun cenv s4=>
   codeAny (model X.prog X.w) X.A (.compStart (G2 elt tg iter t2 i2 scope pos) 0 (.ref it) acc {cenv with scope:=relabel scope X.env}) (compPost (model X.prog X.w) X.A X.xe none (EP X pins σ Q) acc cenv.locals) s4) X.xe s3) X.xe s2:=by
 have fl:∀y∈fp,y < s2.heap.objs.size:=fun y hy=>by obtain ⟨o,eo,_⟩:=T.obj _ _ st2 y hy;exact Heap.lt_size eo
 refine wpAny_newObj_type (wpAny_newFunctionEnv b.cell (by intro y hy;simp at hy) (fun h' hns hsb=>?_) b.kind)
 dsimp only at hns hsb ⊢
 generalize hH:s2.heap.push {cls:=.type "list",dict:=none,data:=.seq ([]:List Value).toArray}=H3 at hns hsb ⊢
 have hC:H3.objs.size=s2.heap.objs.size + 1:=by rw [←hH,Heap.size_push]
 have ne:s2.heap.objs.size≠H3.objs.size:=by rw [hC];exact Nat.ne_of_lt (Nat.lt_succ_self _)
 have leC:s2.heap.objs.size≤H3.objs.size:=by rw [hC];exact Nat.le_succ _
 have kp3:∀y o,s2.heap.get? y=some o→H3.get? y=some o:=fun y o e=>hH▸Heap.get?_push_of_some _ e
 have kp4:∀y o,H3.get? y=some o→h'.get? y=some o:=fun y o e=>hsb.extBut y o (Nat.ne_of_lt (Heap.lt_size e)) (Heap.get?_push_of_some _ e)
 have hDn:H2 s2.heap.objs.size=none:=I2.hok.fresh (Nat.le_refl _)
 have ok3:HOk X.prog X.w (upd H2 s2.heap.objs.size (.lst [])) H3:=I2.hok.laid kp3 (Nat.le_refl _) ⟨Nat.zero_le _,[],0,.nil,by rw [←hH];exact Heap.get?_push_size _ rfl⟩
 have I4:=blk_inv (s4:={s2 with heap:=h',toks:=s2.toks + ([]:List (Str×Value)).length}) (Dd:=s2.heap.objs.size) (C:=H3.objs.size) I2 b f2 fl leC (Nat.le_refl _) ne rfl I2.bare (fun y o e=>kp4 y o (kp3 y o e)) hns (ok3.kept kp4)
 have R4:=blk_rep (s2:=s2) (fp:=fp) (C:=H3.objs.size) (Dd:=s2.heap.objs.size) (P:=P) b rv hP hDn
 have hfree:∀{H':Hp},(∀y∈fp,H' y=none)→∀y∈fp,FpOk (blk X scope cl s2 H2 fp H3.objs.size (N ++ [accN])) [] H' y:=fun hn y hy=>
  ⟨hn y hy,Nat.ne_of_lt (Nat.lt_of_lt_of_le (fl y hy) leC),fun z=>(List.mem_cons.mp (I2.stkSub y z)).elim (f2 y hy).2.1 (f2 y hy).2.2.1,.inl hy,fun x c ec=>(f2 y hy).2.2.2.2.1 x c (b.sub x c ec),fun p hp=>absurd (show p∈([]:List (Addr×Obj)) from hp) (by simp)⟩
 have loop:∀s5:Shared,s5={s2 with heap:=h',toks:=s2.toks + ([]:List (Str×Value)).length}→
   codeAny (model X.prog X.w) X.A (.compLoop (G2 elt tg iter t2 i2 scope pos) 0 (.ref it) (.ref s2.heap.objs.size) (compEnvC scope cl H3.objs.size X.env))
    (compPost (model X.prog X.w) X.A X.xe none (EP X pins σ Q) (.ref s2.heap.objs.size) H3.objs.size) s5:=by
  rintro s5 rfl
  let Y:=blk X scope cl s2 H2 fp H3.objs.size (N ++ [accN])
  have he':∃ρe,loopF (turnF gf (blkI js.length fi gf2 fe)) xs (capE js ρ ++ [some (.own [])])=some (.nx ρe)∧ρe[js.length]? =some (some (.own ys)):=by
   unfold lastL at e
   split at e
   ·rename_i ρe eq
    refine ⟨ρe,eq,?_⟩
    split at e
    ·rename_i ys' eq';cases e;exact eq'
    ·cases e
   ·cases e
  obtain ⟨ρe,eL,eY⟩:=he'
  refine loop_out (hs2 _) (fun n s=>∃i σ' H' own' ρ',n=xs.length - i∧i≤xs.length∧Inv Y [] σ' H' s∧tn i s.heap∧(∀y∈fp,H' y=none)∧σ'[js.length]? =some (some (.ref s2.heap.objs.size))∧Rep Y P ρ' own' σ' H'∧loopF (turnF gf (blkI js.length fi gf2 fe)) (xs.drop i) ρ'=some (.nx ρe)) ?_ xs.length
   ⟨0,_,_,_,_,by simp,Nat.zero_le _,I4,T.keep 0 _ _ st2 fun y hy o eo=>kp4 y o (kp3 y o eo),fun y hy=>by rw [upd_ne (Nat.ne_of_lt (fl y hy))];exact (f2 y hy).1,by rw [List.getElem?_append_right (by unfold capS;simp)];unfold capS;simp,R4,by simpa using eL⟩
  rintro n s ⟨i,σ',H',own',ρ',rfl,hi,I,st,fr,sl,rp,el⟩
  by_cases hlt:i < xs.length
  ·obtain ⟨go,yl⟩:=hgo Y rfl i own' ρ' σ' H' xs[i] rp (by simp [hlt])
   refine wpAny_mono (T.item Y rfl rfl rfl hcalm i [] s σ' H' Fa I (hfree fr) st go) (fun r s1 ⟨u,hr,h1⟩=>?_) fun _ _ z=>z
   subst hr
   refine wpAny_mono h1 (fun _ s3 ⟨x,H5,I5,r5,y5,st5,fr5⟩=>?_) fun _ _ z=>z
   obtain ⟨sm5,dx⟩:=yl x H5 y5
   replace rp:=rp.grow sm5
   rw [List.drop_eq_getElem_cons hlt,loopF] at el
   cases e1:turnF gf (blkI js.length fi gf2 fe) xs[i] ρ' with
   | none=>rw [e1] at el;cases el
   | some r1=>
    rw [e1] at el
    simp only [Option.bind_some] at el
    unfold turnF at e1
    cases e2:gf xs[i] ρ' with
    | none=>rw [e2] at e1;cases e1
    | some ρ1=>
     rw [e2] at e1
     simp only [Option.bind_some] at e1
     have I5':=I5.pinned (hfree fr5) (T.obj _ _ st5)
     have gg:=hgf H3.objs.size P xs[i] x own' ρ' ρ1 σ' H5 (fun σ2 Hh=>∃own2,Rep Y P ρ1 own2 σ2 Hh∧σ2[js.length]? =some (some (.ref s2.heap.objs.size))) rp dx e2 (fun own2 σ2 rp2 k2=>⟨own2,rp2,k2.trans sl⟩)
     refine wpAny_mono (hg H3.objs.size _ s3 σ' H5 x u _ I5' r5 gg) (fun _ s6 ⟨σ6,H6,I6,own6,rp6,sl6⟩=>?_) fun _ _ z=>z
     have back:∀{s7:Shared} {σ7:L2.St} {H7:Hp} {own7:Nat→Option Addr} {ρ7:Ev},Inv Y ([] ++ pinsAt fp s3.heap) σ7 H7 s7→σ7[js.length]? =some (some (.ref s2.heap.objs.size))→Rep Y P ρ7 own7 σ7 H7→loopF (turnF gf (blkI js.length fi gf2 fe)) (xs.drop (i + 1)) ρ7=some (.nx ρe)→
       ∃m,m < xs.length - i∧∃i σ' H' own' ρ',m=xs.length - i∧i≤xs.length∧Inv Y [] σ' H' s7∧tn i s7.heap∧(∀y∈fp,H' y=none)∧σ'[js.length]? =some (some (.ref s2.heap.objs.size))∧Rep Y P ρ' own' σ' H'∧loopF (turnF gf (blkI js.length fi gf2 fe)) (xs.drop i) ρ'=some (.nx ρe):=fun {s7 σ7 H7 own7 ρ7} I7 sl7 rp7 e7=>by
      refine ⟨xs.length - (i + 1),by (first|lia|omega),i + 1,σ7,H7,own7,ρ7,rfl,hlt,I7.unpinned,T.keep _ _ _ st5 fun y hy o eo=>(I7.pin (y,o) (List.mem_append_right _ (List.mem_append_right _ (mem_pinsAt hy eo)))).1,fun y hy=>?_,sl7,rp7,e7⟩
      obtain ⟨o,eo,_⟩:=T.obj _ _ st5 y hy
      exact (I7.pin (y,o) (List.mem_append_right _ (List.mem_append_right _ (mem_pinsAt hy eo)))).2.1
     unfold blkI at e1
     cases e3:fi ρ1 with
     | none=>rw [e3] at e1;cases e1
     | some d=>
      rw [e3] at e1
      simp only [Option.bind_some] at e1
      cases d <;> simp only at e1 <;> try cases e1
      rename_i zs
      split at e1
      ·rename_i fl
       have hw:iSeq Y.K (tX Y fi) σ6 H6 (fun J2 H7=>Same H6 H7∧∃a0,Den X.K Emp H7 (.tup zs) (.ref a0)∧J2=Itt X.K a0):=by
        refine ⟨ρ1,.tup zs,rp6.view,e3,fun v H7 s7 d7=>?_⟩
        have z:Den X.K Emp H7 (.tup zs) v:=d7
        have z':=z
        rw [Den] at z'
        obtain ⟨a0,vs0,rfl,hq0,_⟩:=z'
        exact .inr ⟨a0,rfl,⟨_,hq0⟩,s7,a0,z,rfl⟩
       refine wpAny_mono (pi_seq (X:=Y) (tg:=t2) (hi2 H3.objs.size) _ s6 σ6 H6 _ I6 hw) (fun v s7 h7=>wpAny_mono h7 (fun itv s8 h8=>?_) fun _ _ z=>z) fun _ _ z=>z
       obtain ⟨it2,fp2,tn2,J2,H8,rfl,I8,T2,st8,f8,sm8,a0,dd8,rfl⟩:=h8
       have free2:∀{H':Hp},(∀y∈fp2,H' y=none)→∀y∈fp2,FpOk Y ([] ++ pinsAt fp s3.heap) H' y:=fun hn y hy=>⟨hn y hy,(f8 y hy).2⟩
       have rp8:=rp6.grow sm8
       have dl8:Den X.K (Own own6) H8 (.tup zs) (.ref a0):=den_lf _ _ (by rw [lf];exact fl) dd8
       have rp8':Rep Y ((.tup zs,.ref a0) :: P) ρ1 own6 σ6 H8:=⟨rp8.same,rp8.len,rp8.slot,rp8.inj,rp8.lst,rp8.new,fun p hp=>by
        rcases List.mem_cons.mp hp with rfl | hp
        ·exact dl8
        ·exact rp8.prot p hp⟩
       rcases loopF_res e1 with ⟨ρ2,rfl⟩ | ⟨d9,rfl⟩
       ·have el':loopF (turnF gf (blkI js.length fi gf2 fe)) (xs.drop (i + 1)) ρ2=some (.nx ρe):=el
        have inner:codeAny (model X.prog X.w) X.A (.compLoop (G2 elt tg iter t2 i2 scope pos) 1 (.ref it2) (.ref s2.heap.objs.size) (compEnvC scope cl H3.objs.size X.env)) (fun r s'=>r= .ok .next∧∃m,m < xs.length - i∧∃i σ' H' own' ρ',m=xs.length - i∧i≤xs.length∧Inv Y [] σ' H' s'∧tn i s'.heap∧(∀y∈fp,H' y=none)∧σ'[js.length]? =some (some (.ref s2.heap.objs.size))∧Rep Y P ρ' own' σ' H'∧loopF (turnF gf (blkI js.length fi gf2 fe)) (xs.drop i) ρ'=some (.nx ρe)) s8:=by
         refine loop_in (fun n s=>∃j σ' H' own' ρ',n=zs.length - j∧j≤zs.length∧Inv Y ([] ++ pinsAt fp s3.heap) σ' H' s∧tn2 j s.heap∧(∀y∈fp2,H' y=none)∧σ'[js.length]? =some (some (.ref s2.heap.objs.size))∧Rep Y ((.tup zs,.ref a0) :: P) ρ' own' σ' H'∧loopF (turnF gf2 (fApp js.length fe)) (zs.drop j) ρ'=some (.nx ρ2)) ?_ zs.length
          ⟨0,σ6,H8,own6,ρ1,by simp,Nat.zero_le _,I8,st8,fun y hy=>(f8 y hy).1,sl6,rp8',by simpa using e1⟩
         rintro n s ⟨j,σj,Hj,ownj,ρj,rfl,hj,Ij,stj,frj,slj,rpj,elj⟩
         have zt:=rpj.prot _ List.mem_cons_self
         have zt':Den X.K (Own ownj) Hj (.tup zs) (.ref a0):=zt
         rw [Den] at zt'
         obtain ⟨a1,vz,ea1,hqz,lz⟩:=zt'
         cases ea1
         by_cases hjl:j < zs.length
         ·obtain ⟨v0,hv0,dv0⟩:=denL_get lz (List.getElem?_eq_getElem hjl)
          refine wpAny_mono (T2.item Y rfl rfl rfl hcalm j _ s σj Hj Fa Ij (free2 frj) stj ⟨vz,v0,hqz,hv0⟩) (fun r sa ⟨ua,hra,ha⟩=>?_) fun _ _ z=>z
          subst hra
          refine wpAny_mono ha (fun _ sb ⟨xb,Hb,Ib,rb,yb,stb,frb⟩=>?_) fun _ _ z=>z
          obtain ⟨eHb,yb2⟩:=yb
          subst eHb
          have exb:=yb2 vz hqz
          rw [hv0] at exb
          cases exb
          rw [List.drop_eq_getElem_cons hjl,loopF] at elj
          cases et:turnF gf2 (fApp js.length fe) zs[j] ρj with
          | none=>rw [et] at elj;cases elj
          | some rj=>
           rw [et] at elj
           simp only [Option.bind_some] at elj
           unfold turnF at et
           cases eg:gf2 zs[j] ρj with
           | none=>rw [eg] at et;cases et
           | some ρk=>
            rw [eg] at et
            simp only [Option.bind_some] at et
            have Ib':=Ib.pinned (free2 frb) (T2.obj _ _ stb)
            have gk:=hgf2 H3.objs.size _ zs[j] v0 ownj ρj ρk σj Hb (fun σ2 Hh=>∃own2,Rep Y ((.tup zs,.ref a0) :: P) ρk own2 σ2 Hh∧σ2[js.length]? =some (some (.ref s2.heap.objs.size))) rpj dv0 eg (fun own2 σ2 rp2 k2=>⟨own2,rp2,k2.trans slj⟩)
            refine wpAny_mono (hg2 H3.objs.size _ sb σj Hb v0 ua _ Ib' rb gk) (fun _ sc ⟨σc,Hc,Ic,ownc,rpc,slc⟩=>?_) fun _ _ z=>z
            unfold fApp at et
            cases ee:fe ρk with
            | none=>rw [ee] at et;cases et
            | some d2=>
             rw [ee] at et
             simp only [Option.bind_some] at et
             split at et
             ·rename_i as e5
              split at et
              ·rename_i hl
               cases et
               refine wpAny_mono (he H3.objs.size _ sc σc Hc (fun v Hd=>Same Hc Hd∧DenF X.K Hc Hd d2 v) Ic ⟨ρk,d2,rpc.view,ee,fun v Hd sd dd=>⟨sd,dd⟩⟩) (fun ud sd ⟨vd,Hd,Id,rd,smd,dd⟩=>?_) fun _ _ z=>z
               have rpd:=rpc.grow smd
               obtain ⟨va,h1,a,vs,h2,h3,h4,lza⟩:=rpd.slot js.length _ e5
               rw [slc] at h1
               cases h1
               cases h3
               have h9:=mt_append (X:=Y) _ sd σc Hd (.ref s2.heap.objs.size) [vd] (.ref s2.heap.objs.size) [ud] (fun v H9=>H9=upd Hd s2.heap.objs.size (.lst (vs ++ [vd]))) Id rfl (.cons rd .nil) ⟨_,vs,vd,rfl,rfl,h4,by rw [←denL_length lza];exact Nat.lt_of_lt_of_le hl.2 lim_line,rfl⟩
               refine wpAny_mono h9 (fun _ se ⟨ve,He,Ie,_,ee9⟩=>?_) fun _ _ z=>z
               subst ee9
               refine ⟨zs.length - (j + 1),by (first|lia|omega),j + 1,σc,_,ownc,_,rfl,hjl,Ie.unpinned,T2.keep _ _ _ stb fun y hy o eo=>(Ie.pin (y,o) (List.mem_append_right _ (List.mem_append_right _ (mem_pinsAt hy eo)))).1,fun y hy=>?_,slc,rpd.mut e5 h2 (denL_append lza (denL_cons (den_lf _ _ hl.1 dd.den) denL_nil)),elj⟩
               obtain ⟨o,eo,_⟩:=T2.obj _ _ stb y hy
               exact (Ie.pin (y,o) (List.mem_append_right _ (List.mem_append_right _ (mem_pinsAt hy eo)))).2.1
              ·cases et
             ·cases et
         ·have hje:j=zs.length:=by (first|lia|omega)
          subst hje
          refine wpAny_mono (T2.done Y rfl rfl rfl hcalm _ _ s σj Hj Fa Ij (free2 frj) stj ⟨vz,hqz,by rw [←denL_length lz];exact Nat.le_refl _⟩) (fun r sa ⟨hra,Ia⟩=>?_) fun _ _ z=>z
          subst hra
          rw [List.drop_eq_nil_of_le (Nat.le_refl _),loopF] at elj
          cases elj
          exact ⟨rfl,back Ia slj ⟨rpj.same,rpj.len,rpj.slot,rpj.inj,rpj.lst,rpj.new,fun p hp=>rpj.prot p (List.mem_cons_of_mem _ hp)⟩ el'⟩
        exact start_in inner (T2.self _ 0 _ _ _ st8 inner)
       ·cases el
      ·cases e1
  ·have hie:i=xs.length:=by (first|lia|omega)
   subst hie
   refine wpAny_mono (T.done Y rfl rfl rfl hcalm _ [] s σ' H' Fa I (hfree fr) st (hst Y rfl own' ρ' σ' H' rp)) (fun r s1 ⟨hr,I1⟩=>?_) fun _ _ z=>z
   subst hr
   rw [List.drop_eq_nil_of_le (Nat.le_refl _),loopF] at el
   cases el
   obtain ⟨m,hnm,_⟩:=id I1.loc
   refine ⟨m,hnm,fun h9 hs9=>?_⟩
   obtain ⟨va,h1,a,vs,h2,h3,h4,lz⟩:=rp.slot js.length _ eY
   rw [sl] at h1
   cases h1
   cases h3
   have neC:∀y,H' y≠none→y≠H3.objs.size:=fun y z w=>z (by rw [w];exact I1.free)
   have inS:∀y o,s2.heap.get? y=some o→y≠H3.objs.size:=fun y o e0=>Nat.ne_of_lt (Nat.lt_of_lt_of_le (Heap.lt_size e0) leC)
   have B:=I1.base
   have un:Un (frs X.stack) fp H2 H' s2.heap h9:=⟨fun y o e0 n hb hx=>(hs9.2 y (inS y o e0)).trans (B.keep y o e0 n hb hx),fun y o e0 n hb hx=>by
     obtain ⟨sl',z⟩:=B.slot y o e0 n hb hx
     exact ⟨sl',(hs9.2 y (inS y o e0)).trans z⟩,B.free,fun y o e0 hx=>by
     obtain ⟨o',z⟩:=B.there y o e0 hx
     exact ⟨o',(hs9.2 y (inS y o e0)).trans z⟩,B.tups,B.frzs,B.tbls⟩
   have hok:HOk X.prog X.w H' h9:=fun y u0 q0=>(I1.hok y u0 q0).stay (fun c v hc z=>(hs9.2 c (neC c (by
     rcases hc with w | w
     ·rw [w,q0];exact fun z=>nomatch z
     ·rw [w];exact fun z=>nomatch z))).trans z) (fun _ z=>z) fun _ _ z=>z
   refine ⟨.ref s2.heap.objs.size,H',I2.call' (s':={s1 with heap:=h9}) (ch:=fp) I1.os un hok I1.bare (fun y hy=>⟨(f2 y hy).2.2.2.1,(f2 y hy).2.1,(f2 y hy).2.2.2.2.1,(f2 y hy).2.2.2.2.2⟩),rfl,?_⟩
   exact q _ H' rp.same ⟨_,vs,rfl,hDn,h4,denL_mono (fun _ _ q _=>q) rp.isL (fun b z=>.inl ⟨js.length,by rw [z];exact h2⟩) _ _ lz⟩
 exact codeAny_compStart_list (loop _ rfl) (T.self _ 0 _ _ _ (T.keep 0 _ _ st2 fun y hy o eo=>kp4 y o (kp3 y o eo)) (loop _ rfl))
end
end Tw
set_option Elab.async false
set_option linter.all false
set_option maxRecDepth 100000
set_option maxHeartbeats 1000000
namespace Tw
open PySem PySem.Spec PyProof.Rows L2
noncomputable def fComp2 (f:FE) (js:List (Option Nat)) (gf:D→Ev→Option Ev) (fi:FE) (gf2:D→Ev→Option Ev) (fe:FE):FE:=fun ρ=>(f ρ).bind fun d=>(items d).bind fun xs=>lastL js.length (loopF (turnF gf (blkI js.length fi gf2 fe)) xs (capE js ρ ++ [some (.own [])]))
section
variable {X:Cx}{scope:Scope}{cl:List (Str×Addr)}{N:List Str}{js:List (Option Nat)}{elt iter i2:Expr}{x y:Str}{px py pos:Pos}{f fi:FE}{fe:FE}
theorem qx_comp2G {tg t2 i2:Expr}{fi:FE}{g2:TG}{gf2:D→Ev→Option Ev}{gg:TG}{gf:D→Ev→Option Ev}(hc:X.calm=true)(b:Blk X scope cl N js)(hg:∀s2 H2 fp C,PG (blk X scope cl s2 H2 fp C (N ++ [accN])) tg gg)(hgf:∀s2 H2 fp C,PXGk (blk X scope cl s2 H2 fp C (N ++ [accN])) js.length gg gf)(ha:QX X iter f)(hg2:∀s2 H2 fp C,PG (blk X scope cl s2 H2 fp C (N ++ [accN])) t2 g2)(hgf2:∀s2 H2 fp C,PXGk (blk X scope cl s2 H2 fp C (N ++ [accN])) js.length g2 gf2)(hi2:∀s2 H2 fp C,QX (blk X scope cl s2 H2 fp C (N ++ [accN])) i2 fi)(he:∀s2 H2 fp C,QX (blk X scope cl s2 H2 fp C (N ++ [accN])) elt fe)
  (hs:autoParam (∀x,foldedSetIterable iter X.env x=pure x) Zau.a3._auto_1) (hs2:autoParam (∀C x,foldedSetIterable i2 (compEnvC scope cl C X.env) x=pure x) Zau.a9._auto_1):
  QX X (.ListComp elt [⟨tg,iter,[],0⟩,⟨t2,i2,[],0⟩] scope pos) (fComp2 f js gf fi gf2 fe):=by
 refine ⟨fun pins s σ H Q I ⟨ρ,d,rv,e,q⟩=>?_⟩
 unfold fComp2 at e
 cases e1:f ρ with
 | none=>rw [e1] at e;cases e
 | some d0=>
  rw [e1] at e
  simp only [Option.bind_some] at e
  cases e2:items d0 with
  | none=>rw [e2] at e;cases e
  | some xs=>
   rw [e2] at e
   simp only [Option.bind_some] at e
   obtain ⟨ys,rfl⟩:=lastL_own e
   rw [eval_ListComp]
   refine wpAny_comprehension_free (use:=none) rfl hs b.clos b.kind b.nms ?_
   have hw:iSeq X.K (tX X f) σ H (fun J H1=>Same H H1∧∃a0,Den X.K Emp H1 (frz d0) (.ref a0)∧((J=Itl X.K a0∧∀zs,d0≠.tup zs)∨(J=Itt X.K a0∧∃zs,d0= .tup zs))):=by
    refine ⟨ρ,d0,rv,e1,fun v H1 s1 d1=>?_⟩
    have dd:=d1.den
    obtain ⟨a0,vs,rfl,hq,l⟩:=den_items e2 dd
    cases d0 with
    | tup zs=>
     have z:=dd
     rw [Den] at z
     obtain ⟨a1,vs1,ev,hq1,_⟩:=z
     cases ev
     exact .inr ⟨a0,rfl,⟨_,hq1⟩,s1,a0,den_frz.mpr dd,.inr ⟨rfl,zs,rfl⟩⟩
    | lst zs=>
     have z:=dd
     rw [Den] at z
     obtain ⟨a1,vs1,ev,hq1,_⟩:=z
     cases ev
     exact .inl ⟨a0,rfl,⟨_,.inl (.inl hq1)⟩,s1,a0,den_frz.mpr dd,.inl ⟨rfl,fun zs z=>nomatch z⟩⟩
    | own zs=>
     have z:=dd
     rw [Den] at z
     obtain ⟨a1,vs1,ev,hq1,_⟩:=z
     cases ev
     exact .inl ⟨a0,rfl,⟨_,.inl (.inl hq1)⟩,s1,a0,den_frz.mpr dd,.inl ⟨rfl,fun zs z=>nomatch z⟩⟩
    | scr zs=>
     have z:=dd
     rw [Den] at z
     obtain ⟨a1,vs1,ev,hq1,_⟩:=z
     cases ev
     refine .inl ⟨a0,rfl,⟨vs1,?_⟩,s1,a0,den_frz.mpr dd,.inl ⟨rfl,fun zs z=>nomatch z⟩⟩
     rcases hq1 with ⟨o,w⟩ | w
     ·exact .inl (.inr ⟨o,w⟩)
     ·rcases w with (w | ⟨o,w⟩) | w
      ·cases w
      ·cases w
      ·exact .inr w
    | _=>simp [items] at e2
   refine wpAny_mono (pi_seq (tg:=tg) ha.to pins s σ H _ I hw) (fun v s1 h1=>wpAny_mono h1 (fun itv s2 h2=>?_) fun _ _ z=>z) fun _ _ z=>z
   obtain ⟨it,fp,tn,J,H2,rfl,I2,T,st2,f2,sm,a0,dd,kd⟩:=h2
   have e2':items (frz d0)=some xs:=by cases d0 <;> first | exact e2 | (simp [items] at e2)
   have any:∀{K:PySem.W.Frag} {O:Addr→Prop} {Hh:Hp},Den K O Hh (frz d0) (.ref a0)→∃vs,DenL K O Hh xs vs∧((SqL K Hh a0 vs∧∀zs,d0≠.tup zs)∨(SqT K Hh a0 vs∧∃zs,d0= .tup zs)):=fun {K O Hh} z=>by
    cases d0 with
    | tup zs=>
     cases e2
     simp only [frz] at z
     rw [Den] at z
     obtain ⟨a1,vs1,ev,hq1,l⟩:=z
     cases ev
     exact ⟨vs1,l,.inr ⟨hq1,_,rfl⟩⟩
    | lst zs=>
     cases e2
     simp only [frz] at z
     rw [Den] at z
     obtain ⟨a1,vs1,ev,hq1,_,l⟩:=z
     cases ev
     exact ⟨vs1,l,.inl ⟨.inl (.inl hq1),fun zs z=>nomatch z⟩⟩
    | own zs=>
     cases e2
     simp only [frz] at z
     rw [Den] at z
     obtain ⟨a1,vs1,ev,hq1,_,l⟩:=z
     cases ev
     exact ⟨vs1,l,.inl ⟨.inl (.inl hq1),fun zs z=>nomatch z⟩⟩
    | scr zs=>
     cases e2
     simp only [frz] at z
     rw [Den] at z
     obtain ⟨a1,vs1,ev,hq1,l⟩:=z
     cases ev
     refine ⟨vs1,l,.inl ⟨?_,fun zs z=>nomatch z⟩⟩
     rcases hq1 with ⟨o,w⟩ | w
     ·exact .inl (.inr ⟨o,w⟩)
     ·rcases w with (w | ⟨o,w⟩) | w
      ·cases w
      ·cases w
      ·exact .inr w
    | _=>simp [items] at e2
   refine comp_core2 (P:=[(frz d0,.ref a0)]) (xs:=xs) hc I2 T st2 f2 b (rv.same sm) (fun p hp=>by rw [List.mem_singleton.mp hp];exact dd) (fun Y hY i own ρ σ Hh y rp ey=>?_) (fun Y hY own ρ σ Hh rp=>?_) (hg s2 H2 fp) (hgf s2 H2 fp) (hg2 s2 H2 fp) (hgf2 s2 H2 fp) (fun C=>(hi2 s2 H2 fp C).to) hs2 (fun C=>(he s2 H2 fp C).to) e (fun Dd H' s' d'=>q _ H' (sm.trans s') (d'.elder sm))
   ·have z:=rp.prot _ List.mem_cons_self
    rw [hY] at z
    obtain ⟨vs,l,kk⟩:=any z
    obtain ⟨v0,hv0,dv0⟩:=denL_get l ey
    rcases kd with ⟨rfl,nt⟩ | ⟨rfl,zs,et⟩
    ·rcases kk with ⟨hq,_⟩ | ⟨_,zs,et⟩
     ·exact ⟨⟨vs,v0,hq,hv0⟩,fun w H' ⟨y1,y2⟩=>by subst y1;have:=y2 vs hq;rw [hv0] at this;cases this;exact ⟨Same.refl _,dv0⟩⟩
     ·exact absurd et (nt _)
    ·rcases kk with ⟨_,nt⟩ | ⟨hq,_⟩
     ·exact absurd et (nt _)
     ·exact ⟨⟨vs,v0,hq,hv0⟩,fun w H' ⟨y1,y2⟩=>by subst y1;have:=y2 vs hq;rw [hv0] at this;cases this;exact ⟨Same.refl _,dv0⟩⟩
   ·have z:=rp.prot _ List.mem_cons_self
    rw [hY] at z
    obtain ⟨vs,l,kk⟩:=any z
    rcases kd with ⟨rfl,nt⟩ | ⟨rfl,zs,et⟩
    ·rcases kk with ⟨hq,_⟩ | ⟨_,zs,et⟩
     ·exact ⟨vs,hq,by rw [←denL_length l];exact Nat.le_refl _⟩
     ·exact absurd et (nt _)
    ·rcases kk with ⟨_,nt⟩ | ⟨hq,_⟩
     ·exact absurd et (nt _)
     ·exact ⟨vs,hq,by rw [←denL_length l];exact Nat.le_refl _⟩
theorem qx_comp2 (i j:Nat)(hc:X.calm=true)(b:Blk X scope cl N js)(hN:(N ++ [accN]).Nodup)(ha:QX X iter f)(hi2:∀s2 H2 fp C,QX (blk X scope cl s2 H2 fp C (N ++ [accN])) i2 fi)(he:∀s2 H2 fp C,QX (blk X scope cl s2 H2 fp C (N ++ [accN])) elt fe)
  (hi:(N ++ [accN])[i]? =some x) (hx:(relabel scope X.env).names.lookup x=some .local) (hk:i≠js.length) (hj:(N ++ [accN])[j]? =some y) (hy:(relabel scope X.env).names.lookup y=some .local) (hk2:j≠js.length)
  (hs:autoParam (∀x,foldedSetIterable iter X.env x=pure x) Zau.a3._auto_1) (hs2:autoParam (∀C x,foldedSetIterable i2 (compEnvC scope cl C X.env) x=pure x) Zau.a9._auto_1):
  QX X (.ListComp elt [⟨.Name x px,iter,[],0⟩,⟨.Name y py,i2,[],0⟩] scope pos) (fComp2 f js (gfName i) fi (gfName j) fe):=
 qx_comp2G hc b (fun s2 H2 fp C=>pg_name hN hi (.inl hx) (.inr hx)) (fun s2 H2 fp C=>pxgk_name i hk) ha (fun s2 H2 fp C=>pg_name hN hj (.inl hy) (.inr hy)) (fun s2 H2 fp C=>pxgk_name j hk2) hi2 he hs hs2
end
end Tw
set_option Elab.async false
set_option linter.all false
set_option maxRecDepth 100000
set_option maxHeartbeats 1000000
namespace Tw
open PySem PySem.Spec PyProof.Rows L2
section
variable {prog:Program}{w:World}{A:Around}{E:Value→Shared→Prop}{s:Shared}
theorem nextT_item {c t:Addr}{k:Nat}{its:Array Value}{x:Value}{Q:Value→Shared→Prop}(hc:IsTupIter s.heap c t k)(ht:IsTup s.heap t its)(hx:its[k]? =some x)
  (q:∀h',IsTupIter h' c t (k + 1)→Heap.SameBut c s.heap h'→Q x {s with heap:=h'}):wpAny (model prog w) A (Builtin.SmallTypes.nextOf (.ref c)) Q E s:=by
 have T:=hc.typeIs
 obtain ⟨o,e1,e2,e3⟩:=hc
 obtain ⟨o2,g1,_,m,g3⟩:=ht
 unfold Builtin.SmallTypes.nextOf
 refine wpAny_bind (wpAny_callSpecial?_slot (name:=Str.ofString "__next__") T slot_tupleiter_next (wpAny_call_entry slot_tupleiter_next T entry_tupleiter_next ?_ (args_tupleiter_next _)))
 have step:wpAny (model prog w) A.in1 (setField (.ref c) 1 (rawInt ((k:Nat) + 1:Nat))) (fun _ s'=>wpAny (model prog w) A.in1 (ret x) (fun fin s''=>∃v,fin= .done (.ret v)∧wpAny (model prog w) A (pure v) Q E s'') E s') E s:=by
  refine wpAny_setField e1 e3 (by simp) (wpAny_pure ⟨x,rfl,wpAny_pure (q _ ⟨_,Heap.get?_update_self _ e1 (Obj.isFreed_of_fields (Obj.data_mapFields e3 _)),(Obj.cls_mapFields ..).trans e2,?_⟩ (Heap.SameBut.update ..))⟩)
  rw [Obj.data_mapFields e3];simp [rawInt]
 refine wpAny_bind (m:=field (.ref c) 0) (wpAny_field e1 e3 (x:=.ref t) rfl ?_)
 show wpAny _ _ (if (Value.ref t == Value.none)=true then _ else _) _ _ s
 have nn:¬((Value.ref t == Value.none)=true):=Bool.false_ne_true
 rw [if_neg nn]
 refine wpAny_bind (m:=field (.ref c) 1) (wpAny_field e1 e3 (x:=.int k 0) rfl (wpAny_bind (m:=seqItems? (.ref t)) (wpAny_seqItems g1 g3 ?_)))
 simp only [Int.toNat_natCast,hx]
 exact wpAny_bind step
theorem nextT_end {c t:Addr}{k:Nat}{its:Array Value}{Q:Value→Shared→Prop}(hh:A.handled=none)(hc:IsTupIter s.heap c t k)(ht:IsTup s.heap t its)(hx:its[k]? =none)
  (q:∀h' x,Heap.ExtBut c s.heap h'→(∃o,h'.get? x=some o∧o.cls= .type "StopIteration")→E (.ref x) {s with heap:=h'}):wpAny (model prog w) A (Builtin.SmallTypes.nextOf (.ref c)) Q E s:=by
 have T:=hc.typeIs
 obtain ⟨o,e1,e2,e3⟩:=hc
 obtain ⟨o2,g1,_,m,g3⟩:=ht
 unfold Builtin.SmallTypes.nextOf
 refine wpAny_bind (wpAny_callSpecial?_slot (name:=Str.ofString "__next__") T slot_tupleiter_next (wpAny_call_entry slot_tupleiter_next T entry_tupleiter_next ?_ (args_tupleiter_next _)))
 refine wpAny_bind (m:=field (.ref c) 0) (wpAny_field e1 e3 (x:=.ref t) rfl ?_)
 show wpAny _ _ (if (Value.ref t == Value.none)=true then _ else _) _ _ s
 have nn:¬((Value.ref t == Value.none)=true):=Bool.false_ne_true
 rw [if_neg nn]
 refine wpAny_bind (m:=field (.ref c) 1) (wpAny_field e1 e3 (x:=.int k 0) rfl (wpAny_bind (m:=seqItems? (.ref t)) (wpAny_seqItems g1 g3 ?_)))
 simp only [Int.toNat_natCast,hx]
 refine wpAny_bind (wpAny_rule (wpAny_bind (wpAny_setField e1 e3 (by simp) ?_)))
 refine wpAny_bind (m:=newExc (.type "StopIteration") []) ?_
 simp only [newExc,newTuple]
 refine wpAny_bind (wpAny_newObj_type ?_ (by size_fits))
 refine wpAny_bind (m:=firstArgMember _ _) (wpAny_of_eq (a:=Value.none) (by first | rfl | (simp only [firstArgMember];rfl)) (wpAny_newObj_type ?_ (by size_fits)))
 simp only [raiseNew]
 refine wpAny_bind (wpAny_handled ?_)
 first | rw [show A.in1.handled=none from hh] | rw [hh]
 exact wpAny_bind (wpAny_pure (wpAny_throw (q _ _ (((Heap.SameBut.update ..).extBut.push _).push _) ⟨_,Heap.get?_push_size _ rfl,rfl⟩)))
end
end Tw
set_option Elab.async false
set_option linter.all false
set_option maxRecDepth 100000
set_option maxHeartbeats 1000000
namespace Tw
open PySem PySem.Spec PyProof.Rows L2
section
variable {prog:Program}{w:World}{A:Around}{E:Value→Shared→Prop}{s:Shared}{z TI TO i1 i2 l1 l2:Addr}{k1 k2:Nat}{xs ys:Array Value}{x y a b:Value}
theorem tupIter_on {h h':Heap}{c t:Addr}{k:Nat}(i:IsTupIter h c t k)(kp:∀o,h.get? c=some o→h'.get? c=some o):IsTupIter h' c t k:=let ⟨o,e,r⟩:=i;⟨o,kp o e,r⟩
theorem tup_on {h h':Heap}{c:Addr}{its:Array Value}(i:IsTup h c its)(kp:∀o,h.get? c=some o→h'.get? c=some o):IsTup h' c its:=let ⟨o,e,r⟩:=i;⟨o,kp o e,r⟩
theorem zipT_item {Q:Value→Shared→Prop}(D:ZipApart z TI TO i1 i2 l1 l2)(hz:IsZip s.heap z TI TO .none)(hTI:IsPair s.heap TI (.ref i1) (.ref i2))(hTO:IsPair s.heap TO a b)
  (h1:IsTupIter s.heap i1 l1 k1) (h2:IsTupIter s.heap i2 l2 k2) (t1:IsTup s.heap l1 xs) (t2:IsTup s.heap l2 ys) (hx:xs[k1]? =some x) (hy:ys[k2]? =some y)
  (q:∀h',IsZip h' z TI TO (rawInt s.heap.objs.size)→IsPair h' TO x y→IsTupIter h' i1 l1 (k1 + 1)→IsTupIter h' i2 l2 (k2 + 1)→IsPair h' s.heap.objs.size x y→h'.objs.size=s.heap.objs.size + 1→
   (∀c o,c≠z→c≠TO→c≠i1→c≠i2→s.heap.get? c=some o→h'.get? c=some o)→Q (.ref s.heap.objs.size) {s with heap:=h'}):
  wpAny (model prog w) A (Builtin.«zip.__next__» ⟨[.ref z],[]⟩) (fun fin s'=>∃v,fin= .done (.ret v)∧Q v s') E s:=by
 refine wpAny_bind (m:=field (.ref z) 2) (wpAny_field hz rfl (x:=.bool false) rfl ?_)
 refine wpAny_bind (m:=field (.ref z) 3) (wpAny_field hz rfl (x:=.ref TI) rfl (wpAny_bind (wpAny_seqItems hTI rfl ?_)))
 refine wpAny_bind (m:=Builtin.SmallTypes.ownedTupleIsFree (.ref z)) ?_
 unfold Builtin.SmallTypes.ownedTupleIsFree
 refine wpAny_bind (wpAny_field hz rfl (x:=.none) rfl (wpAny_pure ?_))
 simp only [if_true]
 refine wpAny_bind (wpAny_rule (wpAny_bind (wpAny_field hz rfl (x:=.ref TO) rfl (wpAny_bind (wpAny_setField_rec hz (by simp) fun ha za sa=>?_)))))
 have za':IsZip ha z TI TO .ellipsis:=za
 have ka:∀c o,c≠z→s.heap.get? c=some o→ha.get? c=some o:=fun c o n e=>sa.extBut c o n e
 refine wpAny_bind ?_
 simp only [List.zipIdx_cons,List.zipIdx_nil,List.forIn_cons,List.forIn_nil]
 refine wpAny_bind (wpAny_bind (wpAny_onRaise (wpAny_bind (m:=Builtin.SmallTypes.nextOf (.ref i1)) (nextT_item (tupIter_on h1 fun o e=>ka _ o D.i1z e) (tup_on t1 fun o e=>ka _ o D.l1z e) hx fun hb ib sb=>wpAny_pure ?_))))
 have kb:∀c o,c≠z→c≠i1→s.heap.get? c=some o→hb.get? c=some o:=fun c o n n1 e=>sb.extBut c o n1 (ka c o n e)
 have ob:IsPair hb TO a b:=kb _ _ D.TOz D.TOi1 hTO
 refine wpAny_bind (wpAny_seqItems ob rfl (wpAny_bind (wpAny_updateSeq_pair ob fun hc oc sc=>?_)))
 have oc':IsPair hc TO x b:=oc
 have kc:∀c o,c≠z→c≠i1→c≠TO→s.heap.get? c=some o→hc.get? c=some o:=fun c o n n1 n2 e=>sc.extBut c o n2 (kb c o n n1 e)
 refine wpAny_bind (wpAny_letGo (wpAny_pure ?_))
 refine wpAny_bind (wpAny_bind (wpAny_onRaise (wpAny_bind (m:=Builtin.SmallTypes.nextOf (.ref i2)) (nextT_item (tupIter_on h2 fun o e=>kc _ o D.i2z D.i12.symm D.TOi2.symm e) (tup_on t2 fun o e=>kc _ o D.l2z D.l2i1 D.l2TO e) hy fun hd id' sd=>wpAny_pure ?_))))
 have od:IsPair hd TO x b:=sd.extBut _ _ D.TOi2 oc'
 refine wpAny_bind (wpAny_seqItems od rfl (wpAny_bind (wpAny_updateSeq_pair od fun he oe se=>?_)))
 have oe':IsPair he TO x y:=oe
 refine wpAny_bind (wpAny_letGo (wpAny_pure (wpAny_pure ?_)))
 refine wpAny_bind (wpAny_seqItems oe' rfl (wpAny_bind (wpAny_newTuple ?_)))
 have size:he.objs.size=s.heap.objs.size:=by rw [se.1,sd.1,sc.1,sb.1,sa.1]
 have ke:∀c o,c≠z→c≠TO→c≠i1→c≠i2→s.heap.get? c=some o→he.get? c=some o:=fun c o n n1 n2 n3 e=>se.extBut c o n1 (sd.extBut c o n3 (kc c o n n2 n1 e))
 have ze:IsZip he z TI TO .ellipsis:=se.extBut _ _ D.TOz.symm (sd.extBut _ _ D.i2z.symm (sc.extBut _ _ D.TOz.symm (sb.extBut _ _ D.i1z.symm za')))
 have ie1:IsTupIter he i1 l1 (k1 + 1):=tupIter_on ib fun o e=>se.extBut _ o D.TOi1.symm (sd.extBut _ o D.i12 (sc.extBut _ o D.TOi1.symm e))
 have ie2:IsTupIter he i2 l2 (k2 + 1):=tupIter_on id' fun o e=>se.extBut _ o D.TOi2.symm e
 have zlt:z < he.objs.size:=Heap.lt_size ze
 refine wpAny_bind (m:=Builtin.SmallTypes.ownedTupleHandOut (.ref z) (.ref he.objs.size)) ?_
 unfold Builtin.SmallTypes.ownedTupleHandOut
 have zp:IsZip (he.push {cls:=.type "tuple",data:=.seq #[x,y]}) z TI TO .ellipsis:=Heap.get?_push_of_some _ ze
 refine wpAny_bind (wpAny_setField_rec zp (by simp) fun hf zf sf=>?_)
 have zf':IsZip hf z TI TO (rawInt he.objs.size):=zf
 refine wpAny_setField_rec zf' (by simp) fun hg zg sg=>?_
 have zg':IsZip hg z TI TO (rawInt he.objs.size):=zg
 have up:∀c o,c≠z→he.get? c=some o→hg.get? c=some o:=fun c o n e=>sg.extBut c o n (sf.extBut c o n (Heap.get?_push_of_some _ e))
 have pg:IsPair hg he.objs.size x y:=sg.extBut _ _ (Nat.ne_of_gt zlt) (sf.extBut _ _ (Nat.ne_of_gt zlt) (Heap.get?_push_size _ rfl))
 have szg:hg.objs.size=he.objs.size + 1:=by rw [sg.1,sf.1,Heap.size_push]
 rw [size] at zg' pg szg
 refine wpAny_pure ⟨_,rfl,?_⟩
 show Q (.ref he.objs.size) _
 rw [size]
 exact q hg zg' (up _ _ D.TOz oe') (tupIter_on ie1 fun o e=>up _ o D.i1z e) (tupIter_on ie2 fun o e=>up _ o D.i2z e) pg szg fun c o n n1 n2 n3 e=>up c o n (ke c o n n1 n2 n3 e)
end
end Tw
set_option Elab.async false
set_option linter.all false
set_option maxRecDepth 100000
set_option maxHeartbeats 1000000
namespace Tw
open PySem PySem.Spec PyProof.Rows L2
section
variable {prog:Program}{w:World}{A:Around}{E:Value→Shared→Prop}{s:Shared}{z TI TO i1 i2 l1 l2:Addr}{k1 k2:Nat}{xs ys:Array Value}{x y a b:Value}
theorem zipT_end {Q:Fin→Shared→Prop}(hh:A.handled=none)(D:ZipApart z TI TO i1 i2 l1 l2)(hz:IsZip s.heap z TI TO .none)(hTI:IsPair s.heap TI (.ref i1) (.ref i2))(hTO:IsPair s.heap TO a b)
  (h1:IsTupIter s.heap i1 l1 k1) (h2:IsTupIter s.heap i2 l2 k2) (t1:IsTup s.heap l1 xs) (t2:IsTup s.heap l2 ys) (hend:xs[k1]? =none∨ys[k2]? =none)
  (q:∀h' c,(∀c o,c≠z→c≠TO→c≠i1→c≠i2→s.heap.get? c=some o→h'.get? c=some o)→(∃o,h'.get? c=some o∧o.cls= .type "StopIteration")→E (.ref c) {s with heap:=h'}):
  wpAny (model prog w) A (Builtin.«zip.__next__» ⟨[.ref z],[]⟩) Q E s:=by
 refine wpAny_bind (m:=field (.ref z) 2) (wpAny_field hz rfl (x:=.bool false) rfl ?_)
 refine wpAny_bind (m:=field (.ref z) 3) (wpAny_field hz rfl (x:=.ref TI) rfl (wpAny_bind (wpAny_seqItems hTI rfl ?_)))
 refine wpAny_bind (m:=Builtin.SmallTypes.ownedTupleIsFree (.ref z)) ?_
 unfold Builtin.SmallTypes.ownedTupleIsFree
 refine wpAny_bind (wpAny_field hz rfl (x:=.none) rfl (wpAny_pure ?_))
 simp only [if_true]
 refine wpAny_bind (wpAny_rule (wpAny_bind (wpAny_field hz rfl (x:=.ref TO) rfl (wpAny_bind (wpAny_setField_rec hz (by simp) fun ha za sa=>?_)))))
 have za':IsZip ha z TI TO .ellipsis:=za
 have ka:∀c o,c≠z→s.heap.get? c=some o→ha.get? c=some o:=fun c o n e=>sa.extBut c o n e
 have apart:∀{h:Heap} {c:Addr} {v:Value},IsZip h z TI TO v→(∃o,h.get? c=some o∧o.cls= .type "StopIteration")→c≠z:=fun {h c v} hz' ⟨o,e1,e2⟩ n=>by
  subst n
  rw [hz'] at e1
  cases e1
  simp at e2
 refine wpAny_bind ?_
 simp only [List.zipIdx_cons,List.zipIdx_nil,List.forIn_cons,List.forIn_nil]
 cases hx:xs[k1]? with
 | none=>
  refine wpAny_bind (wpAny_bind (wpAny_onRaise (wpAny_bind (m:=Builtin.SmallTypes.nextOf (.ref i1)) (nextT_end hh (tupIter_on h1 fun o e=>ka _ o D.i1z e) (tup_on t1 fun o e=>ka _ o D.l1z e) hx fun hb c kb hc=>?_))))
  have zb:IsZip hb z TI TO .ellipsis:=kb _ _ D.i1z.symm za'
  have nz:=apart zb hc
  obtain ⟨o,eo,co⟩:=hc
  exact wpAny_setField_rec zb (by simp) fun hd _ sd=>q hd c (fun d o' n _ n2 _ e=>sd.extBut d o' n (kb d o' n2 (ka d o' n e))) ⟨o,sd.extBut _ _ nz eo,co⟩
 | some x=>
  have hy:ys[k2]? =none:=hend.resolve_left (by rw [hx];exact fun n=>nomatch n)
  refine wpAny_bind (wpAny_bind (wpAny_onRaise (wpAny_bind (m:=Builtin.SmallTypes.nextOf (.ref i1)) (nextT_item (tupIter_on h1 fun o e=>ka _ o D.i1z e) (tup_on t1 fun o e=>ka _ o D.l1z e) hx fun hb ib sb=>wpAny_pure ?_))))
  have kb:∀c o,c≠z→c≠i1→s.heap.get? c=some o→hb.get? c=some o:=fun c o n n1 e=>sb.extBut c o n1 (ka c o n e)
  have ob:IsPair hb TO a b:=kb _ _ D.TOz D.TOi1 hTO
  refine wpAny_bind (wpAny_seqItems ob rfl (wpAny_bind (wpAny_updateSeq_pair ob fun hc oc sc=>?_)))
  have kc:∀c o,c≠z→c≠i1→c≠TO→s.heap.get? c=some o→hc.get? c=some o:=fun c o n n1 n2 e=>sc.extBut c o n2 (kb c o n n1 e)
  refine wpAny_bind (wpAny_letGo (wpAny_pure ?_))
  refine wpAny_bind (wpAny_bind (wpAny_onRaise (wpAny_bind (m:=Builtin.SmallTypes.nextOf (.ref i2)) (nextT_end hh (tupIter_on h2 fun o e=>kc _ o D.i2z D.i12.symm D.TOi2.symm e) (tup_on t2 fun o e=>kc _ o D.l2z D.l2i1 D.l2TO e) hy fun hd c kd hc'=>?_))))
  have zd:IsZip hd z TI TO .ellipsis:=kd _ _ D.i2z.symm (sc.extBut _ _ D.TOz.symm (sb.extBut _ _ D.i1z.symm za'))
  have nz:=apart zd hc'
  obtain ⟨o,eo,co⟩:=hc'
  exact wpAny_setField_rec zd (by simp) fun hf _ sf=>q hf c (fun d o' n n1 n2 n3 e=>sf.extBut d o' n (kd d o' n3 (kc d o' n n2 n1 e))) ⟨o,sf.extBut _ _ nz eo,co⟩
theorem nextZ_item {Q:Option Value→Shared→Prop}(D:ZipApart z TI TO i1 i2 l1 l2)(hz:IsZip s.heap z TI TO .none)(hTI:IsPair s.heap TI (.ref i1) (.ref i2))(hTO:IsPair s.heap TO a b)
  (h1:IsTupIter s.heap i1 l1 k1) (h2:IsTupIter s.heap i2 l2 k2) (t1:IsTup s.heap l1 xs) (t2:IsTup s.heap l2 ys) (hx:xs[k1]? =some x) (hy:ys[k2]? =some y)
  (q:∀h',IsZip h' z TI TO (rawInt s.heap.objs.size)→IsPair h' TO x y→IsTupIter h' i1 l1 (k1 + 1)→IsTupIter h' i2 l2 (k2 + 1)→IsPair h' s.heap.objs.size x y→h'.objs.size=s.heap.objs.size + 1→
   (∀c o,c≠z→c≠TO→c≠i1→c≠i2→s.heap.get? c=some o→h'.get? c=some o)→Q (some (.ref s.heap.objs.size)) {s with heap:=h'}):
  wpAny (model prog w) A (pyNext (.ref z)) Q E s:=by
 have T:s.TypeIs (.ref z) "zip":=⟨_,hz,rfl⟩
 unfold pyNext
 exact wpAny_bind (wpAny_attempt (wpAny_callSpecial?_slot (name:=Str.ofString "__next__") T F.slot_zip_next
  (wpAny_call_entry F.slot_zip_next T F.entry_zip_next (zipT_item D hz hTI hTO h1 h2 t1 t2 hx hy fun h' b1 b2 b3 b4 b5 b6 b7=>wpAny_pure (q h' b1 b2 b3 b4 b5 b6 b7)) (F.args_zip_next_1 _))))
theorem nextZ_end {Q:Option Value→Shared→Prop}(hh:A.handled=none)(D:ZipApart z TI TO i1 i2 l1 l2)(hz:IsZip s.heap z TI TO .none)(hTI:IsPair s.heap TI (.ref i1) (.ref i2))(hTO:IsPair s.heap TO a b)
  (h1:IsTupIter s.heap i1 l1 k1) (h2:IsTupIter s.heap i2 l2 k2) (t1:IsTup s.heap l1 xs) (t2:IsTup s.heap l2 ys) (hend:xs[k1]? =none∨ys[k2]? =none)
  (q:∀h',(∀c o,c≠z→c≠TO→c≠i1→c≠i2→s.heap.get? c=some o→h'.get? c=some o)→Q none {s with heap:=h'}):wpAny (model prog w) A (pyNext (.ref z)) Q E s:=by
 have T:s.TypeIs (.ref z) "zip":=⟨_,hz,rfl⟩
 unfold pyNext
 refine wpAny_bind (wpAny_attempt (wpAny_callSpecial?_slot (name:=Str.ofString "__next__") T F.slot_zip_next (wpAny_call_entry F.slot_zip_next T F.entry_zip_next (zipT_end hh D hz hTI hTO h1 h2 t1 t2 hend fun h' c kp hc=>?_) (F.args_zip_next_1 _))))
 obtain ⟨o,eo,co⟩:=hc
 exact wpAny_bind (wpAny_isInstance (T:="StopIteration") (b:=true) ⟨o,eo,co⟩ isSubtype_stop (wpAny_pure (q _ kp)))
noncomputable abbrev zp1 (h:Heap) (l:Addr):Heap:=h.push {cls:=.type "tuple_iterator",data:=.fields #[.ref l,.int 0 0]}
noncomputable abbrev zp3 (h:Heap) (l m:Addr):Heap:=(zp1 (zp1 h l) m).push {cls:=.type "tuple",data:=.seq #[.ref h.objs.size,.ref (zp1 h l).objs.size]}
noncomputable abbrev zp4 (h:Heap) (l m:Addr):Heap:=(zp3 h l m).push {cls:=.type "tuple",data:=.seq #[.none,.none]}
noncomputable abbrev zp5 (h:Heap) (l m:Addr):Heap:=(zp4 h l m).push {cls:=.type "zip",data:=.fields #[.none,.bool false,.bool false,.ref (zp1 (zp1 h l) m).objs.size,.ref (zp3 h l m).objs.size]}
theorem zipT_new (l m:Addr)(xs ys:Array Value):Meets (Builtin.«zip.__new__» ⟨[.type "zip",.ref l,.ref m],[]⟩) (fun _ R s=>IsTup s.heap l xs∧IsTup s.heap m ys∧R (.ok (.ret (.ref (zp4 s.heap l m).objs.size))) {s with heap:=zp5 s.heap l m}):=
 .of_wp fun prog w A R s hh=>by
  obtain ⟨hp,g,d,tk,os⟩:=s
  obtain ⟨p1,p2,hr⟩:=hh
  have hsub:=sub_zip
  have q1:IsTup (Shared.heap ⟨hp,g,d,tk,os⟩) l xs:=p1
  have q2:IsTup (Shared.heap ⟨zp1 hp l,g,d,tk,os⟩) m ys:=tup_on p2 fun o e=>Heap.get?_push_of_some _ e
  wp_walk using iter_tuple q1,iter_tuple q2
  exact ⟨_,rfl,hr⟩
theorem call_zipT {Q:Value→Shared→Prop}(p1:IsTup s.heap l1 xs)(p2:IsTup s.heap l2 ys)
  (q:∀h',IsZip h' (s.heap.objs.size + 4) (s.heap.objs.size + 2) (s.heap.objs.size + 3) .none→IsPair h' (s.heap.objs.size + 2) (.ref s.heap.objs.size) (.ref (s.heap.objs.size + 1))→IsPair h' (s.heap.objs.size + 3) .none .none→
   IsTupIter h' s.heap.objs.size l1 0→IsTupIter h' (s.heap.objs.size + 1) l2 0→(∀c o,s.heap.get? c=some o→h'.get? c=some o)→Q (.ref (s.heap.objs.size + 4)) {s with heap:=h'}):
  wpAny (model prog w) A (call (.type "zip") [.ref l1,.ref l2]) Q E s:=by
 refine callType_new F.called_zip (by decide) (F.typeCall_zip_2 _ _) (F.newCall_zip_2 _ _) (fun obj=>F.args_object_init_3 obj _ _) F.entry_zip_new (zipT_new l1 l2 xs ys) ⟨p1,p2,?_⟩
 have n1:(zp1 s.heap l1).objs.size=s.heap.objs.size + 1:=Heap.size_push ..
 have n2:(zp1 (zp1 s.heap l1) l2).objs.size=s.heap.objs.size + 2:=by rw [Heap.size_push,n1]
 have n3:(zp3 s.heap l1 l2).objs.size=s.heap.objs.size + 3:=by rw [Heap.size_push,n2]
 have n4:(zp4 s.heap l1 l2).objs.size=s.heap.objs.size + 4:=by rw [Heap.size_push,n3]
 have up:∀{h:Heap} {c:Addr} {o p:Obj},h.get? c=some o→(h.push p).get? c=some o:=fun e=>Heap.get?_push_of_some _ e
 have r5:(zp5 s.heap l1 l2).get? (zp4 s.heap l1 l2).objs.size=some _:=Heap.get?_push_size _ rfl
 have r4:(zp5 s.heap l1 l2).get? (zp3 s.heap l1 l2).objs.size=some _:=up (Heap.get?_push_size _ rfl)
 have r3:(zp5 s.heap l1 l2).get? (zp1 (zp1 s.heap l1) l2).objs.size=some _:=up (up (Heap.get?_push_size _ rfl))
 have r2:(zp5 s.heap l1 l2).get? (zp1 s.heap l1).objs.size=some _:=up (up (up (Heap.get?_push_size _ rfl)))
 have r1:(zp5 s.heap l1 l2).get? s.heap.objs.size=some _:=up (up (up (up (Heap.get?_push_size _ rfl))))
 rw [n2,n3,n4] at r5
 rw [n1,n2] at r3
 rw [n3] at r4
 rw [n1] at r2
 show _∧_
 rw [n4]
 exact ⟨⟨_,r5,rfl⟩,q _ r5 r3 r4 ⟨_,r1,rfl,rfl⟩ ⟨_,r2,rfl,rfl⟩ fun c o e=>up (up (up (up (up e))))⟩
end
end Tw
set_option Elab.async false
set_option linter.all false
set_option maxRecDepth 100000
set_option maxHeartbeats 1000000
namespace Tw
open PySem PySem.Spec PyProof.Rows L2
noncomputable def ItzT (K:PySem.W.Frag) (l1 l2:Addr):It:=
 ⟨fun i H=>∃xs ys x y,SqT K H l1 xs∧SqT K H l2 ys∧xs[i]? =some x∧ys[i]? =some y,
  fun i H v H'=>∃T x y,v= .ref T∧H T=none∧H'=upd H T (.tup [x,y])∧(∀xs,SqT K H l1 xs→xs[i]? =some x)∧∀ys,SqT K H l2 ys→ys[i]? =some y,
  fun i H=>∃xs ys,SqT K H l1 xs∧SqT K H l2 ys∧(xs[i]? =none∨ys[i]? =none)⟩
noncomputable def zipTt (z TI TO i1 i2 l1 l2:Addr) (i:Nat) (h:Heap):Prop:=IsZip h z TI TO .none∧IsPair h TI (.ref i1) (.ref i2)∧(∃a b,IsPair h TO a b)∧IsTupIter h i1 l1 i∧IsTupIter h i2 l2 i
theorem turn_zipT {P:Program}{w:World}{K:PySem.W.Frag}{es:List Expr}{kt:Nat}{pt:Pos}{z TI TO i1 i2 l1 l2:Addr}(D:ZipApart z TI TO i1 i2 l1 l2):
  Turn P w K (.Tuple es kt pt) (ItzT K l1 l2) [z,TI,TO,i1,i2] z (zipTt z TI TO i1 i2 l1 l2) where
 mem:=by simp
 obj:=fun i h st b hb=>by
  obtain ⟨hz,hTI,⟨a,b',hTO⟩,⟨o1,e1,_,d1⟩,⟨o2,e2,_,d2⟩⟩:=st
  simp only [List.mem_cons,List.not_mem_nil,or_false] at hb
  rcases hb with rfl | rfl | rfl | rfl | rfl
  ·exact ⟨_,hz,fun v z=>nomatch z⟩
  ·exact ⟨_,hTI,fun v z=>nomatch z⟩
  ·exact ⟨_,hTO,fun v z=>nomatch z⟩
  ·exact ⟨_,e1,fun v z=>by rw [d1] at z;cases z⟩
  ·exact ⟨_,e2,fun v z=>by rw [d2] at z;cases z⟩
 keep:=fun i h h' st k=>by
  obtain ⟨hz,hTI,⟨a,b',hTO⟩,h1,h2⟩:=st
  exact ⟨k z (by simp) _ hz,k TI (by simp) _ hTI,⟨a,b',k TO (by simp) _ hTO⟩,tupIter_on h1 fun o e=>k i1 (by simp) o e,tupIter_on h2 fun o e=>k i2 (by simp) o e⟩
 item:=by
  intro X hP hw hK hc i pins s σ H E I hf st hg
  subst hP hw hK
  obtain ⟨xs,ys,x,y,q1,q2,ex,ey⟩:=hg
  obtain ⟨its1,r1,p1,z1⟩:=I.tuple q1
  obtain ⟨its2,r2,p2,z2⟩:=I.tuple q2
  obtain ⟨u,hu,ru⟩:=r1.get ex
  obtain ⟨v,hv,rv⟩:=r2.get ey
  obtain ⟨hz,hTI,⟨a,b,hTO⟩,h1,h2⟩:=st
  have l1:∀{c o},s.heap.get? c=some o→c≠s.heap.objs.size:=fun e=>Nat.ne_of_lt (Heap.lt_size e)
  refine nextZ_item D hz hTI hTO h1 h2 p1 p2 (x:=u) (y:=v) (by simpa using hu) (by simpa using hv) fun h' a1 a2 a3 a4 a5 a6 hk=>⟨_,rfl,?_⟩
  refine wpAny_letOwnedTupleGo_zip a1 fun h2' b1 b2=>?_
  have ez:z < s.heap.objs.size:=Heap.lt_size hz
  have nT:s.heap.objs.size≠z:=Nat.ne_of_gt ez
  have kp:∀c o,c∉[z,TI,TO,i1,i2]→s.heap.get? c=some o→h2'.get? c=some o:=fun c o hc e=>by
   simp only [List.mem_cons,List.not_mem_nil,or_false,not_or] at hc
   exact (b2.2 c hc.1).trans (hk c o hc.1 hc.2.2.1 hc.2.2.2.1 hc.2.2.2.2 e)
  have fr:H s.heap.objs.size=none:=I.hok.fresh (Nat.le_refl _)
  have tr:∀c w,H c=some w→c∉[z,TI,TO,i1,i2]:=fun c w e hc=>by rw [(hf c hc).1] at e;cases e
  have st':zipTt z TI TO i1 i2 _ _ (i + 1) h2':=⟨b1,(b2.2 _ D.TIz).trans (hk _ _ D.TIz D.TITO D.TIi1 D.TIi2 hTI),⟨_,_,(b2.2 _ D.TOz).trans a2⟩,tupIter_on a3 fun o e=>(b2.2 _ D.i1z).trans e,tupIter_on a4 fun o e=>(b2.2 _ D.i2z).trans e⟩
  have five:∀c∈[z,TI,TO,i1,i2],∃o,h2'.get? c=some o:=fun c hc=>by
   obtain ⟨q1,q2,⟨_,_,q3⟩,⟨_,q4,_⟩,⟨_,q5,_⟩⟩:=st'
   simp only [List.mem_cons,List.not_mem_nil,or_false] at hc
   rcases hc with rfl | rfl | rfl | rfl | rfl
   ·exact ⟨_,q1⟩
   ·exact ⟨_,q2⟩
   ·exact ⟨_,q3⟩
   ·exact ⟨_,q4⟩
   ·exact ⟨_,q5⟩
  have hb5:h2'.get? s.heap.objs.size=some {cls:=.type "tuple",data:=.seq #[u,v]}:=(b2.2 _ nT).trans a5
  have un:Un (frs X.stack) [z,TI,TO,i1,i2] H (upd H s.heap.objs.size (.tup [x,y])) s.heap h2':=⟨fun c o e n hfs hx=>kp c o hx e,fun c o e n hfs hx=>⟨o.slots,kp c o hx e⟩,fun c o e n hx=>by rw [upd_ne (l1 e)];exact n,fun c o e hx=>⟨o,kp c o hx e⟩,
   fun c ws e=>by rw [upd_ne (ne_of_none e fr)];exact e,fun c o w e=>by rw [upd_ne (ne_of_none e fr)];exact e,fun c ps e=>⟨#[],by rw [upd_ne (ne_of_none e fr),e];simp⟩⟩
  have hok:HOk X.prog X.w (upd H s.heap.objs.size (.tup [x,y])) h2':=fun c w e=>by
   by_cases hc:c=s.heap.objs.size
   ·subst hc
    rw [upd_same] at e;cases e
    exact ⟨by show 2≤sizeLine;rw [sizeLine_eq];decide,[u,v],.cons ru (.cons rv .nil),⟨_,hb5,rfl,_,rfl⟩⟩
   ·rw [upd_ne hc] at e
    refine (I.hok c w e).stay (fun c' o hc' e'=>kp c' o (by
     rcases hc' with rfl | hc'
     ·exact tr _ _ e
     ·exact tr _ _ hc') e') (fun c' q=>by rw [upd_ne (ne_of_none q fr)];exact q) fun c' ws q=>by rw [upd_ne (ne_of_none q fr)];exact q
  have I1:Inv X pins σ (upd H s.heap.objs.size (.tup [x,y])) {s with heap:=h2'}:=I.call' (s':={s with heap:=h2'}) (ch:=[z,TI,TO,i1,i2]) rfl un hok I.bare fun c hc=>⟨(hf c hc).2.2.2.1,(hf c hc).2.1,(hf c hc).2.2.2.2.1,(hf c hc).2.2.2.2.2⟩
  exact ⟨.ref s.heap.objs.size,_,I1,rfl,⟨_,x,y,rfl,fr,rfl,fun ws hw=>by rw [I.tuple_inj hw q1];exact ex,fun ws hw=>by rw [I.tuple_inj hw q2];exact ey⟩,st',fun c hc=>by
   obtain ⟨o,e⟩:=five c hc
   have:c≠s.heap.objs.size:=fun z=>by
    subst z
    have:=(hf _ hc)
    obtain ⟨q1,q2,⟨_,_,q3⟩,⟨_,q4,_⟩,⟨_,q5,_⟩⟩:=(⟨hz,hTI,⟨a,b,hTO⟩,h1,h2⟩:zipTt z TI TO i1 i2 _ _ i s.heap)
    simp only [List.mem_cons,List.not_mem_nil,or_false] at hc
    rcases hc with rfl | rfl | rfl | rfl | rfl
    ·exact l1 q1 rfl
    ·exact l1 q2 rfl
    ·exact l1 q3 rfl
    ·exact l1 q4 rfl
    ·exact l1 q5 rfl
   rw [upd_ne this];exact (hf c hc).1⟩
 done:=by
  intro X hP hw hK hc i pins s σ H E I hf st hg
  subst hP hw hK
  obtain ⟨xs,ys,q1,q2,hend⟩:=hg
  obtain ⟨its1,r1,p1,z1⟩:=I.tuple q1
  obtain ⟨its2,r2,p2,z2⟩:=I.tuple q2
  obtain ⟨hz,hTI,⟨a,b,hTO⟩,h1,h2⟩:=st
  refine nextZ_end (I.ok.hd hc) D hz hTI hTO h1 h2 p1 p2 (hend.imp (vals_none r1) (vals_none r2)) fun h' hk=>⟨rfl,?_⟩
  have kp:∀c o,c∉[z,TO,i1,i2]→s.heap.get? c=some o→h'.get? c=some o:=fun c o hc e=>by
   simp only [List.mem_cons,List.not_mem_nil,or_false,not_or] at hc
   exact hk c o hc.1 hc.2.1 hc.2.2.1 hc.2.2.2 e
  have sub:∀c∈[z,TO,i1,i2],c∈[z,TI,TO,i1,i2]:=fun c hc=>by simp at hc ⊢;rcases hc with h | h | h | h <;> simp [h]
  have un:Un (frs X.stack) [z,TO,i1,i2] H H s.heap h':=⟨fun c o e n hfs hx=>kp c o hx e,fun c o e n hfs hx=>⟨o.slots,kp c o hx e⟩,fun c o e n hx=>n,fun c o e hx=>⟨o,kp c o hx e⟩,fun c ws e=>e,fun c o w e=>e,fun c ps e=>⟨#[],by rw [e];simp⟩⟩
  have tr:∀c w,H c=some w→c∉[z,TO,i1,i2]:=fun c w e hc=>by rw [(hf c (sub c hc)).1] at e;cases e
  have hok:HOk X.prog X.w H h':=fun c w e=>(I.hok c w e).stay (fun c' o hc' e'=>kp c' o (by
   rcases hc' with rfl | hc'
   ·exact tr _ _ e
   ·exact tr _ _ hc') e') (fun _ q=>q) fun _ _ q=>q
  exact I.call' (s':={s with heap:=h'}) (ch:=[z,TO,i1,i2]) rfl un hok I.bare fun c hc=>⟨(hf c (sub c hc)).2.2.2.1,(hf c (sub c hc)).2.1,(hf c (sub c hc)).2.2.2.2.1,(hf c (sub c hc)).2.2.2.2.2⟩
 self:=fun _ _ _ _ _ st h=>wpAny_pyIter_zip st.1 h
noncomputable def fCompZT (fa:FA) (js:List (Option Nat)) (gf:D→Ev→Option Ev) (t:FT) (fe:FE):FE:=fun ρ=>(fa ρ).bind fun ds=>match ds with
 | [.tup xs,.tup ys]=>fCompL js gf t fe (zipD xs ys) ρ
 | _=>none
section
variable {X:Cx}{scope:Scope}{cl:List (Str×Addr)}{N:List Str}{js:List (Option Nat)}{elt a b:Expr}{ifs:List Expr}{pos p p2:Pos}{fa:FA}{t:FT}{fe:FE}
theorem qx_compZT {es:List Expr}{is:List Nat}{kt:Nat}{pt:Pos}(hc:X.calm=true)(hm:X.mg "zip"=none)(bk:Blk X scope cl N js)(hN:(N ++ [accN]).Nodup)(tg:∀s2 H2 fp C,Tg (blk X scope cl s2 H2 fp C (N ++ [accN])) es is)(ha:QA X [a,b] fa)(ht:∀s2 H2 fp C,Tst (blk X scope cl s2 H2 fp C (N ++ [accN])) ifs t)(he:∀s2 H2 fp C,QX (blk X scope cl s2 H2 fp C (N ++ [accN])) elt fe)
  (hk:∀i∈is,i≠js.length) (hn:autoParam (∀C,(assignEach es (compEnvC scope cl C X.env)).length=is.length) Zau.a3._auto_1) (hst:autoParam (∀C,(assignEach es (compEnvC scope cl C X.env)).findIdx? (·.1)=none) Zau.a3._auto_1)
  (hgl:autoParam (Gl X "zip") Zau.a2._auto_1) (hs1:autoParam (starEach [a,b] X.env=(false,eval a X.env) :: starEach [b] X.env) Zau.a2._auto_1) (hpl:autoParam ((backTo p2 (starEach [b] X.env)).any (·.1)=false) Zau.a2._auto_1) (hs:autoParam (∀x,foldedSetIterable (.Call (.Name "zip" p) [a,b] [] p2) X.env x=pure x) Zau.a3._auto_1) (hbt:autoParam (bootBuiltins "zip"=some (.type "zip")) Zau.a2._auto_1):
  QX X (.ListComp elt [⟨.Tuple es kt pt,.Call (.Name "zip" p) [a,b] [] p2,ifs,0⟩] scope pos) (fCompZT fa js (gfTup is) t fe):=by
 refine ⟨fun pins s σ H Q I ⟨ρ,d,rv,e,q⟩=>?_⟩
 unfold fCompZT at e
 cases e1:fa ρ with
 | none=>rw [e1] at e;cases e
 | some ds=>
  rw [e1] at e
  simp only [Option.bind_some] at e
  split at e
  ·rename_i xs ys
   obtain ⟨zs,rfl⟩:=lastL_own e
   rw [eval_ListComp]
   refine wpAny_comprehension_free (use:=none) rfl hs bk.clos bk.kind bk.nms ?_
   refine wpAny_Call_Name_kw (ld_blt I hgl hm hbt ?_ (by decide) (by decide))
   refine PyProof.Rows.callWith_type1 (wpAny_mono (ha.to p2 pins s σ H (fun vs H1=>Same H H1∧DenL X.K Emp H1 [.tup xs,.tup ys] vs) I ⟨ρ,_,rv,e1,fun vs H1 s1 l1=>⟨s1,l1⟩⟩) (fun us s1 ⟨vs,H1,I1,r1,sm,l1⟩=>?_) fun _ _ z=>z) hs1 hpl
   obtain ⟨v,w,rfl,dx,dy⟩:=denL2 l1
   have dx':=dx
   rw [Den] at dx'
   obtain ⟨l1',vs1,rfl,h1,la⟩:=dx'
   have dy':=dy
   rw [Den] at dy'
   obtain ⟨l2',vs2,rfl,h2,lb⟩:=dy'
   obtain ⟨u1,u2,rfl,ru1,ru2⟩:=vals2 r1
   cases ru1
   cases ru2
   obtain ⟨its1,rr1,p1,z1⟩:=I1.tuple (X:=X) h1
   obtain ⟨its2,rr2,p2',z2⟩:=I1.tuple (X:=X) h2
   have lt1:l1' < s1.heap.objs.size:=by obtain ⟨o,e0,_⟩:=p1;exact Heap.lt_size e0
   have lt2:l2' < s1.heap.objs.size:=by obtain ⟨o,e0,_⟩:=p2';exact Heap.lt_size e0
   refine call_zipT p1 p2' fun h' c1 c2 c3 c4 c5 c7=>?_
   refine wpAny_pyIter_zip c1 ?_
   have I2:Inv X pins σ H1 {s1 with heap:=h'}:=I1.kept (t':=s1.toks) fun c o e0=>c7 c o e0
   have fp:∀c∈[s1.heap.objs.size + 4,s1.heap.objs.size + 2,s1.heap.objs.size + 3,s1.heap.objs.size,s1.heap.objs.size + 1],FpOk X pins H1 c:=fun c hc=>by
    have le:s1.heap.objs.size≤c:=by simp only [List.mem_cons,List.not_mem_nil,or_false] at hc;(first|lia|omega)
    exact I1.fpOk le (I1.hok.fresh le)
   have any:∀{Kk:PySem.W.Frag} {O:Addr→Prop} {Hh:Hp},Den Kk O Hh (.tup xs) (.ref l1')→∃vs,SqT Kk Hh l1' vs∧DenL Kk O Hh xs vs:=fun {Kk O Hh} z=>by
    rw [Den] at z
    obtain ⟨a1,vs1,ev,hq1,l⟩:=z
    cases ev
    exact ⟨vs1,hq1,l⟩
   have any2:∀{Kk:PySem.W.Frag} {O:Addr→Prop} {Hh:Hp},Den Kk O Hh (.tup ys) (.ref l2')→∃vs,SqT Kk Hh l2' vs∧DenL Kk O Hh ys vs:=fun {Kk O Hh} z=>by
    rw [Den] at z
    obtain ⟨a1,vs1,ev,hq1,l⟩:=z
    cases ev
    exact ⟨vs1,hq1,l⟩
   refine comp_core (P:=[(.tup xs,.ref l1'),(.tup ys,.ref l2')]) (xs:=zipD xs ys) (g:=gTup X.K is.length (gAll is)) hc I2 (turn_zipT (zipApart_new lt1 lt2)) ⟨c1,c2,⟨_,_,c3⟩,c4,c5⟩ fp bk (rv.same sm) (fun p hp=>?_) (fun Y hY i own ρ σ Hh z rp ez=>?_) (fun Y hY own ρ σ Hh rp=>?_)
    (fun C=>pg_names (X:=blk X scope cl _ _ _ C (N ++ [accN])) hc hN (tg _ _ _ C) (hn C) (hst C)) (fun C=>pxgk_tup (Y:=blk X scope cl _ _ _ C (N ++ [accN])) is hk) (fun C=>(ht _ _ _ C).to) (fun C=>(he _ _ _ C).to) e (fun Dd H' s' d'=>q _ H' (sm.trans s') (d'.elder sm))
   ·simp only [List.mem_cons,List.not_mem_nil,or_false] at hp
    rcases hp with rfl | rfl
    ·exact dx
    ·exact dy
   ·have z1:=rp.prot _ List.mem_cons_self
    have z2:=rp.prot _ (List.mem_cons_of_mem _ List.mem_cons_self)
    rw [hY] at z1 z2
    obtain ⟨ws1,q1,m1⟩:=any z1
    obtain ⟨ws2,q2,m2⟩:=any2 z2
    unfold zipD at ez
    rw [List.getElem?_zipWith] at ez
    cases g1:xs[i]? with
    | none=>rw [g1] at ez;cases ez
    | some x0=>
     cases g2:ys[i]? with
     | none=>rw [g1,g2] at ez;cases ez
     | some y0=>
      rw [g1,g2] at ez
      cases ez
      obtain ⟨v1,k1,t1⟩:=denL_get m1 g1
      obtain ⟨v2,k2,t2⟩:=denL_get m2 g2
      refine ⟨⟨ws1,ws2,v1,v2,q1,q2,k1,k2⟩,fun w H' ⟨T,x1,y1,ew,hT,eH,f1,f2⟩=>?_⟩
      subst ew eH
      have g3:=f1 ws1 (q1)
      have g4:=f2 ws2 (q2)
      rw [k1] at g3;cases g3
      rw [k2] at g4;cases g4
      have up:∀{d v},Den X.K (Own own) Hh d v→Den X.K (Own own) (upd Hh T (.tup [v1,v2])) d v:=fun {d v} h=>den_mono (fun c o e0 _=>by rw [upd_ne (ne_of_none e0 hT)];exact e0) (fun c z=>rp.isL c z) (fun c z=>.inl z) d v h
      refine ⟨same_upd hT _,?_⟩
      rw [Den]
      exact ⟨T,[v1,v2],rfl,.inl (.inl upd_same),denL_cons (up t1) (denL_cons (up t2) denL_nil)⟩
   ·have z1:=rp.prot _ List.mem_cons_self
    have z2:=rp.prot _ (List.mem_cons_of_mem _ List.mem_cons_self)
    rw [hY] at z1 z2
    obtain ⟨ws1,q1,m1⟩:=any z1
    obtain ⟨ws2,q2,m2⟩:=any2 z2
    refine ⟨ws1,ws2,q1,q2,?_⟩
    have k1:=denL_length m1
    have k2:=denL_length m2
    unfold zipD
    rw [List.length_zipWith,List.getElem?_eq_none_iff,List.getElem?_eq_none_iff]
    (first|lia|omega)
  ·cases e
end
end Tw
set_option Elab.async false
set_option linter.all false
set_option maxRecDepth 100000
set_option maxHeartbeats 1000000
namespace Tw
open PySem PySem.Spec PyProof.Rows L2
section
variable {X:Cx}{a:Expr}{p p2 p3 pos:Pos}{fa:FA}
end
end Tw
set_option Elab.async false
set_option linter.all false
set_option maxRecDepth 100000
set_option maxHeartbeats 1000000
namespace Tw
open PySem PySem.Spec PyProof.Rows L2
noncomputable def UseOk (X:Cx) (pins:List (Addr×Obj)) (σ:L2.St) (Q:VK) (u:Value→Sem Unit) (Rr:Shared→Prop):Prop:=
 ∀(C:Addr) (m:Str→Option Value) (s':Shared) (H':Hp) (v:V) (vv:Value),FpOk X pins H' C→s'.heap.Ns C m→Inv X pins σ H' s'→RelV v vv→Q v H'→
  wpAny (model X.prog X.w) X.A (u vv) (fun _ s2=>∃m,s2.heap.Ns C m∧∀h',Heap.SameBut C s2.heap h'→Rr {s2 with heap:=h'}) X.xe s'
structure QXU (X:Cx) (e:Expr) (f:FE):Prop where
 to:∀(pins:List (Addr×Obj)) (s:Shared) (σ:L2.St) (H:Hp) (Q:VK) (u:Value→Sem Unit) (Rr:Shared→Prop),Inv X pins σ H s→tX X f σ H Q→UseOk X pins σ Q u Rr→
  wpAny (model X.prog X.w) X.A (evalThenUse e X.env u) (fun _ s'=>Rr s') X.xe s
theorem use_list {M:Model}{A:Around}{E:Value→Shared→Prop}{s:Shared}{env:Env}{elt:Expr}{g:Comprehension}{gs:List Comprehension}{scope:Scope}{pos:Pos}{u:Value→Sem Unit}{Rr:Shared→Prop}
  (h:wpAny M A (comprehension (.ListComp elt (g :: gs) scope pos) scope env (firstIterPos (g :: gs) pos) (newList []) (firstAsync (g :: gs)) (firstIter (g :: gs) env) (some u)) (fun _ s'=>Rr s') E s):
  wpAny M A (evalThenUse (.ListComp elt (g :: gs) scope pos) env u) (fun _ s'=>Rr s') E s:=by
 show wpAny M A (do let _ ←comprehension (.ListComp elt (g :: gs) scope pos) scope env (firstIterPos (g :: gs) pos) (newList []) (firstAsync (g :: gs)) (firstIter (g :: gs) env) (some u)) _ _ s
 exact wpAny_bind (wpAny_mono h (fun _ s' hq=>wpAny_pure hq) fun _ _ e=>e)
section
variable {X:Cx}{pins:List (Addr×Obj)}{σ:L2.St}{H2:Hp}{s2:Shared}{scope:Scope}{cl:List (Str×Addr)}{N:List Str}{js:List (Option Nat)}{fp:List Addr}{it:Addr}{tn:Nat→Heap→Prop}{J:It}
 {elt tg iter:Expr} {ifs:List Expr} {pos:Pos} {P:List (D×V)} {ρ:Ev} {xs:List D} {g:TG} {gf:D→Ev→Option Ev} {t:FT} {fe:FE} {ys:List D} {Q:VK}
theorem comp_coreU {u:Value→Sem Unit}{Rr:Shared→Prop}(hcalm:X.calm=true)(I2:Inv X pins σ H2 s2)(T:Turn X.prog X.w X.K tg J fp it tn)(st2:tn 0 s2.heap)(f2:∀y∈fp,FpOk X pins H2 y)(b:Blk X scope cl N js)(rv:RepV X.K ρ σ H2)(hP:∀p∈P,Den X.K Emp H2 p.1 p.2)
  (hgo:∀(Y:Cx),Y.K=X.K→∀(i:Nat) (own:Nat→Option Addr) (ρ:Ev) (σ:L2.St) (H:Hp) (x:D),Rep Y P ρ own σ H→xs[i]? =some x→J.go i H∧∀v H',J.yld i H v H'→Same H H'∧Den X.K (Own own) H' x v)
  (hst:∀(Y:Cx),Y.K=X.K→∀(own:Nat→Option Addr) (ρ:Ev) (σ:L2.St) (H:Hp),Rep Y P ρ own σ H→J.stop xs.length H)
  (hg:∀C,PG (blk X scope cl s2 H2 fp C (N ++ [accN])) tg g) (hgf:∀C,PXGk (blk X scope cl s2 H2 fp C (N ++ [accN])) js.length g gf)
  (htt:∀C pins' s σ' H ρ k Q,Inv (blk X scope cl s2 H2 fp C (N ++ [accN])) pins' σ' H s→RepV X.K ρ σ' H→t ρ=some k→(∀H',Same H H'→Q k H')→
   wpAny (model X.prog X.w) X.A (forIn ifs true fun c r=>if r=true then do let ok ←isTrue c (compEnvC scope cl C X.env) (eval c (compEnvC scope cl C X.env));pure (ForInStep.yield ok) else pure (ForInStep.yield r)) (TP (blk X scope cl s2 H2 fp C (N ++ [accN])) pins' σ' Q) Fa s)
  (he:∀C,PX (blk X scope cl s2 H2 fp C (N ++ [accN])) elt fe)
  (e:lastL js.length (loopF (turnF gf (blkB js.length t fe)) xs (capE js ρ ++ [some (.own [])]))=some (.own ys))
  (q:∀Dd H',Same H2 H'→DenF X.K H2 H' (.own ys) (.ref Dd)→Q (.ref Dd) H') (hU:UseOk X pins σ Q u Rr):
  wpAny (model X.prog X.w) X.A (newList []) (fun acc s3=>wpAny (model X.prog X.w) X.A (newFunctionEnv scope X.env.globals cl [] X.env.qual none .none (some X.env)) (fun cenv s4=>
   codeAny (model X.prog X.w) X.A (.compStart (.ListComp elt [⟨tg,iter,ifs,0⟩] scope pos) 0 (.ref it) acc {cenv with scope:=relabel scope X.env}) (compPost (model X.prog X.w) X.A X.xe (some u) (fun _ s9=>Rr s9) acc cenv.locals) s4) X.xe s3) X.xe s2:=by
 have fl:∀y∈fp,y < s2.heap.objs.size:=fun y hy=>by obtain ⟨o,eo,_⟩:=T.obj _ _ st2 y hy;exact Heap.lt_size eo
 refine wpAny_newObj_type (wpAny_newFunctionEnv b.cell (by intro y hy;simp at hy) (fun h' hns hsb=>?_) b.kind)
 dsimp only at hns hsb ⊢
 generalize hH:s2.heap.push {cls:=.type "list",dict:=none,data:=.seq ([]:List Value).toArray}=H3 at hns hsb ⊢
 have hC:H3.objs.size=s2.heap.objs.size + 1:=by rw [←hH,Heap.size_push]
 have ne:s2.heap.objs.size≠H3.objs.size:=by rw [hC];exact Nat.ne_of_lt (Nat.lt_succ_self _)
 have leC:s2.heap.objs.size≤H3.objs.size:=by rw [hC];exact Nat.le_succ _
 have kp3:∀y o,s2.heap.get? y=some o→H3.get? y=some o:=fun y o e=>hH▸Heap.get?_push_of_some _ e
 have kp4:∀y o,H3.get? y=some o→h'.get? y=some o:=fun y o e=>hsb.extBut y o (Nat.ne_of_lt (Heap.lt_size e)) (Heap.get?_push_of_some _ e)
 have hDn:H2 s2.heap.objs.size=none:=I2.hok.fresh (Nat.le_refl _)
 have ok3:HOk X.prog X.w (upd H2 s2.heap.objs.size (.lst [])) H3:=I2.hok.laid kp3 (Nat.le_refl _) ⟨Nat.zero_le _,[],0,.nil,by rw [←hH];exact Heap.get?_push_size _ rfl⟩
 have I4:=blk_inv (s4:={s2 with heap:=h',toks:=s2.toks + ([]:List (Str×Value)).length}) (Dd:=s2.heap.objs.size) (C:=H3.objs.size) I2 b f2 fl leC (Nat.le_refl _) ne rfl I2.bare (fun y o e=>kp4 y o (kp3 y o e)) hns (ok3.kept kp4)
 have R4:=blk_rep (s2:=s2) (fp:=fp) (C:=H3.objs.size) (Dd:=s2.heap.objs.size) (P:=P) b rv hP hDn
 have hfree:∀{H':Hp},(∀y∈fp,H' y=none)→∀y∈fp,FpOk (blk X scope cl s2 H2 fp H3.objs.size (N ++ [accN])) [] H' y:=fun hn y hy=>
  ⟨hn y hy,Nat.ne_of_lt (Nat.lt_of_lt_of_le (fl y hy) leC),fun z=>(List.mem_cons.mp (I2.stkSub y z)).elim (f2 y hy).2.1 (f2 y hy).2.2.1,.inl hy,fun x c ec=>(f2 y hy).2.2.2.2.1 x c (b.sub x c ec),fun p hp=>absurd (show p∈([]:List (Addr×Obj)) from hp) (by simp)⟩
 have loop:∀s5:Shared,s5={s2 with heap:=h',toks:=s2.toks + ([]:List (Str×Value)).length}→
   codeAny (model X.prog X.w) X.A (.compLoop (.ListComp elt [⟨tg,iter,ifs,0⟩] scope pos) 0 (.ref it) (.ref s2.heap.objs.size) (compEnvC scope cl H3.objs.size X.env))
    (compPost (model X.prog X.w) X.A X.xe (some u) (fun _ s9=>Rr s9) (.ref s2.heap.objs.size) H3.objs.size) s5:=by
  rintro s5 rfl
  let Y:=blk X scope cl s2 H2 fp H3.objs.size (N ++ [accN])
  have he':∃ρe,loopF (turnF gf (blkB js.length t fe)) xs (capE js ρ ++ [some (.own [])])=some (.nx ρe)∧ρe[js.length]? =some (some (.own ys)):=by
   unfold lastL at e
   split at e
   ·rename_i ρe eq
    refine ⟨ρe,eq,?_⟩
    split at e
    ·rename_i ys' eq';cases e;exact eq'
    ·cases e
   ·cases e
  obtain ⟨ρe,eL,eY⟩:=he'
  refine comp_loop (fun n s=>∃i σ' H' own' ρ',n=xs.length - i∧i≤xs.length∧Inv Y [] σ' H' s∧tn i s.heap∧(∀y∈fp,H' y=none)∧σ'[js.length]? =some (some (.ref s2.heap.objs.size))∧Rep Y P ρ' own' σ' H'∧loopF (turnF gf (blkB js.length t fe)) (xs.drop i) ρ'=some (.nx ρe)) ?_ xs.length
   ⟨0,_,_,_,_,by simp,Nat.zero_le _,I4,T.keep 0 _ _ st2 fun y hy o eo=>kp4 y o (kp3 y o eo),fun y hy=>by rw [upd_ne (Nat.ne_of_lt (fl y hy))];exact (f2 y hy).1,by rw [List.getElem?_append_right (by unfold capS;simp)];unfold capS;simp,R4,by simpa using eL⟩
  rintro n s ⟨i,σ',H',own',ρ',rfl,hi,I,st,fr,sl,rp,el⟩
  by_cases hlt:i < xs.length
  ·obtain ⟨go,yl⟩:=hgo Y rfl i own' ρ' σ' H' xs[i] rp (by simp [hlt])
   refine wpAny_mono (T.item Y rfl rfl rfl hcalm i [] s σ' H' Fa I (hfree fr) st go) (fun r s1 ⟨u,hr,h1⟩=>?_) fun _ _ z=>z
   subst hr
   refine wpAny_mono h1 (fun _ s3 ⟨x,H5,I5,r5,y5,st5,fr5⟩=>?_) fun _ _ z=>z
   obtain ⟨sm5,dx⟩:=yl x H5 y5
   replace rp:=rp.grow sm5
   rw [List.drop_eq_getElem_cons hlt,loopF] at el
   cases e1:turnF gf (blkB js.length t fe) xs[i] ρ' with
   | none=>rw [e1] at el;cases el
   | some r1=>
    rw [e1] at el
    simp only [Option.bind_some] at el
    unfold turnF at e1
    cases e2:gf xs[i] ρ' with
    | none=>rw [e2] at e1;cases e1
    | some ρ1=>
     rw [e2] at e1
     simp only [Option.bind_some,blkB,fIfS] at e1
     cases e3:t ρ1 with
     | none=>rw [e3] at e1;cases e1
     | some k=>
      rw [e3] at e1
      simp only [Option.bind_some] at e1
      have I5':=I5.pinned (hfree fr5) (T.obj _ _ st5)
      have gg:=hgf H3.objs.size P xs[i] x own' ρ' ρ1 σ' H5 (fun σ2 Hh=>∃own2,Rep Y P ρ1 own2 σ2 Hh∧σ2[js.length]? =some (some (.ref s2.heap.objs.size))) rp dx e2 (fun own2 σ2 rp2 k2=>⟨own2,rp2,k2.trans sl⟩)
      refine wpAny_mono (hg H3.objs.size _ s3 σ' H5 x u _ I5' r5 gg) (fun _ s6 ⟨σ6,H6,I6,own6,rp6,sl6⟩=>?_) fun _ _ z=>z
      have back:∀{s7:Shared} {H7:Hp} {own7:Nat→Option Addr} {ρ7:Ev},Inv Y ([] ++ pinsAt fp s3.heap) σ6 H7 s7→Rep Y P ρ7 own7 σ6 H7→loopF (turnF gf (blkB js.length t fe)) (xs.drop (i + 1)) ρ7=some (.nx ρe)→
        ∃m,m < xs.length - i∧∃i σ' H' own' ρ',m=xs.length - i∧i≤xs.length∧Inv Y [] σ' H' s7∧tn i s7.heap∧(∀y∈fp,H' y=none)∧σ'[js.length]? =some (some (.ref s2.heap.objs.size))∧Rep Y P ρ' own' σ' H'∧loopF (turnF gf (blkB js.length t fe)) (xs.drop i) ρ'=some (.nx ρe):=fun {s7 H7 own7 ρ7} I7 rp7 e7=>by
       refine ⟨xs.length - (i + 1),by (first|lia|omega),i + 1,σ6,H7,own7,ρ7,rfl,hlt,I7.unpinned,T.keep _ _ _ st5 fun y hy o eo=>(I7.pin (y,o) (List.mem_append_right _ (List.mem_append_right _ (mem_pinsAt hy eo)))).1,fun y hy=>?_,sl6,rp7,e7⟩
       obtain ⟨o,eo,_⟩:=T.obj _ _ st5 y hy
       exact (I7.pin (y,o) (List.mem_append_right _ (List.mem_append_right _ (mem_pinsAt hy eo)))).2.1
      refine wpAny_mono (htt H3.objs.size _ s6 σ6 H6 ρ1 k (fun k' Hh=>k'=k∧Same H6 Hh) I6 rp6.view e3 (fun H' sm=>⟨rfl,sm⟩)) (fun ok s7 ⟨H7,I7,hk,sm7⟩=>?_) fun _ _ z=>z
      subst hk
      cases ok with
      | false=>
       rw [if_neg Bool.false_ne_true] at e1 ⊢
       cases e1
       exact back I7 (rp6.grow sm7) el
      | true=>
       rw [if_pos rfl] at e1 ⊢
       have rp7:=rp6.grow sm7
       unfold fApp at e1
       cases e4:fe ρ1 with
       | none=>rw [e4] at e1;cases e1
       | some d=>
        rw [e4] at e1
        simp only [Option.bind_some] at e1
        split at e1
        ·rename_i zs e5
         split at e1
         ·rename_i hl
          cases e1
          refine wpAny_mono (he H3.objs.size _ s7 σ6 H7 (fun v H8=>Same H7 H8∧DenF X.K H7 H8 d v) I7 ⟨ρ1,d,rp7.view,e4,fun v H8 s8 d8=>⟨s8,d8⟩⟩) (fun u8 s8 ⟨v8,H8,I8,r8,sm8,d8⟩=>?_) fun _ _ z=>z
          have rp8:=rp7.grow sm8
          obtain ⟨va,h1,a,vs,h2,h3,h4,lz⟩:=rp8.slot js.length _ e5
          rw [sl6] at h1
          cases h1
          cases h3
          have lz':DenL X.K (Own own6) H8 zs vs:=lz
          have h9:=mt_append (X:=Y) _ s8 σ6 H8 (.ref s2.heap.objs.size) [v8] (.ref s2.heap.objs.size) [u8] (fun v H9=>H9=upd H8 s2.heap.objs.size (.lst (vs ++ [v8]))) I8 rfl (.cons r8 .nil) ⟨_,vs,v8,rfl,rfl,h4,by rw [←denL_length lz'];exact Nat.lt_of_lt_of_le hl.2 lim_line,rfl⟩
          refine wpAny_mono h9 (fun _ s9 ⟨v9,H9,I9,_,e9⟩=>?_) fun _ _ z=>z
          subst e9
          exact back I9 (rp8.mut e5 h2 (denL_append lz' (denL_cons (den_lf _ _ hl.1 d8.den) denL_nil))) el
         ·cases e1
        ·cases e1
  ·have hie:i=xs.length:=by (first|lia|omega)
   subst hie
   refine wpAny_mono (T.done Y rfl rfl rfl hcalm _ [] s σ' H' Fa I (hfree fr) st (hst Y rfl own' ρ' σ' H' rp)) (fun r s1 ⟨hr,I1⟩=>?_) fun _ _ z=>z
   subst hr
   rw [List.drop_eq_nil_of_le (Nat.le_refl _),loopF] at el
   cases el
   obtain ⟨m,hnm,_⟩:=id I1.loc
   have h9e:∃h9,h9=s1.heap:=⟨_,rfl⟩
   obtain ⟨h9,h9e⟩:=h9e
   have hs9:Heap.SameBut H3.objs.size s1.heap h9:=h9e▸Heap.SameBut.refl _ _
   obtain ⟨va,h1,a,vs,h2,h3,h4,lz⟩:=rp.slot js.length _ eY
   rw [sl] at h1
   cases h1
   cases h3
   have neC:∀y,H' y≠none→y≠H3.objs.size:=fun y z w=>z (by rw [w];exact I1.free)
   have inS:∀y o,s2.heap.get? y=some o→y≠H3.objs.size:=fun y o e0=>Nat.ne_of_lt (Nat.lt_of_lt_of_le (Heap.lt_size e0) leC)
   have B:=I1.base
   have un:Un (frs X.stack) fp H2 H' s2.heap h9:=⟨fun y o e0 n hb hx=>(hs9.2 y (inS y o e0)).trans (B.keep y o e0 n hb hx),fun y o e0 n hb hx=>by
     obtain ⟨sl',z⟩:=B.slot y o e0 n hb hx
     exact ⟨sl',(hs9.2 y (inS y o e0)).trans z⟩,B.free,fun y o e0 hx=>by
     obtain ⟨o',z⟩:=B.there y o e0 hx
     exact ⟨o',(hs9.2 y (inS y o e0)).trans z⟩,B.tups,B.frzs,B.tbls⟩
   have hok:HOk X.prog X.w H' h9:=fun y u0 q0=>(I1.hok y u0 q0).stay (fun c v hc z=>(hs9.2 c (neC c (by
     rcases hc with w | w
     ·rw [w,q0];exact fun z=>nomatch z
     ·rw [w];exact fun z=>nomatch z))).trans z) (fun _ z=>z) fun _ _ z=>z
   have I9:=I2.call' (s':={s1 with heap:=h9}) (ch:=fp) I1.os un hok I1.bare (fun y hy=>⟨(f2 y hy).2.2.2.1,(f2 y hy).2.1,(f2 y hy).2.2.2.2.1,(f2 y hy).2.2.2.2.2⟩)
   rw [h9e] at I9
   exact hU H3.objs.size m s1 H' (.ref s2.heap.objs.size) (.ref s2.heap.objs.size) (I2.fpOk leC I1.free) hnm I9 rfl (q _ H' rp.same ⟨_,vs,rfl,hDn,h4,denL_mono (fun _ _ q _=>q) rp.isL (fun b z=>.inl ⟨js.length,by rw [z];exact h2⟩) _ _ lz⟩)
 exact codeAny_compStart_list (loop _ rfl) (T.self _ 0 _ _ _ (T.keep 0 _ _ st2 fun y hy o eo=>kp4 y o (kp3 y o eo)) (loop _ rfl))
end
section
variable {X:Cx}{scope:Scope}{cl:List (Str×Addr)}{N:List Str}{js:List (Option Nat)}{elt iter a:Expr}{ifs:List Expr}{x:Str}{px pos p p2:Pos}{f:FE}{fa:FA}{t:FT}{fe:FE}
theorem qx_compGU {tg:Expr}{gg:TG}{gf:D→Ev→Option Ev}(hc:X.calm=true)(b:Blk X scope cl N js)(hg:∀s2 H2 fp C,PG (blk X scope cl s2 H2 fp C (N ++ [accN])) tg gg)(hgf:∀s2 H2 fp C,PXGk (blk X scope cl s2 H2 fp C (N ++ [accN])) js.length gg gf)(ha:QX X iter f)(ht:∀s2 H2 fp C,Tst (blk X scope cl s2 H2 fp C (N ++ [accN])) ifs t)(he:∀s2 H2 fp C,QX (blk X scope cl s2 H2 fp C (N ++ [accN])) elt fe)
  (hs:autoParam (∀x,foldedSetIterable iter X.env x=pure x) Zau.a3._auto_1):
  QXU X (.ListComp elt [⟨tg,iter,ifs,0⟩] scope pos) (fComp f js gf t fe):=by
 refine ⟨fun pins s σ H Q u Rr I ⟨ρ,d,rv,e,q⟩ hU=>?_⟩
 unfold fComp at e
 cases e1:f ρ with
 | none=>rw [e1] at e;cases e
 | some d0=>
  rw [e1] at e
  simp only [Option.bind_some] at e
  cases e2:items d0 with
  | none=>rw [e2] at e;cases e
  | some xs=>
   rw [e2] at e
   simp only [Option.bind_some] at e
   obtain ⟨ys,rfl⟩:=lastL_own e
   refine use_list ?_
   refine wpAny_comprehension_free (use:=some u) rfl hs b.clos b.kind b.nms ?_
   have hw:iSeq X.K (tX X f) σ H (fun J H1=>Same H H1∧∃a0,Den X.K Emp H1 (frz d0) (.ref a0)∧((J=Itl X.K a0∧∀zs,d0≠.tup zs)∨(J=Itt X.K a0∧∃zs,d0= .tup zs))):=by
    refine ⟨ρ,d0,rv,e1,fun v H1 s1 d1=>?_⟩
    have dd:=d1.den
    obtain ⟨a0,vs,rfl,hq,l⟩:=den_items e2 dd
    cases d0 with
    | tup zs=>
     have z:=dd
     rw [Den] at z
     obtain ⟨a1,vs1,ev,hq1,_⟩:=z
     cases ev
     exact .inr ⟨a0,rfl,⟨_,hq1⟩,s1,a0,den_frz.mpr dd,.inr ⟨rfl,zs,rfl⟩⟩
    | lst zs=>
     have z:=dd
     rw [Den] at z
     obtain ⟨a1,vs1,ev,hq1,_⟩:=z
     cases ev
     exact .inl ⟨a0,rfl,⟨_,.inl (.inl hq1)⟩,s1,a0,den_frz.mpr dd,.inl ⟨rfl,fun zs z=>nomatch z⟩⟩
    | own zs=>
     have z:=dd
     rw [Den] at z
     obtain ⟨a1,vs1,ev,hq1,_⟩:=z
     cases ev
     exact .inl ⟨a0,rfl,⟨_,.inl (.inl hq1)⟩,s1,a0,den_frz.mpr dd,.inl ⟨rfl,fun zs z=>nomatch z⟩⟩
    | scr zs=>
     have z:=dd
     rw [Den] at z
     obtain ⟨a1,vs1,ev,hq1,_⟩:=z
     cases ev
     refine .inl ⟨a0,rfl,⟨vs1,?_⟩,s1,a0,den_frz.mpr dd,.inl ⟨rfl,fun zs z=>nomatch z⟩⟩
     rcases hq1 with ⟨o,w⟩ | w
     ·exact .inl (.inr ⟨o,w⟩)
     ·rcases w with (w | ⟨o,w⟩) | w
      ·cases w
      ·cases w
      ·exact .inr w
    | _=>simp [items] at e2
   refine wpAny_mono (pi_seq (tg:=tg) ha.to pins s σ H _ I hw) (fun v s1 h1=>wpAny_mono h1 (fun itv s2 h2=>?_) fun _ _ z=>z) fun _ _ z=>z
   obtain ⟨it,fp,tn,J,H2,rfl,I2,T,st2,f2,sm,a0,dd,kd⟩:=h2
   have e2':items (frz d0)=some xs:=by cases d0 <;> first | exact e2 | (simp [items] at e2)
   have any:∀{K:PySem.W.Frag} {O:Addr→Prop} {Hh:Hp},Den K O Hh (frz d0) (.ref a0)→∃vs,DenL K O Hh xs vs∧((SqL K Hh a0 vs∧∀zs,d0≠.tup zs)∨(SqT K Hh a0 vs∧∃zs,d0= .tup zs)):=fun {K O Hh} z=>by
    cases d0 with
    | tup zs=>
     cases e2
     simp only [frz] at z
     rw [Den] at z
     obtain ⟨a1,vs1,ev,hq1,l⟩:=z
     cases ev
     exact ⟨vs1,l,.inr ⟨hq1,_,rfl⟩⟩
    | lst zs=>
     cases e2
     simp only [frz] at z
     rw [Den] at z
     obtain ⟨a1,vs1,ev,hq1,_,l⟩:=z
     cases ev
     exact ⟨vs1,l,.inl ⟨.inl (.inl hq1),fun zs z=>nomatch z⟩⟩
    | own zs=>
     cases e2
     simp only [frz] at z
     rw [Den] at z
     obtain ⟨a1,vs1,ev,hq1,_,l⟩:=z
     cases ev
     exact ⟨vs1,l,.inl ⟨.inl (.inl hq1),fun zs z=>nomatch z⟩⟩
    | scr zs=>
     cases e2
     simp only [frz] at z
     rw [Den] at z
     obtain ⟨a1,vs1,ev,hq1,l⟩:=z
     cases ev
     refine ⟨vs1,l,.inl ⟨?_,fun zs z=>nomatch z⟩⟩
     rcases hq1 with ⟨o,w⟩ | w
     ·exact .inl (.inr ⟨o,w⟩)
     ·rcases w with (w | ⟨o,w⟩) | w
      ·cases w
      ·cases w
      ·exact .inr w
    | _=>simp [items] at e2
   refine comp_coreU (u:=u) (P:=[(frz d0,.ref a0)]) (xs:=xs) hc I2 T st2 f2 b (rv.same sm) (fun p hp=>by rw [List.mem_singleton.mp hp];exact dd) (fun Y hY i own ρ σ Hh y rp ey=>?_) (fun Y hY own ρ σ Hh rp=>?_) (hg s2 H2 fp) (hgf s2 H2 fp) (fun C=>(ht s2 H2 fp C).to) (fun C=>(he s2 H2 fp C).to) e (fun Dd H' s' d'=>q _ H' (sm.trans s') (d'.elder sm)) hU
   ·have z:=rp.prot _ List.mem_cons_self
    rw [hY] at z
    obtain ⟨vs,l,kk⟩:=any z
    obtain ⟨v0,hv0,dv0⟩:=denL_get l ey
    rcases kd with ⟨rfl,nt⟩ | ⟨rfl,zs,et⟩
    ·rcases kk with ⟨hq,_⟩ | ⟨_,zs,et⟩
     ·exact ⟨⟨vs,v0,hq,hv0⟩,fun w H' ⟨y1,y2⟩=>by subst y1;have:=y2 vs hq;rw [hv0] at this;cases this;exact ⟨Same.refl _,dv0⟩⟩
     ·exact absurd et (nt _)
    ·rcases kk with ⟨_,nt⟩ | ⟨hq,_⟩
     ·exact absurd et (nt _)
     ·exact ⟨⟨vs,v0,hq,hv0⟩,fun w H' ⟨y1,y2⟩=>by subst y1;have:=y2 vs hq;rw [hv0] at this;cases this;exact ⟨Same.refl _,dv0⟩⟩
   ·have z:=rp.prot _ List.mem_cons_self
    rw [hY] at z
    obtain ⟨vs,l,kk⟩:=any z
    rcases kd with ⟨rfl,nt⟩ | ⟨rfl,zs,et⟩
    ·rcases kk with ⟨hq,_⟩ | ⟨_,zs,et⟩
     ·exact ⟨vs,hq,by rw [←denL_length l];exact Nat.le_refl _⟩
     ·exact absurd et (nt _)
    ·rcases kk with ⟨_,nt⟩ | ⟨hq,_⟩
     ·exact absurd et (nt _)
     ·exact ⟨vs,hq,by rw [←denL_length l];exact Nat.le_refl _⟩
theorem qx_compU (i:Nat)(hc:X.calm=true)(b:Blk X scope cl N js)(hN:(N ++ [accN]).Nodup)(ha:QX X iter f)(ht:∀s2 H2 fp C,Tst (blk X scope cl s2 H2 fp C (N ++ [accN])) ifs t)(he:∀s2 H2 fp C,QX (blk X scope cl s2 H2 fp C (N ++ [accN])) elt fe)
  (hi:(N ++ [accN])[i]? =some x) (hx:(relabel scope X.env).names.lookup x=some .local) (hk:i≠js.length) (hs:autoParam (∀x,foldedSetIterable iter X.env x=pure x) Zau.a3._auto_1):
  QXU X (.ListComp elt [⟨.Name x px,iter,ifs,0⟩] scope pos) (fComp f js (gfName i) t fe):=
 qx_compGU hc b (fun s2 H2 fp C=>pg_name hN hi (.inl hx) (.inr hx)) (fun s2 H2 fp C=>pxgk_name i hk) ha ht he hs
end
section
variable {X:Cx}{e:Expr}{f:FE}{pos:Pos}
theorem qxs_setU (i:Nat){x:Str}{pos':Pos}(hN:X.N.Nodup)(ha:QXU X e f)(hi:autoParam (X.N[i]? =some x) Zau.a2._auto_1)(hx:autoParam (Loc X.env.scope x) Zau.a6._auto_1)(hs:autoParam (swapsWith e (some (.Name x pos')) pos.line X.env=pure true) Zau.a2._auto_1)(hf:autoParam (X.fn x=true∨X.env.scope.names.lookup x=some .local) Zau.a7._auto_1):
  QS X (.Assign [.Name x pos'] e pos) (fAsg i f):=⟨fun pins s σ H E I ⟨P,own,ρ,r,rp,e0,q⟩=>by
 unfold fAsg at e0
 cases e1:f ρ with
 | none=>rw [e1] at e0;cases e0
 | some d=>
  rw [e1] at e0;cases e0
  rw [exec_Assign_Name_used _ _ _ _ hs]
  refine wpAny_bind (wpAny_standAt (wpAny_bind (wpAny_mono (ha.to pins s σ H (fun v H1=>Same H H1∧DenF X.K H H1 d v) (assign (.Name x pos') X.env) (fun s'=>SP X pins E .next s') I ⟨ρ,d,rp.view,e1,fun v H1 s1 d1=>⟨s1,d1⟩⟩ ?_) (fun _ s' h=>wpAny_pure h) fun _ _ z=>z)))
  intro C m s' H' v vv fp hn I' rv ⟨sm,dv⟩
  obtain ⟨o,es,ep,ho,hd,hk⟩:=hn
  obtain ⟨f0,f1,f2,f3,f4,f5⟩:=fp
  have I2:Inv X (pins ++ [(C,o)]) σ H' s':=I'.pins_of fun p hp=>(List.mem_append.mp hp).elim (fun z=>I'.pin p (List.mem_append_right _ z)) fun z=>by
   rw [List.mem_singleton.mp z]
   exact ⟨ho,f0,f1,f2,fun w z=>by rw [hd] at z;cases z⟩
  refine wpAny_mono (pg_name hN hi hx hf (pins ++ [(C,o)]) s' σ H' v vv (fun σ2 H2=>σ2=σ.set i (some v)∧H2=H') I2 rv ⟨rfl,rfl⟩) (fun _ s2 ⟨σ2,H2,I3,e2,e3⟩=>?_) fun _ _ z=>z
  subst e2 e3
  have pc:=I3.pin (C,o) (List.mem_append_right _ (List.mem_append_right _ (List.mem_singleton.mpr rfl)))
  refine ⟨m,⟨o,es,ep,pc.1,hd,hk⟩,fun h' hs'=>?_⟩
  obtain ⟨own',rp'⟩:=rp.bind (i:=i) sm dv
  exact ⟨_,_,(I3.unpinned).turned (t':=s2.toks) (it:=C) (fun b o' hb eb=>(hs'.2 b hb).trans eb) f0 f1 f3 f4 f5,q own' _ _ rp'⟩⟩
end
end Tw
set_option Elab.async false
set_option linter.all false
set_option maxRecDepth 100000
set_option maxHeartbeats 1000000
namespace Tw
open PySem PySem.Spec PyProof.Rows L2
section
variable {X:Cx}{e e':Expr}{pos p:Pos}{fa:FA}
theorem call_divmodI:CallR X (.builtin "divmod") (fun xs H Q=>∃i j:Int,xs=[.int i,.int j]∧dOk j∧∀l,H l=none→Q (.ref l) (upd H l (.tup [.int (i / j),.int (i % j)]))):=by
 intro pins s σ H xs us Q I r h
 obtain ⟨i,j,rfl,hj,q⟩:=h
 obtain ⟨u,u',rfl,r1,r2⟩:=vals2 r
 obtain ⟨t,rfl⟩:=r1
 obtain ⟨t',rfl⟩:=r2
 have e1:i.fdiv j=i / j:=Int.fdiv_eq_ediv_of_nonneg i (Int.le_of_lt hj.1)
 have e2:i.fmod j=i % j:=Int.fmod_eq_emod_of_nonneg i (Int.le_of_lt hj.1)
 refine divmod_int (Int.ne_of_gt hj.1) ?_ (.inl (PyProof.noPylong_of_log2 ?_))
 ·rw [e1,e2]
  have I2:Inv X pins σ (upd H s.heap.objs.size (.tup [.int (i / j),.int (i % j)])) {s with heap:=s.heap.push {cls:=.type "tuple",data:=.seq #[.int (i / j) s.toks,.int (i % j) (s.toks + 1)]},toks:=s.toks + 1 + 1}:=
   I.laid (fun b o e=>Heap.get?_push_of_some _ e) (Nat.le_refl _) (show ObjOk X.prog X.w _ _ _ (.tup [.int (i / j),.int (i % j)]) from ⟨by rw [sizeLine_eq];show 2≤16777216;decide,[.int (i / j) s.toks,.int (i % j) (s.toks + 1)],.cons ⟨_,rfl⟩ (.cons ⟨_,rfl⟩ .nil),IsTup.new _ _⟩)
  exact ⟨.ref s.heap.objs.size,_,I2,rfl,q _ (I.hok.fresh (Nat.le_refl _))⟩
 ·by_cases z:j.natAbs=0
  ·rw [z];decide
  ·exact Nat.lt_of_lt_of_le ((Nat.log2_lt z).mpr (show j.natAbs < 2 ^ 8000 from hj.2)) (by decide)
noncomputable def kDivmod:List D→Option D
 | [.int i,.int j]=>if dOk j then some (.tup [.int (i / j),.int (i % j)]) else none
 | _=>none
theorem qx_divmod (hm:X.mg "divmod"=none)(ha:QA X [e,e'] fa)(hb:autoParam (bootBuiltins "divmod"=some (.builtin "divmod")) Zau.a2._auto_1)(hg:autoParam (Gl X "divmod") Zau.a2._auto_1)(he:autoParam (starEach [e,e'] X.env=(false,eval e X.env) :: starEach [e'] X.env) Zau.a2._auto_1)(hpl:autoParam ((backTo pos (starEach [e'] X.env)).any (·.1)=false) Zau.a2._auto_1):
  QX X (.Call (.Name "divmod" p) [e,e'] [] pos) (fCall kDivmod fa):=⟨px_callB call_divmodI (by
 intro ds d vs H Q ek l q
 unfold kDivmod at ek
 split at ek
 ·rename_i i j
  split at ek
  ·rename_i hj
   cases ek
   obtain ⟨v,v',rfl,h,h'⟩:=denL2 l
   exact ⟨i,j,by rw [den_int.mp h,den_int.mp h'],hj,fun l hl=>q _ _ (same_upd hl _) (denF_tup hl (denL_ints [i / j,i % j]))⟩
  ·cases ek
 ·cases ek) hb hm ha.to hg (by decide) (by decide) he hpl⟩
end
end Tw
set_option Elab.async false
set_option linter.all false
set_option maxRecDepth 100000
set_option maxHeartbeats 1000000
namespace Tw
open PySem PySem.Spec PyProof.Rows L2
section
variable {X:Cx}{e:Expr}{f:FE}{pos:Pos}
theorem denL_erase {K:PySem.W.Frag}{O:Addr→Prop}{H:Hp}:∀{ds:List D} {vs:List V} (n:Nat),DenL K O H ds vs→DenL K O H (ds.eraseIdx n) (vs.eraseIdx n)
 | [],_,n,h=>by rw [DenL] at h;subst h;exact denL_nil
 | d :: ds,_,0,h=>by
  rw [DenL] at h
  obtain ⟨v,r,rfl,_,l⟩:=h
  exact l
 | d :: ds,_,n + 1,h=>by
  rw [DenL] at h
  obtain ⟨v,r,rfl,hv,l⟩:=h
  exact denL_cons hv (denL_erase n l)
noncomputable def fPopAt (i j:Nat) (f:FE):FS:=fun ρ=>match ρ[j]? with
 | some (some (.own xs))=>(f ρ).bind fun n=>match n with
  | .int n=>if 0≤n∧n < 2 ^ 62 then match xs[n.toNat]? with
   | some d=>if lf d=true then some (.nx ((ρ.set j (some (.own (xs.eraseIdx n.toNat)))).set i (some d))) else none
   | none=>none
   else none
  | _=>none
 | _=>none
theorem qxs_popAt (i j:Nat){x y:Str}{p p' apos cpos:Pos}(hNd:X.N.Nodup)(ha:QX X e f)(hi:autoParam (X.N[i]? =some x) Zau.a2._auto_1)(hx:autoParam (Loc X.env.scope x) Zau.a6._auto_1)(hN:autoParam (X.N[j]? =some y) Zau.a2._auto_1)(hv:autoParam (Vis X.env.scope y) Zau.a4._auto_1)(hd:autoParam ((y == ("__debug__":Str))=false) Zau.a1._auto_1)(hcd:autoParam ((y == ("__classdict__":Str))=false) Zau.a1._auto_1)
  (hbase:autoParam (attributeBase (.Name y p) "pop" X.env (eval (.Name y p) X.env)=eval (.Name y p) X.env) Zau.a2._auto_1)
  (hfew:autoParam (((backTo cpos (starEach [e] X.env)).all (fun x=>!x.1) && (backToKw cpos (keywordEach [] X.env)).all (fun x=>x.1.isSome) && decide (([e]:List Expr).length + ([]:List Keyword).length + (if ([]:List Keyword).isEmpty then 0 else 1) < 30))=true) Zau.a2._auto_1)
  (hline:autoParam ((apos.endLine == cpos.line)=true) Zau.a2._auto_1) (hs:autoParam (starEach [e] X.env=(false,eval e X.env) :: starEach [] X.env) Zau.a2._auto_1)
  (hsw:autoParam (swapsWith (.Call (.Attribute (.Name y p) "pop" apos) [e] [] cpos) (some (.Name x p')) pos.line X.env=pure false) Zau.a2._auto_1) (hf:autoParam (X.fn x=true∨X.env.scope.names.lookup x=some .local) Zau.a7._auto_1):
  QS X (.Assign [.Name x p'] (.Call (.Attribute (.Name y p) "pop" apos) [e] [] cpos) pos) (fPopAt i j f):=
 ⟨PS.weak (ps_set hNd hi hx (pe_bm PySem.F.plainAttrs_list PySem.F.slot_list_pop PySem.F.type_list_pop mt_popAt (pe_var hN hv hd hcd) (pa_cons ha.to pa_nil hs) hbase hfew hline hs rfl) hsw hf) fun E σ H ⟨P,own,ρ,r,rp,e,q⟩=>by
 unfold fPopAt at e
 split at e
 ·rename_i xs e0
  cases e1:f ρ with
  | none=>rw [e1] at e;cases e
  | some d0=>
   rw [e1] at e
   simp only [Option.bind_some] at e
   cases d0 <;> simp only at e <;> try cases e
   rename_i n
   split at e
   ·rename_i hn
    split at e
    ·rename_i d el
     split at e
     ·rename_i hl
      cases e
      obtain ⟨v,h1,a,vs,h2,h3,h4,l⟩:=rp.slot j _ e0
      subst h3
      refine ⟨_,h1,.inl ⟨rfl,vs,.inl (.inl h4)⟩,⟨ρ,.int n,rp.view,e1,fun w H1 s1 d1=>?_⟩⟩
      have dz:Den X.K Emp H1 (.int n) w:=d1
      rw [Den] at dz
      subst dz
      have rp1:=rp.grow s1
      have l1:DenL X.K (Own own) H1 xs vs:=denL_mono (fun b o q _=>s1 b o q) rp.isL (fun b z=>.inl z) _ _ l
      obtain ⟨w,hw,dw⟩:=denL_get l1 el
      have lt:n.toNat < vs.length:=by
       by_cases z:n.toNat < vs.length
       ·exact z
       ·rw [List.getElem?_eq_none (by (first|lia|omega))] at hw;cases hw
      have si:seqIndex? n vs.length=some n.toNat:=seqIndex_of hn.1 (by (first|lia|omega))
      refine ⟨a,vs,n,n.toNat,w,rfl,rfl,s1 _ _ h4,by (first|lia|omega),by (first|lia|omega),si,hw,?_⟩
      have rp2:=rp1.mut e0 h2 (denL_erase n.toNat l1)
      have rp3:=rp2.put (i:=i) (lf_frz hl) (den_lf _ _ hl (den_mono (fun b o q n=>by
       have ne:b≠a:=fun z=>n ⟨j,by rw [z];exact h2⟩
       rw [upd_ne ne];exact q) rp1.isL (fun b z=>.inl z) _ _ dw:Den X.K (Own own) _ d w))
      exact q _ _ _ rp3
     ·cases e
    ·cases e
   ·cases e
 ·cases e⟩
end
end Tw
set_option Elab.async false
set_option linter.all false
set_option maxRecDepth 100000
set_option maxHeartbeats 1000000
namespace Tw
open PySem PySem.Spec PyProof.Rows L2
section
variable {X:Cx}{e:Expr}{f:FE}{pos:Pos}
noncomputable def eqI (i:Int):Value→Bool
 | .int k _=>k == i
 | _=>false
theorem map_erase {α β:Type}(g:α→β):∀(l:List α) (n:Nat),(l.map g).eraseIdx n=(l.eraseIdx n).map g
 | [],_=>rfl
 | _ :: _,0=>rfl
 | a :: l,n + 1=>by simp only [List.map_cons,List.eraseIdx_cons_succ,map_erase g l n]
theorem mt_removeI:MtM X "list.remove" (fun x vs H Q=>∃(l:Addr) (ns:List Int) (i:Int),x= .ref l∧vs=[.int i]∧H l=some (.lst (ns.map V.int))∧i∈ns∧Q .non (upd H l (.lst ((ns.eraseIdx (ns.idxOf i)).map V.int)))):=by
 intro pins s σ H x vs v us Q I rx rv h
 obtain ⟨l,ns,i,rfl,rfl,hH,hi,q⟩:=h
 cases rx
 obtain ⟨u,rfl,ru⟩:=rv.one
 obtain ⟨t,rfl⟩:=ru
 obtain ⟨z,its,n,r,hl,e⟩:=I.lstM hH
 have at_:∀(m:Nat) (hm:m < its.toArray.size),∃t,its.toArray[m]= .int (ns.getD m 0) t:=fun m hm=>ints_at r (by rw [Array.getElem?_eq_getElem hm])
 have hl':its.length=ns.length:=by rw [←hl,List.length_map]
 have jl:ns.idxOf i < ns.length:=List.idxOf_lt_length_iff.mpr hi
 have gd:∀m,m < ns.length→ns.getD m 0=ns[m]!:=fun m hm=>by simp [List.getD,hm]
 refine call_meets F.slot_list_remove ⟨_,e,rfl⟩ F.entry_list_remove (F.args_list_remove_2 _ _)
  (MeetsSeq.list_remove l its.toArray n (.int i t) (eqI i) (fun y hy=>?_) (ns.idxOf i) (by rw [List.size_toArray,hl'];exact jl) ?_ (fun m hm hmj=>?_) (by rw [List.size_toArray];(first|lia|omega))) ⟨e,?_⟩
 ·obtain ⟨m,hm,rfl⟩:=Array.mem_iff_getElem.mp hy
  obtain ⟨t2,e2⟩:=at_ m hm
  rw [e2]
  exact MeetsSeq.EqGives.int _ _ _ _
 ·obtain ⟨t2,e2⟩:=at_ (ns.idxOf i) (by rw [List.size_toArray,hl'];exact jl)
  rw [e2]
  show (ns.getD (ns.idxOf i) 0 == i)=true
  rw [List.getD_eq_getElem?_getD,List.getElem?_eq_getElem jl]
  simp
 ·obtain ⟨t2,e2⟩:=at_ m hm
  rw [e2]
  show (ns.getD m 0 == i)=false
  have ml:m < ns.length:=by (first|lia|omega)
  rw [List.getD_eq_getElem?_getD,List.getElem?_eq_getElem ml]
  simp only [Option.getD_some,beq_eq_false_iff_ne,ne_eq]
  intro z
  have w:=List.not_of_lt_findIdx (p:=(· == i)) (xs:=ns) hmj
  simp [z] at w
 refine ⟨.non,_,I.lset (its':=its.eraseIdx (ns.idxOf i)) hH e ?_ ?_ ?_,rfl,q⟩
 ·show its.toArray.eraseIdxIfInBounds _=_
  rw [List.eraseIdxIfInBounds_toArray]
 ·have z:=r.eraseIdx (ns.idxOf i)
  rwa [show (ns.map V.int).eraseIdx (ns.idxOf i)=(ns.eraseIdx (ns.idxOf i)).map V.int from map_erase ..] at z
 ·have:=len_erase ns (ns.idxOf i)
  rw [List.length_map]
  (first|lia|omega)
noncomputable def fRem (i:Nat) (f:FE):FS:=fun ρ=>(f ρ).bind fun d=>match d with
 | .int n=>match ρ[i]? with
  | some (some (.own xs))=>match intsOf xs with
   | some ns=>if n∈ns then some (.nx (ρ.set i (some (.own ((ns.eraseIdx (ns.idxOf n)).map D.int))))) else none
   | none=>none
  | _=>none
 | _=>none
theorem denL_ints_eq {K:PySem.W.Frag}{O:Addr→Prop}{H:Hp}:∀{ns:List Int} {vs:List V},DenL K O H (ns.map D.int) vs→vs=ns.map V.int
 | [],_,l=>by rw [List.map_nil,DenL] at l;exact l
 | n :: ns,_,l=>by
  rw [List.map_cons,DenL] at l
  obtain ⟨v,r,rfl,h,l⟩:=l
  rw [den_int.mp h,denL_ints_eq l]
  rfl
theorem qxs_remI (i:Nat){x:Str}{p apos cpos:Pos}(ha:QX X e f)(hN:autoParam (X.N[i]? =some x) Zau.a2._auto_1)(hv:autoParam (Vis X.env.scope x) Zau.a4._auto_1)(hd:autoParam ((x == ("__debug__":Str))=false) Zau.a1._auto_1)(hcd:autoParam ((x == ("__classdict__":Str))=false) Zau.a1._auto_1)
  (hbase:autoParam (attributeBase (.Name x p) "remove" X.env (eval (.Name x p) X.env)=eval (.Name x p) X.env) Zau.a2._auto_1)
  (hfew:autoParam (((backTo cpos (starEach [e] X.env)).all (fun x=>!x.1) && (backToKw cpos (keywordEach [] X.env)).all (fun x=>x.1.isSome) && decide (([e]:List Expr).length + ([]:List Keyword).length + (if ([]:List Keyword).isEmpty then 0 else 1) < 30))=true) Zau.a2._auto_1)
  (hline:autoParam ((apos.endLine == cpos.line)=true) Zau.a2._auto_1) (hs:autoParam (starEach [e] X.env=(false,eval e X.env) :: starEach [] X.env) Zau.a2._auto_1) (hsw:autoParam (swapsWith (.Call (.Attribute (.Name x p) "remove" apos) [e] [] cpos) none pos.line X.env=pure false) Zau.a2._auto_1):
  QS X (.Expr (.Call (.Attribute (.Name x p) "remove" apos) [e] [] cpos) pos) (fRem i f):=
 ⟨PS.weak (ps_expr (pe_bm PySem.F.plainAttrs_list PySem.F.slot_list_remove PySem.F.type_list_remove mt_removeI (pe_var hN hv hd hcd) (pa_cons ha.to pa_nil hs) hbase hfew hline hs rfl) hsw) fun E σ H ⟨P,own,ρ,r,rp,e,q⟩=>by
 unfold fRem at e
 cases e1:f ρ with
 | none=>rw [e1] at e;cases e
 | some d=>
  rw [e1] at e
  simp only [Option.bind_some] at e
  cases d <;> simp only at e <;> try cases e
  rename_i n
  split at e
  ·rename_i xs e0
   split at e
   ·rename_i ns ei
    split at e
    ·rename_i hn
     cases e
     obtain ⟨v,h1,a,vs,h2,h3,h4,l⟩:=rp.slot i _ e0
     subst h3
     rw [intsOf_eq ei] at l
     have ev:=denL_ints_eq l
     subst ev
     refine ⟨_,h1,.inl ⟨rfl,_,.inl (.inl h4)⟩,⟨ρ,.int n,rp.view,e1,fun w H1 s1 d1=>?_⟩⟩
     have dz:Den X.K Emp H1 (.int n) w:=d1
     rw [Den] at dz
     subst dz
     refine ⟨a,ns,n,rfl,rfl,s1 _ _ h4,hn,?_⟩
     exact q own σ _ ((rp.grow s1).mut e0 h2 (denL_ints _))
    ·cases e
   ·cases e
  ·cases e⟩
end
end Tw
set_option Elab.async false
set_option linter.all false
set_option maxRecDepth 100000
set_option maxHeartbeats 1000000
namespace Tw
open PySem PySem.Spec PyProof.Rows L2
noncomputable def fCompR2 (fa:FA) (js:List (Option Nat)) (gf:D→Ev→Option Ev) (t:FT) (fe:FE):FE:=fun ρ=>(fa ρ).bind fun ds=>match ds with
 | [.int lo,.int n]=>if -(2 ^ 62)≤lo∧lo < 2 ^ 62∧-(2 ^ 62)≤n∧n < 2 ^ 62 then fCompL js gf t fe ((List.range (n - lo).toNat).map fun i=>.int (lo + (i:Nat))) ρ else none
 | _=>none
section
variable {X:Cx}{scope:Scope}{cl:List (Str×Addr)}{N:List Str}{js:List (Option Nat)}{elt iter a b:Expr}{ifs:List Expr}{x:Str}{px pos p p2:Pos}{f:FE}{fa:FA}{t:FT}{fe:FE}
theorem qx_compR2 (i:Nat)(hc:X.calm=true)(hm:X.mg "range"=none)(bk:Blk X scope cl N js)(hN:(N ++ [accN]).Nodup)(ha:QA X [a,b] fa)(ht:∀s2 H2 fp C,Tst (blk X scope cl s2 H2 fp C (N ++ [accN])) ifs t)(he:∀s2 H2 fp C,QX (blk X scope cl s2 H2 fp C (N ++ [accN])) elt fe)
  (hi:(N ++ [accN])[i]? =some x) (hx:(relabel scope X.env).names.lookup x=some .local) (hk:i≠js.length) (hgl:autoParam (Gl X "range") Zau.a2._auto_1) (hst:autoParam (starEach [a,b] X.env=[(false,eval a X.env),(false,eval b X.env)]) Zau.a2._auto_1) (hst2:autoParam (starEach [b] X.env=[(false,eval b X.env)]) Zau.a2._auto_1) (hs:autoParam (∀x,foldedSetIterable (.Call (.Name "range" p) [a,b] [] p2) X.env x=pure x) Zau.a3._auto_1):
  QX X (.ListComp elt [⟨.Name x px,.Call (.Name "range" p) [a,b] [] p2,ifs,0⟩] scope pos) (fCompR2 fa js (gfName i) t fe):=by
 refine ⟨fun pins s σ H Q I ⟨ρ,d,rv,e,q⟩=>?_⟩
 unfold fCompR2 at e
 cases e1:fa ρ with
 | none=>rw [e1] at e;cases e
 | some ds=>
  rw [e1] at e
  simp only [Option.bind_some] at e
  split at e
  ·rename_i lo n
   split at e
   ·rename_i hl
    obtain ⟨ys,rfl⟩:=lastL_own e
    rw [eval_ListComp]
    refine wpAny_comprehension_free (use:=none) rfl hs bk.clos bk.kind bk.nms ?_
    have hw:iRng2 (tA X fa) σ H (fun J H1=>Same H H1∧J=Itr lo (n - lo).toNat):=by
     refine ⟨ρ,_,rv,e1,fun vs H1 s1 l1=>?_⟩
     obtain ⟨v,v',rfl,h,h'⟩:=denL2 l1
     exact ⟨lo,n,by rw [den_int.mp h,den_int.mp h'],⟨hl.1,hl.2.1,hl.2.2.1,hl.2.2.2⟩,s1,rfl⟩
    refine wpAny_mono (pi_range2 (tg:=.Name x px) hgl hm ha.to hst hst2 pins s σ H _ I hw) (fun v s1 h1=>wpAny_mono h1 (fun itv s2 h2=>?_) fun _ _ z=>z) fun _ _ z=>z
    obtain ⟨it,fp,tn,J,H2,rfl,I2,T,st2,f2,sm,rfl⟩:=h2
    refine comp_core (P:=[]) (xs:=(List.range (n - lo).toNat).map fun i=>.int (lo + (i:Nat))) hc I2 T st2 f2 bk (rv.same sm) (fun p hp=>nomatch hp) (fun Y hY i own ρ σ Hh y rp ey=>?_) (fun Y hY own ρ σ Hh rp=>?_) (fun C=>pg_name hN hi (.inl hx) (.inr hx)) (fun C=>pxgk_name i hk) (fun C=>(ht s2 H2 fp C).to) (fun C=>(he s2 H2 fp C).to) e (fun Dd H' s' d'=>q _ H' (sm.trans s') (d'.elder sm))
    ·rw [List.getElem?_map] at ey
     have hj:i < (n - lo).toNat:=by
      by_cases z:i < (n - lo).toNat
      ·exact z
      ·rw [List.getElem?_eq_none (by simpa using z)] at ey;cases ey
     rw [List.getElem?_range hj] at ey
     cases ey
     exact ⟨hj,fun w H' ⟨y1,y2⟩=>by subst y1;exact ⟨Same.refl _,by rw [Den,y2]⟩⟩
    ·show (n - lo).toNat≤_
     simp
   ·cases e
  ·cases e
end
end Tw
set_option Elab.async false
set_option linter.all false
set_option maxRecDepth 100000
set_option maxHeartbeats 1000000
namespace Tw
open PySem PySem.Spec PyProof.Rows L2
section
variable {X:Cx}{a a2:Expr}{pos p p2 px:Pos}{fa:FA}{x:Str}{body:List Stmt}{b:FS}
end
end Tw
set_option Elab.async false
set_option linter.all false
set_option maxRecDepth 100000
set_option maxHeartbeats 1000000
namespace Tw
open PySem PySem.Spec PyProof.Rows L2
theorem DenF.grow {K:PySem.W.Frag}{H0 H H':Hp}(s:Same H H'):∀{d:D} {v:V},DenF K H0 H d v→DenF K H0 H' d v
 | .own xs,v,h=>by
  obtain ⟨a,vs,e,n,q,l⟩:=h
  exact ⟨a,vs,e,n,s a _ q,denL_mono (fun b o w _=>s b o w) (fun b z=>⟨.lst vs,by rw [z];exact q,trivial⟩) (fun b z=>.inl z) _ _ l⟩
 | .odt ks xs,v,h=>by
  obtain ⟨a,vs,e,n,q,hl,l⟩:=h
  exact ⟨a,vs,e,n,s a _ q,hl,denL_mono (fun b o w _=>s b o w) (fun _ z=>z.elim) (fun b z=>.inl z) _ _ l⟩
 | .dct _ _,v,h=>den_same s h
 | .non,v,h=>den_same s h
 | .bl _,v,h=>den_same s h
 | .int _,v,h=>den_same s h
 | .str _,v,h=>den_same s h
 | .tup _,v,h=>den_same s h
 | .lst _,v,h=>den_same s h
 | .scr _,v,h=>den_same s h
 | .dic,v,h=>den_same s h
 | .exn _,v,h=>den_same s h
noncomputable def DenFL (K:PySem.W.Frag) (H H':Hp) (ds:List D) (vs:List V):Prop:=ds.length=vs.length∧∀(i:Nat) (d:D),ds[i]? =some d→∃v,vs[i]? =some v∧DenF K H H' d v
noncomputable def tAF (X:Cx) (f:FA):TA:=fun σ H Q=>∃ρ ds,RepV X.K ρ σ H∧f ρ=some ds∧∀vs H',Same H H'→DenFL X.K H H' ds vs→Q vs H'
structure QAF (X:Cx) (es:List Expr) (f:FA):Prop where
 to:PA X es (tAF X f)
section
variable {X:Cx}{e b:Expr}{es:List Expr}{f g:FE}{fa:FA}{pos p1:Pos}
theorem qaf_nil:QAF X [] fNil:=⟨PA.weak pa_nil fun σ H Q ⟨ρ,ds,rv,e,q⟩=>by
 cases e
 exact q [] H (Same.refl H) ⟨rfl,fun i d z=>by simp at z⟩⟩
theorem qaf_cons (ha:QX X e f)(hr:QAF X es fa)(hs:autoParam (starEach (e :: es) X.env=(false,eval e X.env) :: starEach es X.env) Zau.a2._auto_1):QAF X (e :: es) (fCons f fa):=⟨PA.weak (pa_cons ha.to hr.to hs) fun σ H Q ⟨ρ,ds,rv,e,q⟩=>by
 unfold fCons at e
 cases e1:f ρ with
 | none=>rw [e1] at e;cases e
 | some d=>
  cases e2:fa ρ with
  | none=>rw [e1,e2] at e;cases e
  | some dr=>
   rw [e1,e2] at e;cases e
   refine ⟨ρ,d,rv,e1,fun v H1 s1 d1=>⟨ρ,dr,rv.same s1,e2,fun vs H2 s2 l2=>q _ H2 (s1.trans s2) ⟨by simp [l2.1],fun i x z=>?_⟩⟩⟩
   cases i with
   | zero=>cases z;exact ⟨v,rfl,d1.grow s2⟩
   | succ i=>
    obtain ⟨w,hw,dw⟩:=l2.2 i x z
    exact ⟨w,hw,dw.elder s1⟩⟩
noncomputable def fPick (fa:FA) (g:FE):FE:=fun ρ=>(fa ρ).bind fun ds=>if ds.length≤lim then (g ρ).bind fun n=>match n with
 | .int n=>atI ds n
 | _=>none
 else none
theorem atI_denF {K:PySem.W.Frag}{H H':Hp}{ds:List D}{vs:List V}{i:Int}{d:D}(l:DenFL K H H' ds vs)(e:atI ds i=some d):∃v,atI vs i=some v∧DenF K H H' d v:=by
 unfold atI at e ⊢
 rw [←l.1]
 cases q:ixN ds.length i with
 | none=>rw [q] at e;cases e
 | some j=>rw [q] at e;exact l.2 j d e
theorem qx_pick (ha:QAF X es fa)(hb:QX X b g)(hs:autoParam (PlainIx b) Zau.a9._auto_1):QX X (.Subscript (.List es p1) b pos) (fPick fa g):=⟨PE.weak (pe_ix ix_seq (pe_lst ha.to) hb.to hs) fun σ H Q ⟨ρ,d,rv,e,q⟩=>by
 unfold fPick at e
 cases e1:fa ρ with
 | none=>rw [e1] at e;cases e
 | some ds=>
  rw [e1] at e
  simp only [Option.bind_some] at e
  split at e
  ·rename_i hl
   cases e2:g ρ with
   | none=>rw [e2] at e;cases e
   | some n=>
    rw [e2] at e
    simp only [Option.bind_some] at e
    cases n <;> simp only at e <;> try cases e
    rename_i n
    refine ⟨ρ,ds,rv,e1,fun vs H1 s1 l1=>⟨by rw [←l1.1];exact Nat.le_trans hl lim_line,fun p hp=>⟨ρ,.int n,rv.same (s1.trans (same_upd hp _)),e2,fun u H2 s2 d2=>?_⟩⟩⟩
    have du:Den X.K Emp H2 (.int n) u:=d2
    rw [Den] at du
    subst du
    obtain ⟨w,hw,dw⟩:=atI_denF l1 e
    have s3:Same H1 H2:=(same_upd hp _).trans s2
    exact .inl ⟨p,vs,n,w,rfl,rfl,.inl (.inl (s2 p _ upd_same)),hw,q w H2 (s1.trans s3) (dw.grow s3)⟩
  ·cases e⟩
end
end Tw
set_option Elab.async false
set_option linter.all false
set_option maxRecDepth 100000
set_option maxHeartbeats 1500000
namespace K34
open PySem L2 Tw KS
section
variable {P:Program}{w:World}{K:PySem.W.Frag}{mg:Str→Option Value}{base:Heap}{f:Addr}{fd:FuncData}{k:Nat}
noncomputable def nfall (ks:List (List Int)):Bool:=!((List.zipWith (fun a b=>HT.lexLt b a) ks ks.tail).any id)
noncomputable def SrtTSpec (g:List D→Option D):Prop:=∀ks:List (List Int),ks.length≤lim→g [.tup (ks.map tupI)]=some (.bl (nfall ks))
local macro_rules | `(tactic| walk_at "tw lc") => `(tactic| first
 | (refine' Tw.qx_compZT (N:=["one","other"]) (js:=[none,none]) (is:=[0,1]) rfl (by assumption) (Tw.blk_mk (.own (.own .nil)) rfl trivial rfl) (by decide) (fun s2 H2 fp C=>(by walk_at "tw tg")) ?h0 (fun s2 H2 fp C=>Tw.tst_nil) (fun s2 H2 fp C=>?h1) (by decide);(case h0=>walk_at "tw a");(case h1=>walk_at "tw e"))
 | (refine' Tw.qx_comp2 (N:=["party","person"]) (js:=[none,none]) 0 1 rfl (Tw.blk_mk (.own (.own .nil)) rfl trivial rfl) (by decide) ?h0 (fun s2 H2 fp C=>?h1) (fun s2 H2 fp C=>?h2) rfl rfl (by decide) rfl rfl (by decide);(case h0=>walk_at "tw e");(case h1=>walk_at "tw e");(case h2=>walk_at "tw e")))
theorem scSorted:FnScope ["row"] ["row"] (defScope sSorted):=⟨rfl,rfl,rfl,by decide +kernel,rfl,by decide +kernel,by decide +kernel⟩
theorem fn_sorted (ma:mg "any"=none)(mz:mg "zip"=none)(F:Fun K "is_sorted" "is_sorted" sSorted f fd)(B:Binds K fd ["row"] [])(hm:mg "is_sorted"=some (.ref f)):∃g,Fn P w K mg base "is_sorted" (k + 1) g∧SrtTSpec g:=by
 have nd:=scSorted.nd
 refine ⟨_,fn_mk F scSorted B hm rfl rfl (fun cdv A outer s H E hr=>(by walk_at "tw ss":QSs _ _ _).to),fun ks hl=>?_⟩
 have c1:cutD (ks.map tupI) (some 1) none=ks.tail.map tupI:=by
  unfold cutD
  rw [List.length_map,HT.sIx_none,show HT.sIx ks.length 0 (some 1)=min 1 ks.length from HT.sIx_nat ks.length 0 1]
  cases ks with
  | nil=>rfl
  | cons k ks=>simp [List.take_of_length_le]
 have cl:=compL_map (js:=[none,none]) (gf:=gfTup [0,1]) (fe:=fBin oLtT (fVar 1) (fVar 0)) (ys:=ks.zip ks.tail) (ρ:=[some (.tup (ks.map tupI))]) (fun ρ=>∃a b,ρ=[a,b]) (fun p=>.tup [tupI p.1,tupI p.2]) (fun p=>.bl (HT.lexLt p.2 p.1)) ⟨_,_,rfl⟩ (by rintro ρ ⟨a,b,rfl⟩;rfl) (by
  rintro ⟨x,y⟩ hx ρ zs ⟨a,b,rfl⟩
  exact ⟨[some (tupI x),some (tupI y)],⟨_,_,rfl⟩,by simp [gfTup,setAll,lfL,lf,lfL_ints,tupI],by simp [fBin,fVar,frz,lt_tt,intsOf_map,tupI],rfl⟩) (by simp;(first|lia|omega))
 have ez:(ks.zip ks.tail).map (fun p=>D.bl (HT.lexLt p.2 p.1))=(List.zipWith (fun a b=>HT.lexLt b a) ks ks.tail).map D.bl:=by
  rw [List.map_zipWith,List.zip,List.map_zipWith]
 have hz:fCompZT (fCons (fVar 0) (fCons (fSlT (fVar 0) (fO1 (fC (.int 1))) fO0) fNil)) [none,none] (gfTup [0,1]) (fun _=>some true) (fBin oLtT (fVar 1) (fVar 0)) [some (.tup (ks.map tupI))]=some (.own ((List.zipWith (fun a b=>HT.lexLt b a) ks ks.tail).map D.bl)):=by
  simp only [fCompZT,fCons,fNil,fVar,fSlT,fO1,fO0,fC,frz_tup,List.getElem?_cons_zero,Option.bind_some,Option.map_some,sl_t,c1,asL,zipD_map,cl,ez]
 have hb:=boolsOf_map (List.zipWith (fun a b=>HT.lexLt b a) ks ks.tail)
 repeat (first | walk_at "tw r" | simp only [hz,kBools,asL,hb,nfall])
theorem held_in:∀(is zs:List Int) (o0 o1:Option D),zs.length + is.length≤1000→∃o,loopF (turnF (gfName 1) (fApp 2 (fVar 1))) (is.map D.int) [o0,o1,some (.own (zs.map D.int))]=some (.nx [o0,o,some (.own ((zs ++ is).map D.int))])
 | [],zs,o0,o1,_=>⟨o1,by rw [List.append_nil];rfl⟩
 | i :: is,zs,o0,o1,h=>by
  have lb:1000≤lim:=by decide
  have hz:(zs.map D.int).length < lim:=by simp at h ⊢;(first|lia|omega)
  have st:turnF (gfName 1) (fApp 2 (fVar 1)) (.int i) [o0,o1,some (.own (zs.map D.int))]=some (.nx [o0,some (.int i),some (.own ((zs ++ [i]).map D.int))]):=by
   rw [List.map_append]
   generalize zs.map D.int=l at hz
   repeat (first | walk_at "tw r" | simp only [hz,List.map_cons,List.map_nil])
  obtain ⟨o,e⟩:=held_in is (zs ++ [i]) o0 (some (.int i)) (by simp at h ⊢;(first|lia|omega))
  refine ⟨o,?_⟩
  rw [List.map_cons,loopF,st]
  simp only [Option.bind_some]
  rw [e,List.append_assoc]
  rfl
theorem held_out:∀(ks:List (List Int)) (zs:List Int) (o0 o1:Option D),zs.length + ks.flatten.length≤1000→∃o0' o1',loopF (turnF (gfName 0) (blkI 2 (fVar 0) (gfName 1) (fVar 1))) (ks.map tupI) [o0,o1,some (.own (zs.map D.int))]=some (.nx [o0',o1',some (.own ((zs ++ ks.flatten).map D.int))])
 | [],zs,o0,o1,_=>⟨o0,o1,by rw [List.flatten_nil,List.append_nil];rfl⟩
 | k :: ks,zs,o0,o1,h=>by
  rw [List.flatten_cons,List.length_append] at h
  obtain ⟨o,e⟩:=held_in k zs (some (tupI k)) o1 (by (first|lia|omega))
  obtain ⟨p0,p1,e2⟩:=held_out ks (zs ++ k) (some (tupI k)) o (by rw [List.length_append];(first|lia|omega))
  refine ⟨p0,p1,?_⟩
  have st:turnF (gfName 0) (blkI 2 (fVar 0) (gfName 1) (fVar 1)) (tupI k) [o0,o1,some (.own (zs.map D.int))]=some (.nx [some (tupI k),o,some (.own ((zs ++ k).map D.int))]):=by
   rw [←e]
   simp only [turnF,gfName,blkI,fVar,tupI,frz_tup,Option.bind_some,List.set_cons_zero,List.getElem?_cons_zero,Option.map_some,lfL_ints,if_true]
  rw [List.map_cons,loopF,st]
  simp only [Option.bind_some]
  rw [e2,List.flatten_cons,List.append_assoc]
noncomputable def HeldSpec (g:List D→Option D):Prop:=∀ks:List (List Int),ks.flatten.length < 64→g [.tup (ks.map tupI)]=some (.own ((sortI ks.flatten).map D.int))
local macro_rules | `(tactic| walk_at "tw e") => `(tactic| (refine' Tw.qx_sortedI (by assumption) ?h0; (case h0 => walk_at "tw a")))
theorem scHeld:FnScope ["some"] ["some"] (defScope sHeld):=⟨rfl,rfl,rfl,by decide +kernel,rfl,by decide +kernel,by decide +kernel⟩
theorem fn_held (ms:mg "sorted"=none)(F:Fun K "held" "held" sHeld f fd)(B:Binds K fd ["some"] [])(hm:mg "held"=some (.ref f)):∃g,Fn P w K mg base "held" (k + 1) g∧HeldSpec g:=by
 have nd:=scHeld.nd
 refine ⟨_,fn_mk F scHeld B hm rfl rfl (fun cdv A outer s H E hr=>(by walk_at "tw ss":QSs _ _ _).to),fun ks hl=>?_⟩
 obtain ⟨p0,p1,e⟩:=held_out ks [] none none (by rw [List.length_nil];(first|lia|omega))
 rw [List.nil_append] at e
 have z1:fComp2 (fVar 0) [none,none] (gfName 0) (fVar 0) (gfName 1) (fVar 1) [some (.tup (ks.map tupI))]=some (.own (ks.flatten.map D.int)):=by
  simp only [fComp2,fVar,frz_tup,List.getElem?_cons_zero,Option.bind_some,Option.map_some,items]
  exact congrArg (lastL 2) e
 have im:=intsOf_map ks.flatten
 repeat (first | walk_at "tw r" | simp only [z1,kSortI,asL,im,hl])
end
end K34
set_option Elab.async false
set_option linter.all false
set_option maxRecDepth 100000
set_option maxHeartbeats 1500000
namespace K34
open PySem L2 Tw KS
section
variable {P:Program}{w:World}{K:PySem.W.Frag}{mg:Str→Option Value}{base:Heap}{f:Addr}{fd:FuncData}{k:Nat}
noncomputable def isPars (n:Int) (ts:List D):D→Bool
 | .tup ds=>ds.all (isPar n ts)
 | _=>false
noncomputable def OkPs:D→Prop
 | .tup ds=>(∀d∈ds,OkP d)∧ds.length≤100
 | .exn _=>False
 | _=>True
noncomputable def IsParsSpec (g:List D→Option D):Prop:=∀(n:Int) (ts:List D) (d:D),GoodW n ts→OkPs d→g [.tup [.int n,.tup ts],d]=some (.bl (isPars n ts d))
local macro_rules | `(tactic| walk_at "tw lc") => `(tactic| first
 | (refine' Tw.qx_comp (N:=["party","web"]) (js:=[none,some 0]) 0 rfl (Tw.blk_mk (.own (.cap rfl rfl rfl rfl .nil)) rfl ⟨rfl,trivial⟩ rfl) (by decide) ?h0 (fun s2 H2 fp C=>Tw.tst_nil) (fun s2 H2 fp C=>?h1) rfl rfl (by decide);(case h0=>walk_at "tw e");(case h1=>walk_at "tw e")))
theorem okp_frz {d:D}(h:OkP d):OkP (frz d):=by cases d <;> first | exact h | trivial
theorem isPar_frz {n:Int}{ts:List D}{d:D}:isPar n ts (frz d)=isPar n ts d:=by cases d <;> rfl
theorem scIsPars:FnScope ["web","thing"] ["web","thing"] (defScope sIsPars):=⟨rfl,rfl,rfl,by decide +kernel,rfl,by decide +kernel,by decide +kernel⟩
theorem fn_ispars {gp:List D→Option D}(G1:Fn P w K mg base "is_party" k gp)(h1:IsParSpec gp)(mi:mg "isinstance"=none)(mt:mg "tuple"=none)(ma:mg "all"=none)(F:Fun K "is_parties" "is_parties" sIsPars f fd)(B:Binds K fd ["web","thing"] [])(hm:mg "is_parties"=some (.ref f)):∃g,Fn P w K mg base "is_parties" (k + 1) g∧IsParsSpec g:=by
 have nd:=scIsPars.nd
 refine ⟨_,fn_mk F scIsPars B hm rfl rfl (fun cdv A outer s H E hr=>(by walk_at "tw ss":QSs _ _ _).to),fun n ts d gw ok=>?_⟩
 have tt:("tuple" == "tuple")=true:=by decide
 by_cases hd:∃ds,d= .tup ds
 ·obtain ⟨ds,rfl⟩:=hd
  have lb:100≤lim:=by decide
  have cm:=compL_map (js:=[none,some 0]) (gf:=gfName 0) (fe:=fCall gp (fCons (fVar 1) (fCons (fVar 0) fNil))) (ys:=ds) (ρ:=[some (.tup [.int n,.tup ts]),some (.tup ds)]) (fun ρ=>∃o,ρ=[o,some (.tup [.int n,.tup ts])]) id (fun x=>.bl (isPar n ts x)) ⟨_,rfl⟩ (by rintro ρ ⟨o,rfl⟩;rfl) (by
   rintro x hx ρ zs ⟨o,rfl⟩
   have e:=h1 n ts (frz x) gw (okp_frz (ok.1 x hx))
   rw [isPar_frz] at e
   refine ⟨[some (frz x),some (.tup [.int n,.tup ts])],⟨_,rfl⟩,rfl,?_,rfl⟩
   repeat (first | walk_at "tw r" | simp only [e])) (Nat.le_trans ok.2 lb)
  rw [List.map_id] at cm
  have hb:boolsOf (ds.map fun x=>D.bl (isPar n ts x))=some (ds.map (isPar n ts)):=by
   have z:=boolsOf_map (ds.map (isPar n ts))
   rw [List.map_map] at z;exact z
  have z1:fComp (fVar 1) [none,some 0] (gfName 0) (fun _=>some true) (fCall gp (fCons (fVar 1) (fCons (fVar 0) fNil))) [some (.tup [.int n,.tup ts]),some (.tup ds)]=some (.own (ds.map fun x=>.bl (isPar n ts x))):=by
   simp only [fComp,fVar,frz_tup,List.getElem?_cons_zero,List.getElem?_cons_succ,Option.bind_some,Option.map_some,items,cm]
  have al:(ds.map (isPar n ts)).all id=ds.all (isPar n ts):=by rw [List.all_map];rfl
  repeat (first | walk_at "tw r" | simp only [tt,z1,kBools,asL,hb,al,isPars])
 ·have ep:isPars n ts d=false:=by
   cases d <;> first | rfl | exact absurd ⟨_,rfl⟩ hd
  have s1:("NoneType" == "tuple")=false:=by decide
  have s2:("bool" == "tuple")=false:=by decide
  have s3:("int" == "tuple")=false:=by decide
  have s4:("str" == "tuple")=false:=by decide
  have s5:("list" == "tuple")=false:=by decide
  have s6:("dict" == "tuple")=false:=by decide
  have s7:("tuple" == "int")=false:=by decide
  cases d with
  | exn C=>exact ok.elim
  | tup ds=>exact absurd ⟨_,rfl⟩ hd
  | _=>repeat (first | walk_at "tw r" | simp only [s1,s2,s3,s4,s5,s6,s7,ep])
theorem deqL_ints (m:Nat):∀(a b:List Int),deqL (deq m) (a.map D.int) (b.map D.int)=some (decide (a=b))
 | [],[]=>rfl
 | [],_ :: _=>rfl
 | _ :: _,[]=>rfl
 | x :: a,y :: b=>by
  have e:deq m (.int x) (.int y)=some (x == y):=by cases m <;> rfl
  rw [List.map_cons,List.map_cons,deqL,e,deqL_ints m a b]
  simp only [Option.bind_some,Option.map_some,List.cons.injEq]
  congr 1
  by_cases h:x=y <;> by_cases h2:a=b <;> simp [h,h2]
theorem par_len {n:Int}{ts:List D}(gw:GoodW n ts){k:List Int}(h:k∈parK n ts):1≤k.length∧k.length≤2:=by
 rcases par_mem.mp h with h | h
 ·unfold pers at h
  obtain ⟨i,_,rfl⟩:=List.mem_map.mp h
  exact ⟨by simp,by simp⟩
 ·obtain ⟨t,ht,rfl⟩:=List.mem_map.mp h
  obtain ⟨a,b,g,rfl⟩:=gw.tri t ht
  exact ⟨by simp [key2],by simp [key2]⟩
theorem flat_le {m:Nat}:∀{ks:List (List Int)},(∀k∈ks,k.length≤m)→ks.flatten.length≤m * ks.length
 | [],_=>by simp
 | k :: ks,h=>by
  have a:=h k List.mem_cons_self
  have b:=flat_le (ks:=ks) fun x hx=>h x (List.mem_cons_of_mem _ hx)
  rw [List.flatten_cons,List.length_append,List.length_cons,Nat.mul_add]
  (first|lia|omega)
end
end K34
set_option Elab.async false
set_option linter.all false
set_option maxRecDepth 100000
set_option maxHeartbeats 1500000
namespace K34
open PySem L2 Tw KS
section
variable {P:Program}{w:World}{K:PySem.W.Frag}{mg:Str→Option Value}{base:Heap}{f:Addr}{fd:FuncData}{k:Nat}
noncomputable def gI:D→Int
 | .tup [_,_,.int g]=>g
 | _=>0
noncomputable def lookI:List (List Int)→List Int→List Int→Int
 | k' :: ks,g :: gs,k=>if k'=k then g else lookI ks gs k
 | _,_,_=>0
theorem look_I:∀(ks:List (List Int)) (gs:List Int) (k:List Int),(match lookD ks (gs.map D.int) k with | some y=>frz y | none=>.int 0)=D.int (lookI ks gs k)
 | [],_,_=>rfl
 | _ :: _,[],_=>rfl
 | k' :: ks,g :: gs,k=>by
  rw [List.map_cons,lookD,lookI]
  by_cases h:k'=k
  ·rw [if_pos h,if_pos h];rfl
  ·rw [if_neg h,if_neg h];exact look_I ks gs k
theorem gain_map {n:Int}{ts:List D}(gw:GoodW n ts):ts.map gainD=(ts.map gI).map D.int:=by
 rw [List.map_map]
 refine List.map_congr_left fun t ht=>?_
 obtain ⟨a,b,g,rfl⟩:=gw.tri t ht
 rfl
noncomputable def gnI (ts:List D) (k:List Int):Int:=lookI (ts.map key2) (ts.map gI) k
noncomputable def WorSpec (g:List D→Option D):Prop:=∀(n:Int) (ts:List D) (ks:List (List Int)) (d:D),GoodW n ts→ks.length≤1000→d= .tup (ks.map tupI)∨d= .lst (ks.map tupI)∨d= .own (ks.map tupI)→g [.tup [.int n,.tup ts],d]=some (.int ((ks.map (gnI ts)).sum))
local macro_rules | `(tactic| walk_at "tw lc") => `(tactic| first
 | (refine' Tw.qx_comp (N:=["party","gained"]) (js:=[none,some 2]) 0 rfl (Tw.blk_mk (.own (.cap rfl rfl rfl rfl .nil)) rfl ⟨rfl,trivial⟩ rfl) (by decide) ?h0 (fun s2 H2 fp C=>Tw.tst_nil) (fun s2 H2 fp C=>?h1) rfl rfl (by decide);(case h0=>walk_at "tw e");(case h1=>walk_at "tw e"))
 | (refine' Tw.qx_get (by assumption) ?h0 ?h1;(case h0=>walk_at "tw e");(case h1=>walk_at "tw a"))
 | (refine' Tw.qx_sum rfl (by assumption) ?h0;(case h0=>walk_at "tw a")))
theorem scWorth:FnScope ["web","some","gained"] ["web","some"] (defScope sWorth):=⟨rfl,rfl,rfl,by decide +kernel,rfl,by decide +kernel,by decide +kernel⟩
theorem fn_worth {gg:List D→Option D}(G1:Fn P w K mg base "gains" k gg)(h1:GainsSpec gg)(mu:mg "sum"=none)(F:Fun K "worth" "worth" sWorth f fd)(B:Binds K fd ["web","some"] [])(hm:mg "worth"=some (.ref f)):∃g,Fn P w K mg base "worth" (k + 1) g∧WorSpec g:=by
 have nd:=scWorth.nd
 refine ⟨_,fn_mk F scWorth B hm rfl rfl (fun cdv A outer s H E hr=>(by walk_at "tw ss":QSs _ _ _).to),fun n ts ks d gw hl hd=>?_⟩
 have lb:1000≤lim:=by decide
 have e1:=h1 n ts gw
 rw [gain_map gw] at e1
 have lk:=fun k=>look_I (ts.map key2) (ts.map gI) k
 have cm:=fun dd=>compL_map (js:=[none,some 2]) (gf:=gfName 0) (fe:=fGet (fVar 1) (fCons (fVar 0) (fCons (fC (.int 0)) fNil))) (ys:=ks) (ρ:=[some (.tup [.int n,.tup ts]),some dd,some (.odt (ts.map key2) ((ts.map gI).map D.int))]) (fun ρ=>∃o,ρ=[o,some (.dct (ts.map key2) ((ts.map gI).map D.int))]) tupI (fun k=>.int (gnI ts k)) ⟨_,rfl⟩ (by rintro ρ ⟨o,rfl⟩;rfl) (by
  rintro k hk ρ zs ⟨o,rfl⟩
  refine ⟨[some (tupI k),some (.dct (ts.map key2) ((ts.map gI).map D.int))],⟨_,rfl⟩,rfl,?_,rfl⟩
  have im:=intsOf_map k
  simp only [fGet,fVar,fCons,fC,fNil,frz_dct,frz_tup,frz_int,tupI,List.cons_append,List.getElem?_cons_zero,List.getElem?_cons_succ,Option.bind_some,Option.map_some,asDct,im]
  exact congrArg some (lk k)) (Nat.le_trans hl lb)
 have z1:∀dd,items dd=some (ks.map tupI)→frz dd=dd→fComp (fVar 1) [none,some 2] (gfName 0) (fun _=>some true) (fGet (fVar 1) (fCons (fVar 0) (fCons (fC (.int 0)) fNil))) [some (.tup [.int n,.tup ts]),some dd,some (.odt (ts.map key2) ((ts.map gI).map D.int))]=some (.own (ks.map fun k=>.int (gnI ts k))):=fun dd hd fd=>by
  simp only [fComp,fVar,fd,List.getElem?_cons_zero,List.getElem?_cons_succ,Option.bind_some,Option.map_some,hd,cm]
 have im:intsOf (ks.map fun k=>D.int (gnI ts k))=some (ks.map (gnI ts)):=by
  have z:=intsOf_map (ks.map (gnI ts))
  rw [List.map_map] at z;exact z
 have y1:=z1 (.tup (ks.map tupI)) rfl rfl
 have y2:=z1 (.lst (ks.map tupI)) rfl rfl
 have lfi:=lfL_ints (ts.map gI)
 rcases hd with rfl | rfl | rfl
 ·repeat (first | walk_at "tw r" | simp only [lfi,e1,y1,kSum,asL,im])
 ·repeat (first | walk_at "tw r" | simp only [lfi,e1,y2,kSum,asL,im])
 ·repeat (first | walk_at "tw r" | simp only [lfi,e1,y2,kSum,asL,im])
end
end K34
set_option Elab.async false
set_option linter.all false
set_option maxRecDepth 100000
set_option maxHeartbeats 1500000
namespace K34
open PySem L2 Tw KS
section
variable {P:Program}{w:World}{K:PySem.W.Frag}{mg:Str→Option Value}{base:Heap}{f:Addr}{fd:FuncData}{k:Nat}
noncomputable def SortParsSpec (g:List D→Option D):Prop:=∀(n:Int) (ts:List D) (ks:List (List Int)),GoodW n ts→(∀k∈ks,k∈parK n ts)→ks.length≤20→g [.tup [.int n,.tup ts],.tup (ks.map tupI)]=some (.bl (nfall ks))
theorem scSortPars:FnScope ["web","thing"] ["web","thing"] (defScope sSortPars):=⟨rfl,rfl,rfl,by decide +kernel,rfl,by decide +kernel,by decide +kernel⟩
theorem fn_sortpars {gp gr:List D→Option D}(G1:Fn P w K mg base "is_parties" k gp)(h1:IsParsSpec gp)(G2:Fn P w K mg base "is_sorted" k gr)(h2:SrtTSpec gr)(F:Fun K "is_sorted_parties" "is_sorted_parties" sSortPars f fd)(B:Binds K fd ["web","thing"] [])(hm:mg "is_sorted_parties"=some (.ref f)):∃g,Fn P w K mg base "is_sorted_parties" (k + 1) g∧SortParsSpec g:=by
 have nd:=scSortPars.nd
 refine ⟨_,fn_mk F scSortPars B hm rfl rfl (fun cdv A outer s H E hr=>(by walk_at "tw ss":QSs _ _ _).to),fun n ts ks gw hk hl=>?_⟩
 have lb:20≤lim:=by decide
 have ok:OkPs (.tup (ks.map tupI)):=⟨fun d hd=>by
  obtain ⟨k,h,rfl⟩:=List.mem_map.mp hd
  exact okp_int k (by have:=(par_len gw (hk k h)).2;(first|lia|omega)),by simp;(first|lia|omega)⟩
 have e1:=h1 n ts _ gw ok
 have ip:isPars n ts (.tup (ks.map tupI))=true:=by
  unfold isPars
  dsimp only
  rw [List.all_eq_true]
  intro d hd
  obtain ⟨k,h,rfl⟩:=List.mem_map.mp hd
  exact par_is (hk k h)
 rw [ip] at e1
 have e2:=h2 ks (Nat.le_trans hl lb)
 repeat (first | walk_at "tw r" | simp only [e1,e2])
noncomputable def SwapSpec (g:List D→Option D):Prop:=∀(n:Int) (ts:List D) (ks js:List (List Int)),GoodW n ts→(∀k∈ks,k∈parK n ts)→ks.length≤20→(∀k∈js,k∈parK n ts)→js.length≤20→g [.tup [.int n,.tup ts],.tup (ks.map tupI),.tup (js.map tupI)]=some (.bl (nfall ks && nfall js && decide (sortI ks.flatten=sortI js.flatten)))
theorem scSwap:FnScope ["web","outs","ins"] ["web","outs","ins"] (defScope sSwap):=⟨rfl,rfl,rfl,by decide +kernel,rfl,by decide +kernel,by decide +kernel⟩
theorem fn_swap {gp gh:List D→Option D}(G1:Fn P w K mg base "is_sorted_parties" k gp)(h1:SortParsSpec gp)(G2:Fn P w K mg base "held" k gh)(h2:HeldSpec gh)(F:Fun K "is_swap" "is_swap" sSwap f fd)(B:Binds K fd ["web","outs","ins"] [])(hm:mg "is_swap"=some (.ref f)):∃g,Fn P w K mg base "is_swap" (k + 1) g∧SwapSpec g:=by
 have nd:=scSwap.nd
 refine ⟨_,fn_mk F scSwap B hm rfl rfl (fun cdv A outer s H E hr=>(by walk_at "tw ss":QSs _ _ _).to),fun n ts ks js gw hk hl hj jl=>?_⟩
 have f1:=flat_le (m:=2) fun k h=>(par_len gw (hk k h)).2
 have f2:=flat_le (m:=2) fun k h=>(par_len gw (hj k h)).2
 have e1:=h1 n ts ks gw hk hl
 have e2:=h1 n ts js gw hj jl
 have e3:=h2 ks (by (first|lia|omega))
 have e4:=h2 js (by (first|lia|omega))
 have dq:=deqL_ints 19 (sortI ks.flatten) (sortI js.flatten)
 cases q1:nfall ks with
 | false=>
  rw [q1] at e1
  repeat (first | walk_at "tw r" | simp only [e1])
 | true=>
  rw [q1] at e1
  cases q2:nfall js with
  | false=>
   rw [q2] at e2
   repeat (first | walk_at "tw r" | simp only [e1,e2])
  | true=>
   rw [q2] at e2
   generalize sortI ks.flatten=l1 at e3 dq
   generalize sortI js.flatten=l2 at e4 dq
   generalize ks.map tupI=l3 at e1 e3
   generalize js.map tupI=l4 at e2 e4
   repeat (first | rw [dq] | walk_at "tw r" | simp only [e1,e2,e3,e4])
noncomputable def SlackSpec (g:List D→Option D):Prop:=∀(n:Int) (ts:List D) (ks js:List (List Int)),GoodW n ts→ks.length≤1000→js.length≤1000→g [.tup [.int n,.tup ts],.tup (ks.map tupI),.tup (js.map tupI)]=some (.int ((js.map (gnI ts)).sum - (ks.map (gnI ts)).sum))
theorem scSwapSlack:FnScope ["web","outs","ins"] ["web","outs","ins"] (defScope sSwapSlack):=⟨rfl,rfl,rfl,by decide +kernel,rfl,by decide +kernel,by decide +kernel⟩
theorem fn_slack {gw':List D→Option D}(G1:Fn P w K mg base "worth" k gw')(h1:WorSpec gw')(F:Fun K "swap_slack" "swap_slack" sSwapSlack f fd)(B:Binds K fd ["web","outs","ins"] [])(hm:mg "swap_slack"=some (.ref f)):∃g,Fn P w K mg base "swap_slack" (k + 1) g∧SlackSpec g:=by
 have nd:=scSwapSlack.nd
 refine ⟨_,fn_mk F scSwapSlack B hm rfl rfl (fun cdv A outer s H E hr=>(by walk_at "tw ss":QSs _ _ _).to),fun n ts ks js gw hl jl=>?_⟩
 have e1:=h1 n ts ks (.tup (ks.map tupI)) gw hl (.inl rfl)
 have e2:=h1 n ts js (.tup (js.map tupI)) gw jl (.inl rfl)
 repeat (first | walk_at "tw r" | simp only [e1,e2])
end
end K34
set_option Elab.async false
set_option linter.all false
set_option maxRecDepth 100000
set_option maxHeartbeats 1000000
namespace Tw
open PySem PySem.Spec PyProof.Rows L2
noncomputable def fForN (j:Nat) (gf:D→Ev→Option Ev) (b:FS):FS:=fun ρ=>match ρ[j]? with
 | some (some (.lst xs))=>if lfL xs=true then loopF (turnF gf b) xs ρ else none
 | some (some (.tup xs))=>if lfL xs=true then loopF (turnF gf b) xs ρ else none
 | _=>none
section
variable {X:Cx}{pos p px:Pos}{x y:Str}{body:List Stmt}{b:FS}
theorem qxs_forN (i j:Nat)(hNd:X.N.Nodup)(hp:PassesOwn (model X.prog X.w) X.A X.env X.xe)(hc:X.calm=true)(hb:QSs X body b)(hi:autoParam (X.N[i]? =some x) Zau.a2._auto_1)(hx:autoParam (Loc X.env.scope x) Zau.a6._auto_1)(hf:autoParam (X.fn x=true∨X.env.scope.names.lookup x=some .local) Zau.a7._auto_1)
  (hN:autoParam (X.N[j]? =some y) Zau.a2._auto_1) (hv:autoParam (Vis X.env.scope y) Zau.a4._auto_1) (hd:autoParam ((y == ("__debug__":Str))=false) Zau.a1._auto_1) (hcd:autoParam ((y == ("__classdict__":Str))=false) Zau.a1._auto_1) (hs:autoParam (∀x,foldedSetIterable (.Name y p) X.env x=pure x) Zau.a3._auto_1):
  QS X (.For (.Name x px) (.Name y p) body [] pos) (fForN j (gfName i) b):=⟨PS.weak (ps_for hp hc (pi_seq (pe_var hN hv hd hcd)) (pg_name hNd hi hx hf) hb.to hs) fun E σ H ⟨P,own,ρ,r,rp,e,q⟩=>by
 unfold fForN at e
 split at e
 ·rename_i xs e0
  split at e
  ·rename_i fl
   obtain ⟨v,h1,dv⟩:=rp.slot j _ e0
   have z:Den X.K (Own own) H (.lst xs) v:=dv
   have z2:=z
   rw [Den] at z2
   obtain ⟨a,vs,rfl,_⟩:=z2
   exact ⟨_,h1,seq_loop (pxg_name (pos:=pos) i) rfl fl rp z e q⟩
  ·cases e
 ·rename_i xs e0
  split at e
  ·rename_i fl
   obtain ⟨v,h1,dv⟩:=rp.slot j _ e0
   have z:Den X.K (Own own) H (.tup xs) v:=dv
   have z2:=z
   rw [Den] at z2
   obtain ⟨a,vs,rfl,_⟩:=z2
   exact ⟨_,h1,seq_loop (pxg_name (pos:=pos) i) rfl fl rp z e q⟩
  ·cases e
 ·cases e⟩
end
end Tw
set_option Elab.async false
set_option linter.all false
set_option maxRecDepth 100000
set_option maxHeartbeats 1500000
namespace K34
open PySem L2 Tw KS
noncomputable abbrev sLParties:Stmt:=top 20
noncomputable abbrev sLGain:Stmt:=top 19
noncomputable abbrev sLWorth:Stmt:=top 21
noncomputable abbrev sLHeld:Stmt:=top 22
noncomputable abbrev sLSwap:Stmt:=top 23
section
variable {P:Program}{w:World}{K:PySem.W.Frag}{mg:Str→Option Value}{base:Heap}{f:Addr}{fd:FuncData}{k:Nat}
local macro_rules | `(tactic| walk_at "tw lc") => `(tactic| first
 | (refine' Tw.qx_compR (N:=["person"]) (js:=[none]) 0 rfl (by assumption) (Tw.blk_mk (.own .nil) rfl trivial rfl) (by decide) ?h0 (fun s2 H2 fp C=>Tw.tst_nil) (fun s2 H2 fp C=>?h1) rfl rfl (by decide);(case h0=>walk_at "tw a");(case h1=>walk_at "tw e"))
 | (refine' Tw.qx_comp (N:=["party","web"]) (js:=[none,some 0]) 0 rfl (Tw.blk_mk (.own (.cap rfl rfl rfl rfl .nil)) rfl ⟨rfl,trivial⟩ rfl) (by decide) ?h0 (fun s2 H2 fp C=>Tw.tst_nil) (fun s2 H2 fp C=>?h1) rfl rfl (by decide);(case h0=>walk_at "tw e");(case h1=>walk_at "tw e"))
 | (refine' Tw.qx_compT (N:=["a","b","gain"]) (js:=[none,none,none]) (is:=[0,1,2]) rfl (Tw.blk_mk (.own (.own (.own .nil))) rfl trivial rfl) (by decide) (fun s2 H2 fp C=>(by walk_at "tw tg")) ?h0 (fun s2 H2 fp C=>Tw.tst_nil) (fun s2 H2 fp C=>?h1) (by decide);(case h0=>walk_at "tw e");(case h1=>walk_at "tw e"))
 | (refine' Tw.qx_sum rfl (by assumption) ?h0;(case h0=>walk_at "tw a")))
theorem scLParties:FnScope ["web"] ["web"] (defScope sLParties):=⟨rfl,rfl,rfl,by decide +kernel,rfl,by decide +kernel,by decide +kernel⟩
theorem fn_lparties (mr:mg "range"=none)(ms:mg "sorted"=none)(F:Fun K "_law_parties" "_law_parties" sLParties f fd)(B:Binds K fd ["web"] [])(hm:mg "_law_parties"=some (.ref f)):∃g,Fn P w K mg base "_law_parties" (k + 1) g∧ParSpec g:=by
 have nd:=scLParties.nd
 refine ⟨_,fn_mk F scLParties B hm rfl rfl (fun cdv A outer s H E hr=>(by walk_at "tw ss":QSs _ _ _).to),fun n ts gw=>?_⟩
 have h1:=gw.lo
 have h8:=gw.hi
 have hl:=gw.len
 have z1:=c_pers (fa:=fCons (fBin oIxD (fVar 0) (fC (.int 0))) fNil) (ρ:=[some (.tup [.int n,.tup ts])]) (n:=n) rfl (by (first|lia|omega)) h8
 have z2:=c_two (f:=fBin oIxD (fVar 0) (fC (.int 1))) (ρ:=[some (.tup [.int n,.tup ts])]) (ts:=ts) rfl gw.tri hl
 have z3:=par_sort gw
 have s1:((pers n).map tupI).length + ((ts.map key2).map tupI).length≤lim:=by
  have lb:100≤lim:=by decide
  unfold pers;simp;(first|lia|omega)
 repeat (first | walk_at "tw r" | simp only [z1,z2,z3,s1,lims])
noncomputable def LGainSpec (g:List D→Option D):Prop:=∀(n:Int) (ts:List D) (k:List Int),GoodW n ts→g [.tup [.int n,.tup ts],tupI k]=some (.int (gnI ts k))
noncomputable abbrev lgB:FS:=fIfS (fTest (fBin (oEqN false) (fTup (fCons (fVar 2) (fCons (fVar 3) fNil))) (fVar 1))) (fRetN 4) fun ρ=>some (R.nx ρ)
theorem lgain_loop {w0:Option D}{k:List Int}:∀(ts:List D) (o2 o3 o4:Option D),(∀t∈ts,∃a b g:Int,t= .tup [.int a,.int b,.int g])→
  (∃p2 p3 p4,loopF (turnF (gfTup [2,3,4]) lgB) ts [w0,some (tupI k),o2,o3,o4]=some (.nx [w0,some (tupI k),p2,p3,p4])∧lookI (ts.map key2) (ts.map gI) k=0)∨loopF (turnF (gfTup [2,3,4]) lgB) ts [w0,some (tupI k),o2,o3,o4]=some (.rt (.int (lookI (ts.map key2) (ts.map gI) k)))
 | [],o2,o3,o4,_=>.inl ⟨o2,o3,o4,rfl,rfl⟩
 | t :: ts,o2,o3,o4,h=>by
  obtain ⟨a,b,g,rfl⟩:=h t List.mem_cons_self
  have l2:2≤lim:=by decide
  have dq:deq 20 (.tup [.int a,.int b]) (tupI k)=some (decide ([a,b]=k)):=deq_tupI [a,b] k
  have ez:frz (tupI k)=tupI k:=rfl
  have st:turnF (gfTup [2,3,4]) lgB (.tup [.int a,.int b,.int g]) [w0,some (tupI k),o2,o3,o4]=if [a,b]=k then some (.rt (.int g)) else some (.nx [w0,some (tupI k),some (.int a),some (.int b),some (.int g)]):=by
   generalize tupI k=dk at dq ez
   have e1:turnF (gfTup [2,3,4]) lgB (.tup [.int a,.int b,.int g]) [w0,some dk,o2,o3,o4]=lgB [w0,some dk,some (.int a),some (.int b),some (.int g)]:=rfl
   have e2:fTest (fBin (oEqN false) (fTup (fCons (fVar 2) (fCons (fVar 3) fNil))) (fVar 1)) [w0,some dk,some (.int a),some (.int b),some (.int g)]=some (decide ([a,b]=k)):=by
    have e3:fTup (fCons (fVar 2) (fCons (fVar 3) fNil)) [w0,some dk,some (.int a),some (.int b),some (.int g)]=some (.tup [.int a,.int b]):=by
     repeat (first | walk_at "tw r" | simp only [l2])
    have e4:fVar 1 [w0,some dk,some (.int a),some (.int b),some (.int g)]=some dk:=congrArg some ez
    unfold fTest fBin
    rw [e3,e4]
    simp only [Option.bind_some,oEqN]
    rw [dq]
    rfl
   rw [e1]
   unfold lgB fIfS
   rw [e2]
   simp only [Option.bind_some]
   by_cases q:[a,b]=k
   ·rw [if_pos q,decide_eq_true q];rfl
   ·rw [if_neg q,decide_eq_false q];rfl
  rw [loopF,st]
  simp only [List.map_cons,key2,gI,lookI]
  by_cases q:[a,b]=k
  ·rw [if_pos q,if_pos q]
   exact .inr rfl
  ·rw [if_neg q,if_neg q]
   exact lgain_loop ts _ _ _ fun t ht=>h t (List.mem_cons_of_mem _ ht)
theorem scLGain:FnScope ["web","party","a","b","gain"] ["web","party"] (defScope sLGain):=⟨rfl,rfl,rfl,by decide +kernel,rfl,by decide +kernel,by decide +kernel⟩
theorem fn_lgain (F:Fun K "_law_gain" "_law_gain" sLGain f fd)(B:Binds K fd ["web","party"] [])(hm:mg "_law_gain"=some (.ref f)):∃g,Fn P w K mg base "_law_gain" (k + 1) g∧LGainSpec g:=by
 have nd:=scLGain.nd
 refine ⟨_,fn_mk F scLGain B hm rfl rfl (fun cdv A outer s H E hr=>(by walk_at "tw ss":QSs _ _ _).to),fun n ts k gw=>?_⟩
 have lb:28≤lim:=by decide
 have fts:lfL ts=true:=lfL_all fun t ht=>tie_lf (gw.tie t ht)
 have i1:atI [D.int n,.tup ts] 1=some (.tup ts):=rfl
 have lt:lf (tupI k)=true:=by unfold tupI;simp [lf,lfL_ints]
 have hf:fBin oIxD (fVar 0) (fC (D.int 1)) [some (.tup [.int n,.tup ts]),some (tupI k),none,none,none]=some (.tup ts):=by
  repeat (first | walk_at "tw r" | simp only [i1])
 have ff:fFor (fBin oIxD (fVar 0) (fC (D.int 1))) (gfTup [2,3,4]) lgB [some (.tup [.int n,.tup ts]),some (tupI k),none,none,none]=loopF (turnF (gfTup [2,3,4]) lgB) ts [some (.tup [.int n,.tup ts]),some (tupI k),none,none,none]:=by
  unfold fFor
  rw [hf]
  simp only [Option.bind_some,walkD,fts,if_true]
 have st:start0 5 [D.tup [.int n,.tup ts],tupI k]=[some (.tup [.int n,.tup ts]),some (tupI k),none,none,none]:=rfl
 show runD 2 5 (fThen (fFor (fBin oIxD (fVar 0) (fC (D.int 1))) (gfTup [2,3,4]) lgB) (fRet (fC (D.int 0)))) _=_
 unfold runD
 rw [if_pos (show [D.tup [D.int n,D.tup ts],tupI k].length=2 from rfl),st]
 unfold fThen
 rw [ff]
 rcases lgain_loop (w0:=some (.tup [.int n,.tup ts])) (k:=k) ts none none none gw.tri with ⟨p2,p3,p4,e,z⟩ | e
 ·rw [e]
  unfold gnI
  rw [z]
  rfl
 ·rw [e]
  rfl
theorem scLHeld:FnScope ["some","people","party"] ["some"] (defScope sLHeld):=⟨rfl,rfl,rfl,by decide +kernel,rfl,by decide +kernel,by decide +kernel⟩
local macro_rules | `(tactic| walk_at "tw e") => `(tactic| first | (refine' Tw.qx_sortedI (by assumption) ?h0; (case h0 => walk_at "tw a")) | fail)
local macro_rules | `(tactic| walk_at "tw s") => `(tactic| first | (refine' Tw.qxs_extT 1 ?h0; (case h0 => walk_at "tw e")) | (refine' Tw.qxs_forN 2 0 (by assumption) PySem.PassesOwn.never rfl ?h1; (case h1 => walk_at "tw ss")) | fail)
noncomputable def LHeldSpec (g:List D→Option D):Prop:=∀(ks:List (List Int)) (d:D),ks.flatten.length < 64→d= .own (ks.map tupI)∨d= .lst (ks.map tupI)∨d= .tup (ks.map tupI)→g [d]=some (.own ((sortI ks.flatten).map D.int))
theorem lheld_loop:∀(ks:List (List Int)) (zs:List Int) (o0 o2:Option D),zs.length + ks.flatten.length≤1000→∃o,loopF (turnF (gfName 2) (fExt 1 (fVar 2))) (ks.map tupI) [o0,some (.own (zs.map D.int)),o2]=some (.nx [o0,some (.own ((zs ++ ks.flatten).map D.int)),o])
 | [],zs,o0,o2,_=>⟨o2,by rw [List.flatten_nil,List.append_nil];rfl⟩
 | k :: ks,zs,o0,o2,h=>by
  rw [List.flatten_cons,List.length_append] at h
  have lb:1000≤lim:=by decide
  obtain ⟨o,e⟩:=lheld_loop ks (zs ++ k) o0 (some (tupI k)) (by rw [List.length_append];(first|lia|omega))
  refine ⟨o,?_⟩
  have lz:=lfL_ints k
  have l2:(zs.map D.int).length + (k.map D.int).length≤lim:=by rw [List.length_map,List.length_map];(first|lia|omega)
  have st:turnF (gfName 2) (fExt 1 (fVar 2)) (tupI k) [o0,some (.own (zs.map D.int)),o2]=some (.nx [o0,some (.own ((zs ++ k).map D.int)),some (tupI k)]):=by
   rw [List.map_append]
   unfold tupI
   generalize k.map D.int=kk at lz l2
   generalize zs.map D.int=zz at l2
   repeat (first | walk_at "tw r" | simp only [fExt,lz,l2])
  rw [List.map_cons,loopF,st]
  simp only [Option.bind_some]
  rw [e,List.flatten_cons,List.append_assoc]
theorem fn_lheld (ms:mg "sorted"=none)(F:Fun K "_law_held" "_law_held" sLHeld f fd)(B:Binds K fd ["some"] [])(hm:mg "_law_held"=some (.ref f)):∃g,Fn P w K mg base "_law_held" (k + 1) g∧LHeldSpec g:=by
 have nd:=scLHeld.nd
 refine ⟨_,fn_mk F scLHeld B hm rfl rfl (fun cdv A outer s H E hr=>(by walk_at "tw ss":QSs _ _ _).to),fun ks d hl hd=>?_⟩
 have lk:=lfL_tups ks
 have im:=intsOf_map ks.flatten
 have go:∀o0,∃o,loopF (turnF (gfName 2) (fExt 1 (fVar 2))) (ks.map tupI) [o0,some (.own []),none]=some (.nx [o0,some (.own (ks.flatten.map D.int)),o]):=fun o0=>by
  obtain ⟨o,e⟩:=lheld_loop ks [] o0 none (by rw [List.length_nil];(first|lia|omega))
  exact ⟨o,e⟩
 rcases hd with rfl | rfl | rfl
 ·obtain ⟨o,e⟩:=go (some (.lst (ks.map tupI)))
  generalize ks.map tupI=kl at lk e
  generalize ks.flatten=fl at im e hl
  repeat (first | walk_at "tw r" | simp only [fForN,e,lk,kSortI,asL,im,hl,lims])
 ·obtain ⟨o,e⟩:=go (some (.lst (ks.map tupI)))
  generalize ks.map tupI=kl at lk e
  generalize ks.flatten=fl at im e hl
  repeat (first | walk_at "tw r" | simp only [fForN,e,lk,kSortI,asL,im,hl,lims])
 ·obtain ⟨o,e⟩:=go (some (.tup (ks.map tupI)))
  generalize ks.map tupI=kl at lk e
  generalize ks.flatten=fl at im e hl
  repeat (first | walk_at "tw r" | simp only [fForN,e,lk,kSortI,asL,im,hl,lims])
end
end K34
set_option Elab.async false
set_option linter.all false
set_option maxRecDepth 100000
set_option maxHeartbeats 1500000
namespace K34
open PySem L2 Tw KS
section
variable {P:Program}{w:World}{K:PySem.W.Frag}{mg:Str→Option Value}{base:Heap}{f:Addr}{fd:FuncData}{k:Nat}
local macro_rules | `(tactic| walk_at "tw lc") => `(tactic| first
 | (refine' Tw.qx_comp (N:=["party","web"]) (js:=[none,some 0]) 0 rfl (Tw.blk_mk (.own (.cap rfl rfl rfl rfl .nil)) rfl ⟨rfl,trivial⟩ rfl) (by decide) ?h0 (fun s2 H2 fp C=>Tw.tst_nil) (fun s2 H2 fp C=>?h1) rfl rfl (by decide);(case h0=>walk_at "tw e");(case h1=>walk_at "tw e"))
 | (refine' Tw.qx_sum rfl (by assumption) ?h0;(case h0=>walk_at "tw a")))
theorem scLWorth:FnScope ["web","some"] ["web","some"] (defScope sLWorth):=⟨rfl,rfl,rfl,by decide +kernel,rfl,by decide +kernel,by decide +kernel⟩
theorem fn_lworth {gg:List D→Option D}(G1:Fn P w K mg base "_law_gain" k gg)(h1:LGainSpec gg)(mu:mg "sum"=none)(F:Fun K "_law_worth" "_law_worth" sLWorth f fd)(B:Binds K fd ["web","some"] [])(hm:mg "_law_worth"=some (.ref f)):∃g,Fn P w K mg base "_law_worth" (k + 1) g∧WorSpec g:=by
 have nd:=scLWorth.nd
 refine ⟨_,fn_mk F scLWorth B hm rfl rfl (fun cdv A outer s H E hr=>(by walk_at "tw ss":QSs _ _ _).to),fun n ts ks d gw hl hd=>?_⟩
 have lb:1000≤lim:=by decide
 have cm:=fun dd=>compL_map (js:=[none,some 0]) (gf:=gfName 0) (fe:=fCall gg (fCons (fVar 1) (fCons (fVar 0) fNil))) (ys:=ks) (ρ:=[some (.tup [.int n,.tup ts]),some dd]) (fun ρ=>∃o,ρ=[o,some (.tup [.int n,.tup ts])]) tupI (fun k=>.int (gnI ts k)) ⟨_,rfl⟩ (by rintro ρ ⟨o,rfl⟩;rfl) (by
  rintro k hk ρ zs ⟨o,rfl⟩
  refine ⟨[some (tupI k),some (.tup [.int n,.tup ts])],⟨_,rfl⟩,rfl,?_,rfl⟩
  have e:=h1 n ts k gw
  unfold tupI at e ⊢
  generalize k.map D.int=c at e
  repeat (first | walk_at "tw r" | simp only [e])) (Nat.le_trans hl lb)
 have z1:∀dd,items dd=some (ks.map tupI)→frz dd=dd→fComp (fVar 1) [none,some 0] (gfName 0) (fun _=>some true) (fCall gg (fCons (fVar 1) (fCons (fVar 0) fNil))) [some (.tup [.int n,.tup ts]),some dd]=some (.own (ks.map fun k=>.int (gnI ts k))):=fun dd hd fd=>by
  simp only [fComp,fVar,fd,List.getElem?_cons_zero,List.getElem?_cons_succ,Option.bind_some,Option.map_some,hd,cm]
 have im:intsOf (ks.map fun k=>D.int (gnI ts k))=some (ks.map (gnI ts)):=by
  have z:=intsOf_map (ks.map (gnI ts))
  rw [List.map_map] at z;exact z
 have y1:=z1 (.tup (ks.map tupI)) rfl rfl
 have y2:=z1 (.lst (ks.map tupI)) rfl rfl
 rcases hd with rfl | rfl | rfl
 ·repeat (first | walk_at "tw r" | simp only [y1,kSum,asL,im])
 ·repeat (first | walk_at "tw r" | simp only [y2,kSum,asL,im])
 ·repeat (first | walk_at "tw r" | simp only [y2,kSum,asL,im])
noncomputable def LSwapSpec (g:List D→Option D):Prop:=∀ks js:List (List Int),ks.length≤20→js.length≤20→(∀k∈ks,k≠[]∧k.length≤2)→(∀k∈js,k≠[]∧k.length≤2)→g [.lst (ks.map tupI),.lst (js.map tupI)]=some (.bl (decide (ks=sortK ks) && decide (js=sortK js) && decide (sortI ks.flatten=sortI js.flatten)))
theorem scLSwap:FnScope ["outs","ins"] ["outs","ins"] (defScope sLSwap):=⟨rfl,rfl,rfl,by decide +kernel,rfl,by decide +kernel,by decide +kernel⟩
theorem deqL_tups2 {m:Nat}:∀(a b:List (List Int)),deqL (deq (m + 1)) (a.map tupI) (b.map tupI)=some (decide (a=b))
 | [],[]=>rfl
 | [],_ :: _=>rfl
 | _ :: _,[]=>rfl
 | x :: a,y :: b=>by
  rw [List.map_cons,List.map_cons,deqL,deq_tupI,deqL_tups2 a b]
  simp only [Option.bind_some,Option.map_some,List.cons.injEq]
  congr 1
  by_cases h:x=y <;> by_cases h2:a=b <;> simp [h,h2]
theorem ksort_l {ks:List (List Int)}(hl:ks.length < 64)(h:∀k∈ks,k≠[]):kSort [.lst (ks.map tupI)]=some (.own ((sortK ks).map tupI)):=by
 simp only [kSort,keysOf,tupsOf_map,Option.bind_some]
 exact if_pos ⟨hl,h⟩
theorem fn_lswap {gh:List D→Option D}(G1:Fn P w K mg base "_law_held" k gh)(h1:LHeldSpec gh)(ml:mg "list"=none)(ms:mg "sorted"=none)(F:Fun K "_law_is_swap" "_law_is_swap" sLSwap f fd)(B:Binds K fd ["outs","ins"] [])(hm:mg "_law_is_swap"=some (.ref f)):∃g,Fn P w K mg base "_law_is_swap" (k + 1) g∧LSwapSpec g:=by
 have nd:=scLSwap.nd
 refine ⟨_,fn_mk F scLSwap B hm rfl rfl (fun cdv A outer s H E hr=>(by walk_at "tw ss":QSs _ _ _).to),fun ks js hk hj pk pj=>?_⟩
 have f1:=flat_le (m:=2) fun k h=>(pk k h).2
 have f2:=flat_le (m:=2) fun k h=>(pj k h).2
 have e1:=h1 ks (.lst (ks.map tupI)) (by (first|lia|omega)) (.inr (.inl rfl))
 have e2:=h1 js (.lst (js.map tupI)) (by (first|lia|omega)) (.inr (.inl rfl))
 have s1:=ksort_l (by (first|lia|omega)) fun k h=>(pk k h).1
 have s2:=ksort_l (by (first|lia|omega)) fun k h=>(pj k h).1
 have d1:deqL (deq 19) (ks.map tupI) ((sortK ks).map tupI)=some (decide (ks=sortK ks)):=deqL_tups2 _ _
 have d2:deqL (deq 19) (js.map tupI) ((sortK js).map tupI)=some (decide (js=sortK js)):=deqL_tups2 _ _
 have d3:=deqL_ints 19 (sortI ks.flatten) (sortI js.flatten)
 generalize decide (ks=sortK ks)=b1 at d1
 generalize decide (js=sortK js)=b2 at d2
 generalize (sortK ks).map tupI=a1 at s1 d1
 generalize (sortK js).map tupI=a2 at s2 d2
 generalize sortI ks.flatten=l1 at e1 d3
 generalize sortI js.flatten=l2 at e2 d3
 generalize ks.map tupI=k1 at e1 s1 d1
 generalize js.map tupI=k2 at e2 s2 d2
 cases b1 with
 | false=>repeat (first | walk_at "tw r" | simp only [s1,d1,items])
 | true=>
  cases b2 with
  | false=>repeat (first | walk_at "tw r" | simp only [s1,s2,d1,d2,items])
  | true=>repeat (first | rw [d3] | walk_at "tw r" | simp only [e1,e2,s1,s2,d1,d2,items])
end
end K34
set_option Elab.async false
set_option linter.all false
set_option maxRecDepth 100000
set_option maxHeartbeats 1500000
namespace K34
open PySem L2 Tw KS
noncomputable abbrev sLCell:Stmt:=top 16
noncomputable abbrev sLDeal:Stmt:=top 17
noncomputable abbrev sLOuts:Stmt:=top 24
section
variable {P:Program}{w:World}{K:PySem.W.Frag}{mg:Str→Option Value}{base:Heap}{f:Addr}{fd:FuncData}{k:Nat}
local macro_rules | `(tactic| walk_at "tw lc") => `(tactic| first
 | (refine' Tw.qx_divmod (by assumption) ?h0;(case h0=>walk_at "tw a")))
theorem scLCell:FnScope ["script","k"] ["script","k"] (defScope sLCell):=⟨rfl,rfl,rfl,by decide +kernel,rfl,by decide +kernel,by decide +kernel⟩
noncomputable def LCellSpec (g:List D→Option D):Prop:=∀(ns:List Int) (k:Nat),∃c:Int,g [.scr (ns.map D.int),.int (k:Int)]=some (.int c)
theorem fn_lcell (ml:mg "len"=none)(F:Fun K "_law_cell" "_law_cell" sLCell f fd)(B:Binds K fd ["script","k"] [])(hm:mg "_law_cell"=some (.ref f)):∃g,Fn P w K mg base "_law_cell" (k + 1) g∧LCellSpec g:=by
 have nd:=scLCell.nd
 refine ⟨_,fn_mk F scLCell B hm rfl rfl (fun cdv A outer s H E hr=>(by walk_at "tw ss":QSs _ _ _).to),fun ns k=>?_⟩
 have le:((ns.map D.int).length:Int)=(ns.length:Int):=by rw [List.length_map]
 by_cases q:(k:Int) < (ns.length:Int)
 ·obtain ⟨x,hx,ex⟩:=atI_ints (ns:=ns) (i:=(k:Int)) (by (first|lia|omega)) q
  refine ⟨x,?_⟩
  generalize ns.map D.int=l at ex le
  repeat (first | walk_at "tw r" | simp only [le,q,ex])
 ·refine ⟨0,?_⟩
  generalize ns.map D.int=l at le
  repeat (first | walk_at "tw r" | simp only [le,q])
theorem scLDeal:FnScope ["cell","salt","one","number","j"] ["cell","salt"] (defScope sLDeal):=⟨rfl,rfl,rfl,by decide +kernel,rfl,by decide +kernel,by decide +kernel⟩
noncomputable def LDealSpec (g:List D→Option D):Prop:=∀c s:Int,0≤s→s≤1000→∃m:Int,0≤m∧g [.int c,.int s]=some (.int m)
theorem fn_ldeal (mr:mg "range"=none)(F:Fun K "_law_deal" "_law_deal" sLDeal f fd)(B:Binds K fd ["cell","salt"] [])(hm:mg "_law_deal"=some (.ref f)):∃g,Fn P w K mg base "_law_deal" (k + 1) g∧LDealSpec g:=by
 have nd:=scLDeal.nd
 refine ⟨_,fn_mk F scLDeal B hm rfl rfl (fun cdv A outer s H E hr=>(by walk_at "tw ss":QSs _ _ _).to),fun c sl s0 s1=>?_⟩
 have c1:CPow 10 18:=cp (by decide) (by decide)
 have t0:(18:Int).toNat=18:=rfl
 have p1:(0:Int) < 2147483629:=by decide
 have p2:(0:Int) < 2147483647:=by decide
 have p3:(0:Int) < 2147483587:=by decide
 have d7:dOk 7:=dOk_small (by decide) (by decide)
 refine ends_ex1 (t:=fun m:Int=>.int m) rfl ?_
 change Tw.Ends (fThen _ _ [some (.int c),some (.int sl),none,none,none]) _
 by_cases q:10 ^ 18≤c
 ·have q':c≥10 ^ 18:=q
  refine ends_ret (d:=.int (c - 10 ^ 18)) ?_ ⟨c - 10 ^ 18,by (first|lia|omega),rfl⟩
  repeat (first | walk_at "tw r" | simp only [c1,t0,q,q'])
 have q':¬c≥10 ^ 18:=q
 refine ends_eq [some (.int c),some (.int sl),none,none,none] ?_ ?_
 ·repeat (first | walk_at "tw r" | simp only [c1,t0,q,q'])
 refine ends_eq [some (.int c),some (.int sl),some (.int (c % 2147483629)),none,none] ?_ ?_
 ·repeat (first | walk_at "tw r" | simp only [p1])
 refine ends_eq [some (.int c),some (.int sl),some (.int (c % 2147483629)),some (.int 0),none] ?_ ?_
 ·repeat (first | walk_at "tw r")
 refine ends_then (fun ρ=>∃one m:Int,∃o4,0≤m∧ρ=[some (.int c),some (.int sl),some (.int one),some (.int m),o4]) ?_ ?_
 ·refine forR_ex 30 (fun _ ρ=>∃one m:Int,∃o4,0≤m∧0≤one∧one < 2147483629∧ρ=[some (.int c),some (.int sl),some (.int one),some (.int m),o4]) rfl ⟨by decide,by decide⟩ ⟨_,0,none,by decide,Int.emod_nonneg _ (by decide),Int.emod_lt_of_pos _ (by decide),rfl⟩ ?_ (fun ρ ⟨one,m,o4,a,_,_,e⟩=>⟨one,m,o4,a,e⟩)
  rintro i ρ hi ⟨one,m,o4,m0,o0,o1,rfl⟩
  have hi':i < 30:=hi
  have k1:mOk 17 ((i:Nat):Int):=mOkL (by decide)
  have k2:mOk (17 * ((i:Nat):Int)) ((i:Nat):Int):=.inr (.inl (by (first|lia|omega)))
  have k3:mOk 29 sl:=mOkL (by decide)
  have k4:mOk (one + 17 * ((i:Nat):Int) * ((i:Nat):Int) + 29 * sl + 7) 48271:=.inr (.inl (by decide))
  obtain ⟨u,eu⟩:∃u,u=(one + 17 * ((i:Nat):Int) * ((i:Nat):Int) + 29 * sl + 7) * 48271 % 2147483647:=⟨_,rfl⟩
  have u0:0≤u∧u < 2147483647:=by rw [eu];exact ⟨Int.emod_nonneg _ (by decide),Int.emod_lt_of_pos _ (by decide)⟩
  have k5:mOk u u:=.inl (by (first|lia|omega))
  obtain ⟨v,ev⟩:∃v,v=u * u % 2147483629:=⟨_,rfl⟩
  have v0:0≤v∧v < 2147483629:=by rw [ev];exact ⟨Int.emod_nonneg _ (by decide),Int.emod_lt_of_pos _ (by decide)⟩
  have k6:mOk m 998244353:=.inr (.inl (by decide))
  have k7:mOk v 69621:=.inr (.inl (by decide))
  have r0:0≤m * 998244353 + v * 69621 % 2147483587 / 7:=by
   have:=Int.emod_nonneg (v * 69621) (show (2147483587:Int)≠0 by decide)
   (first|lia|omega)
  refine ⟨[some (.int c),some (.int sl),some (.int v),some (.int (m * 998244353 + v * 69621 % 2147483587 / 7)),some (.int ((i:Nat):Int))],?_,v,_,some (.int ((i:Nat):Int)),r0,v0.1,v0.2,rfl⟩
  repeat (first | walk_at "tw r" | simp only [k1,k2,k3,k4,p2,←eu,k5,p1,←ev,k6,k7,p3,d7])
 rintro ρ ⟨one,m,o4,m0,rfl⟩
 exact ends_last (d:=.int m) rfl ⟨m,m0,rfl⟩
end
end K34
set_option Elab.async false
set_option linter.all false
set_option maxRecDepth 100000
set_option maxHeartbeats 1500000
namespace K34
open PySem L2 Tw KS
section
variable {P:Program}{w:World}{K:PySem.W.Frag}{mg:Str→Option Value}{base:Heap}{f:Addr}{fd:FuncData}{k:Nat}
local macro_rules | `(tactic| walk_at "tw lc") => `(tactic| first
 | (refine' Tw.qx_divmod (by assumption) ?h0;(case h0=>walk_at "tw a")))
theorem scLOuts:FnScope ["web","number","known","count","outs","k","at"] ["web","number"] (defScope sLOuts):=⟨rfl,rfl,rfl,by decide +kernel,rfl,by decide +kernel,by decide +kernel⟩
noncomputable def LOutsSpec (g:List D→Option D):Prop:=∀(n:Int) (ts:List D) (m:Int),GoodW n ts→0≤m→∃(ks:List (List Int)) (r:Int),((∀k∈ks,k∈parK n ts)∧ks.length≤6∧0≤r)∧g [.tup [.int n,.tup ts],.int m]=some (.tup [.own (ks.map tupI),.int r])
theorem ksort_o {ks:List (List Int)}(hl:ks.length < 64)(h:∀k∈ks,k≠[]):kSort [.own (ks.map tupI)]=some (.own ((sortK ks).map tupI)):=by
 simp only [kSort,keysOf,tupsOf_map,Option.bind_some]
 exact if_pos ⟨hl,h⟩
theorem par_ne {n:Int}{ts:List D}(gw:GoodW n ts){k:List Int}(h:k∈parK n ts):k≠[]:=fun z=>by
 have:=(par_len gw h).1
 rw [z] at this
 simp at this
theorem fn_louts {gp:List D→Option D}(G1:Fn P w K mg base "_law_parties" k gp)(h1:ParSpec gp)(ml:mg "len"=none)(mr:mg "range"=none)(md:mg "divmod"=none)(ms:mg "sorted"=none)(F:Fun K "_law_outs" "_law_outs" sLOuts f fd)(B:Binds K fd ["web","number"] [])(hm:mg "_law_outs"=some (.ref f)):∃g,Fn P w K mg base "_law_outs" (k + 1) g∧LOutsSpec g:=by
 have nd:=scLOuts.nd
 refine ⟨_,fn_mk F scLOuts B hm rfl rfl (fun cdv A outer s H E hr=>(by walk_at "tw ss":QSs _ _ _).to),fun n ts m gw m0=>?_⟩
 have lb:1000≤lim:=by decide
 have n1:=gw.lo
 have n8:=gw.hi
 have e1:=h1 n ts gw
 have fpk:=lfL_tups (parK n ts)
 have d7:dOk 7:=dOk_small (by decide) (by decide)
 have lpk:(parK n ts).length≤36:=by unfold parK;rw [(sortK_perm _).length_eq];unfold pers;have:=gw.len;simp;(first|lia|omega)
 have lpk0:0 < (parK n ts).length:=by unfold parK;rw [(sortK_perm _).length_eq];unfold pers;simp;(first|lia|omega)
 have pp:(0:Int) < ((parK n ts).length:Int):=by (first|lia|omega)
 have dp:dOk (((parK n ts).map tupI).length:Int):=dOk_small (by rw [List.length_map];(first|lia|omega)) (Nat.lt_of_le_of_lt (show ((((parK n ts).map tupI).length:Nat):Int).natAbs≤36 by rw [List.length_map];(first|lia|omega)) (by decide))
 refine ends_ex2 (t:=fun ks r=>.tup [.own (List.map tupI ks),.int r]) rfl ?_
 change Tw.Ends (fThen _ _ [some (.tup [.int n,.tup ts]),some (.int m),none,none,none,none,none]) _
 refine ends_eq [some (.tup [.int n,.tup ts]),some (.int m),some (.own ((parK n ts).map tupI)),none,none,none,none] ?_ ?_
 ·repeat (first | walk_at "tw r" | simp only [e1,fpk])
 refine ends_eq [some (.tup [.int n,.tup ts]),some (.int (m / 7)),some (.own ((parK n ts).map tupI)),some (.int (m % 7)),none,none,none] ?_ ?_
 ·repeat (first | walk_at "tw r" | simp only [kDivmod,d7,lims])
 refine ends_eq [some (.tup [.int n,.tup ts]),some (.int (m / 7)),some (.own ((parK n ts).map tupI)),some (.int (m % 7)),some (.own []),none,none] ?_ ?_
 ·repeat (first | walk_at "tw r" | simp only [lims])
 refine ends_then (fun ρ=>∃(ks:List (List Int)) (r:Int) (o5 o6:Option D),(∀k∈ks,k∈parK n ts)∧ks.length≤6∧0≤r∧ρ=[some (.tup [.int n,.tup ts]),some (.int r),some (.own ((parK n ts).map tupI)),some (.int (m % 7)),some (.own (ks.map tupI)),o5,o6]) ?_ ?_
 ·refine forR_ex (m % 7) (fun i ρ=>∃(ks:List (List Int)) (r:Int) (o5 o6:Option D),(∀k∈ks,k∈parK n ts)∧ks.length=i∧0≤r∧ρ=[some (.tup [.int n,.tup ts]),some (.int r),some (.own ((parK n ts).map tupI)),some (.int (m % 7)),some (.own (ks.map tupI)),o5,o6]) rfl ⟨by (first|lia|omega),by (first|lia|omega)⟩ ⟨[],m / 7,none,none,(fun _ h=>nomatch h),rfl,by (first|lia|omega),rfl⟩ ?_ (fun ρ ⟨ks,r,o5,o6,a,b,c,e⟩=>⟨ks,r,o5,o6,a,by (first|lia|omega),c,e⟩)
  rintro i ρ hi ⟨ks,r,o5,o6,ha,hb,hc,rfl⟩
  have lp:=List.length_map (as:=parK n ts) tupI
  obtain ⟨d,hd,ed⟩:=atI_mem (xs:=(parK n ts).map tupI) (i:=r % (((parK n ts).map tupI).length:Int)) (Int.emod_nonneg _ (by rw [lp];(first|lia|omega))) (Int.emod_lt_of_pos _ (by rw [lp];(first|lia|omega)))
  obtain ⟨kk,hkk,rfl⟩:=List.mem_map.mp hd
  have r0:0≤r / (((parK n ts).map tupI).length:Int):=Int.ediv_nonneg hc (by rw [lp];(first|lia|omega))
  refine ⟨[some (.tup [.int n,.tup ts]),some (.int (r / (((parK n ts).map tupI).length:Int))),some (.own ((parK n ts).map tupI)),some (.int (m % 7)),some (.own ((ks ++ [kk]).map tupI)),some (.int ((i:Nat):Int)),some (.int (r % (((parK n ts).map tupI).length:Int)))],?_,ks ++ [kk],_,_,_,fun k hk=>(List.mem_append.mp hk).elim (ha k) (fun z=>by rw [List.mem_singleton.mp z];exact hkk),by simp [hb],r0,rfl⟩
  have lk:(ks.map tupI).length < lim:=by rw [List.length_map];(first|lia|omega)
  have lz:=lfL_ints kk
  rw [List.map_append,List.map_singleton]
  unfold tupI at ed ⊢
  generalize kk.map D.int=zs at ed lz
  change atI ((parK n ts).map tupI) (r % (((parK n ts).map tupI).length:Int))=_ at ed
  change turnF _ _ _ [_,_,some (.own ((parK n ts).map tupI)),_,some (.own (ks.map tupI)),_,_]=some (.nx [_,some (.int (r / (((parK n ts).map tupI).length:Int))),some (.own ((parK n ts).map tupI)),_,some (.own (ks.map tupI ++ [.tup zs])),_,some (.int (r % (((parK n ts).map tupI).length:Int)))])
  generalize (parK n ts).map tupI=pm at ed dp
  generalize ks.map tupI=km at lk
  repeat (first | walk_at "tw r" | simp only [kDivmod,dp,ed,lk,lz,lims])
 rintro ρ ⟨ks,r,o5,o6,ha,hb,hc,rfl⟩
 have s1:=ksort_l (ks:=ks) (by (first|lia|omega)) fun k h=>par_ne gw (ha k h)
 refine ends_last (d:=.tup [.own ((sortK ks).map tupI),.int r]) ?_ ⟨sortK ks,r,⟨fun k hk=>ha k ((sortK_perm ks).mem_iff.mp hk),by rw [(sortK_perm ks).length_eq];exact hb,hc⟩,rfl⟩
 generalize ks.map tupI=km at s1
 repeat (first | walk_at "tw r" | simp only [s1,lims])
end
end K34
set_option Elab.async false
set_option linter.all false
set_option maxRecDepth 100000
set_option maxHeartbeats 1000000
namespace Tw
open PySem PySem.Spec PyProof.Rows L2
theorem Rep.thaw {X:Cx}{P:List (D×V)}{ρ:Ev}{own:Nat→Option Addr}{σ:L2.St}{H:Hp}(r:Rep X P ρ own σ H){i:Nat}{xs:List D}(e0:ρ[i]? =some (some (.own xs))):
  ∃a,σ[i]? =some (some (.ref a))∧Rep X P (ρ.set i (some (.lst xs))) (fun j=>if j=i then none else own j) σ H∧Den X.K (Own fun j=>if j=i then none else own j) H (.lst xs) (.ref a):=by
 have sub:∀b,Own (fun j=>if j=i then none else own j) b→Own own b:=fun b ⟨j,e⟩=>by
  by_cases q:j=i
  ·simp [q] at e
  ·simp [q] at e;exact ⟨j,e⟩
 obtain ⟨v,h1,a,vs,oa,rfl,ha,l⟩:=r.slot i _ e0
 have no:¬Own (fun j=>if j=i then none else own j) a:=fun ⟨j,e⟩=>by
  by_cases q:j=i
  ·simp [q] at e
  ·simp [q] at e;exact q (r.inj j i a e oa)
 have dn:Den X.K (Own fun j=>if j=i then none else own j) H (.lst xs) (.ref a):=by
  rw [Den]
  exact ⟨a,vs,rfl,ha,no,denL_mono (fun _ _ q _=>q) r.isL (fun b z=>.inl (sub b z)) _ _ l⟩
 refine ⟨a,h1,⟨r.same,by rw [List.length_set];exact r.len,fun j d' e=>?_,fun j k a e1 e2=>?_,fun j a e=>?_,fun j a e=>?_,fun p hp=>den_mono (fun _ _ q _=>q) r.isL (fun b z=>.inl (sub b z)) _ _ (r.prot p hp)⟩,dn⟩
 ·by_cases q:i=j
  ·subst q
   rw [List.getElem?_set] at e
   rw [if_pos rfl] at e
   split at e
   ·cases e
    exact ⟨_,h1,dn⟩
   ·cases e
  ·rw [List.getElem?_set_ne q] at e
   obtain ⟨u,h1,h2⟩:=r.slot j d' e
   exact ⟨u,h1,SlotOk.grow (fun _ _ q _=>q) r.isL (fun b z=>.inl (sub b z)) (by show (if j=i then none else own j)=own j;rw [if_neg (Ne.symm q)]) (fun _ _=>rfl) h2⟩
 ·try dsimp only at e1 e2
  split at e1
  ·cases e1
  ·split at e2
   ·cases e2
   ·exact r.inj j k a e1 e2
 ·try dsimp only at e
  split at e
  ·cases e
  ·exact r.lst j a e
 ·try dsimp only at e
  split at e
  ·cases e
  ·exact r.new j a e
noncomputable def fForO (j:Nat) (gf:D→Ev→Option Ev) (b:FS):FS:=fun ρ=>match ρ[j]? with
 | some (some (.own xs))=>if lfL xs=true then loopF (turnF gf b) xs (ρ.set j (some (.lst xs))) else none
 | _=>none
section
variable {X:Cx}{pos p px:Pos}{y:Str}{body:List Stmt}{b:FS}
theorem qxs_forTO (j:Nat){es:List Expr}{is:List Nat}{k:Nat}(hNd:X.N.Nodup)(hp:PassesOwn (model X.prog X.w) X.A X.env X.xe)(hc:X.calm=true)(tg:Tg X es is)(hb:QSs X body b)(hn:autoParam ((assignEach es X.env).length=is.length) Zau.a2._auto_1)(hst:autoParam ((assignEach es X.env).findIdx? (·.1)=none) Zau.a2._auto_1)
  (hN:autoParam (X.N[j]? =some y) Zau.a2._auto_1) (hv:autoParam (Vis X.env.scope y) Zau.a4._auto_1) (hd:autoParam ((y == ("__debug__":Str))=false) Zau.a1._auto_1) (hcd:autoParam ((y == ("__classdict__":Str))=false) Zau.a1._auto_1) (hs:autoParam (∀x,foldedSetIterable (.Name y p) X.env x=pure x) Zau.a3._auto_1):
  QS X (.For (.Tuple es k px) (.Name y p) body [] pos) (fForO j (gfTup is) b):=⟨PS.weak (ps_for hp hc (pi_seq (pe_var hN hv hd hcd)) (pg_names hc hNd tg hn hst) hb.to hs) fun E σ H ⟨P,own,ρ,r,rp,e,q⟩=>by
 unfold fForO at e
 split at e
 ·rename_i xs e0
  split at e
  ·rename_i fl
   obtain ⟨a,h1,rp2,dn⟩:=rp.thaw e0
   exact ⟨_,h1,seq_loop (pxg_tup (pos:=pos) is) rfl fl rp2 dn e q⟩
  ·cases e
 ·cases e⟩
end
end Tw
set_option Elab.async false
set_option linter.all false
set_option maxRecDepth 100000
set_option maxHeartbeats 1500000
namespace K34
open PySem L2 Tw KS
noncomputable abbrev sLTog:Stmt:=top 25
section
variable {P:Program}{w:World}{K:PySem.W.Frag}{mg:Str→Option Value}{base:Heap}{f:Addr}{fd:FuncData}{k:Nat}
local macro_rules | `(tactic| walk_at "tw lc") => `(tactic| first
 | (refine' Tw.qx_divmod (by assumption) ?h0;(case h0=>walk_at "tw a")))
local macro_rules | `(tactic| walk_at "tw t") => `(tactic| first | (refine' Tw.qxt_inT (by assumption) ?h0 ?h1; (case h0 => walk_at "tw e"); (case h1 => walk_at "tw e")) | fail)
local macro_rules | `(tactic| walk_at "tw s") => `(tactic| first | (refine' Tw.qxs_remI 4 ?h0; (case h0 => walk_at "tw e")) | (refine' Tw.qxs_popAt 7 4 (by assumption) ?h0; (case h0 => walk_at "tw e")) | (refine' Tw.qxs_setU 8 (by assumption) ?k0; (case k0 => (refine' Tw.qx_compU (N := ["other", "known", "one"]) (js := [none, some 3, some 7]) 0 rfl (Tw.blk_mk (.own (.cap rfl rfl rfl rfl (.cap rfl rfl rfl rfl .nil))) rfl ⟨rfl, rfl, trivial⟩ rfl) (by decide) ?h0 (fun s2 H2 fp C => Tw.tst_one rfl ?h2) (fun s2 H2 fp C => ?h1) rfl rfl (by decide); (case h0 => walk_at "tw e"); (case h2 => walk_at "tw t"); (case h1 => walk_at "tw e")))) | fail)
theorem par_rng {n:Int}{ts:List D}(gw:GoodW n ts){k:List Int}(h:k∈parK n ts):∀x∈k,0≤x∧x < n:=by
 rcases par_mem.mp h with h | h
 ·unfold pers at h
  obtain ⟨i,hi,rfl⟩:=List.mem_map.mp h
  have:=List.mem_range.mp hi
  intro x hx
  rw [List.mem_singleton.mp hx]
  (first|lia|omega)
 ·obtain ⟨t,ht,rfl⟩:=List.mem_map.mp h
  obtain ⟨a,b,g,rfl,b0,b1,b2,_⟩:=tie_is (gw.tie t ht)
  intro x hx
  simp only [key2,List.mem_cons,List.not_mem_nil,or_false] at hx
  rcases hx with rfl | rfl <;> (first|lia|omega)
theorem par_one {n:Int}{ts:List D}{x:Int}(h:0≤x∧x < n):[x]∈parK n ts:=par_mem.mpr (.inl (by
 unfold pers
 exact List.mem_map.mpr ⟨x.toNat,List.mem_range.mpr (by (first|lia|omega)),by rw [Int.toNat_of_nonneg h.1]⟩))
noncomputable abbrev tTog:FT:=fTest (fBin (oInT false) (fTup (fCons (fCall kMin (fCons (fVar 2) (fCons (fVar 0) fNil))) (fCons (fCall kMax (fCons (fVar 2) (fCons (fVar 0) fNil))) fNil))) (fVar 1))
noncomputable def pTog (PK:List (List Int)) (one q:Int):Bool:=decide ([if q < one then q else one,if q > one then q else one]∈PK)
theorem c_oth {PK:List (List Int)}(one:Int){ps:List Int}(hl:ps.length≤100){o0 o1 o2 o5 o6 o8:Option D}:
  fComp (fVar 4) [none,some 3,some 7] (gfName 0) tTog (fVar 0) [o0,o1,o2,some (.own (PK.map tupI)),some (.own (ps.map D.int)),o5,o6,some (.int one),o8]=some (.own ((ps.filter (pTog PK one)).map D.int)):=by
 have lb:100≤lim:=by decide
 have l2:2≤lim:=by decide
 have cm:=compL_run (js:=[none,some 3,some 7]) (gf:=gfName 0) (t:=tTog) (fe:=fVar 0) (ys:=ps) (ρ:=[o0,o1,o2,some (.own (PK.map tupI)),some (.own (ps.map D.int)),o5,o6,some (.int one),o8])
  (fun ρ=>∃o,ρ=[o,some (.lst (PK.map tupI)),some (.int one)]) D.int D.int (pTog PK one) ⟨_,rfl⟩ (by rintro ρ ⟨o,rfl⟩;rfl) (by
  rintro q hq ρ zs ⟨o,rfl⟩
  have tm:=tupsOf_map PK
  refine ⟨[some (.int q),some (.lst (PK.map tupI)),some (.int one)],⟨_,rfl⟩,rfl,?_,fun _=>⟨rfl,rfl⟩⟩
  generalize PK.map tupI=pm at tm
  unfold pTog
  have im:=intsOf_map [if q < one then q else one,if q > one then q else one]
  simp only [List.map_cons,List.map_nil] at im
  repeat (first | walk_at "tw r" | simp only [l2,oInT,im,tm,asL])) (Nat.le_trans hl lb)
 simp only [fComp,fVar,List.getElem?_cons_zero,List.getElem?_cons_succ,Option.bind_some,Option.map_some,frz,items]
 exact cm
theorem popAt_of {i j:Nat}{g:FE}{ρ:Ev}{xs:List D}{n:Int}{d:D}(h0:ρ[j]? =some (some (.own xs)))(h1:g ρ=some (.int n))(h2:0≤n∧n < 2 ^ 62)(h3:xs[n.toNat]? =some d)(h4:lf d=true):fPopAt i j g ρ=some (.nx ((ρ.set j (some (.own (xs.eraseIdx n.toNat)))).set i (some d))):=by
 unfold fPopAt
 rw [h0]
 dsimp only
 rw [h1]
 dsimp only [Option.bind_some]
 rw [if_pos h2,h3]
 dsimp only
 rw [if_pos h4]
theorem scLTog:FnScope ["web","outs","number","known","people","ins","at","one","others"] ["web","outs","number"] (defScope sLTog):=⟨rfl,rfl,rfl,by decide +kernel,rfl,by decide +kernel,by decide +kernel⟩
noncomputable def LTogSpec (g:List D→Option D):Prop:=∀(n:Int) (ts:List D) (ks:List (List Int)) (m:Int),GoodW n ts→(∀k∈ks,k∈parK n ts)→ks.length≤6→0≤m→∃(js:List (List Int)) (r:Int),((∀k∈js,k∈parK n ts)∧js.length≤14∧0≤r)∧g [.tup [.int n,.tup ts],.lst (ks.map tupI),.int m]=some (.tup [.own (js.map tupI),.int r])
noncomputable def lenO:Option (Option D)→Nat
 | some (some (D.own xs))=>xs.length
 | _=>0
noncomputable def muT (ρ:Ev):Nat:=lenO (ρ[4]?)
theorem fn_ltog {gp gh:List D→Option D}(G1:Fn P w K mg base "_law_parties" k gp)(h1:ParSpec gp)(G2:Fn P w K mg base "_law_held" k gh)(h2:LHeldSpec gh)(ml:mg "len"=none)(md:mg "divmod"=none)(ms:mg "sorted"=none)(mn:mg "min"=none)(mx:mg "max"=none)(F:Fun K "_law_together" "_law_together" sLTog f fd)(B:Binds K fd ["web","outs","number"] [])(hm:mg "_law_together"=some (.ref f)):∃g,Fn P w K mg base "_law_together" (k + 1) g∧LTogSpec g:=by
 have nd:=scLTog.nd
 refine ⟨_,fn_mk F scLTog B hm rfl rfl (fun cdv A outer s H E hr=>(by walk_at "tw ss":QSs _ _ _).to),fun n ts ks m gw hk hl m0=>?_⟩
 have lb:1000≤lim:=by decide
 have e1:=h1 n ts gw
 have f1:=flat_le (m:=2) fun k h=>(par_len gw (hk k h)).2
 have e2:=h2 ks (.lst (ks.map tupI)) (by (first|lia|omega)) (.inr (.inl rfl))
 have fpk:=lfL_tups (parK n ts)
 have fli:=lfL_ints (sortI ks.flatten)
 refine ends_ex2 (t:=fun js r=>.tup [.own (List.map tupI js),.int r]) rfl ?_
 change Tw.Ends (fThen _ _ [some (.tup [.int n,.tup ts]),some (.lst (ks.map tupI)),some (.int m),none,none,none,none,none,none]) _
 refine ends_eq [some (.tup [.int n,.tup ts]),some (.lst (ks.map tupI)),some (.int m),some (.own ((parK n ts).map tupI)),none,none,none,none,none] ?_ ?_
 ·repeat (first | walk_at "tw r" | simp only [e1,fpk])
 refine ends_eq [some (.tup [.int n,.tup ts]),some (.lst (ks.map tupI)),some (.int m),some (.own ((parK n ts).map tupI)),some (.own ((sortI ks.flatten).map D.int)),none,none,none,none] ?_ ?_
 ·repeat (first | walk_at "tw r" | simp only [e2,fli])
 refine ends_eq [some (.tup [.int n,.tup ts]),some (.lst (ks.map tupI)),some (.int m),some (.own ((parK n ts).map tupI)),some (.own ((sortI ks.flatten).map D.int)),some (.own []),none,none,none] ?_ ?_
 ·repeat (first | walk_at "tw r" | simp only [lims])
 let I:Ev→Prop:=fun ρ=>∃(r:Int) (ps:List Int) (js:List (List Int)) (o6 o7 o8:Option D),(0≤r∧(∀p∈ps,0≤p∧p < n)∧(∀k∈js,k∈parK n ts)∧js.length + ps.length≤14)∧ρ=[some (.tup [.int n,.tup ts]),some (.lst (ks.map tupI)),some (.int r),some (.own ((parK n ts).map tupI)),some (.own (ps.map D.int)),some (.own (js.map tupI)),o6,o7,o8]
 have sp:=sortI_perm ks.flatten
 have hI:I [some (.tup [.int n,.tup ts]),some (.lst (ks.map tupI)),some (.int m),some (.own ((parK n ts).map tupI)),some (.own ((sortI ks.flatten).map D.int)),some (.own []),none,none,none]:=⟨m,sortI ks.flatten,[],none,none,none,⟨m0,fun p hp=>by
  obtain ⟨k,hk',hp⟩:=List.mem_flatten.mp (sp.mem_iff.mp hp)
  exact par_rng gw (hk k hk') p hp,(fun _ h=>nomatch h),by rw [sp.length_eq,List.length_nil];(first|lia|omega)⟩,rfl⟩
 refine ends_then I ?_ ?_
 ·suffices q:_ by
   obtain ⟨ρ',a,b,_⟩:=whileV_inv I muT _ hI q
   exact ⟨ρ',a,b⟩
  rintro ρ ⟨r,ps,js,o6,o7,o8,⟨r0,hp,hj,hs⟩,rfl⟩
  cases hps:ps with
  | nil=>
   left
   have d0:deqL (deq 19) [] ([]:List D)=some true:=rfl
   repeat (first | walk_at "tw r" | simp only [d0,lims])
  | cons p0 pr=>
   rw [←hps]
   have hl0:0 < ps.length:=by rw [hps];simp
   refine .inr ⟨?_,?_⟩
   ·have d1:deqL (deq 19) (ps.map D.int) ([]:List D)=some false:=by rw [hps];rfl
    generalize ps.map D.int=pm at d1
    repeat (first | walk_at "tw r" | simp only [d1,lims])
   ·have lps:=List.length_map (as:=ps) D.int
    have dp:dOk ((ps.map D.int).length:Int):=dOk_small (by rw [lps];(first|lia|omega)) (Nat.lt_of_le_of_lt (show (((ps.map D.int).length:Nat):Int).natAbs≤36 by rw [lps];(first|lia|omega)) (by decide))
    obtain ⟨j,ej⟩:∃j:Nat,r % ((ps.map D.int).length:Int)=(j:Int):=⟨(r % ((ps.map D.int).length:Int)).toNat,by have:=Int.emod_nonneg r (show ((ps.map D.int).length:Int)≠0 by (first|lia|omega));(first|lia|omega)⟩
    have hj':j < ps.length:=by have:=Int.emod_lt_of_pos r (show 0 < ((ps.map D.int).length:Int) by (first|lia|omega));(first|lia|omega)
    have r1:0≤r / ((ps.map D.int).length:Int):=Int.ediv_nonneg r0 (by (first|lia|omega))
    refine nx_eq [some (.tup [.int n,.tup ts]),some (.lst (ks.map tupI)),some (.int (r / ((ps.map D.int).length:Int))),some (.own ((parK n ts).map tupI)),some (.own (ps.map D.int)),some (.own (js.map tupI)),some (.int (j:Int)),o7,o8] ?_ ?_
    ·generalize ps.map D.int=pm at dp ej
     repeat (first | walk_at "tw r" | simp only [kDivmod,dp,ej,lims])
    generalize r / ((ps.map D.int).length:Int)=r' at r1
    have hone:=hp _ (List.getElem_mem hj')
    have pe:(ps.map D.int)[((j:Nat):Int).toNat]? =some (.int ps[j]):=by rw [Int.toNat_natCast,List.getElem?_map,List.getElem?_eq_getElem hj'];rfl
    have pr':(ps.map D.int).eraseIdx ((j:Nat):Int).toNat=(ps.eraseIdx j).map D.int:=by rw [Int.toNat_natCast];exact map_erase _ _ _
    have c62:0≤((j:Nat):Int)∧((j:Nat):Int) < 2 ^ 62:=⟨by (first|lia|omega),by (first|lia|omega)⟩
    generalize ps[j]=one at pe hone
    refine nx_eq [some (.tup [.int n,.tup ts]),some (.lst (ks.map tupI)),some (.int r'),some (.own ((parK n ts).map tupI)),some (.own ((ps.eraseIdx j).map D.int)),some (.own (js.map tupI)),some (.int (j:Int)),some (.int one),o8] ?_ ?_
    ·exact (popAt_of rfl rfl c62 pe rfl).trans (by rw [pr'];rfl)
    have hp2:∀p∈ps.eraseIdx j,0≤p∧p < n:=fun p h=>hp p (List.mem_of_mem_eraseIdx h)
    have le2:(ps.eraseIdx j).length + 1=ps.length:=by rw [List.length_eraseIdx,if_pos hj'];(first|lia|omega)
    have co:=c_oth (PK:=parK n ts) one (ps:=ps.eraseIdx j) (by (first|lia|omega)) (o0:=some (.tup [.int n,.tup ts])) (o1:=some (.lst (ks.map tupI))) (o2:=some (.int r')) (o5:=some (.own (js.map tupI))) (o6:=some (.int (j:Int))) (o8:=o8)
    have hoth:∀q∈(ps.eraseIdx j).filter (pTog (parK n ts) one),q∈ps.eraseIdx j∧[if q < one then q else one,if q > one then q else one]∈parK n ts:=fun q hq=>⟨(List.mem_filter.mp hq).1,by simpa [pTog] using (List.mem_filter.mp hq).2⟩
    have loth:((ps.eraseIdx j).filter (pTog (parK n ts) one)).length≤20:=Nat.le_trans (List.length_filter_le _ _) (by (first|lia|omega))
    have flo:=lfL_ints ((ps.eraseIdx j).filter (pTog (parK n ts) one))
    refine nx_eq [some (.tup [.int n,.tup ts]),some (.lst (ks.map tupI)),some (.int r'),some (.own ((parK n ts).map tupI)),some (.own ((ps.eraseIdx j).map D.int)),some (.own (js.map tupI)),some (.int (j:Int)),some (.int one),some (.own (((ps.eraseIdx j).filter (pTog (parK n ts) one)).map D.int))] ?_ ?_
    ·generalize ((ps.eraseIdx j).filter (pTog (parK n ts) one)).map D.int=om at co flo
     repeat (first | walk_at "tw r" | simp only [co,flo,lims])
    generalize (ps.eraseIdx j).filter (pTog (parK n ts) one)=os at hoth loth
    have los:=List.length_map (as:=os) D.int
    have ds:dOk (((os.map D.int).length:Int) + 1):=dOk_small (by rw [los];(first|lia|omega)) (Nat.lt_of_le_of_lt (show ((((os.map D.int).length:Nat):Int) + 1).natAbs≤36 by rw [los];(first|lia|omega)) (by decide))
    have r2:0≤r' / (((os.map D.int).length:Int) + 1):=Int.ediv_nonneg r1 (by (first|lia|omega))
    have a0:0≤r' % (((os.map D.int).length:Int) + 1):=Int.emod_nonneg _ (by (first|lia|omega))
    refine nx_eq [some (.tup [.int n,.tup ts]),some (.lst (ks.map tupI)),some (.int (r' / (((os.map D.int).length:Int) + 1))),some (.own ((parK n ts).map tupI)),some (.own ((ps.eraseIdx j).map D.int)),some (.own (js.map tupI)),some (.int (r' % (((os.map D.int).length:Int) + 1))),some (.int one),some (.own (os.map D.int))] ?_ ?_
    ·generalize os.map D.int=om at ds
     repeat (first | walk_at "tw r" | simp only [kDivmod,ds,lims])
    generalize r' / (((os.map D.int).length:Int) + 1)=r'' at r2
    generalize r' % (((os.map D.int).length:Int) + 1)=at' at a0
    have lj:(js.map tupI).length < lim:=by rw [List.length_map];(first|lia|omega)
    have l2:2≤lim:=by decide
    by_cases q:at' < ((os.map D.int).length:Int)
    ·obtain ⟨x,hx,ex⟩:=atI_ints (ns:=os) (i:=at') a0 (by rw [←los];exact q)
     obtain ⟨hx1,hx2⟩:=hoth x hx
     have im:=intsOf_map (ps.eraseIdx j)
     refine ⟨[some (.tup [.int n,.tup ts]),some (.lst (ks.map tupI)),some (.int r''),some (.own ((parK n ts).map tupI)),some (.own (((ps.eraseIdx j).eraseIdx ((ps.eraseIdx j).idxOf x)).map D.int)),some (.own ((js ++ [[if x < one then x else one,if x > one then x else one]]).map tupI)),some (.int at'),some (.int one),some (.own (os.map D.int))],?_,⟨r'',_,_,_,_,_,⟨r2,fun p h=>hp2 p (List.mem_of_mem_eraseIdx h),fun k h=>(List.mem_append.mp h).elim (hj k) (fun z=>by rw [List.mem_singleton.mp z];exact hx2),?_⟩,rfl⟩,?_⟩
     ·rw [List.map_append,List.map_cons,List.map_nil]
      simp only [tupI,List.map_cons,List.map_nil]
      change _=some (R.nx [_,_,_,_,_,some (.own (js.map tupI ++ _)),_,_,_])
      generalize js.map tupI=jm at lj
      generalize os.map D.int=om at q ex
      generalize ps.eraseIdx j=pe2 at im hx1
      generalize pe2.map D.int=pm2 at im
      repeat (first | walk_at "tw r" | simp only [q,ex,fRem,im,hx1,l2,lj,lims])
     ·have:=List.length_eraseIdx_le (ps.eraseIdx j) ((ps.eraseIdx j).idxOf x)
      rw [List.length_append,List.length_singleton];(first|lia|omega)
     ·have:=List.length_eraseIdx_le (ps.eraseIdx j) ((ps.eraseIdx j).idxOf x)
      simp only [muT,lenO,List.getElem?_cons_succ,List.getElem?_cons_zero,List.length_map];(first|lia|omega)
    ·refine ⟨[some (.tup [.int n,.tup ts]),some (.lst (ks.map tupI)),some (.int r''),some (.own ((parK n ts).map tupI)),some (.own ((ps.eraseIdx j).map D.int)),some (.own ((js ++ [[one]]).map tupI)),some (.int at'),some (.int one),some (.own (os.map D.int))],?_,⟨r'',_,_,_,_,_,⟨r2,hp2,fun k h=>(List.mem_append.mp h).elim (hj k) (fun z=>by rw [List.mem_singleton.mp z];exact par_one hone),?_⟩,rfl⟩,?_⟩
     ·rw [List.map_append,List.map_cons,List.map_nil]
      simp only [tupI,List.map_cons,List.map_nil]
      change _=some (R.nx [_,_,_,_,_,some (.own (js.map tupI ++ _)),_,_,_])
      generalize js.map tupI=jm at lj
      generalize os.map D.int=om at q
      repeat (first | walk_at "tw r" | simp only [q,l2,lj,lims])
     ·rw [List.length_append,List.length_singleton];(first|lia|omega)
     ·simp only [muT,lenO,List.getElem?_cons_succ,List.getElem?_cons_zero,List.length_map];(first|lia|omega)
 rintro ρ ⟨r,ps,js,o6,o7,o8,⟨r0,hp,hj,hs⟩,rfl⟩
 have s1:=ksort_l (ks:=js) (by (first|lia|omega)) fun k h=>par_ne gw (hj k h)
 refine ends_last (d:=.tup [.own ((sortK js).map tupI),.int r]) ?_ ⟨sortK js,r,⟨fun k h=>hj k ((sortK_perm js).mem_iff.mp h),by rw [(sortK_perm js).length_eq];(first|lia|omega),r0⟩,rfl⟩
 generalize js.map tupI=jm at s1
 repeat (first | walk_at "tw r" | simp only [s1,lims])
end
end K34
set_option Elab.async false
set_option linter.all false
set_option maxRecDepth 100000
set_option maxHeartbeats 1500000
namespace K34
open PySem L2 Tw KS
noncomputable abbrev sLTurn:Stmt:=top 26
section
variable {P:Program}{w:World}{K:PySem.W.Frag}{mg:Str→Option Value}{base:Heap}{f:Addr}{fd:FuncData}{k:Nat}
local macro_rules | `(tactic| walk_at "tw lc") => `(tactic| first
 | (refine' Tw.qx_divmod (by assumption) ?h0;(case h0=>walk_at "tw a")))
theorem cut_to (ks:List (List Int)){j:Nat}(h:j≤ks.length):cutD (ks.map tupI) none (some (j:Int))=(ks.take j).map tupI:=by
 unfold cutD
 rw [List.length_map,HT.sIx_none,HT.sIx_nat,List.drop_zero,Nat.sub_zero,Nat.min_eq_left h,List.map_take]
theorem cut_from (ks:List (List Int)){j:Nat}:cutD (ks.map tupI) (some (j:Int)) none=(ks.drop j).map tupI:=by
 unfold cutD
 rw [List.length_map,HT.sIx_none,HT.sIx_nat,←List.map_drop,←List.map_take]
 congr 1
 by_cases h:j≤ks.length
 ·rw [Nat.min_eq_left h];exact List.take_of_length_le (by simp)
 ·rw [Nat.min_eq_right (by (first|lia|omega)),List.drop_of_length_le (Nat.le_refl _),List.drop_of_length_le (by (first|lia|omega)),List.take_nil]
theorem ends_ex3 {α β γ:Type}{P:α→β→γ→Prop}{t:α→β→γ→D}{np n:Nat}{G:FS}{ds:List D}(h:ds.length=np)(e:Ends (G (start0 n ds)) (fun d=>∃a b c,P a b c∧d=t a b c)):∃a b c,P a b c∧runD np n G ds=some (t a b c):=by
 obtain ⟨d,h1,a,b,c,p,rfl⟩:=ends_run h e
 exact ⟨a,b,c,p,h1⟩
theorem scLTurn:FnScope ["web","some","number","known","way","at","other"] ["web","some","number"] (defScope sLTurn):=⟨rfl,rfl,rfl,by decide +kernel,rfl,by decide +kernel,by decide +kernel⟩
noncomputable def LTurnSpec (g:List D→Option D):Prop:=∀(n:Int) (ts:List D) (ks:List (List Int)) (m:Int),GoodW n ts→(∀k∈ks,k∈parK n ts)→ks.length≤15→0≤m→∃(js:List (List Int)) (o:D) (r:Int),((∀k∈js,k∈parK n ts)∧js.length≤ks.length + 1∧0≤r∧(o= .own (js.map tupI)∨o= .lst (js.map tupI)))∧g [.tup [.int n,.tup ts],.lst (ks.map tupI),.int m]=some (.tup [o,.int r])
theorem fn_lturn {gp:List D→Option D}(G1:Fn P w K mg base "_law_parties" k gp)(h1:ParSpec gp)(ml:mg "len"=none)(md:mg "divmod"=none)(ms:mg "sorted"=none)(F:Fun K "_law_turned" "_law_turned" sLTurn f fd)(B:Binds K fd ["web","some","number"] [])(hm:mg "_law_turned"=some (.ref f)):∃g,Fn P w K mg base "_law_turned" (k + 1) g∧LTurnSpec g:=by
 have nd:=scLTurn.nd
 refine ⟨_,fn_mk F scLTurn B hm rfl rfl (fun cdv A outer s H E hr=>(by walk_at "tw ss":QSs _ _ _).to),fun n ts ks m gw hk hl m0=>?_⟩
 have lb:1000≤lim:=by decide
 have n1:=gw.lo
 have n8:=gw.hi
 have e1:=h1 n ts gw
 have fpk:=lfL_tups (parK n ts)
 have d7:dOk 7:=dOk_small (by decide) (by decide)
 have lpk:(parK n ts).length≤36:=by unfold parK;rw [(sortK_perm _).length_eq];unfold pers;have:=gw.len;simp;(first|lia|omega)
 have lpk0:0 < (parK n ts).length:=by unfold parK;rw [(sortK_perm _).length_eq];unfold pers;simp;(first|lia|omega)
 have pp:(0:Int) < ((parK n ts).length:Int):=by (first|lia|omega)
 have lp:=List.length_map (as:=parK n ts) tupI
 have lks:=List.length_map (as:=ks) tupI
 have dp:dOk (((parK n ts).map tupI).length:Int):=dOk_small (by rw [lp];(first|lia|omega)) (Nat.lt_of_le_of_lt (show ((((parK n ts).map tupI).length:Nat):Int).natAbs≤36 by rw [lp];(first|lia|omega)) (by decide))
 have ds:dOk (((ks.map tupI).length:Int) + 1):=dOk_small (by rw [lks];(first|lia|omega)) (Nat.lt_of_le_of_lt (show ((((ks.map tupI).length:Nat):Int) + 1).natAbs≤36 by rw [lks];(first|lia|omega)) (by decide))
 refine ends_ex3 (t:=fun _ o r=>.tup [o,.int r]) rfl ?_
 change Tw.Ends (fThen _ _ [some (.tup [.int n,.tup ts]),some (.lst (ks.map tupI)),some (.int m),none,none,none,none]) _
 refine ends_eq [some (.tup [.int n,.tup ts]),some (.lst (ks.map tupI)),some (.int m),some (.own ((parK n ts).map tupI)),none,none,none] ?_ ?_
 ·repeat (first | walk_at "tw r" | simp only [e1,fpk])
 refine ends_eq [some (.tup [.int n,.tup ts]),some (.lst (ks.map tupI)),some (.int (m / 7)),some (.own ((parK n ts).map tupI)),some (.int (m % 7)),none,none] ?_ ?_
 ·repeat (first | walk_at "tw r" | simp only [kDivmod,d7,lims])
 have m1:0≤m / 7:=by (first|lia|omega)
 generalize m / 7=m' at m1
 generalize m % 7=wy
 obtain ⟨j,ej⟩:∃j:Nat,m' % (((ks.map tupI).length:Int) + 1)=(j:Int):=⟨(m' % (((ks.map tupI).length:Int) + 1)).toNat,by have:=Int.emod_nonneg m' (show ((ks.map tupI).length:Int) + 1≠0 by (first|lia|omega));(first|lia|omega)⟩
 have hj:j≤ks.length:=by have:=Int.emod_lt_of_pos m' (show 0 < ((ks.map tupI).length:Int) + 1 by (first|lia|omega));rw [lks] at this ej;(first|lia|omega)
 have m2:0≤m' / (((ks.map tupI).length:Int) + 1):=Int.ediv_nonneg m1 (by (first|lia|omega))
 refine ends_eq [some (.tup [.int n,.tup ts]),some (.lst (ks.map tupI)),some (.int (m' / (((ks.map tupI).length:Int) + 1))),some (.own ((parK n ts).map tupI)),some (.int wy),some (.int (j:Int)),none] ?_ ?_
 ·generalize ks.map tupI=km at ds ej
  repeat (first | walk_at "tw r" | simp only [kDivmod,ds,ej,lims])
 generalize m' / (((ks.map tupI).length:Int) + 1)=m'' at m2
 obtain ⟨d,hd,ed⟩:=atI_mem (xs:=(parK n ts).map tupI) (i:=m'' % (((parK n ts).map tupI).length:Int)) (Int.emod_nonneg _ (by rw [lp];(first|lia|omega))) (Int.emod_lt_of_pos _ (by rw [lp];(first|lia|omega)))
 obtain ⟨kk,hkk,rfl⟩:=List.mem_map.mp hd
 have m3:0≤m'' / (((parK n ts).map tupI).length:Int):=Int.ediv_nonneg m2 (by (first|lia|omega))
 refine ends_eq [some (.tup [.int n,.tup ts]),some (.lst (ks.map tupI)),some (.int (m'' / (((parK n ts).map tupI).length:Int))),some (.own ((parK n ts).map tupI)),some (.int wy),some (.int (j:Int)),some (.int (m'' % (((parK n ts).map tupI).length:Int)))] ?_ ?_
 ·generalize (parK n ts).map tupI=pm at dp
  repeat (first | walk_at "tw r" | simp only [kDivmod,dp,lims])
 generalize m'' / (((parK n ts).map tupI).length:Int)=r at m3
 generalize m'' % (((parK n ts).map tupI).length:Int)=ot at ed
 have c1:=cut_to ks hj
 have c2:=cut_from ks (j:=j)
 have c3:=cut_from ks (j:=j + 1)
 rw [show (((j + 1:Nat):Nat):Int)=(j:Int) + 1 by (first|lia|omega)] at c3
 have hk1:∀k∈ks ++ [kk],k∈parK n ts:=fun k h=>(List.mem_append.mp h).elim (hk k) fun z=>by rw [List.mem_singleton.mp z];exact hkk
 have hk2:∀k∈ks.take j ++ [kk] ++ ks.drop (j + 1),k∈parK n ts:=fun k h=>(List.mem_append.mp h).elim (fun h=>(List.mem_append.mp h).elim (fun h=>hk k (List.mem_of_mem_take h)) fun z=>by rw [List.mem_singleton.mp z];exact hkk) fun h=>hk k (List.mem_of_mem_drop h)
 have s1:=ksort_o (ks:=ks ++ [kk]) (by simp;(first|lia|omega)) fun k h=>par_ne gw (hk1 k h)
 have s2:=ksort_o (ks:=ks.take j ++ [kk] ++ ks.drop (j + 1)) (by simp;(first|lia|omega)) fun k h=>par_ne gw (hk2 k h)
 rw [List.map_append,List.map_cons,List.map_nil] at s1
 rw [List.map_append,List.map_append,List.map_cons,List.map_nil] at s2
 have lz:=lfL_ints kk
 have f1:(ks.map tupI).length + 1≤lim:=by rw [lks];(first|lia|omega)
 have f2:((ks.take j).map tupI).length + 1≤lim:=by simp;(first|lia|omega)
 have f3:((ks.take j).map tupI ++ [tupI kk]).length + ((ks.drop (j + 1)).map tupI).length≤lim:=by simp;(first|lia|omega)
 have f4:((ks.take j).map tupI).length + ((ks.drop (j + 1)).map tupI).length≤lim:=by simp;(first|lia|omega)
 have f5:((ks.drop j).map tupI).length + ((ks.take j).map tupI).length≤lim:=by simp;(first|lia|omega)
 have lks':(((ks.map tupI).length:Nat):Int)=(ks.length:Int):=by rw [lks]
 by_cases w0:wy=0
 ·have w0':(wy == 0)=true:=by simpa using w0
  refine ends_ret (d:=.tup [.own ((sortK (ks ++ [kk])).map tupI),.int r]) ?_ ⟨sortK (ks ++ [kk]),.own ((sortK (ks ++ [kk])).map tupI),r,⟨fun k h=>hk1 k ((sortK_perm _).mem_iff.mp h),by rw [(sortK_perm _).length_eq];simp,m3,.inl rfl⟩,rfl⟩
  generalize (sortK (ks ++ [kk])).map tupI=sk at s1
  unfold tupI at s1 ed
  change kSort [.own (ks.map tupI ++ _)]=_ at s1
  change atI ((parK n ts).map tupI) _=_ at ed
  generalize ks.map tupI=km at s1 f1
  generalize (parK n ts).map tupI=pm at ed
  generalize kk.map D.int=zs at s1 ed lz
  repeat (first | walk_at "tw r" | simp only [w0',ed,s1,f1,lz,lims])
 refine ends_eq [some (.tup [.int n,.tup ts]),some (.lst (ks.map tupI)),some (.int r),some (.own ((parK n ts).map tupI)),some (.int wy),some (.int (j:Int)),some (.int ot)] ?_ ?_
 ·have w0':(wy == 0)=false:=by simpa using w0
  repeat (first | walk_at "tw r" | simp only [w0',lims])
 by_cases w1:wy=1
 ·have w1':(wy == 1)=true:=by simpa using w1
  refine ends_ret (d:=.tup [.own ((ks.take j ++ ks.drop (j + 1)).map tupI),.int r]) ?_ ⟨ks.take j ++ ks.drop (j + 1),.own ((ks.take j ++ ks.drop (j + 1)).map tupI),r,⟨fun k h=>(List.mem_append.mp h).elim (fun h=>hk k (List.mem_of_mem_take h)) fun h=>hk k (List.mem_of_mem_drop h),by simp;(first|lia|omega),m3,.inl rfl⟩,rfl⟩
  rw [List.map_append]
  generalize ks.map tupI=km at c1 c3
  generalize (ks.take j).map tupI=a at c1 f4
  generalize (ks.drop (j + 1)).map tupI=b at c3 f4
  repeat (first | walk_at "tw r" | simp only [w1',c1,c3,f4,lims])
 refine ends_eq [some (.tup [.int n,.tup ts]),some (.lst (ks.map tupI)),some (.int r),some (.own ((parK n ts).map tupI)),some (.int wy),some (.int (j:Int)),some (.int ot)] ?_ ?_
 ·have w1':(wy == 1)=false:=by simpa using w1
  repeat (first | walk_at "tw r" | simp only [w1',lims])
 by_cases w2:wy=2∧(j:Int) < (ks.length:Int)
 ·obtain ⟨w2,w3⟩:=w2
  have w2':(wy == 2)=true:=by simpa using w2
  refine ends_ret (d:=.tup [.own ((sortK (ks.take j ++ [kk] ++ ks.drop (j + 1))).map tupI),.int r]) ?_ ⟨sortK (ks.take j ++ [kk] ++ ks.drop (j + 1)),.own ((sortK (ks.take j ++ [kk] ++ ks.drop (j + 1))).map tupI),r,⟨fun k h=>hk2 k ((sortK_perm _).mem_iff.mp h),by rw [(sortK_perm _).length_eq];simp;(first|lia|omega),m3,.inl rfl⟩,rfl⟩
  generalize (sortK (ks.take j ++ [kk] ++ ks.drop (j + 1))).map tupI=sk at s2
  generalize ks.map tupI=km at c1 c3 lks'
  generalize (ks.take j).map tupI=a at c1 f2 f3 s2
  generalize (ks.drop (j + 1)).map tupI=b at c3 f3 s2
  unfold tupI at s2 ed f3
  change atI ((parK n ts).map tupI) _=_ at ed
  generalize (parK n ts).map tupI=pm at ed
  generalize kk.map D.int=zs at s2 ed lz f3
  repeat (first | walk_at "tw r" | simp only [w2',w3,lks',c1,c3,f2,f3,ed,s2,lz,lims])
 refine ends_eq [some (.tup [.int n,.tup ts]),some (.lst (ks.map tupI)),some (.int r),some (.own ((parK n ts).map tupI)),some (.int wy),some (.int (j:Int)),some (.int ot)] ?_ ?_
 ·by_cases w3:wy=2
  ·have w3':(wy == 2)=true:=by simpa using w3
   have w4:¬(j:Int) < (ks.length:Int):=fun z=>w2 ⟨w3,z⟩
   generalize ks.map tupI=km at lks'
   repeat (first | walk_at "tw r" | simp only [w3',w4,lks',lims])
  ·have w3':(wy == 2)=false:=by simpa using w3
   repeat (first | walk_at "tw r" | simp only [w3',lims])
 by_cases w3:wy=3
 ·have w3':(wy == 3)=true:=by simpa using w3
  refine ends_ret (d:=.tup [.own ((ks.drop j ++ ks.take j).map tupI),.int r]) ?_ ⟨ks.drop j ++ ks.take j,.own ((ks.drop j ++ ks.take j).map tupI),r,⟨fun k h=>(List.mem_append.mp h).elim (fun h=>hk k (List.mem_of_mem_drop h)) fun h=>hk k (List.mem_of_mem_take h),by simp;(first|lia|omega),m3,.inl rfl⟩,rfl⟩
  rw [List.map_append]
  generalize ks.map tupI=km at c1 c2
  generalize (ks.take j).map tupI=a at c1 f5
  generalize (ks.drop j).map tupI=b at c2 f5
  repeat (first | walk_at "tw r" | simp only [w3',c1,c2,f5,lims])
 refine ends_eq [some (.tup [.int n,.tup ts]),some (.lst (ks.map tupI)),some (.int r),some (.own ((parK n ts).map tupI)),some (.int wy),some (.int (j:Int)),some (.int ot)] ?_ ?_
 ·have w3':(wy == 3)=false:=by simpa using w3
  repeat (first | walk_at "tw r" | simp only [w3',lims])
 refine ends_last (d:=.tup [.lst (ks.map tupI),.int r]) ?_ ⟨ks,.lst (ks.map tupI),r,⟨hk,by (first|lia|omega),m3,.inr rfl⟩,rfl⟩
 repeat (first | walk_at "tw r" | simp only [lims])
end
end K34
set_option Elab.async false
set_option linter.all false
set_option maxRecDepth 100000
set_option maxHeartbeats 1500000
namespace K34
open PySem L2 Tw KS
noncomputable abbrev sLWeb:Stmt:=top 18
section
variable {P:Program}{w:World}{K:PySem.W.Frag}{mg:Str→Option Value}{base:Heap}{f:Addr}{fd:FuncData}{k:Nat}
local macro_rules | `(tactic| walk_at "tw af") => `(tactic| first | exact Tw.qaf_nil | (refine' Tw.qaf_cons ?h0 ?h1; (case h0 => walk_at "tw e"); (case h1 => walk_at "tw af")))
local macro_rules | `(tactic| walk_at "tw e") => `(tactic| first | (refine' Tw.qx_pick ?h0 ?h1; (case h0 => walk_at "tw af"); (case h1 => walk_at "tw e")) | fail)
local macro_rules | `(tactic| walk_at "tw s") => `(tactic| first | (refine' Tw.qxs_forTO 7 (by assumption) PySem.PassesOwn.never rfl (by walk_at "tw tg") ?h1; (case h1 => walk_at "tw ss")) | fail)
local macro_rules | `(tactic| walk_at "tw lc") => `(tactic| first
 | (refine' Tw.qx_divmod (by assumption) ?h0;(case h0=>walk_at "tw a"))
 | (refine' Tw.qx_compR (N:=["k"]) (js:=[none]) 0 rfl (by assumption) (Tw.blk_mk (by exact .own .nil) rfl (by exact trivial) (by rfl)) (by decide) ?h0 (fun s2 H2 fp C=>Tw.tst_nil) (fun s2 H2 fp C=>?h1) rfl rfl (by decide);(case h0=>walk_at "tw a");(case h1=>walk_at "tw e"))
 | (refine' Tw.qx_compR (N:=["k","people"]) (js:=[none,some 2]) 0 rfl (by assumption) (Tw.blk_mk (by exact .own (.cap rfl rfl rfl rfl .nil)) rfl (by exact ⟨rfl,trivial⟩) (by rfl)) (by decide) ?h0 (fun s2 H2 fp C=>Tw.tst_nil) (fun s2 H2 fp C=>?h1) rfl rfl (by decide);(case h0=>walk_at "tw a");(case h1=>walk_at "tw e"))
 | (refine' Tw.qx_compR2 (N:=["k"]) (js:=[none]) 0 rfl (by assumption) (Tw.blk_mk (by exact .own .nil) rfl (by exact trivial) (by rfl)) (by decide) ?h0 (fun s2 H2 fp C=>Tw.tst_nil) (fun s2 H2 fp C=>?h1) rfl rfl (by decide);(case h0=>walk_at "tw a");(case h1=>walk_at "tw e"))
 | (refine' Tw.qx_compT (N:=["a","b","gains_v"]) (js:=[none,none,some 11]) (is:=[0,1]) rfl (Tw.blk_mk (by exact .own (.own (.cap rfl rfl rfl rfl .nil))) rfl (by exact ⟨rfl,trivial⟩) (by rfl)) (by decide) (fun s2 H2 fp C=>(by walk_at "tw tg")) ?h0 (fun s2 H2 fp C=>Tw.tst_nil) (fun s2 H2 fp C=>?h1) (by decide);(case h0=>walk_at "tw e");(case h1=>walk_at "tw e")))
structure GM (n:Int) (ks:List (List Int)) (gs:List Int):Prop where
 len:ks.length=gs.length
 nd:ks.Nodup
 key:∀k∈ks,∃a b:Int,k=[a,b]∧0≤a∧a < b∧b < n
 val:∀g∈gs,1≤g∧g≤10 ^ 12
theorem putX_map {ks:List (List Int)}{gs:List Int}{k:List Int}{m:Int}:putX ks (gs.map D.int) k (.int m)=(putX ks gs k m).map D.int:=by
 unfold putX
 split
 ·rename_i q;clear q
  induction ks generalizing gs with
  | nil=>simp
  | cons k' ks ih=>
   cases gs with
   | nil=>simp
   | cons g gs=>
    rw [List.map_cons,List.zipWith_cons_cons,List.zipWith_cons_cons,List.map_cons,ih]
    congr 1
    split <;> rfl
 ·simp
theorem putX_mem {ks:List (List Int)}{gs:List Int}{k:List Int}{m x:Int}(h:x∈putX ks gs k m):x=m∨x∈gs:=by
 unfold putX at h
 split at h
 ·rename_i q;clear q
  induction ks generalizing gs with
  | nil=>simp at h
  | cons k' ks ih=>
   cases gs with
   | nil=>simp at h
   | cons g gs=>
    rw [List.zipWith_cons_cons,List.mem_cons] at h
    rcases h with h | h
    ·split at h
     ·exact .inl h
     ·exact .inr (by rw [h];exact List.mem_cons_self)
    ·exact (ih h).imp id (List.mem_cons_of_mem _)
 ·rcases List.mem_append.mp h with h | h
  ·exact .inr h
  ·exact .inl (List.mem_singleton.mp h)
theorem GM.put {n:Int}{ks:List (List Int)}{gs:List Int}(g:GM n ks gs){a b m:Int}(ha:0≤a)(hab:a < b)(hb:b < n)(hm:1≤m∧m≤10 ^ 12):GM n (putKs ks [a,b]) (putX ks gs [a,b] m) where
 len:=putX_length g.len
 nd:=by
  unfold putKs
  split
  ·exact g.nd
  ·rename_i q
   rw [List.nodup_append]
   exact ⟨g.nd,by simp,fun x hx y hy=>by rw [List.mem_singleton.mp hy];exact fun z=>q (z▸hx)⟩
 key:=fun k hk=>by
  unfold putKs at hk
  split at hk
  ·exact g.key k hk
  ·rcases List.mem_append.mp hk with hk | hk
   ·exact g.key k hk
   ·exact ⟨a,b,List.mem_singleton.mp hk,ha,hab,hb⟩
 val:=fun x hx=>(putX_mem hx).elim (fun z=>z▸hm) (g.val x)
theorem putKs_le {ks:List (List Int)}{k:List Int}:(putKs ks k).length≤ks.length + 1:=by
 unfold putKs
 split <;> simp
noncomputable def valG:List (List Int)→List Int→List Int→Int
 | k' :: ks,g :: gs,k=>if k'=k then g else valG ks gs k
 | _,_,_=>1
theorem look_val:∀{ks:List (List Int)} {gs:List Int} {k:List Int},ks.length=gs.length→k∈ks→lookD ks (gs.map D.int) k=some (.int (valG ks gs k))
 | [],_,_,_,h=>by cases h
 | _ :: _,[],_,hl,_=>by simp at hl
 | k' :: ks,g :: gs,k,hl,h=>by
  simp only [List.map_cons,lookD,valG]
  split
  ·rfl
  ·rename_i q
   exact look_val (by simpa using hl) ((List.mem_cons.mp h).resolve_left fun z=>q z.symm)
theorem valG_ok {n:Int}{ks:List (List Int)}{gs:List Int}(g:∀x∈gs,1≤x∧x≤10 ^ 12)(k:List Int):1≤valG ks gs k∧valG ks gs k≤10 ^ 12:=by
 induction ks generalizing gs with
 | nil=>simp [valG]
 | cons k' ks ih=>
  cases gs with
  | nil=>simp [valG]
  | cons x gs=>
   simp only [valG]
   split
   ·exact g x List.mem_cons_self
   ·exact ih fun y hy=>g y (List.mem_cons_of_mem _ hy)
noncomputable def tieD (ks:List (List Int)) (gs:List Int) (k:List Int):D:=.tup (k.map D.int ++ [.int (valG ks gs k)])
theorem GM.good {n:Int}{ks:List (List Int)}{gs:List Int}(g:GM n ks gs)(h1:1≤n)(h8:n≤8)(hl:ks.length≤28):GoodW n ((sortK ks).map (tieD ks gs)) where
 lo:=h1
 hi:=h8
 len:=by rw [List.length_map,(sortK_perm ks).length_eq];exact hl
 tie:=fun t ht=>by
  obtain ⟨k,hk,rfl⟩:=List.mem_map.mp ht
  obtain ⟨a,b,rfl,h0,hab,hb⟩:=g.key k ((sortK_perm ks).mem_iff.mp hk)
  obtain ⟨v1,v2⟩:=valG_ok (n:=n) g.val [a,b] (ks:=ks)
  have e1:(a == b)=false:=by simp;(first|lia|omega)
  simp only [isTie,tieD,List.map_cons,List.map_nil,List.cons_append,List.nil_append,isTri,isPer,isGain,lt01,e1,Bool.not_false,Bool.and_true,Bool.and_eq_true,decide_eq_true_eq]
  (first|lia|omega)
 inc:=by
  have e:((sortK ks).map (tieD ks gs)).map key2=sortK ks:=by
   rw [List.map_map]
   refine (List.map_congr_left fun k hk=>?_).trans (List.map_id _)
   obtain ⟨a,b,rfl,_⟩:=g.key k ((sortK_perm ks).mem_iff.mp hk)
   rfl
  rw [e]
  have nd:(sortK ks).Nodup:=(sortK_perm ks).nodup_iff.mpr g.nd
  refine ((sortK_sorted ks).and nd).imp fun {a b} h=>?_
  cases q:HT.lexLt a b with
  | true=>rfl
  | false=>exact absurd (lex_tot a b q h.1) h.2
theorem pick_of {fa:FA}{ds:List D}{g:FE}{n:Int}{d:D}{ρ:Ev}(h1:fa ρ=some ds)(h2:ds.length≤lim)(h3:g ρ=some (.int n))(h4:atI ds n=some d):fPick fa g ρ=some d:=by
 unfold fPick
 rw [h1]
 simp only [Option.bind_some]
 rw [if_pos h2,h3]
 exact h4
theorem unDiv {i j':Nat}{g:FE}{ρ:Ev}{m j:Int}(h0:ρ[0]? =some (some (.int m)))(hg:g ρ=some (.int j))(hd:dOk j):fUnF [i,j'] (fCall kDivmod (fCons (fVar 0) (fCons g fNil))) ρ=some (.nx (setAll [i,j'] [.int (m / j),.int (m % j)] ρ)):=by
 have e:fCall kDivmod (fCons (fVar 0) (fCons g fNil)) ρ=some (.tup [.int (m / j),.int (m % j)]):=by
  simp only [fCall,fCons,fVar,fNil,h0,hg,Option.bind_some,Option.map_some,frz,kDivmod,hd,if_true]
 unfold fUnF
 rw [e]
 rfl
theorem at6 {Q:D→Prop}{a0 a1 a2 a3 a4 a5:D}{i:Int}(h0:0≤i)(h6:i < 6)(q0:Q a0)(q1:Q a1)(q2:Q a2)(q3:Q a3)(q4:Q a4)(q5:Q a5):∃d,atI [a0,a1,a2,a3,a4,a5] i=some d∧Q d:=by
 have z:i=0∨i=1∨i=2∨i=3∨i=4∨i=5:=by (first|lia|omega)
 rcases z with rfl | rfl | rfl | rfl | rfl | rfl
 ·exact ⟨_,rfl,q0⟩
 ·exact ⟨_,rfl,q1⟩
 ·exact ⟨_,rfl,q2⟩
 ·exact ⟨_,rfl,q3⟩
 ·exact ⟨_,rfl,q4⟩
 ·exact ⟨_,rfl,q5⟩
noncomputable def GoodPr (n:Int) (prs:List (List Int)):Prop:=∀k∈prs,∃a b:Int,k=[a,b]∧0≤a∧a < n∧0≤b∧b < n
noncomputable def Pp (n:Int) (d:D):Prop:=∃prs:List (List Int),d= .own (prs.map tupI)∧GoodPr n prs∧prs.length≤8
theorem pp_nil {n:Int}:Pp n (.own []):=⟨[],rfl,(fun _ h=>nomatch h),by simp⟩
theorem pp_of {n:Int}{m:Nat}{h:Nat→List Int}(hm:m≤8)(hh:∀i,i < m→∃a b:Int,h i=[a,b]∧0≤a∧a < n∧0≤b∧b < n):Pp n (.own ((List.range m).map fun i=>tupI (h i))):=
 ⟨(List.range m).map h,by rw [List.map_map];rfl,fun k hk=>by
   obtain ⟨i,hi,rfl⟩:=List.mem_map.mp hk
   exact hh i (List.mem_range.mp hi),by simp;exact hm⟩
theorem compR_of {fa:FA}{js:List (Option Nat)}{gf:D→Ev→Option Ev}{fe:FE}{ρ:Ev}{n:Int}{d:D}(hfa:fa ρ=some [.int n])(h:0≤n∧n≤1000)(hc:fCompL js gf (fun _=>some true) fe ((List.range n.toNat).map fun i=>.int (i:Nat)) ρ=some d):fCompR fa js gf (fun _=>some true) fe ρ=some d:=by
 unfold fCompR
 rw [hfa]
 simp only [Option.bind_some]
 rw [if_pos ⟨by (first|lia|omega),by (first|lia|omega)⟩]
 exact hc
theorem compR2_of {fa:FA}{js:List (Option Nat)}{gf:D→Ev→Option Ev}{fe:FE}{ρ:Ev}{lo n:Int}{d:D}(hfa:fa ρ=some [.int lo,.int n])(h:0≤n∧n≤1000∧0≤lo∧lo≤1000)(hc:fCompL js gf (fun _=>some true) fe ((List.range (n - lo).toNat).map fun i=>.int (lo + (i:Nat))) ρ=some d):fCompR2 fa js gf (fun _=>some true) fe ρ=some d:=by
 unfold fCompR2
 rw [hfa]
 simp only [Option.bind_some]
 rw [if_pos ⟨by (first|lia|omega),by (first|lia|omega),by (first|lia|omega),by (first|lia|omega)⟩]
 exact hc
section
variable {n:Int}{o0 o1 o3 o4 o5 o6 o7 o8 o9 o10 o11 o12 o13:Option D}
theorem w_ring (h1:1≤n)(h8:n≤8):∃d,fCompR (fCons (fVar 2) fNil) [none,some 2] (gfName 0) (fun x=>some true) (fTup (fCons (fVar 0) (fCons (fMod (fBin oAddT (fVar 0) (fC (D.int 1))) (fVar 1)) fNil))) [o0,o1,some (.int n),o3,o4,o5,o6,o7,o8,o9,o10,o11,o12,o13]=some d∧Pp n d:=by
 have np:0 < n:=by (first|lia|omega)
 refine ⟨.own ((List.range n.toNat).map fun i=>tupI [((i:Nat):Int),(((i:Nat):Int) + 1) % n]),compR_of rfl ⟨by (first|lia|omega),by (first|lia|omega)⟩ (compL_map (js:=[none,some 2]) (fun ρ=>∃o,ρ=[o,some (.int n)]) (fun i=>.int ((i:Nat):Int)) (fun i=>tupI [((i:Nat):Int),(((i:Nat):Int) + 1) % n]) ⟨_,rfl⟩ (by rintro ρ ⟨o,rfl⟩;rfl) ?_ (by rw [List.length_range];exact Nat.le_trans (show n.toNat≤8 by (first|lia|omega)) (by decide))),pp_of (h:=fun i=>[((i:Nat):Int),(((i:Nat):Int) + 1) % n]) (by (first|lia|omega)) fun i hi=>⟨_,_,rfl,by (first|lia|omega),by (first|lia|omega),Int.emod_nonneg _ (by (first|lia|omega)),Int.emod_lt_of_pos _ np⟩⟩
 rintro i hi ρ zs ⟨o,rfl⟩
 refine ⟨[some (.int ((i:Nat):Int)),some (.int n)],⟨_,rfl⟩,rfl,?_,rfl⟩
 simp only [tupI,List.map_cons,List.map_nil]
 repeat (first | walk_at "tw r" | simp only [np,lims])
theorem w_path (h1:1≤n)(h8:n≤8):∃d,fCompR (fCons (fSub (fVar 2) (fC (D.int 1))) fNil) [none] (gfName 0) (fun x=>some true) (fTup (fCons (fVar 0) (fCons (fBin oAddT (fVar 0) (fC (D.int 1))) fNil))) [o0,o1,some (.int n),o3,o4,o5,o6,o7,o8,o9,o10,o11,o12,o13]=some d∧Pp n d:=by
 refine ⟨.own ((List.range (n - 1).toNat).map fun i=>tupI [((i:Nat):Int),((i:Nat):Int) + 1]),compR_of rfl ⟨by (first|lia|omega),by (first|lia|omega)⟩ (compL_map (js:=[none]) (fun ρ=>∃o,ρ=[o]) (fun i=>.int ((i:Nat):Int)) (fun i=>tupI [((i:Nat):Int),((i:Nat):Int) + 1]) ⟨_,rfl⟩ (by rintro ρ ⟨o,rfl⟩;rfl) ?_ (by rw [List.length_range];exact Nat.le_trans (show (n - 1).toNat≤8 by (first|lia|omega)) (by decide))),pp_of (h:=fun i=>[((i:Nat):Int),((i:Nat):Int) + 1]) (by (first|lia|omega)) fun i hi=>⟨_,_,rfl,by (first|lia|omega),by (first|lia|omega),by (first|lia|omega),by (first|lia|omega)⟩⟩
 rintro i hi ρ zs ⟨o,rfl⟩
 refine ⟨[some (.int ((i:Nat):Int))],⟨_,rfl⟩,rfl,?_,rfl⟩
 simp only [tupI,List.map_cons,List.map_nil]
 repeat (first | walk_at "tw r" | simp only [lims])
theorem w_star (h1:1≤n)(h8:n≤8):∃d,fCompR2 (fCons (fC (D.int 1)) (fCons (fVar 2) fNil)) [none] (gfName 0) (fun x=>some true) (fTup (fCons (fC (D.int 0)) (fCons (fVar 0) fNil))) [o0,o1,some (.int n),o3,o4,o5,o6,o7,o8,o9,o10,o11,o12,o13]=some d∧Pp n d:=by
 refine ⟨.own ((List.range (n - 1).toNat).map fun i=>tupI [0,1 + ((i:Nat):Int)]),compR2_of rfl ⟨by (first|lia|omega),by (first|lia|omega),by (first|lia|omega),by (first|lia|omega)⟩ (compL_map (js:=[none]) (fun ρ=>∃o,ρ=[o]) (fun i=>.int (1 + ((i:Nat):Int))) (fun i=>tupI [0,1 + ((i:Nat):Int)]) ⟨_,rfl⟩ (by rintro ρ ⟨o,rfl⟩;rfl) ?_ (by rw [List.length_range];exact Nat.le_trans (show (n - 1).toNat≤8 by (first|lia|omega)) (by decide))),pp_of (h:=fun i=>[0,1 + ((i:Nat):Int)]) (by (first|lia|omega)) fun i hi=>⟨_,_,rfl,by (first|lia|omega),by (first|lia|omega),by (first|lia|omega),by (first|lia|omega)⟩⟩
 rintro i hi ρ zs ⟨o,rfl⟩
 refine ⟨[some (.int (1 + ((i:Nat):Int)))],⟨_,rfl⟩,rfl,?_,rfl⟩
 simp only [tupI,List.map_cons,List.map_nil]
 repeat (first | walk_at "tw r" | simp only [lims])
theorem w_tree (h1:1≤n)(h8:n≤8):∃d,fCompR (fCons (fSub (fVar 2) (fC (D.int 1))) fNil) [none] (gfName 0) (fun x=>some true) (fTup (fCons (fDiv (fVar 0) (fC (D.int 2))) (fCons (fBin oAddT (fVar 0) (fC (D.int 1))) fNil))) [o0,o1,some (.int n),o3,o4,o5,o6,o7,o8,o9,o10,o11,o12,o13]=some d∧Pp n d:=by
 have d2:dOk 2:=dOk_small (by decide) (by decide)
 refine ⟨.own ((List.range (n - 1).toNat).map fun i=>tupI [((i:Nat):Int) / 2,((i:Nat):Int) + 1]),compR_of rfl ⟨by (first|lia|omega),by (first|lia|omega)⟩ (compL_map (js:=[none]) (fun ρ=>∃o,ρ=[o]) (fun i=>.int ((i:Nat):Int)) (fun i=>tupI [((i:Nat):Int) / 2,((i:Nat):Int) + 1]) ⟨_,rfl⟩ (by rintro ρ ⟨o,rfl⟩;rfl) ?_ (by rw [List.length_range];exact Nat.le_trans (show (n - 1).toNat≤8 by (first|lia|omega)) (by decide))),pp_of (h:=fun i=>[((i:Nat):Int) / 2,((i:Nat):Int) + 1]) (by (first|lia|omega)) fun i hi=>⟨_,_,rfl,by (first|lia|omega),by (first|lia|omega),by (first|lia|omega),by (first|lia|omega)⟩⟩
 rintro i hi ρ zs ⟨o,rfl⟩
 refine ⟨[some (.int ((i:Nat):Int))],⟨_,rfl⟩,rfl,?_,rfl⟩
 simp only [tupI,List.map_cons,List.map_nil]
 repeat (first | walk_at "tw r" | simp only [d2,lims])
end
theorem fcons_of {f:FE}{fa:FA}{ρ:Ev}{d:D}{ds:List D}(h:f ρ=some d)(t:fa ρ=some ds):fCons f fa ρ=some (d :: ds):=by
 unfold fCons
 rw [h,t]
 rfl
theorem kind_of {kd bs:Int}(h0:0≤kd)(h5:kd < 5)(b0:0≤bs):∃j:Int,0 < j∧j≤10 ^ 12∧atI [D.int 4,.int 1,.int 3,.int (10 ^ 12),.int 2] kd=some (.int j)∧∀mo:Int,0≤mo→mo < j→∃g:Int,1≤g∧g≤10 ^ 12∧atI [D.int (1 + mo),.int (1 + bs % 7),.int (if 1 + bs + mo < 10 ^ 12 then 1 + bs + mo else 10 ^ 12),.int (1 + mo),.int (10 ^ 12 - mo)] kd=some (.int g):=by
 have z:kd=0∨kd=1∨kd=2∨kd=3∨kd=4:=by (first|lia|omega)
 rcases z with rfl | rfl | rfl | rfl | rfl
 ·exact ⟨4,by decide,by decide,rfl,fun mo h1 h2=>⟨1 + mo,by (first|lia|omega),by (first|lia|omega),rfl⟩⟩
 ·exact ⟨1,by decide,by decide,rfl,fun mo h1 h2=>⟨1 + bs % 7,by (first|lia|omega),by (first|lia|omega),rfl⟩⟩
 ·exact ⟨3,by decide,by decide,rfl,fun mo h1 h2=>⟨if 1 + bs + mo < 10 ^ 12 then 1 + bs + mo else 10 ^ 12,by split <;> (first|lia|omega),by split <;> (first|lia|omega),rfl⟩⟩
 ·exact ⟨10 ^ 12,by decide,by decide,rfl,fun mo h1 h2=>⟨1 + mo,by (first|lia|omega),by (first|lia|omega),rfl⟩⟩
 ·exact ⟨2,by decide,by decide,rfl,fun mo h1 h2=>⟨10 ^ 12 - mo,by (first|lia|omega),by (first|lia|omega),rfl⟩⟩
theorem scLWeb:FnScope ["number","most","people","way","kind","base","count","pairs","k","one","other","gains_v","more","gain"] ["number","most"] (defScope sLWeb):=⟨rfl,rfl,rfl,by decide +kernel,rfl,by decide +kernel,by decide +kernel⟩
noncomputable def LWebSpec (g:List D→Option D):Prop:=∀m most:Int,0≤m→1≤most→most≤8→∃(n:Int) (ts:List D) (r:Int),(GoodW n ts∧0≤r)∧g [.int m,.int most]=some (.tup [.tup [.int n,.tup ts],.int r])
theorem fn_lweb (mr:mg "range"=none)(md:mg "divmod"=none)(mi:mg "min"=none)(mx:mg "max"=none)(mt:mg "tuple"=none)(ms:mg "sorted"=none)(F:Fun K "_law_web" "_law_web" sLWeb f fd)(B:Binds K fd ["number","most"] [])(hm:mg "_law_web"=some (.ref f)):∃g,Fn P w K mg base "_law_web" (k + 1) g∧LWebSpec g:=by
 have nd:=scLWeb.nd
 refine ⟨_,fn_mk F scLWeb B hm rfl rfl (fun cdv A outer s H E hr=>(by walk_at "tw ss":QSs _ _ _).to),fun m most m0 s1 s8=>?_⟩
 have lb:1000≤lim:=by decide
 have d6:dOk 6:=dOk_small (by decide) (by decide)
 have d5:dOk 5:=dOk_small (by decide) (by decide)
 have dt:dOk (10 ^ 12):=dOk_small (by decide) (by decide)
 have dm:dOk most:=dOk_small (by (first|lia|omega)) (Nat.lt_of_le_of_lt (show most.natAbs≤8 by (first|lia|omega)) (by decide))
 have c1:CPow 10 12:=cp (by decide) (by decide)
 have t0:(12:Int).toNat=12:=rfl
 have pw:∀ρ:Ev,fPow (fC (D.int 10)) (fC (D.int 12)) ρ=some (.int (10 ^ 12)):=fun ρ=>by
  repeat (first | walk_at "tw r" | simp only [c1,t0])
 refine ends_ex3 (t:=fun n ts r=>.tup [.tup [.int n,.tup ts],.int r]) rfl ?_
 change Tw.Ends (fThen _ _ [some (.int m),some (.int most),none,none,none,none,none,none,none,none,none,none,none,none]) _
 refine ends_eq [some (.int (m / most)),some (.int most),some (.int (m % most)),none,none,none,none,none,none,none,none,none,none,none] (unDiv rfl rfl dm) ?_
 have n1:1≤m % most + 1:=by have:=Int.emod_nonneg m (show most≠0 by (first|lia|omega));(first|lia|omega)
 have n8:m % most + 1≤8:=by have:=Int.emod_lt_of_pos m (show 0 < most by (first|lia|omega));(first|lia|omega)
 have r0:0≤m / most:=Int.ediv_nonneg m0 (by (first|lia|omega))
 refine ends_eq [some (.int (m / most)),some (.int most),some (.int (m % most + 1)),none,none,none,none,none,none,none,none,none,none,none] rfl ?_
 generalize m % most + 1=n at n1 n8
 generalize m / most=r at r0
 refine ends_eq [some (.int (r / 6)),some (.int most),some (.int n),some (.int (r % 6)),none,none,none,none,none,none,none,none,none,none] (unDiv rfl rfl d6) ?_
 have wy0:0≤r % 6:=by (first|lia|omega)
 have wy6:r % 6 < 6:=by (first|lia|omega)
 have r1:0≤r / 6:=by (first|lia|omega)
 generalize r % 6=wy at wy0 wy6
 generalize r / 6=r' at r1
 refine ends_eq [some (.int (r' / 5)),some (.int most),some (.int n),some (.int wy),some (.int (r' % 5)),none,none,none,none,none,none,none,none,none] (unDiv rfl rfl d5) ?_
 have kd0:0≤r' % 5:=by (first|lia|omega)
 have kd5:r' % 5 < 5:=by (first|lia|omega)
 have r2:0≤r' / 5:=by (first|lia|omega)
 generalize r' % 5=kd at kd0 kd5
 generalize r' / 5=r'' at r2
 refine ends_eq [some (.int (r'' / 10 ^ 12)),some (.int most),some (.int n),some (.int wy),some (.int kd),some (.int (r'' % 10 ^ 12)),none,none,none,none,none,none,none,none] (unDiv rfl (pw _) dt) ?_
 have bs0:0≤r'' % 10 ^ 12:=Int.emod_nonneg _ (by decide)
 have r3:0≤r'' / 10 ^ 12:=Int.ediv_nonneg r2 (by decide)
 generalize r'' % 10 ^ 12=bs at bs0
 generalize r'' / 10 ^ 12=q at r3
 obtain ⟨_,ec,cn,rfl,cn1,cn18⟩:=at6 (Q:=fun d=>∃c:Int,d= .int c∧1≤c∧c≤18) (a0:=.int (2 * n + 2)) (a1:=.int 3) (a2:=.int 3) (a3:=.int (2 * n)) (a4:=.int 3) (a5:=.int 3) wy0 wy6 ⟨_,rfl,by (first|lia|omega),by (first|lia|omega)⟩ ⟨_,rfl,by (first|lia|omega),by (first|lia|omega)⟩ ⟨_,rfl,by (first|lia|omega),by (first|lia|omega)⟩ ⟨_,rfl,by (first|lia|omega),by (first|lia|omega)⟩ ⟨_,rfl,by (first|lia|omega),by (first|lia|omega)⟩ ⟨_,rfl,by (first|lia|omega),by (first|lia|omega)⟩
 have dc:dOk cn:=dOk_small (by (first|lia|omega)) (Nat.lt_of_le_of_lt (show cn.natAbs≤18 by (first|lia|omega)) (by decide))
 have m2:mOk 2 n:=mOkL (by decide)
 refine ends_eq [some (.int (q / cn)),some (.int most),some (.int n),some (.int wy),some (.int kd),some (.int bs),some (.int (q % cn)),none,none,none,none,none,none,none] (unDiv rfl (pick_of (ds:=[.int (2 * n + 2),.int 3,.int 3,.int (2 * n),.int 3,.int 3]) (by repeat (first | walk_at "tw r" | simp only [m2])) (show 6≤lim by decide) rfl ec) dc) ?_
 have ct0:0≤q % cn:=Int.emod_nonneg _ (by (first|lia|omega))
 have ct1:q % cn < 18:=by have:=Int.emod_lt_of_pos q (show 0 < cn by (first|lia|omega));(first|lia|omega)
 have q0:0≤q / cn:=Int.ediv_nonneg r3 (by (first|lia|omega))
 generalize q % cn=ct at ct0 ct1
 generalize q / cn=q' at q0
 obtain ⟨p1,ep1,pp1⟩:=w_ring n1 n8 (o0:=some (.int q')) (o1:=some (.int most)) (o3:=some (.int wy)) (o4:=some (.int kd)) (o5:=some (.int bs)) (o6:=some (.int ct)) (o7:=none) (o8:=none) (o9:=none) (o10:=none) (o11:=none) (o12:=none) (o13:=none)
 obtain ⟨p2,ep2,pp2⟩:=w_path n1 n8 (o0:=some (.int q')) (o1:=some (.int most)) (o3:=some (.int wy)) (o4:=some (.int kd)) (o5:=some (.int bs)) (o6:=some (.int ct)) (o7:=none) (o8:=none) (o9:=none) (o10:=none) (o11:=none) (o12:=none) (o13:=none)
 obtain ⟨p4,ep4,pp4⟩:=w_star n1 n8 (o0:=some (.int q')) (o1:=some (.int most)) (o3:=some (.int wy)) (o4:=some (.int kd)) (o5:=some (.int bs)) (o6:=some (.int ct)) (o7:=none) (o8:=none) (o9:=none) (o10:=none) (o11:=none) (o12:=none) (o13:=none)
 obtain ⟨p5,ep5,pp5⟩:=w_tree n1 n8 (o0:=some (.int q')) (o1:=some (.int most)) (o3:=some (.int wy)) (o4:=some (.int kd)) (o5:=some (.int bs)) (o6:=some (.int ct)) (o7:=none) (o8:=none) (o9:=none) (o10:=none) (o11:=none) (o12:=none) (o13:=none)
 obtain ⟨_,ed,prs,rfl,gp,pl⟩:=at6 (Q:=Pp n) wy0 wy6 (pp_nil (n:=n)) pp1 pp2 (pp_nil (n:=n)) pp4 pp5
 have fpr:=lfL_tups prs
 refine ends_eq [some (.int q'),some (.int most),some (.int n),some (.int wy),some (.int kd),some (.int bs),some (.int ct),some (.own (prs.map tupI)),none,none,none,none,none,none] ?_ ?_
 ·unfold fAsg
  rw [pick_of (ds:=[D.own [],p1,p2,.own [],p4,p5]) (fcons_of rfl (fcons_of ep1 (fcons_of ep2 (fcons_of rfl (fcons_of ep4 (fcons_of ep5 rfl)))))) (show 6≤lim by decide) rfl ed]
  simp only [Option.map_some,bindD,lf,fpr,if_true,Bool.false_eq_true,if_false,List.set_cons_zero,List.set_cons_succ]
 refine ends_then (fun ρ=>∃prs:List (List Int),(GoodPr n prs∧prs.length≤9)∧ρ=[some (.int q'),some (.int most),some (.int n),some (.int wy),some (.int kd),some (.int bs),some (.int ct),some (.own (prs.map tupI)),none,none,none,none,none,none]) ?_ ?_
 ·have lp:(prs.map tupI).length < lim:=by rw [List.length_map];(first|lia|omega)
  by_cases w5:wy=5
  ·have w5':(wy == 5)=true:=by simpa using w5
   by_cases n2:n > 2
   ·refine ⟨_,?_,prs ++ [[1,2]],⟨fun k hk=>(List.mem_append.mp hk).elim (gp k) fun z=>⟨1,2,List.mem_singleton.mp z,by (first|lia|omega),by (first|lia|omega),by (first|lia|omega),by (first|lia|omega)⟩,by rw [List.length_append,List.length_singleton];(first|lia|omega)⟩,rfl⟩
    rw [List.map_append,List.map_cons,List.map_nil]
    simp only [tupI,List.map_cons,List.map_nil]
    change _=some (R.nx [_,_,_,_,_,_,_,some (.own (prs.map tupI ++ _)),_,_,_,_,_,_])
    generalize prs.map tupI=pm at lp
    repeat (first | walk_at "tw r" | simp only [w5',n2,lp,lims])
   ·refine ⟨_,?_,prs,⟨gp,by (first|lia|omega)⟩,rfl⟩
    generalize prs.map tupI=pm at lp
    repeat (first | walk_at "tw r" | simp only [w5',n2,lp,lims])
  ·have w5':(wy == 5)=false:=by simpa using w5
   refine ⟨_,?_,prs,⟨gp,by (first|lia|omega)⟩,rfl⟩
   generalize prs.map tupI=pm at lp
   repeat (first | walk_at "tw r" | simp only [w5',lims])
 clear fpr gp pl ed
 rintro ρ ⟨prs,⟨gp,pl⟩,rfl⟩
 have dn:dOk n:=dOk_small (by (first|lia|omega)) (Nat.lt_of_le_of_lt (show n.natAbs≤8 by (first|lia|omega)) (by decide))
 have np:0 < n:=by (first|lia|omega)
 have z2:(0:Int) < 2:=by decide
 refine ends_then (fun ρ=>∃(r:Int) (prs:List (List Int)) (o8 o9 o10:Option D),(0≤r∧GoodPr n prs∧prs.length≤28)∧ρ=[some (.int r),some (.int most),some (.int n),some (.int wy),some (.int kd),some (.int bs),some (.int ct),some (.own (prs.map tupI)),o8,o9,o10,none,none,none]) ?_ ?_
 ·refine forR_ex ct (fun i ρ=>∃(r:Int) (prs:List (List Int)) (o8 o9 o10:Option D),(0≤r∧GoodPr n prs∧prs.length≤9 + i)∧ρ=[some (.int r),some (.int most),some (.int n),some (.int wy),some (.int kd),some (.int bs),some (.int ct),some (.own (prs.map tupI)),o8,o9,o10,none,none,none]) rfl ⟨by (first|lia|omega),by (first|lia|omega)⟩ ⟨q',prs,none,none,none,⟨q0,gp,by (first|lia|omega)⟩,rfl⟩ ?_ ?_
  ·rintro i ρ hi ⟨r,prs,o8,o9,o10,⟨r0,gp,pl⟩,rfl⟩
   refine turn_then rfl (fun ρ=>ρ=[some (.int (r / n)),some (.int most),some (.int n),some (.int wy),some (.int kd),some (.int bs),some (.int ct),some (.own (prs.map tupI)),some (.int ((i:Nat):Int)),some (.int (r % n)),o10,none,none,none]) ⟨_,unDiv rfl rfl dn,rfl⟩ ?_
   rintro ρ rfl
   have a0:0≤r % n:=Int.emod_nonneg _ (by (first|lia|omega))
   have a1:r % n < n:=Int.emod_lt_of_pos _ np
   have r1:0≤r / n:=Int.ediv_nonneg r0 (by (first|lia|omega))
   generalize r % n=a at a0 a1
   generalize r / n=r' at r1
   refine nx_eq [some (.int (r' / n)),some (.int most),some (.int n),some (.int wy),some (.int kd),some (.int bs),some (.int ct),some (.own (prs.map tupI)),some (.int ((i:Nat):Int)),some (.int a),some (.int (r' % n)),none,none,none] (unDiv rfl rfl dn) ?_
   have b0:0≤r' % n:=Int.emod_nonneg _ (by (first|lia|omega))
   have b1:r' % n < n:=Int.emod_lt_of_pos _ np
   have r2:0≤r' / n:=Int.ediv_nonneg r1 (by (first|lia|omega))
   generalize r' % n=b at b0 b1
   generalize r' / n=r'' at r2
   have lp:(prs.map tupI).length < lim:=by rw [List.length_map];(first|lia|omega)
   have put:∃ρ2,fApp 7 (fTup (fCons (fVar 9) (fCons (fVar 10) fNil))) [some (.int r''),some (.int most),some (.int n),some (.int wy),some (.int kd),some (.int bs),some (.int ct),some (.own (prs.map tupI)),some (.int ((i:Nat):Int)),some (.int a),some (.int b),none,none,none]=some (.nx ρ2)∧∃(r:Int) (prs:List (List Int)) (o8 o9 o10:Option D),(0≤r∧GoodPr n prs∧prs.length≤9 + (i + 1))∧ρ2=[some (.int r),some (.int most),some (.int n),some (.int wy),some (.int kd),some (.int bs),some (.int ct),some (.own (prs.map tupI)),o8,o9,o10,none,none,none]:=by
    refine ⟨_,?_,r'',prs ++ [[a,b]],some (.int ((i:Nat):Int)),some (.int a),some (.int b),⟨r2,fun k hk=>(List.mem_append.mp hk).elim (gp k) fun z=>⟨a,b,List.mem_singleton.mp z,a0,a1,b0,b1⟩,by rw [List.length_append,List.length_singleton];(first|lia|omega)⟩,rfl⟩
    rw [List.map_append,List.map_cons,List.map_nil]
    simp only [tupI,List.map_cons,List.map_nil]
    change _=some (R.nx [_,_,_,_,_,_,_,some (.own (prs.map tupI ++ _)),_,_,_,_,_,_])
    generalize prs.map tupI=pm at lp
    repeat (first | walk_at "tw r" | simp only [lp,lims])
   have test:∃t:Bool,fOr (fTest (fBin (oEqN true) (fVar 3) (fC (D.int 3)))) (fTest (fBin (oEqN false) (fMod (fBin oAddT (fVar 9) (fVar 10)) (fC (D.int 2))) (fC (D.int 1)))) [some (.int r''),some (.int most),some (.int n),some (.int wy),some (.int kd),some (.int bs),some (.int ct),some (.own (prs.map tupI)),some (.int ((i:Nat):Int)),some (.int a),some (.int b),none,none,none]=some t:=by
    generalize prs.map tupI=pm
    cases w3:wy == 3 with
    | false=>exact ⟨true,by repeat (first | walk_at "tw r" | simp only [w3])⟩
    | true=>exact ⟨(a + b) % 2 == 1,by repeat (first | walk_at "tw r" | simp only [w3,z2])⟩
   obtain ⟨t,et⟩:=test
   unfold fIfS
   rw [et]
   cases t with
   | true=>exact put
   | false=>exact ⟨_,rfl,r'',prs,_,_,_,⟨r2,gp,by (first|lia|omega)⟩,rfl⟩
  ·rintro ρ ⟨r,prs,o8,o9,o10,⟨r0,gp,pl⟩,rfl⟩
   exact ⟨r,prs,o8,o9,o10,⟨r0,gp,by (first|lia|omega)⟩,rfl⟩
 clear gp pl prs
 rintro ρ ⟨r,prs,o8,o9,o10,⟨r0,gp,pl⟩,rfl⟩
 refine ends_eq [some (.int r),some (.int most),some (.int n),some (.int wy),some (.int kd),some (.int bs),some (.int ct),some (.own (prs.map tupI)),o8,o9,o10,some (.odt [] []),none,none] ?_ ?_
 ·generalize prs.map tupI=pm
  repeat (first | walk_at "tw r")
 refine ends_then (fun ρ=>∃(r:Int) (ks:List (List Int)) (gs:List Int) (o9 o10 o12 o13:Option D),(0≤r∧GM n ks gs∧ks.length≤28)∧ρ=[some (.int r),some (.int most),some (.int n),some (.int wy),some (.int kd),some (.int bs),some (.int ct),some (.lst (prs.map tupI)),o8,o9,o10,some (.odt ks (gs.map D.int)),o12,o13]) ?_ ?_
 ·have fpr:=lfL_tups prs
  have lpr:=List.length_map (as:=prs) tupI
  have go:=loopF_inv (b:=turnF (gfTup [9,10]) (fIfS (fTest (fBin (oEqN true) (fVar 9) (fVar 10))) (fThen (fUnF [0,12] (fCall kDivmod (fCons (fVar 0) (fCons (fPick (fCons (fC (D.int 4)) (fCons (fC (D.int 1)) (fCons (fC (D.int 3)) (fCons (fPow (fC (D.int 10)) (fC (D.int 12))) (fCons (fC (D.int 2)) fNil))))) (fVar 4)) fNil)))) (fThen (fAsg 13 (fPick (fCons (fBin oAddT (fC (D.int 1)) (fVar 12)) (fCons (fBin oAddT (fC (D.int 1)) (fMod (fVar 5) (fC (D.int 7)))) (fCons (fCall kMin (fCons (fPow (fC (D.int 10)) (fC (D.int 12))) (fCons (fBin oAddT (fBin oAddT (fC (D.int 1)) (fVar 5)) (fVar 12)) fNil))) (fCons (fBin oAddT (fC (D.int 1)) (fVar 12)) (fCons (fSub (fPow (fC (D.int 10)) (fC (D.int 12))) (fVar 12)) fNil))))) (fVar 4))) (fDPut 11 (fCons (fCall kMin (fCons (fVar 9) (fCons (fVar 10) fNil))) (fCons (fCall kMax (fCons (fVar 9) (fCons (fVar 10) fNil))) fNil)) (fVar 13)))) fun ρ=>some (R.nx ρ)))
   (fun i ρ=>∃(r:Int) (ks:List (List Int)) (gs:List Int) (o9 o10 o12 o13:Option D),(0≤r∧GM n ks gs∧ks.length≤i)∧ρ=[some (.int r),some (.int most),some (.int n),some (.int wy),some (.int kd),some (.int bs),some (.int ct),some (.lst (prs.map tupI)),o8,o9,o10,some (.odt ks (gs.map D.int)),o12,o13])
   (prs.map tupI) 0 [some (.int r),some (.int most),some (.int n),some (.int wy),some (.int kd),some (.int bs),some (.int ct),some (.lst (prs.map tupI)),o8,o9,o10,some (.odt [] []),none,none]
   ⟨r,[],[],o9,o10,none,none,⟨r0,⟨rfl,List.nodup_nil,(fun _ h=>nomatch h),(fun _ h=>nomatch h)⟩,Nat.le_refl _⟩,rfl⟩ (by
   rintro i x ρ hx ⟨r,ks,gs,o9,o10,o12,o13,⟨r0,gm,kl⟩,rfl⟩
   rw [Nat.zero_add] at kl ⊢
   obtain ⟨il,_⟩:=List.getElem?_eq_some_iff.mp hx
   obtain ⟨kk,hkk,rfl⟩:=List.mem_map.mp (List.mem_of_getElem? hx)
   obtain ⟨a,b,rfl,a0,a1,b0,b1⟩:=gp kk hkk
   have g1:gfTup [9,10] (tupI [a,b]) [some (.int r),some (.int most),some (.int n),some (.int wy),some (.int kd),some (.int bs),some (.int ct),some (.lst (prs.map tupI)),o8,o9,o10,some (.odt ks (gs.map D.int)),o12,o13]=some [some (.int r),some (.int most),some (.int n),some (.int wy),some (.int kd),some (.int bs),some (.int ct),some (.lst (prs.map tupI)),o8,some (.int a),some (.int b),some (.odt ks (gs.map D.int)),o12,o13]:=rfl
   unfold turnF
   rw [g1]
   generalize prs.map tupI=pm
   simp only [Option.bind_some]
   unfold fIfS
   by_cases ab:a=b
   ·have ab':(a == b)=true:=by simpa using ab
    have te:fTest (fBin (oEqN true) (fVar 9) (fVar 10)) [some (.int r),some (.int most),some (.int n),some (.int wy),some (.int kd),some (.int bs),some (.int ct),some (.lst pm),o8,some (.int a),some (.int b),some (.odt ks (gs.map D.int)),o12,o13]=some false:=by
     repeat (first | walk_at "tw r" | simp only [ab'])
    rw [te]
    exact ⟨_,.inl rfl,r,ks,gs,_,_,_,_,⟨r0,gm,by (first|lia|omega)⟩,rfl⟩
   ·have ab':(a == b)=false:=by simpa using ab
    have te:fTest (fBin (oEqN true) (fVar 9) (fVar 10)) [some (.int r),some (.int most),some (.int n),some (.int wy),some (.int kd),some (.int bs),some (.int ct),some (.lst pm),o8,some (.int a),some (.int b),some (.odt ks (gs.map D.int)),o12,o13]=some true:=by
     repeat (first | walk_at "tw r" | simp only [ab'])
    rw [te]
    simp only [Option.bind_some,if_true]
    obtain ⟨j,j0,j1,ej,gj⟩:=kind_of kd0 kd5 bs0
    have dj:dOk j:=dOk_small j0 (Nat.lt_of_le_of_lt (show j.natAbs≤10 ^ 12 by (first|lia|omega)) (by decide))
    obtain ⟨g,g0,g1,eg⟩:=gj (r % j) (Int.emod_nonneg _ (by (first|lia|omega))) (Int.emod_lt_of_pos _ j0)
    have z7:(0:Int) < 7:=by decide
    have r1:0≤r / j:=Int.ediv_nonneg r0 (by (first|lia|omega))
    have lk:ks.length < lim:=by (first|lia|omega)
    have fin:∃ρ',(fThen (fUnF [0,12] (fCall kDivmod (fCons (fVar 0) (fCons (fPick (fCons (fC (D.int 4)) (fCons (fC (D.int 1)) (fCons (fC (D.int 3)) (fCons (fPow (fC (D.int 10)) (fC (D.int 12))) (fCons (fC (D.int 2)) fNil))))) (fVar 4)) fNil)))) (fThen (fAsg 13 (fPick (fCons (fBin oAddT (fC (D.int 1)) (fVar 12)) (fCons (fBin oAddT (fC (D.int 1)) (fMod (fVar 5) (fC (D.int 7)))) (fCons (fCall kMin (fCons (fPow (fC (D.int 10)) (fC (D.int 12))) (fCons (fBin oAddT (fBin oAddT (fC (D.int 1)) (fVar 5)) (fVar 12)) fNil))) (fCons (fBin oAddT (fC (D.int 1)) (fVar 12)) (fCons (fSub (fPow (fC (D.int 10)) (fC (D.int 12))) (fVar 12)) fNil))))) (fVar 4))) (fDPut 11 (fCons (fCall kMin (fCons (fVar 9) (fCons (fVar 10) fNil))) (fCons (fCall kMax (fCons (fVar 9) (fCons (fVar 10) fNil))) fNil)) (fVar 13))) [some (.int r),some (.int most),some (.int n),some (.int wy),some (.int kd),some (.int bs),some (.int ct),some (.lst pm),o8,some (.int a),some (.int b),some (.odt ks (gs.map D.int)),o12,o13]=some (.nx ρ'))∧∃(r:Int) (ks:List (List Int)) (gs:List Int) (o9 o10 o12 o13:Option D),(0≤r∧GM n ks gs∧ks.length≤i + 1)∧ρ'=[some (.int r),some (.int most),some (.int n),some (.int wy),some (.int kd),some (.int bs),some (.int ct),some (.lst pm),o8,o9,o10,some (.odt ks (gs.map D.int)),o12,o13]:=by
     refine nx_eq [some (.int (r / j)),some (.int most),some (.int n),some (.int wy),some (.int kd),some (.int bs),some (.int ct),some (.lst pm),o8,some (.int a),some (.int b),some (.odt ks (gs.map D.int)),some (.int (r % j)),o13] (unDiv rfl (pick_of (fcons_of rfl (fcons_of rfl (fcons_of rfl (fcons_of (pw _) (fcons_of rfl rfl))))) (show 5≤lim by decide) rfl ej) dj) ?_
     generalize r % j=mo at eg
     generalize r / j=r' at r1
     refine nx_eq [some (.int r'),some (.int most),some (.int n),some (.int wy),some (.int kd),some (.int bs),some (.int ct),some (.lst pm),o8,some (.int a),some (.int b),some (.odt ks (gs.map D.int)),some (.int mo),some (.int g)] ?_ ?_
     ·unfold fAsg
      rw [pick_of (ds:=[D.int (1 + mo),.int (1 + bs % 7),.int (if 1 + bs + mo < 10 ^ 12 then 1 + bs + mo else 10 ^ 12),.int (1 + mo),.int (10 ^ 12 - mo)]) (fcons_of rfl (fcons_of (by repeat (first | walk_at "tw r" | simp only [z7])) (fcons_of (by repeat (first | walk_at "tw r" | simp only [c1,t0])) (fcons_of rfl (fcons_of (by repeat (first | walk_at "tw r" | simp only [c1,t0])) rfl))))) (show 5≤lim by decide) rfl eg]
      rfl
     refine ⟨_,?_,r',putKs ks [if b < a then b else a,if b > a then b else a],putX ks gs [if b < a then b else a,if b > a then b else a] g,some (.int a),some (.int b),some (.int mo),some (.int g),⟨r1,gm.put (by split <;> (first|lia|omega)) (by split <;> split <;> (first|lia|omega)) (by split <;> (first|lia|omega)) ⟨g0,g1⟩,Nat.le_trans putKs_le (by (first|lia|omega))⟩,rfl⟩
     repeat (first | walk_at "tw r" | simp only [lk,lims,putX_map])
    obtain ⟨ρ',e,h⟩:=fin
    exact ⟨ρ',.inl e,h⟩)
  obtain ⟨ρ',el,r,ks,gs,o9',o10',o12,o13,⟨r0',gm,kl⟩,rfl⟩:=go
  refine ⟨_,?_,r,ks,gs,o9',o10',o12,o13,⟨r0',gm,by rw [lpr] at kl;(first|lia|omega)⟩,rfl⟩
  unfold fForO
  simp only [List.getElem?_cons_succ,List.getElem?_cons_zero]
  rw [if_pos fpr]
  exact el
 clear gp pl r0 r
 rintro ρ ⟨r,ks,gs,o9,o10,o12,o13,⟨r0,gm,hk⟩,rfl⟩
 generalize some (D.lst (prs.map tupI))=o7
 have l64:ks.length < 64∧(∀k∈ks,k≠[]):=⟨by (first|lia|omega),fun k hk=>by obtain ⟨a,b,rfl,_⟩:=gm.key k hk;exact fun z=>nomatch z⟩
 have lft:=lfL_tups (sortK ks)
 have cl:=compL_map (js:=[none,none,some 11]) (gf:=gfTup [0,1]) (fe:=fTup (fCons (fVar 0) (fCons (fVar 1) (fCons (fBin oIxD (fVar 2) (fTup (fCons (fVar 0) (fCons (fVar 1) fNil)))) fNil)))) (ys:=sortK ks) (ρ:=[some (.int r),some (.int most),some (.int n),some (.int wy),some (.int kd),some (.int bs),some (.int ct),o7,o8,o9,o10,some (.odt ks (gs.map D.int)),o12,o13])
  (fun ρ=>∃o p,ρ=[o,p,some (.dct ks (gs.map D.int))]) tupI (tieD ks gs) ⟨_,_,rfl⟩ (by rintro ρ ⟨o,p,rfl⟩;rfl) (by
  rintro k hk' ρ zs ⟨o,p,rfl⟩
  have mk:=(sortK_perm ks).mem_iff.mp hk'
  have lv:=look_val gm.len mk
  have im:=intsOf_map k
  obtain ⟨a,b,rfl,_⟩:=gm.key k mk
  refine ⟨[some (.int a),some (.int b),some (.dct ks (gs.map D.int))],⟨_,_,rfl⟩,rfl,?_,?_⟩
  ·simp only [List.map_cons,List.map_nil] at im
   simp only [tieD,List.map_cons,List.map_nil,List.cons_append,List.nil_append]
   repeat (first | walk_at "tw r" | simp only [lv,im,lims])
  ·simp [tieD,lf,lfL]) (by rw [(sortK_perm ks).length_eq];(first|lia|omega))
 have z1:fComp (fCall kSort (fCons (fVar 11) fNil)) [none,none,some 11] (gfTup [0,1]) (fun x=>some true) (fTup (fCons (fVar 0) (fCons (fVar 1) (fCons (fBin oIxD (fVar 2) (fTup (fCons (fVar 0) (fCons (fVar 1) fNil)))) fNil)))) [some (.int r),some (.int most),some (.int n),some (.int wy),some (.int kd),some (.int bs),some (.int ct),o7,o8,o9,o10,some (.odt ks (gs.map D.int)),o12,o13]=some (.own ((sortK ks).map (tieD ks gs))):=by
  simp only [fComp,fCall,fCons,fNil,fVar,frz_odt,List.getElem?_cons_zero,List.getElem?_cons_succ,Option.bind_some,Option.map_some,kSort,keysOf]
  rw [if_pos l64]
  simp only [Option.bind_some,items,lft,if_true,cl]
 refine ends_last (d:=.tup [.tup [.int n,.tup ((sortK ks).map (tieD ks gs))],.int r]) ?_ ⟨n,_,r,⟨gm.good n1 n8 hk,r0⟩,rfl⟩
 repeat (first | walk_at "tw r" | simp only [z1,lims])
end
end K34
set_option Elab.async false
set_option linter.all false
set_option maxRecDepth 100000
set_option maxHeartbeats 1500000
namespace K34
open PySem L2 Tw KS
section
variable {P:Program}{w:World}{K:PySem.W.Frag}{mg:Str→Option Value}{base:Heap}{f:Addr}{fd:FuncData}{k:Nat}
local macro_rules | `(tactic| walk_at "tw s") => `(tactic| first | (refine' Tw.qxs_unF rfl (by assumption) (by walk_at "tw tg") ?h0; (case h0 => walk_at "tw e")) | fail)
theorem nf_iff:∀ks:List (List Int),nfall ks=true↔ks.Pairwise fun a b=>HT.lexLt b a=false
 | []=>⟨fun _=>.nil,fun _=>rfl⟩
 | [a]=>⟨fun _=>List.pairwise_singleton _ _,fun _=>rfl⟩
 | a :: b :: r=>by
  have ih:=nf_iff (b :: r)
  have e:nfall (a :: b :: r)=(!HT.lexLt b a && nfall (b :: r)):=by
   simp only [nfall,List.tail_cons,List.zipWith_cons_cons,List.any_cons,id,Bool.not_or]
  rw [e,Bool.and_eq_true,ih,List.pairwise_cons (a:=a)]
  constructor
  ·rintro ⟨h1,h2⟩
   have h1':HT.lexLt b a=false:=by simpa using h1
   refine ⟨fun c hc=>?_,h2⟩
   rcases List.mem_cons.mp hc with rfl | hc
   ·exact h1'
   ·have h3:=(List.pairwise_cons.mp h2).1 c hc
    cases q:HT.lexLt c a with
    | false=>rfl
    | true=>
     rcases lex_neg c b a q with z | z
     ·rw [h3] at z;cases z
     ·rw [h1'] at z;cases z
  ·rintro ⟨h1,h2⟩
   exact ⟨by rw [h1 b List.mem_cons_self];rfl,h2⟩
theorem nf_sort (ks:List (List Int)):nfall ks=decide (ks=sortK ks):=by
 by_cases h:ks=sortK ks
 ·rw [decide_eq_true h]
  refine (nf_iff ks).mpr ?_
  rw [h]
  exact sortK_sorted ks
 ·rw [decide_eq_false h]
  cases q:nfall ks with
  | false=>rfl
  | true=>exact absurd (Tw.sort_uniq (sortK_perm ks).symm ((nf_iff ks).mp q) (sortK_sorted ks)) h
theorem perm_sum {α:Type}{f:α→Int}{a b:List α}(p:a.Perm b):(a.map f).sum=(b.map f).sum:=by
 induction p with
 | nil=>rfl
 | cons x _ ih=>rw [List.map_cons,List.map_cons,List.sum_cons,List.sum_cons,ih]
 | swap x y l=>simp only [List.map_cons,List.sum_cons];(first|lia|omega)
 | trans _ _ h1 h2=>exact h1.trans h2
theorem cells_gen {n:Nat}{ce:FE}{b:FS}(ns ms:List Int)(hl:ms.length≤100)(ev:ce (start0 (n + 2) [.scr (ns.map D.int)])=some (.own (ms.map D.int)))
  (st:∀(c:Int) (ρ:Ev),ρ.length=n→∃ρ2,b (some (.scr (ns.map D.int)) :: some (.int c) :: ρ)=some (.nx ρ2)∧∃(c':Option D) (ρ':Ev),ρ'.length=n∧ρ2=some (.scr (ns.map D.int)) :: c' :: ρ'):
  runD 1 (n + 2) (fThen (fFor ce (gfName 1) b) (fRet (fC (.bl true)))) [.scr (ns.map D.int)]=some (.bl true):=by
 obtain ⟨ρ',e,_⟩:=loopF_all (b:=turnF (gfName 1) b) (fun ρ=>∃(c':Option D) (ρ':Ev),ρ'.length=n∧ρ=some (.scr (ns.map D.int)) :: c' :: ρ') (ms.map D.int) (start0 (n + 2) [.scr (ns.map D.int)])
  ⟨none,List.replicate n none,List.length_replicate,by simp [start0,frz,List.replicate_succ]⟩ (by
  rintro x ρ hx ⟨c',ρ',h,rfl⟩
  obtain ⟨c,_,rfl⟩:=List.mem_map.mp hx
  obtain ⟨ρ3,e3,c2,ρ2,h2,rfl⟩:=st c ρ' h
  refine ⟨_,?_,c2,ρ2,h2,rfl⟩
  simp only [turnF,gfName,frz,List.set_cons_succ,List.set_cons_zero,Option.bind_some]
  exact e3)
 have ls:=lfL_ints ms
 have f:fFor ce (gfName 1) b (start0 (n + 2) [.scr (ns.map D.int)])=some (.nx ρ'):=by
  unfold fFor
  rw [ev]
  simp only [Option.bind_some,walkD]
  rw [if_pos ls]
  exact e
 unfold runD
 rw [if_pos (show [D.scr (ns.map D.int)].length=1 from rfl)]
 unfold fThen
 rw [f]
 rfl
theorem unF_lst {i j:Nat}{g:FE}{ρ:Ev}{xs:List D}{o:D}{r:Int}(h:g ρ=some (.tup [o,.int r]))(ho:o= .own xs∨o= .lst xs):fUnF [i,j] g ρ=some (.nx (setAll [i,j] [.lst xs,.int r] (frzAll ρ))):=by
 unfold fUnF
 rw [h]
 rcases ho with rfl | rfl <;> rfl
theorem scLaw:FnScope ["script","cell","web","number","outs","ins","found"] ["script"] (defScope sLaw):=⟨rfl,rfl,rfl,by decide +kernel,rfl,by decide +kernel,by decide +kernel⟩
theorem fn_law {gc gd gl go gt gu gs gi gk gw':List D→Option D}(G1:Fn P w K mg base "_law_cell" k gc)(h1:LCellSpec gc)(G2:Fn P w K mg base "_law_deal" k gd)(h2:LDealSpec gd)(G3:Fn P w K mg base "_law_web" k gl)(h3:LWebSpec gl)(G4:Fn P w K mg base "_law_outs" k go)(h4:LOutsSpec go)(G5:Fn P w K mg base "_law_together" k gt)(h5:LTogSpec gt)(G6:Fn P w K mg base "_law_turned" k gu)(h6:LTurnSpec gu)(G7:Fn P w K mg base "is_swap" k gs)(h7:SwapSpec gs)(G8:Fn P w K mg base "_law_is_swap" k gi)(h8:LSwapSpec gi)(G9:Fn P w K mg base "swap_slack" k gk)(h9:SlackSpec gk)(G10:Fn P w K mg base "_law_worth" k gw')(h10:WorSpec gw')
  (mt:mg "tuple"=none) (mi:mg "isinstance"=none) (mb:mg "bool"=none) (mI:mg "int"=none) (ms:mg "sorted"=none) (F:Fun K "law" "law" sLaw f fd):FnOk P w K mg base CX0 (k + 1) f fd ["script"] (spLaw K):=by
 have nd:=scLaw.nd
 refine law_ok F scLaw rfl rfl (fun cdv A outer s H E hr=>(by walk_at "tw ss":QSs _ _ _).to) fun ns hl=>?_
 obtain ⟨c0,ec0⟩:=h1 ns 0
 obtain ⟨ms',em,el⟩:=cutD_ints ns (some 1) (some 21)
 have lb:1000≤lim:=by decide
 refine cells_gen (n:=5) ns (c0 :: ms') (by simp;(first|lia|omega)) ?_ fun c ρ hρ=>?_
 ·have l1:1 + (ms'.map D.int).length≤lim:=by rw [List.length_map];(first|lia|omega)
  change fBin oAddT _ _ [some (.scr (ns.map D.int)),none,none,none,none,none,none]=_
  change gc [.scr (ns.map D.int),.int 0]=_ at ec0
  rw [List.map_cons]
  generalize ns.map D.int=nm at ec0 em
  generalize ms'.map D.int=mm at em l1
  repeat (first | walk_at "tw r" | simp only [ec0,em,l1,lims])
 ·obtain ⟨o2,o3,o4,o5,o6,rfl⟩:∃o2 o3 o4 o5 o6,ρ=[o2,o3,o4,o5,o6]:=by
   match ρ,hρ with
   | [a,b,c,d,e],_=>exact ⟨a,b,c,d,e,rfl⟩
  obtain ⟨m,m0,em1⟩:=h2 c 1 (by decide) (by decide)
  obtain ⟨n,ts,r,⟨gw,r0⟩,ew⟩:=h3 m 6 m0 (by decide) (by decide)
  obtain ⟨ks,r1,⟨pk,lk,r10⟩,eo⟩:=h4 n ts r gw r0
  obtain ⟨js,r2,⟨pj,lj,r20⟩,et⟩:=h5 n ts ks r1 gw pk lk r10
  obtain ⟨ks2,ok,r3,⟨pk2,lk2,r30,hok⟩,eu⟩:=h6 n ts ks r2 gw pk (by (first|lia|omega)) r20
  obtain ⟨js2,oj,r4,⟨pj2,lj2,r40,hoj⟩,ev⟩:=h6 n ts js r3 gw pj (by (first|lia|omega)) r30
  have fts:lfL ts=true:=lfL_all fun t ht=>tie_lf (gw.tie t ht)
  have es:=h7 n ts ks2 js2 gw pk2 (by (first|lia|omega)) pj2 (by (first|lia|omega))
  have ei:=h8 ks2 js2 (by (first|lia|omega)) (by (first|lia|omega)) (fun k h=>⟨par_ne gw (pk2 k h),(par_len gw (pk2 k h)).2⟩) (fun k h=>⟨par_ne gw (pj2 k h),(par_len gw (pj2 k h)).2⟩)
  rw [←nf_sort,←nf_sort] at ei
  have ek:=h9 n ts (sortK ks2) (sortK js2) gw (by rw [(sortK_perm _).length_eq];(first|lia|omega)) (by rw [(sortK_perm _).length_eq];(first|lia|omega))
  rw [perm_sum (sortK_perm js2),perm_sum (sortK_perm ks2)] at ek
  have e1:=h10 n ts ks2 (.lst (ks2.map tupI)) gw (by (first|lia|omega)) (.inr (.inl rfl))
  have e2:=h10 n ts js2 (.lst (js2.map tupI)) gw (by (first|lia|omega)) (.inr (.inl rfl))
  have s1:=ksort_l (ks:=ks2) (by (first|lia|omega)) fun k h=>par_ne gw (pk2 k h)
  have s2:=ksort_l (ks:=js2) (by (first|lia|omega)) fun k h=>par_ne gw (pj2 k h)
  have k1:(ks2.map tupI).length≤lim:=by rw [List.length_map];(first|lia|omega)
  have k2:(js2.map tupI).length≤lim:=by rw [List.length_map];(first|lia|omega)
  have k3:((sortK ks2).map tupI).length≤lim:=by rw [List.length_map,(sortK_perm _).length_eq];(first|lia|omega)
  have k4:((sortK js2).map tupI).length≤lim:=by rw [List.length_map,(sortK_perm _).length_eq];(first|lia|omega)
  generalize (nfall ks2 && nfall js2 && decide (sortI ks2.flatten=sortI js2.flatten))=B at es ei
  generalize (ks2.map (gnI ts)).sum=S1 at ek e1
  generalize (js2.map (gnI ts)).sum=S2 at ek e2
  generalize ns.map D.int=nm
  refine nx_eq [some (.scr nm),some (.int c),some (.tup [.int n,.tup ts]),some (.int r),o4,o5,o6] ?_ ?_
  ·repeat (first | walk_at "tw r" | simp only [em1,ew,fts,lims])
  refine nx_then (fun ρ=>∃o5 o6,ρ=[some (.scr nm),some (.int c),some (.tup [.int n,.tup ts]),some (.int r1),some (.lst (ks.map tupI)),o5,o6]) ⟨_,unF_lst (by repeat (first | walk_at "tw r" | simp only [eo])) (.inl rfl),_,_,rfl⟩ ?_
  rintro ρ ⟨o5,o6,rfl⟩
  refine nx_then (fun ρ=>∃o6,ρ=[some (.scr nm),some (.int c),some (.tup [.int n,.tup ts]),some (.int r2),some (.lst (ks.map tupI)),some (.lst (js.map tupI)),o6]) ⟨_,unF_lst (by repeat (first | walk_at "tw r" | simp only [et])) (.inl rfl),_,rfl⟩ ?_
  rintro ρ ⟨o6,rfl⟩
  refine nx_then (fun ρ=>∃o6,ρ=[some (.scr nm),some (.int c),some (.tup [.int n,.tup ts]),some (.int r3),some (.lst (ks2.map tupI)),some (.lst (js.map tupI)),o6]) ⟨_,unF_lst (by repeat (first | walk_at "tw r" | simp only [eu])) hok,_,rfl⟩ ?_
  rintro ρ ⟨o6,rfl⟩
  refine nx_then (fun ρ=>∃o6,ρ=[some (.scr nm),some (.int c),some (.tup [.int n,.tup ts]),some (.int r4),some (.lst (ks2.map tupI)),some (.lst (js2.map tupI)),o6]) ⟨_,unF_lst (by repeat (first | walk_at "tw r" | simp only [ev])) hoj,_,rfl⟩ ?_
  rintro ρ ⟨o6,rfl⟩
  generalize (sortK ks2).map tupI=SK at s1 ek k3
  generalize (sortK js2).map tupI=SJ at s2 ek k4
  generalize ks2.map tupI=KM at s1 es ei e1 k1
  generalize js2.map tupI=JM at s2 es ei e2 k2
  have sb:("bool" == "bool")=true:=by decide
  have si:("int" == "int")=true:=by decide
  refine nx_eq [some (.scr nm),some (.int c),some (.tup [.int n,.tup ts]),some (.int r4),some (.lst KM),some (.lst JM),some (.bl B)] ?_ ?_
  ·repeat (first | walk_at "tw r" | simp only [es,k1,k2,lims])
  refine nx_eq [some (.scr nm),some (.int c),some (.tup [.int n,.tup ts]),some (.int r4),some (.lst KM),some (.lst JM),some (.bl B)] ?_ ?_
  ·repeat (first | walk_at "tw r" | simp only [ei,sb,lims,beq_self_eq_true])
  refine nx_eq [some (.scr nm),some (.int c),some (.tup [.int n,.tup ts]),some (.int r4),some (.lst KM),some (.lst JM),some (.int (S2 - S1))] ?_ ?_
  ·repeat (first | walk_at "tw r" | simp only [s1,s2,ek,k3,k4,lims])
  refine ⟨[some (.scr nm),some (.int c),some (.tup [.int n,.tup ts]),some (.int r4),some (.lst KM),some (.lst JM),some (.int (S2 - S1))],?_,_,_,rfl,rfl⟩
  repeat (first | walk_at "tw r" | simp only [e1,e2,si,lims,beq_self_eq_true])
end
end K34
namespace K34
open PySem PySem.Spec PyProof.Rows L2 Tw
theorem all_mk {l:PySem.W.OpenLaw}{w:World}{K:PySem.W.Frag}{h:Heap}{mg:Str→Option Value}{fa f1 f2 f3 f4 f5 f6 f7 f8 f9 f10 f11 f12 f13 f14 f15 f16 f17 f18 f19 f20 f21 f22 f23:Addr}(X:K.In h)(G:h.Ns mainGlobals mg)(hfa:mg "law"=some (.ref fa))
  {od1 an1 od2 an2 od3 an3 od4 an4 od5 an5 od6 an6 od7 an7 od8 an8 od9 an9 od10 an10 od11 an11 od12 an12 od13 an13 od14 an14 od15 an15 od16 an16 od17 an17 od18 an18 od19 an19 od20 an20 od21 an21 od22 an22 od23 an23:Option Addr} {sl1 sl2 sl3 sl4 sl5 sl6 sl7 sl8 sl9 sl10 sl11 sl12 sl13 sl14 sl15 sl16 sl17 sl18 sl19 sl20 sl21 sl22 sl23:Array (Option Value)} {oc1 kV1 dc1 pm1 cd1 ct1 oc2 kV2 dc2 pm2 cd2 ct2 oc3 kV3 dc3 pm3 cd3 ct3 oc4 kV4 dc4 pm4 cd4 ct4 oc5 kV5 dc5 pm5 cd5 ct5 oc6 kV6 dc6 pm6 cd6 ct6 oc7 kV7 dc7 pm7 cd7 ct7 oc8 kV8 dc8 pm8 cd8 ct8 oc9 kV9 dc9 pm9 cd9 ct9 oc10 kV10 dc10 pm10 cd10 ct10 oc11 kV11 dc11 pm11 cd11 ct11 oc12 kV12 dc12 pm12 cd12 ct12 oc13 kV13 dc13 pm13 cd13 ct13 oc14 kV14 dc14 pm14 cd14 ct14 oc15 kV15 dc15 pm15 cd15 ct15 oc16 kV16 dc16 pm16 cd16 ct16 oc17 kV17 dc17 pm17 cd17 ct17 oc18 kV18 dc18 pm18 cd18 ct18 oc19 kV19 dc19 pm19 cd19 ct19 oc20 kV20 dc20 pm20 cd20 ct20 oc21 kV21 dc21 pm21 cd21 ct21 oc22 kV22 dc22 pm22 cd22 ct22 oc23 kV23 dc23 pm23 cd23 ct23:Value}
  (a1:PySem.W.nsIn K mainGlobals "is_whole"=some (some (.ref f1))) (l1:K.lookup f1=some ⟨oc1,od1,.func (PySem.W.fnOf "is_whole" "is_whole" (defArgs sWhole) (defBody sWhole) (defScope sWhole) .none kV1 dc1 pm1 an1 cd1 ct1),sl1⟩) (c1:PySem.W.codeIn K cd1 "is_whole"=true) (k1:PySem.W.keepIn K (.ref f1)=true)
  (a2:PySem.W.nsIn K mainGlobals "is_sorted"=some (some (.ref f2))) (l2:K.lookup f2=some ⟨oc2,od2,.func (PySem.W.fnOf "is_sorted" "is_sorted" (defArgs sSorted) (defBody sSorted) (defScope sSorted) .none kV2 dc2 pm2 an2 cd2 ct2),sl2⟩) (c2:PySem.W.codeIn K cd2 "is_sorted"=true) (k2:PySem.W.keepIn K (.ref f2)=true)
  (a3:PySem.W.nsIn K mainGlobals "parties"=some (some (.ref f3))) (l3:K.lookup f3=some ⟨oc3,od3,.func (PySem.W.fnOf "parties" "parties" (defArgs sParties) (defBody sParties) (defScope sParties) .none kV3 dc3 pm3 an3 cd3 ct3),sl3⟩) (c3:PySem.W.codeIn K cd3 "parties"=true) (k3:PySem.W.keepIn K (.ref f3)=true)
  (a4:PySem.W.nsIn K mainGlobals "is_party"=some (some (.ref f4))) (l4:K.lookup f4=some ⟨oc4,od4,.func (PySem.W.fnOf "is_party" "is_party" (defArgs sIsPar) (defBody sIsPar) (defScope sIsPar) .none kV4 dc4 pm4 an4 cd4 ct4),sl4⟩) (c4:PySem.W.codeIn K cd4 "is_party"=true) (k4:PySem.W.keepIn K (.ref f4)=true)
  (a5:PySem.W.nsIn K mainGlobals "is_parties"=some (some (.ref f5))) (l5:K.lookup f5=some ⟨oc5,od5,.func (PySem.W.fnOf "is_parties" "is_parties" (defArgs sIsPars) (defBody sIsPars) (defScope sIsPars) .none kV5 dc5 pm5 an5 cd5 ct5),sl5⟩) (c5:PySem.W.codeIn K cd5 "is_parties"=true) (k5:PySem.W.keepIn K (.ref f5)=true)
  (a6:PySem.W.nsIn K mainGlobals "is_sorted_parties"=some (some (.ref f6))) (l6:K.lookup f6=some ⟨oc6,od6,.func (PySem.W.fnOf "is_sorted_parties" "is_sorted_parties" (defArgs sSortPars) (defBody sSortPars) (defScope sSortPars) .none kV6 dc6 pm6 an6 cd6 ct6),sl6⟩) (c6:PySem.W.codeIn K cd6 "is_sorted_parties"=true) (k6:PySem.W.keepIn K (.ref f6)=true)
  (a7:PySem.W.nsIn K mainGlobals "gains"=some (some (.ref f7))) (l7:K.lookup f7=some ⟨oc7,od7,.func (PySem.W.fnOf "gains" "gains" (defArgs sGains) (defBody sGains) (defScope sGains) .none kV7 dc7 pm7 an7 cd7 ct7),sl7⟩) (c7:PySem.W.codeIn K cd7 "gains"=true) (k7:PySem.W.keepIn K (.ref f7)=true)
  (a8:PySem.W.nsIn K mainGlobals "held"=some (some (.ref f8))) (l8:K.lookup f8=some ⟨oc8,od8,.func (PySem.W.fnOf "held" "held" (defArgs sHeld) (defBody sHeld) (defScope sHeld) .none kV8 dc8 pm8 an8 cd8 ct8),sl8⟩) (c8:PySem.W.codeIn K cd8 "held"=true) (k8:PySem.W.keepIn K (.ref f8)=true)
  (a9:PySem.W.nsIn K mainGlobals "worth"=some (some (.ref f9))) (l9:K.lookup f9=some ⟨oc9,od9,.func (PySem.W.fnOf "worth" "worth" (defArgs sWorth) (defBody sWorth) (defScope sWorth) .none kV9 dc9 pm9 an9 cd9 ct9),sl9⟩) (c9:PySem.W.codeIn K cd9 "worth"=true) (k9:PySem.W.keepIn K (.ref f9)=true)
  (a10:PySem.W.nsIn K mainGlobals "is_swap"=some (some (.ref f10))) (l10:K.lookup f10=some ⟨oc10,od10,.func (PySem.W.fnOf "is_swap" "is_swap" (defArgs sSwap) (defBody sSwap) (defScope sSwap) .none kV10 dc10 pm10 an10 cd10 ct10),sl10⟩) (c10:PySem.W.codeIn K cd10 "is_swap"=true) (k10:PySem.W.keepIn K (.ref f10)=true)
  (a11:PySem.W.nsIn K mainGlobals "swap_slack"=some (some (.ref f11))) (l11:K.lookup f11=some ⟨oc11,od11,.func (PySem.W.fnOf "swap_slack" "swap_slack" (defArgs sSwapSlack) (defBody sSwapSlack) (defScope sSwapSlack) .none kV11 dc11 pm11 an11 cd11 ct11),sl11⟩) (c11:PySem.W.codeIn K cd11 "swap_slack"=true) (k11:PySem.W.keepIn K (.ref f11)=true)
  (a12:PySem.W.nsIn K mainGlobals "_law_cell"=some (some (.ref f12))) (l12:K.lookup f12=some ⟨oc12,od12,.func (PySem.W.fnOf "_law_cell" "_law_cell" (defArgs sLCell) (defBody sLCell) (defScope sLCell) .none kV12 dc12 pm12 an12 cd12 ct12),sl12⟩) (c12:PySem.W.codeIn K cd12 "_law_cell"=true) (k12:PySem.W.keepIn K (.ref f12)=true)
  (a13:PySem.W.nsIn K mainGlobals "_law_deal"=some (some (.ref f13))) (l13:K.lookup f13=some ⟨oc13,od13,.func (PySem.W.fnOf "_law_deal" "_law_deal" (defArgs sLDeal) (defBody sLDeal) (defScope sLDeal) .none kV13 dc13 pm13 an13 cd13 ct13),sl13⟩) (c13:PySem.W.codeIn K cd13 "_law_deal"=true) (k13:PySem.W.keepIn K (.ref f13)=true)
  (a14:PySem.W.nsIn K mainGlobals "_law_web"=some (some (.ref f14))) (l14:K.lookup f14=some ⟨oc14,od14,.func (PySem.W.fnOf "_law_web" "_law_web" (defArgs sLWeb) (defBody sLWeb) (defScope sLWeb) .none kV14 dc14 pm14 an14 cd14 ct14),sl14⟩) (c14:PySem.W.codeIn K cd14 "_law_web"=true) (k14:PySem.W.keepIn K (.ref f14)=true)
  (a15:PySem.W.nsIn K mainGlobals "_law_gain"=some (some (.ref f15))) (l15:K.lookup f15=some ⟨oc15,od15,.func (PySem.W.fnOf "_law_gain" "_law_gain" (defArgs sLGain) (defBody sLGain) (defScope sLGain) .none kV15 dc15 pm15 an15 cd15 ct15),sl15⟩) (c15:PySem.W.codeIn K cd15 "_law_gain"=true) (k15:PySem.W.keepIn K (.ref f15)=true)
  (a16:PySem.W.nsIn K mainGlobals "_law_parties"=some (some (.ref f16))) (l16:K.lookup f16=some ⟨oc16,od16,.func (PySem.W.fnOf "_law_parties" "_law_parties" (defArgs sLParties) (defBody sLParties) (defScope sLParties) .none kV16 dc16 pm16 an16 cd16 ct16),sl16⟩) (c16:PySem.W.codeIn K cd16 "_law_parties"=true) (k16:PySem.W.keepIn K (.ref f16)=true)
  (a17:PySem.W.nsIn K mainGlobals "_law_worth"=some (some (.ref f17))) (l17:K.lookup f17=some ⟨oc17,od17,.func (PySem.W.fnOf "_law_worth" "_law_worth" (defArgs sLWorth) (defBody sLWorth) (defScope sLWorth) .none kV17 dc17 pm17 an17 cd17 ct17),sl17⟩) (c17:PySem.W.codeIn K cd17 "_law_worth"=true) (k17:PySem.W.keepIn K (.ref f17)=true)
  (a18:PySem.W.nsIn K mainGlobals "_law_held"=some (some (.ref f18))) (l18:K.lookup f18=some ⟨oc18,od18,.func (PySem.W.fnOf "_law_held" "_law_held" (defArgs sLHeld) (defBody sLHeld) (defScope sLHeld) .none kV18 dc18 pm18 an18 cd18 ct18),sl18⟩) (c18:PySem.W.codeIn K cd18 "_law_held"=true) (k18:PySem.W.keepIn K (.ref f18)=true)
  (a19:PySem.W.nsIn K mainGlobals "_law_is_swap"=some (some (.ref f19))) (l19:K.lookup f19=some ⟨oc19,od19,.func (PySem.W.fnOf "_law_is_swap" "_law_is_swap" (defArgs sLSwap) (defBody sLSwap) (defScope sLSwap) .none kV19 dc19 pm19 an19 cd19 ct19),sl19⟩) (c19:PySem.W.codeIn K cd19 "_law_is_swap"=true) (k19:PySem.W.keepIn K (.ref f19)=true)
  (a20:PySem.W.nsIn K mainGlobals "_law_outs"=some (some (.ref f20))) (l20:K.lookup f20=some ⟨oc20,od20,.func (PySem.W.fnOf "_law_outs" "_law_outs" (defArgs sLOuts) (defBody sLOuts) (defScope sLOuts) .none kV20 dc20 pm20 an20 cd20 ct20),sl20⟩) (c20:PySem.W.codeIn K cd20 "_law_outs"=true) (k20:PySem.W.keepIn K (.ref f20)=true)
  (a21:PySem.W.nsIn K mainGlobals "_law_together"=some (some (.ref f21))) (l21:K.lookup f21=some ⟨oc21,od21,.func (PySem.W.fnOf "_law_together" "_law_together" (defArgs sLTog) (defBody sLTog) (defScope sLTog) .none kV21 dc21 pm21 an21 cd21 ct21),sl21⟩) (c21:PySem.W.codeIn K cd21 "_law_together"=true) (k21:PySem.W.keepIn K (.ref f21)=true)
  (a22:PySem.W.nsIn K mainGlobals "_law_turned"=some (some (.ref f22))) (l22:K.lookup f22=some ⟨oc22,od22,.func (PySem.W.fnOf "_law_turned" "_law_turned" (defArgs sLTurn) (defBody sLTurn) (defScope sLTurn) .none kV22 dc22 pm22 an22 cd22 ct22),sl22⟩) (c22:PySem.W.codeIn K cd22 "_law_turned"=true) (k22:PySem.W.keepIn K (.ref f22)=true)
  (a23:PySem.W.nsIn K mainGlobals "law"=some (some (.ref f23))) (l23:K.lookup f23=some ⟨oc23,od23,.func (PySem.W.fnOf "law" "law" (defArgs sLaw) (defBody sLaw) (defScope sLaw) .none kV23 dc23 pm23 an23 cd23 ct23),sl23⟩) (c23:PySem.W.codeIn K cd23 "law"=true) (k23:PySem.W.keepIn K (.ref f23)=true)
  (y1:PySem.W.nsIn K mainGlobals "len"=some none) (y2:PySem.W.nsIn K mainGlobals "isinstance"=some none) (y3:PySem.W.nsIn K mainGlobals "bool"=some none) (y4:PySem.W.nsIn K mainGlobals "range"=some none) (y5:PySem.W.nsIn K mainGlobals "int"=some none) (y6:PySem.W.nsIn K mainGlobals "tuple"=some none) (y7:PySem.W.nsIn K mainGlobals "max"=some none) (y8:PySem.W.nsIn K mainGlobals "min"=some none) (y9:PySem.W.nsIn K mainGlobals "all"=some none) (y10:PySem.W.nsIn K mainGlobals "sorted"=some none) (y11:PySem.W.nsIn K mainGlobals "list"=some none) (y12:PySem.W.nsIn K mainGlobals "zip"=some none) (y13:PySem.W.nsIn K mainGlobals "sum"=some none) (y14:PySem.W.nsIn K mainGlobals "any"=some none) (y15:PySem.W.nsIn K mainGlobals "divmod"=some none):
  ∃fd:FuncData,(∀(s:Shared) (v:Value),BindsTo s fd ⟨[v],[]⟩ [("script",v)])∧∀base:Heap,K.In base→base.Ns mainGlobals mg→FnOk l.prog w K mg base CX0 20 fa fd ["script"] (spLaw K):=by
 have e:=hfa.symm.trans (PySem.W.mg_of X G a23)
 cases e
 have F1:=fun_mk (st:=sWhole) l1 c1 k1
 have b1:=F1.binds (ps:=["thing"]) fun _ _ _ _ _ _ us hl=>match us,hl with | [_],_=>rfl
 have m1:=PySem.W.mg_of X G a1
 have F2:=fun_mk (st:=sSorted) l2 c2 k2
 have b2:=F2.binds (ps:=["row"]) fun _ _ _ _ _ _ us hl=>match us,hl with | [_],_=>rfl
 have m2:=PySem.W.mg_of X G a2
 have F3:=fun_mk (st:=sParties) l3 c3 k3
 have b3:=F3.binds (ps:=["web"]) fun _ _ _ _ _ _ us hl=>match us,hl with | [_],_=>rfl
 have m3:=PySem.W.mg_of X G a3
 have F4:=fun_mk (st:=sIsPar) l4 c4 k4
 have b4:=F4.binds (ps:=["web","thing"]) fun _ _ _ _ _ _ us hl=>match us,hl with | [_,_],_=>rfl
 have m4:=PySem.W.mg_of X G a4
 have F5:=fun_mk (st:=sIsPars) l5 c5 k5
 have b5:=F5.binds (ps:=["web","thing"]) fun _ _ _ _ _ _ us hl=>match us,hl with | [_,_],_=>rfl
 have m5:=PySem.W.mg_of X G a5
 have F6:=fun_mk (st:=sSortPars) l6 c6 k6
 have b6:=F6.binds (ps:=["web","thing"]) fun _ _ _ _ _ _ us hl=>match us,hl with | [_,_],_=>rfl
 have m6:=PySem.W.mg_of X G a6
 have F7:=fun_mk (st:=sGains) l7 c7 k7
 have b7:=F7.binds (ps:=["web"]) fun _ _ _ _ _ _ us hl=>match us,hl with | [_],_=>rfl
 have m7:=PySem.W.mg_of X G a7
 have F8:=fun_mk (st:=sHeld) l8 c8 k8
 have b8:=F8.binds (ps:=["some"]) fun _ _ _ _ _ _ us hl=>match us,hl with | [_],_=>rfl
 have m8:=PySem.W.mg_of X G a8
 have F9:=fun_mk (st:=sWorth) l9 c9 k9
 have b9:=F9.binds (ps:=["web","some"]) fun _ _ _ _ _ _ us hl=>match us,hl with | [_,_],_=>rfl
 have m9:=PySem.W.mg_of X G a9
 have F10:=fun_mk (st:=sSwap) l10 c10 k10
 have b10:=F10.binds (ps:=["web","outs","ins"]) fun _ _ _ _ _ _ us hl=>match us,hl with | [_,_,_],_=>rfl
 have m10:=PySem.W.mg_of X G a10
 have F11:=fun_mk (st:=sSwapSlack) l11 c11 k11
 have b11:=F11.binds (ps:=["web","outs","ins"]) fun _ _ _ _ _ _ us hl=>match us,hl with | [_,_,_],_=>rfl
 have m11:=PySem.W.mg_of X G a11
 have F12:=fun_mk (st:=sLCell) l12 c12 k12
 have b12:=F12.binds (ps:=["script","k"]) fun _ _ _ _ _ _ us hl=>match us,hl with | [_,_],_=>rfl
 have m12:=PySem.W.mg_of X G a12
 have F13:=fun_mk (st:=sLDeal) l13 c13 k13
 have b13:=F13.binds (ps:=["cell","salt"]) fun _ _ _ _ _ _ us hl=>match us,hl with | [_,_],_=>rfl
 have m13:=PySem.W.mg_of X G a13
 have F14:=fun_mk (st:=sLWeb) l14 c14 k14
 have b14:=F14.binds (ps:=["number","most"]) fun _ _ _ _ _ _ us hl=>match us,hl with | [_,_],_=>rfl
 have m14:=PySem.W.mg_of X G a14
 have F15:=fun_mk (st:=sLGain) l15 c15 k15
 have b15:=F15.binds (ps:=["web","party"]) fun _ _ _ _ _ _ us hl=>match us,hl with | [_,_],_=>rfl
 have m15:=PySem.W.mg_of X G a15
 have F16:=fun_mk (st:=sLParties) l16 c16 k16
 have b16:=F16.binds (ps:=["web"]) fun _ _ _ _ _ _ us hl=>match us,hl with | [_],_=>rfl
 have m16:=PySem.W.mg_of X G a16
 have F17:=fun_mk (st:=sLWorth) l17 c17 k17
 have b17:=F17.binds (ps:=["web","some"]) fun _ _ _ _ _ _ us hl=>match us,hl with | [_,_],_=>rfl
 have m17:=PySem.W.mg_of X G a17
 have F18:=fun_mk (st:=sLHeld) l18 c18 k18
 have b18:=F18.binds (ps:=["some"]) fun _ _ _ _ _ _ us hl=>match us,hl with | [_],_=>rfl
 have m18:=PySem.W.mg_of X G a18
 have F19:=fun_mk (st:=sLSwap) l19 c19 k19
 have b19:=F19.binds (ps:=["outs","ins"]) fun _ _ _ _ _ _ us hl=>match us,hl with | [_,_],_=>rfl
 have m19:=PySem.W.mg_of X G a19
 have F20:=fun_mk (st:=sLOuts) l20 c20 k20
 have b20:=F20.binds (ps:=["web","number"]) fun _ _ _ _ _ _ us hl=>match us,hl with | [_,_],_=>rfl
 have m20:=PySem.W.mg_of X G a20
 have F21:=fun_mk (st:=sLTog) l21 c21 k21
 have b21:=F21.binds (ps:=["web","outs","number"]) fun _ _ _ _ _ _ us hl=>match us,hl with | [_,_,_],_=>rfl
 have m21:=PySem.W.mg_of X G a21
 have F22:=fun_mk (st:=sLTurn) l22 c22 k22
 have b22:=F22.binds (ps:=["web","some","number"]) fun _ _ _ _ _ _ us hl=>match us,hl with | [_,_,_],_=>rfl
 have m22:=PySem.W.mg_of X G a22
 have F23:=fun_mk (st:=sLaw) l23 c23 k23
 have z1:=PySem.W.mg_none_of X G y1
 have z2:=PySem.W.mg_none_of X G y2
 have z3:=PySem.W.mg_none_of X G y3
 have z4:=PySem.W.mg_none_of X G y4
 have z5:=PySem.W.mg_none_of X G y5
 have z6:=PySem.W.mg_none_of X G y6
 have z7:=PySem.W.mg_none_of X G y7
 have z8:=PySem.W.mg_none_of X G y8
 have z9:=PySem.W.mg_none_of X G y9
 have z10:=PySem.W.mg_none_of X G y10
 have z11:=PySem.W.mg_none_of X G y11
 have z12:=PySem.W.mg_none_of X G y12
 have z13:=PySem.W.mg_none_of X G y13
 have z14:=PySem.W.mg_none_of X G y14
 have z15:=PySem.W.mg_none_of X G y15
 refine ⟨PySem.W.fnOf "law" "law" (defArgs sLaw) (defBody sLaw) (defScope sLaw) .none kV23 dc23 pm23 an23 cd23 ct23,fun s v=>.of_eq rfl,fun base _ _=>?_⟩
 obtain ⟨g1,h1,s1⟩:=fn_whole (P:=l.prog) (w:=w) (base:=base) (k:=0) z2 z5 z3 F1 b1 m1
 obtain ⟨g2,h2,s2⟩:=fn_sorted (P:=l.prog) (w:=w) (base:=base) (k:=0) z14 z12 F2 b2 m2
 obtain ⟨g3,h3,s3⟩:=fn_parties (P:=l.prog) (w:=w) (base:=base) (k:=0) z4 z10 F3 b3 m3
 obtain ⟨g4,h4,s4⟩:=fn_ispar h1 s1 h3 s3 z2 z6 z9 F4 b4 m4
 obtain ⟨g5,h5,s5⟩:=fn_ispars h4 s4 z2 z6 z9 F5 b5 m5
 obtain ⟨g6,h6,s6⟩:=fn_sortpars (h5.mono (k:=6) (by decide)) s5 (h2.mono (k:=6) (by decide)) s2 F6 b6 m6
 obtain ⟨g7,h7,s7⟩:=fn_gains (P:=l.prog) (w:=w) (base:=base) (k:=0) F7 b7 m7
 obtain ⟨g8,h8,s8⟩:=fn_held (P:=l.prog) (w:=w) (base:=base) (k:=0) z10 F8 b8 m8
 obtain ⟨g9,h9,s9⟩:=fn_worth h7 s7 z13 F9 b9 m9
 obtain ⟨g10,h10,s10⟩:=fn_swap (h6.mono (k:=8) (by decide)) s6 (h8.mono (k:=8) (by decide)) s8 F10 b10 m10
 obtain ⟨g11,h11,s11⟩:=fn_slack h9 s9 F11 b11 m11
 obtain ⟨g12,h12,s12⟩:=fn_lcell (P:=l.prog) (w:=w) (base:=base) (k:=0) z1 F12 b12 m12
 obtain ⟨g13,h13,s13⟩:=fn_ldeal (P:=l.prog) (w:=w) (base:=base) (k:=0) z4 F13 b13 m13
 obtain ⟨g14,h14,s14⟩:=fn_lweb (P:=l.prog) (w:=w) (base:=base) (k:=0) z4 z15 z8 z7 z6 z10 F14 b14 m14
 obtain ⟨g15,h15,s15⟩:=fn_lgain (P:=l.prog) (w:=w) (base:=base) (k:=0) F15 b15 m15
 obtain ⟨g16,h16,s16⟩:=fn_lparties (P:=l.prog) (w:=w) (base:=base) (k:=0) z4 z10 F16 b16 m16
 obtain ⟨g17,h17,s17⟩:=fn_lworth h15 s15 z13 F17 b17 m17
 obtain ⟨g18,h18,s18⟩:=fn_lheld (P:=l.prog) (w:=w) (base:=base) (k:=0) z10 F18 b18 m18
 obtain ⟨g19,h19,s19⟩:=fn_lswap h18 s18 z11 z10 F19 b19 m19
 obtain ⟨g20,h20,s20⟩:=fn_louts h16 s16 z1 z4 z15 z10 F20 b20 m20
 obtain ⟨g21,h21,s21⟩:=fn_ltog (h16.mono (k:=4) (by decide)) s16 (h18.mono (k:=4) (by decide)) s18 z1 z15 z10 z8 z7 F21 b21 m21
 obtain ⟨g22,h22,s22⟩:=fn_lturn h16 s16 z1 z15 z10 F22 b22 m22
 exact fn_law (h12.mono (k:=19) (by decide)) s12 (h13.mono (k:=19) (by decide)) s13 (h14.mono (k:=19) (by decide)) s14 (h20.mono (k:=19) (by decide)) s20 (h21.mono (k:=19) (by decide)) s21 (h22.mono (k:=19) (by decide)) s22 (h10.mono (k:=19) (by decide)) s10 (h19.mono (k:=19) (by decide)) s19 (h11.mono (k:=19) (by decide)) s11 (h17.mono (k:=19) (by decide)) s17 z6 z2 z3 z5 z10 F23
end K34
open PySem PySem.W PyProof.Rows
set_option maxRecDepth 100000 in
set_option maxHeartbeats 0 in
theorem PySem.Challenge.cw_twainhoard_k34_swaps_judged_holds : PySem.Challenge.rw_twainhoard_k34_swaps_judged.Holds := by
 w_on;o_law;k_head;(case hw=>w_witness2)
 k_fill
 refine Tw.walk (l:=PySem.Challenge.rw_twainhoard_k34_swaps_judged) rfl rfl (fun w h Y=>PySem.W.kIn_of Y) ?F
 case F=>
  intro w mg fa h KX G hmg
  refine' K34.all_mk KX G hmg ?a1 ?l1 ?c1 ?k1 ?a2 ?l2 ?c2 ?k2 ?a3 ?l3 ?c3 ?k3 ?a4 ?l4 ?c4 ?k4 ?a5 ?l5 ?c5 ?k5 ?a6 ?l6 ?c6 ?k6 ?a7 ?l7 ?c7 ?k7 ?a8 ?l8 ?c8 ?k8 ?a9 ?l9 ?c9 ?k9 ?a10 ?l10 ?c10 ?k10 ?a11 ?l11 ?c11 ?k11 ?a12 ?l12 ?c12 ?k12 ?a13 ?l13 ?c13 ?k13 ?a14 ?l14 ?c14 ?k14 ?a15 ?l15 ?c15 ?k15 ?a16 ?l16 ?c16 ?k16 ?a17 ?l17 ?c17 ?k17 ?a18 ?l18 ?c18 ?k18 ?a19 ?l19 ?c19 ?k19 ?a20 ?l20 ?c20 ?k20 ?a21 ?l21 ?c21 ?k21 ?a22 ?l22 ?c22 ?k22 ?a23 ?l23 ?c23 ?k23 ?y1 ?y2 ?y3 ?y4 ?y5 ?y6 ?y7 ?y8 ?y9 ?y10 ?y11 ?y12 ?y13 ?y14 ?y15
  (case a1=>k_is);(case l1=>k_is);(case c1=>k_is);(case k1=>k_is)
  (case a2=>k_is);(case l2=>k_is);(case c2=>k_is);(case k2=>k_is)
  (case a3=>k_is);(case l3=>k_is);(case c3=>k_is);(case k3=>k_is)
  (case a4=>k_is);(case l4=>k_is);(case c4=>k_is);(case k4=>k_is)
  (case a5=>k_is);(case l5=>k_is);(case c5=>k_is);(case k5=>k_is)
  (case a6=>k_is);(case l6=>k_is);(case c6=>k_is);(case k6=>k_is)
  (case a7=>k_is);(case l7=>k_is);(case c7=>k_is);(case k7=>k_is)
  (case a8=>k_is);(case l8=>k_is);(case c8=>k_is);(case k8=>k_is)
  (case a9=>k_is);(case l9=>k_is);(case c9=>k_is);(case k9=>k_is)
  (case a10=>k_is);(case l10=>k_is);(case c10=>k_is);(case k10=>k_is)
  (case a11=>k_is);(case l11=>k_is);(case c11=>k_is);(case k11=>k_is)
  (case a12=>k_is);(case l12=>k_is);(case c12=>k_is);(case k12=>k_is)
  (case a13=>k_is);(case l13=>k_is);(case c13=>k_is);(case k13=>k_is)
  (case a14=>k_is);(case l14=>k_is);(case c14=>k_is);(case k14=>k_is)
  (case a15=>k_is);(case l15=>k_is);(case c15=>k_is);(case k15=>k_is)
  (case a16=>k_is);(case l16=>k_is);(case c16=>k_is);(case k16=>k_is)
  (case a17=>k_is);(case l17=>k_is);(case c17=>k_is);(case k17=>k_is)
  (case a18=>k_is);(case l18=>k_is);(case c18=>k_is);(case k18=>k_is)
  (case a19=>k_is);(case l19=>k_is);(case c19=>k_is);(case k19=>k_is)
  (case a20=>k_is);(case l20=>k_is);(case c20=>k_is);(case k20=>k_is)
  (case a21=>k_is);(case l21=>k_is);(case c21=>k_is);(case k21=>k_is)
  (case a22=>k_is);(case l22=>k_is);(case c22=>k_is);(case k22=>k_is)
  (case a23=>k_is);(case l23=>k_is);(case c23=>k_is);(case k23=>k_is)
  (case y1=>k_is)
  (case y2=>k_is)
  (case y3=>k_is)
  (case y4=>k_is)
  (case y5=>k_is)
  (case y6=>k_is)
  (case y7=>k_is)
  (case y8=>k_is)
  (case y9=>k_is)
  (case y10=>k_is)
  (case y11=>k_is)
  (case y12=>k_is)
  (case y13=>k_is)
  (case y14=>k_is)
  (case y15=>k_is)
