import PyProof.Rows.All
import Wide.All
import OpenK.AllK
import Wide.FinOn
import Lean
import PyProof.EqAt
import PyProof.EqKinds
import PyProof.TupleCall
import PyProof.CompUse
import PyProof.SumWalkG
import KE.KSort
import PyProof.EnumMake
import PyProof.Rows.ZipGen
import PyProof.Rows.RuleDivmod
import PyProof.ListRange
import KE.KDictSum
import KE.KSortTup
import PyProof.DictCompW
import PyProof.ListMulAny
import PyProof.ReprRoads
import PyProof.FitsInt
import PyProof.WalksMore
import PyProof.Rows.SetFrom
import PyProof.FactsAll.set_1
import PySem.Challenge.RW_twainhoard_k67_shares_joined
set_option Elab.async false
set_option compiler.extract_closed false
set_option genSizeOf false
set_option genInjectivity false
set_option bootstrap.genMatcherCode false
set_option linter.all false
set_option maxRecDepth 100000
theorem ex5 {α β:Type}{A B C:α→β→Prop}{G:Prop}(h:∃x y,A x y∧B x y∧C x y)(k:∀x y,A x y→B x y→C x y→G):G:=by
 obtain ⟨x,y,a,b,c⟩:=h
 exact k x y a b c
theorem Zau.a0 (h:True:=by first | exact .inl rfl | exact .inr rfl | assumption):True:=trivial
theorem Zau.a1 (h:True:=by decide):True:=trivial
theorem Zau.a2 (h:True:=by rfl):True:=trivial
theorem Zau.a3 (h:True:=by intro _;rfl):True:=trivial
theorem Zau.a4 (h:True:=by with_unfolding_all rfl):True:=trivial
theorem Zau.a5 (h:True:=by first | exact Or.inl rfl | exact Or.inr (Or.inl rfl) | exact Or.inr (Or.inr rfl)):True:=trivial
theorem Zau.a6 (h:True:=by first | exact nomark _ | rfl):True:=trivial
theorem Zau.a7 (h:True:=by intro _ _;rfl):True:=trivial
theorem Zau.a8 (h:True:=by first | exact Or.inl rfl | exact Or.inr rfl):True:=trivial
theorem Zau.a9 (h:True:=by first | exact .inl rfl | exact .inr rfl):True:=trivial
theorem Zau.a10 (h:True:=by decide +kernel):True:=trivial
namespace L2
open PySem PySem.Spec PyProof.Rows
noncomputable abbrev Key:=Sum Int Str
noncomputable def keyIs:Key→Value→Bool
 | .inl k,v=>Value.isInt k v
 | .inr x,v=>Value.isStrOf x v
noncomputable def keyH (w:World):Key→Int
 | .inl k=>hashInt k
 | .inr x=>hashStr w x
theorem keyIs_shape:∀{k:Key} {v:Value},keyIs k v=true→(∃i t,k=Sum.inl i∧v=Value.int i t)∨(∃x t,k=Sum.inr x∧v=Value.str x t)
 | .inl i,v,h=>by
  obtain ⟨t,e⟩:=Value.isInt_shape (k:=i) (v:=v) h
  exact .inl ⟨i,t,rfl,e⟩
 | .inr x,v,h=>by
  obtain ⟨t,e⟩:=Value.isStrOf_shape (x:=x) (v:=v) h
  exact .inr ⟨x,t,rfl,e⟩
theorem key_ll (a b:Int):decide ((Sum.inl a:Key)=Sum.inl b)=(a == b):=by
 by_cases e:a=b
 ·subst e;simp
 ·have h:¬(Sum.inl a:Key)=Sum.inl b:=fun q=>e (Sum.inl.inj q)
  rw [decide_eq_false h]
  exact (beq_eq_false_iff_ne.mpr e).symm
theorem key_rr (a b:Str):decide ((Sum.inr a:Key)=Sum.inr b)=decide (a=b):=by
 by_cases e:a=b
 ·subst e;simp
 ·have h:¬(Sum.inr a:Key)=Sum.inr b:=fun q=>e (Sum.inr.inj q)
  rw [decide_eq_false h,decide_eq_false e]
theorem key_lr (a:Int)(b:Str):decide ((Sum.inl a:Key)=Sum.inr b)=false:=decide_eq_false (fun q=>nomatch q)
theorem key_rl (a:Str)(b:Int):decide ((Sum.inr a:Key)=Sum.inl b)=false:=decide_eq_false (fun q=>nomatch q)
noncomputable def mixKind (prog:Program) (w:World):PySem.KeyKind prog w Key where
 is:=keyIs
 hash:=keyH w
 inj:=fun v a b ha hb=>by
  rcases keyIs_shape ha with ⟨i,t,rfl,rfl⟩ | ⟨x,t,rfl,rfl⟩
  ·rcases keyIs_shape hb with ⟨j,u,rfl,e⟩ | ⟨y,u,rfl,e⟩
   ·injection e with e1 _;rw [e1]
   ·exact nomatch e
  ·rcases keyIs_shape hb with ⟨j,u,rfl,e⟩ | ⟨y,u,rfl,e⟩
   ·exact nomatch e
   ·injection e with e1 _;rw [e1]
 byValue:=fun k v h=>by
  rcases keyIs_shape h with ⟨i,t,rfl,rfl⟩ | ⟨x,t,rfl,rfl⟩ <;> rfl
 pyHash:=fun hv h=>by
  rcases keyIs_shape hv with ⟨i,t,rfl,rfl⟩ | ⟨x,t,rfl,rfl⟩
  ·exact wpAny_pyHash_int h
  ·exact wpAny_pyHash_str h
 eqBool:=fun hu hv h=>by
  rcases keyIs_shape hu with ⟨i,t,rfl,rfl⟩ | ⟨x,t,rfl,rfl⟩
  ·rcases keyIs_shape hv with ⟨j,u,rfl,rfl⟩ | ⟨y,u,rfl,rfl⟩
   ·rw [key_ll] at h;exact wpAny_eqBool_int h
   ·rw [key_lr] at h;exact SeqAt.EqAt.int_str i t y u _ _ _ _ h
  ·rcases keyIs_shape hv with ⟨j,u,rfl,rfl⟩ | ⟨y,u,rfl,rfl⟩
   ·rw [key_rl] at h;exact SeqAt.EqAt.str_int x t j u _ _ _ _ h
   ·rw [key_rr] at h;exact wpAny_eqBool_str h
 «strs»:=fun k x t v h=>by
  rcases keyIs_shape h with ⟨i,u,rfl,e⟩ | ⟨y,u,rfl,e⟩
  ·exact nomatch e
  ·injection e with e1 _
   subst e1
   cases v <;> rfl
end L2
namespace L2
open PySem PySem.Spec PyProof.Rows
inductive V where
 | non | bl (b:Bool) | int (i:Int) | str (x:Str) | byt (b:Array UInt8) | flt (b:UInt64) | ref (a:Addr) | ty (n:String)
noncomputable def RelV:V→Value→Prop
 | .non,u=>u=Value.none
 | .bl b,u=>u=Value.bool b
 | .int i,u=>∃t,u=Value.int i t
 | .str x,u=>∃t,u=Value.str x t
 | .byt b,u=>∃t,u=Value.bytes b t
 | .flt b,u=>∃t,u=Value.float b t
 | .ref a,u=>u=Value.ref a
 | .ty n,u=>u=Value.type n
noncomputable abbrev Vals:List V→List Value→Prop:=Paired RelV
theorem Vals.length {xs:List V}{us:List Value}(r:Vals xs us):xs.length=us.length:=Paired.length r
theorem Vals.get:∀{xs:List V} {us:List Value} {i:Nat} {x:V},Vals xs us→xs[i]? =some x→∃u,us[i]? =some u∧RelV x u
 | _,_,_,_,.nil,e=>by simp at e
 | _,_,0,_,.cons r _,e=>by simp at e;subst e;exact ⟨_,rfl,r⟩
 | _,_,i + 1,x,.cons _ t,e=>by
  obtain ⟨u,h1,h2⟩:=Vals.get (i:=i) (x:=x) t (by simpa using e)
  exact ⟨u,by simpa using h1,h2⟩
theorem Vals.set {x:V}{u:Value}(r:RelV x u):∀{xs:List V} {us:List Value} (i:Nat),Vals xs us→Vals (xs.set i x) (us.set i u)
 | _,_,_,.nil=>.nil
 | _,_,0,.cons _ t=>.cons r t
 | _,_,i + 1,.cons q t=>.cons q (Vals.set r i t)
theorem Vals.append:∀{xs ys:List V} {us ws:List Value},Vals xs us→Vals ys ws→Vals (xs ++ ys) (us ++ ws)
 | _,_,_,_,.nil,s=>s
 | _,_,_,_,.cons r t,s=>.cons r (Vals.append t s)
theorem Vals.take:∀{xs:List V} {us:List Value} (n:Nat),Vals xs us→Vals (xs.take n) (us.take n)
 | _,_,0,_=>.nil
 | _,_,_ + 1,.nil=>.nil
 | _,_,n + 1,.cons r t=>.cons r (Vals.take n t)
theorem Vals.drop:∀{xs:List V} {us:List Value} (n:Nat),Vals xs us→Vals (xs.drop n) (us.drop n)
 | _,_,0,r=>r
 | _,_,_ + 1,.nil=>.nil
 | _,_,n + 1,.cons _ t=>Vals.drop n t
noncomputable def RelO:Option V→Option Value→Prop
 | some v,some u=>RelV v u
 | none,none=>True
 | _,_=>False
noncomputable def KV {κ:Type}:List (κ×V)→List (κ×Value)→Prop:=Paired fun (p:κ×V) (q:κ×Value)=>p.1=q.1∧RelV p.2 q.2
noncomputable def kV:Key→V
 | .inl i=>.int i
 | .inr x=>.str x
inductive HO where
 | lst (xs:List V)
 | tup (xs:List V)
 | dK (kvs:List (Key×V)) | dT (kvs:List (List Key×V))
 | set (S:Int→Bool) (n:Nat)
 | ins (C dx:Addr) (fs:List (Str×V))
 | own (x:Addr)
 | xd (fs:List (Str×V))
 | met (f x:Addr)
 | rng (lo hi:Int)
 | frz (o:Obj) (u:HO)
 | tbl (ps:Array Value)
 | ext (φ:Heap→Prop)
noncomputable abbrev Hp:=Addr→Option HO
noncomputable def upd (H:Hp) (a:Addr) (o:HO):Hp:=fun b=>if b=a then some o else H b
theorem upd_same {H:Hp}{a:Addr}{o:HO}:upd H a o a=some o:=by unfold upd;rw [if_pos rfl]
theorem upd_ne {H:Hp}{a b:Addr}{o:HO}(h:b≠a):upd H a o b=H b:=by unfold upd;rw [if_neg h]
theorem ne_of_none {H:Hp}{a b:Addr}{o:HO}(h:H a=some o)(h':H b=none):a≠b:=by
 intro e;subst e;rw [h] at h';cases h'
noncomputable def TupN (h:Heap) (a:Addr) (its:Array Value):Prop:=∃o,h.get? a=some o∧o.cls= .type "tuple"∧(∃n,o.data= .seq its n)∧o.dict=none
theorem TupN.is {h:Heap}{a:Addr}{its:Array Value}(x:TupN h a its):IsTup h a its:=let ⟨o,e,c,d,_⟩:=x;⟨o,e,c,d⟩
theorem TupN.new (h:Heap)(its:Array Value):TupN (h.push {cls:=.type "tuple",data:=.seq its}) h.objs.size its:=⟨_,Heap.get?_push_size _ rfl,rfl,⟨_,rfl⟩,rfl⟩
section
variable (P:Program)(w:World)
noncomputable def ObjOk (H:Hp) (h:Heap) (a:Addr):HO→Prop
 | .lst xs=>xs.length≤sizeLine∧∃(its:List Value) (n:Nat),Vals xs its∧h.get? a=some {cls:=.type "list",data:=.seq its.toArray n}
 | .tup xs=>xs.length≤sizeLine∧∃its:List Value,Vals xs its∧TupN h a its.toArray
 | .dK kvs=>kvs.length≤sizeLine∧(a == sysModules)=false∧∃vs,KV kvs vs∧h.DictOf (mixKind P w) a vs
 | .dT kvs=>kvs.length≤sizeLine∧(a == sysModules)=false∧∃xs:List (List Key×Addr×Value),
   Paired (fun (p:List Key×V) (q:List Key×Addr×Value)=>p.1=q.1∧H q.2.1=some (.tup (p.1.map kV))∧RelV p.2 q.2.2) kvs xs∧
   ∃o es ep,h.get? a=some o∧o.ExactDict∧o.data= .dict es ep∧es.toList=xs.map (entryOfKey (tupleKind (mixKind P w)))∧(xs.map (·.1)).Nodup
 | .set S n=>h.SetOf (intKind P w) a S n
 | .ins C dx fs=>H dx=some (.own a)∧fs.length≤1000∧dx≠a∧h.get? a=some (PySem.W.instObj C dx)∧
   ∃mA,h.Ns1 dx mA∧(∀f,RelO (fs.lookup f) (mA f))∧PySem.Within mA (fs.map (·.1))
 | .own _=>∃o,h.get? a=some o
 | .xd fs=>∃mA,h.Ns1 a mA∧∀f,RelO (fs.lookup f) (mA f)
 | .rng lo hi=>∃t u v,h.get? a=some {cls:=.type "range",data:=.fields #[.int lo t,.int hi u,.int 1 v]}
 | .frz o u=>h.get? a=some o∧ObjOk H h a u
 | .tbl ps=>h.get? a=some {cls:=.none,data:=.fields ps}
 | .met f x=>h.get? a=some (PySem.W.methodObj (.ref f) (.ref x))
 | .ext φ=>φ h∧(∃o,h.get? a=some o)∧∀h1 h2:Heap,φ h1→(∀o,h1.get? a=some o→h2.get? a=some o)→φ h2
noncomputable def HOk (H:Hp) (h:Heap):Prop:=∀a o,H a=some o→ObjOk P w H h a o
end
section
variable {P:Program}{w:World}{H H':Hp}{h h':Heap}{a:Addr}{o:HO}
theorem ObjOk.lt (x:ObjOk P w H h a o):a < h.objs.size:=by
 cases o with
 | lst xs=>obtain ⟨_,_,_,_,e⟩:=x;exact Heap.lt_size e
 | tup xs=>obtain ⟨_,_,_,p⟩:=x;exact p.is.lt
 | dK kvs=>obtain ⟨_,_,_,_,o,_,_,e,_⟩:=x;exact Heap.lt_size e
 | dT kvs=>obtain ⟨_,_,_,_,o,_,_,e,_⟩:=x;exact Heap.lt_size e
 | set S n=>obtain ⟨o,_,_,_,e,_⟩:=x;exact Heap.lt_size e
 | ins C dx fs=>obtain ⟨_,_,_,e,_⟩:=x;exact Heap.lt_size e
 | own y=>obtain ⟨_,e⟩:=x;exact Heap.lt_size e
 | xd fs=>obtain ⟨_,⟨_,_,_,e,_⟩,_⟩:=x;exact Heap.lt_size e
 | rng lo hi=>obtain ⟨_,_,_,e⟩:=x;exact Heap.lt_size e
 | frz ob u=>obtain ⟨e,_⟩:=x;exact Heap.lt_size e
 | tbl ps=>exact Heap.lt_size (show h.get? a=some _ from x)
 | met f y=>exact Heap.lt_size (show h.get? a=some _ from x)
 | ext φ=>obtain ⟨_,⟨_,e⟩,_⟩:=x;exact Heap.lt_size e
theorem Paired.mapP {α β:Type}{F G:α→β→Prop}:∀{l₁:List α} {l₂:List β},Paired F l₁ l₂→(∀a b,F a b→G a b)→Paired G l₁ l₂
 | _,_,.nil,_=>.nil
 | _,_,.cons r t,f=>.cons (f _ _ r) (Paired.mapP t f)
theorem ObjOk.stay (x:ObjOk P w H h a o)(k:∀b u,(b=a∨H b=some (.own a))→h.get? b=some u→h'.get? b=some u)
  (ho:∀b,H b=some (.own a)→H' b=some (.own a)) (ht:∀b xs,H b=some (.tup xs)→H' b=some (.tup xs)):ObjOk P w H' h' a o:=by
 induction o with
 | lst xs=>obtain ⟨z,its,n,r,e⟩:=x;exact ⟨z,its,n,r,k _ _ (.inl rfl) e⟩
 | tup xs=>obtain ⟨z,its,r,ob,e,c⟩:=x;exact ⟨z,its,r,ob,k _ _ (.inl rfl) e,c⟩
 | dK kvs=>obtain ⟨z,y,vs,r,ob,es,ep,e,c⟩:=x;exact ⟨z,y,vs,r,ob,es,ep,k _ _ (.inl rfl) e,c⟩
 | dT kvs=>
  obtain ⟨z,y,xs,r,ob,es,ep,e,c⟩:=x
  exact ⟨z,y,xs,Paired.mapP r fun p q z=>⟨z.1,ht _ _ z.2.1,z.2.2⟩,ob,es,ep,k _ _ (.inl rfl) e,c⟩
 | set S n=>obtain ⟨ob,es,ep,t,e,c⟩:=x;exact ⟨ob,es,ep,t,k _ _ (.inl rfl) e,c⟩
 | ins C dx fs=>
  obtain ⟨d,z,ne,e,mA,⟨od,es,ep,e2,c⟩,r⟩:=x
  exact ⟨ho _ d,z,ne,k _ _ (.inl rfl) e,mA,⟨od,es,ep,k _ _ (.inr d) e2,c⟩,r⟩
 | own y=>obtain ⟨ob,e⟩:=x;exact ⟨ob,k _ _ (.inl rfl) e⟩
 | xd fs=>obtain ⟨mA,⟨od,es,ep,e,c⟩,r⟩:=x;exact ⟨mA,⟨od,es,ep,k _ _ (.inl rfl) e,c⟩,r⟩
 | rng lo hi=>obtain ⟨t,u,v,e⟩:=x;exact ⟨t,u,v,k _ _ (.inl rfl) e⟩
 | frz ob u ih=>obtain ⟨e,q⟩:=x;exact ⟨k _ _ (.inl rfl) e,ih q⟩
 | tbl ps=>
  have e:h.get? a=some {cls:=.none,data:=.fields ps}:=x
  show h'.get? a=some {cls:=.none,data:=.fields ps}
  exact k a _ (.inl rfl) e
 | met f y=>
  have e:h.get? a=some (PySem.W.methodObj (.ref f) (.ref y)):=x
  show h'.get? a=some (PySem.W.methodObj (.ref f) (.ref y))
  exact k a _ (.inl rfl) e
 | ext φ=>obtain ⟨p,⟨o,e⟩,st⟩:=x;exact ⟨st _ _ p fun o q=>k _ _ (.inl rfl) q,⟨o,k _ _ (.inl rfl) e⟩,st⟩
theorem HOk.lt (x:HOk P w H h)(e:H a=some o):a < h.objs.size:=(x a o e).lt
theorem HOk.fresh (x:HOk P w H h)(e:h.objs.size≤a):H a=none:=by
 cases q:H a with
 | none=>rfl
 | some u=>exact absurd (Nat.lt_of_lt_of_le (x.lt q) e) (Nat.lt_irrefl _)
theorem HOk.kept (x:HOk P w H h)(k:∀b u,h.get? b=some u→h'.get? b=some u):HOk P w H h':=fun a o e=>
 (x a o e).stay (fun b u _ q=>k b u q) (fun _ q=>q) fun _ _ q=>q
theorem HOk.laid (x:HOk P w H h)(k:∀b u,h.get? b=some u→h'.get? b=some u)(hp:h.objs.size≤a)(new:ObjOk P w (upd H a o) h' a o):HOk P w (upd H a o) h':=fun b u e=>by
 have hn:=x.fresh hp
 by_cases hb:b=a
 ·subst hb;rw [upd_same] at e;cases e;exact new
 ·rw [upd_ne hb] at e
  exact (x b u e).stay (fun c v _ q=>k c v q) (fun c q=>by rw [upd_ne (ne_of_none q hn)];exact q) fun c xs q=>by rw [upd_ne (ne_of_none q hn)];exact q
end
noncomputable def Rd (H:Hp) (a:Addr) (u:HO):Prop:=H a=some u∨∃o,H a=some (.frz o u)
theorem Rd.of {H:Hp}{a:Addr}{u:HO}(h:H a=some u):Rd H a u:=.inl h
theorem Rd.ok {P:Program}{w:World}{H:Hp}{h:Heap}{a:Addr}{u:HO}(r:Rd H a u)(x:HOk P w H h):ObjOk P w H h a u:=by
 rcases r with r | ⟨o,r⟩
 ·exact x a u r
 ·obtain ⟨_,q⟩:=x a _ r
  exact q
noncomputable def Mut:Option HO→Prop
 | some (.lst _)=>True
 | some (.dK _)=>True
 | some (.dT _)=>True
 | some (.set _ _)=>True
 | some (.ins _ _ _)=>True
 | some (.ext _)=>True
 | _=>False
section
variable {P:Program}{w:World}{H:Hp}{h h':Heap}{x e:Addr}{o':HO}
theorem HOk.write (ok:HOk P w H h)(mu:Mut (H x))(he:e=x∨H e=some (.own x))(k:∀b u,b≠e→h.get? b=some u→h'.get? b=some u)(heo:∃u,h'.get? e=some u)
  (new:ObjOk P w (upd H x o') h' x o'):HOk P w (upd H x o') h':=fun b u q=>by
 have nown:∀c y,H c=some (.own y)→c≠x:=fun c y r z=>by subst z;rw [r] at mu;exact mu
 have ntup:∀c xs,H c=some (.tup xs)→c≠x:=fun c xs r z=>by subst z;rw [r] at mu;exact mu
 by_cases hb:b=x
 ·subst hb;rw [upd_same] at q;cases q;exact new
 ·rw [upd_ne hb] at q
  by_cases hbe:b=e
  ·have q':H b=some (.own x):=by
    rcases he with z | z
    ·exact absurd (hbe.trans z) hb
    ·rw [hbe];exact z
   rw [q] at q';cases q'
   obtain ⟨v,hv⟩:=heo
   exact ⟨v,by rw [hbe];exact hv⟩
  ·refine (ok b u q).stay (fun c v hc r=>k c v ?_ r) (fun c r=>by rw [upd_ne (nown c b r)];exact r) fun c xs r=>by rw [upd_ne (ntup c xs r)];exact r
   rcases hc with rfl | hc
   ·exact hbe
   ·rintro rfl
    rcases he with z | z
    ·exact nown c b hc z
    ·rw [hc] at z;cases z;exact hb rfl
end
structure Un (fs ex:List Addr) (H H':Hp) (h h':Heap):Prop where
 keep:∀b o,h.get? b=some o→H b=none→b∉fs→b∉ex→h'.get? b=some o
 slot:∀b o,h.get? b=some o→H b=none→b∈fs→b∉ex→∃sl,h'.get? b=some {o with slots:=sl}
 free:∀b o,h.get? b=some o→H b=none→b∉ex→H' b=none
 there:∀b o,h.get? b=some o→b∉ex→∃o',h'.get? b=some o'
 tups:∀b xs,H b=some (.tup xs)→H' b=some (.tup xs)
 frzs:∀b o u,H b=some (.frz o u)→H' b=some (.frz o u)
 tbls:∀b ps,H b=some (.tbl ps)→∃more,H' b=some (.tbl (ps ++ more))
section
variable {fs fs' ex ex':List Addr}{H H1 H2:Hp}{h h1 h2 h':Heap}{a x e:Addr}{o:HO}
theorem Un.any (u:Un fs ex H H1 h h1){b:Addr}{ob:Obj}(q:h.get? b=some ob)(n:H b=none)(hx:b∉ex):∃sl,h1.get? b=some {ob with slots:=sl}:=by
 by_cases hb:b∈fs
 ·exact u.slot b ob q n hb hx
 ·exact ⟨ob.slots,u.keep b ob q n hb hx⟩
theorem Un.trans (a:Un fs ex H H1 h h1)(b:Un fs ex H1 H2 h1 h2):Un fs ex H H2 h h2 where
 keep:=fun c ob q n hc hx=>b.keep c ob (a.keep c ob q n hc hx) (a.free c ob q n hx) hc hx
 slot:=fun c ob q n hc hx=>by
  obtain ⟨sl,e1⟩:=a.slot c ob q n hc hx
  obtain ⟨sl',e2⟩:=b.slot c _ e1 (a.free c ob q n hx) hc hx
  exact ⟨sl',e2⟩
 free:=fun c ob q n hx=>by
  obtain ⟨o',e1⟩:=a.there c ob q hx
  exact b.free c o' e1 (a.free c ob q n hx) hx
 there:=fun c ob q hx=>by
  obtain ⟨o',e1⟩:=a.there c ob q hx
  exact b.there c o' e1 hx
 tups:=fun c xs q=>b.tups c xs (a.tups c xs q)
 frzs:=fun c ob xs q=>b.frzs c ob xs (a.frzs c ob xs q)
 tbls:=fun c ps q=>by
  obtain ⟨m1,e1⟩:=a.tbls c ps q
  obtain ⟨m2,e2⟩:=b.tbls c _ e1
  exact ⟨m1 ++ m2,by rw [e2,Array.append_assoc]⟩
theorem Un.kept (k:∀b u,h.get? b=some u→h'.get? b=some u):Un fs ex H H h h':=
 ⟨fun b ob q _ _ _=>k b ob q,fun b ob q _ _ _=>⟨ob.slots,k b ob q⟩,fun _ _ _ n _=>n,fun b ob q _=>⟨ob,k b ob q⟩,fun _ _ q=>q,fun _ _ _ q=>q,fun _ ps q=>⟨#[],by rw [q];simp⟩⟩
theorem Un.refl:Un fs ex H H h h:=Un.kept fun _ _ q=>q
theorem Un.laid (k:∀b u,h.get? b=some u→h'.get? b=some u)(hp:h.objs.size≤a)(hn:H a=none):Un fs ex H (upd H a o) h h' where
 keep:=fun b u q _ _ _=>k b u q
 slot:=fun b u q _ _ _=>⟨u.slots,k b u q⟩
 free:=fun b u q n _=>by rw [upd_ne (Nat.ne_of_lt (Nat.lt_of_lt_of_le (Heap.lt_size q) hp))];exact n
 there:=fun b u q _=>⟨u,k b u q⟩
 tups:=fun b xs q=>by rw [upd_ne (ne_of_none q hn)];exact q
 frzs:=fun b u xs q=>by rw [upd_ne (ne_of_none q hn)];exact q
 tbls:=fun b ps q=>⟨#[],by rw [upd_ne (ne_of_none q hn),q];simp⟩
theorem Un.write (mu:Mut (H x))(he:e=x∨H e=some (.own x))(k:∀b u,b≠e→h.get? b=some u→h'.get? b=some u)(heo:∃u,h'.get? e=some u):Un fs ex H (upd H x o) h h':=by
 have hx:∀b,H b=none→b≠x:=fun b n z=>by subst z;rw [n] at mu;exact mu
 have hb:∀b,H b=none→b≠e:=fun b n z=>by
  subst z
  rcases he with r | r
  ·exact hx b n r
  ·rw [n] at r;cases r
 have hm:∀b u,H b=some u→¬Mut (some u)→b≠x:=fun b u q nm z=>by subst z;rw [q] at mu;exact nm mu
 refine ⟨fun b u q n _ _=>k b u (hb b n) q,fun b u q n _ _=>⟨u.slots,k b u (hb b n) q⟩,fun b u q n _=>by rw [upd_ne (hx b n)];exact n,fun b u q _=>?_,
  fun b xs q=>by rw [upd_ne (hm b _ q fun z=>z)];exact q,fun b u xs q=>by rw [upd_ne (hm b _ q fun z=>z)];exact q,fun b ps q=>⟨#[],by rw [upd_ne (hm b _ q fun z=>z),q];simp⟩⟩
 by_cases hbe:b=e
 ·subst hbe;exact heo
 ·exact ⟨u,k b u hbe q⟩
theorem Un.mono (u:Un fs ex H H1 h h1)(hs:∀b∈fs,b∈fs')(hx:∀b∈ex,b∈ex'):Un fs' ex' H H1 h h1:=
 ⟨fun b ob q n hb he=>u.keep b ob q n (fun z=>hb (hs b z)) fun z=>he (hx b z),fun _ _ q n _ he=>u.any q n fun z=>he (hx _ z),fun b ob q n he=>u.free b ob q n fun z=>he (hx b z),fun b ob q he=>u.there b ob q fun z=>he (hx b z),u.tups,u.frzs,u.tbls⟩
end
noncomputable def trk (h:Heap) (H:Hp):List Addr:=(List.range h.objs.size).filter fun a=>(H a).isSome
noncomputable def hidT (h:Heap) (H:Hp):Heap:=PySem.W.hideAll h (trk h H)
theorem hidT_size (h:Heap)(H:Hp):(hidT h H).objs.size=h.objs.size:=PySem.W.hideAll_size _ _
theorem hidT_get {h:Heap}{H:Hp}{b:Addr}{o:Obj}(e:h.get? b=some o)(n:H b=none):(hidT h H).get? b=some o:=
 PySem.W.hideAll_get _ e fun hm=>by
  have q:(H b).isSome=true:=(List.mem_filter.mp hm).2
  rw [n] at q;simp at q
theorem of_hidT {h:Heap}{H:Hp}{b:Addr}{o:Obj}(e:(hidT h H).get? b=some o):h.get? b=some o∧H b=none:=by
 have e':h.get? b=some o:=PySem.W.of_hideAll (trk h H) e
 refine ⟨e',?_⟩
 cases q:H b with
 | none=>rfl
 | some x=>
  have hm:b∈trk h H:=List.mem_filter.mpr ⟨List.mem_range.mpr (Heap.lt_size e'),by simp [q]⟩
  have z:(hidT h H).get? b=none:=PySem.W.hideAll_none (trk h H) hm
  rw [z] at e;cases e
noncomputable def allNews (g h:Heap) (L:Addr):List (Addr×Obj):=(List.range h.objs.size).filterMap fun a=>if a=L∨(g.get? a).isSome=true then none else (h.get? a).map fun o=>(a,o)
noncomputable def rest (g h:Heap) (L d:Addr):List (Addr×Obj):=(allNews g h L).filter fun p=>decide (p.1≠d)
end L2
namespace L2
open PySem PySem.Spec PyProof.Rows
structure Mod (K:PySem.W.Frag) (mg:Str→Option Value) (base:Heap):Prop where
 kin:K.In base
 glob:base.Ns mainGlobals mg
 blt:∃mb,base.Ns builtinsNs mb∧∀x:Str,x≠"__name__"→mb x=bootBuiltins x
 nolimit:base.NoLimit
structure Cx where
 prog:Program
 w:World
 K:PySem.W.Frag
 mg:Str→Option Value
 base:Heap
 A:Around
 N:List Str
 s₀:Shared
 H₀:Hp
 env:Env
 outer:List Env
 stack:List Env
 ex:List Addr
 fn:Str→Bool
 calm:Bool
 pn:List (Addr×Obj)
 xe:Value→Shared→Prop
noncomputable def frs (l:List Env):List Addr:=l.filterMap (·.frame)
noncomputable abbrev Cx.fs (X:Cx):List Addr:=frs X.outer
noncomputable def Vis (sc:Scope) (x:Str):Prop:=sc.names.lookup x=some .local∨sc.names.lookup x=some .cell∨sc.names.lookup x=some .free
noncomputable def Loc (sc:Scope) (x:Str):Prop:=sc.names.lookup x=some .local∨sc.names.lookup x=some .cell
noncomputable def Look (env:Env) (h:Heap) (m:Str→Option Value) (x:Str) (u:Value):Prop:=
 (env.kindOf x=some .local∧m x=some u)∨((env.kindOf x=some .cell∨env.kindOf x=some .free)∧∃c,env.cells.lookup x=some c∧h.IsCell c (some u))
structure Cx.Ok (X:Cx):Prop where
 mod:Mod X.K X.mg X.base
 kind:X.env.scope.kind= .function
 glob:X.env.globals=mainGlobals
 blt:X.env.builtins=builtinsNs
 above:X.s₀.heap.objs.size≤X.env.locals
 inj:∀x y c,X.env.cells.lookup x=some c→X.env.cells.lookup y=some c→x=y
 has:∀x,(X.env.kindOf x=some .cell∨X.env.kindOf x=some .free)→∃c,X.env.cells.lookup x=some c
 cab:∀x c,X.fn x=true→X.env.cells.lookup x=some c→X.s₀.heap.objs.size≤c
 hd:X.calm=true→X.A.handled=none
 frames:X.A.frames=some X.stack
 stk:X.stack=X.outer∨(X.stack=X.env :: X.outer∧X.env.frame=some X.env.locals)
 exf:∀b∈X.ex,b≠X.env.locals∧∀x c,X.env.cells.lookup x=some c→c≠b
 bs:∀b o,X.base.get? b=some o→X.s₀.heap.get? b=some o∧X.H₀ b=none
 bsz:X.base.objs.size≤X.s₀.heap.objs.size
 noex:∀b o,X.base.get? b=some o→b∉X.ex
 exfs:∀b∈X.ex,b∉X.fs
 funs:X.s₀.heap.FunFrames X.base X.outer
 frf:∀b∈X.fs,X.H₀ b=none
structure Inv (X:Cx) (pins:List (Addr×Obj)) (σ:List (Option V)) (H:Hp) (s:Shared):Prop where
 ok:X.Ok
 os:s.os=X.s₀.os
 bare:AllBare s.gens
 base:Un X.fs X.ex X.H₀ H X.s₀.heap s.heap
 loc:∃m,s.heap.Ns X.env.locals m∧∀(i:Nat) (x:Str) (v:V),X.N[i]? =some x→σ[i]? =some (some v)→Vis X.env.scope x→∃u,RelV v u∧Look X.env s.heap m x u
 cell:∀x c,X.env.cells.lookup x=some c→∃v,s.heap.IsCell c v
 free:H X.env.locals=none
 freeC:∀x c,X.env.cells.lookup x=some c→H c=none
 pin:∀p∈X.pn ++ pins,s.heap.get? p.1=some p.2∧H p.1=none∧p.1≠X.env.locals∧p.1∉X.fs∧∀v,p.2.data≠.cell v
 hok:HOk X.prog X.w H s.heap
 len:σ.length=X.N.length
section
variable {X:Cx}{pins:List (Addr×Obj)}{σ:List (Option V)}{H H':Hp}{s:Shared}{h':Heap}
theorem Cx.Ok.nofr (ok:X.Ok){b:Addr}{o:Obj}(e:X.base.get? b=some o):b∉X.fs:=fun hb=>by
 have:=(ok.funs.mem hb).1
 rw [e] at this;cases this
theorem Inv.bs (I:Inv X pins σ H s):∀b o,X.base.get? b=some o→s.heap.get? b=some o∧H b=none:=fun b o e=>
 ⟨I.base.keep b o (I.ok.bs b o e).1 (I.ok.bs b o e).2 (I.ok.nofr e) (I.ok.noex b o e),I.base.free b o (I.ok.bs b o e).1 (I.ok.bs b o e).2 (I.ok.noex b o e)⟩
theorem Inv.bk (I:Inv X pins σ H s):∀b o,X.base.get? b=some o→s.heap.get? b=some o:=fun b o e=>(I.bs b o e).1
theorem Inv.mod (I:Inv X pins σ H s):Mod X.K X.mg X.base:=I.ok.mod
theorem Inv.kIn (I:Inv X pins σ H s):X.K.In s.heap:=I.ok.mod.kin.keeps I.bk
theorem Inv.nolimit (I:Inv X pins σ H s):s.heap.NoLimit:=I.ok.mod.nolimit.keeps I.bk
theorem Inv.lt (I:Inv X pins σ H s):X.env.locals < s.heap.objs.size:=let ⟨_,hn,_⟩:=I.loc;hn.lt
theorem Inv.sz (I:Inv X pins σ H s):X.s₀.heap.objs.size≤s.heap.objs.size:=Nat.le_trans I.ok.above (Nat.le_of_lt I.lt)
theorem Inv.nofs (I:Inv X pins σ H s){a:Addr}(h:s.heap.objs.size≤a):a∉X.fs:=fun hb=>by
 obtain ⟨_,o,ho,_⟩:=I.ok.funs.mem hb
 exact absurd (Nat.lt_of_lt_of_le (Heap.lt_size ho) (Nat.le_trans I.sz h)) (Nat.lt_irrefl _)
theorem Inv.cne (I:Inv X pins σ H s):∀x c,X.env.cells.lookup x=some c→c≠X.env.locals:=fun x c e z=>by
 obtain ⟨v,o,ho,hd⟩:=I.cell x c e
 obtain ⟨m,⟨o',es,ep,ho',hd',_⟩,_⟩:=I.loc
 rw [z,ho'] at ho;cases ho;rw [hd'] at hd;cases hd
theorem Inv.funs (I:Inv X pins σ H s):s.heap.FunFrames X.base X.outer:=by
 have all:∀(l:List Env),(∀b∈frs l,b∈X.fs)→X.s₀.heap.FunFrames X.base l→s.heap.FunFrames X.base l:=by
  intro l
  induction l with
  | nil=>intro _ _;trivial
  | cons env r ih=>
   intro hs hl
   obtain ⟨hk,⟨L,o,hf,hn,ho,hd⟩,hr⟩:=hl
   have hL:L∈X.fs:=hs L (by unfold frs;rw [List.filterMap_cons,hf];exact List.mem_cons_self)
   obtain ⟨sl,e⟩:=I.base.slot L o ho (I.ok.frf L hL) hL fun z=>I.ok.exfs L z hL
   exact ⟨hk,⟨L,_,hf,hn,e,hd⟩,ih (fun b hb=>hs b (by unfold frs;rw [List.filterMap_cons,hf];exact List.mem_cons_of_mem _ hb)) hr⟩
 exact all X.outer (fun _ hb=>hb) I.ok.funs
theorem Inv.stack (I:Inv X pins σ H s):s.heap.FunFrames X.base X.stack:=by
 rcases I.ok.stk with e | ⟨e,hf⟩
 ·rw [e];exact I.funs
 ·rw [e]
  obtain ⟨m,hn,_⟩:=I.loc
  refine .cons (by rw [I.ok.kind];decide) hf hn ?_ I.funs
  exact Heap.get?_none_of_le (Nat.le_trans I.ok.bsz I.ok.above)
theorem Inv.stkSub (I:Inv X pins σ H s):∀b∈frs X.stack,b∈X.env.locals :: X.fs:=fun b hb=>by
 rcases I.ok.stk with e | ⟨e,hf⟩
 ·rw [e] at hb;exact List.mem_cons_of_mem _ hb
 ·rw [e] at hb
  unfold frs at hb
  rw [List.filterMap_cons,hf] at hb
  exact hb
theorem Inv.stkFree (I:Inv X pins σ H s):∀b∈frs X.stack,H b=none:=fun b hb=>by
 rcases List.mem_cons.mp (I.stkSub b hb) with e | hb
 ·rw [e];exact I.free
 ·obtain ⟨_,o,ho,_⟩:=I.ok.funs.mem hb
  exact I.base.free b o ho (I.ok.frf b hb) fun z=>I.ok.exfs b z hb
theorem Inv.step {g':Array GenState}{t':Nat}{d':Drawn}{ch:List Addr}(I:Inv X pins σ H s)
  (hch:∀b∈ch,(b∈X.ex∨X.s₀.heap.objs.size≤b)∧b≠X.env.locals∧(∀x c,X.env.cells.lookup x=some c→c≠b)∧∀p∈X.pn ++ pins,p.1≠b)
  (keep:∀b o,b≠X.env.locals→b∉X.fs→b∉ch→s.heap.get? b=some o→H b=none→h'.get? b=some o)
  (slot:∀b o,b≠X.env.locals→b∈X.fs→b∉ch→s.heap.get? b=some o→H b=none→∃sl,h'.get? b=some {o with slots:=sl}) (free:∀b o,b∉ch→s.heap.get? b=some o→H b=none→H' b=none)
  (there:∀b o,b∉ch→s.heap.get? b=some o→∃o',h'.get? b=some o')
  (tups:∀b xs,H b=some (.tup xs)→H' b=some (.tup xs)) (frzs:∀b o u,H b=some (.frz o u)→H' b=some (.frz o u)) (tbls:∀b ps,H b=some (.tbl ps)→∃more,H' b=some (.tbl (ps ++ more)))
  (ns:∀m,s.heap.Ns X.env.locals m→h'.Ns X.env.locals m) (hok:HOk X.prog X.w H' h') (hg:AllBare g'):
  Inv X pins σ H' {s with heap:=h',gens:=g',drawn:=d',toks:=t'}:=by
 have neL:∀b o,X.s₀.heap.get? b=some o→b≠X.env.locals:=fun b o e=>Nat.ne_of_lt (Nat.lt_of_lt_of_le (Heap.lt_size e) I.ok.above)
 have neC:∀b o,X.s₀.heap.get? b=some o→b∉X.ex→b∉ch:=fun b o e hx hb=>by
  rcases (hch b hb).1 with z | z
  ·exact hx z
  ·exact absurd (Nat.lt_of_lt_of_le (Heap.lt_size e) z) (Nat.lt_irrefl _)
 have cellK:∀x c,X.env.cells.lookup x=some c→∀v,s.heap.IsCell c v→h'.IsCell c v:=fun x c e v ⟨o,ho,hd⟩=>by
  have nch:c∉ch:=fun z=>(hch c z).2.2.1 x c e rfl
  by_cases hc:c∈X.fs
  ·obtain ⟨sl,q⟩:=slot c o (I.cne x c e) hc nch ho (I.freeC x c e)
   exact ⟨_,q,hd⟩
  ·exact ⟨o,keep c o (I.cne x c e) hc nch ho (I.freeC x c e),hd⟩
 refine ⟨I.ok,I.os,hg,⟨fun b o e n hb hx=>?_,fun b o e n hb hx=>?_,fun b o e n hx=>?_,fun b o e hx=>?_,fun b xs e=>tups b xs (I.base.tups b xs e),fun b o xs e=>frzs b o xs (I.base.frzs b o xs e),fun b ps e=>?_⟩,?_,fun x c e=>?_,?_,fun x c e=>?_,fun p hp=>?_,hok,I.len⟩
 ·exact keep b o (neL b o e) hb (neC b o e hx) (I.base.keep b o e n hb hx) (I.base.free b o e n hx)
 ·obtain ⟨sl,e1⟩:=I.base.slot b o e n hb hx
  obtain ⟨sl',e2⟩:=slot b _ (neL b o e) hb (neC b o e hx) e1 (I.base.free b o e n hx)
  exact ⟨sl',e2⟩
 ·obtain ⟨o',e1⟩:=I.base.there b o e hx
  exact free b o' (neC b o e hx) e1 (I.base.free b o e n hx)
 ·obtain ⟨o',e1⟩:=I.base.there b o e hx
  exact there b o' (neC b o e hx) e1
 ·obtain ⟨m1,e1⟩:=I.base.tbls b ps e
  obtain ⟨m2,e2⟩:=tbls b _ e1
  exact ⟨m1 ++ m2,by rw [e2,Array.append_assoc]⟩
 ·obtain ⟨m,hn,hl⟩:=I.loc
  refine ⟨m,ns m hn,fun i x v e1 e2 e3=>?_⟩
  obtain ⟨u,r,l⟩:=hl i x v e1 e2 e3
  refine ⟨u,r,?_⟩
  rcases l with l | ⟨k,c,e,z⟩
  ·exact .inl l
  ·exact .inr ⟨k,c,e,cellK x c e _ z⟩
 ·obtain ⟨v,z⟩:=I.cell x c e
  exact ⟨v,cellK x c e v z⟩
 ·obtain ⟨m,⟨o,_,_,ho,_⟩,_⟩:=I.loc
  exact free _ o (fun z=>(hch _ z).2.1 rfl) ho I.free
 ·obtain ⟨v,o,ho,hd⟩:=I.cell x c e
  exact free c o (fun z=>(hch c z).2.2.1 x c e rfl) ho (I.freeC x c e)
 ·obtain ⟨e,n,ne,nf,d⟩:=I.pin p hp
  have nch:p.1∉ch:=fun z=>(hch p.1 z).2.2.2 p hp rfl
  exact ⟨keep p.1 p.2 ne nf nch e n,free p.1 p.2 nch e n,ne,nf,d⟩
theorem Inv.un {t':Nat}(I:Inv X pins σ H s)(u:Un X.fs [] H H' s.heap h')(hok:HOk X.prog X.w H' h'):Inv X pins σ H' {s with heap:=h',toks:=t'}:=by
 obtain ⟨m,⟨o,es,ep,ho,r⟩,_⟩:=id I.loc
 obtain ⟨sl,hL⟩:=u.any ho I.free (by simp)
 exact I.step (g':=s.gens) (d':=s.drawn) (ch:=[]) (fun _ z=>nomatch z) (fun b o _ hb _ e n=>u.keep b o e n hb (by simp)) (fun b o _ hb _ e n=>u.slot b o e n hb (by simp)) (fun b o _ e n=>u.free b o e n (by simp)) (fun b o _ e=>u.there b o e (by simp)) u.tups u.frzs u.tbls (fun m' hm=>by
  obtain ⟨o',es',ep',ho',r'⟩:=hm
  rw [ho] at ho';cases ho'
  exact ⟨_,es',ep',hL,r'⟩) hok I.bare
theorem Inv.call {g':Array GenState}{t':Nat}{d':Drawn}{ch:List Addr}(I:Inv X pins σ H s)(u:Un (frs X.stack) ch H H' s.heap h')(hok:HOk X.prog X.w H' h')(hg:AllBare g')
  (hch:∀b∈ch,(b∈X.ex∨X.s₀.heap.objs.size≤b)∧b≠X.env.locals∧(∀x c,X.env.cells.lookup x=some c→c≠b)∧∀p∈X.pn ++ pins,p.1≠b):
  Inv X pins σ H' {s with heap:=h',gens:=g',drawn:=d',toks:=t'}:=by
 obtain ⟨m,⟨o,es,ep,ho,r⟩,_⟩:=id I.loc
 obtain ⟨sl,hL⟩:=u.any ho I.free fun z=>(hch _ z).2.1 rfl
 exact I.step (ch:=ch) hch (fun b o hL hb hc e n=>u.keep b o e n (fun z=>(List.mem_cons.mp (I.stkSub b z)).elim hL hb) hc) (fun b o _ _ hc e n=>u.any e n hc) (fun b o hc e n=>u.free b o e n hc) (fun b o hc e=>u.there b o e hc) u.tups u.frzs u.tbls (fun m' hm=>by
  obtain ⟨o',es',ep',ho',r'⟩:=hm
  rw [ho] at ho';cases ho'
  exact ⟨_,es',ep',hL,r'⟩) hok hg
theorem Inv.turned {t':Nat}{it:Addr}(I:Inv X pins σ H s)(k:∀b o,b≠it→s.heap.get? b=some o→h'.get? b=some o)(hn:H it=none)(hL:it≠X.env.locals)
  (h1:it∈X.ex∨X.s₀.heap.objs.size≤it) (h2:∀x c,X.env.cells.lookup x=some c→c≠it) (h3:∀p∈X.pn ++ pins,p.1≠it):Inv X pins σ H {s with heap:=h',toks:=t'}:=by
 have nit:∀b u,H b=some u→b≠it:=fun b u e z=>by rw [z,hn] at e;cases e
 refine I.step (g':=s.gens) (d':=s.drawn) (ch:=[it]) (fun b hb=>?_) (fun b o _ _ hc e _=>k b o (fun z=>hc (by simp [z])) e) (fun b o _ _ hc e _=>⟨o.slots,k b o (fun z=>hc (by simp [z])) e⟩) (fun _ _ _ _ n=>n)
  (fun b o hc e=>⟨o,k b o (fun z=>hc (by simp [z])) e⟩) (fun _ _ e=>e) (fun _ _ _ e=>e) (fun b ps e=>⟨#[],by rw [e];simp⟩) (fun m hm=>?_) (fun b u e=>?_) I.bare
 ·have e:b=it:=by simpa using hb
  subst e
  exact ⟨h1,hL,h2,h3⟩
 ·obtain ⟨o,es,ep,ho,r⟩:=hm
  exact ⟨o,es,ep,k _ o (Ne.symm hL) ho,r⟩
 ·refine (I.hok b u e).stay (fun c v hc q=>k c v ?_ q) (fun _ q=>q) fun _ _ q=>q
  rcases hc with z | z
  ·rw [z];exact nit b u e
  ·exact nit c _ z
theorem Inv.tok (I:Inv X pins σ H s)(t:Nat):Inv X pins σ H {s with toks:=t}:=I.un (h':=s.heap) (t':=t) Un.refl I.hok
theorem Inv.kept {t':Nat}(I:Inv X pins σ H s)(k:∀b u,s.heap.get? b=some u→h'.get? b=some u):Inv X pins σ H {s with heap:=h',toks:=t'}:=I.un (Un.kept k) (I.hok.kept k)
theorem Inv.laid {a:Addr}{o:HO}{t':Nat}(I:Inv X pins σ H s)(k:∀b u,s.heap.get? b=some u→h'.get? b=some u)(hp:s.heap.objs.size≤a)(new:ObjOk X.prog X.w (upd H a o) h' a o):
  Inv X pins σ (upd H a o) {s with heap:=h',toks:=t'}:=I.un (Un.laid k hp (I.hok.fresh hp)) (I.hok.laid k hp new)
theorem Inv.write {x e:Addr}{o:HO}{t':Nat}(I:Inv X pins σ H s)(mu:Mut (H x))(he:e=x∨H e=some (.own x))(k:∀b u,b≠e→s.heap.get? b=some u→h'.get? b=some u)(heo:∃u,h'.get? e=some u)
  (new:ObjOk X.prog X.w (upd H x o) h' x o):Inv X pins σ (upd H x o) {s with heap:=h',toks:=t'}:=I.un (Un.write mu he k heo) (I.hok.write mu he k heo new)
theorem Inv.weak {σ':List (Option V)}(I:Inv X pins σ H s)(hl:σ'.length=σ.length)(w:∀(i:Nat) v,σ'[i]? =some (some v)→σ[i]? =some (some v)):Inv X pins σ' H s:=
 ⟨I.ok,I.os,I.bare,I.base,let ⟨m,hn,hl'⟩:=I.loc;⟨m,hn,fun i x v e1 e2 e3=>hl' i x v e1 (w i v e2) e3⟩,I.cell,I.free,I.freeC,I.pin,I.hok,hl.trans I.len⟩
theorem Inv.pins_of {pins':List (Addr×Obj)}(I:Inv X pins σ H s)(h:∀p∈pins',s.heap.get? p.1=some p.2∧H p.1=none∧p.1≠X.env.locals∧p.1∉X.fs∧∀v,p.2.data≠.cell v):Inv X pins' σ H s:=
 ⟨I.ok,I.os,I.bare,I.base,I.loc,I.cell,I.free,I.freeC,fun p hp=>(List.mem_append.mp hp).elim (fun z=>I.pin p (List.mem_append_left _ z)) (h p),I.hok,I.len⟩
theorem nodup_ix {N:List Str}(hN:N.Nodup){i j:Nat}{x:Str}(a:N[i]? =some x)(b:N[j]? =some x):i=j:=by
 obtain ⟨h1,e1⟩:=List.getElem?_eq_some_iff.mp a
 obtain ⟨h2,e2⟩:=List.getElem?_eq_some_iff.mp b
 exact (List.getElem_inj hN).mp (e1.trans e2.symm)
theorem store_ok2 {M:Model}{A:Around}{E:Value→Shared→Prop}{i:Nat}{x:Str}{v:V}{u:Value}{Q:Unit→Shared→Prop}(I:Inv X pins σ H s)(hN:X.N.Nodup)(hi:X.N[i]? =some x)(hx:Loc X.env.scope x)(r:RelV v u)
  (h:∀s',Inv X pins (σ.set i (some v)) H s'→(∃a,Heap.SameBut a s.heap s'.heap∧(a=X.env.locals∨X.env.cells.lookup x=some a))→Q () s') (hf:autoParam (X.fn x=true∨X.env.scope.names.lookup x=some .local) Zau.a0._auto_1):wpAny M A (storeName X.env x u) Q E s:=by
 obtain ⟨m,hn,hl⟩:=id I.loc
 have hcls:(X.env.scope.kind == .class || (X.env.scope.kind == .module && X.env.locals != X.env.globals))=false:=by rw [I.ok.kind];rfl
 have hiσ:i < σ.length:=by rw [I.len];exact (List.getElem?_eq_some_iff.mp hi).1
 have cne:=I.cne
 have tracked:∀{a:Addr} {h':Heap},(∃o,s.heap.get? a=some o∧H a=none)→Heap.SameBut a s.heap h'→HOk X.prog X.w H h':=fun {a h'} ha hs b ob e=>by
  obtain ⟨_,_,hfree⟩:=ha
  refine (I.hok b ob e).stay (fun c w' hc q=>(hs.2 c ?_).trans q) (fun _ q=>q) fun _ _ q=>q
  rintro rfl
  rcases hc with rfl | hc
  ·rw [hfree] at e;cases e
  ·rw [hfree] at hc;cases hc
 rcases hx with hk | hk
 ·refine wpAny_storeName_local hk hn (fun h' hn' hs=>?_) hcls
  obtain ⟨oL,_,_,hoL,_⟩:=id hn
  refine h _ ⟨I.ok,I.os,I.bare,⟨fun b o e n hb hx=>?_,fun b o e n hb hx=>?_,I.base.free,fun b o e hx=>?_,I.base.tups,I.base.frzs,I.base.tbls⟩,⟨_,hn',fun j y v' e1 e2 e3=>?_⟩,fun y c e=>?_,I.free,I.freeC,fun p hp=>?_,tracked ⟨oL,hoL,I.free⟩ hs,by simpa using I.len⟩ ⟨_,hs,.inl rfl⟩
  ·exact (hs.2 b (Nat.ne_of_lt (Nat.lt_of_lt_of_le (Heap.lt_size e) I.ok.above))).trans (I.base.keep b o e n hb hx)
  ·obtain ⟨sl,e1⟩:=I.base.slot b o e n hb hx
   exact ⟨sl,(hs.2 b (Nat.ne_of_lt (Nat.lt_of_lt_of_le (Heap.lt_size e) I.ok.above))).trans e1⟩
  ·obtain ⟨o',e1⟩:=I.base.there b o e hx
   exact ⟨o',(hs.2 b (Nat.ne_of_lt (Nat.lt_of_lt_of_le (Heap.lt_size e) I.ok.above))).trans e1⟩
  ·by_cases hj:j=i
   ·subst hj
    rw [hi] at e1;cases e1
    rw [List.getElem?_set_self hiσ] at e2
    cases e2
    exact ⟨u,r,.inl ⟨hk,by simp⟩⟩
   ·rw [List.getElem?_set_ne (Ne.symm hj)] at e2
    obtain ⟨u',r',q⟩:=hl j y v' e1 e2 e3
    refine ⟨u',r',?_⟩
    rcases q with ⟨k,e⟩ | ⟨k,c,e,z⟩
    ·refine .inl ⟨k,?_⟩
     have:y≠x:=fun e=>hj (nodup_ix hN e1 (e▸hi))
     simp [this,e]
    ·exact .inr ⟨k,c,e,z.sameBut hs (cne y c e)⟩
  ·obtain ⟨w',z⟩:=I.cell y c e
   exact ⟨w',z.sameBut hs (cne y c e)⟩
  ·obtain ⟨e,n,ne,nf,d⟩:=I.pin p hp
   exact ⟨(hs.2 p.1 ne).trans e,n,ne,nf,d⟩
 ·have hfn:X.fn x=true:=by
   rcases hf with z | z
   ·exact z
   ·rw [z] at hk;cases hk
  obtain ⟨c,hc⟩:=I.ok.has x (.inl hk)
  obtain ⟨w',z⟩:=I.cell x c hc
  refine wpAny_storeName_cell I.ok.kind hk hc z (fun h' hc' hs=>?_)
  obtain ⟨oc,hoc,hocd⟩:=id z
  refine h {s with heap:=h'} ⟨I.ok,I.os,I.bare,⟨fun b o e n hb hx=>?_,fun b o e n hb hx=>?_,I.base.free,fun b o e hx=>?_,I.base.tups,I.base.frzs,I.base.tbls⟩,⟨m,hn.sameBut hs (Ne.symm (cne x c hc)),fun j y v' e1 e2 e3=>?_⟩,fun y c' e=>?_,I.free,I.freeC,fun p hp=>?_,tracked ⟨oc,hoc,I.freeC x c hc⟩ hs,by simpa using I.len⟩ ⟨c,hs,.inr hc⟩
  ·exact (hs.2 b (Nat.ne_of_lt (Nat.lt_of_lt_of_le (Heap.lt_size e) (I.ok.cab x c hfn hc)))).trans (I.base.keep b o e n hb hx)
  ·obtain ⟨sl,e1⟩:=I.base.slot b o e n hb hx
   exact ⟨sl,(hs.2 b (Nat.ne_of_lt (Nat.lt_of_lt_of_le (Heap.lt_size e) (I.ok.cab x c hfn hc)))).trans e1⟩
  ·obtain ⟨o',e1⟩:=I.base.there b o e hx
   exact ⟨o',(hs.2 b (Nat.ne_of_lt (Nat.lt_of_lt_of_le (Heap.lt_size e) (I.ok.cab x c hfn hc)))).trans e1⟩
  ·by_cases hj:j=i
   ·subst hj
    rw [hi] at e1;cases e1
    rw [List.getElem?_set_self hiσ] at e2
    cases e2
    exact ⟨u,r,.inr ⟨.inl hk,c,hc,hc'⟩⟩
   ·rw [List.getElem?_set_ne (Ne.symm hj)] at e2
    obtain ⟨u',r',q⟩:=hl j y v' e1 e2 e3
    refine ⟨u',r',?_⟩
    rcases q with q | ⟨k,c',e,z'⟩
    ·exact .inl q
    ·refine .inr ⟨k,c',e,z'.sameBut hs ?_⟩
     rintro rfl
     exact hj (nodup_ix hN e1 (I.ok.inj _ _ _ e hc▸hi))
  ·by_cases hcc:c'=c
   ·subst hcc;exact ⟨_,hc'⟩
   ·obtain ⟨w2,z2⟩:=I.cell y c' e
    exact ⟨w2,z2.sameBut hs hcc⟩
  ·obtain ⟨e,n,ne,nf,d⟩:=I.pin p hp
   refine ⟨(hs.2 p.1 ?_).trans e,n,ne,nf,d⟩
   intro q
   rw [q,hoc] at e
   have q':oc=p.2:=Option.some.inj e
   exact d w' (by rw [←q'];exact hocd)
theorem store_ok {M:Model}{A:Around}{E:Value→Shared→Prop}{i:Nat}{x:Str}{v:V}{u:Value}{Q:Unit→Shared→Prop}(I:Inv X pins σ H s)(hN:X.N.Nodup)(hi:X.N[i]? =some x)(hx:Loc X.env.scope x)(r:RelV v u)
  (h:∀s',Inv X pins (σ.set i (some v)) H s'→Q () s') (hf:autoParam (X.fn x=true∨X.env.scope.names.lookup x=some .local) Zau.a0._auto_1):wpAny M A (storeName X.env x u) Q E s:=
 store_ok2 I hN hi hx r (fun s' I' _=>h s' I') hf
theorem Inv.call' {s':Shared}{ch:List Addr}(I:Inv X pins σ H s)(ho:s'.os=s.os)(u:Un (frs X.stack) ch H H' s.heap s'.heap)(hok:HOk X.prog X.w H' s'.heap)(hg:AllBare s'.gens)
  (hch:∀b∈ch,(b∈X.ex∨X.s₀.heap.objs.size≤b)∧b≠X.env.locals∧(∀x c,X.env.cells.lookup x=some c→c≠b)∧∀p∈X.pn ++ pins,p.1≠b):Inv X pins σ H' s':=by
 obtain ⟨h',g',d',t',o'⟩:=s'
 have e:o'=s.os:=ho
 subst e
 exact I.call (g':=g') (t':=t') (d':=d') u hok hg hch
end
noncomputable abbrev XK:=Value→Option Addr→Hp→Prop
noncomputable abbrev St:=List (Option V)
noncomputable abbrev VK:=V→Hp→Prop
noncomputable abbrev TE:=St→Hp→VK→Prop
noncomputable abbrev TT:=St→Hp→(Bool→Hp→Prop)→Prop
noncomputable abbrev TA:=St→Hp→(List V→Hp→Prop)→Prop
structure Ends where
 nx:St→Hp→Prop
 rt:VK
 bk:St→Hp→Prop:=fun _ _=>False
 ct:St→Hp→Prop:=fun _ _=>False
noncomputable abbrev TS:=Ends→St→Hp→Prop
noncomputable def EP (X:Cx) (pins:List (Addr×Obj)) (σ:St) (Q:VK) (u:Value) (s':Shared):Prop:=∃v H',Inv X pins σ H' s'∧RelV v u∧Q v H'
noncomputable def TP (X:Cx) (pins:List (Addr×Obj)) (σ:St) (Q:Bool→Hp→Prop) (b:Bool) (s':Shared):Prop:=∃H',Inv X pins σ H' s'∧Q b H'
noncomputable def AP (X:Cx) (pins:List (Addr×Obj)) (σ:St) (Q:List V→Hp→Prop) (us:List Value) (s':Shared):Prop:=∃vs H',Inv X pins σ H' s'∧Vals vs us∧Q vs H'
noncomputable def SP (X:Cx) (pins:List (Addr×Obj)) (D:Ends) (f:Flow) (s':Shared):Prop:=
 match f with
 | .next=>∃σ' H',Inv X pins σ' H' s'∧D.nx σ' H'
 | .brk=>∃σ' H',Inv X pins σ' H' s'∧D.bk σ' H'
 | .cont=>∃σ' H',Inv X pins σ' H' s'∧D.ct σ' H'
 | .ret u=>∃v σ' H',Inv X pins σ' H' s'∧RelV v u∧D.rt v H'
noncomputable def PE (X:Cx) (e:Expr) (t:TE):Prop:=
 ∀(pins:List (Addr×Obj)) (s:Shared) (σ:St) (H:Hp) (Q:VK),Inv X pins σ H s→t σ H Q→wpAny (model X.prog X.w) X.A (eval e X.env) (EP X pins σ Q) X.xe s
noncomputable def PT (X:Cx) (e:Expr) (t:TT):Prop:=
 ∀(pins:List (Addr×Obj)) (s:Shared) (σ:St) (H:Hp) (Q:Bool→Hp→Prop),Inv X pins σ H s→t σ H Q→wpAny (model X.prog X.w) X.A (isTrue e X.env (eval e X.env)) (TP X pins σ Q) X.xe s
noncomputable def PW (X:Cx) (e:Expr) (t:TT):Prop:=
 ∀(whole:Sem Value) (pins:List (Addr×Obj)) (s:Shared) (σ:St) (H:Hp) (Q:Bool→Hp→Prop),Inv X pins σ H s→t σ H Q→wpAny (model X.prog X.w) X.A (isTrue e X.env whole) (TP X pins σ Q) X.xe s
theorem PW.pt {X:Cx}{e:Expr}{t:TT}(h:PW X e t):PT X e t:=h _
noncomputable def PA (X:Cx) (es:List Expr) (t:TA):Prop:=
 ∀(pos:Pos) (pins:List (Addr×Obj)) (s:Shared) (σ:St) (H:Hp) (Q:List V→Hp→Prop),Inv X pins σ H s→t σ H Q→wpAny (model X.prog X.w) X.A (spliced (backTo pos (starEach es X.env))) (AP X pins σ Q) X.xe s
noncomputable def PS (X:Cx) (st:Stmt) (t:TS):Prop:=
 ∀(pins:List (Addr×Obj)) (s:Shared) (σ:St) (H:Hp) (D:Ends),Inv X pins σ H s→t D σ H→wpAny (model X.prog X.w) X.A (exec st X.env) (SP X pins D) X.xe s
noncomputable def PSs (X:Cx) (st:List Stmt) (t:TS):Prop:=
 ∀(pins:List (Addr×Obj)) (s:Shared) (σ:St) (H:Hp) (D:Ends),Inv X pins σ H s→t D σ H→wpAny (model X.prog X.w) X.A (execs st X.env) (SP X pins D) X.xe s
theorem thn {α:Type}{t:Sem α}{Q Q':α→Shared→Prop}{M:Model}{A:Around}{E:Value→Shared→Prop}{s:Shared}(h:wpAny M A t Q E s)(hQ:∀a s,Q a s→Q' a s):wpAny M A t Q' E s:=wpAny_mono h hQ fun _ _ x=>x
end L2
namespace L2
open PySem PySem.Spec PyProof.Rows
section
variable {X:Cx}
noncomputable def tVar (i:Nat):TE:=fun σ H Q=>∃v,σ[i]? =some (some v)∧Q v H
noncomputable def tC (v:V):TE:=fun _ H Q=>Q v H
theorem pe_var {i:Nat}{x:Str}{pos:Pos}(hN:X.N[i]? =some x)(hv:Vis X.env.scope x)(hd:autoParam ((x == ("__debug__":Str))=false) Zau.a1._auto_1)(hcd:autoParam ((x == ("__classdict__":Str))=false) Zau.a1._auto_1):PE X (.Name x pos) (tVar i):=by
 intro pins s σ H Q I h
 obtain ⟨v,e,h⟩:=h
 obtain ⟨m,hn,hl⟩:=I.loc
 obtain ⟨u,r,l⟩:=hl i x v hN e hv
 have fin:EP X pins σ Q u s:=⟨v,H,I,r,h⟩
 rcases l with ⟨hk,hm⟩ | ⟨hk,c,hc,hcell⟩
 ·exact wpAny_Name (wpAny_loadName_local I.ok.kind hk hn hm fin) hd
 ·rcases hk with hk | hk
  ·exact wpAny_Name (wpAny_loadName_cell I.ok.kind hk hc hcell fin) hd
  ·exact wpAny_Name (wpAny_loadName_free I.ok.kind hk hc hcell fin hcd) hd
theorem pe_int {i j pos}:PE X (.Constant (.int i) j pos) (tC (.int i)):=fun _ _ _ H _ I h=>wpAny_Constant_int ⟨.int i,H,I.tok _,⟨_,rfl⟩,h⟩
theorem pe_bl {b j pos}:PE X (.Constant (.bool b) j pos) (tC (.bl b)):=fun _ _ _ H _ I h=>Constant_bool ⟨.bl b,H,I,rfl,h⟩
theorem pe_non {j pos}:PE X (.Constant .none j pos) (tC .non):=fun _ _ _ H _ I h=>Constant_none ⟨.non,H,I,rfl,h⟩
theorem pe_str {x j pos}:PE X (.Constant (.str x) j pos) (tC (.str x)):=fun _ _ _ H _ I h=>Calls.Constant_str ⟨.str x,H,I.tok _,⟨_,rfl⟩,h⟩
noncomputable def Gl (X:Cx) (x:Str):Prop:=X.env.kindOf x=some .globalImplicit
theorem ld_glob {E:Value→Shared→Prop}{pins:List (Addr×Obj)}{s:Shared}{σ:St}{H:Hp}{x:Str}{u:Value}{pos:Pos}{Q:Value→Shared→Prop}(I:Inv X pins σ H s)(hg:Gl X x)(hm:X.mg x=some u)(h:Q u s)
  (hd:autoParam ((x == ("__debug__":Str))=false) Zau.a1._auto_1):wpAny (model X.prog X.w) X.A (eval (.Name x pos) X.env) Q E s:=
 Calls.Name_function_global I.ok.kind hg (Calls.loadGlobal_global (by rw [I.ok.glob];exact I.mod.glob.keeps I.bk) hm h) hd
theorem ld_blt {E:Value→Shared→Prop}{pins:List (Addr×Obj)}{s:Shared}{σ:St}{H:Hp}{x:Str}{u:Value}{pos:Pos}{Q:Value→Shared→Prop}(I:Inv X pins σ H s)(hg:Gl X x)(hm:X.mg x=none)(hv:bootBuiltins x=some u)(h:Q u s)
  (hn:autoParam (x≠"__name__") Zau.a1._auto_1) (hd:autoParam ((x == ("__debug__":Str))=false) Zau.a1._auto_1):wpAny (model X.prog X.w) X.A (eval (.Name x pos) X.env) Q E s:=by
 obtain ⟨mb,h1,h2⟩:=I.mod.blt
 exact Calls.Name_function_global I.ok.kind hg (Calls.loadGlobal_builtin (by rw [I.ok.glob];exact I.mod.glob.keeps I.bk) hm (by rw [I.ok.blt];exact h1.keeps I.bk) ((h2 x hn).trans hv) h) hd
theorem pe_glob {x:Str}{v:V}{u:Value}{pos:Pos}(hg:Gl X x)(hm:X.mg x=some u)(r:RelV v u)(hd:autoParam ((x == ("__debug__":Str))=false) Zau.a1._auto_1):PE X (.Name x pos) (tC v):=
 fun _ _ _ H _ I h=>ld_glob I hg hm ⟨v,H,I,r,h⟩ hd
theorem pe_bltn {x:Str}{v:V}{u:Value}{pos:Pos}(hg:Gl X x)(hm:X.mg x=none)(hv:bootBuiltins x=some u)(r:RelV v u)(hn:autoParam (x≠"__name__") Zau.a1._auto_1)(hd:autoParam ((x == ("__debug__":Str))=false) Zau.a1._auto_1):PE X (.Name x pos) (tC v):=
 fun _ _ _ H _ I h=>ld_blt I hg hm hv ⟨v,H,I,r,h⟩ hn hd
variable {a b:Expr}{ta tb:TE}{pos:Pos}
variable {tA tB':TT}{rest:List Expr}
noncomputable def tAnd (t u:TT):TT:=fun σ H Q=>t σ H fun c H1=>if c=true then u σ H1 Q else Q false H1
noncomputable def tOr (t u:TT):TT:=fun σ H Q=>t σ H fun c H1=>if c=true then Q true H1 else u σ H1 Q
noncomputable def tNot (t:TT):TT:=fun σ H Q=>t σ H fun c H1=>Q (!c) H1
theorem pw_and1 (ha:PT X a tA):PW X (.BoolOp .And [a] pos) tA:=by
 intro wh pins s σ H Q I h
 refine isTrue_and (thn (ha pins s σ H Q I h) fun c s1 e=>?_)
 cases c with
 | true=>exact isTrue_and_nil e
 | false=>exact e
theorem pw_or1 (ha:PT X a tA):PW X (.BoolOp .Or [a] pos) tA:=by
 intro wh pins s σ H Q I h
 refine isTrue_or (thn (ha pins s σ H Q I h) fun c s1 e=>?_)
 cases c with
 | false=>exact isTrue_or_nil e
 | true=>exact e
theorem pw_and (ha:PT X a tA)(hb:PW X (.BoolOp .And (b :: rest) pos) tB'):PW X (.BoolOp .And (a :: b :: rest) pos) (tAnd tA tB'):=by
 intro wh pins s σ H Q I h
 refine isTrue_and (thn (ha pins s σ H _ I h) fun c s1 ⟨H1,I1,q1⟩=>?_)
 cases c with
 | true=>exact hb wh pins s1 σ H1 Q I1 q1
 | false=>exact ⟨H1,I1,q1⟩
theorem pw_or (ha:PT X a tA)(hb:PW X (.BoolOp .Or (b :: rest) pos) tB'):PW X (.BoolOp .Or (a :: b :: rest) pos) (tOr tA tB'):=by
 intro wh pins s σ H Q I h
 refine isTrue_or (thn (ha pins s σ H _ I h) fun c s1 ⟨H1,I1,q1⟩=>?_)
 cases c with
 | true=>exact ⟨H1,I1,q1⟩
 | false=>exact hb wh pins s1 σ H1 Q I1 q1
theorem pt_not (ha:PT X a tA):PT X (.UnaryOp .Not a pos) (tNot tA):=by
 intro pins s σ H Q I h
 exact isTrue_not (ha pins s σ H (fun c H1=>Q (!c) H1) I h)
noncomputable def tAndV (ta tb:TE):TE:=fun σ H Q=>ta σ H fun x H1=>∃c,x= .bl c∧if c=true then tb σ H1 Q else Q (.bl false) H1
theorem pe_one {op}{t:TE}(h:PE X a t):PE X (.BoolOp op [a] pos) t:=fun pins s σ H Q I hw=>BoolOp_one (h pins s σ H Q I hw)
theorem pe_and (ha:PE X a ta)(hb:PE X (.BoolOp .And (b :: rest) pos) tb):PE X (.BoolOp .And (a :: b :: rest) pos) (tAndV ta tb):=by
 intro pins s σ H Q I h
 refine BoolOp_and (thn (ha pins s σ H _ I h) fun v s1 h0=>ex5 h0 fun x H1 I1 r1 q1=>?_)
 obtain ⟨c,rfl,q1⟩:=q1
 cases r1
 refine wpAny_truthy_bool ?_
 cases c with
 | true=>exact hb pins s1 σ H1 Q I1 q1
 | false=>exact ⟨.bl false,H1,I1,rfl,q1⟩
noncomputable def tIf (t:TT) (ta tb:TE):TE:=fun σ H Q=>t σ H fun c H1=>if c=true then ta σ H1 Q else tb σ H1 Q
theorem pe_ifExp {c:Expr}(hc:PT X c tA)(ha:PE X a ta)(hb:PE X b tb):PE X (.IfExp c a b pos) (tIf tA ta tb):=by
 intro pins s σ H Q I h
 refine wpAny_IfExp (thn (hc pins s σ H _ I h) fun d s1 ⟨H1,I1,q1⟩=>?_)
 cases d with
 | true=>exact ha pins s1 σ H1 Q I1 q1
 | false=>exact hb pins s1 σ H1 Q I1 q1
end
end L2
namespace L2
open PySem PySem.Spec PyProof.Rows
noncomputable def SqL (K:PySem.W.Frag) (H:Hp) (a:Addr) (xs:List V):Prop:=
 Rd H a (.lst xs)∨
  ∃(o:Obj) (its:Array Value) (n:Nat),K.lookup a=some o∧o.cls= .type "list"∧o.dict=none∧o.data= .seq its n∧its.size≤sizeLine∧Vals xs its.toList
noncomputable def SqT (K:PySem.W.Frag) (H:Hp) (a:Addr) (xs:List V):Prop:=
 Rd H a (.tup xs)∨
  ∃(o:Obj) (its:Array Value) (n:Nat),K.lookup a=some o∧o.cls= .type "tuple"∧o.dict=none∧o.data= .seq its n∧its.size≤sizeLine∧Vals xs its.toList
noncomputable def absV:Value→Option V
 | .none=>some .non
 | .bool b=>some (.bl b)
 | .int i _=>some (.int i)
 | .str x _=>some (.str x)
 | .bytes b _=>some (.byt b)
 | .float b _=>some (.flt b)
 | .ref a=>some (.ref a)
 | .type n=>some (.ty n)
 | _=>none
theorem RelV.abs {x:V}{u:Value}(r:RelV x u):absV u=some x:=by
 cases x with
 | non=>cases r;rfl
 | bl _=>cases r;rfl
 | int _=>obtain ⟨t,rfl⟩:=r;rfl
 | str _=>obtain ⟨t,rfl⟩:=r;rfl
 | byt _=>obtain ⟨t,rfl⟩:=r;rfl
 | flt _=>obtain ⟨t,rfl⟩:=r;rfl
 | ref _=>cases r;rfl
 | ty _=>cases r;rfl
theorem RelV.inj {x y:V}{u:Value}(r:RelV x u)(q:RelV y u):x=y:=Option.some.inj (r.abs.symm.trans q.abs)
theorem Vals.inj:∀{xs ys:List V} {us:List Value},Vals xs us→Vals ys us→xs=ys
 | _,_,_,.nil,.nil=>rfl
 | _,_,_,.cons r t,.cons r' t'=>by rw [r.inj r',Vals.inj t t']
section
variable {X:Cx}{pins:List (Addr×Obj)}{σ:St}{H:Hp}{s:Shared}{a:Addr}{xs ys:List V}
theorem SqL.of {K:PySem.W.Frag}(h:H a=some (.lst xs)):SqL K H a xs:=.inl (.inl h)
theorem SqT.of {K:PySem.W.Frag}(h:H a=some (.tup xs)):SqT K H a xs:=.inl (.inl h)
theorem Inv.list (I:Inv X pins σ H s)(h:SqL X.K H a xs):∃its:List Value,Vals xs its∧PlainL s.heap a its.toArray∧xs.length≤sizeLine:=by
 rcases h with h | ⟨o,its,n,hk,hc,hd,hs,hz,r⟩
 ·obtain ⟨z,its,n,r,e⟩:=h.ok I.hok
  exact ⟨its,r,⟨_,n,e,rfl,rfl,rfl⟩,z⟩
 ·refine ⟨its.toList,r,⟨o,n,I.kIn a o hk,hc,hd,by simpa using hs⟩,?_⟩
  have e:=r.length
  simp only [Array.length_toList] at e
  (first|lia|omega)
theorem Inv.tupN (I:Inv X pins σ H s)(h:SqT X.K H a xs):∃its:List Value,Vals xs its∧TupN s.heap a its.toArray∧xs.length≤sizeLine:=by
 rcases h with h | ⟨o,its,n,hk,hc,hd,hs,hz,r⟩
 ·obtain ⟨z,its,r,p⟩:=h.ok I.hok
  exact ⟨its,r,p,z⟩
 ·refine ⟨its.toList,r,⟨o,I.kIn a o hk,hc,⟨n,by simpa using hs⟩,hd⟩,?_⟩
  have e:=r.length
  simp only [Array.length_toList] at e
  (first|lia|omega)
theorem Inv.tuple (I:Inv X pins σ H s)(h:SqT X.K H a xs):∃its:List Value,Vals xs its∧IsTup s.heap a its.toArray∧xs.length≤sizeLine:=let ⟨its,r,p,z⟩:=I.tupN h;⟨its,r,p.is,z⟩
theorem Inv.list_inj (I:Inv X pins σ H s)(h:SqL X.K H a xs)(h':SqL X.K H a ys):xs=ys:=by
 obtain ⟨its,r,⟨o,n,e,_,_,d⟩,_⟩:=I.list h
 obtain ⟨its',r',⟨o',n',e',_,_,d'⟩,_⟩:=I.list h'
 rw [e] at e';cases e'
 rw [d] at d'
 injection d' with d1 _
 have:its=its':=by simpa using congrArg Array.toList d1
 subst this
 exact r.inj r'
theorem Inv.tuple_inj (I:Inv X pins σ H s)(h:SqT X.K H a xs)(h':SqT X.K H a ys):xs=ys:=by
 obtain ⟨its,r,⟨o,e,_,n,d⟩,_⟩:=I.tuple h
 obtain ⟨its',r',⟨o',e',_,n',d'⟩,_⟩:=I.tuple h'
 rw [e] at e';cases e'
 rw [d] at d'
 injection d' with d1 _
 have:its=its':=by simpa using congrArg Array.toList d1
 subst this
 exact r.inj r'
end
noncomputable abbrev Cx.wish (X:Cx) (E:Value→Shared→Prop):Cx:={X with xe:=E}
noncomputable abbrev Cx.nox (X:Cx):Cx:=X.wish fun _ _=>False
theorem Cx.Ok.wish {X:Cx}(ok:X.Ok)(E:Value→Shared→Prop):(X.wish E).Ok:=
 ⟨ok.mod,ok.kind,ok.glob,ok.blt,ok.above,ok.inj,ok.has,ok.cab,ok.hd,ok.frames,ok.stk,ok.exf,ok.bs,ok.bsz,ok.noex,ok.exfs,ok.funs,ok.frf⟩
theorem Cx.Ok.unwish {X:Cx}{E:Value→Shared→Prop}(ok:(X.wish E).Ok):X.Ok:=
 ⟨ok.mod,ok.kind,ok.glob,ok.blt,ok.above,ok.inj,ok.has,ok.cab,ok.hd,ok.frames,ok.stk,ok.exf,ok.bs,ok.bsz,ok.noex,ok.exfs,ok.funs,ok.frf⟩
section
variable {X:Cx}{pins:List (Addr×Obj)}{σ:St}{H:Hp}{s:Shared}{E:Value→Shared→Prop}
theorem Inv.wish (I:Inv X pins σ H s)(E:Value→Shared→Prop):Inv (X.wish E) pins σ H s:=⟨I.ok.wish E,I.os,I.bare,I.base,I.loc,I.cell,I.free,I.freeC,I.pin,I.hok,I.len⟩
theorem Inv.unwish (I:Inv (X.wish E) pins σ H s):Inv X pins σ H s:=⟨I.ok.unwish,I.os,I.bare,I.base,I.loc,I.cell,I.free,I.freeC,I.pin,I.hok,I.len⟩
theorem SP.unwish {D:Ends}{f:Flow}{s':Shared}(h:SP (X.wish E) pins D f s'):SP X pins D f s':=by
 cases f with
 | next=>obtain ⟨σ',H',I,q⟩:=h;exact ⟨σ',H',I.unwish,q⟩
 | brk=>obtain ⟨σ',H',I,q⟩:=h;exact ⟨σ',H',I.unwish,q⟩
 | cont=>obtain ⟨σ',H',I,q⟩:=h;exact ⟨σ',H',I.unwish,q⟩
 | ret u=>obtain ⟨v,σ',H',I,r,q⟩:=h;exact ⟨v,σ',H',I.unwish,r,q⟩
theorem PE.nox {e:Expr}{t:TE}(h:PE X.nox e t):PE X e t:=fun pins s σ H Q I hw=>
 wpAny_mono (h pins s σ H Q (I.wish _) hw) (fun _ _ ⟨v,H',I',r,q⟩=>⟨v,H',I'.unwish,r,q⟩) fun _ _ z=>False.elim z
theorem PT.nox {e:Expr}{t:TT}(h:PT X.nox e t):PT X e t:=fun pins s σ H Q I hw=>
 wpAny_mono (h pins s σ H Q (I.wish _) hw) (fun _ _ ⟨H',I',q⟩=>⟨H',I'.unwish,q⟩) fun _ _ z=>False.elim z
theorem PSs.nox {st:List Stmt}{t:TS}(h:PSs X.nox st t):PSs X st t:=fun pins s σ H D I hw=>
 wpAny_mono (h pins s σ H D (I.wish _) hw) (fun _ _ q=>q.unwish) fun _ _ z=>False.elim z
end
section
variable {X:Cx}{st:Stmt}{rest:List Stmt}{t u:TS}{e:Expr}{te:TE}{pos:Pos}
noncomputable def tNext:TS:=fun D σ H=>D.nx σ H
noncomputable def tSeq (t u:TS):TS:=fun D σ H=>t {D with nx:=u D} σ H
theorem pss_nil:PSs X [] tNext:=fun _ _ σ H _ I h=>wpAny_execs_nil ⟨σ,H,I,h⟩
theorem pss_cons (h1:PS X st t)(h2:PSs X rest u):PSs X (st :: rest) (tSeq t u):=by
 intro pins s σ H D I h
 refine wpAny_execs_cons (thn (h1 pins s σ H {D with nx:=u D} I h) fun f s1 q=>?_)
 cases f with
 | next=>
  obtain ⟨σ',H',I',q⟩:=q
  exact h2 pins s1 σ' H' D I' q
 | ret v=>exact q
 | brk=>exact q
 | cont=>exact q
theorem pss_one (h1:PS X st t):PSs X [st] t:=by
 intro pins s σ H D I h
 refine wpAny_execs_cons (thn (h1 pins s σ H D I h) fun f s1 q=>?_)
 cases f with
 | next=>exact wpAny_execs_nil q
 | ret v=>exact q
 | brk=>exact q
 | cont=>exact q
theorem Inv.quiet {pins:List (Addr×Obj)}{σ:St}{H:Hp}{s:Shared}(I:Inv X pins σ H s):interactive X.env=false:=by simp [interactive,I.ok.kind]
noncomputable def tDrop (te:TE):TS:=fun D σ H=>te σ H fun _ H1=>D.nx σ H1
theorem ps_expr (he:PE X e te)(hs:autoParam (swapsWith e none pos.line X.env=pure false) Zau.a2._auto_1):PS X (.Expr e pos) (tDrop te):=by
 intro pins s σ H D I h
 exact wpAny_Expr_any (thn (he pins s σ H _ I h) fun v s1 h0=>ex5 h0 fun x H1 I1 r1 q1=>⟨σ,H1,I1,q1⟩) I.quiet hs
noncomputable def tRet (te:TE):TS:=fun D σ H=>te σ H D.rt
theorem ps_ret (he:PE X e te):PS X (.Return (some e) pos) (tRet te):=by
 intro pins s σ H D I h
 exact wpAny_Return_some (thn (he pins s σ H _ I h) fun v s1 h0=>ex5 h0 fun x H1 I1 r1 q1=>⟨x,σ,H1,I1,r1,q1⟩)
noncomputable def tIfS (c:TT) (t u:TS):TS:=fun D σ H=>c σ H fun b H1=>if b=true then t D σ H1 else u D σ H1
theorem ps_if {c:Expr}{a b:List Stmt}{tc:TT}(hc:PT X c tc)(ha:PSs X a t)(hb:PSs X b u):PS X (.If c a b pos) (tIfS tc t u):=by
 intro pins s σ H D I h
 refine wpAny_If (thn (hc pins s σ H _ I h) fun d s1 ⟨H1,I1,q1⟩=>?_)
 cases d with
 | true=>exact ha pins s1 σ H1 D I1 q1
 | false=>exact hb pins s1 σ H1 D I1 q1
noncomputable def tNever:TS:=fun _ _ _=>False
theorem ps_never:PS X st tNever:=fun _ _ _ _ _ _ h=>h.elim
end
noncomputable abbrev TG:=V→St→Hp→(St→Hp→Prop)→Prop
noncomputable abbrev TGs:=List V→St→Hp→(St→Hp→Prop)→Prop
noncomputable def PG (X:Cx) (target:Expr) (t:TG):Prop:=
 ∀(pins:List (Addr×Obj)) (s:Shared) (σ:St) (H:Hp) (v:V) (u:Value) (Q:St→Hp→Prop),Inv X pins σ H s→RelV v u→t v σ H Q→
  wpAny (model X.prog X.w) X.A (assign target X.env u) (fun _ s'=>∃σ' H',Inv X pins σ' H' s'∧Q σ' H') X.xe s
noncomputable def PGs (X:Cx) (ts:List Expr) (t:TGs):Prop:=
 ∀(pins:List (Addr×Obj)) (s:Shared) (σ:St) (H:Hp) (vs:List V) (us:List Value) (Q:St→Hp→Prop),Inv X pins σ H s→Vals vs us→t vs σ H Q→
  wpAny (model X.prog X.w) X.A (assignInOrder ((assignEach ts X.env).map (·.2)) us) (fun _ s'=>∃σ' H',Inv X pins σ' H' s'∧Q σ' H') X.xe s
noncomputable abbrev TSet:=V→V→V→Hp→(Hp→Prop)→Prop
noncomputable def PSet (X:Cx) (t:TSet):Prop:=
 ∀(pins:List (Addr×Obj)) (s:Shared) (σ:St) (H:Hp) (o i v:V) (ov iv u:Value) (Q:Hp→Prop),Inv X pins σ H s→RelV o ov→RelV i iv→RelV v u→t o i v H Q→
  wpAny (model X.prog X.w) X.A (setItem ov iv u) (fun _ s'=>∃H',Inv X pins σ H' s'∧Q H') X.xe s
section
variable {X:Cx}{pos:Pos}
noncomputable def gName (i:Nat):TG:=fun v σ H Q=>Q (σ.set i (some v)) H
theorem pg_name {i:Nat}{x:Str}(hN:X.N.Nodup)(hi:X.N[i]? =some x)(hx:Loc X.env.scope x)(hf:autoParam (X.fn x=true∨X.env.scope.names.lookup x=some .local) Zau.a0._auto_1):PG X (.Name x pos) (gName i):=by
 intro pins s σ H v u Q I r h
 exact wpAny_assign_Name (store_ok I hN hi hx r (fun s' I'=>⟨_,H,I',h⟩) hf)
noncomputable def gNil:TGs:=fun vs σ H Q=>vs=[]∧Q σ H
noncomputable def gCons (t:TG) (u:TGs):TGs:=fun vs σ H Q=>∃v r,vs=v :: r∧t v σ H fun σ' H'=>u r σ' H' Q
theorem pgs_nil:PGs X [] gNil:=by
 intro pins s σ H vs us Q I r h
 obtain ⟨e,h⟩:=h
 subst e
 cases r
 exact assignInOrder_nil ⟨σ,H,I,h⟩
theorem pgs_cons {e:Expr}{es:List Expr}{t:TG}{u:TGs}(h1:PG X e t)(h2:PGs X es u)
  (hs:autoParam ((assignEach (e :: es) X.env).map (·.2)=assign e X.env :: (assignEach es X.env).map (·.2)) Zau.a2._auto_1):PGs X (e :: es) (gCons t u):=by
 intro pins s σ H vs us Q I r h
 obtain ⟨v,vr,e1,h⟩:=h
 subst e1
 cases r with
 | cons r rr=>
  rw [hs]
  refine assignInOrder_cons (thn (h1 pins s σ H _ _ _ I r h) fun _ s1 ⟨σ1,H1,I1,q1⟩=>?_)
  exact h2 pins s1 σ1 H1 _ _ Q I1 rr q1
noncomputable def gTup (K:PySem.W.Frag) (n:Nat) (t:TGs):TG:=fun v σ H Q=>∃a xs,v= .ref a∧SqT K H a xs∧xs.length=n∧t xs σ H Q
theorem pg_tup {es:List Expr}{k:Nat}{t:TGs}{n:Nat}(hc:X.calm=true)(h:PGs X es t)
  (hn:autoParam ((assignEach es X.env).length=n) Zau.a2._auto_1) (hst:autoParam ((assignEach es X.env).findIdx? (·.1)=none) Zau.a2._auto_1):PG X (.Tuple es k pos) (gTup X.K n t):=by
 intro pins s σ H v u Q I r hw
 obtain ⟨a,xs,e1,hq,hl,hw⟩:=hw
 subst e1
 cases r
 obtain ⟨its,rv,ht,hz⟩:=I.tuple hq
 refine assign_Tuple_tuple (I.ok.hd hc) ht (by simp [hn,←hl,rv.length]) hst fun h' hx=>?_
 have I1:Inv X pins σ H {s with heap:=h'}:=I.kept (t':=s.toks) fun b o e=>hx b o (Nat.ne_of_lt (Heap.lt_size e)) e
 exact h pins _ σ H xs _ Q I1 (by simpa using rv) hw
noncomputable def gSub (to ti:TE) (t:TSet):TG:=fun v σ H Q=>to σ H fun o H1=>ti σ H1 fun i H2=>t o i v H2 fun H3=>Q σ H3
theorem pg_sub {o i:Expr}{to ti:TE}{t:TSet}(ho:PE X o to)(hi:PE X i ti)(hs:PSet X t)
  (ha:autoParam (∀v,assign (.Subscript o i pos) X.env v=(do
   let ov ←holding [v] (eval o X.env)
   let iv ←holding [v,ov] (eval i X.env)
   standAt pos
   holding [v,ov,iv] (setItem ov iv v)
   release [v,ov,iv] [])) Zau.a3._auto_1):PG X (.Subscript o i pos) (gSub to ti t):=by
 intro pins s σ H v u Q I r h
 rw [ha]
 refine wpAny_bind (wpAny_holding (thn (ho pins s σ H _ I h) fun ov s1 h0=>ex5 h0 fun x H1 I1 r1 q1=>?_))
 refine wpAny_bind (wpAny_holding (thn (hi pins s1 σ H1 _ I1 q1) fun iv s2 h0=>ex5 h0 fun y H2 I2 r2 q2=>?_))
 refine wpAny_bind (wpAny_standAt (wpAny_bind (wpAny_holding (thn (hs pins s2 σ H2 x y v ov iv u _ I2 r1 r2 r q2) fun _ s3 ⟨H3,I3,q3⟩=>?_))))
 exact wpAny_release ⟨σ,H3,I3,q3⟩
noncomputable def tAsg (te:TE) (g:TG):TS:=fun D σ H=>te σ H fun x H1=>g x σ H1 D.nx
theorem ps_asg {tg e:Expr}{te:TE}{g:TG}(he:PE X e te)(hg:PG X tg g)(hs:autoParam (swapsWithSole [tg] e pos.line X.env=pure false) Zau.a2._auto_1)(hw:autoParam (swappedStores [tg] e X.env=pure none) Zau.a2._auto_1)
  (h1:autoParam ((assignEach [tg] X.env).map (·.2)=[assign tg X.env]) Zau.a2._auto_1):PS X (.Assign [tg] e pos) (tAsg te g):=by
 intro pins s σ H D I h
 refine wpAny_Assign_stores (thn (he pins s σ H _ I h) fun v s1 h0=>ex5 h0 fun x H1 I1 r1 q1=>?_) hs hw
 rw [h1]
 exact thn (hg pins s1 σ H1 x v _ I1 r1 q1) fun _ s2 q=>q
theorem ps_set {i:Nat}{x:Str}{e:Expr}{te:TE}{pos':Pos}(hN:X.N.Nodup)(hi:X.N[i]? =some x)(hx:Loc X.env.scope x)(he:PE X e te)(hs:autoParam (swapsWith e (some (.Name x pos')) pos.line X.env=pure false) Zau.a2._auto_1)(hf:autoParam (X.fn x=true∨X.env.scope.names.lookup x=some .local) Zau.a0._auto_1):
  PS X (.Assign [.Name x pos'] e pos) (tAsg te (gName i)):=by
 intro pins s σ H D I h
 refine wpAny_Assign_Name (thn (he pins s σ H _ I h) fun v s1 h0=>ex5 h0 fun y H1 I1 r1 q1=>?_) hs
 exact store_ok I1 hN hi hx r1 (fun s2 I2=>⟨_,H1,I2,q1⟩) hf
noncomputable def tPar (i j:Nat) (ta:TA):TS:=fun D σ H=>ta σ H fun vs H1=>∃v w,vs=[v,w]∧D.nx ((σ.set i (some v)).set j (some w)) H1
theorem ps_par {i j:Nat}{x y:Str}{a b:Expr}{ta:TA}{px py pt:Pos}{kt k2 pt2}(hc:X.calm=true)(hN:X.N.Nodup)(hi:X.N[i]? =some x)(hj:X.N[j]? =some y)(hij:i≠j)
  (hx:X.env.scope.names.lookup x=some .local) (hy:X.env.scope.names.lookup y=some .local) (ha:PA X [a,b] ta)
  (hw:swappedStores [.Tuple [.Name x px,.Name y py] kt pt] (.Tuple [a,b] k2 pt2) X.env=pure (some [x,y]))
  (hs:autoParam (swapsWithSole [.Tuple [.Name x px,.Name y py] kt pt] (.Tuple [a,b] k2 pt2) pos.line X.env=pure false) Zau.a2._auto_1):
  PS X (.Assign [.Tuple [.Name x px,.Name y py] kt pt] (.Tuple [a,b] k2 pt2) pos) (tPar i j ta):=by
 intro pins s σ H D I h
 rw [exec_Assign_arm]
 refine wpAny_bind (wpAny_standAt ?_)
 rw [hs]
 refine wpAny_bind (wpAny_pure ?_)
 rw [if_neg (by decide)]
 refine wpAny_bind (Tuple_ (thn (ha _ pins s σ H _ I h) fun us s1 h0=>ex5 h0 fun vs H1 I1 r1 q1=>?_))
 obtain ⟨v,w,e1,q1⟩:=q1
 subst e1
 obtain ⟨u1,u2,rfl,rv,rw'⟩:∃u1 u2,us=[u1,u2]∧RelV v u1∧RelV w u2:=by
  cases r1 with
  | cons p q=>
   cases q with
   | cons p' q'=>
    cases q'
    exact ⟨_,_,rfl,p,p'⟩
 refine wpAny_newObj_type ?_ (by show 2≤sizeLine;decide)
 have I2:Inv X pins σ H1 {s1 with heap:=s1.heap.push {cls:=.type "tuple",data:=.seq [u1,u2].toArray}}:=I1.kept (t':=s1.toks) fun b o e=>Heap.get?_push_of_some _ e
 rw [hw]
 refine wpAny_bind (wpAny_pure ?_)
 show wpAny (model X.prog X.w) X.A (do rule "assign.swapped-stores";let items ←unpackItems (.ref s1.heap.objs.size) 2 none;assignInOrder [fun v=>bindName X.env y v,fun v=>bindName X.env x v] items.reverse;pure Flow.next) _ _ _
 refine wpAny_bind (wpAny_rule (wpAny_bind (unpackItems_tuple (items:= #[u1,u2]) (I.ok.hd hc) (IsTup.new s1.heap _) fun h' hx'=>?_)))
 have I3:=I2.kept (h':=h') (t':=s1.toks) fun b o e=>hx' b o (Nat.ne_of_lt (Heap.lt_size e)) e
 show wpAny _ _ (assignInOrder [fun v=>bindName X.env y v,fun v=>bindName X.env x v] [u2,u1] >>=fun _=>pure Flow.next) _ _ _
 refine wpAny_bind (assignInOrder_cons (wpAny_bindName (store_ok I3 hN hj (.inl hy) rw' (fun s2 I4=>?_) (.inr hy))))
 refine assignInOrder_cons (wpAny_bindName (store_ok I4 hN hi (.inl hx) rv (fun s3 I5=>assignInOrder_nil (wpAny_pure ?_)) (.inr hx)))
 rw [List.set_comm _ _ (Ne.symm hij)] at I5
 exact ⟨_,H1,I5,q1⟩
end
section
variable {X:Cx}{pos:Pos}
noncomputable def tWhile (c:TT) (tb:TS):TS:=fun D σ H=>∃W:Nat→St→Hp→Prop,(∃m,W m σ H)∧∀m σ H,W m σ H→
 c σ H fun b H1=>if b=true then ∃N:St→Hp→Prop,(∀σ' H',N σ' H'→∃m',m' < m∧W m' σ' H')∧tb {D with nx:=N,ct:=N,bk:=D.nx} σ H1 else D.nx σ H1
theorem ps_while {c:Expr}{body:List Stmt}{tc:TT}{tb:TS}(hp:PassesOwn (model X.prog X.w) X.A X.env X.xe)(hc:PT X c tc)(hb:PSs X body tb):PS X (.While c body [] pos) (tWhile tc tb):=by
 intro pins s σ H D I h
 obtain ⟨W,⟨m0,w0⟩,turn⟩:=h
 refine wpAny_While (codeAny_whileLoop (fun n s'=>∃σ' H',Inv X pins σ' H' s'∧W n σ' H') ?_ m0 ⟨σ,H,I,w0⟩)
 rintro n s1 ⟨σ1,H1,I1,w1⟩
 refine wpAny_passesOwn hp (thn (hc pins s1 σ1 H1 _ I1 (turn n σ1 H1 w1)) fun b s2 ⟨H2,I2,q2⟩=>?_)
 cases b with
 | true=>
  obtain ⟨N,hN,q2⟩:=q2
  rw [if_pos rfl]
  refine wpAny_passesOwn hp (thn (hb pins s2 σ1 H2 _ I2 q2) fun f s3 q3=>?_)
  cases f with
  | next=>
   obtain ⟨σ3,H3,I3,n3⟩:=q3
   obtain ⟨m',hm,w3⟩:=hN σ3 H3 n3
   exact ⟨m',hm,σ3,H3,I3,w3⟩
  | cont=>
   obtain ⟨σ3,H3,I3,n3⟩:=q3
   obtain ⟨m',hm,w3⟩:=hN σ3 H3 n3
   exact ⟨m',hm,σ3,H3,I3,w3⟩
  | brk=>exact q3
  | ret v=>exact q3
 | false=>
  rw [if_neg Bool.false_ne_true]
  exact wpAny_execs_nil ⟨σ1,H2,I2,q2⟩
end
structure It where
 go:Nat→Hp→Prop
 yld:Nat→Hp→V→Hp→Prop
 stop:Nat→Hp→Prop
noncomputable def FpOk (X:Cx) (pins:List (Addr×Obj)) (H:Hp) (b:Addr):Prop:=
 H b=none∧b≠X.env.locals∧b∉X.fs∧(b∈X.ex∨X.s₀.heap.objs.size≤b)∧(∀x c,X.env.cells.lookup x=some c→c≠b)∧∀p∈X.pn ++ pins,p.1≠b
theorem Inv.fpOk {X:Cx}{pins:List (Addr×Obj)}{σ:St}{H H':Hp}{s:Shared}{b:Addr}(I:Inv X pins σ H s)(hb:s.heap.objs.size≤b)(hn:H' b=none):FpOk X pins H' b:=by
 refine ⟨hn,Nat.ne_of_gt (Nat.lt_of_lt_of_le I.lt hb),I.nofs hb,.inr (Nat.le_trans I.sz hb),fun x c e z=>?_,fun p hp z=>?_⟩
 ·obtain ⟨v,q⟩:=I.cell x c e
  exact absurd (Nat.lt_of_lt_of_le q.lt (by rw [z];exact hb)) (Nat.lt_irrefl _)
 ·exact absurd (Nat.lt_of_lt_of_le (Heap.lt_size (I.pin p hp).1) (by rw [z];exact hb)) (Nat.lt_irrefl _)
structure Turn (P:Program) (w:World) (K:PySem.W.Frag) (tg:Expr) (J:It) (fp:List Addr) (it:Addr) (tn:Nat→Heap→Prop):Prop where
 mem:it∈fp
 obj:∀i h,tn i h→∀b∈fp,∃o,h.get? b=some o∧∀v,o.data≠.cell v
 keep:∀i h h',tn i h→(∀b∈fp,∀o,h.get? b=some o→h'.get? b=some o)→tn i h'
 item:∀(X:Cx),X.prog=P→X.w=w→X.K=K→X.calm=true→∀(i:Nat) (pins:List (Addr×Obj)) (s:Shared) (σ:St) (H:Hp) (E:Value→Shared→Prop),Inv X pins σ H s→(∀b∈fp,FpOk X pins H b)→tn i s.heap→J.go i H→
  wpAny (model P w) X.A (pyNext (.ref it)) (fun r s1=>∃u,r=some u∧
   wpAny (model P w) X.A (letOwnedTupleGo tg (.ref it) u) (fun _ s2=>∃x H',Inv X pins σ H' s2∧RelV x u∧J.yld i H x H'∧tn (i + 1) s2.heap∧∀b∈fp,H' b=none) E s1) E s
 done:∀(X:Cx),X.prog=P→X.w=w→X.K=K→X.calm=true→∀(i:Nat) (pins:List (Addr×Obj)) (s:Shared) (σ:St) (H:Hp) (E:Value→Shared→Prop),Inv X pins σ H s→(∀b∈fp,FpOk X pins H b)→tn i s.heap→J.stop i H→
  wpAny (model P w) X.A (pyNext (.ref it)) (fun r s1=>r=none∧Inv X pins σ H s1) E s
 self:∀(A:Around) (i:Nat) (s:Shared) (Q:Value→Shared→Prop) (E:Value→Shared→Prop),tn i s.heap→Q (.ref it) s→wpAny (model P w) A (pyIter (.ref it)) Q E s
noncomputable abbrev TI:=St→Hp→(It→Hp→Prop)→Prop
noncomputable def PIE (X:Cx) (pins:List (Addr×Obj)) (σ:St) (tg:Expr) (R:It→Hp→Prop) (itv:Value) (s2:Shared):Prop:=
 ∃(it:Addr) (fp:List Addr) (tn:Nat→Heap→Prop) (J:It) (H':Hp),itv= .ref it∧Inv X pins σ H' s2∧Turn X.prog X.w X.K tg J fp it tn∧tn 0 s2.heap∧(∀b∈fp,FpOk X pins H' b)∧R J H'
noncomputable def PI (X:Cx) (tg iter:Expr) (wi:TI):Prop:=
 ∀(pins:List (Addr×Obj)) (s:Shared) (σ:St) (H:Hp) (R:It→Hp→Prop),Inv X pins σ H s→wi σ H R→
  wpAny (model X.prog X.w) X.A (eval iter X.env) (fun v s1=>wpAny (model X.prog X.w) X.A (pyIter v) (PIE X pins σ tg R) X.xe s1) X.xe s
theorem go_of {M:Model}{A:Around}{E:Value→Shared→Prop}{s:Shared}{tg:Expr}{it:Addr}{u:Value}{o:Obj}{n:String}{vs:Array Value}{Q:Unit→Shared→Prop}(ho:s.heap.get? it=some o)(hc:o.cls= .type n)(hd:o.data= .fields vs)
  (hn:["enumerate","zip","dict_itemiterator","dict_reverseitemiterator","odict_iterator","itertools.zip_longest","itertools.pairwise"].contains n=false) (hQ:Q () s):wpAny M A (letOwnedTupleGo tg (.ref it) u) Q E s:=by
 unfold letOwnedTupleGo
 cases tg <;> first
  | exact wpAny_pure hQ
  | (cases u <;> first
    | exact wpAny_pure hQ
    | (refine wpAny_bind (wpAny_load ho ?_)
       rw [hc,hd]
       show wpAny M A (if (["enumerate","zip","dict_itemiterator","dict_reverseitemiterator","odict_iterator","itertools.zip_longest","itertools.pairwise"].contains n && vs[0]? == some (rawInt _))=true then _ else _) Q E s
       rw [if_neg (by intro h;rw [hn,Bool.false_and] at h;cases h)]
       exact wpAny_pure hQ))
noncomputable def Itl (K:PySem.W.Frag) (a:Addr):It:=
 ⟨fun i H=>∃xs x,SqL K H a xs∧xs[i]? =some x,fun i H x H'=>H'=H∧∀xs,SqL K H a xs→xs[i]? =some x,fun i H=>∃xs,SqL K H a xs∧xs.length≤i⟩
noncomputable def Itt (K:PySem.W.Frag) (a:Addr):It:=
 ⟨fun i H=>∃xs x,SqT K H a xs∧xs[i]? =some x,fun i H x H'=>H'=H∧∀xs,SqT K H a xs→xs[i]? =some x,fun i H=>∃xs,SqT K H a xs∧xs.length≤i⟩
noncomputable def Itr (lo:Int) (n:Nat):It:=⟨fun i _=>i < n,fun i H x H'=>H'=H∧x= .int (lo + i),fun i _=>n≤i⟩
theorem turn_list {P:Program}{w:World}{K:PySem.W.Frag}{tg:Expr}(a it:Addr):Turn P w K tg (Itl K a) [it] it (fun i h=>h.IsListIter it a i) where
 mem:=by simp
 obj:=fun i h st b hb=>by
  have e:b=it:=by simpa using hb
  subst e
  obtain ⟨o,e,c,d⟩:=st
  exact ⟨o,e,fun v z=>by rw [d] at z;cases z⟩
 keep:=fun i h h' st k=>st.at fun o e=>k it (by simp) o e
 item:=by
  intro X hP hw hK hc i pins s σ H E I hf st hg
  subst hP hw hK
  obtain ⟨xs,x,hq,hx⟩:=hg
  obtain ⟨its,rv,p,hz⟩:=I.list hq
  obtain ⟨u,hu,ru⟩:=rv.get hx
  obtain ⟨f0,f1,f2,f3,f4,f5⟩:=hf it (by simp)
  refine wpAny_pyNext_list_item st p.isList (x:=u) (by simpa using hu) fun h' st' sb=>?_
  have I1:Inv X pins σ H {s with heap:=h'}:=I.turned (t':=s.toks) (fun b o hb e=>(sb.2 b hb).trans e) f0 f1 f3 f4 f5
  obtain ⟨o,e,c,d⟩:=id st'
  exact ⟨u,rfl,go_of (s:={s with heap:=h'}) e c d (by decide) ⟨x,H,I1,ru,⟨rfl,fun ys hy=>by rw [I.list_inj hy hq];exact hx⟩,st',fun b hb=>(hf b hb).1⟩⟩
 done:=by
  intro X hP hw hK hc i pins s σ H E I hf st hg
  subst hP hw hK
  obtain ⟨xs,hq,hx⟩:=hg
  obtain ⟨its,rv,p,hz⟩:=I.list hq
  obtain ⟨f0,f1,f2,f3,f4,f5⟩:=hf it (by simp)
  have hl:=rv.length
  exact wpAny_pyNext_list_end (I.ok.hd hc) st p.isList (by simp;(first|lia|omega)) fun h' eb=>⟨rfl,I.turned (t':=s.toks) (fun b o hb e=>eb b o hb e) f0 f1 f3 f4 f5⟩
 self:=fun _ _ _ _ _ st h=>wpAny_pyIter_listiter st h
theorem turn_tuple {P:Program}{w:World}{K:PySem.W.Frag}{tg:Expr}(a it:Addr):Turn P w K tg (Itt K a) [it] it (fun i h=>h.IsTupleIter it a i) where
 mem:=by simp
 obj:=fun i h st b hb=>by
  have e:b=it:=by simpa using hb
  subst e
  obtain ⟨o,e,c,d⟩:=st
  exact ⟨o,e,fun v z=>by rw [d] at z;cases z⟩
 keep:=fun i h h' st k=>st.at fun o e=>k it (by simp) o e
 item:=by
  intro X hP hw hK hc i pins s σ H E I hf st hg
  subst hP hw hK
  obtain ⟨xs,x,hq,hx⟩:=hg
  obtain ⟨its,rv,p,hz⟩:=I.tuple hq
  obtain ⟨u,hu,ru⟩:=rv.get hx
  obtain ⟨f0,f1,f2,f3,f4,f5⟩:=hf it (by simp)
  refine wpAny_pyNext_tuple_item st (show s.heap.IsTuple a its.toArray from p) (x:=u) (by simpa using hu) fun h' st' sb=>?_
  have I1:Inv X pins σ H {s with heap:=h'}:=I.turned (t':=s.toks) (fun b o hb e=>(sb.2 b hb).trans e) f0 f1 f3 f4 f5
  obtain ⟨o,e,c,d⟩:=id st'
  exact ⟨u,rfl,go_of (s:={s with heap:=h'}) e c d (by decide) ⟨x,H,I1,ru,⟨rfl,fun ys hy=>by rw [I.tuple_inj hy hq];exact hx⟩,st',fun b hb=>(hf b hb).1⟩⟩
 done:=by
  intro X hP hw hK hc i pins s σ H E I hf st hg
  subst hP hw hK
  obtain ⟨xs,hq,hx⟩:=hg
  obtain ⟨its,rv,p,hz⟩:=I.tuple hq
  obtain ⟨f0,f1,f2,f3,f4,f5⟩:=hf it (by simp)
  have hl:=rv.length
  exact wpAny_pyNext_tuple_end (I.ok.hd hc) st (show s.heap.IsTuple a its.toArray from p) (by simp;(first|lia|omega)) fun h' eb=>⟨rfl,I.turned (t':=s.toks) (fun b o hb e=>eb b o hb e) f0 f1 f3 f4 f5⟩
 self:=fun _ _ _ _ _ st h=>wpAny_pyIter_tupleiter st h
theorem turn_range {P:Program}{w:World}{K:PySem.W.Frag}{tg:Expr}(it:Addr)(lo:Int)(n:Nat):Turn P w K tg (Itr lo n) [it] it (fun i h=>IsRangeIter h it (lo + (i:Nat) * 1) ((n:Int) - (i:Nat)) 1) where
 mem:=by simp
 obj:=fun i h st b hb=>by
  have e:b=it:=by simpa using hb
  subst e
  exact ⟨_,st,fun v z=>by
   have z':Data.fields _=Data.cell v:=z
   cases z'⟩
 keep:=fun i h h' st k=>k it (by simp) _ st
 item:=by
  intro X hP hw hK hc i pins s σ H E I hf st hg
  subst hP hw hK
  obtain ⟨f0,f1,f2,f3,f4,f5⟩:=hf it (by simp)
  have W:=Walks.range (prog:=X.prog) (w:=X.w) (I.ok.hd hc) it lo 1 n
  refine W.item i s _ _ hg st fun v h' tk hv st' kk=>?_
  obtain ⟨t,rfl⟩:=hv
  have I1:Inv X pins σ H {s with heap:=h',toks:=tk}:=I.turned (fun b o hb e=>kk b o (by simpa using hb) e) f0 f1 f3 f4 f5
  refine ⟨_,rfl,go_of (s:={s with heap:=h',toks:=tk}) (n:="range_iterator") st' rfl rfl (by decide) ⟨.int (lo + i),H,I1,⟨t,?_⟩,⟨rfl,rfl⟩,st',fun b hb=>(hf b hb).1⟩⟩
  rw [Int.mul_one]
 done:=by
  intro X hP hw hK hc i pins s σ H E I hf st hg
  subst hP hw hK
  obtain ⟨f0,f1,f2,f3,f4,f5⟩:=hf it (by simp)
  exact wpAny_pyNext_range_end (I.ok.hd hc) st (by have:n≤i:=hg;(first|lia|omega)) fun h' eb=>⟨rfl,I.turned (t':=s.toks) (fun b o hb e=>eb b o hb e) f0 f1 f3 f4 f5⟩
 self:=fun _ _ _ _ _ st h=>wpAny_pyIter_rangeiter st h
end L2
namespace L2
open PySem PySem.Spec PyProof.Rows
section
variable {X:Cx}{tg:Expr}
theorem range_it {pins:List (Addr×Obj)}{σ:St}{H:Hp}{s:Shared}{R:It→Hp→Prop}{E:Value→Shared→Prop}{lo hi:Int}{t u v:Tok}{tk:Nat}(I:Inv X pins σ H s)(h1:-(2 ^ 62)≤lo)(h2:lo < 2 ^ 62)(h3:-(2 ^ 62)≤hi)(h4:hi < 2 ^ 62)
  (q:R (Itr lo (hi - lo).toNat) H):wpAny (model X.prog X.w) X.A (pyIter (.ref s.heap.objs.size)) (PIE X pins σ tg R) E {s with heap:=s.heap.push {cls:=.type "range",data:=.fields #[.int lo t,.int hi u,.int 1 v]},toks:=tk}:=by
 refine wpAny_pyIter_range (IsRange.new ..) (small_one h1 h2 h3 h4) ?_
 have I1:Inv X pins σ H {s with heap:=s.heap.push {cls:=.type "range",data:=.fields #[.int lo t,.int hi u,.int 1 v]},toks:=tk}:=I.kept fun b o e=>Heap.get?_push_of_some _ e
 refine ⟨(s.heap.push {cls:=.type "range",data:=.fields #[.int lo t,.int hi u,.int 1 v]}).objs.size,[(s.heap.push {cls:=.type "range",data:=.fields #[.int lo t,.int hi u,.int 1 v]}).objs.size],_,_,H,rfl,
  I1.kept (t':=tk) fun b o e=>Heap.get?_push_of_some _ e,turn_range _ lo (hi - lo).toNat,?_,fun b hb=>?_,q⟩
 ·have e1:lo + ((0:Nat):Int) * 1=lo:=by simp
  have e2:(((hi - lo).toNat:Nat):Int) - ((0:Nat):Int)=Builtin.Range.rangeSize lo hi 1:=by rw [rangeSize_one];split <;> (first|lia|omega)
  show IsRangeIter _ _ (lo + ((0:Nat):Int) * 1) ((((hi - lo).toNat:Nat):Int) - ((0:Nat):Int)) 1
  rw [e1,e2]
  exact Heap.get?_push_size _ rfl
 ·have e:b=(s.heap.push {cls:=.type "range",data:=.fields #[.int lo t,.int hi u,.int 1 v]}).objs.size:=by simpa using hb
  subst e
  exact I1.fpOk (Nat.le_refl _) (I1.hok.fresh (Nat.le_refl _))
noncomputable def iRng1 (ta:TA):TI:=fun σ H R=>ta σ H fun vs H1=>∃j:Int,vs=[.int j]∧-(2 ^ 62)≤j∧j < 2 ^ 62∧R (Itr 0 j.toNat) H1
noncomputable def iRng2 (ta:TA):TI:=fun σ H R=>ta σ H fun vs H1=>∃i j:Int,vs=[.int i,.int j]∧(-(2 ^ 62)≤i∧i < 2 ^ 62∧-(2 ^ 62)≤j∧j < 2 ^ 62)∧R (Itr i (j - i).toNat) H1
theorem pi_range1 {a:Expr}{ta:TA}{p pos:Pos}(hg:Gl X "range")(hm:X.mg "range"=none)(ha:PA X [a] ta)(hs:autoParam (starEach [a] X.env=[(false,eval a X.env)]) Zau.a2._auto_1):PI X tg (.Call (.Name "range" p) [a] [] pos) (iRng1 ta):=by
 intro pins s σ H R I h
 refine Call_ (ld_blt I hg hm boot_range (PyProof.Rows.callWith_type1 (thn (ha pos pins s σ H _ I h) fun us s1 h0=>ex5 h0 fun vs H1 I1 r1 q1=>?_) hs rfl))
 obtain ⟨j,e,q1,q2,q⟩:=q1
 subst e
 cases r1 with
 | cons r rr=>
  cases rr
  obtain ⟨t,rfl⟩:=r
  exact call_range_1 (range_it I1 (by (first|lia|omega)) (by (first|lia|omega)) q1 q2 (by simpa using q))
theorem pi_range2 {a b:Expr}{ta:TA}{p pos:Pos}(hg:Gl X "range")(hm:X.mg "range"=none)(ha:PA X [a,b] ta)(hs:autoParam (starEach [a,b] X.env=[(false,eval a X.env),(false,eval b X.env)]) Zau.a2._auto_1)(hs2:autoParam (starEach [b] X.env=[(false,eval b X.env)]) Zau.a2._auto_1):
  PI X tg (.Call (.Name "range" p) [a,b] [] pos) (iRng2 ta):=by
 intro pins s σ H R I h
 refine Call_ (ld_blt I hg hm boot_range (PyProof.Rows.callWith_type1 (thn (ha pos pins s σ H _ I h) fun us s1 h0=>ex5 h0 fun vs H1 I1 r1 q1=>?_) (by rw [hs,hs2]) (by rw [hs2];rfl)))
 obtain ⟨i,j,e,⟨q1,q2,q3,q4⟩,q⟩:=q1
 subst e
 cases r1 with
 | cons r rr=>
  cases rr with
  | cons r' rr=>
   cases rr
   obtain ⟨t,rfl⟩:=r
   obtain ⟨t',rfl⟩:=r'
   exact call_range_2 (range_it I1 q1 q2 q3 q4 q)
noncomputable def tFor (wi:TI) (g:TG) (tb:TS):TS:=fun D σ H=>wi σ H fun J H1=>∃W:Nat→Nat→St→Hp→Prop,(∃m,W 0 m σ H1)∧∀i m σ H,W i m σ H→
 (J.stop i H∧D.nx σ H)∨(J.go i H∧∃N:St→Hp→Prop,(∀σ' H',N σ' H'→∃m',m' < m∧W (i + 1) m' σ' H')∧∀x H',J.yld i H x H'→g x σ H' fun σ2 H2=>tb {D with nx:=N,ct:=N,bk:=D.nx} σ2 H2)
noncomputable def pinsAt (fp:List Addr) (h:Heap):List (Addr×Obj):=fp.filterMap fun b=>(h.get? b).map fun o=>(b,o)
theorem mem_pinsAt {fp:List Addr}{h:Heap}{b:Addr}{o:Obj}(hb:b∈fp)(e:h.get? b=some o):(b,o)∈pinsAt fp h:=List.mem_filterMap.mpr ⟨b,hb,by rw [e];rfl⟩
theorem of_pinsAt {fp:List Addr}{h:Heap}{p:Addr×Obj}(hp:p∈pinsAt fp h):p.1∈fp∧h.get? p.1=some p.2:=by
 obtain ⟨b,hb,e⟩:=List.mem_filterMap.mp hp
 cases q:h.get? b with
 | none=>rw [q] at e;cases e
 | some o=>
  rw [q] at e
  have e':(b,o)=p:=Option.some.inj e
  subst e'
  exact ⟨hb,q⟩
theorem Inv.pinned {pins:List (Addr×Obj)}{σ:St}{H:Hp}{s:Shared}{fp:List Addr}(I:Inv X pins σ H s)(hf:∀b∈fp,FpOk X pins H b)(ho:∀b∈fp,∃o,s.heap.get? b=some o∧∀v,o.data≠.cell v):Inv X (pins ++ pinsAt fp s.heap) σ H s:=
 I.pins_of fun p hp=>(List.mem_append.mp hp).elim (fun z=>I.pin p (List.mem_append_right _ z)) fun z=>by
  obtain ⟨hb,e⟩:=of_pinsAt z
  obtain ⟨f0,f1,f2,_⟩:=hf p.1 hb
  obtain ⟨o,e',d⟩:=ho p.1 hb
  rw [e] at e';cases e'
  exact ⟨e,f0,f1,f2,d⟩
theorem Inv.unpinned {pins pl:List (Addr×Obj)}{σ:St}{H:Hp}{s:Shared}(I:Inv X (pins ++ pl) σ H s):Inv X pins σ H s:=I.pins_of fun p hp=>I.pin p (List.mem_append_right _ (List.mem_append_left _ hp))
theorem ps_for {iter:Expr}{body:List Stmt}{wi:TI}{g:TG}{tb:TS}{pos:Pos}(hp:PassesOwn (model X.prog X.w) X.A X.env X.xe)(hc:X.calm=true)(hi:PI X tg iter wi)(hg:PG X tg g)(hb:PSs X body tb)
  (hs:autoParam (∀x,foldedSetIterable iter X.env x=pure x) Zau.a3._auto_1):PS X (.For tg iter body [] pos) (tFor wi g tb):=by
 intro pins s σ H D I h
 refine wpAny_For (thn (hi pins s σ H _ I h) fun v s1 h1=>thn h1 fun itv s2 h2=>?_) hs
 obtain ⟨it,fp,tn,J,H2,e,I2,T,st2,f2,W,⟨m0,w0⟩,turn⟩:=h2
 subst e
 have stat:∀{H':Hp},(∀b∈fp,H' b=none)→∀b∈fp,FpOk X pins H' b:=fun hn b hb=>⟨hn b hb,(f2 b hb).2⟩
 refine codeAny_forLoop_any (fun n s'=>∃i σ' H',Inv X pins σ' H' s'∧tn i s'.heap∧(∀b∈fp,H' b=none)∧W i n σ' H') ?_ m0 ⟨0,σ,H2,I2,st2,fun b hb=>(f2 b hb).1,w0⟩
 rintro n s3 ⟨i,σ3,H3,I3,st3,fr3,w3⟩
 rcases turn i n σ3 H3 w3 with ⟨stop,qn⟩ | ⟨go,N,hN,step⟩
 ·refine wpAny_passesOwn hp (thn (T.done X rfl rfl rfl hc i pins s3 σ3 H3 X.xe I3 (stat fr3) st3 stop) fun r s4 ⟨hr,I4⟩=>?_)
  subst hr
  exact wpAny_execs_nil ⟨σ3,H3,I4,qn⟩
 ·refine wpAny_passesOwn hp (thn (T.item X rfl rfl rfl hc i pins s3 σ3 H3 X.xe I3 (stat fr3) st3 go) fun r s4 ⟨u,hr,h4⟩=>?_)
  subst hr
  refine wpAny_passesOwn hp (thn h4 fun _ s5 ⟨x,H5,I5,r5,y5,st5,fr5⟩=>?_)
  have I5':=I5.pinned (stat fr5) (T.obj _ _ st5)
  refine wpAny_passesOwn hp (thn (hg _ s5 σ3 H5 x u _ I5' r5 (step x H5 y5)) fun _ s6 ⟨σ6,H6,I6,q6⟩=>?_)
  refine wpAny_passesOwn hp (thn (hb _ s6 σ6 H6 _ I6 q6) fun f s7 q7=>?_)
  have again:∀{σ7:St} {H7:Hp},Inv X (pins ++ pinsAt fp s5.heap) σ7 H7 s7→N σ7 H7→∃m,m < n∧∃i σ' H',Inv X pins σ' H' s7∧tn i s7.heap∧(∀b∈fp,H' b=none)∧W i m σ' H':=fun {σ7 H7} I7 n7=>by
   obtain ⟨m',hm,w7⟩:=hN σ7 H7 n7
   refine ⟨m',hm,i + 1,σ7,H7,I7.unpinned,T.keep _ _ _ st5 fun b hb o e=>(I7.pin (b,o) (List.mem_append_right _ (List.mem_append_right _ (mem_pinsAt hb e)))).1,fun b hb=>?_,w7⟩
   obtain ⟨o,e,d⟩:=T.obj _ _ st5 b hb
   exact (I7.pin (b,o) (List.mem_append_right _ (List.mem_append_right _ (mem_pinsAt hb e)))).2.1
  cases f with
  | next=>obtain ⟨σ7,H7,I7,n7⟩:=q7;exact again I7 n7
  | cont=>obtain ⟨σ7,H7,I7,n7⟩:=q7;exact again I7 n7
  | brk=>obtain ⟨σ7,H7,I7,q7⟩:=q7;exact ⟨σ7,H7,I7.unpinned,q7⟩
  | ret v=>obtain ⟨x7,σ7,H7,I7,r7,q7⟩:=q7;exact ⟨x7,σ7,H7,I7.unpinned,r7,q7⟩
end
end L2
namespace L2
open PySem PySem.Spec PyProof.Rows
noncomputable abbrev R2:=V→V→Hp→VK→Prop
noncomputable def OpR (X:Cx) (f:Value→Value→Sem Value) (r:R2):Prop:=
 ∀(pins:List (Addr×Obj)) (s:Shared) (σ:St) (H:Hp) (x y:V) (v u:Value) (Q:VK),Inv X pins σ H s→RelV x v→RelV y u→r x y H Q→
  wpAny (model X.prog X.w) X.A (f v u) (EP X pins σ Q) X.xe s
noncomputable def UnR (X:Cx) (f:Value→Sem Value) (r:V→Hp→VK→Prop):Prop:=
 ∀(pins:List (Addr×Obj)) (s:Shared) (σ:St) (H:Hp) (x:V) (v:Value) (Q:VK),Inv X pins σ H s→RelV x v→r x H Q→
  wpAny (model X.prog X.w) X.A (f v) (EP X pins σ Q) X.xe s
noncomputable def CallR (X:Cx) (f:Value) (r:List V→Hp→VK→Prop):Prop:=
 ∀(pins:List (Addr×Obj)) (s:Shared) (σ:St) (H:Hp) (xs:List V) (us:List Value) (Q:VK),Inv X pins σ H s→Vals xs us→r xs H Q→
  wpAny (model X.prog X.w) X.A (call f us) (EP X pins σ Q) X.xe s
noncomputable def TruR (X:Cx) (r:V→Hp→(Bool→Hp→Prop)→Prop):Prop:=
 ∀(pins:List (Addr×Obj)) (s:Shared) (σ:St) (H:Hp) (x:V) (v:Value) (Q:Bool→Hp→Prop),Inv X pins σ H s→RelV x v→r x H Q→
  wpAny (model X.prog X.w) X.A (truthy v) (TP X pins σ Q) X.xe s
noncomputable def tOp (r:R2) (ta tb:TE):TE:=fun σ H Q=>ta σ H fun x H1=>tb σ H1 fun y H2=>r x y H2 Q
noncomputable def tUn (r:V→Hp→VK→Prop) (ta:TE):TE:=fun σ H Q=>ta σ H fun x H1=>r x H1 Q
noncomputable def rI (C:Int→Int→Prop) (g:Int→Int→V):R2:=fun x y H Q=>∃i j,x= .int i∧y= .int j∧C i j∧Q (g i j) H
noncomputable def rI0 (g:Int→Int→V):R2:=fun x y H Q=>∃i j,x= .int i∧y= .int j∧Q (g i j) H
noncomputable def rU (g:Int→V):V→Hp→VK→Prop:=fun x H Q=>∃i,x= .int i∧Q (g i) H
section
variable {X:Cx}{a b c:Expr}{ta tb tc:TE}{pos:Pos}
theorem binT (ha:PE X a ta)(hb:PE X b tb){pins:List (Addr×Obj)}{s:Shared}{σ:St}{H:Hp}{R:V→V→Hp→Prop}(I:Inv X pins σ H s)
  (h:ta σ H fun x H1=>tb σ H1 fun y H2=>R x y H2) {Q:Value→Shared→Prop} {f:Value→Value→Sem Value}
  (hf:∀v u s2 x y H2,Inv X pins σ H2 s2→RelV x v→RelV y u→R x y H2→wpAny (model X.prog X.w) X.A (f v u) Q X.xe s2):
  wpAny (model X.prog X.w) X.A (eval a X.env) (fun v s₁=>wpAny (model X.prog X.w) X.A (eval b X.env) (fun u s₂=>wpAny (model X.prog X.w) X.A (f v u) Q X.xe s₂) X.xe s₁) X.xe s:=by
 refine thn (ha pins s σ H _ I h) fun v s1 h0=>ex5 h0 fun x H1 I1 r1 q1=>?_
 refine thn (hb pins s1 σ H1 _ I1 q1) fun u s2 h0=>ex5 h0 fun y H2 I2 r2 q2=>?_
 exact hf v u s2 x y H2 I2 r1 r2 q2
theorem pe_op {op:Operator}{r:R2}(ho:OpR X (binaryOp op) r)(ha:PE X a ta)(hb:PE X b tb):PE X (.BinOp a op b pos) (tOp r ta tb):=by
 intro pins s σ H Q I h
 exact wpAny_BinOp (binT ha hb I h fun v u s2 x y H2 I2 rx ry q=>ho pins s2 σ H2 x y v u Q I2 rx ry q)
theorem pe_un {op:UnaryOp}{r:V→Hp→VK→Prop}(ho:UnR X (unaryOp op) r)(ha:PE X a ta):PE X (.UnaryOp op a pos) (tUn r ta):=by
 intro pins s σ H Q I h
 exact UnaryOp_ (thn (ha pins s σ H _ I h) fun v s1 h0=>ex5 h0 fun x H1 I1 r1 q1=>ho pins s1 σ H1 x v Q I1 r1 q1)
theorem opI {f:Value→Value→Sem Value}{C:Int→Int→Prop}{g:Int→Int→Int}
  (rule:∀(i j:Int) (t u:Tok) (s:Shared) (Q:Value→Shared→Prop) (E:Value→Shared→Prop),C i j→Q (.int (g i j) s.toks) {s with toks:=s.toks + 1}→wpAny (model X.prog X.w) X.A (f (.int i t) (.int j u)) Q E s):
  OpR X f (rI C fun i j=>.int (g i j)):=by
 intro pins s σ H x y v u Q I rx ry h
 obtain ⟨i,j,rfl,rfl,hc,q⟩:=h
 obtain ⟨t,rfl⟩:=rx
 obtain ⟨t',rfl⟩:=ry
 exact rule i j t t' s _ _ hc ⟨.int (g i j),H,I.tok _,⟨_,rfl⟩,q⟩
theorem opI0 {f:Value→Value→Sem Value}{g:Int→Int→Int}
  (rule:∀(i j:Int) (t u:Tok) (s:Shared) (Q:Value→Shared→Prop) (E:Value→Shared→Prop),Q (.int (g i j) s.toks) {s with toks:=s.toks + 1}→wpAny (model X.prog X.w) X.A (f (.int i t) (.int j u)) Q E s):
  OpR X f (rI0 fun i j=>.int (g i j)):=by
 intro pins s σ H x y v u Q I rx ry h
 obtain ⟨i,j,rfl,rfl,q⟩:=h
 obtain ⟨t,rfl⟩:=rx
 obtain ⟨t',rfl⟩:=ry
 exact rule i j t t' s _ _ ⟨.int (g i j),H,I.tok _,⟨_,rfl⟩,q⟩
theorem opB0 {f:Value→Value→Sem Value}{g:Int→Int→Bool}
  (rule:∀(i j:Int) (t u:Tok) (s:Shared) (Q:Value→Shared→Prop) (E:Value→Shared→Prop),Q (.bool (g i j)) s→wpAny (model X.prog X.w) X.A (f (.int i t) (.int j u)) Q E s):
  OpR X f (rI0 fun i j=>.bl (g i j)):=by
 intro pins s σ H x y v u Q I rx ry h
 obtain ⟨i,j,rfl,rfl,q⟩:=h
 obtain ⟨t,rfl⟩:=rx
 obtain ⟨t',rfl⟩:=ry
 exact rule i j t t' s _ _ ⟨.bl (g i j),H,I,rfl,q⟩
noncomputable def CPow (i j:Int):Prop:=0≤j∧j≤1000000∧i.natAbs < 2 ^ 64
noncomputable def CMul (i j:Int):Prop:=(-(2 ^ 64) < i∧i < 2 ^ 64)∨(-(2 ^ 64) < j∧j < 2 ^ 64)
theorem CMul.ok {i j:Int}(h:CMul i j):IntMulOk i j:=by
 rcases h with ⟨h1,h2⟩ | ⟨h1,h2⟩
 ·exact .of_left (intBits_le_64 h1 h2)
 ·exact .of_right (intBits_le_64 h1 h2)
theorem op_add:OpR X (binaryOp .Add) (rI0 fun i j=>.int (i + j)):=opI0 fun _ _ _ _ _ _ _ q=>add_int q
theorem op_sub:OpR X (binaryOp .Sub) (rI0 fun i j=>.int (i - j)):=opI0 fun _ _ _ _ _ _ _ q=>sub_int q
theorem op_mod:OpR X (binaryOp .Mod) (rI (fun _ j=>0 < j) fun i j=>.int (i % j)):=opI fun i j _ _ _ _ _ hc q=>by
 have h1:(0:Int) < j:=hc
 exact mod_int' (by (first|lia|omega)) (by rw [Int.fmod_eq_emod_of_nonneg i (by (first|lia|omega))];exact q)
theorem op_pow:OpR X (binaryOp .Pow) (rI CPow fun i j=>.int (i ^ j.toNat)):=opI fun _ _ _ _ _ _ _ hc q=>pow_int_small hc.1 hc.2.1 hc.2.2 q
theorem unI {f:Value→Sem Value}{g:Int→Int}
  (rule:∀(i:Int) (t:Tok) (s:Shared) (Q:Value→Shared→Prop) (E:Value→Shared→Prop),Q (.int (g i) s.toks) {s with toks:=s.toks + 1}→wpAny (model X.prog X.w) X.A (f (.int i t)) Q E s):
  UnR X f (rU fun i=>.int (g i)):=by
 intro pins s σ H x v Q I rx h
 obtain ⟨i,rfl,q⟩:=h
 obtain ⟨t,rfl⟩:=rx
 exact rule i t s _ _ ⟨.int (g i),H,I.tok _,⟨_,rfl⟩,q⟩
theorem un_neg:UnR X (unaryOp .USub) (rU fun i=>.int (-i)):=unI fun _ _ _ _ _ q=>neg_int q
end
section
variable {X:Cx}{a b c:Expr}{ta tb tc:TE}{pos:Pos}
theorem op_lt:OpR X (compareOp .Lt) (rI0 fun i j=>.bl (decide (i < j))):=opB0 fun _ _ _ _ _ _ _ q=>lt_int q
theorem op_le:OpR X (compareOp .LtE) (rI0 fun i j=>.bl (decide (i≤j))):=opB0 fun _ _ _ _ _ _ _ q=>le_int q
theorem op_gt:OpR X (compareOp .Gt) (rI0 fun i j=>.bl (decide (j < i))):=opB0 fun _ _ _ _ _ _ _ q=>gt_int q
theorem op_ge:OpR X (compareOp .GtE) (rI0 fun i j=>.bl (decide (j≤i))):=opB0 fun _ _ _ _ _ _ _ q=>ge_int q
theorem OpR.or {f:Value→Value→Sem Value}{r r':R2}(h:OpR X f r)(h':OpR X f r'):OpR X f (fun x y H Q=>r x y H Q∨r' x y H Q):=by
 intro pins s σ H x y v u Q I rx ry q
 rcases q with q | q
 ·exact h pins s σ H x y v u Q I rx ry q
 ·exact h' pins s σ H x y v u Q I rx ry q
theorem nomark (b:Expr){op:CmpOp}(h:autoParam (op≠.In) Zau.a1._auto_1)(h2:autoParam (op≠.NotIn) Zau.a1._auto_1):behindInMarks op b=false:=by
 have e1:(op == CmpOp.In)=false:=by cases op <;> first | rfl | exact absurd rfl h
 have e2:(op == CmpOp.NotIn)=false:=by cases op <;> first | rfl | exact absurd rfl h2
 cases b <;> simp [behindInMarks,e1,e2]
theorem pe_cmpR {op:CmpOp}{r:R2}(ho:OpR X (compareOp op) r)(ha:PE X a ta)(hb:PE X b tb)(hm:behindInMarks op b=false):PE X (.Compare a [op] [b] pos) (tOp r ta tb):=by
 intro pins s σ H Q I h
 exact wpAny_Compare1 (binT ha hb I h fun v u s2 x y H2 I2 rx ry q=>ho pins s2 σ H2 x y v u Q I2 rx ry q) hm
noncomputable def tTest (t:TE):TT:=fun σ H Q=>t σ H fun x H'=>∃k,x= .bl k∧Q k H'
theorem pt_cmpR {op:CmpOp}{r:R2}(ho:OpR X (compareOp op) r)(ha:PE X a ta)(hb:PE X b tb)(hm:behindInMarks op b=false):PT X (.Compare a [op] [b] pos) (tTest (tOp r ta tb)):=by
 intro pins s σ H Q I h
 refine wpAny_isTrue_Compare1 (thn (ha pins s σ H _ I h) fun v s1 h0=>ex5 h0 fun x H1 I1 r1 q1=>thn (hb pins s1 σ H1 _ I1 q1) fun u s2 h0=>ex5 h0 fun y H2 I2 r2 q2=>
  thn (ho pins s2 σ H2 x y v u _ I2 r1 r2 q2) fun c s3 ⟨z,H3,I3,r3,k,e,q3⟩=>?_) hm
 subst e
 cases r3
 exact wpAny_truthy_bool ⟨H3,I3,q3⟩
noncomputable def tChain (r r':R2) (ta tb tc:TE):TE:=fun σ H Q=>ta σ H fun x H1=>tb σ H1 fun y H2=>r x y H2 fun z H3=>∃k,z= .bl k∧
 (if k=true then tc σ H3 fun w' H4=>r' y w' H4 Q else Q (.bl false) H3)
theorem pe_chain {op op':CmpOp}{r r':R2}(ho:OpR X (compareOp op) r)(ho':OpR X (compareOp op') r')(ha:PE X a ta)(hb:PE X b tb)(hc:PE X c tc)
  (hm:autoParam (lastMarks [op,op'] [b,c]=false) Zau.a4._auto_1):PE X (.Compare a [op,op'] [b,c] pos) (tChain r r' ta tb tc):=by
 intro pins s σ H Q I h
 refine Compare_chain (thn (ha pins s σ H _ I h) fun v s1 h0=>ex5 h0 fun x H1 I1 r1 q1=>chain_link (thn (hb pins s1 σ H1 _ I1 q1) fun u s2 h0=>ex5 h0 fun y H2 I2 r2 q2=>
  thn (ho pins s2 σ H2 x y v u _ I2 r1 r2 q2) fun d s3 ⟨z,H3,I3,r3,k,e,q3⟩=>?_)) hm
 subst e
 cases r3
 refine wpAny_truthy_bool ?_
 cases k with
 | false=>exact ite_ff ⟨.bl false,H3,I3,rfl,q3⟩
 | true=>exact ite_tt (chain_last (thn (hc pins s3 σ H3 _ I3 q3) fun w' s4 h0=>ex5 h0 fun z' H4 I4 r4 q4=>ho' pins s4 σ H4 y z' u w' Q I4 r2 r4 q4))
noncomputable def TruV (K:PySem.W.Frag) (x:V) (H:Hp) (k:Bool):Prop:=
 match x with
 | .non=>k=false
 | .bl b=>k=b
 | .int i=>k=(i != 0)
 | .str y=>y.length≤sizeLine∧k=((y.length:Int) != 0)
 | .byt y=>y.size≤sizeLine∧k=((y.size:Int) != 0)
 | .ref p=>(∃xs,SqL K H p xs∧k= !xs.isEmpty)∨(∃xs,SqT K H p xs∧k= !xs.isEmpty)∨∃kvs,H p=some (.dK kvs)∧k= !kvs.isEmpty
 | _=>False
theorem isEmpty_kv {κ:Type}{kvs:List (κ×V)}{vs:List (κ×Value)}(r:KV kvs vs):(!vs.isEmpty)= !kvs.isEmpty:=by
 cases r <;> rfl
theorem isEmpty_of {xs:List V}{its:List Value}(r:Vals xs its):(!its.toArray.isEmpty)= !xs.isEmpty:=by
 cases r <;> simp
theorem line63:(sizeLine:Nat) < 2 ^ 63:=by rw [sizeLine_eq];decide
theorem tru_ok:TruR X (fun x H Q=>∃k,TruV X.K x H k∧Q k H):=by
 intro pins s σ H x v Q I rx h
 obtain ⟨k,e,q⟩:=h
 have hl:=line63
 have hs:sizeLine=16777216:=sizeLine_eq
 cases x with
 | non=>
  cases rx
  have e':k=false:=e
  subst e'
  exact truthy_none ⟨H,I,q⟩
 | bl b=>
  cases rx
  have e':k=b:=e
  subst e'
  exact wpAny_truthy_bool ⟨H,I,q⟩
 | int i=>
  obtain ⟨t,rfl⟩:=rx
  have e':k=(i != 0):=e
  subst e'
  exact PySem.P.truthy_int ⟨H,I,q⟩
 | str y=>
  obtain ⟨t,rfl⟩:=rx
  obtain ⟨hy,e'⟩:y.length≤sizeLine∧k=((y.length:Int) != 0):=e
  subst e'
  exact PySem.P.truthy_str (by (first|lia|omega)) ⟨H,I.tok _,q⟩
 | byt y=>
  obtain ⟨t,rfl⟩:=rx
  obtain ⟨hy,e'⟩:y.size≤sizeLine∧k=((y.size:Int) != 0):=e
  subst e'
  exact PySem.W.truthy_bytes (by (first|lia|omega)) ⟨H,I.tok _,q⟩
 | ref p=>
  cases rx
  have e':(∃xs,SqL X.K H p xs∧k= !xs.isEmpty)∨(∃xs,SqT X.K H p xs∧k= !xs.isEmpty)∨∃kvs,H p=some (.dK kvs)∧k= !kvs.isEmpty:=e
  rcases e' with ⟨xs,hx,e'⟩ | ⟨xs,hx,e'⟩ | ⟨kvs,hx,e'⟩
  ·subst e'
   obtain ⟨its,r,pl,hz⟩:=I.list hx
   have hlen:=r.length
   exact wpAny_truthy_list pl.isList (by simp only [List.size_toArray];(first|lia|omega)) ⟨H,I.tok _,by rw [isEmpty_of r];exact q⟩
  ·subst e'
   obtain ⟨its,r,pl,hz⟩:=I.tuple hx
   have hlen:=r.length
   exact truthy_tuple pl (by simp only [List.size_toArray];(first|lia|omega)) ⟨H,I.tok _,by rw [isEmpty_of r];exact q⟩
  ·subst e'
   obtain ⟨hz,hS,vs,r,m⟩:kvs.length≤sizeLine∧(p == sysModules)=false∧∃vs,KV kvs vs∧s.heap.DictOf (mixKind X.prog X.w) p vs:=I.hok p _ hx
   have hlen:kvs.length=vs.length:=Paired.length r
   exact wpAny_truthy_dict hS m (by (first|lia|omega)) ⟨H,I.tok _,by rw [isEmpty_kv r];exact q⟩
 | _=>exact (show False from e).elim
theorem pt_truth (ha:PE X a ta)(he:∀whole,isTrue a X.env whole=(do let v ←whole;standAt a.pos;holding [v] (truthy v))):
  PT X a (fun σ H Q=>ta σ H fun x H'=>∃k,TruV X.K x H' k∧Q k H'):=by
 intro pins s σ H Q I h
 exact isTrue_plain (thn (ha pins s σ H _ I h) fun v s1 h0=>ex5 h0 fun x H1 I1 r1 q1=>tru_ok pins s1 σ H1 x v Q I1 r1 q1) (he _)
theorem vals1 {x:V}{us:List Value}(r:Vals [x] us):∃u,us=[u]∧RelV x u:=by
 cases r with
 | cons r1 r2=>cases r2;exact ⟨_,rfl,r1⟩
theorem vals2 {x y:V}{us:List Value}(r:Vals [x,y] us):∃u w',us=[u,w']∧RelV x u∧RelV y w':=by
 cases r with
 | cons r1 r2=>
  cases r2 with
  | cons r3 r4=>cases r4;exact ⟨_,_,rfl,r1,r3⟩
theorem call_abs:CallR X (.builtin "abs") (fun xs H Q=>∃i,xs=[.int i]∧Q (.int (if i < 0 then -i else i)) H):=by
 intro pins s σ H xs us Q I r h
 obtain ⟨i,rfl,q⟩:=h
 obtain ⟨u,rfl,t,rfl⟩:=vals1 r
 exact call_abs_int fun u tk=>⟨.int (if i < 0 then -i else i),H,I.tok _,⟨_,rfl⟩,q⟩
end
end L2
namespace L2
open PySem PySem.Spec PyProof.Rows
section
variable {prog:Program}{w:World}{A:Around}{E:Value→Shared→Prop}{s:Shared}{K:PySem.W.Frag}{x dx C f:Addr}{mA:Str→Option Value}{name:Str}{v:Value}
end
section
variable {P:Program}{w:World}{H H':Hp}{h h':Heap}{a C dx:Addr}{fs fs':List (Str×V)}
end
structure Cls (K:PySem.W.Frag) (C:Addr):Prop where
 pg:PySem.W.plainGet K C Str.empty=true
 hd:PySem.W.hasDictIn K C=true
 po:PySem.W.plainOver K C=true
 sa:PySem.W.findIn K (.ref C) "__setattr__"=some (some (.builtin "object.__setattr__"))
theorem Cls.get {K:PySem.W.Frag}{C:Addr}(c:Cls K C)(f:Str):PySem.W.plainGet K C f=true:=c.pg
section
variable {X:Cx}{pins:List (Addr×Obj)}{σ:St}{H:Hp}{s:Shared}{a C dx:Addr}{fs:List (Str×V)}{f:Str}{v:V}{A:Around}{E:Value→Shared→Prop}
theorem Inv.made (I:Inv X pins σ H s):Inv X pins σ (upd (upd H s.heap.objs.size (.own (s.heap.objs.size + 1))) (s.heap.objs.size + 1) (.ins C s.heap.objs.size []))
  {s with heap:=(s.heap.push PySem.W.emptyDict).push (PySem.W.instObj C s.heap.objs.size)}:=by
 have e1:(s.heap.push PySem.W.emptyDict).get? s.heap.objs.size=some PySem.W.emptyDict:=Heap.get?_push_size s.heap rfl
 have e2:((s.heap.push PySem.W.emptyDict).push (PySem.W.instObj C s.heap.objs.size)).get? (s.heap.objs.size + 1)=some (PySem.W.instObj C s.heap.objs.size):=by
  have:=Heap.get?_push_size (s.heap.push PySem.W.emptyDict) (o:=PySem.W.instObj C s.heap.objs.size) rfl
  rwa [Heap.size_push] at this
 have e3:(s.heap.push PySem.W.emptyDict).Ns s.heap.objs.size (fun _=>none):=⟨PySem.W.emptyDict, #[],_,e1,rfl,(fun e he=>absurd he (by simp)),fun _=>rfl⟩
 have I1:=I.laid (a:=s.heap.objs.size) (o:=.own (s.heap.objs.size + 1)) (h':=s.heap.push PySem.W.emptyDict) (t':=s.toks) (fun b u q=>Heap.get?_push_of_some _ q) (Nat.le_refl _) ⟨_,e1⟩
 refine I1.laid (a:=s.heap.objs.size + 1) (o:=.ins C s.heap.objs.size []) (t':=s.toks) (fun b u q=>Heap.get?_push_of_some _ q) (Nat.le_of_eq (Heap.size_push _ _)) ?_
 have ne:s.heap.objs.size≠s.heap.objs.size + 1:=Nat.ne_of_lt (Nat.lt_succ_self _)
 refine ⟨by rw [upd_ne ne,upd_same],Nat.zero_le _,ne,e2,fun _=>none,(Heap.Ns1.of_empty e3).at fun o q=>Heap.get?_push_of_some _ q,fun _=>True.intro,fun y hy=>absurd rfl hy⟩
end
section
variable {X:Cx}{o e value:Expr}{f:Str}{pos pos' tpos:Pos}{ta tv:TE}
end
section
variable {X:Cx}{pins:List (Addr×Obj)}{σ:St}{H:Hp}{s:Shared}{A:Around}{E:Value→Shared→Prop}{Q:Value→Shared→Prop}{c:Value}{b:Bool}
inductive TyOf (K:PySem.W.Frag) (H:Hp):V→Value→Prop where
 | non:TyOf K H .non (.type "NoneType")
 | bl (x:Bool):TyOf K H (.bl x) (.type "bool")
 | int (i:Int):TyOf K H (.int i) (.type "int")
 | str (x:Str):TyOf K H (.str x) (.type "str")
 | flt (x:UInt64):TyOf K H (.flt x) (.type "float")
 | lst {a:Addr} {xs:List V} (e:H a=some (.lst xs)):TyOf K H (.ref a) (.type "list")
 | frz {a:Addr} {o:Obj} {xs:List V} (e:H a=some (.frz o (.lst xs))):TyOf K H (.ref a) (.type "list")
 | tup {a:Addr} {xs:List V} (e:H a=some (.tup xs)):TyOf K H (.ref a) (.type "tuple")
 | dK {a:Addr} {kvs:List (Key×V)} (e:H a=some (.dK kvs)):TyOf K H (.ref a) (.type "dict")
 | dT {a:Addr} {kvs:List (List Key×V)} (e:H a=some (.dT kvs)):TyOf K H (.ref a) (.type "dict")
 | ins {a C dx:Addr} {fs:List (Str×V)} (e:H a=some (.ins C dx fs)) (cl:Cls K C) (ha:PySem.W.findIn K (.ref C) "__class__"=some (some (.builtin "object.__class__")))
   (hn:PySem.W.specialIn K (.builtin "object.__class__") "__get__"=some (some (.builtin "getset_descriptor.__get__"))) (htk:PySem.W.takesIn K (.builtin "object.__class__")=some true)
   (hm:PySem.W.mroIn K C (.type "object")=some true):TyOf K H (.ref a) (.ref C)
end
end L2
namespace L2
open PySem PySem.Spec PyProof.Rows
structure Room (k:Nat) (A:Around):Prop where
 hd:A.handled=none
 dp:A.depth + 3 * k + 5 < recursionLimit
 un:A.units + 16 * k + 200 < cLine
 gd:A.guards=some []
theorem Room.mono {j k:Nat}{A:Around}(r:Room k A)(h:j≤k):Room j A:=⟨r.hd,by have:=r.dp;(first|lia|omega),by have:=r.un;(first|lia|omega),r.gd⟩
theorem Room.deeper {k:Nat}{A:Around}(r:Room (k + 1) A)(env:Env):Room k (A.deeper env):=
 ⟨r.hd,by have:=r.dp;show A.depth + 1 + 3 * k + 5 < _;(first|lia|omega),by have:=r.un;show A.units + 3 + 16 * k + 200 < _;(first|lia|omega),r.gd⟩
theorem Room.in1 {k:Nat}{A:Around}(r:Room (k + 1) A):Room k A.in1:=
 ⟨r.hd,by have:=r.dp;show A.depth + 3 * k + 5 < _;(first|lia|omega),by have:=r.un;show A.units + 1 + 16 * k + 200 < _;(first|lia|omega),r.gd⟩
theorem Room.depth {k:Nat}{A:Around}(r:Room k A):A.depth < recursionLimit:=by have:=r.dp;(first|lia|omega)
theorem Room.units {k:Nat}{A:Around}(r:Room k A):A.units + 64 < cLine:=by have:=r.un;(first|lia|omega)
noncomputable def tNil:TA:=fun _ H Q=>Q [] H
noncomputable def tCons (ta:TE) (tr:TA):TA:=fun σ H Q=>ta σ H fun x H1=>tr σ H1 fun xs H2=>Q (x :: xs) H2
section
variable {X:Cx}{e:Expr}{es:List Expr}{te:TE}{t:TA}{pos:Pos}
theorem pa_nil:PA X [] tNil:=fun _ _ _ _ H Q I h=>Calls.spliced_nil ⟨[],H,I,.nil,h⟩
theorem pa_cons (ha:PE X e te)(hr:PA X es t)(hs:autoParam (starEach (e :: es) X.env=(false,eval e X.env) :: starEach es X.env) Zau.a2._auto_1):PA X (e :: es) (tCons te t):=by
 intro pos pins s σ H Q I h
 rw [hs]
 show wpAny _ _ (spliced ((false,eval e X.env) :: backTo pos (starEach es X.env))) _ _ s
 refine Calls.spliced_cons (thn (ha pins s σ H _ I h) fun u s1 h0=>ex5 h0 fun x H1 I1 r1 q1=>?_)
 exact thn (hr pos pins s1 σ H1 _ I1 q1) fun us s2 h0=>ex5 h0 fun xs H2 I2 r2 q2=>⟨x :: xs,H2,I2,.cons r1 r2,q2⟩
noncomputable def tTup (t:TA):TE:=fun σ H Q=>t σ H fun xs H1=>xs.length≤sizeLine∧∀p,H1 p=none→Q (.ref p) (upd H1 p (.tup xs))
noncomputable def tLst (t:TA):TE:=fun σ H Q=>t σ H fun xs H1=>xs.length≤sizeLine∧∀p,H1 p=none→Q (.ref p) (upd H1 p (.lst xs))
theorem pe_tup {x1}(h:PA X es t):PE X (.Tuple es x1 pos) (tTup t):=by
 intro pins s σ H Q I hq
 refine wpAny_Tuple_spliced (thn (h pos pins s σ H _ I hq) fun us s1 ⟨xs,H1,I1,r,z,q⟩=>⟨by rw [←r.length];exact z,?_⟩)
 have hf:H1 s1.heap.objs.size=none:=I1.hok.fresh (Nat.le_refl _)
 refine ⟨.ref s1.heap.objs.size,upd H1 s1.heap.objs.size (.tup xs),I1.laid (t':=s1.toks) (fun b u e=>Heap.get?_push_of_some _ e) (Nat.le_refl _) ?_,rfl,q _ hf⟩
 exact ⟨z,us,r,TupN.new _ _⟩
theorem pe_lst (h:PA X es t):PE X (.List es pos) (tLst t):=by
 intro pins s σ H Q I hq
 refine wpAny_List_spliced (thn (h pos pins s σ H _ I hq) fun us s1 ⟨xs,H1,I1,r,z,q⟩=>⟨by rw [←r.length];exact z,?_⟩)
 have hf:H1 s1.heap.objs.size=none:=I1.hok.fresh (Nat.le_refl _)
 refine ⟨.ref s1.heap.objs.size,upd H1 s1.heap.objs.size (.lst xs),I1.laid (t':=s1.toks) (fun b u e=>Heap.get?_push_of_some _ e) (Nat.le_refl _) ?_,rfl,q _ hf⟩
 exact ⟨z,us,0,r,Heap.get?_push_size _ rfl⟩
end
noncomputable abbrev Sp:=List V→Hp→VK→XK→Prop
noncomputable abbrev CXT:=List Env→Hp→Shared→XK→Value→Shared→Prop
structure Env0 (P:Program) (w:World) (K:PySem.W.Frag) (mg:Str→Option Value) (base:Heap) (A:Around) (outer:List Env) (s:Shared) (H:Hp):Prop where
 frames:A.frames=some outer
 mod:Mod K mg base
 bs:∀b o,base.get? b=some o→s.heap.get? b=some o∧H b=none
 bsz:base.objs.size≤s.heap.objs.size
 funs:s.heap.FunFrames base outer
 frf:∀b∈frs outer,H b=none
 hok:HOk P w H s.heap
 bare:AllBare s.gens
noncomputable def CE (outer:List Env) (P:Program) (w:World) (H:Hp) (s:Shared) (Q:VK) (u:Value) (s':Shared):Prop:=
 ∃v H',s'.os=s.os∧AllBare s'.gens∧Un (frs outer) [] H H' s.heap s'.heap∧HOk P w H' s'.heap∧RelV v u∧Q v H'
noncomputable def CR (CX:CXT) (outer:List Env) (P:Program) (w:World) (H:Hp) (s:Shared) (Q:VK) (E:XK) (r:Result) (s':Shared):Prop:=
 match r with
 | .ok (.ret u)=>CE outer P w H s Q u s'
 | .ok _=>False
 | .error e=>CX outer H s E e s'
structure FnOk (P:Program) (w:World) (K:PySem.W.Frag) (mg:Str→Option Value) (base:Heap) (CX:CXT) (k:Nat) (f:Addr) (fd:FuncData) (ps:List Str) (sp:Sp):Prop where
 len:∀vs H Q E,sp vs H Q E→vs.length=ps.length
 run:∀(A:Around) (outer:List Env) (s:Shared) (H:Hp) (args:Args) (us:List Value) (vs:List V) (Q:VK) (E:XK),Room k A→Env0 P w K mg base A outer s H→BindsTo s fd args (ps.zip us)→Vals vs us→sp vs H Q E→
  codeAny (model P w) A (.call (.ref f) args) (CR CX outer P w H s Q E) s
theorem FnOk.mono {P:Program}{w:World}{K:PySem.W.Frag}{mg:Str→Option Value}{base:Heap}{CX:CXT}{j k:Nat}{f:Addr}{fd:FuncData}{ps:List Str}{sp:Sp}(F:FnOk P w K mg base CX j f fd ps sp)(h:j≤k):
  FnOk P w K mg base CX k f fd ps sp:=⟨F.len,fun A outer s H args us vs Q E hr=>F.run A outer s H args us vs Q E (hr.mono h)⟩
theorem FnOk.imp {P:Program}{w:World}{K:PySem.W.Frag}{mg:Str→Option Value}{base:Heap}{CX:CXT}{k:Nat}{f:Addr}{fd:FuncData}{ps:List Str}{sp sp':Sp}(F:FnOk P w K mg base CX k f fd ps sp)
  (h:∀vs H Q E,sp' vs H Q E→sp vs H Q E):FnOk P w K mg base CX k f fd ps sp':=
 ⟨fun vs H Q E q=>F.len vs H Q E (h _ _ _ _ q),fun A outer s H args us vs Q E hr he hb hv hs=>F.run A outer s H args us vs Q E hr he hb hv (h _ _ _ _ hs)⟩
theorem Env0.in1 {P:Program}{w:World}{K:PySem.W.Frag}{mg:Str→Option Value}{base:Heap}{A:Around}{outer:List Env}{s:Shared}{H:Hp}(e:Env0 P w K mg base A outer s H):
  Env0 P w K mg base A.in1 outer s H:=⟨e.frames,e.mod,e.bs,e.bsz,e.funs,e.frf,e.hok,e.bare⟩
section
variable {X:Cx}{pins:List (Addr×Obj)}{σ:St}{H:Hp}{s s':Shared}
theorem Inv.env0 (I:Inv X pins σ H s):Env0 X.prog X.w X.K X.mg X.base X.A X.stack s H:=
 ⟨I.ok.frames,I.ok.mod,I.bs,Nat.le_trans I.ok.bsz I.sz,I.stack,I.stkFree,I.hok,I.bare⟩
theorem Inv.after {Q:VK}{u:Value}(I:Inv X pins σ H s)(h:CE X.stack X.prog X.w H s Q u s'):EP X pins σ Q u s':=by
 obtain ⟨v,H',os,bare,un,hok,r,q⟩:=h
 obtain ⟨hh,g,d,t,os'⟩:=s'
 obtain rfl:os'=s.os:=os
 exact ⟨v,H',I.call (h':=hh) (g':=g) (d':=d) (t':=t) (ch:=[]) un hok bare (fun b z=>absurd z (by simp)),r,q⟩
end
noncomputable def tCall (sp:Sp) (dvs:List V) (E:XK) (t:TA):TE:=fun σ H Q=>t σ H fun vs H1=>sp (vs ++ dvs) H1 Q E
noncomputable def Binds (K:PySem.W.Frag) (fd:FuncData) (ps:List Str) (ds:List Value):Prop:=
 ∀(s:Shared) (us:List Value),K.In s.heap→(us ++ ds).length=ps.length→BindsTo s fd ⟨us,[]⟩ (ps.zip (us ++ ds))
theorem Binds.all {K:PySem.W.Frag}{fd:FuncData}{ps:List Str}(h:∀us:List Value,us.length=ps.length→bindArgs fd ⟨us,[]⟩=pure (ps.zip us)):Binds K fd ps []:=fun s us _ hl=>by
 rw [List.append_nil] at hl ⊢
 exact .of_eq (h us hl)
noncomputable def Passes (CX:CXT) (X:Cx) (E:XK):Prop:=∀(pins:List (Addr×Obj)) (σ:St) (H:Hp) (s:Shared) (e:Value) (s':Shared),Inv X pins σ H s→CX X.stack H s E e s'→X.xe e s'
section
variable {X:Cx}{CX:CXT}{k:Nat}{f C:Addr}{fd:FuncData}{ps:List Str}{sp:Sp}{dvs:List V}{ds:List Value}{E:XK}{x m:Str}{p pos apos:Pos}{e o:Expr}{es:List Expr}{ta:TE}{t:TA}
theorem run_fn {pins:List (Addr×Obj)}{σ:St}{H:Hp}{s:Shared}{Q:VK}{us:List Value}{vs:List V}(F:FnOk X.prog X.w X.K X.mg X.base CX k f fd ps sp)(hr:Room k X.A)(hb:Binds X.K fd ps ds)(hd:Vals dvs ds)(hx:Passes CX X E)
  (I:Inv X pins σ H s) (r:Vals vs us) (h:sp (vs ++ dvs) H Q E):wpAny (model X.prog X.w) X.A (call (.ref f) us) (EP X pins σ Q) X.xe s:=by
 have r2:Vals (vs ++ dvs) (us ++ ds):=r.append hd
 have hl:(us ++ ds).length=ps.length:=by rw [←r2.length];exact F.len _ _ _ _ h
 refine wpAny_call (codeAny_mono (F.run X.A X.stack s H ⟨us,[]⟩ (us ++ ds) (vs ++ dvs) Q E hr I.env0 (hb s us I.kIn hl) r2 h) fun r s' hq=>?_)
 cases r with
 | error e=>exact hx pins σ H s e s' I hq
 | ok fl=>
  cases fl with
  | ret u=>exact I.after hq
  | next=>exact False.elim hq
  | brk=>exact False.elim hq
  | cont=>exact False.elim hq
theorem pe_call (F:FnOk X.prog X.w X.K X.mg X.base CX k f fd ps sp)(hr:Room k X.A)(hg:Gl X x)(hm:X.mg x=some (.ref f))(hk:PySem.W.keepIn X.K (.ref f)=true)(hb:Binds X.K fd ps ds)(hd:Vals dvs ds)(hx:Passes CX X E)
  (ha:PA X (e :: es) t) (hdb:autoParam ((x == ("__debug__":Str))=false) Zau.a1._auto_1) (he:autoParam (starEach (e :: es) X.env=(false,eval e X.env) :: starEach es X.env) Zau.a2._auto_1) (hpl:autoParam ((backTo pos (starEach es X.env)).any (·.1)=false) Zau.a2._auto_1):
  PE X (.Call (.Name x p) (e :: es) [] pos) (tCall sp dvs E t):=by
 intro pins s σ H Q I h
 refine wpAny_Call_Name_kw (ld_glob I hg hm ?_ hdb)
 refine PySem.W.callWith_K (h₀:=X.base) I.ok.mod.kin hk (thn (ha pos pins s σ H _ I h) fun us s1 h0=>ex5 h0 fun vs H1 I1 r q=>⟨I1.kIn,?_⟩) he hpl
 exact run_fn F hr hb hd hx I1 r q
end
section
variable {X:Cx}{CX:CXT}{k:Nat}{f C:Addr}{fd:FuncData}{ps ks:List Str}{sp:Sp}{E:XK}{x m:Str}{p pos apos kpos:Pos}{e o:Expr}{es:List Expr}{kws:List Keyword}{te ta:TE}{t tk:TA}{nm:Option Str}
variable {g:List Value→List Value→List Value}{gV:List V→List V→List V}
end
structure FnScope (N P:List Str) (sc:Scope):Prop where
 kind:sc.kind= .function
 co:sc.isCoroutine=false
 gen:sc.isGenerator=false
 nd:N.Nodup
 pre:N.take P.length=P
 par:∀x∈P,sc.names.lookup x=some .local∨sc.names.lookup x=some .cell
 nofree:∀y∈sc.names,y.2≠.free
theorem bindL_out {kindOf:Str→Option NameKind}{x:Str}:∀{binds:List (Str×Value)} {m:Str→Option Value},(∀v,(x,v)∉binds)→bindL kindOf binds m x=m x
 | [],_,_=>rfl
 | (n,v) :: r,m,h=>by
  unfold bindL
  rw [bindL_out fun w hw=>h w (List.mem_cons_of_mem _ hw)]
  split
  ·have:x≠n:=by rintro rfl;exact h v List.mem_cons_self
   simp [this]
  ·rfl
theorem bindC_out {kindOf:Str→Option NameKind}{x:Str}:∀{binds:List (Str×Value)} {m:Str→Option Value},(∀v,(x,v)∉binds)→bindC kindOf binds m x=m x
 | [],_,_=>rfl
 | (n,v) :: r,m,h=>by
  unfold bindC
  rw [bindC_out fun w hw=>h w (List.mem_cons_of_mem _ hw)]
  split
  ·rfl
  ·have:x≠n:=by rintro rfl;exact h v List.mem_cons_self
   simp [this]
theorem bindL_get {kindOf:Str→Option NameKind}{x:Str}{v:Value}:∀{P:List Str} {vs:List Value} {i:Nat} {m:Str→Option Value},P.Nodup→P[i]? =some x→vs[i]? =some v→kindOf x=some .local→
  bindL kindOf (P.zip vs) m x=some v
 | [],_,_,_,_,h,_,_=>by simp at h
 | _ :: _,[],_,_,_,_,h,_=>by simp at h
 | p :: P,w :: vs,0,m,nd,h1,h2,hk=>by
  simp at h1 h2;subst h1;subst h2
  show bindL kindOf ((p,w) :: P.zip vs) m p=_
  unfold bindL
  rw [bindL_out fun v hv=>(List.nodup_cons.mp nd).1 (List.of_mem_zip hv).1,if_pos hk]
  simp
 | p :: P,w :: vs,i + 1,m,nd,h1,h2,hk=>by
  show bindL kindOf ((p,w) :: P.zip vs) m x=_
  unfold bindL
  exact bindL_get (i:=i) (List.nodup_cons.mp nd).2 (by simpa using h1) (by simpa using h2) hk
theorem bindC_get {kindOf:Str→Option NameKind}{x:Str}{v:Value}:∀{P:List Str} {vs:List Value} {i:Nat} {m:Str→Option Value},P.Nodup→P[i]? =some x→vs[i]? =some v→kindOf x≠some .local→
  bindC kindOf (P.zip vs) m x=some v
 | [],_,_,_,_,h,_,_=>by simp at h
 | _ :: _,[],_,_,_,_,h,_=>by simp at h
 | p :: P,w :: vs,0,m,nd,h1,h2,hk=>by
  simp at h1 h2;subst h1;subst h2
  show bindC kindOf ((p,w) :: P.zip vs) m p=_
  unfold bindC
  rw [bindC_out fun v hv=>(List.nodup_cons.mp nd).1 (List.of_mem_zip hv).1,if_neg hk]
  simp
 | p :: P,w :: vs,i + 1,m,nd,h1,h2,hk=>by
  show bindC kindOf ((p,w) :: P.zip vs) m x=_
  unfold bindC
  exact bindC_get (i:=i) (List.nodup_cons.mp nd).2 (by simpa using h1) (by simpa using h2) hk
noncomputable def start (N:List Str) (vs:List V):St:=vs.map some ++ List.replicate (N.length - vs.length) none
noncomputable def cxOf (CX:CXT) (P:Program) (w:World) (K:PySem.W.Frag) (mg:Str→Option Value) (base:Heap) (N:List Str) (qual:Str) (scope:Scope) (f:Addr) (cd:Value) (A:Around) (outer:List Env) (s:Shared) (H:Hp) (E:XK):Cx where
 prog:=P
 w:=w
 K:=K
 mg:=mg
 base:=base
 A:=A.deeper (envOfC qual scope s.heap.objs.size f cd)
 N:=N
 s₀:=s
 H₀:=H
 env:=envOfC qual scope s.heap.objs.size f cd
 outer:=outer
 stack:=envOfC qual scope s.heap.objs.size f cd :: outer
 ex:=[]
 calm:=true
 fn:=fun _=>true
 pn:=[]
 xe:=fun e s'=>wpAny (model P w) (A.deeper (envOfC qual scope s.heap.objs.size f cd)) (leaving (envOfC qual scope s.heap.objs.size f cd) e) (fun _ s''=>CX outer H s E e s'') (fun e' s''=>CX outer H s E e' s'') s'
theorem cell_has {sc:Scope}{n:Nat}{x:Str}(h:sc.names.lookup x=some .cell):∃c,(cellsFrom n sc.names []).lookup x=some c:=by
 have q:=PySem.W.cellsFrom_some sc.names n [] (.inl h)
 exact Option.isSome_iff_exists.mp q
theorem inv_start {CX:CXT}{P:Program}{w:World}{K:PySem.W.Frag}{mg:Str→Option Value}{base:Heap}{N ps:List Str}{qual:Str}{scope:Scope}{f:Addr}{cd:Value}{A:Around}{outer:List Env}{s s1:Shared}{H:Hp}{E:XK}{us:List Value}{vs:List V}
  (S:FnScope N ps scope) (hd:A.handled=none) (e0:Env0 P w K mg base A outer s H) (hl:vs.length=ps.length) (r:Vals vs us)
  (x:InCallC s s.heap.objs.size (bindL (envOfC qual scope s.heap.objs.size f cd).kindOf (ps.zip us) fun _=>none) (cellsFrom (s.heap.objs.size + 1) scope.names []) (bindC (envOfC qual scope s.heap.objs.size f cd).kindOf (ps.zip us) fun _=>none) s1):
  Inv (cxOf CX P w K mg base N qual scope f cd A outer s H E) [] (start N vs) H s1:=by
 have hpl:ps.length≤N.length:=by have:=congrArg List.length S.pre;rw [List.length_take] at this;(first|lia|omega)
 obtain ⟨h1,tk,rfl,hk⟩:=x.done
 have noA:∀b:Addr,b∉(cxOf CX P w K mg base N qual scope f cd A outer s H E).ex:=fun b z=>absurd (show b∈([]:List Addr) from z) (by simp)
 refine ⟨⟨e0.mod,S.kind,rfl,rfl,Nat.le_refl _,fun y z c h1 h2=>?_,fun y hy=>?_,fun y c _ h=>?_,fun _=>hd,Around.frames_deeper e0.frames,.inr ⟨rfl,rfl⟩,fun b z=>absurd z (noA b),e0.bs,e0.bsz,fun b _ _=>noA b,fun b z=>absurd z (noA b),e0.funs,e0.frf⟩,
  rfl,e0.bare,Un.kept hk,⟨_,x.toInCall.ns,fun i y v h1 h2 h3=>?_⟩,fun y c h=>⟨_,x.cell y c h⟩,e0.hok.fresh (Nat.le_refl _),fun y c h=>?_,fun p hp=>absurd (show p∈([]:List (Addr×Obj)) from hp) (by simp),e0.hok.kept hk,?_⟩
 ·exact name_of_addr x.apart (PySem.mem_of_lookup h1) (PySem.mem_of_lookup h2)
 ·have hy:scope.names.lookup y=some .cell∨scope.names.lookup y=some .free:=hy
  rcases hy with hy | hy
  ·exact cell_has hy
  ·exact absurd rfl (S.nofree _ (PySem.mem_of_lookup hy))
 ·exact Nat.le_of_lt (x.above y c (PySem.mem_of_lookup h))
 ·have hi:i < vs.length:=by
   unfold start at h2
   by_cases hi:i < vs.length
   ·exact hi
   ·rw [List.getElem?_append_right (by simpa using hi)] at h2
    rw [List.getElem?_replicate] at h2
    split at h2 <;> cases h2
  have ha:vs[i]? =some v:=by
   unfold start at h2
   rw [List.getElem?_append_left (by simpa using hi),List.getElem?_map] at h2
   cases e:vs[i]? with
   | none=>rw [e] at h2;cases h2
   | some a=>rw [e] at h2;cases h2;rfl
  obtain ⟨u,hu,rv⟩:=r.get ha
  have hp:ps[i]? =some y:=by
   rw [←S.pre,List.getElem?_take_of_lt (by (first|lia|omega))];exact h1
  have ndP:ps.Nodup:=by rw [←S.pre];exact S.nd.sublist (List.take_sublist _ _)
  refine ⟨u,rv,?_⟩
  rcases S.par y (List.mem_of_getElem? hp) with k | k
  ·exact .inl ⟨k,bindL_get ndP hp hu k⟩
  ·obtain ⟨c,e⟩:=cell_has (n:=s.heap.objs.size + 1) k
   refine .inr ⟨.inl k,c,e,?_⟩
   have q:=x.cell y c e
   rw [bindC_get ndP hp hu (by show scope.names.lookup y≠_;rw [k];decide)] at q
   exact q
 ·exact e0.hok.fresh (Nat.le_of_lt (x.above y c (PySem.mem_of_lookup h)))
 ·unfold start
  show _=N.length
  rw [List.length_append,List.length_map,List.length_replicate]
  (first|lia|omega)
theorem fn_of {CX:CXT}{P:Program}{w:World}{K:PySem.W.Frag}{mg:Str→Option Value}{base:Heap}{k:Nat}{f:Addr}{name qual:Str}{params:Arguments}{body:List Stmt}{scope:Scope}{dV kV doc pm cdv ct oc:Value}{an od:Option Addr}
  {osl:Array (Option Value)} {N ps:List Str} {sp:Sp} (lk:K.lookup f=some ⟨oc,od,.func (PySem.W.fnOf name qual params body scope dV kV doc pm an cdv ct),osl⟩) (hcd:PySem.W.codeIn K cdv qual=true) (S:FnScope N ps scope)
  (len:∀vs H Q E,sp vs H Q E→vs.length=ps.length)
  (hbody:∀(A:Around) (outer:List Env) (s:Shared) (H:Hp) (vs:List V) (Q:VK) (E:XK),Room k (A.deeper (envOfC qual scope s.heap.objs.size f cdv))→sp vs H Q E→
   ∃t,PSs (cxOf CX P w K mg base N qual scope f cdv A outer s H E) body t∧t {nx:=fun _ H'=>Q .non H',rt:=Q} (start N vs) H):
  FnOk P w K mg base CX (k + 1) f (PySem.W.fnOf name qual params body scope dV kV doc pm an cdv ct) ps sp:=by
 refine ⟨len,fun A outer s H args us vs Q E hr e0 hb r hsp=>?_⟩
 have hl:=len _ _ _ _ hsp
 have KX:K.In s.heap:=e0.mod.kin.keeps fun b o e=>(e0.bs b o e).1
 have lim:s.heap.NoLimit:=e0.mod.nolimit.keeps fun b o e=>(e0.bs b o e).1
 have hkind:∀y∈ps.zip us,scope.names.lookup y.1=some .local∨(scope.names.lookup y.1=some .cell∧((cellsFrom (s.heap.objs.size + 1) scope.names []).lookup y.1).isSome=true):=fun ⟨n,v⟩ hy=>by
  rcases S.par n (List.of_mem_zip hy).1 with q | q
  ·exact .inl q
  ·exact .inr ⟨q,PySem.W.cellsFrom_some _ _ _ (.inl q)⟩
 refine codeAny_call_function hr.depth (KX _ _ lk) rfl S.co S.gen rfl (PySem.W.codeRec_of KX hcd) (hb _ _ _ _ ?_)
 refine wpAny_newFunctionEnv_cells S.kind hkind fun env he s1 x=>?_
 subst he
 refine ⟨lim.keeps x.toInCall.keep,codeAny_func ?_⟩
 obtain ⟨t,ht,hq⟩:=hbody A outer s H vs Q E (hr.deeper _) hsp
 have I:Inv (cxOf CX P w K mg base N qual scope f cdv A outer s H E) [] (start N vs) H s1:=inv_start S hr.hd e0 hl r x
 refine wpAny_mono (ht [] s1 (start N vs) H _ I hq) (fun fl s' hs=>?_) fun e s' hs=>hs
 have fin:∀{σ':St} {H':Hp} {v:V} {u:Value},Inv (cxOf CX P w K mg base N qual scope f cdv A outer s H E) [] σ' H' s'→RelV v u→Q v H'→CE outer P w H s Q u s':=
  fun {σ' H' v u} J rv q=>⟨v,H',J.os,J.bare,J.base,J.hok,rv,q⟩
 cases fl with
 | ret u=>
  obtain ⟨v,σ',H',J,rv,q⟩:=hs
  exact fin J rv q
 | next=>
  obtain ⟨σ',H',J,q⟩:=hs
  exact fin (v:=V.non) (u:=Value.none) J rfl q
 | brk=>
  obtain ⟨_,_,_,q⟩:=hs
  exact False.elim q
 | cont=>
  obtain ⟨_,_,_,q⟩:=hs
  exact False.elim q
end L2
namespace L2
open PySem PySem.Spec PyProof.Rows
section
variable {X:Cx}{x:Str}{p pos:Pos}{e:Expr}{es:List Expr}{t:TA}{id T:String}{r:List V→Hp→VK→Prop}
noncomputable def tCB (r:List V→Hp→VK→Prop) (t:TA):TE:=fun σ H Q=>t σ H fun vs H1=>r vs H1 Q
theorem pe_callB (hc:CallR X (.builtin id) r)(hg:Gl X x)(hm:X.mg x=none)(hv:bootBuiltins x=some (.builtin id))(ha:PA X (e :: es) t)(hn:autoParam (x≠"__name__") Zau.a1._auto_1)(hdb:autoParam ((x == ("__debug__":Str))=false) Zau.a1._auto_1)
  (he:autoParam (starEach (e :: es) X.env=(false,eval e X.env) :: starEach es X.env) Zau.a2._auto_1) (hpl:autoParam ((backTo pos (starEach es X.env)).any (·.1)=false) Zau.a2._auto_1):PE X (.Call (.Name x p) (e :: es) [] pos) (tCB r t):=by
 intro pins s σ H Q I h
 refine wpAny_Call_Name_kw (ld_blt I hg hm hv ?_ hn hdb)
 exact PyProof.Rows.callWith_builtin1 (thn (ha pos pins s σ H _ I h) fun us s1 h0=>ex5 h0 fun vs H1 I1 r1 q1=>hc pins s1 σ H1 vs us Q I1 r1 q1) he hpl
theorem pe_callTy (hc:CallR X (.type T) r)(hg:Gl X x)(hm:X.mg x=none)(hv:bootBuiltins x=some (.type T))(ha:PA X (e :: es) t)(hn:autoParam (x≠"__name__") Zau.a1._auto_1)(hdb:autoParam ((x == ("__debug__":Str))=false) Zau.a1._auto_1)
  (he:autoParam (starEach (e :: es) X.env=(false,eval e X.env) :: starEach es X.env) Zau.a2._auto_1) (hpl:autoParam ((backTo pos (starEach es X.env)).any (·.1)=false) Zau.a2._auto_1):PE X (.Call (.Name x p) (e :: es) [] pos) (tCB r t):=by
 intro pins s σ H Q I h
 refine wpAny_Call_Name_kw (ld_blt I hg hm hv ?_ hn hdb)
 exact PyProof.Rows.callWith_type1 (thn (ha pos pins s σ H _ I h) fun us s1 h0=>ex5 h0 fun vs H1 I1 r1 q1=>hc pins s1 σ H1 vs us Q I1 r1 q1) he hpl
end
end L2
namespace HT
open PySem PyProof.Rows
noncomputable def lexLt:List Int→List Int→Bool
 | [],[]=>false
 | [],_ :: _=>true
 | _ :: _,[]=>false
 | x :: xs,y :: ys=>if x=y then lexLt xs ys else decide (x < y)
theorem lexLt_cons (x y:Int)(xs ys:List Int):lexLt (x :: xs) (y :: ys)=if x=y then lexLt xs ys else decide (x < y):=rfl
theorem lexLt_nil_nil:lexLt [] []=false:=rfl
theorem lexLt_nil_cons (y:Int)(ys:List Int):lexLt [] (y :: ys)=true:=rfl
theorem lexLt_cons_nil (x:Int)(xs:List Int):lexLt (x :: xs) []=false:=rfl
theorem eqAt_int (A:Around)(s:Shared)(a:Int)(t:Tok)(c:Int)(u:Tok):∃e,SeqAt.EqAt A s (.int a t) (.int c u) e∧(e=true↔a=c):=
 ⟨(a == c),SeqAt.EqAt.int_int a t c u,by simp⟩
theorem rcLt_int (A:Around)(s:Shared)(a:Int)(t:Tok)(c:Int)(u:Tok)(prog:Program)(w:World)(E:Value→Shared→Prop)(Q:Value→Shared→Prop)(h:Q (.bool (decide (a < c))) s):
  wpAny (model prog w) A (richCompare .Lt (.int a t) (.int c u)) Q E s:=
 (PyProof.Rows.lt_int h:wpAny (model prog w) A (compareOp .Lt (.int a t) (.int c u)) Q E s)
section
open PySem.SeqAt
open PySem.AutoSeq1 (wpAny_loadPart')
open PySem.MeetsSeq PySem.MeetsSeq2 PySem.MeetsSeq3
theorem tuple_lt_ints (l b:Addr)(items items2:Array Value)(n n2:Nat)(dd dd2:Option Addr)(sl sl2:Array (Option Value))(ns ms:List Int)(hi:IntsAre items.toList ns)(hj:IntsAre items2.toList ms):
  Meets (Builtin.«tuple.__lt__» ⟨[.ref l,.ref b],[]⟩)
   (fun _ R s=>s.heap.get? l=some {cls:=.type "tuple",dict:=dd,data:=.seq items n,slots:=sl}∧s.heap.get? b=some {cls:=.type "tuple",dict:=dd2,data:=.seq items2 n2,slots:=sl2}∧
    R (.ok (.ret (.bool (lexLt ns ms)))) s):=
 .of_wp fun prog w A R s h=>by
  obtain ⟨hp,g,d,tk,os⟩:=s;obtain ⟨hl,hb,h⟩:=h
  have f2:=AutoSeq1.sub_tuple_tuple
  have z1:items.size=ns.length:=by rw [←hi.length];simp
  have z2:items2.size=ms.length:=by rw [←hj.length];simp
  wp_walk using wpAny_loadPart' hl,wpAny_loadPart' hb,wpAny_forIn_list _ (fun rest b s'=>b.1=none∧s'=⟨hp,g,d,tk,os⟩∧∃(vs ws:List Value) (ns' ms':List Int),rest=vs.zip ws∧
   IntsAre vs ns'∧IntsAre ws ms'∧ns'.length + items2.size=ms'.length + items.size∧R (.ok (.ret (.bool (lexLt ns' ms')))) ⟨hp,g,d,tk,os⟩) _
  case turn=>
   rintro ⟨y,x⟩ rest b s' ⟨hb',rfl,vs,ws,ns',ms',hz,hvi,hwi,hlen,hR⟩
   cases hvi with
   | nil=>rw [List.zip_nil_left] at hz;cases hz
   | cons a t hvi'=>
    cases hwi with
    | nil=>rw [List.zip_nil_right] at hz;cases hz
    | cons c u hwi'=>
     rw [List.zip_cons_cons] at hz
     injection hz with hyx hrest
     injection hyx with hy hx
     subst hy hx
     rw [lexLt_cons] at hR
     simp only [List.length_cons] at hlen
     obtain ⟨e,he,hiff⟩:=eqAt_int A.in1 ⟨hp,g,d,tk,os⟩ a t c u
     refine wpAny_bind (he prog w _ _ ?_)
     cases e with
     | true=>
      rw [if_pos (hiff.mp rfl)] at hR
      wp_walk
      exact ⟨rfl,rfl,_,_,_,_,hrest,hvi',hwi',by (first|lia|omega),hR⟩
     | false=>
      rw [if_neg (fun q=>absurd (hiff.mpr q) Bool.false_ne_true)] at hR
      have hri:=rcLt_int A.in1 ⟨hp,g,d,tk,os⟩ a t c u prog w
      wp_walk using hri
      exact ⟨_,rfl,by simpa using hR⟩
  case fin=>
   rintro ⟨b1,b2⟩ s' ⟨hb',rfl,vs,ws,ns',ms',hz,hvi,hwi,hlen,hR⟩
   simp only at hb'
   subst hb'
   have hv:lexLt ns' ms'=decide (items.size < items2.size):=by
    cases hvi with
    | nil=>
     cases hwi with
     | nil=>
      simp only [List.length_nil] at hlen
      rw [lexLt_nil_nil]
      exact (decide_eq_false (by (first|lia|omega))).symm
     | cons c u hw=>
      simp only [List.length_nil,List.length_cons] at hlen
      rw [lexLt_nil_cons]
      exact (decide_eq_true (by (first|lia|omega))).symm
    | cons a t hv=>
     cases hwi with
     | nil=>
      simp only [List.length_nil,List.length_cons] at hlen
      rw [lexLt_cons_nil]
      exact (decide_eq_false (by (first|lia|omega))).symm
     | cons c u hw=>
      rw [List.zip_cons_cons] at hz
      cases hz
   rw [hv] at hR
   wp_walk
   exact ⟨_,rfl,by simpa [Builtin.Tuple.tupleCompareSizes] using hR⟩
  case h=>
   exact ⟨rfl,rfl,items.toList,items2.toList,ns,ms,rfl,hi,hj,by (first|lia|omega),h⟩
end
section
variable {prog:Program}{w:World}{A:Around}{E:Value→Shared→Prop}{s:Shared}
theorem lt_tupInts {l b:Addr}{items items2:Array Value}{ns ms:List Int}{Q:Value→Shared→Prop}(hl:IsTup s.heap l items)(hb:IsTup s.heap b items2)(hi:IntsAre items.toList ns)(hj:IntsAre items2.toList ms)
  (hu:A.units < cLine) (h:Q (.bool (lexLt ns ms)) s):wpAny (model prog w) A (compareOp .Lt (.ref l) (.ref b)) Q E s:=by
 obtain ⟨⟨cls,dd,data,sl⟩,ho,hc,n,hd⟩:=id hl
 obtain ⟨⟨cls2,dd2,data2,sl2⟩,ho2,hc2,n2,hd2⟩:=id hb
 simp only at hc hd hc2 hd2
 subst hc hd hc2 hd2
 exact richCompare_meets_room (op:=.Lt) ⟨_,ho,rfl⟩ ⟨_,ho2,rfl⟩ PySem.F.slot_tuple_lt PySem.F.entry_tuple_lt (PySem.F.args_tuple_lt_2 _ _) (tuple_lt_ints l b items items2 n n2 dd dd2 sl sl2 ns ms hi hj)
  ⟨ho,ho2,show Value.bool (lexLt ns ms)≠Value.notImplemented∧Q (.bool (lexLt ns ms)) s from ⟨(fun x=>nomatch x),h⟩⟩ hu
theorem cat_tup {t b:Addr}{vs ws:List Value}{Q:Value→Shared→Prop}(ht:IsTup s.heap t vs.toArray)(hb:IsTup s.heap b ws.toArray)(hv:vs≠[])
  (h1:ws=[]→Q (.ref t) s) (h2:ws≠[]→Q (.ref s.heap.objs.size) {s with heap:=s.heap.push {cls:=.type "tuple",data:=.seq (vs ++ ws).toArray}})
  (hsz:vs.length + ws.length≤sizeLine):wpAny (model prog w) A (binaryOp .Add (.ref t) (.ref b)) Q E s:=by
 obtain ⟨⟨cls,dd,data,sl⟩,ho,hc,n,hd⟩:=id ht
 obtain ⟨⟨cls2,dd2,data2,sl2⟩,ho2,hc2,n2,hd2⟩:=id hb
 simp only at hc hd hc2 hd2
 subst hc hd hc2 hd2
 have e:vs.toArray ++ ws.toArray=(vs ++ ws).toArray:=by simp
 by_cases hw:ws=[]
 ·exact concat_meets ⟨_,ho,rfl⟩ ⟨_,ho2,rfl⟩ noFill_tuple_add seq_tuple_add PySem.F.slot_tuple_add PySem.F.entry_tuple_add (PySem.F.args_tuple_add_2 _ _)
   (tuple_addW1 t b vs.toArray ws.toArray n n2 dd dd2 sl sl2 (by simpa using hv) (by simp [hw])) ⟨ho,ho2,h1 hw⟩
 ·refine concat_meets ⟨_,ho,rfl⟩ ⟨_,ho2,rfl⟩ noFill_tuple_add seq_tuple_add PySem.F.slot_tuple_add PySem.F.entry_tuple_add (PySem.F.args_tuple_add_2 _ _)
   (tuple_addW2 t b vs.toArray ws.toArray n n2 dd dd2 sl sl2 (by simpa using hv) (by simpa using hw) (by rw [List.size_toArray,List.size_toArray];exact hsz)) ⟨ho,ho2,?_⟩
  rw [e]
  exact h2 hw
noncomputable def sIx (n d:Nat):Option Int→Nat
 | none=>d
 | some v=>if v < 0 then (v + (n:Int)).toNat else min v.toNat n
theorem sIx_le (n d:Nat)(hd:d≤n)(o:Option Int):sIx n d o≤n:=by
 cases o with
 | none=>exact hd
 | some v=>
  show (if v < 0 then (v + (n:Int)).toNat else min v.toNat n)≤n
  by_cases hv:v < 0
  ·rw [if_pos hv];(first|lia|omega)
  ·rw [if_neg hv];exact Nat.min_le_right _ _
theorem clip_eq (v:Int)(n d:Nat):(if v < 0 then max (v + (n:Int)) 0 else min v (n:Int))=((sIx n d (some v):Nat):Int):=by
 show (if v < 0 then max (v + (n:Int)) 0 else min v (n:Int))=(((if v < 0 then (v + (n:Int)).toNat else min v.toNat n):Nat):Int)
 by_cases hv:v < 0
 ·simp only [if_pos hv];(first|lia|omega)
 ·simp only [if_neg hv];(first|lia|omega)
theorem adjust_gen (lo hi:Option Int)(n:Nat):Builtin.Slice.sliceAdjust lo hi 1 (n:Int)=(((sIx n 0 lo:Nat):Int),((sIx n n hi:Nat):Int)):=by
 have h1:¬((1:Int) < 0):=by (first|lia|omega)
 unfold Builtin.Slice.sliceAdjust
 simp only [h1,if_false]
 refine Prod.ext ?_ ?_
 ·cases lo with
  | none=>rfl
  | some v=>exact clip_eq v n 0
 ·cases hi with
  | none=>rfl
  | some v=>exact clip_eq v n n
theorem places_gen (i j:Nat):Builtin.Slice.slicePlaces (i:Int) (j:Int) 1=j - i:=by
 unfold Builtin.Slice.slicePlaces
 have h1:(1:Int) > 0:=by (first|lia|omega)
 simp only [h1,if_true,Int.ediv_one]
 split <;> (first|lia|omega)
theorem slicePart_ {v:Value}{o:Option Int}{Q:Option Int→Shared→Prop}(p:IsPart v o)(h:Q o s):wpAny (model prog w) A (Builtin.Slice.slicePartIndex v) Q E s:=by
 cases p with
 | none=>exact slicePart_none h
 | int i t=>exact slicePart_int h
theorem sliceApplied_gen {sl:Addr}{vl vu:Value}{lo hi:Option Int}{n:Nat}{Q:Int×Int×Nat→Shared→Prop}(hs:s.heap.IsSliceOf sl vl vu .none)(pl:IsPart vl lo)(pu:IsPart vu hi)
  (h:Q (((sIx n 0 lo:Nat):Int),1,sIx n n hi - sIx n 0 lo) s):wpAny (model prog w) A (Builtin.Slice.sliceApplied (.ref sl) (pure (n:Int))) Q E s:=by
 obtain ⟨os,hos,hcs,hds⟩:=id hs
 unfold Builtin.Slice.sliceApplied Builtin.Slice.sliceFields
 refine wpAny_bind (wpAny_bind (wpAny_field hos hds (x:=vl) rfl (wpAny_bind (wpAny_field hos hds (x:=vu) rfl (wpAny_bind (wpAny_field hos hds (x:=.none) rfl (wpAny_pure ?_)))))))
 refine wpAny_bind (slicePart_none ?_)
 show wpAny _ _ (if ((1:Int) == 0)=true then _ else _) _ _ s
 rw [if_neg (by decide)]
 refine wpAny_bind (slicePart_ pl (wpAny_bind (slicePart_ pu (wpAny_bind (wpAny_pure ?_)))))
 show wpAny _ _ (match Builtin.Slice.sliceAdjust lo hi 1 (n:Int) with | (lo,hi)=>pure (lo,(1:Int),Builtin.Slice.slicePlaces lo hi 1)) _ _ s
 rw [adjust_gen lo hi n]
 show wpAny _ _ (pure (((sIx n 0 lo:Nat):Int),(1:Int),Builtin.Slice.slicePlaces ((sIx n 0 lo:Nat):Int) ((sIx n n hi:Nat):Int) 1)) _ _ s
 rw [places_gen]
 exact wpAny_pure h
theorem pick_gen (xs:Array Value)(i k:Nat):((List.range k).filterMap fun (m:Nat)=>xs[((i:Int) + (m:Int) * 1).toNat]?).toArray=((xs.toList.drop i).take k).toArray:=by
 have e:(fun (m:Nat)=>xs[((i:Int) + (m:Int) * 1).toNat]?)=fun m=>xs[i + m]?:=by
  funext m
  have:((i:Int) + (m:Int) * 1).toNat=i + m:=by (first|lia|omega)
  rw [this]
 rw [e]
 have:=pick_run xs i k
 rw [List.filterMap_map] at this
 have e2:((fun x=>xs[x]?) ∘ fun x=>i + x)=fun m=>xs[i + m]?:=rfl
 rw [e2] at this
 rw [this]
theorem getItem_tuple_cut {t sl:Addr}{items:Array Value}{vl vu:Value}{lo hi:Option Int}{Q:Value→Shared→Prop}(ht:IsTup s.heap t items)(hs:s.heap.IsSliceOf sl vl vu .none)(pl:IsPart vl lo)(pu:IsPart vu hi)
  (hw:¬(sIx items.size 0 lo=0∧sIx items.size items.size hi=items.size))
  (h:Q (.ref s.heap.objs.size) {s with heap:=s.heap.push {cls:=.type "tuple",data:=.seq ((items.toList.drop (sIx items.size 0 lo)).take (sIx items.size items.size hi - sIx items.size 0 lo)).toArray}})
  (hsz:items.size≤sizeLine):wpAny (model prog w) A (getItem (.ref t) (.ref sl)) Q E s:=by
 have htake:sizeOk (.seq ((items.toList.drop (sIx items.size 0 lo)).take (sIx items.size items.size hi - sIx items.size 0 lo)).toArray):=by
  show ((items.toList.drop (sIx items.size 0 lo)).take (sIx items.size items.size hi - sIx items.size 0 lo)).toArray.size≤sizeLine
  rw [List.size_toArray,List.length_take,List.length_drop,Array.length_toList]
  omega
 have hj:sIx items.size items.size hi≤items.size:=sIx_le _ _ (Nat.le_refl _) hi
 obtain ⟨os,hos,hcs,hds⟩:=id hs
 have hTs:s.TypeIs (.ref sl) "slice":=⟨os,hos,hcs⟩
 unfold getItem
 try with_reducible refine wpAny_holding ?_
 first | refine wpAny_bind (wpAny_pure ?_) | skip
 refine wpAny_bind (wpAny_sequenceKey ht.typeIs (by decide) ?_)
 refine wpAny_bind (wpAny_callSpecial?_slot (name:=Str.ofString "__getitem__") ht.typeIs PyProof.Rows.slot_tuple_getitem
  (wpAny_call_entry PyProof.Rows.slot_tuple_getitem ht.typeIs entry_tuple_getitem ?_ (args_tuple_getitem _ _)))
 show wpAny _ _ (Builtin.Tuple.tupleItemsOf (.ref t) >>=_) _ _ s
 refine wpAny_bind (tupleItemsOf_ ht ?_)
 refine wpAny_bind (wpAny_typeOf hTs ?_)
 rw [if_pos (by decide)]
 refine wpAny_bind (sliceApplied_gen hs pl pu ?_)
 have hno:¬((((sIx items.size 0 lo:Nat):Int) == 0 && (1:Int) == 1 && (sIx items.size items.size hi - sIx items.size 0 lo) == items.size)=true):=by
  intro q
  rw [Bool.and_eq_true,Bool.and_eq_true] at q
  have q1:((sIx items.size 0 lo:Nat):Int)=0:=eq_of_beq q.1.1
  have q2:sIx items.size items.size hi - sIx items.size 0 lo=items.size:=eq_of_beq q.2
  exact hw ⟨by omega,by omega⟩
 show wpAny _ _ (if (((sIx items.size 0 lo:Nat):Int) == 0 && (1:Int) == 1 && (sIx items.size items.size hi - sIx items.size 0 lo) == items.size)=true then _ else _) _ _ s
 rw [if_neg hno,pick_gen]
 first
  | exact wpAny_bind (m:=Builtin.Tuple.tupleExact _) (wpAny_newObj_type (wpAny_pure ⟨_,rfl,wpAny_pure h⟩) htake)
  | exact wpAny_bind (m:=Builtin.Tuple.tupleExact _) (wpAny_newObj_type (wpAny_bind (wpAny_pure (wpAny_pure ⟨_,rfl,wpAny_pure h⟩))) htake)
  | exact wpAny_bind (wpAny_bind (m:=Builtin.Tuple.tupleExact _) (wpAny_newObj_type (wpAny_pure (wpAny_pure ⟨_,rfl,wpAny_pure h⟩)) htake))
  | exact wpAny_bind (wpAny_bind (m:=Builtin.Tuple.tupleExact _) (wpAny_newObj_type (wpAny_pure ⟨_,rfl,wpAny_pure h⟩) htake))
end
end HT
namespace L2
open PySem PySem.Spec PyProof.Rows
noncomputable abbrev TO:=St→Hp→(Option Int→Hp→Prop)→Prop
noncomputable def PO (X:Cx) (e:Option Expr) (t:TO):Prop:=
 ∀(pins:List (Addr×Obj)) (s:Shared) (σ:St) (H:Hp) (Q:Option Int→Hp→Prop),Inv X pins σ H s→t σ H Q→
  wpAny (model X.prog X.w) X.A (evalPart e X.env) (fun u s'=>∃o H',Inv X pins σ H' s'∧IsPart u o∧Q o H') X.xe s
noncomputable def tNoPart:TO:=fun _ H Q=>Q none H
noncomputable def tPart (t:TE):TO:=fun σ H Q=>t σ H fun x H1=>∃i,x= .int i∧Q (some i) H1
theorem intsAre_of {ns:List Int}:∀{us:List Value},Vals (ns.map V.int) us→IntsAre us ns:=by
 induction ns with
 | nil=>intro us r;rw [List.map_nil] at r;cases r;exact .nil
 | cons n ns ih=>
  intro us r
  rw [List.map_cons] at r
  cases r with
  | cons r1 r2=>
   obtain ⟨t,e⟩:=r1
   subst e
   exact .cons n t (ih r2)
section
variable {X:Cx}{e:Expr}{te:TE}{lo hi:Option Expr}{tl th:TO}{pos p2:Pos}
theorem po_none:PO X none tNoPart:=by
 intro pins s σ H Q I h
 rw [evalPart_none]
 exact wpAny_pure ⟨none,H,I,.none,h⟩
theorem po_some (h:PE X e te):PO X (some e) (tPart te):=by
 intro pins s σ H Q I hw
 rw [evalPart_some]
 refine thn (h pins s σ H _ I hw) fun u s1 h0=>ex5 h0 fun x H1 I1 r1 q1=>?_
 obtain ⟨i,rfl,q⟩:=q1
 obtain ⟨t,rfl⟩:=r1
 exact ⟨some i,H1,I1,.int i t,q⟩
noncomputable def SlR (X:Cx) (r:V→Option Int→Option Int→Hp→VK→Prop):Prop:=
 ∀(pins:List (Addr×Obj)) (s:Shared) (σ:St) (H:Hp) (x:V) (v vl vu:Value) (lo hi:Option Int) (sl:Addr) (Q:VK),Inv X pins σ H s→RelV x v→s.heap.IsSliceOf sl vl vu .none→IsPart vl lo→IsPart vu hi→r x lo hi H Q→
  ∃T id,typeLookup (.type T) "__getitem__"=pure (some (.builtin id))∧s.TypeIs v T∧wpAny (model X.prog X.w) X.A (getItem v (.ref sl)) (EP X pins σ Q) X.xe s
theorem SlR.or {r r':V→Option Int→Option Int→Hp→VK→Prop}(h:SlR X r)(h':SlR X r'):SlR X (fun x lo hi H Q=>r x lo hi H Q∨r' x lo hi H Q):=by
 intro pins s σ H x v vl vu lo hi sl Q I rx hs pl pu q
 rcases q with q | q
 ·exact h pins s σ H x v vl vu lo hi sl Q I rx hs pl pu q
 ·exact h' pins s σ H x v vl vu lo hi sl Q I rx hs pl pu q
noncomputable def tSl (r:V→Option Int→Option Int→Hp→VK→Prop) (te:TE) (tl th:TO):TE:=fun σ H Q=>te σ H fun x H1=>tl σ H1 fun l H2=>th σ H2 fun u H3=>r x l u H3 Q
theorem pe_slice {r:V→Option Int→Option Int→Hp→VK→Prop}(hr:SlR X r)(he:PE X e te)(hl:PO X lo tl)(hu:PO X hi th):PE X (.Subscript e (.Slice lo hi none p2) pos) (tSl r te tl th):=by
 intro pins s σ H Q I h
 refine Subscript_ (thn (he pins s σ H _ I h) fun v s1 h0=>ex5 h0 fun x H1 I1 r1 q1=>?_)
 refine wpAny_Slice (thn (hl pins s1 σ H1 _ I1 q1) fun vl s2 ⟨l,H2,I2,pl,q2⟩=>thn (hu pins s2 σ H2 _ I2 q2) fun vu s3 ⟨u,H3,I3,pu,q3⟩=>?_)
 rw [evalPart_none]
 refine wpAny_pure ?_
 have I4:Inv X pins σ H3 {s3 with heap:=s3.heap.push {cls:=.type "slice",data:=.fields #[vl,vu,.none]}}:=I3.kept (t':=s3.toks) fun b ob q=>Heap.get?_push_of_some _ q
 obtain ⟨T,id,hT,ht,hg⟩:=hr pins {s3 with heap:=s3.heap.push {cls:=.type "slice",data:=.fields #[vl,vu,.none]}} σ H3 x v vl vu l u s3.heap.objs.size Q I4 r1 (Heap.IsSliceOf.new ..) pl pu q3
 show wpAny (model X.prog X.w) X.A (subscriptTail e (.Slice lo hi none p2) v (.ref s3.heap.objs.size)) (EP X pins σ Q) X.xe {s3 with heap:=s3.heap.push {cls:=.type "slice",data:=.fields #[vl,vu,.none]}}
 exact tail_any (ops:=[.ref s3.heap.objs.size,v]) ht hT hg (by with_unfolding_all rfl)
noncomputable def cutV (xs:List V) (lo hi:Option Int):List V:=(xs.drop (HT.sIx xs.length 0 lo)).take (HT.sIx xs.length xs.length hi - HT.sIx xs.length 0 lo)
theorem cutV_length (xs:List V)(lo hi:Option Int):(cutV xs lo hi).length≤xs.length:=by
 unfold cutV
 rw [List.length_take,List.length_drop]
 (first|lia|omega)
noncomputable def rSlT (K:PySem.W.Frag):V→Option Int→Option Int→Hp→VK→Prop:=fun x lo hi H Q=>∃a xs,x= .ref a∧SqT K H a xs∧
 ¬(HT.sIx xs.length 0 lo=0∧HT.sIx xs.length xs.length hi=xs.length)∧∀p,H p=none→Q (.ref p) (upd H p (.tup (cutV xs lo hi)))
theorem sl_tup:SlR X (rSlT X.K):=by
 intro pins s σ H x v vl vu lo hi sl Q I rx hs pl pu h
 obtain ⟨a,xs,rfl,hx,hw,q⟩:=h
 cases rx
 obtain ⟨its,r,ht,hz⟩:=I.tuple hx
 have hlen:its.toArray.size=xs.length:=by rw [List.size_toArray];exact r.length.symm
 refine ⟨"tuple",_,PyProof.Rows.slot_tuple_getitem.lookup,ht.typeIs,?_⟩
 refine HT.getItem_tuple_cut ht hs pl pu (by rw [hlen];exact hw) ?_ (by rw [hlen];exact hz)
 rw [hlen]
 refine ⟨.ref s.heap.objs.size,_,I.laid (t':=s.toks) (o:=.tup (cutV xs lo hi)) (fun b ob q=>Heap.get?_push_of_some _ q) (Nat.le_refl _) ?_,rfl,q _ (I.hok.fresh (Nat.le_refl _))⟩
 exact ⟨Nat.le_trans (cutV_length xs lo hi) hz,_,(r.drop (HT.sIx xs.length 0 lo)).take (HT.sIx xs.length xs.length hi - HT.sIx xs.length 0 lo),TupN.new _ _⟩
noncomputable def rLtT (K:PySem.W.Frag):R2:=fun x y H Q=>∃a b ns ms,x= .ref a∧y= .ref b∧SqT K H a (ns.map V.int)∧SqT K H b (ms.map V.int)∧Q (.bl (HT.lexLt ns ms)) H
theorem op_ltT (hu:X.A.units < cLine):OpR X (compareOp .Lt) (rLtT X.K):=by
 intro pins s σ H x y v u Q I rx ry h
 obtain ⟨a,b,ns,ms,rfl,rfl,ha,hb,q⟩:=h
 cases rx
 cases ry
 obtain ⟨its,r1,p1,_⟩:=I.tuple ha
 obtain ⟨its2,r2,p2,_⟩:=I.tuple hb
 have i1:IntsAre its.toArray.toList ns:=intsAre_of r1
 have i2:IntsAre its2.toArray.toList ms:=intsAre_of r2
 exact HT.lt_tupInts p1 p2 i1 i2 hu ⟨.bl (HT.lexLt ns ms),H,I,rfl,q⟩
noncomputable def rCatT (K:PySem.W.Frag):R2:=fun x y H Q=>∃a b xs ys,x= .ref a∧y= .ref b∧SqT K H a xs∧SqT K H b ys∧xs≠[]∧xs.length + ys.length≤sizeLine∧
 (ys=[]→Q (.ref a) H)∧(ys≠[]→∀p,H p=none→Q (.ref p) (upd H p (.tup (xs ++ ys))))
theorem Vals.nil_iff {xs:List V}{us:List Value}(r:Vals xs us):us=[]↔xs=[]:=by
 cases r with
 | nil=>simp
 | cons _ _=>simp
theorem op_catT:OpR X (binaryOp .Add) (rCatT X.K):=by
 intro pins s σ H x y v u Q I rx ry h
 obtain ⟨a,b,xs,ys,rfl,rfl,ha,hb,hx,hz,q1,q2⟩:=h
 cases rx
 cases ry
 obtain ⟨its,r1,p1,_⟩:=I.tuple ha
 obtain ⟨its2,r2,p2,_⟩:=I.tuple hb
 refine HT.cat_tup p1 p2 (fun z=>hx (r1.nil_iff.mp z)) (fun z=>⟨.ref a,H,I,rfl,q1 (r2.nil_iff.mp z)⟩) (fun z=>?_) (by rw [←r1.length,←r2.length];exact hz)
 refine ⟨.ref s.heap.objs.size,_,I.laid (t':=s.toks) (o:=.tup (xs ++ ys)) (fun b ob q=>Heap.get?_push_of_some _ q) (Nat.le_refl _) ?_,rfl,q2 (fun w=>z (r2.nil_iff.mpr w)) _ (I.hok.fresh (Nat.le_refl _))⟩
 exact ⟨by rw [List.length_append];exact hz,_,r1.append r2,TupN.new _ _⟩
end
end L2
namespace L2
open PySem PySem.Spec PyProof.Rows
noncomputable def ixN (n:Nat) (i:Int):Option Nat:=if 0≤i then (if i < n then some i.toNat else none) else if -(n:Int)≤i then some (i + n).toNat else none
noncomputable def atI {α:Type} (xs:List α) (i:Int):Option α:=(ixN xs.length i).bind fun j=>xs[j]?
theorem ixN_seq {n:Nat}{i:Int}{j:Nat}(h:ixN n i=some j):seqIndex? i n=some j∧j < n∧-(n:Int)≤i∧i < n:=by
 unfold ixN at h
 by_cases h0:0≤i
 ·rw [if_pos h0] at h
  by_cases h1:i < n
  ·rw [if_pos h1] at h
   have e:i.toNat=j:=Option.some.inj h
   exact ⟨by rw [seqIndex_of h0 h1,e],by (first|lia|omega),by (first|lia|omega),h1⟩
  ·rw [if_neg h1] at h;cases h
 ·rw [if_neg h0] at h
  by_cases h1:-(n:Int)≤i
  ·rw [if_pos h1] at h
   have e:(i + n).toNat=j:=Option.some.inj h
   exact ⟨by rw [seqIndex_neg (by (first|lia|omega)) h1,e],by (first|lia|omega),h1,by (first|lia|omega)⟩
  ·rw [if_neg h1] at h;cases h
theorem atI_get {α:Type}{xs:List α}{i:Int}{v:α}(h:atI xs i=some v):∃j,seqIndex? i xs.length=some j∧xs[j]? =some v∧j < xs.length∧-(xs.length:Int)≤i∧i < xs.length:=by
 unfold atI at h
 cases e:ixN xs.length i with
 | none=>rw [e] at h;cases h
 | some j=>
  rw [e] at h
  obtain ⟨h1,h2,h3,h4⟩:=ixN_seq e
  exact ⟨j,h1,h,h2,h3,h4⟩
theorem atI_nat {α:Type}{xs:List α}{j:Nat}{v:α}(h:xs[j]? =some v):atI xs (j:Int)=some v:=by
 have hj:j < xs.length:=(List.getElem?_eq_some_iff.mp h).1
 have e:ixN xs.length (j:Int)=some j:=by
  unfold ixN
  rw [if_pos (by (first|lia|omega)),if_pos (by (first|lia|omega))];simp
 unfold atI;rw [e];exact h
noncomputable def PlainIx (b:Expr):Prop:=∀o i,subscripted b false o i=operate [o,i] (getItem o i)
noncomputable def IxR (X:Cx) (r:R2):Prop:=
 ∀(value slice:Expr) (pins:List (Addr×Obj)) (s:Shared) (σ:St) (H:Hp) (x y:V) (v u:Value) (Q:VK),Inv X pins σ H s→RelV x v→RelV y u→r x y H Q→
  subscripted slice false v u=operate [v,u] (getItem v u)→wpAny (model X.prog X.w) X.A (subscriptTail value slice v u) (EP X pins σ Q) X.xe s
noncomputable def MtR (X:Cx) (id:String) (r:V→List V→Hp→VK→Prop):Prop:=
 ∀(pins:List (Addr×Obj)) (s:Shared) (σ:St) (H:Hp) (x:V) (xs:List V) (v:Value) (us:List Value) (Q:VK),Inv X pins σ H s→RelV x v→Vals xs us→r x xs H Q→
  wpAny (model X.prog X.w) X.A (call (.builtin id) (v :: us)) (EP X pins σ Q) X.xe s
section
variable {X:Cx}{a b:Expr}{ta tb:TE}{pos:Pos}
theorem IxR.or {r r':R2}(h:IxR X r)(h':IxR X r'):IxR X (fun x y H Q=>r x y H Q∨r' x y H Q):=by
 intro value slice pins s σ H x y v u Q I rx ry q hs
 rcases q with q | q
 ·exact h value slice pins s σ H x y v u Q I rx ry q hs
 ·exact h' value slice pins s σ H x y v u Q I rx ry q hs
theorem MtR.or {id:String}{r r':V→List V→Hp→VK→Prop}(h:MtR X id r)(h':MtR X id r'):MtR X id (fun x xs H Q=>r x xs H Q∨r' x xs H Q):=by
 intro pins s σ H x xs v us Q I rx rs q
 rcases q with q | q
 ·exact h pins s σ H x xs v us Q I rx rs q
 ·exact h' pins s σ H x xs v us Q I rx rs q
theorem pe_ix {r:R2}(hr:IxR X r)(ha:PE X a ta)(hb:PE X b tb)(hs:PlainIx b):PE X (.Subscript a b pos) (tOp r ta tb):=by
 intro pins s σ H Q I h
 exact Subscript_ (binT ha hb I h fun v u s2 x y H2 I2 rx ry q=>hr a b pins s2 σ H2 x y v u Q I2 rx ry q (hs _ _))
noncomputable def rIxL (K:PySem.W.Frag):R2:=fun x y H Q=>∃p xs i v,x= .ref p∧y= .int i∧SqL K H p xs∧atI xs i=some v∧Q v H
noncomputable def rIxT (K:PySem.W.Frag):R2:=fun x y H Q=>∃p xs i v,x= .ref p∧y= .int i∧SqT K H p xs∧atI xs i=some v∧Q v H
noncomputable def rIxS:R2:=fun x y H Q=>∃z i c,x= .str z∧y= .int i∧z.length≤sizeLine∧atI z.cps.toList i=some c∧Q (.str ⟨#[c]⟩) H
theorem ix_list:IxR X (rIxL X.K):=by
 intro value slice pins s σ H x y v u Q I rx ry h hs
 obtain ⟨p,xs,i,z,rfl,rfl,hq,he,q⟩:=h
 cases rx
 obtain ⟨t,rfl⟩:=ry
 obtain ⟨its,r,pl,hz⟩:=I.list hq
 obtain ⟨j,h1,h2,h3,h4,h5⟩:=atI_get he
 obtain ⟨w,ew,rw'⟩:=r.get h2
 have hl:=r.length
 have hn:=line63
 have fin:EP X pins σ Q w s:=⟨z,H,I,rw',q⟩
 by_cases h0:0≤i
 ·have hj:i.toNat=j:=by
   rw [seqIndex_of h0 h5] at h1
   exact Option.some.inj h1
  exact item_listR pl.isList h0 (by (first|lia|omega)) (by rw [hj];simpa using ew) fin hs
 ·have hj:(i + (its.toArray.size:Int)).toNat=j:=by
   rw [seqIndex_neg (by (first|lia|omega)) h4] at h1
   rw [List.size_toArray,←hl]
   exact Option.some.inj h1
  exact subscriptTail_builtinR (x:=w) pl.isList.typeIs slot_list_getitem.lookup
   (wpAny_getItem_list_neg (Q:=fun r s'=>r=w∧EP X pins σ Q r s') pl.isList (by (first|lia|omega)) (by rw [List.size_toArray] <;> (first|lia|omega)) (by (first|lia|omega)) (by rw [hj];simpa using ew) ⟨rfl,fin⟩) hs
theorem ix_tup:IxR X (rIxT X.K):=by
 intro value slice pins s σ H x y v u Q I rx ry h hs
 obtain ⟨p,xs,i,z,rfl,rfl,hq,he,q⟩:=h
 cases rx
 obtain ⟨t,rfl⟩:=ry
 obtain ⟨its,r,pl,hz⟩:=I.tuple hq
 obtain ⟨j,h1,h2,h3,h4,h5⟩:=atI_get he
 obtain ⟨w,ew,rw'⟩:=r.get h2
 have hl:=r.length
 have hn:=line63
 have fin:EP X pins σ Q w s:=⟨z,H,I,rw',q⟩
 exact subscriptTail_builtinR (x:=w) pl.typeIs slot_tuple_getitem.lookup
  (getItem_tuple (j:=j) (Q:=fun r s'=>r=w∧EP X pins σ Q r s') pl (by (first|lia|omega)) (by (first|lia|omega)) (by rw [List.size_toArray,←hl];exact h1) (by simpa using ew) ⟨rfl,fin⟩) hs
theorem ix_str:IxR X rIxS:=by
 intro value slice pins s σ H x y v u Q I rx ry h hs
 obtain ⟨z,i,c,rfl,rfl,hz,he,q⟩:=h
 obtain ⟨t,rfl⟩:=rx
 obtain ⟨t',rfl⟩:=ry
 obtain ⟨j,h1,h2,h3,h4,h5⟩:=atI_get he
 have hl:z.cps.toList.length=z.length:=by simp [Str.length]
 rw [hl] at h1 h4 h5
 have hn:=line63
 exact tail_any (typeIs_str s z t) slot_str_getitem.lookup (getItem_str (c:=c) (by
  have e1:decide (i < -(2 ^ 63:Int))=false:=decide_eq_false (by (first|lia|omega))
  have e2:decide (i≥2 ^ 63)=false:=decide_eq_false (by (first|lia|omega))
  rw [e1,e2,Bool.or_false]) (by rw [h1];simpa using h2) ⟨.str ⟨#[c]⟩,H,I.tok _,⟨_,rfl⟩,q⟩) hs
noncomputable def rIx (K:PySem.W.Frag):R2:=fun x y H Q=>rIxL K x y H Q∨rIxT K x y H Q∨rIxS x y H Q
theorem ix_seq:IxR X (rIx X.K):=ix_list.or (ix_tup.or ix_str)
theorem mapSeq_set (its:List Value)(n j:Nat)(u:Value):Obj.mapSeq (·.setIfInBounds j u) {cls:=.type "list",data:=.seq its.toArray n}={cls:=.type "list",data:=.seq (its.set j u).toArray n}:=by
 simp [Obj.mapSeq]
theorem Inv.lst {pins:List (Addr×Obj)}{σ:St}{H:Hp}{s:Shared}{p:Addr}{xs:List V}(I:Inv X pins σ H s)(h:H p=some (.lst xs)):
  ∃(its:List Value) (n:Nat),Vals xs its∧s.heap.get? p=some {cls:=.type "list",data:=.seq its.toArray n}∧xs.length≤sizeLine:=by
 obtain ⟨z,its,n,r,e⟩:=I.hok p _ h
 exact ⟨its,n,r,e,z⟩
theorem Inv.lstUpd {pins:List (Addr×Obj)}{σ:St}{H:Hp}{s:Shared}{p:Addr}{xs ys:List V}{its its':List Value}{n n':Nat}{f:Obj→Obj}(I:Inv X pins σ H s)(h:H p=some (.lst xs))
  (ho:s.heap.get? p=some {cls:=.type "list",data:=.seq its.toArray n}) (hf:f {cls:=.type "list",data:=.seq its.toArray n}={cls:=.type "list",data:=.seq its'.toArray n'}) (r:Vals ys its') (hz:ys.length≤sizeLine) (t:Nat):
  Inv X pins σ (upd H p (.lst ys)) {s with heap:=s.heap.update p f,toks:=t}:=by
 have e:(s.heap.update p f).get? p=some {cls:=.type "list",data:=.seq its'.toArray n'}:=by
  rw [Heap.get?_update_self f ho (by rw [hf] <;> rfl),hf]
 refine I.write (x:=p) (e:=p) (by rw [h];trivial) (.inl rfl) (fun b u hb q=>(Heap.get?_update_other _ _ (Ne.symm hb)).trans q) ⟨_,e⟩ ?_
 exact ⟨hz,its',n',r,e⟩
noncomputable def rSetL:V→V→V→Hp→(Hp→Prop)→Prop:=fun o i v H Q=>∃p xs k j,o= .ref p∧i= .int k∧H p=some (.lst xs)∧ixN xs.length k=some j∧Q (upd H p (.lst (xs.set j v)))
theorem set_list:PSet X rSetL:=by
 intro pins s σ H o i v ov iv u Q I ro ri rv h
 obtain ⟨p,xs,k,j,rfl,rfl,hp,hj,q⟩:=h
 cases ro
 obtain ⟨t,rfl⟩:=ri
 obtain ⟨its,n,r,ho,hz⟩:=I.lst hp
 obtain ⟨h1,h2,h3,h4⟩:=ixN_seq hj
 have hl:=r.length
 have hn:=line63
 have I':Inv X pins σ (upd H p (.lst (xs.set j v))) {s with heap:=s.heap.update p (Obj.mapSeq (·.setIfInBounds j u))}:=
  I.lstUpd hp ho (mapSeq_set its n j u) (r.set rv j) (by rw [List.length_set];exact hz) s.toks
 by_cases h0:0≤k
 ·have hk:k.toNat=j:=by
   rw [seqIndex_of h0 h4] at h1
   exact Option.some.inj h1
  exact PySem.W.ki_setAt ho h0 (by (first|lia|omega)) (by rw [List.size_toArray,←hl];exact h4) (by rw [hk];exact ⟨_,I',q⟩)
 ·have hk:(k + (its.toArray.size:Int)).toNat=j:=by
   rw [seqIndex_neg (by (first|lia|omega)) h3] at h1
   rw [List.size_toArray,←hl]
   exact Option.some.inj h1
  exact PySem.W.ki_setBack ho (by (first|lia|omega)) (by rw [List.size_toArray,←hl];exact h3) (by (first|lia|omega)) (by rw [hk];exact ⟨_,I',q⟩)
theorem slice_bounds (lo hi:Option Int)(n:Nat):(sliceBounds lo hi none n).1=((HT.sIx n 0 lo:Nat):Int)∧(sliceBounds lo hi none n).2.1=((HT.sIx n n hi:Nat):Int)∧(sliceBounds lo hi none n).2.2=1:=by
 refine ⟨?_,?_,rfl⟩
 ·cases lo with
  | none=>simp [sliceBounds,HT.sIx]
  | some i=>
   simp only [sliceBounds,HT.sIx,Option.getD_none,show (1:Int) > 0 by decide,if_true]
   by_cases h:i < 0
   ·simp only [h,if_true] <;> (first|lia|omega)
   ·simp only [h,if_false] <;> (first|lia|omega)
 ·cases hi with
  | none=>simp [sliceBounds,HT.sIx]
  | some i=>
   simp only [sliceBounds,HT.sIx,Option.getD_none,show (1:Int) > 0 by decide,if_true]
   by_cases h:i < 0
   ·simp only [h,if_true] <;> (first|lia|omega)
   ·simp only [h,if_false] <;> (first|lia|omega)
theorem slicePick_cut (its:List Value)(lo hi:Option Int):slicePick its.toArray lo hi none=((its.drop (HT.sIx its.length 0 lo)).take (HT.sIx its.length its.length hi - HT.sIx its.length 0 lo)).toArray:=by
 obtain ⟨h1,h2,h3⟩:=slice_bounds lo hi its.toArray.size
 unfold slicePick
 rw [h1,h2,h3]
 simp only [sliceRange_one,pick_run,List.size_toArray] <;> rfl
noncomputable def rSlL (K:PySem.W.Frag):V→Option Int→Option Int→Hp→VK→Prop:=fun x lo hi H Q=>∃a xs,x= .ref a∧SqL K H a xs∧∀p,H p=none→Q (.ref p) (upd H p (.lst (cutV xs lo hi)))
theorem sl_list:SlR X (rSlL X.K):=by
 intro pins s σ H x v vl vu lo hi sl Q I rx hs pl pu h
 obtain ⟨a,xs,rfl,hx,q⟩:=h
 cases rx
 obtain ⟨its,r,ht,hz⟩:=I.list hx
 have hlen:=r.length
 refine ⟨"list",_,slot_list_getitem.lookup,ht.isList.typeIs,?_⟩
 refine wpAny_getItem_list_slice ht.isList hs pl pu .none (by simp) ?_ (by rw [List.size_toArray] <;> (first|lia|omega))
 rw [slicePick_cut,←hlen]
 refine ⟨.ref s.heap.objs.size,_,I.laid (t':=s.toks) (o:=.lst (cutV xs lo hi)) (fun b ob q=>Heap.get?_push_of_some _ q) (Nat.le_refl _) ?_,rfl,q _ (I.hok.fresh (Nat.le_refl _))⟩
 exact ⟨Nat.le_trans (cutV_length xs lo hi) hz,_,0,(r.drop (HT.sIx xs.length 0 lo)).take (HT.sIx xs.length xs.length hi - HT.sIx xs.length 0 lo),Heap.get?_push_size _ rfl⟩
noncomputable def flatV:V→Bool
 | .non=>true
 | .bl _=>true
 | .int _=>true
 | .str _=>true
 | _=>false
noncomputable def eqV:V→V→Bool
 | .non,.non=>true
 | .bl a,.bl b=>a == b
 | .bl a,.int b=>(if a then 1 else 0) == b
 | .int a,.bl b=>a == (if b then 1 else 0)
 | .int a,.int b=>a == b
 | .str a,.str b=>a == b
 | _,_=>false
theorem eqAt_V {A:Around}{s:Shared}{y x:V}{u v:Value}(ry:RelV y u)(rx:RelV x v)(fy:flatV y=true)(fx:flatV x=true):SeqAt.EqAt A s u v (eqV y x):=by
 cases y with
 | non=>
  cases ry
  cases x with
  | non=>cases rx;exact SeqAt.EqAt.same _
  | bl b=>cases rx;exact SeqAt.EqAt.none_bool b
  | int b=>obtain ⟨t,rfl⟩:=rx;exact SeqAt.EqAt.none_int b t
  | str b=>obtain ⟨t,rfl⟩:=rx;exact SeqAt.EqAt.none_str b t
  | _=>exact absurd (show false=true from fx) Bool.false_ne_true
 | bl a=>
  cases ry
  cases x with
  | non=>cases rx;exact SeqAt.EqAt.bool_none a
  | bl b=>cases rx;exact SeqAt.EqAt.bool_bool a b
  | int b=>obtain ⟨t,rfl⟩:=rx;exact SeqAt.EqAt.bool_int a b t
  | str b=>obtain ⟨t,rfl⟩:=rx;exact SeqAt.EqAt.bool_str a b t
  | _=>exact absurd (show false=true from fx) Bool.false_ne_true
 | int a=>
  obtain ⟨t',rfl⟩:=ry
  cases x with
  | non=>cases rx;exact SeqAt.EqAt.int_none a t'
  | bl b=>cases rx;exact SeqAt.EqAt.int_bool a t' b
  | int b=>obtain ⟨t,rfl⟩:=rx;exact SeqAt.EqAt.int_int a t' b t
  | str b=>obtain ⟨t,rfl⟩:=rx;exact SeqAt.EqAt.int_str a t' b t
  | _=>exact absurd (show false=true from fx) Bool.false_ne_true
 | str a=>
  obtain ⟨t',rfl⟩:=ry
  cases x with
  | non=>cases rx;exact SeqAt.EqAt.str_none a t'
  | bl b=>cases rx;exact SeqAt.EqAt.str_bool a t' b
  | int b=>obtain ⟨t,rfl⟩:=rx;exact SeqAt.EqAt.str_int a t' b t
  | str b=>obtain ⟨t,rfl⟩:=rx;exact SeqAt.EqAt.str_str a t' b t
  | _=>exact absurd (show false=true from fx) Bool.false_ne_true
 | _=>exact absurd (show false=true from fy) Bool.false_ne_true
noncomputable def eqU (x:V) (u:Value):Bool:=match u with
 | .none=>eqV .non x
 | .bool b=>eqV (.bl b) x
 | .int i _=>eqV (.int i) x
 | .str z _=>eqV (.str z) x
 | _=>false
theorem eqU_of {x y:V}{u:Value}(r:RelV y u)(f:flatV y=true):eqU x u=eqV y x:=by
 cases y with
 | non=>cases r;rfl
 | bl b=>cases r;rfl
 | int i=>obtain ⟨t,rfl⟩:=r;rfl
 | str z=>obtain ⟨t,rfl⟩:=r;rfl
 | _=>exact absurd (show false=true from f) Bool.false_ne_true
theorem any_eqU {x:V}:∀{xs:List V} {us:List Value},Vals xs us→xs.all flatV=true→us.any (eqU x)=xs.any fun y=>eqV y x
 | _,_,.nil,_=>rfl
 | y :: xs,u :: us,.cons r t,f=>by
  rw [List.all_cons,Bool.and_eq_true] at f
  rw [List.any_cons,List.any_cons,eqU_of r f.1,any_eqU t f.2]
theorem mem_eqAt {A:Around}{s:Shared}{x:V}{v:Value}(rx:RelV x v)(fx:flatV x=true):∀{xs:List V} {us:List Value},Vals xs us→xs.all flatV=true→∀u∈us,SeqAt.EqAt A s u v (eqU x u)
 | _,_,.nil,_=>fun u hu=>by cases hu
 | y :: xs,u :: us,.cons r t,f=>fun u' hu=>by
  rw [List.all_cons,Bool.and_eq_true] at f
  rcases List.mem_cons.mp hu with rfl | hu
  ·rw [eqU_of r f.1];exact eqAt_V r rx f.1 fx
  ·exact mem_eqAt rx fx t f.2 u' hu
noncomputable def inV (x:V) (xs:List V):Bool:=xs.any fun y=>eqV y x
noncomputable def rIn (K:PySem.W.Frag) (neg:Bool):R2:=fun x y H Q=>∃p xs,y= .ref p∧(SqL K H p xs∨SqT K H p xs)∧flatV x=true∧xs.all flatV=true∧Q (.bl (if neg then !inV x xs else inV x xs)) H
theorem op_in_seq:OpR X (compareOp .In) (rIn X.K false):=by
 intro pins s σ H x y v u Q I rx ry h
 obtain ⟨p,xs,rfl,hq,fx,fs,q⟩:=h
 cases ry
 rcases hq with hq | hq
 ·obtain ⟨its,r,pl,hz⟩:=I.list hq
  refine SeqAt.in_listAt (eqU x) pl.isList (fun w hw=>mem_eqAt rx fx r fs w (by simpa using hw)) ⟨.bl _,H,I,rfl,?_⟩
  rw [show its.toArray.any (eqU x)=its.any (eqU x) by simp,any_eqU r fs]
  exact q
 ·obtain ⟨its,r,pl,hz⟩:=I.tuple hq
  refine SeqAt.in_tupleAt (eqU x) pl (fun w hw=>mem_eqAt rx fx r fs w (by simpa using hw)) ⟨.bl _,H,I,rfl,?_⟩
  rw [show its.toArray.any (eqU x)=its.any (eqU x) by simp,any_eqU r fs]
  exact q
theorem op_notIn_seq:OpR X (compareOp .NotIn) (rIn X.K true):=by
 intro pins s σ H x y v u Q I rx ry h
 obtain ⟨p,xs,rfl,hq,fx,fs,q⟩:=h
 cases ry
 rcases hq with hq | hq
 ·obtain ⟨its,r,pl,hz⟩:=I.list hq
  refine SeqAt.notIn_listAt (eqU x) pl.isList (fun w hw=>mem_eqAt rx fx r fs w (by simpa using hw)) ⟨.bl _,H,I,rfl,?_⟩
  rw [show its.toArray.any (eqU x)=its.any (eqU x) by simp,any_eqU r fs]
  exact q
 ·obtain ⟨its,r,pl,hz⟩:=I.tuple hq
  refine SeqAt.notIn_tupleAt (eqU x) pl (fun w hw=>mem_eqAt rx fx r fs w (by simpa using hw)) ⟨.bl _,H,I,rfl,?_⟩
  rw [show its.toArray.any (eqU x)=its.any (eqU x) by simp,any_eqU r fs]
  exact q
theorem CallR.or {f:Value}{r r':List V→Hp→VK→Prop}(h:CallR X f r)(h':CallR X f r'):CallR X f (fun xs H Q=>r xs H Q∨r' xs H Q):=by
 intro pins s σ H xs us Q I rs q
 rcases q with q | q
 ·exact h pins s σ H xs us Q I rs q
 ·exact h' pins s σ H xs us Q I rs q
theorem call_list_of:CallR X (.type "list") (fun xs H Q=>∃p ys,xs=[.ref p]∧(SqL X.K H p ys∨SqT X.K H p ys)∧∀l,H l=none→Q (.ref l) (upd H l (.lst ys))):=by
 intro pins s σ H xs us Q I r h
 obtain ⟨p,ys,rfl,hq,q⟩:=h
 obtain ⟨u,rfl,rx⟩:=vals1 r
 cases rx
 have fin:∀(its:List Value),Vals ys its→ys.length≤sizeLine→∀(h':Heap) (c':Nat),(∀b o',s.heap.get? b=some o'→h'.get? b=some o')→
   h'.get? s.heap.objs.size=some {cls:=.type "list",dict:=none,data:=.seq its.toArray c',slots:= #[]}→EP X pins σ Q (.ref s.heap.objs.size) {s with heap:=h'}:=fun its r' hz h' c' kp e=>
  ⟨.ref s.heap.objs.size,_,I.laid (t':=s.toks) kp (Nat.le_refl _) (show ObjOk X.prog X.w _ h' _ (.lst ys) from ⟨hz,its,c',r',e⟩),rfl,q _ (I.hok.fresh (Nat.le_refl _))⟩
 rcases hq with hq | hq
 ·obtain ⟨its,r',pl,hz⟩:=I.list hq
  have hlen:=r'.length
  obtain ⟨o,ho,hc,n,hd⟩:=pl.isList
  exact call_list_seq p (.inl rfl) ho hc hd (fun h' c' kp e=>fin its r' hz h' c' kp e) (by simp only [List.size_toArray] <;> (first|lia|omega))
 ·obtain ⟨its,r',pl,hz⟩:=I.tuple hq
  have hlen:=r'.length
  obtain ⟨o,ho,hc,n,hd⟩:=pl
  exact call_list_seq p (.inr rfl) ho hc hd (fun h' c' kp e=>fin its r' hz h' c' kp e) (by simp only [List.size_toArray] <;> (first|lia|omega))
theorem call_tuple_of:CallR X (.type "tuple") (fun xs H Q=>∃p ys,xs=[.ref p]∧((SqL X.K H p ys∧∀l,H l=none→Q (.ref l) (upd H l (.tup ys)))∨(SqT X.K H p ys∧Q (.ref p) H))):=by
 intro pins s σ H xs us Q I r h
 obtain ⟨p,ys,rfl,h⟩:=h
 obtain ⟨u,rfl,rx⟩:=vals1 r
 cases rx
 rcases h with ⟨hq,q⟩ | ⟨hq,q⟩
 ·obtain ⟨its,r',pl,hz⟩:=I.list hq
  have hlen:=r'.length
  refine call_tuple_list pl.isList (fun h' kp=>?_) (by simp only [List.size_toArray] <;> (first|lia|omega))
  have I1:Inv X pins σ H {s with heap:=h'}:=I.kept (t':=s.toks) kp
  have I2:Inv X pins σ (upd H h'.objs.size (.tup ys)) {s with heap:=h'.push {cls:=.type "tuple",data:=.seq its.toArray}}:=
   I1.laid (t':=s.toks) (fun b o e=>Heap.get?_push_of_some _ e) (Nat.le_refl _) (show ObjOk X.prog X.w _ _ _ (.tup ys) from ⟨hz,its,r',TupN.new _ _⟩)
  exact ⟨.ref h'.objs.size,_,I2,rfl,q _ (I1.hok.fresh (Nat.le_refl _))⟩
 ·obtain ⟨its,r',pl,hz⟩:=I.tuple hq
  exact call_tuple_same pl ⟨.ref p,H,I,rfl,q⟩
noncomputable def tyV (K:PySem.W.Frag) (T:String) (x:V) (H:Hp):Prop:=match x with
 | .str _=>T="str"
 | .int _=>T="int"
 | .ref p=>(T="list"∧∃xs,SqL K H p xs)∨(T="tuple"∧∃o,K.lookup p=some o∧o.cls= .type "tuple"∧o.dict=none)∨
   (T="dict"∧((∃kvs,H p=some (.dK kvs))∨∃kvs,H p=some (.dT kvs)))∨(T="set"∧∃S n,H p=some (.set S n))
 | _=>False
theorem tyV_is {pins:List (Addr×Obj)}{σ:St}{H:Hp}{s:Shared}{T:String}{x:V}{v:Value}(I:Inv X pins σ H s)(r:RelV x v)(ty:tyV X.K T x H):
  s.TypeIs v T∧∀a,v= .ref a→∃ob,s.heap.get? a=some ob∧ob.dict=none:=by
 cases x with
 | str z=>
  obtain ⟨t,rfl⟩:=r
  cases (show T="str" from ty)
  exact ⟨typeIs_str s z t,fun _ e=>nomatch e⟩
 | int i=>
  obtain ⟨t,rfl⟩:=r
  cases (show T="int" from ty)
  exact ⟨typeIs_int s i t,fun _ e=>nomatch e⟩
 | ref p=>
  cases r
  rcases ty with ⟨rfl,xs,hq⟩ | ⟨rfl,o,hk,hc,hd⟩ | ⟨rfl,hk⟩ | ⟨rfl,S,n,hk⟩
  ·obtain ⟨its,_,pl,_⟩:=I.list hq
   refine ⟨pl.isList.typeIs,fun a e=>?_⟩
   cases e
   obtain ⟨o,n,e,c,hd,_⟩:=pl
   exact ⟨o,e,hd⟩
  ·refine ⟨⟨o,I.kIn p o hk,hc⟩,fun a e=>?_⟩
   cases e
   exact ⟨o,I.kIn _ o hk,hd⟩
  ·have z:∃o,s.heap.get? p=some o∧o.ExactDict:=by
    rcases hk with ⟨kvs,hk⟩ | ⟨kvs,hk⟩
    ·obtain ⟨_,_,_,_,o,_,_,e,ex,_⟩:=I.hok p _ hk
     exact ⟨o,e,ex⟩
    ·obtain ⟨_,_,_,_,o,_,_,e,ex,_⟩:=I.hok p _ hk
     exact ⟨o,e,ex⟩
   obtain ⟨o,e,ex⟩:=z
   refine ⟨⟨o,e,ex.1⟩,fun a e2=>?_⟩
   cases e2
   exact ⟨o,e,ex.2.1⟩
  ·obtain ⟨o,_,_,_,e,ex,_⟩:=I.hok p _ hk
   refine ⟨⟨o,e,ex.1⟩,fun a e2=>?_⟩
   cases e2
   exact ⟨o,e,ex.2.1⟩
 | _=>exact False.elim ty
noncomputable def tBM (K:PySem.W.Frag) (T:String) (r:V→List V→Hp→VK→Prop) (to:TE) (t:TA):TE:=fun σ H Q=>to σ H fun x H1=>tyV K T x H1∧t σ H1 fun xs H2=>r x xs H2 Q
variable {o e:Expr}{es:List Expr}{to:TE}{t:TA}{name:Str}{apos cpos:Pos}{T id:String}{r:V→List V→Hp→VK→Prop}
theorem pe_bm (pa:PlainAttrs T)(slot:Slot T name id)(hty:typeOf (.builtin id)=pure (.type "method_descriptor"))(hm:MtR X id r)(ho:PE X o to)(ha:PA X (e :: es) t)
  (hbase:autoParam (attributeBase o name X.env (eval o X.env)=eval o X.env) Zau.a2._auto_1)
  (hfew:autoParam (((backTo cpos (starEach (e :: es) X.env)).all (fun x=>!x.1) && (backToKw cpos (keywordEach [] X.env)).all (fun x=>x.1.isSome)
   && decide ((e :: es).length + ([]:List Keyword).length + (if ([]:List Keyword).isEmpty then 0 else 1) < 30))=true) Zau.a2._auto_1)
  (hline:autoParam ((apos.endLine == cpos.line)=true) Zau.a2._auto_1) (hs:autoParam (starEach (e :: es) X.env=(false,eval e X.env) :: starEach es X.env) Zau.a2._auto_1) (hplain:autoParam ((backTo cpos (starEach es X.env)).any (·.1)=false) Zau.a2._auto_1):
  PE X (.Call (.Attribute o name apos) (e :: es) [] cpos) (tBM X.K T r to t):=by
 intro pins s σ H Q I h
 refine wpAny_Call_method_late hbase hfew hline rfl (thn (ho pins s σ H _ I h) fun v s1 ⟨x,H1,I1,r1,ty,q1⟩=>?_)
 obtain ⟨h1,h2⟩:=tyV_is I1 r1 ty
 refine ⟨T,id,pa,slot,hty,h1,h2,?_⟩
 have hA:=ha cpos pins s1 σ H1 _ I1 q1
 rw [hs] at hA ⊢
 refine Calls.callWith_builtin (by show (false || (backTo cpos (starEach es X.env)).any (·.1))=false;rw [hplain] <;> rfl) (Calls.evalArgs_plain ?_)
 exact thn hA fun us s2 h0=>ex5 h0 fun vs H2 I2 r2 q2=>hm pins s2 σ H2 x vs v us Q I2 r1 r2 q2
end
end L2
namespace L2
open PySem PySem.Spec PyProof.Rows
noncomputable def MtM (X:Cx) (id:String) (r:V→List V→Hp→VK→Prop):Prop:=
 ∀(pins:List (Addr×Obj)) (s:Shared) (σ:St) (H:Hp) (x:V) (xs:List V) (v:Value) (us:List Value) (Q:VK),Inv X pins σ H s→RelV x v→Vals xs us→r x xs H Q→
  wpAny (model X.prog X.w) X.A (call (.builtin id) (v :: us)) (EP X pins σ Q) X.xe s
theorem Vals.one:∀{x:V} {us:List Value},Vals [x] us→∃u,us=[u]∧RelV x u
 | _,_,.cons r .nil=>⟨_,rfl,r⟩
theorem Vals.eraseIdx:∀{xs:List V} {us:List Value} (i:Nat),Vals xs us→Vals (xs.eraseIdx i) (us.eraseIdx i)
 | _,_,_,.nil=>.nil
 | _,_,0,.cons _ t=>t
 | _,_,i + 1,.cons r t=>.cons r (Vals.eraseIdx i t)
theorem Vals.reverse {xs:List V}{us:List Value}(h:Vals xs us):Vals xs.reverse us.reverse:=by
 induction h with
 | nil=>exact .nil
 | cons r t ih=>rw [List.reverse_cons,List.reverse_cons];exact Vals.append ih (.cons r .nil)
section
variable {X:Cx}{pins:List (Addr×Obj)}{σ:St}{H:Hp}{s:Shared}{l b:Addr}{xs ys zs:List V}
theorem Inv.lset {its its':List Value}{n:Nat}{f:Array Value→Array Value}{t':Nat}(I:Inv X pins σ H s)(hH:H l=some (.lst xs))
  (e:s.heap.get? l=some {cls:=.type "list",data:=.seq its.toArray n}) (hf:f its.toArray=its'.toArray) (hv:Vals ys its') (hz:ys.length≤sizeLine):
  Inv X pins σ (upd H l (.lst ys)) {s with heap:=s.heap.update l (Obj.mapSeq f),toks:=t'}:=by
 have q:=PySem.IsL.update e f
 rw [hf] at q
 refine I.write (x:=l) (e:=l) (by rw [hH];exact trivial) (.inl rfl) (fun b' u hb hu=>(Heap.get?_update_other s.heap (Obj.mapSeq f) (Ne.symm hb)).trans hu) ⟨_,q⟩ ?_
 exact ⟨hz,its',_,hv,q⟩
theorem Inv.lnew {its:List Value}{t':Nat}(I:Inv X pins σ H s)(hv:Vals ys its)(hz:ys.length≤sizeLine):
  Inv X pins σ (upd H s.heap.objs.size (.lst ys)) {s with heap:=s.heap.push {cls:=.type "list",data:=.seq its.toArray},toks:=t'}:=
 I.laid (fun _ _ q=>Heap.get?_push_of_some _ q) (Nat.le_refl _) ⟨hz,its,0,hv,Heap.get?_push_size _ rfl⟩
theorem Inv.fresh (I:Inv X pins σ H s):H s.heap.objs.size=none:=I.hok.fresh (Nat.le_refl _)
theorem Inv.lstM (I:Inv X pins σ H s)(hH:H l=some (.lst xs)):xs.length≤sizeLine∧∃(its:List Value) (n:Nat),Vals xs its∧xs.length=its.length∧s.heap.get? l=some {cls:=.type "list",data:=.seq its.toArray n}:=by
 obtain ⟨z,its,n,r,e⟩:=I.hok l _ hH
 exact ⟨z,its,n,r,r.length,e⟩
end
section
variable {X:Cx}
noncomputable def rAppend:V→List V→Hp→VK→Prop:=fun x vs H Q=>∃l xs y,x= .ref l∧vs=[y]∧H l=some (.lst xs)∧xs.length < sizeLine∧Q .non (upd H l (.lst (xs ++ [y])))
theorem mt_append:MtM X "list.append" rAppend:=by
 intro pins s σ H x vs v us Q I rx rv h
 obtain ⟨l,xs,y,rfl,rfl,hH,hz,q⟩:=h
 cases rx
 obtain ⟨u,rfl,ru⟩:=rv.one
 obtain ⟨z,its,n,r,hl,e⟩:=I.lstM hH
 refine call_meets F.slot_list_append ⟨_,e,rfl⟩ F.entry_list_append (F.args_list_append_2 _ _) (PySem.list_append l its.toArray n u (by rw [List.size_toArray];(first|lia|omega))) ⟨e,?_⟩
 refine ⟨.non,_,I.lset (its':=its ++ [u]) hH e (by simp) (r.append (.cons ru .nil)) ?_,rfl,q⟩
 rw [List.length_append,List.length_singleton]
 (first|lia|omega)
end
section
variable {prog:Program}{w:World}{A:Around}{E:Value→Shared→Prop}{s:Shared}
set_option maxRecDepth 100000 in
end
section
variable {X:Cx}
end
end L2
namespace Att
open PySem PySem.W PySem.Calls PyProof.Rows
theorem ints_of_wellAll {P:Params}{h:Heap}:∀(ns:List Int) (vs:List Value),WellAll P h vs (ns.map WData.int)→IntsAre vs ns:=by
 intro ns
 induction ns with
 | nil=>
  intro vs w
  rw [List.map_nil] at w
  cases w
  exact .nil
 | cons n ns ih=>
  intro vs w
  rw [List.map_cons] at w
  cases w with
  | cons a b=>
   cases a
   exact .cons _ _ (ih _ b)
theorem script_of {l:OpenLaw}{n:Nat}(hn:l.most=some n){P:Params}{h:Heap}{args:List WData}{vals:List Value}
  (hpre:l.row.toRowW.claim.pre args=true) (hwl:WellAll P h vals args):
  ∃a vs ns,vals=[Value.ref a]∧args=[WData.list (ns.map WData.int)]∧h.get? a=some {cls:=.type "list",data:=.seq vs.toArray}∧IntsAre vs ns∧ns.length≤n:=by
 have hsh:WShape.hasAll [] args [.list .int]=true:=(pre_splitW hpre).1
 have hc:l.pre.holds [] {args:=args}=true:=(pre_splitW hpre).2
 obtain ⟨d,r,rfl,h1,h2⟩:=hasAllW_cons hsh
 obtain rfl:=hasAllW_nil h2
 obtain ⟨xs,rfl,h3⟩:=hasW_list h1
 obtain ⟨ns,rfl⟩:=items_int h3
 have hlen:ns.length≤n:=by
  unfold OpenLaw.pre at hc
  have h4:(WTm.not (.lt (.lit (.int (n:Int))) (.len (.arg 0)))).holds [] {args:=[.list (ns.map .int)]}=true:=by
   have h4:=(holds_andW hc).1
   rw [hn] at h4
   exact h4
  have h5:=condW_of h4 (w_not (w_lt w_lit (w_len_list (w_arg rfl))))
  rw [List.length_map] at h5
  refine Nat.le_of_not_lt fun q=>?_
  have q':(n:Int) < ((ns.length:Nat):Int):=by (first|lia|omega)
  first
   | (rw [decide_eq_true q'] at h5;exact absurd h5 (by decide))
   | (simp at h5;(first|lia|omega))
 cases hwl with
 | cons w1 w2=>
  cases w2
  cases w1 with
  | list ho hall=>exact ⟨_,_,ns,rfl,rfl,ho,ints_of_wellAll ns _ hall,hlen⟩
theorem post_true (l:OpenLaw)(args:List WData):l.row.toRowW.claim.post args (.bool true) args=true:=
 postW_of (r:=l.row.toRowW) (X:=(true == true))
  (show WShape.has [] (.bool true) .bool=true by first | rfl | decide | simp [WShape.has,WShape.arms,WShape.armsAll])
  (show (WTm.eq .res (.lit (.bool true))).value [] {args:=args,res:=some (.bool true),after:=args}=some (.bool (true == true)) from w_eq_bool (w_res rfl) w_lit) rfl
theorem attach_call {l:OpenLaw}{n:Nat}{q:Program}{loose:List Str}{XP:(Str→Option Value)→Heap→Prop}{YP:World→Heap→Prop}{d:DefRec}
  (hn:l.most=some n) (hdf:d.params.defaults=[])
  (call:∀(w:World) (s₀ s₁:Shared) (mg mb:Str→Option Value) (fa:Addr) (o:Obj) (pm cd doc:Value) (a:Addr) (vs:List Value) (ns:List Int),
   Ground q loose [] XP w s₀ mg mb s₁.heap→YP w s₁.heap→
   s₁.heap.get? fa=some o→o.data= .func (docDef d.name d.params d.body d.scope pm cd doc)→s₁.heap.CodeRec cd d.name→mg d.name=some (.ref fa)→
   s₁.heap.get? a=some {cls:=.type "list",data:=.seq vs.toArray}→IntsAre vs ns→ns.length≤n→s₁.gens= #[]→
   codeAny (model l.prog w) callerA (.call (.ref fa) ⟨[.ref a],[]⟩) (fun r s'=>r= .ok (.ret (.bool true))∧OldK s₁.heap s'.heap∧s'.os=s₁.os∧AllBare s'.gens) s₁):
  WalkO q loose XP YP l.row.toRowW d [] (fun f vs=>PySem.call f vs):=by
 intro w s₀ s₁ mg mb G Y fa o pm cd doc dV kV ho hd hcd hD hmg hg args vals as hpre hlay hrd hwl hlo
 obtain rfl:dV= .none:=Dflts.none hD hdf
 obtain rfl:kV= .none:=Dflts.noKw hD
 obtain ⟨a,vs,ns,rfl,rfl,hobj,hints,hlen⟩:=script_of hn hpre hwl
 refine enter_call (codeAny_mono (call w s₀ s₁ mg mb fa o pm cd doc a vs ns G Y ho (fd_plain hd) hcd hmg hobj hints hlen hg) fun r s' hq=>?_)
 obtain ⟨rfl,h2,h3,h4⟩:=hq
 exact ⟨.inl ⟨.bool true,.bool true,[],rfl,fun _=>rfl,.bool true,post_true l _,fun _=>⟨List.Pairwise.nil,fun _ hm=>(nomatch hm)⟩⟩,h2,h3,h4⟩
section
variable {prog:Program}{w:World}{A:Around}{E:Value→Shared→Prop}{s:Shared}{K:Frag}
noncomputable def ledger (h:Heap) (L d:Addr):List (Addr×Obj):=(List.range h.objs.size).filterMap fun a=>if a=L∨a=d then none else (h.get? a).map fun o=>(a,o)
end
end Att
namespace L2
open PySem PySem.Spec PyProof.Rows
theorem vals_ints:∀{vs:List Value} {ns:List Int},IntsAre vs ns→Vals (ns.map V.int) vs
 | _,_,.nil=>.nil
 | _,_,.cons n t h=>.cons ⟨t,rfl⟩ (vals_ints h)
noncomputable def Only (H:Hp):Prop:=∀b,H b=none∨∃o xs,H b=some (.frz o (.lst xs))
theorem law_call {P:Program}{w:World}{K:PySem.W.Frag}{mg mb:Str→Option Value}{CX:CXT}{k:Nat}{fa a:Addr}{fd:FuncData}{x:Str}{sp:Sp}{s₁:Shared}{vs:List Value}{ns:List Int}
  (KX:K.In s₁.heap) (hns:s₁.heap.Ns mainGlobals mg) (hb:s₁.heap.Ns builtinsNs mb) (hbb:∀x:Str,x≠"__name__"→mb x=bootBuiltins x) (hlim:s₁.heap.NoLimit) (hg:s₁.gens= #[])
  (ha:s₁.heap.get? a=some {cls:=.type "list",data:=.seq vs.toArray}) (hi:IntsAre vs ns) (hl:ns.length≤sizeLine) (hr:Room k callerA)
  (F:∀base:Heap,K.In base→base.Ns mainGlobals mg→FnOk P w K mg base CX k fa fd [x] sp) (hbind:∀(s:Shared) (u:Value),BindsTo s fd ⟨[u],[]⟩ [(x,u)])
  (hsp:∀H:Hp,Only H→SqL K H a (ns.map V.int)→sp [.ref a] H (fun v _=>v= .bl true) fun _ _ _=>False)
  (hCX:∀H e s',CX [] H s₁ (fun _ _ _=>False) e s'→False):
  codeAny (model P w) callerA (.call (.ref fa) ⟨[.ref a],[]⟩) (fun r s'=>r= .ok (.ret (.bool true))∧OldK s₁.heap s'.heap∧s'.os=s₁.os∧AllBare s'.gens) s₁:=by
 have rv:=vals_ints hi
 have lenV:=hi.length
 have core:∀H:Hp,Only H→SqL K H a (ns.map V.int)→HOk P w H s₁.heap→(∀b,H b≠none→b=a)→(H a≠none→K.lookup a=none)→
   codeAny (model P w) callerA (.call (.ref fa) ⟨[.ref a],[]⟩) (fun r s'=>r= .ok (.ret (.bool true))∧OldK s₁.heap s'.heap∧s'.os=s₁.os∧AllBare s'.gens) s₁:=by
  intro H hO hS hok hA hK
  have base_of:∀{b:Addr} {o:Obj},s₁.heap.get? b=some o→H b=none→(hidT s₁.heap H).get? b=some o:=fun e n=>hidT_get e n
  have noA:∀{b:Addr} {o:Obj} {es:Array DictEntry} {ep:Nat},s₁.heap.get? b=some o→o.data= .dict es ep→H b=none:=fun {b o es ep} e d=>by
   cases q:H b with
   | none=>rfl
   | some u=>
    have e':b=a:=hA b (by rw [q];simp)
    subst e'
    rw [ha] at e;cases e
    have d':Data.seq vs.toArray _=Data.dict es ep:=d
    cases d'
  have nsK:∀{b:Addr} {m:Str→Option Value},s₁.heap.Ns b m→(hidT s₁.heap H).Ns b m:=fun {b m} ⟨o,es,ep,e,d,r⟩=>⟨o,es,ep,base_of e (noA e d),d,r⟩
  have hKb:K.In (hidT s₁.heap H):=fun b o e=>base_of (KX b o e) (by
   cases q:H b with
   | none=>rfl
   | some u=>
    have e':b=a:=hA b (by rw [q];simp)
    subst e'
    rw [hK (by rw [q];simp)] at e;cases e)
  have hM:Mod K mg (hidT s₁.heap H):=⟨hKb,nsK hns,⟨mb,nsK hb,hbb⟩,let ⟨mc,h1,h2⟩:=hlim;⟨mc,nsK h1,h2⟩⟩
  have e0:Env0 P w K mg (hidT s₁.heap H) callerA [] s₁ H:=⟨rfl,hM,fun b o e=>of_hidT e,Nat.le_of_eq (hidT_size _ _),trivial,fun b hb=>absurd (show b∈([]:List Addr) from hb) (by simp),hok,.of_eq hg⟩
  refine codeAny_mono ((F _ hKb (nsK hns)).run callerA [] s₁ H ⟨[.ref a],[]⟩ [.ref a] [.ref a] _ _ hr e0 (hbind s₁ (.ref a)) (.cons rfl .nil) (hsp H hO hS)) fun r s' h=>?_
  cases r with
  | error e=>exact (hCX H e s' h).elim
  | ok fl=>
   cases fl with
   | next=>exact False.elim h
   | brk=>exact False.elim h
   | cont=>exact False.elim h
   | ret u=>
    obtain ⟨v,H',os,bare,un,hok',r',q⟩:=h
    have q':v= .bl true:=q
    subst q'
    obtain rfl:u=Value.bool true:=r'
    refine ⟨rfl,OldK.of_keep fun b o e=>?_,os,bare⟩
    cases q:H b with
    | none=>exact un.keep b o e q (by intro z;exact absurd (show b∈([]:List Addr) from z) (by simp)) (by simp)
    | some u=>
     rcases hO b with z | ⟨ob,xs,z⟩
     ·rw [q] at z;cases z
     ·have z2:=un.frzs b ob _ z
      obtain ⟨e1,_⟩:=hok b _ z
      obtain ⟨e2,_⟩:=hok' b _ z2
      rw [e] at e1;cases e1
      exact e2
 cases hk:K.lookup a with
 | some o=>
  have e:=KX a o hk
  rw [ha] at e
  cases e
  refine core (fun _=>none) (fun _=>.inl rfl) (.inr ⟨_,vs.toArray,_,hk,rfl,rfl,rfl,by rw [List.size_toArray,lenV];exact hl,by simpa using rv⟩) (fun b u z=>by have z':(none:Option HO)=some u:=z;cases z') (fun b z=>absurd rfl z) fun z=>absurd rfl z
 | none=>
  refine core (fun b=>if b=a then some (.frz {cls:=.type "list",data:=.seq vs.toArray} (.lst (ns.map V.int))) else none) (fun b=>?_) (.inl (.inr ⟨{cls:=.type "list",data:=.seq vs.toArray},if_pos rfl⟩)) (fun b u z=>?_) (fun b z=>?_) fun _=>hk
  ·by_cases hb:b=a
   ·exact .inr ⟨_,_,if_pos hb⟩
   ·exact .inl (if_neg hb)
  ·by_cases hb:b=a
   ·have z':=(if_pos hb).symm.trans z
    cases z'
    subst hb
    exact ⟨ha,by rw [List.length_map];exact hl,vs,_,rv,ha⟩
   ·have z':=(if_neg hb).symm.trans z
    cases z'
  ·by_cases hb:b=a
   ·exact hb
   ·exact absurd (if_neg hb) z
end L2
namespace L2
open PySem PySem.Spec PyProof.Rows
noncomputable abbrev KOf {K:PySem.W.Frag} {h:Heap} (_:K.In h):PySem.W.Frag:=K
theorem walk_of {l:PySem.W.OpenLaw}{n k:Nat}{q:Program}{loose:List Str}{XP:(Str→Option Value)→Heap→Prop}{YP:World→Heap→Prop}{d:DefRec}{K:Params→PySem.W.Frag}{CX:World→CXT}{sp:World→Sp}{x:Str}
  (hn:l.most=some n) (hn2:n≤sizeLine) (hdf:d.params.defaults=[]) (hr:Room k callerA)
  (hY:∀(w:World) (h:Heap),YP w h→(K w.params).In h)
  (F:∀(w:World) (mg:Str→Option Value) (fa:Addr) (h:Heap),(K w.params).In h→h.Ns mainGlobals mg→mg d.name=some (.ref fa)→
   ∃fd:FuncData,(∀(s:Shared) (u:Value),BindsTo s fd ⟨[u],[]⟩ [(x,u)])∧
    ∀base:Heap,(K w.params).In base→base.Ns mainGlobals mg→FnOk l.prog w (K w.params) mg base (CX w) k fa fd [x] (sp w))
  (hsp:∀(w:World) (H:Hp) (a:Addr) (ns:List Int),ns.length≤n→Only H→SqL (K w.params) H a (ns.map V.int)→sp w [.ref a] H (fun v _=>v= .bl true) fun _ _ _=>False)
  (hCX:∀(w:World) (H:Hp) (s:Shared) (e:Value) (s':Shared),CX w [] H s (fun _ _ _=>False) e s'→False):
  PySem.W.WalkO q loose XP YP l.row.toRowW d [] (fun f vs=>PySem.call f vs):=by
 refine Att.attach_call hn hdf fun w s₀ s₁ mg mb fa o pm cd doc a vs ns G Y ho hd hcd hmg hobj hints hlen hg=>?_
 have KX:=hY w _ Y
 obtain ⟨fd,hb,hF⟩:=F w mg fa _ KX G.T.g hmg
 exact law_call KX G.T.g G.T.b G.T.builtins G.T.nolimit hg hobj hints (Nat.le_trans hlen hn2) hr hF hb (fun H hO hS=>hsp w H a ns hlen hO hS) fun H e s'=>hCX w H s₁ e s'
end L2
namespace L2
open PySem PySem.Spec PyProof.Rows
noncomputable def defArgs (s:Stmt):Arguments:=match s with
 | .FunctionDef _ a _ _ _ _ _ _ _ _=>a
 | _=>{posonlyargs:=[],args:=[],vararg:=none,kwonlyargs:=[],kw_defaults:=[],kwarg:=none,defaults:=[]}
noncomputable def defBody (s:Stmt):List Stmt:=match s with
 | .FunctionDef _ _ b _ _ _ _ _ _ _=>b
 | _=>[]
noncomputable def defScope (s:Stmt):Scope:=match s with
 | .FunctionDef _ _ _ _ _ _ sc _ _ _=>sc
 | _=>{kind:=.function,names:=[],isGenerator:=false,isCoroutine:=false}
noncomputable abbrev CX0:CXT:=fun _ _ _ _ _ _=>False
noncomputable abbrev E0:XK:=fun _ _ _=>False
theorem pass0 {X:Cx}:Passes CX0 X E0:=fun _ _ _ _ _ _ _ h=>h.elim
structure Fun (K:PySem.W.Frag) (x qual:Str) (st:Stmt) (f:Addr) (fd:FuncData):Prop where
 ex:∃(oc:Value) (od:Option Addr) (kV doc pm:Value) (an:Option Addr) (cdv ct:Value) (osl:Array (Option Value)),
  fd=PySem.W.fnOf x qual (defArgs st) (defBody st) (defScope st) .none kV doc pm an cdv ct∧K.lookup f=some ⟨oc,od,.func fd,osl⟩∧PySem.W.codeIn K cdv qual=true
 kp:PySem.W.keepIn K (.ref f)=true
section
variable {P:Program}{w:World}{K:PySem.W.Frag}{mg:Str→Option Value}{base:Heap}
theorem Fun.ok {x qual:Str}{st:Stmt}{f:Addr}{fd:FuncData}{N ps:List Str}{k:Nat}{sp:Sp}(F:Fun K x qual st f fd)(S:FnScope N ps (defScope st))(len:∀vs H Q E,sp vs H Q E→vs.length=ps.length)
  (hbody:∀(cdv:Value) (A:Around) (outer:List Env) (s:Shared) (H:Hp) (vs:List V) (Q:VK) (E:XK),Room k (A.deeper (envOfC qual (defScope st) s.heap.objs.size f cdv))→sp vs H Q E→
   ∃t,PSs (cxOf CX0 P w K mg base N qual (defScope st) f cdv A outer s H E).nox (defBody st) t∧t {nx:=fun _ H'=>Q .non H',rt:=Q} (start N vs) H):FnOk P w K mg base CX0 (k + 1) f fd ps sp:=by
 obtain ⟨oc,od,kV,doc,pm,an,cdv,ct,osl,rfl,lk,hcd⟩:=F.ex
 refine fn_of lk hcd S len fun A outer s H vs Q E hr hsp=>?_
 obtain ⟨t,h,q⟩:=hbody cdv A outer s H vs Q E hr hsp
 exact ⟨t,h.nox,q⟩
theorem Fun.binds {x qual:Str}{st:Stmt}{f:Addr}{fd:FuncData}{ps:List Str}(F:Fun K x qual st f fd)
  (h:∀(kV doc pm:Value) (an:Option Addr) (cdv ct:Value) (us:List Value),us.length=ps.length→bindArgs (PySem.W.fnOf x qual (defArgs st) (defBody st) (defScope st) .none kV doc pm an cdv ct) ⟨us,[]⟩=pure (ps.zip us)):Binds K fd ps []:=by
 obtain ⟨oc,od,kV,doc,pm,an,cdv,ct,osl,rfl,lk,hcd⟩:=F.ex
 exact .all (h kV doc pm an cdv ct)
theorem fun_mk {x qual:Str}{st:Stmt}{f:Addr}{oc:Value}{od an:Option Addr}{osl:Array (Option Value)}{kV doc pm cdv ct:Value}(l:K.lookup f=some ⟨oc,od,.func (PySem.W.fnOf x qual (defArgs st) (defBody st) (defScope st) .none kV doc pm an cdv ct),osl⟩)
  (c:PySem.W.codeIn K cdv qual=true) (k:PySem.W.keepIn K (.ref f)=true):Fun K x qual st f (PySem.W.fnOf x qual (defArgs st) (defBody st) (defScope st) .none kV doc pm an cdv ct):=⟨⟨oc,od,kV,doc,pm,an,cdv,ct,osl,rfl,l,c⟩,k⟩
end
section
variable {X:Cx}
end
noncomputable def Same (H H':Hp):Prop:=∀b o,H b=some o→H' b=some o
theorem Same.refl (H:Hp):Same H H:=fun _ _ h=>h
theorem Same.trans {H H1 H2:Hp}(a:Same H H1)(b:Same H1 H2):Same H H2:=fun c o h=>b c o (a c o h)
theorem Same.free {H H':Hp}(e:Same H H'){l:Addr}(h:H' l=Option.none):H l=Option.none:=by
 cases q:H l with
 | none=>rfl
 | some o=>
  rw [e l o q] at h
  cases h
theorem Same.seq {K:PySem.W.Frag}{H H':Hp}{a:Addr}{xs:List V}(e:Same H H')(h:SqL K H a xs):SqL K H' a xs:=by
 rcases h with (h | ⟨o,h⟩) | h
 ·exact .inl (.inl (e _ _ h))
 ·exact .inl (.inr ⟨o,e _ _ h⟩)
 ·exact .inr h
end L2
set_option maxHeartbeats 1000000
namespace L2
open PySem PySem.Spec PyProof.Rows
section
variable {κ:Type} [DecidableEq κ]
noncomputable def valV (kvs:List (κ×V)) (k:κ):Option V:=(kvs.find? fun kv=>decide (kv.1=k)).map (·.2)
noncomputable def putK (kvs:List (κ×V)) (k:κ) (v:V):List (κ×V):=
 if (kvs.any fun kv=>decide (kv.1=k))=true then kvs.map (fun kv=>if kv.1=k then (kv.1,v) else kv) else kvs ++ [(k,v)]
theorem valV_pos {p:κ×V}{r:List (κ×V)}{k:κ}(e:p.1=k):valV (p :: r) k=some p.2:=by simp [valV,List.find?_cons,e]
theorem valV_neg {p:κ×V}{r:List (κ×V)}{k:κ}(e:¬p.1=k):valV (p :: r) k=valV r k:=by simp [valV,List.find?_cons,e]
theorem valV_any (k:κ):∀kvs:List (κ×V),(kvs.any fun kv=>decide (kv.1=k))=(valV kvs k).isSome
 | []=>rfl
 | p :: r=>by
  rw [List.any_cons]
  by_cases e:p.1=k
  ·simp only [valV_pos e,decide_eq_true e,Bool.true_or,Option.isSome_some]
  ·rw [valV_neg e,decide_eq_false e,Bool.false_or];exact valV_any k r
theorem RelO.isSome_eq {o:Option V}{u:Option Value}(r:RelO o u):o.isSome=u.isSome:=by
 cases o with
 | none=>cases u with
  | none=>rfl
  | some _=>exact (show False from r).elim
 | some _=>cases u with
  | none=>exact (show False from r).elim
  | some _=>rfl
theorem RelO.getD {o:Option V}{u:Option Value}{d:V}{d':Value}(r:RelO o u)(rd:RelV d d'):RelV (o.getD d) (u.getD d'):=by
 cases o with
 | none=>cases u with
  | none=>exact rd
  | some _=>exact (show False from r).elim
 | some _=>cases u with
  | none=>exact (show False from r).elim
  | some _=>exact r
theorem KV.val {kvs:List (κ×V)}{vs:List (κ×Value)}(r:KV kvs vs)(k:κ):RelO (valV kvs k) (valueAt vs k):=by
 unfold KV at r
 induction r with
 | nil=>exact True.intro
 | @cons p q ps qs h t ih=>
  obtain ⟨h1,h2⟩:=h
  by_cases e:p.1=k
  ·have e':q.1=k:=h1.symm.trans e
   have b:valueAt (q :: qs) k=some q.2:=by simp [valueAt,List.find?_cons,e']
   rw [valV_pos e,b];exact h2
  ·have e':¬q.1=k:=fun z=>e (h1.trans z)
   have b:valueAt (q :: qs) k=valueAt qs k:=by simp [valueAt,List.find?_cons,e']
   rw [valV_neg e,b];exact ih
theorem KV.any {kvs:List (κ×V)}{vs:List (κ×Value)}(r:KV kvs vs)(k:κ):(kvs.any fun kv=>decide (kv.1=k))=vs.any fun kv=>decide (kv.1=k):=by
 unfold KV at r
 induction r with
 | nil=>rfl
 | cons h t ih=>rw [List.any_cons,List.any_cons,ih,h.1]
theorem KV.repl {kvs:List (κ×V)}{vs:List (κ×Value)}(r:KV kvs vs)(k:κ){y:V}{u:Value}(ry:RelV y u):
  KV (kvs.map fun kv=>if kv.1=k then (kv.1,y) else kv) (vs.map fun kv=>if kv.1=k then (kv.1,u) else kv):=by
 unfold KV at r ⊢
 induction r with
 | nil=>exact .nil
 | @cons p q ps qs h t ih=>
  rw [List.map_cons,List.map_cons]
  refine .cons ?_ ih
  obtain ⟨h1,h2⟩:=h
  by_cases e:p.1=k
  ·rw [if_pos e,if_pos (h1.symm.trans e)];exact ⟨h1,ry⟩
  ·rw [if_neg e,if_neg (fun z=>e (h1.trans z))];exact ⟨h1,h2⟩
theorem KV.put {kvs:List (κ×V)}{vs:List (κ×Value)}(r:KV kvs vs)(k:κ){y:V}{u:Value}(ry:RelV y u):KV (putK kvs k y) (stored vs k u):=by
 unfold putK stored
 rw [r.any k]
 by_cases e:(vs.any fun kv=>decide (kv.1=k))=true
 ·rw [if_pos e,if_pos e];exact r.repl k ry
 ·rw [if_neg e,if_neg e];exact Paired.snoc r ⟨rfl,ry⟩
theorem KV.length {kvs:List (κ×V)}{vs:List (κ×Value)}(r:KV kvs vs):kvs.length=vs.length:=Paired.length r
end
noncomputable abbrev KT (H:Hp):List (List Key×V)→List (List Key×Addr×Value)→Prop:=Paired fun p q=>p.1=q.1∧H q.2.1=some (.tup (p.1.map kV))∧RelV p.2 q.2.2
theorem KT.val {H:Hp}{kvs:List (List Key×V)}{xs:List (List Key×Addr×Value)}(r:KT H kvs xs)(k:List Key):RelO (valV kvs k) ((atKey xs k).map (·.2)):=by
 induction r with
 | nil=>exact True.intro
 | @cons p q ps qs h t ih=>
  obtain ⟨h1,_,h2⟩:=h
  by_cases e:p.1=k
  ·have e':q.1=k:=h1.symm.trans e
   have b:atKey (q :: qs) k=some q.2:=by simp [atKey,List.find?_cons,e']
   rw [valV_pos e,b];exact h2
  ·have e':¬q.1=k:=fun z=>e (h1.trans z)
   have b:atKey (q :: qs) k=atKey qs k:=by simp [atKey,List.find?_cons,e']
   rw [valV_neg e,b];exact ih
theorem KT.repl {H:Hp}{kvs:List (List Key×V)}{xs:List (List Key×Addr×Value)}(r:KT H kvs xs)(k:List Key){y:V}{u:Value}(ry:RelV y u):
  KT H (kvs.map fun kv=>if kv.1=k then (kv.1,y) else kv) (xs.map (putAt k u)):=by
 induction r with
 | nil=>exact .nil
 | @cons p q ps qs h t ih=>
  rw [List.map_cons,List.map_cons]
  refine .cons ?_ ih
  obtain ⟨h1,h2,h3⟩:=h
  unfold putAt
  by_cases e:p.1=k
  ·rw [if_pos e,if_pos (h1.symm.trans e)];exact ⟨h1,h2,ry⟩
  ·rw [if_neg e,if_neg (fun z=>e (h1.trans z))];exact ⟨h1,h2,h3⟩
theorem KT.put {H:Hp}{kvs:List (List Key×V)}{xs:List (List Key×Addr×Value)}(r:KT H kvs xs)(k:List Key){b:Addr}{y:V}{u:Value}(hb:H b=some (.tup (k.map kV)))(ry:RelV y u):
  KT H (putK kvs k y) (storedH xs k b u):=by
 have e:(kvs.any fun kv=>decide (kv.1=k))=(atKey xs k).isSome:=by
  rw [valV_any,(r.val k).isSome_eq,Option.isSome_map]
 unfold putK storedH
 rw [e]
 by_cases q:(atKey xs k).isSome=true
 ·rw [if_pos q,if_pos q];exact r.repl k ry
 ·rw [if_neg q,if_neg q];exact Paired.snoc r ⟨rfl,hb,ry⟩
theorem KT.keeps {H H':Hp}{kvs:List (List Key×V)}{xs:List (List Key×Addr×Value)}(r:KT H kvs xs)(ht:∀b ys,H b=some (.tup ys)→H' b=some (.tup ys)):KT H' kvs xs:=
 Paired.mapP r fun _ _ z=>⟨z.1,ht _ _ z.2.1,z.2.2⟩
section
variable {P:Program}{w:World}{H:Hp}{h:Heap}{a:Addr}
end
noncomputable def DGet (H:Hp) (a:Addr) (y:V) (r:Option V):Prop:=
 (∃kvs k,Rd H a (.dK kvs)∧y=kV k∧r=valV kvs k)∨∃kvs k b,Rd H a (.dT kvs)∧y= .ref b∧H b=some (.tup (k.map kV))∧r=valV kvs k
noncomputable def DPut (H:Hp) (a:Addr) (y v:V) (H':Hp):Prop:=
 (∃kvs k,H a=some (.dK kvs)∧y=kV k∧kvs.length < sizeLine∧H'=upd H a (.dK (putK kvs k v)))∨
 ∃kvs k b,H a=some (.dT kvs)∧y= .ref b∧H b=some (.tup (k.map kV))∧kvs.length < sizeLine∧H'=upd H a (.dT (putK kvs k v))
theorem DGet.k {H:Hp}{a:Addr}{kvs:List (Key×V)}{k:Key}(e:H a=some (.dK kvs)):DGet H a (kV k) (valV kvs k):=.inl ⟨kvs,k,.inl e,rfl,rfl⟩
theorem DGet.t {H:Hp}{a b:Addr}{kvs:List (List Key×V)}{k:List Key}(e:H a=some (.dT kvs))(eb:H b=some (.tup (k.map kV))):DGet H a (.ref b) (valV kvs k):=.inr ⟨kvs,k,b,.inl e,rfl,eb,rfl⟩
theorem DPut.k {H:Hp}{a:Addr}{kvs:List (Key×V)}{k:Key}{v:V}(e:H a=some (.dK kvs))(hl:kvs.length < sizeLine):DPut H a (kV k) v (upd H a (.dK (putK kvs k v))):=.inl ⟨kvs,k,e,rfl,hl,rfl⟩
theorem DPut.t {H:Hp}{a b:Addr}{kvs:List (List Key×V)}{k:List Key}{v:V}(e:H a=some (.dT kvs))(eb:H b=some (.tup (k.map kV)))(hl:kvs.length < sizeLine):
  DPut H a (.ref b) v (upd H a (.dT (putK kvs k v))):=.inr ⟨kvs,k,b,e,rfl,eb,hl,rfl⟩
section
variable {X:Cx}{pins:List (Addr×Obj)}{σ:St}{H:Hp}{s:Shared}{a:Addr}{y v:V}{u r:Value}{o:Option V}{A:Around}{E:Value→Shared→Prop}
end
section
variable {X:Cx}{pins:List (Addr×Obj)}{σ:St}{H:Hp}{s:Shared}{a:Addr}{kvs:List (Key×V)}{k:Key}{u:Value}{A:Around}{E:Value→Shared→Prop}
end
section
variable {X:Cx}{o i e value:Expr}{pos pos' tpos:Pos}{td ty tv:TE}
end
section
variable {X:Cx}{pos:Pos}
end
end L2
set_option maxHeartbeats 1000000
namespace Z
open PySem PySem.Spec PyProof.Rows L2
theorem obs {α β:Type}{o:Option α}{k:α→Option β}{y:β}(h:o.bind k=some y):∃a,o=some a∧k a=some y:=Option.bind_eq_some_iff.mp h
theorem oms {α β:Type}{o:Option α}{k:α→β}{y:β}(h:o.map k=some y):∃a,o=some a∧k a=y:=Option.map_eq_some_iff.mp h
set_option genInjectivity true in
inductive D where
 | non | bl (b:Bool) | int (i:Int) | str (x:Str) | tup (xs:List D) | lst (xs:List D) | dT (ks:List (List Key)) (xs:List D) | dK (ks:List Key) (xs:List D) | exn (C:Addr)
set_option genInjectivity true in
inductive W where
 | v (d:D) | o (d:D) | l (d:D) | r (i:Nat)
noncomputable abbrev Ev:=List (Option W)
noncomputable abbrev Av:=Addr→Prop
noncomputable def ExcAt (a C:Addr) (h:Heap):Prop:=∃o vs,h.get? a=some o∧o.cls= .ref C∧o.data= .fields vs
noncomputable def Mu:HO→Prop
 | .lst _=>True
 | .dT _=>True
 | .dK _=>True
 | _=>False
noncomputable abbrev Emp:Hp:=fun _=>none
mutual
noncomputable def Den (K:PySem.W.Frag) (A:Av) (H:Hp):D→V→Prop
 | .non,v=>v= .non
 | .bl b,v=>v= .bl b
 | .int i,v=>v= .int i
 | .str x,v=>v= .str x
 | .tup xs,v=>∃a vs,v= .ref a∧SqT K H a vs∧DenL K A H xs vs
 | .lst xs,v=>∃a vs,v= .ref a∧((H a=some (.lst vs)∧¬A a)∨(∃o,H a=some (.frz o (.lst vs)))∨SqL K Emp a vs)∧DenL K A H xs vs
 | .dT ks xs,v=>∃a vs,v= .ref a∧(H a=some (.dT (ks.zip vs))∧¬A a)∧ks.length=xs.length∧DenL K A H xs vs
 | .dK ks xs,v=>∃a vs,v= .ref a∧(H a=some (.dK (ks.zip vs))∧¬A a)∧ks.length=xs.length∧DenL K A H xs vs
 | .exn C,v=>∃a,v= .ref a∧H a=some (.ext (ExcAt a C))
noncomputable def DenL (K:PySem.W.Frag) (A:Av) (H:Hp):List D→List V→Prop
 | [],vs=>vs=[]
 | d :: ds,vs=>∃v r,vs=v :: r∧Den K A H d v∧DenL K A H ds r
end
section
variable {K:PySem.W.Frag}{A A' M:Av}{H H':Hp}
structure Go (A A' M:Av) (H H':Hp):Prop where
 k:∀b o,H b=some o→¬M b→H' b=some o
 m:∀b,M b→A b∧∃u,H b=some u∧Mu u
 n:∀b,A' b→A b∨H b=none
theorem Go.not (g:Go A A' M H H'){b:Addr}{u:HO}(e:H b=some u)(n:¬Mu u):H' b=some u:=g.k b u e fun z=>by
 obtain ⟨_,u',e',m⟩:=g.m b z;rw [e] at e';cases e';exact n m
theorem Go.lone (g:Go A A' M H H'){b:Addr}{u:HO}(h:H b=some u∧¬A b):H' b=some u∧¬A' b:=
 ⟨g.k b u h.1 fun z=>h.2 (g.m b z).1,fun z=>(g.n b z).elim h.2 fun z=>by rw [h.1] at z;cases z⟩
mutual
theorem den_go (g:Go A A' M H H'):∀(d:D) (v:V),Den K A H d v→Den K A' H' d v
 | .non,v,h=>by rw [Den] at h ⊢;exact h
 | .bl b,v,h=>by rw [Den] at h ⊢;exact h
 | .int i,v,h=>by rw [Den] at h ⊢;exact h
 | .str x,v,h=>by rw [Den] at h ⊢;exact h
 | .tup xs,v,h=>by
  rw [Den] at h ⊢
  obtain ⟨a,vs,e,q,l⟩:=h
  refine ⟨a,vs,e,?_,denL_go g xs vs l⟩
  rcases q with (q | ⟨o,q⟩) | q
  ·exact .inl (.inl (g.not q id))
  ·exact .inl (.inr ⟨o,g.not q id⟩)
  ·exact .inr q
 | .lst xs,v,h=>by
  rw [Den] at h ⊢
  obtain ⟨a,vs,e,q,l⟩:=h
  refine ⟨a,vs,e,?_,denL_go g xs vs l⟩
  rcases q with q | ⟨o,q⟩ | q
  ·exact .inl (g.lone q)
  ·exact .inr (.inl ⟨o,g.not q id⟩)
  ·exact .inr (.inr q)
 | .dT ks xs,v,h=>by
  rw [Den] at h ⊢
  obtain ⟨a,vs,e,q,hl,l⟩:=h
  exact ⟨a,vs,e,g.lone q,hl,denL_go g xs vs l⟩
 | .dK ks xs,v,h=>by
  rw [Den] at h ⊢
  obtain ⟨a,vs,e,q,hl,l⟩:=h
  exact ⟨a,vs,e,g.lone q,hl,denL_go g xs vs l⟩
 | .exn C,v,h=>by
  rw [Den] at h ⊢
  obtain ⟨a,e,q⟩:=h
  exact ⟨a,e,g.not q id⟩
theorem denL_go (g:Go A A' M H H'):∀(ds:List D) (vs:List V),DenL K A H ds vs→DenL K A' H' ds vs
 | [],vs,h=>by rw [DenL] at h ⊢;exact h
 | d :: ds,vs,h=>by
  rw [DenL] at h ⊢
  obtain ⟨v,r,e,q,l⟩:=h
  exact ⟨v,r,e,den_go g d v q,denL_go g ds r l⟩
end
theorem go_same (s:Same H H'):Go A A (fun _=>False) H H':=⟨fun b o e _=>s b o e,fun _ z=>z.elim,fun _ z=>.inl z⟩
theorem go_av (h:∀b,A' b→A b):Go A A' (fun _=>False) H H:=⟨fun _ _ e _=>e,fun _ z=>z.elim,fun b z=>.inl (h b z)⟩
theorem den_same (s:Same H H'){d:D}{v:V}(h:Den K A H d v):Den K A H' d v:=den_go (go_same s) d v h
theorem denL_same (s:Same H H'){d:List D}{v:List V}(h:DenL K A H d v):DenL K A H' d v:=denL_go (go_same s) d v h
theorem denL_cons {d:D}{ds:List D}{v:V}{vs:List V}(h:Den K A H d v)(t:DenL K A H ds vs):DenL K A H (d :: ds) (v :: vs):=by rw [DenL];exact ⟨v,vs,rfl,h,t⟩
theorem denL_nil:DenL K A H [] []:=by rw [DenL]
theorem denL_append:∀{ds es:List D} {vs ws:List V},DenL K A H ds vs→DenL K A H es ws→DenL K A H (ds ++ es) (vs ++ ws)
 | [],_,_,_,h,t=>by rw [DenL] at h;subst h;exact t
 | d :: ds,_,_,_,h,t=>by
  rw [DenL] at h
  obtain ⟨v,r,rfl,q,l⟩:=h
  exact denL_cons q (denL_append l t)
theorem denL_length:∀{ds:List D} {vs:List V},DenL K A H ds vs→ds.length=vs.length
 | [],_,h=>by rw [DenL] at h;subst h;rfl
 | d :: ds,_,h=>by
  rw [DenL] at h
  obtain ⟨v,r,rfl,q,l⟩:=h
  rw [List.length_cons,List.length_cons,denL_length l]
theorem denL_get:∀{ds:List D} {vs:List V} {i:Nat} {d:D},DenL K A H ds vs→ds[i]? =some d→∃v,vs[i]? =some v∧Den K A H d v
 | [],_,_,_,_,e=>by simp at e
 | d :: ds,_,0,_,h,e=>by
  rw [DenL] at h
  obtain ⟨v,r,rfl,q,l⟩:=h
  simp at e;subst e
  exact ⟨v,rfl,q⟩
 | d :: ds,_,i + 1,x,h,e=>by
  rw [DenL] at h
  obtain ⟨v,r,rfl,q,l⟩:=h
  obtain ⟨u,h1,h2⟩:=denL_get (i:=i) (d:=x) l (by simpa using e)
  exact ⟨u,by simpa using h1,h2⟩
theorem denL_set {d:D}{v:V}(hd:Den K A H d v):∀{ds:List D} {vs:List V} (i:Nat),DenL K A H ds vs→DenL K A H (ds.set i d) (vs.set i v)
 | [],_,_,h=>by rw [DenL] at h;subst h;exact denL_nil
 | _ :: _,_,0,h=>by
  rw [DenL] at h
  obtain ⟨v,r,rfl,q,l⟩:=h
  exact denL_cons hd l
 | _ :: _,_,i + 1,h=>by
  rw [DenL] at h
  obtain ⟨v,r,rfl,q,l⟩:=h
  exact denL_cons q (denL_set hd i l)
theorem denL_take:∀{ds:List D} {vs:List V} (n:Nat),DenL K A H ds vs→DenL K A H (ds.take n) (vs.take n)
 | [],_,n,h=>by rw [DenL] at h;subst h;simp;exact denL_nil
 | d :: ds,_,0,h=>by simp;exact denL_nil
 | d :: ds,_,n + 1,h=>by
  rw [DenL] at h
  obtain ⟨v,r,rfl,q,l⟩:=h
  exact denL_cons q (denL_take n l)
theorem denL_drop:∀{ds:List D} {vs:List V} (n:Nat),DenL K A H ds vs→DenL K A H (ds.drop n) (vs.drop n)
 | [],_,n,h=>by rw [DenL] at h;subst h;simp;exact denL_nil
 | d :: ds,_,0,h=>h
 | d :: ds,_,n + 1,h=>by
  rw [DenL] at h
  obtain ⟨v,r,rfl,q,l⟩:=h
  exact denL_drop n l
theorem den_int {i:Int}{v:V}:Den K A H (.int i) v↔v= .int i:=by rw [Den]
theorem den_bl {i:Bool}{v:V}:Den K A H (.bl i) v↔v= .bl i:=by rw [Den]
theorem den_non {v:V}:Den K A H .non v↔v= .non:=by rw [Den]
theorem den_str {i:Str}{v:V}:Den K A H (.str i) v↔v= .str i:=by rw [Den]
theorem denL1 {d:D}{vs:List V}(l:DenL K A H [d] vs):∃v,vs=[v]∧Den K A H d v:=by
 rw [DenL] at l;obtain ⟨v,r,rfl,h,l⟩:=l;rw [DenL] at l;subst l;exact ⟨v,rfl,h⟩
theorem denL2 {d e:D}{vs:List V}(l:DenL K A H [d,e] vs):∃v u,vs=[v,u]∧Den K A H d v∧Den K A H e u:=by
 rw [DenL] at l;obtain ⟨v,r,rfl,h,l⟩:=l;obtain ⟨u,rfl,h'⟩:=denL1 l;exact ⟨v,u,rfl,h,h'⟩
end
mutual
noncomputable def lf:D→Bool
 | .tup xs=>lfL xs
 | .lst _=>false
 | .dT _ _=>false
 | .dK _ _=>false
 | _=>true
noncomputable def lfL:List D→Bool
 | []=>true
 | d :: ds=>lf d && lfL ds
end
section
variable {K:PySem.W.Frag}{A A':Av}{H H':Hp}
mutual
theorem den_lf (g:∀b o,H b=some o→¬Mu o→H' b=some o):∀(d:D) (v:V),lf d=true→Den K A H d v→Den K A' H' d v
 | .non,v,_,h=>by rw [Den] at h ⊢;exact h
 | .bl b,v,_,h=>by rw [Den] at h ⊢;exact h
 | .int i,v,_,h=>by rw [Den] at h ⊢;exact h
 | .str x,v,_,h=>by rw [Den] at h ⊢;exact h
 | .tup xs,v,f,h=>by
  rw [Den] at h ⊢
  obtain ⟨a,vs,e,q,l⟩:=h
  refine ⟨a,vs,e,?_,denL_lf g xs vs (by rw [lf] at f;exact f) l⟩
  rcases q with (q | ⟨o,q⟩) | q
  ·exact .inl (.inl (g _ _ q id))
  ·exact .inl (.inr ⟨o,g _ _ q id⟩)
  ·exact .inr q
 | .lst xs,v,f,h=>by rw [lf] at f;cases f
 | .dT _ xs,v,f,h=>by rw [lf] at f;cases f
 | .dK _ xs,v,f,h=>by rw [lf] at f;cases f
 | .exn _,v,_,h=>by rw [Den] at h ⊢;obtain ⟨a,e,q⟩:=h;exact ⟨a,e,g _ _ q id⟩
theorem denL_lf (g:∀b o,H b=some o→¬Mu o→H' b=some o):∀(d:List D) (v:List V),lfL d=true→DenL K A H d v→DenL K A' H' d v
 | [],v,_,h=>by rw [DenL] at h ⊢;exact h
 | d :: ds,v,f,h=>by
  rw [lfL,Bool.and_eq_true] at f
  rw [DenL] at h ⊢
  obtain ⟨u,r,e,q,l⟩:=h
  exact ⟨u,r,e,den_lf g d u f.1 q,denL_lf g ds r f.2 l⟩
end
end
noncomputable def Obj (K:PySem.W.Frag) (A:Av) (H:Hp) (a:Addr):D→Prop
 | .lst xs=>∃vs,H a=some (.lst vs)∧DenL K A H xs vs
 | .dT ks xs=>∃vs,H a=some (.dT (ks.zip vs))∧ks.length=xs.length∧DenL K A H xs vs
 | .dK ks xs=>∃vs,H a=some (.dK (ks.zip vs))∧ks.length=xs.length∧DenL K A H xs vs
 | _=>False
noncomputable def DenR (K:PySem.W.Frag) (A:Av) (H:Hp):D→V→Prop
 | .lst xs,v=>∃a vs,v= .ref a∧SqL K H a vs∧DenL K A H xs vs
 | .dT ks xs,v=>∃a vs,v= .ref a∧H a=some (.dT (ks.zip vs))∧ks.length=xs.length∧DenL K A H xs vs
 | .dK ks xs,v=>∃a vs,v= .ref a∧H a=some (.dK (ks.zip vs))∧ks.length=xs.length∧DenL K A H xs vs
 | d,v=>Den K A H d v
section
variable {K:PySem.W.Frag}{A A' M:Av}{H H':Hp}{d:D}{v:V}{a:Addr}
theorem obj_go (g:Go A A' M H H')(hk:H' a=H a)(h:Obj K A H a d):Obj K A' H' a d:=by
 cases d with
 | lst xs=>obtain ⟨vs,e,l⟩:=h;exact ⟨vs,hk.trans e,denL_go g _ _ l⟩
 | dT ks xs=>obtain ⟨vs,e,hl,l⟩:=h;exact ⟨vs,hk.trans e,hl,denL_go g _ _ l⟩
 | dK ks xs=>obtain ⟨vs,e,hl,l⟩:=h;exact ⟨vs,hk.trans e,hl,denL_go g _ _ l⟩
 | _=>exact h
theorem obj_mu (h:Obj K A H a d):∃u,H a=some u∧Mu u:=by
 cases d with
 | lst xs=>obtain ⟨vs,e,l⟩:=h;exact ⟨_,e,trivial⟩
 | dT ks xs=>obtain ⟨vs,e,hl,l⟩:=h;exact ⟨_,e,trivial⟩
 | dK ks xs=>obtain ⟨vs,e,hl,l⟩:=h;exact ⟨_,e,trivial⟩
 | _=>exact h.elim
theorem obj_den (h:Obj K A H a d)(n:¬A a):Den K A H d (.ref a):=by
 cases d with
 | lst xs=>obtain ⟨vs,e,l⟩:=h;rw [Den];exact ⟨a,vs,rfl,.inl ⟨e,n⟩,l⟩
 | dT ks xs=>obtain ⟨vs,e,hl,l⟩:=h;rw [Den];exact ⟨a,vs,rfl,⟨e,n⟩,hl,l⟩
 | dK ks xs=>obtain ⟨vs,e,hl,l⟩:=h;rw [Den];exact ⟨a,vs,rfl,⟨e,n⟩,hl,l⟩
 | _=>exact h.elim
theorem obj_r (h:Obj K A H a d):DenR K A H d (.ref a):=by
 cases d with
 | lst xs=>obtain ⟨vs,e,l⟩:=h;exact ⟨a,vs,rfl,.inl (.inl e),l⟩
 | dT ks xs=>obtain ⟨vs,e,hl,l⟩:=h;exact ⟨a,vs,rfl,e,hl,l⟩
 | dK ks xs=>obtain ⟨vs,e,hl,l⟩:=h;exact ⟨a,vs,rfl,e,hl,l⟩
 | _=>exact h.elim
theorem den_r (h:Den K A H d v):DenR K A H d v:=by
 cases d with
 | lst xs=>
  rw [Den] at h
  obtain ⟨a,vs,e,q,l⟩:=h
  refine ⟨a,vs,e,?_,l⟩
  rcases q with q | ⟨o,q⟩ | (q | ⟨o,q⟩) | q
  ·exact .inl (.inl q.1)
  ·exact .inl (.inr ⟨o,q⟩)
  ·cases q
  ·cases q
  ·exact .inr q
 | dT ks xs=>rw [Den] at h;obtain ⟨a,vs,e,q,l⟩:=h;exact ⟨a,vs,e,q.1,l⟩
 | dK ks xs=>rw [Den] at h;obtain ⟨a,vs,e,q,l⟩:=h;exact ⟨a,vs,e,q.1,l⟩
 | _=>exact h
end
end Z
set_option maxHeartbeats 1000000
namespace Z
open PySem PySem.Spec PyProof.Rows L2
noncomputable def W.own:W→Option D
 | .o d=>some d
 | .l d=>some d
 | _=>none
noncomputable def Ow (ρ:Ev) (σ:L2.St):Av:=fun b=>∃(i:Nat) (w:W) (d:D),ρ[i]? =some (some w)∧w.own=some d∧σ[i]? =some (some (V.ref b))
noncomputable abbrev AvO (O:Av) (ρ:Ev) (σ:L2.St):Av:=fun b=>O b∨Ow ρ σ b
noncomputable def SlotOk (K:PySem.W.Frag) (A:Av) (H:Hp):W→V→Prop
 | .v d,v=>Den K A H d v
 | .o d,v=>∃a,v= .ref a∧Obj K A H a d
 | .l d,v=>∃a,v= .ref a∧Obj K A H a d
 | .r _,_=>False
structure Rep (X:Cx) (P:List (D×V)) (O:Av) (L:List (Nat×Addr)) (ρ:Ev) (σ:L2.St) (H:Hp):Prop where
 same:∀b o,X.H₀ b=some o→(∀i,(i,b)∉L)→H b=some o
 amb:∀b,O b→(∃o,X.H₀ b=some o)∧∀i,(i,b)∉L
 len:ρ.length=σ.length
 slot:∀(i:Nat) (w:W),ρ[i]? =some (some w)→∃v,σ[i]? =some (some v)∧SlotOk X.K (AvO O ρ σ) H w v
 inj:∀(i j:Nat) (w w':W) (d d':D) (b:Addr),ρ[i]? =some (some w)→w.own=some d→σ[i]? =some (some (.ref b))→ρ[j]? =some (some w')→w'.own=some d'→σ[j]? =some (some (.ref b))→i=j
 new:∀(i:Nat) (d:D) (b:Addr),ρ[i]? =some (some (.o d))→σ[i]? =some (some (.ref b))→X.H₀ b=none
 lnt:∀(i:Nat) (d:D),ρ[i]? =some (some (.l d))→∃b,σ[i]? =some (some (.ref b))∧(i,b)∈L
 lnd:∀(i:Nat) (b:Addr),(i,b)∈L→∃d,ρ[i]? =some (some (.l d))∧σ[i]? =some (some (.ref b))
 prot:∀p∈P,Den X.K (AvO O ρ σ) H p.1 p.2
section
variable {X:Cx}{P:List (D×V)}{O:Av}{L:List (Nat×Addr)}{ρ:Ev}{σ:L2.St}{H H':Hp}
theorem slotOk_own {K:PySem.W.Frag}{A:Av}{H:Hp}{w:W}{d:D}{v:V}(h:SlotOk K A H w v)(e:w.own=some d):∃a,v= .ref a∧Obj K A H a d:=by
 cases w <;> simp only [W.own] at e <;> first | (cases e;exact h) | cases e
theorem Rep.obj (r:Rep X P O L ρ σ H){i:Nat}{w:W}{d:D}(e:ρ[i]? =some (some w))(ew:w.own=some d):∃a,σ[i]? =some (some (.ref a))∧Obj X.K (AvO O ρ σ) H a d:=by
 obtain ⟨v,h1,h2⟩:=r.slot i w e
 obtain ⟨a,rfl,h3⟩:=slotOk_own h2 ew
 exact ⟨a,h1,h3⟩
theorem Rep.owMu (r:Rep X P O L ρ σ H){b:Addr}(z:Ow ρ σ b):∃u,H b=some u∧Mu u:=by
 obtain ⟨i,w,d,e1,e2,e3⟩:=z
 obtain ⟨a,h1,h2⟩:=r.obj e1 e2
 rw [e3] at h1;cases h1
 exact obj_mu h2
theorem Rep.ambN (r:Rep X P O L ρ σ H){b:Addr}(z:O b):¬Ow ρ σ b:=fun ⟨i,w,d,e1,e2,e3⟩=>by
 obtain ⟨⟨o,h0⟩,hl⟩:=r.amb b z
 cases w with
 | o d'=>have:=r.new i d' b e1 e3;rw [h0] at this;cases this
 | l d'=>obtain ⟨c,h1,h2⟩:=r.lnt i d' e1;rw [e3] at h1;cases h1;exact hl i h2
 | _=>cases e2
theorem Rep.there (r:Rep X P O L ρ σ H){b:Addr}(z:AvO O ρ σ b):∃o,H b=some o:=by
 rcases z with z | z
 ·obtain ⟨⟨o,h0⟩,hl⟩:=r.amb b z;exact ⟨o,r.same b o h0 hl⟩
 ·obtain ⟨u,e,_⟩:=r.owMu z;exact ⟨u,e⟩
theorem Rep.fresh (r:Rep X P O L ρ σ H){b:Addr}(n:H b=none):¬AvO O ρ σ b:=fun z=>by obtain ⟨o,e⟩:=r.there z;rw [n] at e;cases e
theorem Rep.fresh0 (r:Rep X P O L ρ σ H){b:Addr}(n:H b=none):X.H₀ b=none:=by
 cases q:X.H₀ b with
 | none=>rfl
 | some o=>
  have:H b=some o:=r.same b o q fun i e=>by
   obtain ⟨d,h1,h2⟩:=r.lnd i b e
   obtain ⟨a,h3,h4⟩:=r.obj h1 rfl
   rw [h2] at h3;cases h3
   obtain ⟨u,e,_⟩:=obj_mu h4
   rw [n] at e;cases e
  rw [n] at this;cases this
theorem slotOk_go {K:PySem.W.Frag}{A A' M:Av}{H H':Hp}(g:Go A A' M H H'){w:W}{v:V}(hk:∀a d,w.own=some d→v= .ref a→H' a=H a)(h:SlotOk K A H w v):SlotOk K A' H' w v:=by
 cases w with
 | v d=>exact den_go g _ _ h
 | o d=>obtain ⟨a,e,q⟩:=h;exact ⟨a,e,obj_go g (hk a d rfl e) q⟩
 | l d=>obtain ⟨a,e,q⟩:=h;exact ⟨a,e,obj_go g (hk a d rfl e) q⟩
 | r i=>exact h
theorem Rep.grow (r:Rep X P O L ρ σ H)(s:Same H H'):Rep X P O L ρ σ H' where
 same:=fun b o e hl=>s b o (r.same b o e hl)
 amb:=r.amb
 len:=r.len
 slot:=fun i w e=>by
  obtain ⟨v,h1,h2⟩:=r.slot i w e
  refine ⟨v,h1,slotOk_go (go_same s) (fun a d ew ev=>?_) h2⟩
  subst ev
  obtain ⟨b,h3,h4⟩:=r.obj e ew
  rw [h1] at h3;cases h3
  obtain ⟨u,eu,_⟩:=obj_mu h4
  rw [eu,s _ _ eu]
 inj:=r.inj
 new:=r.new
 lnt:=r.lnt
 lnd:=r.lnd
 prot:=fun p hp=>den_same s (r.prot p hp)
theorem Rep.more {p:D×V}(r:Rep X P O L ρ σ H)(h:Den X.K (AvO O ρ σ) H p.1 p.2):Rep X (p :: P) O L ρ σ H:=
 ⟨r.same,r.amb,r.len,r.slot,r.inj,r.new,r.lnt,r.lnd,fun q hq=>(List.mem_cons.mp hq).elim (fun e=>by rw [e];exact h) (r.prot q)⟩
theorem Rep.less {p:D×V}(r:Rep X (p :: P) O L ρ σ H):Rep X P O L ρ σ H:=
 ⟨r.same,r.amb,r.len,r.slot,r.inj,r.new,r.lnt,r.lnd,fun q hq=>r.prot q (List.mem_cons_of_mem _ hq)⟩
theorem Rep.head {p:D×V}(r:Rep X (p :: P) O L ρ σ H):Den X.K (AvO O ρ σ) H p.1 p.2:=r.prot p List.mem_cons_self
theorem set_at {α:Type}{l:List α}{i j:Nat}{x y:α}(e:(l.set i x)[j]? =some y):(j=i∧y=x∧i < l.length)∨(j≠i∧l[j]? =some y):=by
 by_cases q:i=j
 ·subst q
  rw [List.getElem?_set,if_pos rfl] at e
  split at e
  ·cases e;rename_i h;exact .inl ⟨rfl,rfl,h⟩
  ·cases e
 ·rw [List.getElem?_set_ne q] at e;exact .inr ⟨Ne.symm q,e⟩
theorem set_here {α:Type}{l:List α}{i:Nat}{x:α}(h:i < l.length):(l.set i x)[i]? =some x:=by rw [List.getElem?_set,if_pos rfl,if_pos h]
noncomputable def freeSlot (ρ:Ev) (i:Nat):Bool:=match ρ[i]? with
 | some (some (.l _))=>false
 | _=>true
theorem Rep.put (r:Rep X P O L ρ σ H){i:Nat}{d:D}{v:V}(hf:freeSlot ρ i=true)(h:Den X.K (AvO O ρ σ) H d v):Rep X P O L (ρ.set i (some (.v d))) (σ.set i (some v)) H:=by
 have sub:∀b,AvO O (ρ.set i (some (.v d))) (σ.set i (some v)) b→AvO O ρ σ b:=fun b z=>by
  rcases z with z | ⟨j,w,c,e1,e2,e3⟩
  ·exact .inl z
  ·rcases set_at e1 with ⟨rfl,z,_⟩ | ⟨n,e1⟩
   ·cases z;cases e2
   ·rw [List.getElem?_set_ne (Ne.symm n)] at e3;exact .inr ⟨j,w,c,e1,e2,e3⟩
 have g:=go_av (H:=H) sub
 have st:∀{j:Nat} {w:W} {c:D},(ρ.set i (some (.v d)))[j]? =some (some w)→w.own=some c→j≠i∧ρ[j]? =some (some w):=fun {j w c} e1 e2=>by
  rcases set_at e1 with ⟨rfl,z,_⟩ | z
  ·cases z;cases e2
  ·exact z
 refine ⟨r.same,r.amb,by rw [List.length_set,List.length_set];exact r.len,fun j w e=>?_,fun j k w w' c c' b e1 e2 e3 e4 e5 e6=>?_,fun j c b e1 e2=>?_,fun j c e=>?_,fun j b e=>?_,fun p hp=>den_go g _ _ (r.prot p hp)⟩
 ·rcases set_at e with ⟨rfl,z,hl⟩ | ⟨n,e⟩
  ·cases z;exact ⟨v,set_here (by rw [←r.len];exact hl),den_go g _ _ h⟩
  ·obtain ⟨u,h1,h2⟩:=r.slot j w e
   exact ⟨u,by rw [List.getElem?_set_ne (Ne.symm n)];exact h1,slotOk_go g (fun _ _ _ _=>rfl) h2⟩
 ·obtain ⟨n1,e1⟩:=st e1 e2
  obtain ⟨n2,e4⟩:=st e4 e5
  rw [List.getElem?_set_ne (Ne.symm n1)] at e3
  rw [List.getElem?_set_ne (Ne.symm n2)] at e6
  exact r.inj j k w w' c c' b e1 e2 e3 e4 e5 e6
 ·obtain ⟨n1,e1⟩:=st (c:=c) e1 rfl
  rw [List.getElem?_set_ne (Ne.symm n1)] at e2
  exact r.new j c b e1 e2
 ·obtain ⟨n1,e1⟩:=st (c:=c) e rfl
  rw [List.getElem?_set_ne (Ne.symm n1)]
  exact r.lnt j c e1
 ·obtain ⟨c,h1,h2⟩:=r.lnd j b e
  have n:i≠j:=fun z=>by subst z;unfold freeSlot at hf;rw [h1] at hf;cases hf
  exact ⟨c,by rw [List.getElem?_set_ne n];exact h1,by rw [List.getElem?_set_ne n];exact h2⟩
theorem Rep.putO (r:Rep X P O L ρ σ H)(s:Same H H'){i:Nat}{d:D}{a:Addr}(hf:freeSlot ρ i=true)(hn:H a=none)(h:Obj X.K (fun b=>AvO O ρ σ b∨b=a) H' a d):Rep X P O L (ρ.set i (some (.o d))) (σ.set i (some (.ref a))) H':=by
 have nA:=r.fresh hn
 have sub:∀b,AvO O (ρ.set i (some (.o d))) (σ.set i (some (.ref a))) b→AvO O ρ σ b∨b=a:=fun b z=>by
  rcases z with z | ⟨j,w,c,e1,e2,e3⟩
  ·exact .inl (.inl z)
  ·rcases set_at e1 with ⟨rfl,z,hl⟩ | ⟨n,e1⟩
   ·rw [set_here (by rw [←r.len];exact hl)] at e3;cases e3;exact .inr rfl
   ·rw [List.getElem?_set_ne (Ne.symm n)] at e3;exact .inl (.inr ⟨j,w,c,e1,e2,e3⟩)
 have g:Go (AvO O ρ σ) (AvO O (ρ.set i (some (.o d))) (σ.set i (some (.ref a)))) (fun _=>False) H H':=⟨fun b o e _=>s b o e,fun _ z=>z.elim,fun b z=>(sub b z).imp id fun z=>by rw [z];exact hn⟩
 have old:∀{j:Nat} {w:W} {b:Addr},ρ[j]? =some (some w)→σ[j]? =some (some (.ref b))→w.own≠none→b≠a:=fun {j w b} e1 e2 e3 z=>by
  cases q:w.own with
  | none=>exact e3 q
  | some c=>exact nA (.inr ⟨j,w,c,e1,q,by rw [←z];exact e2⟩)
 refine ⟨fun b o e hl=>s b o (r.same b o e hl),r.amb,by rw [List.length_set,List.length_set];exact r.len,fun j w e=>?_,fun j k w w' c c' b e1 e2 e3 e4 e5 e6=>?_,fun j c b e1 e2=>?_,fun j c e=>?_,fun j b e=>?_,fun p hp=>den_go g _ _ (r.prot p hp)⟩
 ·rcases set_at e with ⟨rfl,z,hl⟩ | ⟨n,e⟩
  ·cases z;exact ⟨.ref a,set_here (by rw [←r.len];exact hl),a,rfl,obj_go (go_av sub) rfl h⟩
  ·obtain ⟨u,h1,h2⟩:=r.slot j w e
   refine ⟨u,by rw [List.getElem?_set_ne (Ne.symm n)];exact h1,slotOk_go g (fun b c ec eb=>?_) h2⟩
   subst eb
   obtain ⟨o,eo,_⟩:=r.owMu ⟨j,w,c,e,ec,h1⟩
   rw [eo,s _ _ eo]
 ·rcases set_at e1 with ⟨rfl,z,hl⟩ | ⟨n1,e1⟩
  ·rw [set_here (by rw [←r.len];exact hl)] at e3;cases e3
   rcases set_at e4 with ⟨rfl,_,_⟩ | ⟨n2,e4⟩
   ·rfl
   ·rw [List.getElem?_set_ne (Ne.symm n2)] at e6
    exact absurd rfl (old e4 e6 (by rw [e5];exact nofun))
  ·rw [List.getElem?_set_ne (Ne.symm n1)] at e3
   have f1:=old e1 e3 (by rw [e2];exact nofun)
   rcases set_at e4 with ⟨rfl,_,hl⟩ | ⟨n2,e4⟩
   ·rw [set_here (by rw [←r.len];exact hl)] at e6;cases e6
    exact absurd rfl f1
   ·rw [List.getElem?_set_ne (Ne.symm n2)] at e6
    exact r.inj j k w w' c c' b e1 e2 e3 e4 e5 e6
 ·rcases set_at e1 with ⟨rfl,z,hl⟩ | ⟨n1,e1⟩
  ·rw [set_here (by rw [←r.len];exact hl)] at e2;cases e2;exact r.fresh0 hn
  ·rw [List.getElem?_set_ne (Ne.symm n1)] at e2;exact r.new j c b e1 e2
 ·rcases set_at e with ⟨rfl,z,hl⟩ | ⟨n1,e⟩
  ·cases z
  ·rw [List.getElem?_set_ne (Ne.symm n1)];exact r.lnt j c e
 ·obtain ⟨c,h1,h2⟩:=r.lnd j b e
  have n:i≠j:=fun z=>by subst z;unfold freeSlot at hf;rw [h1] at hf;cases hf
  exact ⟨c,by rw [List.getElem?_set_ne n];exact h1,by rw [List.getElem?_set_ne n];exact h2⟩
noncomputable def setOwn (ρ:Ev) (i:Nat) (d:D):Ev:=match ρ[i]? with
 | some (some (.l _))=>ρ.set i (some (.l d))
 | _=>ρ.set i (some (.o d))
noncomputable def ownAt (ρ:Ev) (i:Nat):Option D:=match ρ[i]? with
 | some (some w)=>w.own
 | _=>none
theorem ownAt_some {ρ:Ev}{i:Nat}{c:D}(e:ownAt ρ i=some c):∃w,ρ[i]? =some (some w)∧w.own=some c:=by
 unfold ownAt at e
 split at e
 ·rename_i w q;exact ⟨w,q,e⟩
 ·cases e
theorem setOwn_get {ρ:Ev}{i:Nat}{c d:D}(e:ownAt ρ i=some c):∃w,w.own=some d∧setOwn ρ i d=ρ.set i (some w)∧((∃x,w= .l x)↔∃x,ρ[i]? =some (some (.l x))):=by
 obtain ⟨w,q,e⟩:=ownAt_some e
 unfold setOwn
 cases w with
 | v d=>cases e
 | r d=>cases e
 | o x=>rw [q];exact ⟨.o d,rfl,rfl,by simp⟩
 | l x=>rw [q];exact ⟨.l d,rfl,rfl,by simp⟩
theorem setOwn_ow {ρ:Ev}{σ:L2.St}{i:Nat}{c d:D}(e:ownAt ρ i=some c)(b:Addr):Ow (setOwn ρ i d) σ b↔Ow ρ σ b:=by
 obtain ⟨w,h1,h2,_⟩:=setOwn_get (d:=d) e
 obtain ⟨w0,q,e0⟩:=ownAt_some e
 rw [h2]
 constructor
 ·rintro ⟨j,w',c',e1,e2,e3⟩
  rcases set_at e1 with ⟨rfl,z,_⟩ | ⟨n,e1⟩
  ·exact ⟨j,w0,c,q,e0,e3⟩
  ·exact ⟨j,w',c',e1,e2,e3⟩
 ·rintro ⟨j,w',c',e1,e2,e3⟩
  by_cases n:j=i
  ·subst n
   exact ⟨j,w,d,set_here (List.getElem?_eq_some_iff.mp q).1,h1,e3⟩
  ·exact ⟨j,w',c',by rw [List.getElem?_set_ne (Ne.symm n)];exact e1,e2,e3⟩
theorem Rep.mut (r:Rep X P O L ρ σ H){i:Nat}{a:Addr}{c d:D}(e:ownAt ρ i=some c)(ea:σ[i]? =some (some (.ref a)))(hk:∀b o,H b=some o→b≠a→H' b=some o)(h:Obj X.K (AvO O ρ σ) H' a d):
  Rep X P O L (setOwn ρ i d) σ H':=by
 obtain ⟨w,h1,h2,h3⟩:=setOwn_get (d:=d) e
 obtain ⟨w0,q,e0⟩:=ownAt_some e
 have av:AvO O (setOwn ρ i d) σ=AvO O ρ σ:=funext fun b=>propext (or_congr Iff.rfl (setOwn_ow e b))
 have ma:Ow ρ σ a:=⟨i,w0,c,q,e0,ea⟩
 have g:Go (AvO O ρ σ) (AvO O ρ σ) (fun b=>b=a) H H':=⟨hk,fun b z=>by rw [z];exact ⟨.inr ma,r.owMu ma⟩,fun b z=>.inl z⟩
 have st:∀{j:Nat} {w':W} {c':D},(setOwn ρ i d)[j]? =some (some w')→w'.own=some c'→∃w'' c'',ρ[j]? =some (some w'')∧w''.own=some c'':=fun {j w' c'} e1 e2=>by
  rw [h2] at e1
  rcases set_at e1 with ⟨rfl,_,_⟩ | ⟨_,e1⟩
  ·exact ⟨w0,c,q,e0⟩
  ·exact ⟨w',c',e1,e2⟩
 refine ⟨fun b o eb hl=>hk b o (r.same b o eb hl) fun z=>?_,r.amb,by rw [h2,List.length_set];exact r.len,fun j w' e'=>?_,fun j k w1 w2 c1 c2 b e1 e2 e3 e4 e5 e6=>?_,fun j c' b e1 e2=>?_,fun j c' e'=>?_,fun j b e'=>?_,fun p hp=>by rw [av];exact den_go g _ _ (r.prot p hp)⟩
 ·subst z
  cases w0 with
  | o x=>have:=r.new i x b q ea;rw [eb] at this;cases this
  | l x=>obtain ⟨c',q1,q2⟩:=r.lnt i x q;rw [ea] at q1;cases q1;exact hl i q2
  | _=>cases e0
 ·rw [av]
  rw [h2] at e'
  rcases set_at e' with ⟨rfl,z,_⟩ | ⟨n,e'⟩
  ·cases z
   refine ⟨.ref a,ea,?_⟩
   cases w with
   | o x=>cases h1;exact ⟨a,rfl,h⟩
   | l x=>cases h1;exact ⟨a,rfl,h⟩
   | _=>cases h1
  ·obtain ⟨u,q1,q2⟩:=r.slot j w' e'
   refine ⟨u,q1,slotOk_go g (fun b c' ec eb=>?_) q2⟩
   subst eb
   have nb:b≠a:=fun z=>n (r.inj j i w' w0 c' c a e' ec (by rw [←z];exact q1) q e0 ea)
   obtain ⟨o,eo,_⟩:=r.owMu ⟨j,w',c',e',ec,q1⟩
   rw [eo,hk _ _ eo nb]
 ·obtain ⟨u1,v1,q1,q2⟩:=st e1 e2
  obtain ⟨u2,v2,q3,q4⟩:=st e4 e5
  exact r.inj j k u1 u2 v1 v2 b q1 q2 e3 q3 q4 e6
 ·rw [h2] at e1
  rcases set_at e1 with ⟨rfl,z,_⟩ | ⟨n,e1⟩
  ·cases z
   cases w0 with
   | o x=>exact r.new j x b q e2
   | l x=>exact absurd (h3.mpr ⟨x,q⟩) (by simp)
   | _=>cases e0
  ·exact r.new j c' b e1 e2
 ·rw [h2] at e'
  rcases set_at e' with ⟨rfl,z,_⟩ | ⟨n,e'⟩
  ·cases z
   obtain ⟨x,qx⟩:=h3.mp ⟨_,rfl⟩
   exact r.lnt j x qx
  ·exact r.lnt j c' e'
 ·obtain ⟨c',q1,q2⟩:=r.lnd j b e'
  by_cases n:j=i
  ·subst n
   obtain ⟨x,rfl⟩:=h3.mpr ⟨c',q1⟩
   exact ⟨x,by rw [h2];exact set_here (List.getElem?_eq_some_iff.mp q).1,q2⟩
  ·exact ⟨c',by rw [h2,List.getElem?_set_ne (Ne.symm n)];exact q1,q2⟩
noncomputable def frzAt (ρ:Ev) (i:Nat):Option Ev:=match ρ[i]? with
 | some (some (.o d))=>some (ρ.set i (some (.v d)))
 | some (some (.v _))=>some ρ
 | _=>none
theorem Rep.frz (r:Rep X P O L ρ σ H){i:Nat}{ρ':Ev}(e:frzAt ρ i=some ρ'):Rep X P O L ρ' σ H∧∀(j:Nat) (w:W) (d:D),ρ'[j]? =some (some w)→w.own=some d→ρ[j]? =some (some w)∧j≠i:=by
 unfold frzAt at e
 split at e
 ·rename_i d q
  cases e
  obtain ⟨a,h1,h2⟩:=r.obj q rfl
  have hl:i < σ.length:=by rw [←r.len];exact (List.getElem?_eq_some_iff.mp q).1
  have es:σ.set i (some (.ref a))=σ:=by
   apply List.ext_getElem?
   intro j
   by_cases z:i=j
   ·subst z;rw [set_here hl,h1]
   ·rw [List.getElem?_set_ne z]
  have hw:¬AvO O (ρ.set i (some (.v d))) σ a:=fun z=>by
   rcases z with z | ⟨j,w,c,e1,e2,e3⟩
   ·exact r.ambN z ⟨i,_,d,q,rfl,h1⟩
   ·rcases set_at e1 with ⟨rfl,z,_⟩ | ⟨n,e1⟩
    ·cases z;cases e2
    ·exact n (r.inj j i w (.o d) c d a e1 e2 e3 q rfl h1)
  have sub:∀b,AvO O (ρ.set i (some (.v d))) σ b→AvO O ρ σ b:=fun b z=>by
   rcases z with z | ⟨j,w,c,e1,e2,e3⟩
   ·exact .inl z
   ·rcases set_at e1 with ⟨rfl,z,_⟩ | ⟨n,e1⟩
    ·cases z;cases e2
    ·exact .inr ⟨j,w,c,e1,e2,e3⟩
  have g:=go_av (H:=H) sub
  refine ⟨⟨r.same,r.amb,by rw [List.length_set];exact r.len,fun j w e=>?_,fun j k w w' c c' b e1 e2 e3 e4 e5 e6=>?_,fun j c b e1 e2=>?_,fun j c e=>?_,fun j b e=>?_,fun p hp=>den_go g _ _ (r.prot p hp)⟩,fun j w c e1 e2=>?_⟩
  ·rcases set_at e with ⟨rfl,z,_⟩ | ⟨n,e⟩
   ·cases z;exact ⟨.ref a,h1,obj_den (obj_go g rfl h2) hw⟩
   ·obtain ⟨u,q1,q2⟩:=r.slot j w e
    exact ⟨u,q1,slotOk_go g (fun _ _ _ _=>rfl) q2⟩
  ·rcases set_at e1 with ⟨rfl,z,_⟩ | ⟨n1,e1⟩
   ·cases z;cases e2
   ·rcases set_at e4 with ⟨rfl,z,_⟩ | ⟨n2,e4⟩
    ·cases z;cases e5
    ·exact r.inj j k w w' c c' b e1 e2 e3 e4 e5 e6
  ·rcases set_at e1 with ⟨rfl,z,_⟩ | ⟨n1,e1⟩
   ·cases z
   ·exact r.new j c b e1 e2
  ·rcases set_at e with ⟨rfl,z,_⟩ | ⟨n1,e⟩
   ·cases z
   ·exact r.lnt j c e
  ·obtain ⟨c,q1,q2⟩:=r.lnd j b e
   have n:i≠j:=fun z=>by subst z;rw [q] at q1;cases q1
   exact ⟨c,by rw [List.getElem?_set_ne n];exact q1,q2⟩
  ·rcases set_at e1 with ⟨rfl,z,_⟩ | ⟨n,e1⟩
   ·cases z;cases e2
   ·exact ⟨e1,n⟩
 ·rename_i d q
  cases e
  exact ⟨r,fun j w c e1 e2=>⟨e1,fun z=>by subst z;rw [q] at e1;cases e1;cases e2⟩⟩
 ·cases e
end
end Z
set_option maxHeartbeats 1000000
namespace Z
open PySem PySem.Spec PyProof.Rows L2
noncomputable abbrev FX:=Ev→Option (W×Ev)
noncomputable abbrev FT:=Ev→Option (Bool×Ev)
noncomputable abbrev FA:=Ev→Option (List W×Ev)
noncomputable def DenW (K:PySem.W.Frag) (A:Av) (σ:L2.St) (H1 H':Hp):W→V→Prop
 | .v d,v=>Den K A H' d v
 | .o d,v=>∃a,v= .ref a∧H1 a=none∧Obj K (fun b=>A b∨b=a) H' a d
 | .r i,v=>σ[i]? =some (some v)
 | .l _,_=>False
noncomputable def DenP (K:PySem.W.Frag) (A:Av) (σ:L2.St) (H:Hp):W→V→Prop
 | .v d,v=>Den K A H d v
 | .r i,v=>σ[i]? =some (some v)
 | _,_=>False
noncomputable def DenA (K:PySem.W.Frag) (A:Av) (σ:L2.St) (H:Hp):List W→List V→Prop
 | [],vs=>vs=[]
 | w :: ws,vs=>∃v r,vs=v :: r∧DenP K A σ H w v∧DenA K A σ H ws r
noncomputable def W.fz:W→W
 | .o d=>.v d
 | w=>w
noncomputable def tX (X:Cx) (f:FX):TE:=fun σ H Q=>∃P O L ρ w ρ',Rep X P O L ρ σ H∧f ρ=some (w,ρ')∧∀v H1 H',Rep X P O L ρ' σ H1→Same H1 H'→DenW X.K (AvO O ρ' σ) σ H1 H' w v→Q v H'
noncomputable def tT (X:Cx) (f:FT):TT:=fun σ H Q=>∃P O L ρ b ρ',Rep X P O L ρ σ H∧f ρ=some (b,ρ')∧∀H',Rep X P O L ρ' σ H'→Q b H'
noncomputable def tA (X:Cx) (f:FA):TA:=fun σ H Q=>∃P O L ρ ws ρ',Rep X P O L ρ σ H∧f ρ=some (ws,ρ')∧∀vs H',Rep X P O L ρ' σ H'→DenA X.K (AvO O ρ' σ) σ H' ws vs→Q vs H'
theorem tXe {X:Cx}{f:FX}{σ:L2.St}{H:Hp}{Q:VK}{C:Prop}(h:tX X f σ H Q)(k:∀P O L ρ w ρ',Rep X P O L ρ σ H→f ρ=some (w,ρ')→(∀v H1 H',Rep X P O L ρ' σ H1→Same H1 H'→DenW X.K (AvO O ρ' σ) σ H1 H' w v→Q v H')→C):C:=by
 obtain ⟨P,O,L,ρ,w,ρ',r,e,q⟩:=h
 exact k P O L ρ w ρ' r e q
theorem tTe {X:Cx}{f:FT}{σ:L2.St}{H:Hp}{Q:Bool→Hp→Prop}{C:Prop}(h:tT X f σ H Q)(k:∀P O L ρ b ρ',Rep X P O L ρ σ H→f ρ=some (b,ρ')→(∀H',Rep X P O L ρ' σ H'→Q b H')→C):C:=by
 obtain ⟨P,O,L,ρ,w,ρ',r,e,q⟩:=h
 exact k P O L ρ w ρ' r e q
theorem tAe {X:Cx}{f:FA}{σ:L2.St}{H:Hp}{Q:List V→Hp→Prop}{C:Prop}(h:tA X f σ H Q)(k:∀P O L ρ ws ρ',Rep X P O L ρ σ H→f ρ=some (ws,ρ')→(∀vs H',Rep X P O L ρ' σ H'→DenA X.K (AvO O ρ' σ) σ H' ws vs→Q vs H')→C):C:=by
 obtain ⟨P,O,L,ρ,w,ρ',r,e,q⟩:=h
 exact k P O L ρ w ρ' r e q
structure QX (X:Cx) (e:Expr) (f:FX):Prop where
 to:PE X e (tX X f)
structure QT (X:Cx) (e:Expr) (f:FT):Prop where
 to:PT X e (tT X f)
structure QW (X:Cx) (e:Expr) (f:FT):Prop where
 to:PW X e (tT X f)
structure QA (X:Cx) (e:List Expr) (f:FA):Prop where
 to:PA X e (tA X f)
theorem PE.weak {X:Cx}{e:Expr}{t u:TE}(h:PE X e t)(w:∀σ H Q,u σ H Q→t σ H Q):PE X e u:=fun pins s σ H Q I q=>h pins s σ H Q I (w σ H Q q)
theorem PT.weak {X:Cx}{e:Expr}{t u:TT}(h:PT X e t)(w:∀σ H Q,u σ H Q→t σ H Q):PT X e u:=fun pins s σ H Q I q=>h pins s σ H Q I (w σ H Q q)
theorem PW.weak {X:Cx}{e:Expr}{t u:TT}(h:PW X e t)(w:∀σ H Q,u σ H Q→t σ H Q):PW X e u:=fun wh pins s σ H Q I q=>h wh pins s σ H Q I (w σ H Q q)
theorem PA.weak {X:Cx}{e:List Expr}{t u:TA}(h:PA X e t)(w:∀σ H Q,u σ H Q→t σ H Q):PA X e u:=fun pos pins s σ H Q I q=>h pos pins s σ H Q I (w σ H Q q)
noncomputable def dr (ρ:Ev):W→Option D
 | .v d=>some d
 | .r i=>match ρ[i]? with
  | some (some (.v d))=>some d
  | some (some w)=>w.own
  | _=>none
 | _=>none
noncomputable def drs (ρ:Ev):List W→Option (List D)
 | []=>some []
 | w :: ws=>(dr ρ w).bind fun d=>(drs ρ ws).map fun ds=>d :: ds
section
variable {X:Cx}{P:List (D×V)}{O:Av}{L:List (Nat×Addr)}{ρ ρ':Ev}{σ:L2.St}{H H1 H':Hp}{w:W}{d:D}{v:V}
theorem DenW.fz (r:Rep X P O L ρ σ H1)(s:Same H1 H')(h:DenW X.K (AvO O ρ σ) σ H1 H' w v):DenP X.K (AvO O ρ σ) σ H' w.fz v:=by
 cases w with
 | v d=>exact h
 | o d=>
  obtain ⟨a,rfl,n,ob⟩:=h
  exact obj_den (obj_go (go_av fun b z=>.inl z) rfl ob) (r.fresh n)
 | r i=>exact h
 | l d=>exact h.elim
theorem DenP.same (s:Same H H'){A:Av}(h:DenP X.K A σ H w v):DenP X.K A σ H' w v:=by
 cases w with
 | v d=>exact den_same s h
 | r i=>exact h
 | _=>exact h.elim
theorem hold (r:Rep X P O L ρ σ H)(h:DenP X.K (AvO O ρ σ) σ H w v):∃P',Rep X P' O L ρ σ H∧∀ρ2 H2,Rep X P' O L ρ2 σ H2→Rep X P O L ρ2 σ H2∧DenP X.K (AvO O ρ2 σ) σ H2 w v:=by
 cases w with
 | v d=>exact ⟨(d,v) :: P,r.more h,fun ρ2 H2 r2=>⟨r2.less,r2.head⟩⟩
 | r i=>exact ⟨P,r,fun ρ2 H2 r2=>⟨r2,h⟩⟩
 | _=>exact h.elim
theorem dr_den (r:Rep X P O L ρ σ H)(e:dr ρ w=some d)(h:DenP X.K (AvO O ρ σ) σ H w v):DenR X.K (AvO O ρ σ) H d v:=by
 cases w with
 | v c=>cases e;exact den_r h
 | r i=>
  rw [dr] at e
  have h:σ[i]? =some (some v):=h
  cases q:ρ[i]? with
  | none=>rw [q] at e;cases e
  | some o=>
   rw [q] at e
   cases o with
   | none=>cases e
   | some w'=>
    cases w' with
    | v c=>
     cases e
     obtain ⟨u,h1,h2⟩:=r.slot i _ q
     rw [h1] at h;cases h
     exact den_r h2
    | _=>
     obtain ⟨a,h1,h2⟩:=r.obj q e
     rw [h1] at h;cases h
     exact obj_r h2
 | _=>cases e
noncomputable def DenRL (K:PySem.W.Frag) (A:Av) (H:Hp):List D→List V→Prop
 | [],vs=>vs=[]
 | d :: ds,vs=>∃v r,vs=v :: r∧DenR K A H d v∧DenRL K A H ds r
theorem drs_den (r:Rep X P O L ρ σ H):∀{ws:List W} {ds:List D} {vs:List V},drs ρ ws=some ds→DenA X.K (AvO O ρ σ) σ H ws vs→DenRL X.K (AvO O ρ σ) H ds vs
 | [],ds,vs,e,h=>by cases e;exact h
 | w :: ws,ds,vs,e,h=>by
  obtain ⟨v,rs,rfl,h1,h2⟩:=h
  rw [drs] at e
  cases e1:dr ρ w with
  | none=>rw [e1] at e;cases e
  | some d=>
   cases e2:drs ρ ws with
   | none=>rw [e1,e2] at e;cases e
   | some dd=>
    rw [e1,e2] at e;cases e
    exact ⟨v,rs,rfl,dr_den r e1 h1,drs_den r e2 h2⟩
end
section
variable {K:PySem.W.Frag}{A:Av}{σ:L2.St}{H H':Hp}
theorem denW_int {i:Int}:DenW K A σ H H' (.v (.int i)) (.int i):=by show Den _ _ _ _ _;rw [Den]
theorem denW_bl {i:Bool}:DenW K A σ H H' (.v (.bl i)) (.bl i):=by show Den _ _ _ _ _;rw [Den]
theorem denW_str {i:Str}:DenW K A σ H H' (.v (.str i)) (.str i):=by show Den _ _ _ _ _;rw [Den]
theorem denW_non:DenW K A σ H H' (.v .non) .non:=by show Den _ _ _ _ _;rw [Den]
end
noncomputable def fVar (i:Nat):FX:=fun ρ=>match ρ[i]? with
 | some (some (.v d))=>some (.v d,ρ)
 | some (some (.r _))=>none
 | some (some _)=>some (.r i,ρ)
 | _=>none
noncomputable def fC (d:D):FX:=fun ρ=>some (.v d,ρ)
section
variable {X:Cx}{a b c e:Expr}{pos:Pos}{f g h:FX}{t u:FT}{fa:FA}{es rest:List Expr}
theorem qx_name (i:Nat){x:Str}(hN:autoParam (X.N[i]? =some x) Zau.a2._auto_1)(hv:autoParam (Vis X.env.scope x) Zau.a5._auto_1)(hd:autoParam ((x == ("__debug__":Str))=false) Zau.a1._auto_1)(hcd:autoParam ((x == ("__classdict__":Str))=false) Zau.a1._auto_1):QX X (.Name x pos) (fVar i):=by
 refine ⟨PE.weak (pe_var hN hv hd hcd) fun σ H Q h0=>tXe h0 fun P O L ρ w ρ' r e q=>?_⟩
 unfold fVar at e
 split at e
 ·rename_i d0 e0
  cases e
  obtain ⟨v,h1,h2⟩:=r.slot i _ e0
  exact ⟨v,h1,q v H H r (Same.refl H) h2⟩
 ·cases e
 ·rename_i w' _ _ e0
  cases e
  obtain ⟨v,h1,h2⟩:=r.slot i _ e0
  exact ⟨v,h1,q v H H r (Same.refl H) h1⟩
 ·cases e
theorem tC_of {d:D}{v:V}(hd:∀A H,Den X.K A H d v):∀σ H Q,tX X (fC d) σ H Q→tC v σ H Q:=fun σ H Q h0=>tXe h0 fun P O L ρ w ρ' r e q=>by cases e;exact q v H H r (Same.refl H) (hd _ H)
theorem qx_int {i:Int}{j:Nat}:QX X (.Constant (.int i) j pos) (fC (.int i)):=⟨PE.weak pe_int (tC_of fun A H=>den_int.mpr rfl)⟩
theorem qx_bl {i:Bool}{j:Nat}:QX X (.Constant (.bool i) j pos) (fC (.bl i)):=⟨PE.weak pe_bl (tC_of fun A H=>den_bl.mpr rfl)⟩
theorem qx_non {j:Nat}:QX X (.Constant .none j pos) (fC .non):=⟨PE.weak pe_non (tC_of fun A H=>den_non.mpr rfl)⟩
theorem qx_str {i:Str}{j:Nat}:QX X (.Constant (.str i) j pos) (fC (.str i)):=⟨PE.weak pe_str (tC_of fun A H=>den_str.mpr rfl)⟩
noncomputable def fBin (op:D→D→Option W) (f g:FX):FX:=fun ρ=>(f ρ).bind fun p=>(g p.2).bind fun q=>(dr q.2 p.1.fz).bind fun x=>(dr q.2 q.1.fz).bind fun y=>(op x y).map fun w=>(w,q.2)
noncomputable def Pr2 (X:Cx) (op:D→D→Option W) (r:R2):Prop:=∀(A:Av) (x y:D) (w:W) (v u:V) (H:Hp) (Q:VK),(∀b,A b→∃o,H b=some o)→op x y=some w→DenR X.K A H x v→DenR X.K A H y u→(∀z H',Same H H'→DenW X.K A [] H H' w z→Q z H')→r v u H Q
theorem DenW.st {K:PySem.W.Frag}{A:Av}{σ:L2.St}{H1 H':Hp}{w:W}{v:V}(h:DenW K A [] H1 H' w v):DenW K A σ H1 H' w v:=by
 cases w with
 | r i=>exact absurd h (by simp [DenW])
 | _=>exact h
theorem bin_weak {r:R2}{op:D→D→Option W}(k:Pr2 X op r):∀σ H Q,tX X (fBin op f g) σ H Q→tOp r (tX X f) (tX X g) σ H Q:=fun σ H Q h0=>tXe h0 fun P O L ρ w ρ' r e q=>by
 unfold fBin at e
 obtain ⟨⟨w1,ρ1⟩,e1,e⟩:=obs e
 dsimp only at e
 refine ⟨P,O,L,ρ,w1,ρ1,r,e1,fun v H1 H1' r1 s1 d1=>?_⟩
 obtain ⟨P',r1',k1⟩:=hold (r1.grow s1) (d1.fz r1 s1)
 obtain ⟨⟨w2,ρ2⟩,e2,e⟩:=obs e
 dsimp only at e
 refine ⟨P',O,L,ρ1,w2,ρ2,r1',e2,fun u H2 H2' r2 s2 d2=>?_⟩
 have d2':=d2.fz r2 s2
 obtain ⟨r3,d1'⟩:=k1 ρ2 H2' (r2.grow s2)
 cases e3:dr ρ2 w1.fz with
 | none=>rw [e3] at e;cases e
 | some x=>
  cases e4:dr ρ2 w2.fz with
  | none=>rw [e3,e4] at e;cases e
  | some y=>
   rw [e3,e4] at e
   simp only [Option.bind_some] at e
   cases e5:op x y with
   | none=>rw [e5] at e;cases e
   | some w'=>
    rw [e5] at e;cases e
    exact k _ x y w v u H2' Q (fun b z=>r3.there z) e5 (dr_den r3 e3 d1') (dr_den r3 e4 d2') fun z H' s d=>q z H2' H' r3 s d.st
theorem qx_bin {op:Operator}{r:R2}{o:D→D→Option W}(ho:OpR X (binaryOp op) r)(k:Pr2 X o r)(ha:QX X a f)(hb:QX X b g):QX X (.BinOp a op b pos) (fBin o f g):=⟨PE.weak (pe_op ho ha.to hb.to) (bin_weak k)⟩
theorem qx_cmp {op:CmpOp}{r:R2}{o:D→D→Option W}(ho:OpR X (compareOp op) r)(k:Pr2 X o r)(ha:QX X a f)(hb:QX X b g)(hm:autoParam (behindInMarks op b=false) Zau.a6._auto_1):QX X (.Compare a [op] [b] pos) (fBin o f g):=⟨PE.weak (pe_cmpR ho ha.to hb.to hm) (bin_weak k)⟩
noncomputable def fTest (f:FX):FT:=fun ρ=>(f ρ).bind fun p=>match p.1 with | .v (.bl k)=>some (k,p.2) | _=>none
theorem fTest_some {f:FX}{ρ ρ':Ev}{k:Bool}(e:fTest f ρ=some (k,ρ')):f ρ=some (.v (.bl k),ρ'):=by
 unfold fTest at e
 cases q:f ρ with
 | none=>rw [q] at e;cases e
 | some p=>
  rw [q] at e
  obtain ⟨w,ρ1⟩:=p
  simp only [Option.bind_some] at e
  split at e
  ·cases e;rfl
  ·cases e
theorem qt_cmp {op:CmpOp}{r:R2}{o:D→D→Option W}(ho:OpR X (compareOp op) r)(k:Pr2 X o r)(ha:QX X a f)(hb:QX X b g)(hm:autoParam (behindInMarks op b=false) Zau.a6._auto_1):QT X (.Compare a [op] [b] pos) (fTest (fBin o f g)):=by
 refine ⟨PT.weak (pt_cmpR ho ha.to hb.to hm) fun σ H Q h0=>tTe h0 fun P O L ρ t ρ' r e q=>?_⟩
 refine bin_weak k σ H _ ⟨P,O,L,ρ,_,ρ',r,fTest_some e,fun v H1 H' r1 s1 d1=>⟨t,?_,q H' (r1.grow s1)⟩⟩
 have d1':Den X.K (AvO O ρ' σ) H' (.bl t) v:=d1
 exact den_bl.mp d1'
noncomputable def big:Nat:=2 ^ 8000
noncomputable def mOk (i j:Int):Prop:=i.natAbs < 2 ^ 64∨j.natAbs < 2 ^ 64∨(i.natAbs < big∧j.natAbs < big)
noncomputable instance (i j:Int):Decidable (mOk i j):=by unfold mOk;infer_instance
theorem mOk.ok {i j:Int}(m:mOk i j):IntMulOk i j:=by
 rcases m with m | m | ⟨m,n⟩
 ·exact .of_left (KE_bits m)
 ·exact .of_right (KE_bits m)
 ·exact .of_bits (Nat.le_trans (KE_bits m) (by decide)) (Nat.le_trans (KE_bits n) (by decide))
where KE_bits {x:Int} {m:Nat} (h:x.natAbs < 2 ^ m):Builtin.Int.intBits x≤m:=intBits_le_iff.mpr h
theorem op_mulB:OpR X (binaryOp .Mult) (rI mOk fun i j=>.int (i * j)):=opI fun _ _ _ _ _ _ _ hc q=>mul_int q hc.ok
noncomputable def dOk (j:Int):Prop:=0 < j∧j.natAbs < big
noncomputable instance (j:Int):Decidable (dOk j):=by unfold dOk;infer_instance
theorem op_divB:OpR X (binaryOp .FloorDiv) (rI (fun _ j=>dOk j) fun i j=>.int (i / j)):=opI fun i j _ _ _ _ _ hc q=>by
 have e:i.fdiv j=i / j:=Int.fdiv_eq_ediv_of_nonneg i (Int.le_of_lt hc.1)
 refine floordiv_int (Int.ne_of_gt hc.1) (by rw [e];exact q) (.inl (PyProof.noPylong_of_log2 ?_))
 by_cases z:j.natAbs=0
 ·rw [z];decide
 ·exact Nat.lt_of_lt_of_le ((Nat.log2_lt z).mpr (show j.natAbs < 2 ^ 8000 from hc.2)) (by decide)
noncomputable def oI (C:Int→Int→Prop) [∀i j,Decidable (C i j)] (g:Int→Int→D):D→D→Option W
 | .int i,.int j=>if C i j then some (.v (g i j)) else none
 | _,_=>none
noncomputable def oI0 (g:Int→Int→D):D→D→Option W
 | .int i,.int j=>some (.v (g i j))
 | _,_=>none
theorem denR_int {K:PySem.W.Frag}{A:Av}{H:Hp}{i:Int}{v:V}(h:DenR K A H (.int i) v):v= .int i:=by
 have h:Den K A H (.int i) v:=h
 exact den_int.mp h
theorem kI {C:Int→Int→Prop} [∀i j,Decidable (C i j)] {g:Int→Int→Int}:Pr2 X (oI C fun i j=>.int (g i j)) (rI C fun i j=>.int (g i j)):=by
 intro A x y w v u H Q _ e hx hy q
 cases x <;> cases y <;> simp only [oI] at e <;> try cases e
 rename_i i j
 split at e
 ·rename_i hc
  cases e
  exact ⟨i,j,denR_int hx,denR_int hy,hc,q _ H (Same.refl H) denW_int⟩
 ·cases e
theorem kI0 {g:Int→Int→Int}:Pr2 X (oI0 fun i j=>.int (g i j)) (rI0 fun i j=>.int (g i j)):=by
 intro A x y w v u H Q _ e hx hy q
 cases x <;> cases y <;> simp only [oI0] at e <;> cases e
 rename_i i j
 exact ⟨i,j,denR_int hx,denR_int hy,q _ H (Same.refl H) denW_int⟩
theorem kB0 {g:Int→Int→Bool}:Pr2 X (oI0 fun i j=>.bl (g i j)) (rI0 fun i j=>.bl (g i j)):=by
 intro A x y w v u H Q _ e hx hy q
 cases x <;> cases y <;> simp only [oI0] at e <;> cases e
 rename_i i j
 exact ⟨i,j,denR_int hx,denR_int hy,q _ H (Same.refl H) denW_bl⟩
noncomputable abbrev fSub:=fBin (oI0 fun i j=>.int (i - j))
noncomputable abbrev fMul:=fBin (oI mOk fun i j=>.int (i * j))
noncomputable abbrev fDiv:=fBin (oI (fun _ j=>dOk j) fun i j=>.int (i / j))
noncomputable abbrev fMod:=fBin (oI (fun _ j=>0 < j) fun i j=>.int (i % j))
noncomputable instance (i j:Int):Decidable (CPow i j):=by unfold CPow;infer_instance
noncomputable abbrev fPow:=fBin (oI CPow fun i j=>.int (i ^ j.toNat))
theorem qx_sub (ha:QX X a f)(hb:QX X b g):QX X (.BinOp a .Sub b pos) (fSub f g):=qx_bin op_sub kI0 ha hb
theorem qx_mul (ha:QX X a f)(hb:QX X b g):QX X (.BinOp a .Mult b pos) (fMul f g):=qx_bin op_mulB kI ha hb
theorem qx_div (ha:QX X a f)(hb:QX X b g):QX X (.BinOp a .FloorDiv b pos) (fDiv f g):=qx_bin op_divB kI ha hb
theorem qx_mod (ha:QX X a f)(hb:QX X b g):QX X (.BinOp a .Mod b pos) (fMod f g):=qx_bin op_mod kI ha hb
theorem qx_pow (ha:QX X a f)(hb:QX X b g):QX X (.BinOp a .Pow b pos) (fPow f g):=qx_bin op_pow kI ha hb
noncomputable abbrev oLt:=oI0 fun i j=>.bl (decide (i < j))
noncomputable abbrev oLe:=oI0 fun i j=>.bl (decide (i≤j))
noncomputable abbrev oGt:=oI0 fun i j=>.bl (decide (j < i))
noncomputable abbrev oGe:=oI0 fun i j=>.bl (decide (j≤i))
theorem qx_gt (ha:QX X a f)(hb:QX X b g):QX X (.Compare a [.Gt] [b] pos) (fBin oGt f g):=qx_cmp op_gt kB0 ha hb
theorem qt_gt (ha:QX X a f)(hb:QX X b g):QT X (.Compare a [.Gt] [b] pos) (fTest (fBin oGt f g)):=qt_cmp op_gt kB0 ha hb
theorem qt_ge (ha:QX X a f)(hb:QX X b g):QT X (.Compare a [.GtE] [b] pos) (fTest (fBin oGe f g)):=qt_cmp op_ge kB0 ha hb
noncomputable def lim:Nat:=1000000
theorem lim_line:lim≤sizeLine:=by unfold lim;rw [sizeLine_eq];decide
theorem same_upd {H:Hp}{p:Addr}(h:H p=none)(o:HO):Same H (upd H p o):=fun b u q=>by rw [upd_ne (ne_of_none q h)];exact q
theorem denW_new {K:PySem.W.Frag}{A:Av}{σ:L2.St}{H:Hp}{p:Addr}{xs:List D}{vs:List V}(hp:H p=none)(l:DenL K A H xs vs):DenW K A σ H (upd H p (.lst vs)) (.o (.lst xs)) (.ref p):=
 ⟨p,rfl,hp,vs,upd_same,denL_go (M:=fun _=>False) ⟨fun b o q _=>same_upd hp _ b o q,fun _ z=>z.elim,fun b z=>z.imp id fun z=>by rw [z];exact hp⟩ _ _ l⟩
theorem denW_tup {K:PySem.W.Frag}{A:Av}{σ:L2.St}{H H0:Hp}{p:Addr}{xs:List D}{vs:List V}(hp:H p=none)(l:DenL K A H xs vs):DenW K A σ H0 (upd H p (.tup vs)) (.v (.tup xs)) (.ref p):=by
 show Den _ _ _ _ _;rw [Den]
 exact ⟨p,vs,rfl,.inl (.inl upd_same),denL_same (same_upd hp _) l⟩
theorem op_catS:OpR X (binaryOp .Add) (fun x y H Q=>∃l b xs zs,x= .ref l∧y= .ref b∧SqL X.K H l xs∧SqL X.K H b zs∧xs.length + zs.length≤sizeLine∧∀p,H p=none→Q (.ref p) (upd H p (.lst (xs ++ zs)))):=by
 intro pins s σ H x y v u Q I rx ry h
 obtain ⟨l,b,xs,zs,rfl,rfl,hH,hB,hz,q⟩:=h
 cases rx
 cases ry
 obtain ⟨its,r,⟨⟨c1,d1,e1,s1⟩,n1,g1,k1,_,w1⟩,_⟩:=I.list hH
 obtain ⟨its2,r2,⟨⟨c2,d2,e2,s2⟩,n2,g2,k2,_,w2⟩,_⟩:=I.list hB
 simp only at k1 w1 k2 w2
 subst k1 w1 k2 w2
 have l1:=r.length
 have l2:=r2.length
 refine concat_meets ⟨_,g1,rfl⟩ ⟨_,g2,rfl⟩ noFill_list_add seq_list_add PySem.F.slot_list_add PySem.F.entry_list_add (PySem.F.args_list_add_2 _ _) (list_addW l b its.toArray its2.toArray n1 n2 d1 d2 s1 s2 (by rw [List.size_toArray,List.size_toArray];(first|lia|omega))) ⟨g1,g2,?_⟩
 have ea:its.toArray ++ its2.toArray=(its ++ its2).toArray:=by simp
 rw [ea]
 exact ⟨.ref _,_,I.lnew (t':=s.toks) (r.append r2) (by rw [List.length_append];(first|lia|omega)),rfl,q _ I.fresh⟩
noncomputable def oCat (xs ys:List D):Option W:=if xs.length + ys.length≤lim then some (.o (.lst (xs ++ ys))) else none
noncomputable def oAdd:D→D→Option W
 | .int i,.int j=>some (.v (.int (i + j)))
 | .lst xs,.lst ys=>oCat xs ys
 | .tup xs,.tup ys=>if xs≠[]∧xs.length + ys.length≤lim then some (.v (.tup (xs ++ ys))) else none
 | _,_=>none
theorem qx_add (ha:QX X a f)(hb:QX X b g):QX X (.BinOp a .Add b pos) (fBin oAdd f g):=qx_bin (op_add.or (op_catS.or op_catT)) (by
 intro A x y w v u H Q _ e hx hy q
 cases x <;> cases y <;> simp only [oAdd] at e <;> try cases e
 ·rename_i i j
  exact .inl ⟨i,j,denR_int hx,denR_int hy,q _ H (Same.refl H) denW_int⟩
 ·rename_i xs ys
  split at e
  ·rename_i hl
   cases e
   have hx:Den X.K A H (.tup xs) v:=hx
   have hy:Den X.K A H (.tup ys) u:=hy
   rw [Den] at hx hy
   obtain ⟨a,vs,ev,ha,la⟩:=hx
   obtain ⟨b,us,eu,hb,lb⟩:=hy
   refine .inr (.inr ⟨a,b,vs,us,ev,eu,ha,hb,fun z=>?_,?_,fun z=>?_,fun _ p hp=>q _ _ (same_upd hp _) (denW_tup hp (denL_append la lb))⟩)
   rotate_left 2
   ·subst z
    have z:ys=[]:=List.length_eq_zero_iff.mp (denL_length lb)
    subst z
    refine q _ H (Same.refl H) ?_
    show Den _ _ _ _ _
    rw [List.append_nil,Den]
    exact ⟨a,vs,rfl,ha,la⟩
   ·subst z;exact hl.1 (List.length_eq_zero_iff.mp (denL_length la))
   ·rw [←denL_length la,←denL_length lb];exact Nat.le_trans hl.2 lim_line
  ·cases e
 ·rename_i xs ys
  unfold oCat at e
  split at e
  ·rename_i hl
   cases e
   obtain ⟨a,vs,ev,ha,la⟩:=hx
   obtain ⟨b,us,eu,hb,lb⟩:=hy
   refine .inr (.inl ⟨a,b,vs,us,ev,eu,ha,hb,?_,fun p hp=>q _ _ (same_upd hp _) (denW_new hp (denL_append la lb))⟩)
   rw [←denL_length la,←denL_length lb];exact Nat.le_trans hl lim_line
  ·cases e) ha hb
noncomputable def fUn (op:D→Option W) (f:FX):FX:=fun ρ=>(f ρ).bind fun p=>(dr p.2 p.1.fz).bind fun x=>(op x).map fun w=>(w,p.2)
noncomputable def Pr1 (X:Cx) (op:D→Option W) (r:V→Hp→VK→Prop):Prop:=∀(A:Av) (x:D) (w:W) (v:V) (H:Hp) (Q:VK),(∀b,A b→∃o,H b=some o)→op x=some w→DenR X.K A H x v→(∀z H',Same H H'→DenW X.K A [] H H' w z→Q z H')→r v H Q
theorem un_weak {r:V→Hp→VK→Prop}{op:D→Option W}(k:Pr1 X op r):∀σ H Q,tX X (fUn op f) σ H Q→tUn r (tX X f) σ H Q:=fun σ H Q h0=>tXe h0 fun P O L ρ w ρ' r e q=>by
 unfold fUn at e
 obtain ⟨⟨w1,ρ1⟩,e1,e⟩:=obs e
 dsimp only at e
 refine ⟨P,O,L,ρ,w1,ρ1,r,e1,fun v H1 H1' r1 s1 d1=>?_⟩
 have r3:=r1.grow s1
 cases e3:dr ρ1 w1.fz with
 | none=>rw [e3] at e;cases e
 | some x=>
  rw [e3] at e
  simp only [Option.bind_some] at e
  cases e5:op x with
  | none=>rw [e5] at e;cases e
  | some w'=>
   rw [e5] at e;cases e
   exact k _ x w v H1' Q (fun b z=>r3.there z) e5 (dr_den r3 e3 (d1.fz r1 s1)) fun z H' s d=>q z H1' H' r3 s d.st
noncomputable def oNeg:D→Option W
 | .int i=>some (.v (.int (-i)))
 | _=>none
theorem qx_neg (ha:QX X a f):QX X (.UnaryOp .USub a pos) (fUn oNeg f):=⟨PE.weak (pe_un un_neg ha.to) (un_weak fun A x w v H Q _ e hx q=>by
 cases x <;> simp only [oNeg] at e <;> cases e
 rename_i i
 exact ⟨i,denR_int hx,q _ H (Same.refl H) denW_int⟩)⟩
end
end Z
set_option maxHeartbeats 1000000
namespace Z
open PySem PySem.Spec PyProof.Rows L2
section
variable {X:Cx}{a b c e:Expr}{pos:Pos}{f g h:FX}{t u:FT}{fa:FA}{es rest:List Expr}
noncomputable def truth:D→Option Bool
 | .non=>some false
 | .bl b=>some b
 | .int i=>some (!decide (i=0))
 | .tup xs=>some (!xs.isEmpty)
 | .lst xs=>some (!xs.isEmpty)
 | .dK ks _=>some (!ks.isEmpty)
 | _=>none
noncomputable def fTru (f:FX):FT:=fun ρ=>(f ρ).bind fun p=>(dr p.2 p.1.fz).bind fun d=>(truth d).map fun k=>(k,p.2)
theorem denL_empty {K:PySem.W.Frag}{A:Av}{H:Hp}{xs:List D}{vs:List V}(l:DenL K A H xs vs):(!xs.isEmpty)= !vs.isEmpty:=by
 have:=denL_length l
 cases xs <;> cases vs <;> simp_all
theorem tru_den {K:PySem.W.Frag}{A:Av}{H:Hp}{d:D}{v:V}{k:Bool}(e:truth d=some k)(h:DenR K A H d v):TruV K v H k:=by
 cases d with
 | non=>cases e;have h:Den K A H .non v:=h;rw [Den] at h;subst h;rfl
 | bl b=>cases e;have h:Den K A H (.bl k) v:=h;rw [Den] at h;subst h;rfl
 | int i=>cases e;have h:Den K A H (.int i) v:=h;rw [Den] at h;subst h;rfl
 | tup xs=>cases e;have h:Den K A H (.tup xs) v:=h;rw [Den] at h;obtain ⟨a,vs,rfl,hq,l⟩:=h;exact .inr (.inl ⟨vs,hq,denL_empty l⟩)
 | lst xs=>cases e;obtain ⟨a,vs,rfl,hq,l⟩:=h;exact .inl ⟨vs,hq,denL_empty l⟩
 | dK ks xs=>
  cases e;obtain ⟨a,vs,rfl,hq,hl,l⟩:=h
  refine .inr (.inr ⟨_,hq,?_⟩)
  have:=denL_length l
  cases ks <;> cases vs <;> cases xs <;> simp_all
 | _=>cases e
theorem qt_tru (ha:QX X a f)(he:autoParam (∀whole,isTrue a X.env whole=(do let v ←whole;standAt a.pos;holding [v] (truthy v))) Zau.a3._auto_1):QT X a (fTru f):=⟨PT.weak (pt_truth ha.to he) fun σ H Q h0=>tTe h0 fun P O L ρ k ρ' r e q=>by
 unfold fTru at e
 obtain ⟨⟨w,ρ1⟩,e1,e⟩:=obs e
 dsimp only at e
 cases e2:dr ρ1 w.fz with
 | none=>rw [e2] at e;cases e
 | some d=>
  rw [e2] at e
  simp only [Option.bind_some] at e
  cases e3:truth d with
  | none=>rw [e3] at e;cases e
  | some k'=>
   rw [e3] at e;cases e
   exact ⟨P,O,L,ρ,w,_,r,e1,fun v H1 H' r1 s1 d1=>⟨k,tru_den e3 (dr_den (r1.grow s1) e2 (d1.fz r1 s1)),q H' (r1.grow s1)⟩⟩⟩
noncomputable def fNot (t:FT):FT:=fun ρ=>(t ρ).map fun p=>(!p.1,p.2)
theorem qt_not (ha:QT X a t):QT X (.UnaryOp .Not a pos) (fNot t):=⟨PT.weak (L2.pt_not ha.to) fun σ H Q h0=>tTe h0 fun P O L ρ k ρ' r e q=>by
 unfold fNot at e
 cases e1:t ρ with
 | none=>rw [e1] at e;cases e
 | some p=>rw [e1] at e;obtain ⟨k1,ρ1⟩:=p;cases e;exact ⟨P,O,L,ρ,k1,_,r,e1,q⟩⟩
noncomputable def fAnd (t u:FT):FT:=fun ρ=>(t ρ).bind fun p=>if p.1=true then u p.2 else some (false,p.2)
noncomputable def fOr (t u:FT):FT:=fun ρ=>(t ρ).bind fun p=>if p.1=true then some (true,p.2) else u p.2
theorem qw_and1 (ha:QT X a t):QW X (.BoolOp .And [a] pos) t:=⟨pw_and1 ha.to⟩
theorem qw_or1 (ha:QT X a t):QW X (.BoolOp .Or [a] pos) t:=⟨pw_or1 ha.to⟩
theorem qw_and (ha:QT X a t)(hb:QW X (.BoolOp .And (b :: rest) pos) u):QW X (.BoolOp .And (a :: b :: rest) pos) (fAnd t u):=⟨PW.weak (pw_and ha.to hb.to) fun σ H Q h0=>tTe h0 fun P O L ρ k ρ' r e q=>by
 unfold fAnd at e
 obtain ⟨⟨k1,ρ1⟩,e1,e⟩:=obs e
 dsimp only at e
 refine ⟨P,O,L,ρ,k1,ρ1,r,e1,fun H' r'=>?_⟩
 cases k1 with
 | true=>rw [if_pos rfl] at e ⊢;exact ⟨P,O,L,ρ1,k,ρ',r',e,q⟩
 | false=>rw [if_neg Bool.false_ne_true] at e ⊢;cases e;exact q H' r'⟩
theorem qw_or (ha:QT X a t)(hb:QW X (.BoolOp .Or (b :: rest) pos) u):QW X (.BoolOp .Or (a :: b :: rest) pos) (fOr t u):=⟨PW.weak (pw_or ha.to hb.to) fun σ H Q h0=>tTe h0 fun P O L ρ k ρ' r e q=>by
 unfold fOr at e
 obtain ⟨⟨k1,ρ1⟩,e1,e⟩:=obs e
 dsimp only at e
 refine ⟨P,O,L,ρ,k1,ρ1,r,e1,fun H' r'=>?_⟩
 cases k1 with
 | true=>rw [if_pos rfl] at e ⊢;cases e;exact q H' r'
 | false=>rw [if_neg Bool.false_ne_true] at e ⊢;exact ⟨P,O,L,ρ1,k,ρ',r',e,q⟩⟩
theorem qt_of (ha:QW X a t):QT X a t:=⟨PW.pt ha.to⟩
theorem qx_one {op}(ha:QX X a f):QX X (.BoolOp op [a] pos) f:=⟨pe_one ha.to⟩
noncomputable def fAndV (f g:FX):FX:=fun ρ=>(fTest f ρ).bind fun p=>if p.1=true then g p.2 else some (.v (.bl false),p.2)
noncomputable def fOrV (f g:FX):FX:=fun ρ=>(fTest f ρ).bind fun p=>if p.1=true then some (.v (.bl true),p.2) else g p.2
noncomputable def fNotV (f:FX):FX:=fun ρ=>(fTest f ρ).map fun p=>(.v (.bl (!p.1)),p.2)
theorem of_denW_bl {K:PySem.W.Frag}{A:Av}{σ:L2.St}{H H':Hp}{k:Bool}{v:V}(h:DenW K A σ H H' (.v (.bl k)) v):v= .bl k:=by
 have h:Den K A H' (.bl k) v:=h
 exact den_bl.mp h
theorem qx_and (ha:QX X a f)(hb:QX X (.BoolOp .And (b :: rest) pos) g):QX X (.BoolOp .And (a :: b :: rest) pos) (fAndV f g):=⟨PE.weak (pe_and ha.to hb.to) fun σ H Q h0=>tXe h0 fun P O L ρ w ρ' r e q=>by
 unfold fAndV at e
 obtain ⟨⟨k,ρ1⟩,e1,e⟩:=obs e
 dsimp only at e
 refine ⟨P,O,L,ρ,_,ρ1,r,fTest_some e1,fun v H1 H' r1 s1 d1=>⟨k,of_denW_bl d1,?_⟩⟩
 cases k with
 | true=>rw [if_pos rfl] at e ⊢;exact ⟨P,O,L,ρ1,w,ρ',r1.grow s1,e,q⟩
 | false=>rw [if_neg Bool.false_ne_true] at e ⊢;cases e;exact q _ H' H' (r1.grow s1) (Same.refl _) denW_bl⟩
noncomputable def fIf (t:FT) (f g:FX):FX:=fun ρ=>(t ρ).bind fun p=>if p.1=true then f p.2 else g p.2
theorem qx_if (hc:QT X c t)(ha:QX X a f)(hb:QX X b g):QX X (.IfExp c a b pos) (fIf t f g):=⟨PE.weak (pe_ifExp hc.to ha.to hb.to) fun σ H Q h0=>tXe h0 fun P O L ρ w ρ' r e q=>by
 unfold fIf at e
 obtain ⟨⟨k,ρ1⟩,e1,e⟩:=obs e
 dsimp only at e
 refine ⟨P,O,L,ρ,k,ρ1,r,e1,fun H' r'=>?_⟩
 cases k with
 | true=>rw [if_pos rfl] at e ⊢;exact ⟨P,O,L,ρ1,w,ρ',r',e,q⟩
 | false=>rw [if_neg Bool.false_ne_true] at e ⊢;exact ⟨P,O,L,ρ1,w,ρ',r',e,q⟩⟩
noncomputable def fNil:FA:=fun ρ=>some ([],ρ)
noncomputable def fCons (f:FX) (fa:FA):FA:=fun ρ=>(f ρ).bind fun p=>(fa p.2).map fun q=>(p.1.fz :: q.1,q.2)
theorem qa_nil:QA X [] fNil:=⟨PA.weak pa_nil fun σ H Q h0=>tAe h0 fun P O L ρ ws ρ' r e q=>by cases e;exact q [] H r rfl⟩
theorem qa_cons (ha:QX X e f)(hr:QA X es fa)(hs:autoParam (starEach (e :: es) X.env=(false,eval e X.env) :: starEach es X.env) Zau.a2._auto_1):QA X (e :: es) (fCons f fa):=⟨PA.weak (pa_cons ha.to hr.to hs) fun σ H Q h0=>tAe h0 fun P O L ρ ws ρ' r e q=>by
 unfold fCons at e
 obtain ⟨⟨w,ρ1⟩,e1,e⟩:=obs e
 dsimp only at e
 obtain ⟨⟨ws2,ρ2⟩,e2,e⟩:=oms e
 cases e
 refine ⟨P,O,L,ρ,w,ρ1,r,e1,fun v H1 H' r1 s1 d1=>?_⟩
 obtain ⟨P',r1',k1⟩:=hold (r1.grow s1) (d1.fz r1 s1)
 refine ⟨P',O,L,ρ1,ws2,_,r1',e2,fun vs H2 r2 l2=>?_⟩
 obtain ⟨r3,d3⟩:=k1 _ H2 r2
 exact q _ H2 r3 ⟨v,vs,rfl,d3,l2⟩⟩
noncomputable def takeAll:Ev→List W→Option (List D×Ev)
 | ρ,[]=>some ([],ρ)
 | ρ,.v d :: ws=>(takeAll ρ ws).map fun p=>(d :: p.1,p.2)
 | ρ,.r i :: ws=>(frzAt ρ i).bind fun ρ1=>match ρ1[i]? with
  | some (some (.v d))=>(takeAll ρ1 ws).map fun p=>(d :: p.1,p.2)
  | _=>none
 | _,_=>none
theorem ow_sub {ρ ρ':Ev}{σ:L2.St}{O:Av}(h:∀(j:Nat) (w:W) (d:D),ρ'[j]? =some (some w)→w.own=some d→ρ[j]? =some (some w)):∀b,AvO O ρ' σ b→AvO O ρ σ b:=fun b z=>z.imp id fun ⟨j,w,d,e1,e2,e3⟩=>⟨j,w,d,h j w d e1 e2,e2,e3⟩
theorem takeAll_ok {P:List (D×V)}{O:Av}{L:List (Nat×Addr)}{σ:L2.St}{H:Hp}:∀{ws:List W} {ds:List D} {vs:List V} {ρ ρ':Ev},Rep X P O L ρ σ H→takeAll ρ ws=some (ds,ρ')→DenA X.K (AvO O ρ σ) σ H ws vs→
  Rep X P O L ρ' σ H∧DenL X.K (AvO O ρ' σ) H ds vs∧∀(j:Nat) (w:W) (d:D),ρ'[j]? =some (some w)→w.own=some d→ρ[j]? =some (some w)
 | [],ds,vs,ρ,ρ',r,e,h=>by cases e;have h:vs=[]:=h;subst h;exact ⟨r,denL_nil,fun j w d e _=>e⟩
 | .v d :: ws,ds,vs,ρ,ρ',r,e,h=>by
  obtain ⟨v,rs,rfl,h1,h2⟩:=h
  rw [takeAll] at e
  obtain ⟨⟨ds1,ρ1⟩,e1,e⟩:=oms e
  cases e
  obtain ⟨r1,l1,k1⟩:=takeAll_ok r e1 h2
  exact ⟨r1,denL_cons (den_go (go_av (ow_sub k1)) _ _ h1) l1,k1⟩
 | .r i :: ws,ds,vs,ρ,ρ',r,e,h=>by
  obtain ⟨v,rs,rfl,h1,h2⟩:=h
  have h1:σ[i]? =some (some v):=h1
  rw [takeAll] at e
  cases e0:frzAt ρ i with
  | none=>rw [e0] at e;cases e
  | some ρ1=>
   rw [e0] at e
   simp only [Option.bind_some] at e
   obtain ⟨r1,k1⟩:=r.frz e0
   split at e
   ·rename_i d q
    obtain ⟨⟨ds1,ρ2⟩,e1,e⟩:=oms e
    cases e
    have go1:∀{ws:List W} {vs:List V},DenA X.K (AvO O ρ σ) σ H ws vs→DenA X.K (AvO O ρ1 σ) σ H ws vs:=fun {ws}=>by
     induction ws with
     | nil=>exact fun h=>h
     | cons w ws ih=>
      intro vs h
      obtain ⟨v,rs,rfl,h1,h2⟩:=h
      refine ⟨v,rs,rfl,?_,ih h2⟩
      cases w with
      | v d=>exact den_go (go_av (ow_sub fun j w d e1 e2=>(k1 j w d e1 e2).1)) _ _ h1
      | _=>exact h1
    obtain ⟨r2,l2,k2⟩:=takeAll_ok r1 e1 (go1 h2)
    obtain ⟨u,q1,q2⟩:=r1.slot i _ q
    rw [h1] at q1;cases q1
    have q2:Den X.K (AvO O ρ1 σ) H d v:=q2
    exact ⟨r2,denL_cons (den_go (go_av (ow_sub k2)) _ _ q2) l2,fun j w d e1 e2=>(k1 j w d (k2 j w d e1 e2) e2).1⟩
   ·cases e
 | .o _ :: ws,ds,vs,ρ,ρ',r,e,h=>by rw [takeAll] at e <;> first | cases e | (intros;nofun)
 | .l _ :: ws,ds,vs,ρ,ρ',r,e,h=>by rw [takeAll] at e <;> first | cases e | (intros;nofun)
noncomputable def fTup (fa:FA):FX:=fun ρ=>(fa ρ).bind fun p=>(takeAll p.2 p.1).bind fun q=>if q.1.length≤lim then some (.v (.tup q.1),q.2) else none
noncomputable def fLst (fa:FA):FX:=fun ρ=>(fa ρ).bind fun p=>(takeAll p.2 p.1).bind fun q=>if q.1.length≤lim then some (.o (.lst q.1),q.2) else none
theorem disp_core {mk:List D→W}{σ:L2.St}{H:Hp}{Q:VK}{R:List V→Hp→Prop}(hq:∀(A:Av) (ds:List D) (vs:List V) (H:Hp),(∀v H',Same H H'→DenW X.K A σ H H' (mk ds) v→Q v H')→vs.length≤sizeLine→DenL X.K A H ds vs→R vs H)
  (h:tX X (fun ρ=>(fa ρ).bind fun p=>(takeAll p.2 p.1).bind fun q=>if q.1.length≤lim then some (mk q.1,q.2) else none) σ H Q):tA X fa σ H R:=by
 obtain ⟨P,O,L,ρ,w,ρ',r,e,q⟩:=h
 dsimp only at e
 obtain ⟨⟨ws,ρ1⟩,e1,e⟩:=obs e
 dsimp only at e
 obtain ⟨⟨ds,ρ2⟩,e2,e⟩:=obs e
 dsimp only at e
 split at e
 ·rename_i hl
  cases e
  refine ⟨P,O,L,ρ,ws,ρ1,r,e1,fun vs H1 r1 l1=>?_⟩
  obtain ⟨r2,l2,_⟩:=takeAll_ok r1 e2 l1
  exact hq _ ds vs H1 (fun v H' s d=>q v H1 H' r2 s d) (by rw [←denL_length l2];exact Nat.le_trans hl lim_line) l2
 ·cases e
theorem qx_tup {k:Nat}(ha:QA X es fa):QX X (.Tuple es k pos) (fTup fa):=⟨PE.weak (pe_tup ha.to) fun σ H Q h=>disp_core (mk:=fun ds=>.v (.tup ds)) (fun A ds vs H q hl l=>⟨hl,fun p hp=>q _ _ (same_upd hp _) (denW_tup hp l)⟩) h⟩
theorem qx_lst (ha:QA X es fa):QX X (.List es pos) (fLst fa):=⟨PE.weak (pe_lst ha.to) fun σ H Q h=>disp_core (mk:=fun ds=>.o (.lst ds)) (fun A ds vs H q hl l=>⟨hl,fun p hp=>q _ _ (same_upd hp _) (denW_new hp l)⟩) h⟩
noncomputable def items:D→Option (List D)
 | .tup xs=>some xs
 | .lst xs=>some xs
 | _=>none
theorem den_items {K:PySem.W.Frag}{A:Av}{H:Hp}{d:D}{xs:List D}{v:V}(e:items d=some xs)(h:DenR K A H d v):∃a vs,v= .ref a∧(SqL K H a vs∨SqT K H a vs)∧DenL K A H xs vs:=by
 cases d <;> simp only [items] at e <;> cases e
 ·have h:Den K A H (.tup xs) v:=h
  rw [Den] at h;obtain ⟨a,vs,e,hq,l⟩:=h;exact ⟨a,vs,e,.inr hq,l⟩
 ·obtain ⟨a,vs,e,hq,l⟩:=h;exact ⟨a,vs,e,.inl hq,l⟩
noncomputable def strAt (x:Str) (i:Int):Option W:=if x.length≤lim then (atI x.cps.toList i).map fun c=>.v (.str ⟨#[c]⟩) else none
noncomputable def oIx (x y:D):Option W:=match x,y with
 | .str x,.int i=>strAt x i
 | x,.int i=>(items x).bind fun xs=>(atI xs i).map .v
 | _,_=>none
theorem atI_den {K:PySem.W.Frag}{A:Av}{H:Hp}{xs:List D}{vs:List V}{i:Int}{d:D}(l:DenL K A H xs vs)(e:atI xs i=some d):∃v,atI vs i=some v∧Den K A H d v:=by
 unfold atI at e ⊢
 rw [←denL_length l]
 cases q:ixN xs.length i with
 | none=>rw [q] at e;cases e
 | some j=>rw [q] at e;exact denL_get l e
theorem k_ix:Pr2 X oIx (rIx X.K):=by
 intro A x y w v u H Q _ e hx hy q
 unfold oIx at e
 split at e
 ·rename_i z i
  unfold strAt at e
  split at e
  ·rename_i hl
   obtain ⟨ch,e1,e⟩:=oms e
   cases e
   have hx:Den X.K A H (.str z) v:=hx
   exact .inr (.inr ⟨z,i,ch,den_str.mp hx,denR_int hy,Nat.le_trans hl lim_line,e1,q _ H (Same.refl H) denW_str⟩)
  ·cases e
 ·rename_i i _
  cases e1:items x with
  | none=>rw [e1] at e;cases e
  | some xs=>
   rw [e1] at e
   simp only [Option.bind_some] at e
   obtain ⟨d,e2,e⟩:=oms e
   cases e
   obtain ⟨a,vs,rfl,hq,l⟩:=den_items e1 hx
   obtain ⟨v',h1,h2⟩:=atI_den l e2
   rcases hq with hq | hq
   ·exact .inl ⟨a,vs,i,v',rfl,denR_int hy,hq,h1,q _ H (Same.refl H) h2⟩
   ·exact .inr (.inl ⟨a,vs,i,v',rfl,denR_int hy,hq,h1,q _ H (Same.refl H) h2⟩)
 ·cases e
theorem qx_ix (ha:QX X a f)(hb:QX X b g)(hs:autoParam (PlainIx b) Zau.a7._auto_1):QX X (.Subscript a b pos) (fBin oIx f g):=⟨PE.weak (pe_ix ix_seq ha.to hb.to hs) (bin_weak k_ix)⟩
noncomputable def fCall (k:List D→Option W) (fa:FA):FX:=fun ρ=>(fa ρ).bind fun p=>(drs p.2 p.1).bind fun ds=>(k ds).map fun w=>(w,p.2)
noncomputable def PrA (X:Cx) (k:List D→Option W) (r:List V→Hp→VK→Prop):Prop:=∀(A:Av) (ds:List D) (w:W) (vs:List V) (H:Hp) (Q:VK),(∀b,A b→∃o,H b=some o)→k ds=some w→DenRL X.K A H ds vs→(∀z H',Same H H'→DenW X.K A [] H H' w z→Q z H')→r vs H Q
theorem call_weak {r:List V→Hp→VK→Prop}{k:List D→Option W}(hk:PrA X k r):∀σ H Q,tX X (fCall k fa) σ H Q→tCB r (tA X fa) σ H Q:=fun σ H Q h0=>tXe h0 fun P O L ρ w ρ' r e q=>by
 unfold fCall at e
 obtain ⟨⟨ws,ρ1⟩,e1,e⟩:=obs e
 dsimp only at e
 cases e2:drs ρ1 ws with
 | none=>rw [e2] at e;cases e
 | some ds=>
  rw [e2] at e
  simp only [Option.bind_some] at e
  cases e3:k ds with
  | none=>rw [e3] at e;cases e
  | some w'=>
   rw [e3] at e;cases e
   exact ⟨P,O,L,ρ,ws,ρ',r,e1,fun vs H1 r1 l1=>hk _ ds w vs H1 Q (fun b z=>r1.there z) e3 (drs_den r1 e2 l1) fun z H2 s2 d2=>q z H1 H2 r1 s2 d2.st⟩
theorem qx_callB {x:Str}{p:Pos}{id:String}{r:List V→Hp→VK→Prop}{k:List D→Option W}(hc:CallR X (.builtin id) r)(hk:PrA X k r)(hv:bootBuiltins x=some (.builtin id))(hm:X.mg x=none)(ha:QA X (e :: es) fa)(hg:Gl X x)(hn:x≠"__name__")(hdb:(x == ("__debug__":Str))=false)
  (he:starEach (e :: es) X.env=(false,eval e X.env) :: starEach es X.env) (hpl:(backTo pos (starEach es X.env)).any (·.1)=false):QX X (.Call (.Name x p) (e :: es) [] pos) (fCall k fa):=⟨PE.weak (pe_callB hc hg hm hv ha.to hn hdb he hpl) (call_weak hk)⟩
theorem qx_callT {x:Str}{p:Pos}{T:String}{r:List V→Hp→VK→Prop}{k:List D→Option W}(hc:CallR X (.type T) r)(hk:PrA X k r)(hv:bootBuiltins x=some (.type T))(hm:X.mg x=none)(ha:QA X (e :: es) fa)(hg:Gl X x)(hn:x≠"__name__")(hdb:(x == ("__debug__":Str))=false)
  (he:starEach (e :: es) X.env=(false,eval e X.env) :: starEach es X.env) (hpl:(backTo pos (starEach es X.env)).any (·.1)=false):QX X (.Call (.Name x p) (e :: es) [] pos) (fCall k fa):=⟨PE.weak (pe_callTy hc hg hm hv ha.to hn hdb he hpl) (call_weak hk)⟩
theorem denRL1 {K:PySem.W.Frag}{A:Av}{H:Hp}{d:D}{vs:List V}(l:DenRL K A H [d] vs):∃v,vs=[v]∧DenR K A H d v:=by
 obtain ⟨v,r,rfl,h,l⟩:=l
 have l:r=[]:=l
 subst l;exact ⟨v,rfl,h⟩
theorem denRL2 {K:PySem.W.Frag}{A:Av}{H:Hp}{d d':D}{vs:List V}(l:DenRL K A H [d,d'] vs):∃v v',vs=[v,v']∧DenR K A H d v∧DenR K A H d' v':=by
 obtain ⟨v,r,rfl,h,l⟩:=l
 obtain ⟨v',rfl,h'⟩:=denRL1 l
 exact ⟨v,v',rfl,h,h'⟩
end
end Z
set_option maxHeartbeats 1000000
namespace Z
open PySem PySem.Spec PyProof.Rows L2
inductive R where
 | nx (ρ:Ev) | bk (ρ:Ev) | ct (ρ:Ev) | rt (w:W) (ρ:Ev)
noncomputable abbrev FS:=Ev→Option R
noncomputable abbrev A0 (O:Av) (L:List (Nat×Addr)):Av:=fun b=>O b∨∃i,(i,b)∈L
noncomputable def EndsOk (X:Cx) (P:List (D×V)) (O:Av) (L:List (Nat×Addr)) (E:Ends):R→Prop
 | .nx ρ=>∀σ H,Rep X P O L ρ σ H→E.nx σ H
 | .bk ρ=>∀σ H,Rep X P O L ρ σ H→E.bk σ H
 | .ct ρ=>∀σ H,Rep X P O L ρ σ H→E.ct σ H
 | .rt w ρ=>∀v H,(∀b o,X.H₀ b=some o→(∀i,(i,b)∉L)→H b=some o)→(∀i b,(i,b)∈L→∃c,ownAt ρ i=some c∧Obj X.K (A0 O L) H b c)→DenW X.K (A0 O L) [] X.H₀ H w v→E.rt v H
noncomputable def tS (X:Cx) (F:FS):TS:=fun E σ H=>∃P O L ρ r,Rep X P O L ρ σ H∧F ρ=some r∧EndsOk X P O L E r
theorem tSe {X:Cx}{F:FS}{E:Ends}{σ:L2.St}{H:Hp}{C:Prop}(h:tS X F E σ H)(k:∀P O L ρ r,Rep X P O L ρ σ H→F ρ=some r→EndsOk X P O L E r→C):C:=by
 obtain ⟨P,O,L,ρ,r,rp,e,q⟩:=h
 exact k P O L ρ r rp e q
structure QS (X:Cx) (st:Stmt) (F:FS):Prop where
 to:PS X st (tS X F)
structure QSs (X:Cx) (st:List Stmt) (F:FS):Prop where
 to:PSs X st (tS X F)
theorem PS.weak {X:Cx}{e:Stmt}{t u:TS}(h:PS X e t)(w:∀E σ H,u E σ H→t E σ H):PS X e u:=fun pins s σ H E I q=>h pins s σ H E I (w E σ H q)
theorem PSs.weak {X:Cx}{e:List Stmt}{t u:TS}(h:PSs X e t)(w:∀E σ H,u E σ H→t E σ H):PSs X e u:=fun pins s σ H E I q=>h pins s σ H E I (w E σ H q)
noncomputable def fThen (F G:FS):FS:=fun ρ=>(F ρ).bind fun r=>match r with
 | .nx ρ'=>G ρ'
 | r=>some r
section
variable {X:Cx}{P:List (D×V)}{O:Av}{L:List (Nat×Addr)}{ρ ρ':Ev}{σ:L2.St}{H H1 H':Hp}{w:W}{d:D}{v:V}
theorem Rep.a0 (r:Rep X P O L ρ σ H){b:Addr}(z:A0 O L b):AvO O ρ σ b:=z.imp id fun ⟨i,z⟩=>by
 obtain ⟨d,h1,h2⟩:=r.lnd i b z
 exact ⟨i,_,d,h1,rfl,h2⟩
theorem Rep.lents (r:Rep X P O L ρ σ H):∀i b,(i,b)∈L→∃c,ownAt ρ i=some c∧Obj X.K (A0 O L) H b c:=fun i b z=>by
 obtain ⟨d,h1,h2⟩:=r.lnd i b z
 obtain ⟨a,h3,h4⟩:=r.obj h1 rfl
 rw [h2] at h3;cases h3
 exact ⟨d,by unfold ownAt;rw [h1];rfl,obj_go (go_av fun b z=>r.a0 z) rfl h4⟩
noncomputable def bindW (ρ:Ev) (i:Nat):W→Option Ev
 | .v d=>if freeSlot ρ i=true then some (ρ.set i (some (.v d))) else none
 | .o d=>if freeSlot ρ i=true then some (ρ.set i (some (.o d))) else none
 | .r j=>(frzAt ρ j).bind fun ρ1=>match ρ1[j]? with
  | some (some (.v d))=>if freeSlot ρ1 i=true then some (ρ1.set i (some (.v d))) else none
  | _=>none
 | .l _=>none
theorem bind_ok {i:Nat}(r:Rep X P O L ρ σ H1)(s:Same H1 H')(h:DenW X.K (AvO O ρ σ) σ H1 H' w v)(e:bindW ρ i w=some ρ'):Rep X P O L ρ' (σ.set i (some v)) H':=by
 cases w with
 | v d=>
  rw [bindW] at e
  split at e
  ·rename_i hf;cases e;exact (r.grow s).put hf h
  ·cases e
 | o d=>
  rw [bindW] at e
  split at e
  ·rename_i hf;cases e;obtain ⟨a,rfl,hn,ob⟩:=h;exact r.putO s hf hn ob
  ·cases e
 | r j=>
  rw [bindW] at e
  cases e1:frzAt ρ j with
  | none=>rw [e1] at e;cases e
  | some ρ1=>
   rw [e1] at e
   simp only [Option.bind_some] at e
   obtain ⟨r1,_⟩:=(r.grow s).frz e1
   split at e
   ·rename_i d q
    split at e
    ·rename_i hf
     cases e
     obtain ⟨u,q1,q2⟩:=r1.slot j _ q
     have h:σ[j]? =some (some v):=h
     rw [h] at q1;cases q1
     exact r1.put hf q2
    ·cases e
   ·cases e
 | l d=>cases e
noncomputable def retW (ρ:Ev):W→Option R
 | .v d=>some (.rt (.v d) ρ)
 | .o d=>some (.rt (.o d) ρ)
 | .r i=>match ρ[i]? with
  | some (some (.o d))=>some (.rt (.o d) ρ)
  | some (some (.v d))=>some (.rt (.v d) ρ)
  | _=>none
 | .l _=>none
theorem ret_ok {E:Ends}{q:R}(r:Rep X P O L ρ σ H1)(s:Same H1 H')(h:DenW X.K (AvO O ρ σ) σ H1 H' w v)(e:retW ρ w=some q)(hq:EndsOk X P O L E q):E.rt v H':=by
 have r':=r.grow s
 cases w with
 | v d=>cases e;exact hq v H' r'.same r'.lents (den_go (go_av fun b z=>r.a0 z) _ _ h)
 | o d=>
  cases e
  obtain ⟨a,rfl,hn,ob⟩:=h
  exact hq _ H' r'.same r'.lents ⟨a,rfl,r.fresh0 hn,obj_go (go_av fun b z=>z.imp (fun z=>r.a0 z) id) rfl ob⟩
 | r i=>
  rw [retW] at e
  have h:σ[i]? =some (some v):=h
  split at e
  ·rename_i d q
   cases e
   obtain ⟨a,h1,h2⟩:=r'.obj q rfl
   rw [h] at h1;cases h1
   refine hq _ H' r'.same r'.lents ⟨a,rfl,r'.new i d a q h,obj_go (go_av fun b z=>?_) rfl h2⟩
   rcases z with z | z
   ·exact r.a0 z
   ·rw [z];exact .inr ⟨i,_,d,q,rfl,h⟩
  ·rename_i d q
   cases e
   obtain ⟨u,q1,q2⟩:=r'.slot i _ q
   rw [h] at q1;cases q1
   exact hq v H' r'.same r'.lents (den_go (go_av fun b z=>r.a0 z) _ _ q2)
  ·cases e
 | l d=>cases e
end
section
variable {X:Cx}{a b c e:Expr}{es:List Expr}{st:Stmt}{rest bd els:List Stmt}{pos:Pos}{f g:FX}{t:FT}{fa:FA}{F G:FS}
theorem qss_nil:QSs X [] (fun ρ=>some (.nx ρ)):=⟨PSs.weak pss_nil fun E σ H h0=>tSe h0 fun P O L ρ r rp e q=>by cases e;exact q σ H rp⟩
theorem qss_cons (h1:QS X st F)(h2:QSs X rest G):QSs X (st :: rest) (fThen F G):=⟨PSs.weak (pss_cons h1.to h2.to) fun E σ H h0=>tSe h0 fun P O L ρ r rp e q=>by
 unfold fThen at e
 obtain ⟨r1,e1,e⟩:=obs e
 refine ⟨P,O,L,ρ,r1,rp,e1,?_⟩
 cases r1 with
 | nx ρ'=>exact fun σ' H' rp'=>⟨P,O,L,ρ',r,rp',e,q⟩
 | bk ρ'=>cases e;exact q
 | ct ρ'=>cases e;exact q
 | rt d ρ'=>cases e;exact q⟩
theorem qss_one (h1:QS X st F):QSs X [st] F:=⟨pss_one h1.to⟩
theorem qs_never:QS X st (fun _=>none):=⟨PS.weak ps_never fun E σ H h0=>tSe h0 fun P O L ρ r rp e q=>by cases e⟩
theorem qs_raise {e c:Option Expr}:QS X (.Raise e c pos) (fun _=>none):=qs_never
noncomputable def fRet (f:FX):FS:=fun ρ=>(f ρ).bind fun p=>retW p.2 p.1
theorem qs_ret (ha:QX X e f):QS X (.Return (some e) pos) (fRet f):=⟨PS.weak (ps_ret ha.to) fun E σ H h0=>tSe h0 fun P O L ρ r rp e q=>by
 unfold fRet at e
 obtain ⟨⟨w,ρ1⟩,e1,e⟩:=obs e
 exact ⟨P,O,L,ρ,w,ρ1,rp,e1,fun v H1 H' r1 s1 d1=>ret_ok r1 s1 d1 e q⟩⟩
noncomputable def fIfS (t:FT) (F G:FS):FS:=fun ρ=>(t ρ).bind fun p=>if p.1=true then F p.2 else G p.2
theorem qs_if (hc:QT X c t)(ha:QSs X bd F)(hb:QSs X els G):QS X (.If c bd els pos) (fIfS t F G):=⟨PS.weak (ps_if hc.to ha.to hb.to) fun E σ H h0=>tSe h0 fun P O L ρ r rp e q=>by
 unfold fIfS at e
 obtain ⟨⟨k,ρ1⟩,e1,e⟩:=obs e
 dsimp only at e
 refine ⟨P,O,L,ρ,k,ρ1,rp,e1,fun H1 r1=>?_⟩
 cases k with
 | true=>rw [if_pos rfl] at e ⊢;exact ⟨P,O,L,ρ1,r,r1,e,q⟩
 | false=>rw [if_neg Bool.false_ne_true] at e ⊢;exact ⟨P,O,L,ρ1,r,r1,e,q⟩⟩
noncomputable def fAsg (i:Nat) (f:FX):FS:=fun ρ=>(f ρ).bind fun p=>(bindW p.2 i p.1).map .nx
theorem qs_set (i:Nat){x:Str}{pos':Pos}(hN:X.N.Nodup)(ha:QX X e f)(hi:autoParam (X.N[i]? =some x) Zau.a2._auto_1)(hx:autoParam (Loc X.env.scope x) Zau.a8._auto_1)(hs:autoParam (swapsWith e (some (.Name x pos')) pos.line X.env=pure false) Zau.a2._auto_1)(hf:autoParam (X.fn x=true∨X.env.scope.names.lookup x=some .local) Zau.a9._auto_1):
  QS X (.Assign [.Name x pos'] e pos) (fAsg i f):=⟨PS.weak (ps_set hN hi hx ha.to hs hf) fun E σ H h0=>tSe h0 fun P O L ρ r rp e q=>by
 unfold fAsg at e
 obtain ⟨⟨w,ρ1⟩,e1,e⟩:=obs e
 dsimp only at e
 obtain ⟨ρ2,e2,e⟩:=oms e
 cases e
 exact ⟨P,O,L,ρ,w,ρ1,rp,e1,fun v H1 H' r1 s1 d1=>q _ H' (bind_ok r1 s1 d1 e2)⟩⟩
noncomputable abbrev FG:=D→Ev→Option Ev
noncomputable def GOk (X:Cx) (g:TG) (gf:FG):Prop:=∀(P:List (D×V)) (O:Av) (L:List (Nat×Addr)) (d:D) (v:V) (ρ ρ':Ev) (σ:L2.St) (H:Hp) (Q:L2.St→Hp→Prop),Rep X P O L ρ σ H→Den X.K (AvO O ρ σ) H d v→gf d ρ=some ρ'→(∀σ' H',Rep X P O L ρ' σ' H'→Q σ' H')→g v σ H Q
structure QG (X:Cx) (tg:Expr) (gf:FG):Prop where
 to:∃g,PG X tg g∧GOk X g gf
noncomputable abbrev FGs:=List D→Ev→Option Ev
structure QGs (X:Cx) (tgs:List Expr) (n:Nat) (gf:FGs):Prop where
 to:∃g,PGs X tgs g∧∀(P:List (D×V)) (O:Av) (L:List (Nat×Addr)) (ds:List D) (vs:List V) (ρ ρ':Ev) (σ:L2.St) (H:Hp) (Q:L2.St→Hp→Prop),Rep X P O L ρ σ H→DenL X.K (AvO O ρ σ) H ds vs→gf ds ρ=some ρ'→(∀σ' H',Rep X P O L ρ' σ' H'→Q σ' H')→g vs σ H Q
 len:∀ds ρ ρ',gf ds ρ=some ρ'→ds.length=n
noncomputable def gfName (i:Nat):FG:=fun d ρ=>if freeSlot ρ i=true then some (ρ.set i (some (.v d))) else none
theorem qg_name (i:Nat){x:Str}(hN:X.N.Nodup)(hi:autoParam (X.N[i]? =some x) Zau.a2._auto_1)(hx:autoParam (Loc X.env.scope x) Zau.a8._auto_1)(hf:autoParam (X.fn x=true∨X.env.scope.names.lookup x=some .local) Zau.a9._auto_1):QG X (.Name x pos) (gfName i):=
 ⟨gName i,pg_name hN hi hx hf,fun P O L d v ρ ρ' σ H Q r h e q=>by
  unfold gfName at e
  split at e
  ·rename_i hf;cases e;exact q _ H (r.put hf h)
  ·cases e⟩
noncomputable def gfNil:FGs:=fun ds ρ=>match ds with
 | []=>some ρ
 | _=>none
noncomputable def gfCons (gf:FG) (gs:FGs):FGs:=fun ds ρ=>match ds with
 | d :: ds=>(gf d ρ).bind (gs ds)
 | _=>none
noncomputable def gfTup (gs:FGs):FG:=fun d ρ=>match d with
 | .tup ds=>gs ds ρ
 | _=>none
theorem qgs_nil:QGs X [] 0 gfNil:=⟨⟨gNil,pgs_nil,fun P O L ds vs ρ ρ' σ H Q r l e q=>by
 cases ds with
 | nil=>cases e;rw [DenL] at l;exact ⟨l,q σ H r⟩
 | cons d ds=>cases e⟩,fun ds ρ ρ' e=>by cases ds with | nil=>rfl | cons d ds=>cases e⟩
theorem holdL {P:List (D×V)}{O:Av}{L:List (Nat×Addr)}{σ:L2.St}:∀{ds:List D} {vs:List V} {ρ:Ev} {H:Hp},Rep X P O L ρ σ H→DenL X.K (AvO O ρ σ) H ds vs→∃P',Rep X P' O L ρ σ H∧∀ρ2 σ2 H2,Rep X P' O L ρ2 σ2 H2→Rep X P O L ρ2 σ2 H2∧DenL X.K (AvO O ρ2 σ2) H2 ds vs
 | [],vs,ρ,H,r,l=>⟨P,r,fun ρ2 σ2 H2 r2=>⟨r2,by rw [DenL] at l ⊢;exact l⟩⟩
 | d :: ds,vs,ρ,H,r,l=>by
  rw [DenL] at l
  obtain ⟨v,rs,rfl,h,l⟩:=l
  obtain ⟨P',r1,k1⟩:=holdL r l
  exact ⟨(d,v) :: P',r1.more h,fun ρ2 σ2 H2 r2=>by
   obtain ⟨r3,l3⟩:=k1 ρ2 σ2 H2 r2.less
   exact ⟨r3,denL_cons r2.head l3⟩⟩
theorem qgs_cons {n:Nat}{tgs:List Expr}{tg:Expr}{gf:FG}{gs:FGs}(h:QG X tg gf)(t:QGs X tgs n gs)(hs:autoParam ((assignEach (tg :: tgs) X.env).map (·.2)=assign tg X.env :: (assignEach tgs X.env).map (·.2)) Zau.a2._auto_1):QGs X (tg :: tgs) (n + 1) (gfCons gf gs):=by
 obtain ⟨g,p,k⟩:=h.to
 obtain ⟨gg,pp,kk⟩:=t.to
 refine ⟨⟨gCons g gg,pgs_cons p pp hs,fun P O L ds vs ρ ρ' σ H Q r l e q=>?_⟩,fun ds ρ ρ' e=>?_⟩
 ·cases ds with
  | nil=>cases e
  | cons d ds=>
   rw [DenL] at l
   obtain ⟨v,rs,rfl,hd,l⟩:=l
   simp only [gfCons] at e
   obtain ⟨ρ1,e1,e⟩:=obs e
   obtain ⟨P',r1,k1⟩:=holdL r l
   refine ⟨v,rs,rfl,k P' O L d v ρ ρ1 σ H _ r1 hd e1 fun σ' H' r2=>?_⟩
   obtain ⟨r3,l3⟩:=k1 _ _ _ r2
   exact kk P O L ds rs ρ1 ρ' σ' H' Q r3 l3 e q
 ·cases ds with
  | nil=>cases e
  | cons d ds=>
   simp only [gfCons] at e
   cases e1:gf d ρ with
   | none=>rw [e1] at e;cases e
   | some ρ1=>rw [e1] at e;rw [List.length_cons,t.len ds ρ1 ρ' e]
theorem qg_tup {tgs:List Expr}{n k:Nat}{gs:FGs}(hc:X.calm=true)(h:QGs X tgs n gs)(hn:autoParam ((assignEach tgs X.env).length=n) Zau.a2._auto_1)(hst:autoParam ((assignEach tgs X.env).findIdx? (·.1)=none) Zau.a2._auto_1):QG X (.Tuple tgs k pos) (gfTup gs):=by
 obtain ⟨gg,pp,kk⟩:=h.to
 refine ⟨gTup X.K n gg,pg_tup hc pp hn hst,fun P O L d v ρ ρ' σ H Q r hd e q=>?_⟩
 cases d with
 | tup ds=>
  rw [Den] at hd
  obtain ⟨a,vs,ev,hq,l⟩:=hd
  exact ⟨a,vs,ev,hq,by rw [←denL_length l];exact h.len ds ρ ρ' e,kk P O L ds vs ρ ρ' σ H Q r l e q⟩
 | _=>cases e
noncomputable def gfSub (f g:FX):FG:=fun d ρ=>(f ρ).bind fun p=>match p.1 with
 | .r j=>(g p.2).bind fun q=>(dr q.2 q.1.fz).bind fun k=>match k,ownAt q.2 j with
  | .int k,some (.lst xs)=>(ixN xs.length k).map fun n=>setOwn q.2 j (.lst (xs.set n d))
  | _,_=>none
 | _=>none
theorem qg_sub (ha:QX X a f)(hb:QX X b g)(hs:autoParam (∀v,assign (.Subscript a b pos) X.env v=(do
   let ov ←holding [v] (eval a X.env)
   let iv ←holding [v,ov] (eval b X.env)
   standAt pos
   holding [v,ov,iv] (setItem ov iv v)
   release [v,ov,iv] [])) Zau.a3._auto_1):QG X (.Subscript a b pos) (gfSub f g):=by
 refine ⟨_,pg_sub ha.to hb.to set_list hs,fun P O L d v ρ ρ' σ H Q r hd e q=>?_⟩
 unfold gfSub at e
 obtain ⟨⟨w1,ρ1⟩,e1,e⟩:=obs e
 dsimp only at e
 split at e
 ·rename_i w1 j
  obtain ⟨⟨w2,ρ2⟩,e2,e⟩:=obs e
  dsimp only at e
  cases e3:dr ρ2 w2.fz with
  | none=>rw [e3] at e;cases e
  | some k=>
   rw [e3] at e
   simp only [Option.bind_some] at e
   split at e
   ·rename_i _ _ i xs e4
    obtain ⟨n,e5,e⟩:=oms e
    cases e
    have r0:Rep X ((d,v) :: P) O L ρ σ H:=r.more hd
    refine ⟨(d,v) :: P,O,L,ρ,_,ρ1,r0,e1,fun o H1 H1' r1 s1 d1=>?_⟩
    have d1:σ[j]? =some (some o):=d1
    refine ⟨(d,v) :: P,O,L,ρ1,w2,ρ2,r1.grow s1,e2,fun u H2 H2' r2 s2 d2=>?_⟩
    have r3:=r2.grow s2
    have ki:=denR_int (dr_den r3 e3 (d2.fz r2 s2))
    obtain ⟨w0,q0,ow⟩:=ownAt_some e4
    obtain ⟨pa,h1,vs,h2,l⟩:=r3.obj q0 ow
    rw [d1] at h1;cases h1
    have av:∀b,AvO O (setOwn ρ2 j (.lst (xs.set n d))) σ b→AvO O ρ2 σ b:=fun b z=>z.imp id fun z=>(setOwn_ow e4 b).mp z
    refine ⟨pa,vs,i,n,rfl,ki,h2,by rw [←denL_length l];exact e5,q σ _ ((r3.less).mut e4 d1 (fun b o eb nb=>by rw [upd_ne nb];exact eb) ⟨_,upd_same,?_⟩)⟩
    have g0:Go (AvO O ρ2 σ) (AvO O ρ2 σ) (fun b=>b=pa) H2' (upd H2' pa (.lst (vs.set n v))):=⟨fun b o eb nb=>by rw [upd_ne nb];exact eb,fun b z=>by rw [z];exact ⟨.inr ⟨j,w0,_,q0,ow,d1⟩,_,h2,trivial⟩,fun b z=>.inl z⟩
    exact denL_go g0 _ _ (denL_set r3.head n l)
   ·cases e
 ·cases e
noncomputable def fAsgG (f:FX) (gf:FG):FS:=fun ρ=>(f ρ).bind fun p=>(takeAll p.2 [p.1.fz]).bind fun q=>match q.1 with
 | [d]=>(gf d q.2).map .nx
 | _=>none
theorem qs_asg {tg:Expr}{gf:FG}(ha:QX X e f)(hg:QG X tg gf)(hs:autoParam (swapsWithSole [tg] e pos.line X.env=pure false) Zau.a2._auto_1)(hw:autoParam (swappedStores [tg] e X.env=pure none) Zau.a2._auto_1)(h1:autoParam ((assignEach [tg] X.env).map (·.2)=[assign tg X.env]) Zau.a2._auto_1):QS X (.Assign [tg] e pos) (fAsgG f gf):=by
 obtain ⟨g,p,k⟩:=hg.to
 refine ⟨PS.weak (ps_asg ha.to p hs hw h1) fun E σ H h0=>tSe h0 fun P O L ρ r rp e q=>?_⟩
 unfold fAsgG at e
 obtain ⟨⟨w,ρ1⟩,e1,e⟩:=obs e
 dsimp only at e
 obtain ⟨⟨ds,ρ2⟩,e2,e⟩:=obs e
 dsimp only at e
 split at e
 ·rename_i d
  obtain ⟨ρ3,e3,e⟩:=oms e
  cases e
  refine ⟨P,O,L,ρ,w,ρ1,rp,e1,fun v H1 H' r1 s1 d1=>?_⟩
  obtain ⟨r2,l2,_⟩:=takeAll_ok (vs:=[v]) (r1.grow s1) e2 ⟨v,[],rfl,d1.fz r1 s1,rfl⟩
  obtain ⟨v',ev,h'⟩:=denL1 l2
  cases ev
  exact k P O L d v ρ2 ρ3 σ H' _ r2 h' e3 fun σ' H' r'=>q σ' H' r'
 ·cases e
noncomputable def fDrop (f:FX):FS:=fun ρ=>(f ρ).map fun p=>.nx p.2
theorem qs_expr (ha:QX X e f)(hs:autoParam (swapsWith e none pos.line X.env=pure false) Zau.a2._auto_1):QS X (.Expr e pos) (fDrop f):=⟨PS.weak (ps_expr ha.to hs) fun E σ H h0=>tSe h0 fun P O L ρ r rp e q=>by
 unfold fDrop at e
 obtain ⟨p,e1,e⟩:=oms e
 cases e
 exact ⟨P,O,L,ρ,p.1,p.2,rp,e1,fun v H1 H' r1 s1 d1=>q σ H' (r1.grow s1)⟩⟩
noncomputable def fPar (i j:Nat) (fa:FA):FS:=fun ρ=>(fa ρ).bind fun p=>(takeAll p.2 p.1).bind fun q=>match q.1 with
 | [d,d']=>if freeSlot q.2 i=true∧freeSlot (q.2.set i (some (.v d))) j=true then some (.nx ((q.2.set i (some (.v d))).set j (some (.v d')))) else none
 | _=>none
theorem qs_par (i j:Nat){x y:Str}{px py pt:Pos}{kt k2 pt2}(hc:X.calm=true)(hN:X.N.Nodup)(ha:QA X [a,b] fa)(hw:swappedStores [.Tuple [.Name x px,.Name y py] kt pt] (.Tuple [a,b] k2 pt2) X.env=pure (some [x,y]))(hi:autoParam (X.N[i]? =some x) Zau.a2._auto_1)(hj:autoParam (X.N[j]? =some y) Zau.a2._auto_1)(hij:autoParam (i≠j) Zau.a1._auto_1)
  (hx:autoParam (X.env.scope.names.lookup x=some .local) Zau.a2._auto_1) (hy:autoParam (X.env.scope.names.lookup y=some .local) Zau.a2._auto_1)
  (hs:autoParam (swapsWithSole [.Tuple [.Name x px,.Name y py] kt pt] (.Tuple [a,b] k2 pt2) pos.line X.env=pure false) Zau.a2._auto_1):
  QS X (.Assign [.Tuple [.Name x px,.Name y py] kt pt] (.Tuple [a,b] k2 pt2) pos) (fPar i j fa):=⟨PS.weak (ps_par hc hN hi hj hij hx hy ha.to hw hs) fun E σ H h0=>tSe h0 fun P O L ρ r rp e q=>by
 unfold fPar at e
 obtain ⟨⟨ws,ρ1⟩,e1,e⟩:=obs e
 dsimp only at e
 obtain ⟨⟨ds,ρ2⟩,e2,e⟩:=obs e
 dsimp only at e
 split at e
 ·rename_i d d'
  split at e
  ·rename_i hf
   cases e
   refine ⟨P,O,L,ρ,ws,ρ1,rp,e1,fun vs H1 r1 l1=>?_⟩
   obtain ⟨r2,l2,_⟩:=takeAll_ok r1 e2 l1
   obtain ⟨v,v',rfl,h,h'⟩:=denL2 l2
   have r3:=(r2.more (p:=(d',v')) h').put (i:=i) hf.1 h
   exact ⟨v,v',rfl,q _ H1 (r3.less.put (i:=j) hf.2 r3.head)⟩
  ·cases e
 ·cases e⟩
end
end Z
set_option maxHeartbeats 1000000
namespace Z
open PySem PySem.Spec PyProof.Rows L2
noncomputable def whileF (c:FT) (b:FS):Nat→Ev→Option R
 | 0,_=>none
 | n + 1,ρ=>(c ρ).bind fun k=>if k.1=true then (b k.2).bind (fun r=>match r with
   | .nx ρ'=>whileF c b n ρ'
   | .ct ρ'=>whileF c b n ρ'
   | .bk ρ'=>some (.nx ρ')
   | .rt d ρ'=>some (.rt d ρ')) else some (.nx k.2)
theorem whileF_more {c:FT}{b:FS}:∀{n:Nat} {ρ:Ev} {r:R},whileF c b n ρ=some r→whileF c b (n + 1) ρ=some r
 | 0,ρ,r,h=>by cases h
 | n + 1,ρ,r,h=>by
  rw [whileF] at h ⊢
  cases e:c ρ with
  | none=>rw [e] at h;cases h
  | some k=>
   rw [e] at h
   obtain ⟨k,ρ1⟩:=k
   cases k with
   | false=>exact h
   | true=>
    simp only [Option.bind_some,if_true] at h ⊢
    cases e2:b ρ1 with
    | none=>rw [e2] at h;cases h
    | some r2=>
     rw [e2] at h
     cases r2 with
     | nx ρ'=>exact whileF_more (n:=n) h
     | ct ρ'=>exact whileF_more (n:=n) h
     | bk ρ'=>exact h
     | rt d ρ'=>exact h
theorem whileF_le {c:FT}{b:FS}{n m:Nat}{ρ:Ev}{r:R}(h:whileF c b n ρ=some r)(hm:n≤m):whileF c b m ρ=some r:=by
 induction hm with
 | refl=>exact h
 | step _ ih=>exact whileF_more ih
open Classical in
noncomputable def whileV (c:FT) (b:FS):FS:=fun ρ=>if h:∃r,∃n,whileF c b n ρ=some r then some h.choose else none
theorem whileV_of {c:FT}{b:FS}{n:Nat}{ρ:Ev}{r:R}(h:whileF c b n ρ=some r):whileV c b ρ=some r:=by
 have z:∃r,∃n,whileF c b n ρ=some r:=⟨r,n,h⟩
 unfold whileV
 rw [dif_pos z]
 obtain ⟨m,hm⟩:=z.choose_spec
 have h1:=whileF_le h (Nat.le_max_left n m)
 have h2:=whileF_le hm (Nat.le_max_right n m)
 rw [h1] at h2
 exact h2.symm
theorem of_whileV {c:FT}{b:FS}{ρ:Ev}{r:R}(h:whileV c b ρ=some r):∃n,whileF c b n ρ=some r:=by
 unfold whileV at h
 split at h
 ·rename_i z
  cases h
  exact z.choose_spec
 ·cases h
section
variable {X:Cx}{a b c e:Expr}{es:List Expr}{st:Stmt}{rest bd els body:List Stmt}{pos:Pos}{f g:FX}{t:FT}{fa:FA}{F G:FS}
theorem qs_while (hp:PassesOwn (model X.prog X.w) X.A X.env X.xe)(hc:QT X c t)(hb:QSs X body F):QS X (.While c body [] pos) (whileV t F):=⟨PS.weak (ps_while hp hc.to hb.to) fun E σ H h0=>tSe h0 fun P O L ρ r rp e q=>by
 obtain ⟨n,e⟩:=of_whileV e
 refine ⟨fun m σ H=>∃ρ,Rep X P O L ρ σ H∧whileF t F m ρ=some r,⟨n,ρ,rp,e⟩,fun m σ H ⟨ρ,rp,e⟩=>?_⟩
 cases m with
 | zero=>cases e
 | succ m=>
  rw [whileF] at e
  obtain ⟨⟨k,ρ1⟩,e1,e⟩:=obs e
  refine ⟨P,O,L,ρ,k,ρ1,rp,e1,fun H1 r1=>?_⟩
  cases k with
  | false=>
   rw [if_neg Bool.false_ne_true]
   cases e
   exact q σ H1 r1
  | true=>
   rw [if_pos rfl]
   simp only [Option.bind_some,if_true] at e
   obtain ⟨r2,e2,e⟩:=obs e
   refine ⟨fun σ' H'=>∃ρ,Rep X P O L ρ σ' H'∧whileF t F m ρ=some r,fun σ' H' h=>⟨m,Nat.lt_succ_self m,h⟩,P,O,L,ρ1,r2,r1,e2,?_⟩
   cases r2 with
   | nx ρ'=>exact fun σ' H' rp'=>⟨ρ',rp',e⟩
   | ct ρ'=>exact fun σ' H' rp'=>⟨ρ',rp',e⟩
   | bk ρ'=>cases e;exact fun σ' H' rp'=>q σ' H' rp'
   | rt d ρ'=>cases e;exact q⟩
noncomputable abbrev FI:=Ev→Option (List D×Ev)
noncomputable def Wks (K:PySem.W.Frag) (P:List (D×V)) (xs:List D) (J:It):Prop:=∀(Y:Cx) (O:Av) (L:List (Nat×Addr)) (ρ:Ev) (σ:L2.St) (H:Hp),Y.K=K→Rep Y P O L ρ σ H→
 (∀(i:Nat) (x:D),xs[i]? =some x→J.go i H∧∀v H',J.yld i H v H'→Same H H'∧Den K (AvO O ρ σ) H' x v)∧J.stop xs.length H
noncomputable def Holds (P P':List (D×V)):Prop:=∀p∈P',p∈P
theorem Rep.holds {P P':List (D×V)}{O:Av}{L:List (Nat×Addr)}{ρ:Ev}{σ:L2.St}{H:Hp}(r:Rep X P O L ρ σ H)(h:Holds P P'):Rep X P' O L ρ σ H:=⟨r.same,r.amb,r.len,r.slot,r.inj,r.new,r.lnt,r.lnd,fun p hp=>r.prot p (h p hp)⟩
noncomputable def tI (X:Cx) (fi:FI):TI:=fun σ H R=>∃P O L ρ xs ρ',Rep X P O L ρ σ H∧fi ρ=some (xs,ρ')∧∀J H1 P',Rep X P' O L ρ' σ H1→Holds P' P→Wks X.K P' xs J→R J H1
theorem tIe {X:Cx}{fi:FI}{σ:L2.St}{H:Hp}{R:It→Hp→Prop}{C:Prop}(h:tI X fi σ H R)(k:∀P O L ρ xs ρ',Rep X P O L ρ σ H→fi ρ=some (xs,ρ')→(∀J H1 P',Rep X P' O L ρ' σ H1→Holds P' P→Wks X.K P' xs J→R J H1)→C):C:=by
 obtain ⟨P,O,L,ρ,w,ρ',r,e,q⟩:=h
 exact k P O L ρ w ρ' r e q
structure QI (X:Cx) (tg iter:Expr) (fi:FI):Prop where
 to:PI X tg iter (tI X fi)
theorem PI.weak {tg e:Expr}{t u:TI}(h:PI X tg e t)(w:∀σ H Q,u σ H Q→t σ H Q):PI X tg e u:=fun pins s σ H Q I q=>h pins s σ H Q I (w σ H Q q)
noncomputable def iSeq (K:PySem.W.Frag) (tl:TE):TI:=fun σ H R=>tl σ H fun x H1=>(∃a,x= .ref a∧(∃xs,SqL K H1 a xs)∧R (Itl K a) H1)∨∃a,x= .ref a∧(∃xs,SqT K H1 a xs)∧R (Itt K a) H1
theorem pi_seq {tg l:Expr}{tl:TE}(hl:PE X l tl):PI X tg l (iSeq X.K tl):=by
 intro pins s σ H R I h
 refine thn (hl pins s σ H _ I h) fun v s1 ⟨x,H1,I1,r1,q1⟩=>?_
 rcases q1 with ⟨a,e,⟨xs,hq⟩,q⟩ | ⟨a,e,⟨xs,hq⟩,q⟩
 ·subst e
  cases r1
  obtain ⟨its,rv,p,hz⟩:=I1.list hq
  refine wpAny_pyIter_list p.isList ?_
  refine ⟨s1.heap.objs.size,[s1.heap.objs.size],_,_,H1,rfl,I1.kept (t':=s1.toks) fun b o e=>Heap.get?_push_of_some _ e,turn_list a _,⟨_,Heap.get?_push_size _ rfl,rfl,rfl⟩,fun b hb=>?_,q⟩
  have e:b=s1.heap.objs.size:=by simpa using hb
  subst e
  exact I1.fpOk (Nat.le_refl _) (I1.hok.fresh (Nat.le_refl _))
 ·subst e
  cases r1
  obtain ⟨its,rv,p,hz⟩:=I1.tuple hq
  refine wpAny_pyIter_tuple (show s1.heap.IsTuple a its.toArray from p) ?_
  refine ⟨s1.heap.objs.size,[s1.heap.objs.size],_,_,H1,rfl,I1.kept (t':=s1.toks) fun b o e=>Heap.get?_push_of_some _ e,turn_tuple a _,⟨_,Heap.get?_push_size _ rfl,rfl,rfl⟩,fun b hb=>?_,q⟩
  have e:b=s1.heap.objs.size:=by simpa using hb
  subst e
  exact I1.fpOk (Nat.le_refl _) (I1.hok.fresh (Nat.le_refl _))
noncomputable def fiSeq (f:FX):FI:=fun ρ=>(f ρ).bind fun p=>(takeAll p.2 [p.1.fz]).bind fun q=>match q.1 with
 | [d]=>(items d).map fun xs=>(xs,q.2)
 | _=>none
theorem qi_seq {tg l:Expr}(hl:QX X l f):QI X tg l (fiSeq f):=⟨PI.weak (pi_seq hl.to) fun σ H R h0=>tIe h0 fun P O L ρ xs ρ' r e q=>by
 unfold fiSeq at e
 obtain ⟨⟨w,ρ1⟩,e1,e⟩:=obs e
 dsimp only at e
 obtain ⟨⟨ds,ρ2⟩,e2,e⟩:=obs e
 dsimp only at e
 split at e
 ·rename_i d
  obtain ⟨ys,e3,e⟩:=oms e
  cases e
  refine ⟨P,O,L,ρ,w,ρ1,r,e1,fun v H1 H' r1 s1 d1=>?_⟩
  obtain ⟨r2,l2,_⟩:=takeAll_ok (vs:=[v]) (r1.grow s1) e2 ⟨v,[],rfl,d1.fz r1 s1,rfl⟩
  obtain ⟨v',ev,h'⟩:=denL1 l2
  cases ev
  have r3:=r2.more (p:=(d,v)) h'
  have hh:Holds ((d,v) :: P) P:=fun p hp=>List.mem_cons_of_mem _ hp
  cases d with
  | tup zs=>
   cases e3
   have z:=h'
   rw [Den] at z
   obtain ⟨a,vs,rfl,hq,l⟩:=z
   refine .inr ⟨a,rfl,⟨vs,hq⟩,q _ H' _ r3 hh fun Y O' L' ρ' σ' Hh hY rr=>?_⟩
   have z:=rr.head
   rw [hY] at z
   rw [Den] at z
   obtain ⟨a',vs,ea,hq,l⟩:=z
   cases ea
   refine ⟨fun i x ex=>?_,vs,hq,by rw [←denL_length l];exact Nat.le_refl _⟩
   obtain ⟨v0,hv,dv⟩:=denL_get l ex
   exact ⟨⟨vs,v0,hq,hv⟩,fun w H' ⟨y1,y2⟩=>by subst y1;have:=y2 vs hq;rw [hv] at this;cases this;exact ⟨Same.refl _,dv⟩⟩
  | lst zs=>
   cases e3
   obtain ⟨a,vs,rfl,hq,l⟩:=den_r h'
   refine .inl ⟨a,rfl,⟨vs,hq⟩,q _ H' _ r3 hh fun Y O' L' ρ' σ' Hh hY rr=>?_⟩
   have z:=rr.head
   rw [hY] at z
   obtain ⟨a',vs,ea,hq,l⟩:=den_r z
   cases ea
   refine ⟨fun i x ex=>?_,vs,hq,by rw [←denL_length l];exact Nat.le_refl _⟩
   obtain ⟨v0,hv,dv⟩:=denL_get l ex
   exact ⟨⟨vs,v0,hq,hv⟩,fun w H' ⟨y1,y2⟩=>by subst y1;have:=y2 vs hq;rw [hv] at this;cases this;exact ⟨Same.refl _,dv⟩⟩
  | _=>cases e3
 ·cases e⟩
noncomputable def rngD (lo:Int) (n:Nat):List D:=(List.range n).map fun (i:Nat)=>D.int (lo + i)
theorem rng_walks {K:PySem.W.Frag}{P:List (D×V)}(lo:Int)(n:Nat):Wks K P (rngD lo n) (Itr lo n):=fun Y O L ρ σ H _ _=>by
 unfold rngD
 refine ⟨fun i x ex=>?_,by show (List.length _)≥n;simp⟩
 rw [List.getElem?_map] at ex
 by_cases hi:i < n
 ·rw [List.getElem?_range hi] at ex
  cases ex
  exact ⟨hi,fun v H' ⟨y1,y2⟩=>by subst y1;exact ⟨Same.refl _,den_int.mpr y2⟩⟩
 ·rw [List.getElem?_eq_none (by simpa using hi)] at ex;cases ex
noncomputable def fiR1 (fa:FA):FI:=fun ρ=>(fa ρ).bind fun p=>match p.1 with
 | [.v (.int n)]=>if -(2 ^ 62)≤n∧n < 2 ^ 62 then some (rngD 0 n.toNat,p.2) else none
 | _=>none
theorem qi_r1 {tg:Expr}{p:Pos}(hm:X.mg "range"=none)(ha:QA X [a] fa)(hg:autoParam (Gl X "range") Zau.a2._auto_1)(hs:autoParam (starEach [a] X.env=[(false,eval a X.env)]) Zau.a2._auto_1):QI X tg (.Call (.Name "range" p) [a] [] pos) (fiR1 fa):=⟨PI.weak (pi_range1 hg hm ha.to hs) fun σ H R h0=>tIe h0 fun P O L ρ xs ρ' r e q=>by
 unfold fiR1 at e
 obtain ⟨⟨ws,ρ1⟩,e1,e⟩:=obs e
 dsimp only at e
 split at e
 ·rename_i n
  split at e
  ·rename_i hn
   cases e
   refine ⟨P,O,L,ρ,_,_,r,e1,fun vs H1 r1 l1=>?_⟩
   obtain ⟨v,rs,rfl,h1,l1⟩:=l1
   have l1:rs=[]:=l1
   have h1:Den X.K (AvO O ρ' σ) H1 (.int n) v:=h1
   subst l1
   exact ⟨n,by rw [den_int.mp h1],hn.1,hn.2,q _ H1 P r1 (fun p hp=>hp) (rng_walks 0 _)⟩
  ·cases e
 ·cases e⟩
noncomputable def fiR2 (fa:FA):FI:=fun ρ=>(fa ρ).bind fun p=>match p.1 with
 | [.v (.int m),.v (.int n)]=>if (-(2 ^ 62)≤m∧m < 2 ^ 62)∧-(2 ^ 62)≤n∧n < 2 ^ 62 then some (rngD m (n - m).toNat,p.2) else none
 | _=>none
theorem qi_r2 {tg:Expr}{p:Pos}(hm:X.mg "range"=none)(ha:QA X [a,b] fa)(hg:autoParam (Gl X "range") Zau.a2._auto_1)(hs:autoParam (starEach [a,b] X.env=[(false,eval a X.env),(false,eval b X.env)]) Zau.a2._auto_1)(hs2:autoParam (starEach [b] X.env=[(false,eval b X.env)]) Zau.a2._auto_1):QI X tg (.Call (.Name "range" p) [a,b] [] pos) (fiR2 fa):=⟨PI.weak (pi_range2 hg hm ha.to hs hs2) fun σ H R h0=>tIe h0 fun P O L ρ xs ρ' r e q=>by
 unfold fiR2 at e
 obtain ⟨⟨ws,ρ1⟩,e1,e⟩:=obs e
 dsimp only at e
 split at e
 ·rename_i m n
  split at e
  ·rename_i hn
   cases e
   refine ⟨P,O,L,ρ,_,_,r,e1,fun vs H1 r1 l1=>?_⟩
   obtain ⟨v,rs,rfl,h1,u,rs',rfl,h2,l1⟩:=l1
   have l1:rs'=[]:=l1
   have h1:Den X.K (AvO O ρ' σ) H1 (.int m) v:=h1
   have h2:Den X.K (AvO O ρ' σ) H1 (.int n) u:=h2
   subst l1
   exact ⟨m,n,by rw [den_int.mp h1,den_int.mp h2],⟨hn.1.1,hn.1.2,hn.2.1,hn.2.2⟩,q _ H1 P r1 (fun p hp=>hp) (rng_walks m _)⟩
  ·cases e
 ·cases e⟩
noncomputable def loopF (b:D→FS):List D→Ev→Option R
 | [],ρ=>some (.nx ρ)
 | x :: xs,ρ=>(b x ρ).bind fun r=>match r with
  | .nx ρ'=>loopF b xs ρ'
  | .ct ρ'=>loopF b xs ρ'
  | .bk ρ'=>some (.nx ρ')
  | .rt d ρ'=>some (.rt d ρ')
noncomputable def turnF (gf:FG) (b:FS):D→FS:=fun x ρ=>(gf x ρ).bind b
noncomputable def fFor (fi:FI) (gf:FG) (b:FS):FS:=fun ρ=>(fi ρ).bind fun p=>loopF (turnF gf b) p.1 p.2
theorem qs_for {tg iter:Expr}{fi:FI}{gf:FG}(hp:PassesOwn (model X.prog X.w) X.A X.env X.xe)(hc:X.calm=true)(hi:QI X tg iter fi)(hg:QG X tg gf)(hb:QSs X body F)(hs:autoParam (∀x,foldedSetIterable iter X.env x=pure x) Zau.a3._auto_1):
  QS X (.For tg iter body [] pos) (fFor fi gf F):=by
 obtain ⟨g,pg,kg⟩:=hg.to
 refine ⟨PS.weak (ps_for hp hc hi.to pg hb.to hs) fun E σ H h0=>tSe h0 fun P O L ρ r rp e q=>?_⟩
 unfold fFor at e
 obtain ⟨⟨xs,ρ1⟩,e1,e⟩:=obs e
 dsimp only at e
 refine ⟨P,O,L,ρ,xs,ρ1,rp,e1,fun J H1 P' r1 hh wk=>?_⟩
 refine ⟨fun i m σ H=>m=xs.length - i∧i≤xs.length∧∃ρ,Rep X P' O L ρ σ H∧loopF (turnF gf F) (xs.drop i) ρ=some r,⟨xs.length,by simp,Nat.zero_le _,ρ1,r1,by simpa using e⟩,?_⟩
 rintro i m σ H ⟨rfl,hi,ρ,rp,e⟩
 obtain ⟨wi,ws⟩:=wk X O L ρ σ H rfl rp
 by_cases hlt:i < xs.length
 ·obtain ⟨go,yl⟩:=wi i xs[i] (by simp [hlt])
  refine .inr ⟨go,fun σ' H'=>∃ρ,Rep X P' O L ρ σ' H'∧loopF (turnF gf F) (xs.drop (i + 1)) ρ=some r,fun σ' H' h=>⟨xs.length - (i + 1),by omega,rfl,hlt,h⟩,fun v H' y=>?_⟩
  obtain ⟨sm,dv⟩:=yl v H' y
  rw [List.drop_eq_getElem_cons hlt,loopF] at e
  cases e1:turnF gf F xs[i] ρ with
  | none=>rw [e1] at e;cases e
  | some r1=>
   rw [e1] at e
   simp only [Option.bind_some] at e
   unfold turnF at e1
   obtain ⟨ρ1,e2,e1⟩:=obs e1
   refine kg P' O L xs[i] v ρ ρ1 σ _ _ (rp.grow sm) dv e2 fun σ' H2 rp'=>⟨P',O,L,ρ1,r1,rp',e1,?_⟩
   cases r1 with
   | nx ρ2=>exact fun σ2 H2 rp2=>⟨ρ2,rp2,e⟩
   | ct ρ2=>exact fun σ2 H2 rp2=>⟨ρ2,rp2,e⟩
   | bk ρ2=>cases e;exact fun σ2 H2 rp2=>q σ2 H2 (rp2.holds hh)
   | rt d ρ2=>cases e;exact q
 ·have ei:i=xs.length:=by omega
  subst ei
  rw [List.drop_length,loopF] at e
  cases e
  exact .inl ⟨ws,q σ H (rp.holds hh)⟩
end
end Z
set_option maxHeartbeats 1000000
namespace Z
open PySem PySem.Spec PyProof.Rows L2
noncomputable def spF (K:PySem.W.Frag) (g:List D→Option W):Sp:=fun vs H Q _=>∃(A:Av) (ds:List D) (w:W),(∀b,A b→∃o,H b=some o)∧DenL K A H ds vs∧g ds=some w∧∀v H',Same H H'→DenW K A [] H H' w v→Q v H'
noncomputable def spL (K:PySem.W.Frag) (g:D→List D→Option (W×D)):Sp:=fun vs H Q _=>∃(A:Av) (a:Addr) (c:D) (ds:List D) (us:List V) (w:W) (c':D),vs= .ref a :: us∧(∀b,A b→∃o,H b=some o)∧¬A a∧Obj K (fun b=>A b∨b=a) H a c∧DenL K (fun b=>A b∨b=a) H ds us∧g c ds=some (w,c')∧
 ∀v H',(∀b o,H b=some o→b≠a→H' b=some o)→Obj K (fun b=>A b∨b=a) H' a c'→DenW K (fun b=>A b∨b=a) [] H H' w v→Q v H'
structure FnS (P:Program) (w:World) (K:PySem.W.Frag) (mg:Str→Option Value) (base:Heap) (x:Str) (k:Nat) (sp:Sp):Prop where
 ex:∃(f:Addr) (fd:FuncData) (ps:List Str),FnOk P w K mg base CX0 k f fd ps sp∧Binds K fd ps []∧PySem.W.keepIn K (.ref f)=true∧mg x=some (.ref f)
noncomputable abbrev Fn (P:Program) (w:World) (K:PySem.W.Frag) (mg:Str→Option Value) (base:Heap) (x:Str) (k:Nat) (g:List D→Option W):Prop:=FnS P w K mg base x k (spF K g)
noncomputable abbrev FnL (P:Program) (w:World) (K:PySem.W.Frag) (mg:Str→Option Value) (base:Heap) (x:Str) (k:Nat) (g:D→List D→Option (W×D)):Prop:=FnS P w K mg base x k (spL K g)
section
variable {P:Program}{w:World}{K:PySem.W.Frag}{mg:Str→Option Value}{base:Heap}{x:Str}{j k:Nat}
theorem FnS.mono {sp:Sp}(F:FnS P w K mg base x j sp)(h:j≤k):FnS P w K mg base x k sp:=by
 obtain ⟨f,fd,ps,a,b,c,d⟩:=F.ex
 exact ⟨f,fd,ps,a.mono h,b,c,d⟩
end
noncomputable def lfC:D→Bool
 | .lst xs=>lfL xs
 | .dT _ xs=>lfL xs
 | .dK _ xs=>lfL xs
 | _=>false
noncomputable def lfW:W→Bool
 | .v d=>lf d
 | .o d=>lfC d
 | _=>false
noncomputable def frzL:List W→Ev→Option Ev
 | [],ρ=>some ρ
 | .r i :: ws,ρ=>(frzAt ρ i).bind (frzL ws)
 | _ :: ws,ρ=>frzL ws ρ
noncomputable def fDef (g:List D→Option W) (fa:FA):FX:=fun ρ=>(fa ρ).bind fun p=>(drs p.2 p.1).bind fun ds=>(g ds).bind fun w=>if lfW w=true then some (w,p.2) else (frzL p.1 p.2).map fun ρ2=>(w,ρ2)
noncomputable def noR (i:Nat):List W→Bool
 | []=>true
 | .r j :: ws=>i != j && noR i ws
 | _ :: ws=>noR i ws
noncomputable def fDefL (g:D→List D→Option (W×D)) (fa:FA):FX:=fun ρ=>(fa ρ).bind fun p=>match p.1 with
 | .r i :: ws=>(ownAt p.2 i).bind fun c=>(drs p.2 ws).bind fun ds=>(g c ds).bind fun z=>if noR i ws=true∧lfC z.2=true then (if lfW z.1=true then some (z.1,setOwn p.2 i z.2) else (frzL ws (setOwn p.2 i z.2)).map fun ρ2=>(z.1,ρ2)) else none
 | _=>none
section
variable {K:PySem.W.Frag}{A A':Av}{H H' H0 H1:Hp}
theorem obj_lf (g:∀b o,H b=some o→¬Mu o→H' b=some o){a:Addr}{d:D}(f:lfC d=true)(hk:H' a=H a)(h:Obj K A H a d):Obj K A' H' a d:=by
 cases d with
 | lst xs=>obtain ⟨vs,e,l⟩:=h;exact ⟨vs,hk.trans e,denL_lf g _ _ f l⟩
 | dT ks xs=>obtain ⟨vs,e,hl,l⟩:=h;exact ⟨vs,hk.trans e,hl,denL_lf g _ _ f l⟩
 | dK ks xs=>obtain ⟨vs,e,hl,l⟩:=h;exact ⟨vs,hk.trans e,hl,denL_lf g _ _ f l⟩
 | _=>exact h.elim
end
section
variable {X:Cx}{P:List (D×V)}{O:Av}{L:List (Nat×Addr)}{ρ ρ':Ev}{σ:L2.St}{H H1 H':Hp}
theorem frzL_ok:∀{ws:List W} {ρ ρ':Ev},Rep X P O L ρ σ H→frzL ws ρ=some ρ'→Rep X P O L ρ' σ H∧∀(j:Nat) (w:W) (d:D),ρ'[j]? =some (some w)→w.own=some d→ρ[j]? =some (some w)∧W.r j∉ws
 | [],ρ,ρ',r,e=>by cases e;exact ⟨r,fun j w d e1 _=>⟨e1,by simp⟩⟩
 | .r i :: ws,ρ,ρ',r,e=>by
  rw [frzL] at e
  obtain ⟨ρ1,e1,e⟩:=obs e
  obtain ⟨r1,k1⟩:=r.frz e1
  obtain ⟨r2,k2⟩:=frzL_ok r1 e
  refine ⟨r2,fun j w d e1 e2=>?_⟩
  obtain ⟨a1,a2⟩:=k2 j w d e1 e2
  obtain ⟨b1,b2⟩:=k1 j w d a1 e2
  exact ⟨b1,fun z=>(List.mem_cons.mp z).elim (fun z=>by cases z;exact b2 rfl) a2⟩
 | .v _ :: ws,ρ,ρ',r,e=>by
  obtain ⟨r2,k2⟩:=frzL_ok (ws:=ws) r e
  exact ⟨r2,fun j w d e1 e2=>⟨(k2 j w d e1 e2).1,fun z=>(List.mem_cons.mp z).elim (fun z=>by cases z) (k2 j w d e1 e2).2⟩⟩
 | .o _ :: ws,ρ,ρ',r,e=>by
  obtain ⟨r2,k2⟩:=frzL_ok (ws:=ws) r e
  exact ⟨r2,fun j w d e1 e2=>⟨(k2 j w d e1 e2).1,fun z=>(List.mem_cons.mp z).elim (fun z=>by cases z) (k2 j w d e1 e2).2⟩⟩
 | .l _ :: ws,ρ,ρ',r,e=>by
  obtain ⟨r2,k2⟩:=frzL_ok (ws:=ws) r e
  exact ⟨r2,fun j w d e1 e2=>⟨(k2 j w d e1 e2).1,fun z=>(List.mem_cons.mp z).elim (fun z=>by cases z) (k2 j w d e1 e2).2⟩⟩
noncomputable def Handed (ρ:Ev) (σ:L2.St) (ws:List W) (b:Addr):Prop:=∃(i:Nat) (w:W) (d:D),W.r i∈ws∧ρ[i]? =some (some w)∧w.own=some d∧σ[i]? =some (some (V.ref b))
theorem args_view {B:Av}(r:Rep X P O L ρ σ H)(hB:∀b,B b→AvO O ρ σ b):∀{ws:List W} {ds:List D} {vs:List V},(∀b,B b→¬Handed ρ σ ws b)→drs ρ ws=some ds→DenA X.K (AvO O ρ σ) σ H ws vs→DenL X.K B H ds vs
 | [],ds,vs,n,e,h=>by cases e;have h:vs=[]:=h;subst h;exact denL_nil
 | w :: ws,ds,vs,n,e,h=>by
  obtain ⟨v,rs,rfl,h1,h2⟩:=h
  rw [drs] at e
  cases e1:dr ρ w with
  | none=>rw [e1] at e;cases e
  | some d=>
   cases e2:drs ρ ws with
   | none=>rw [e1,e2] at e;cases e
   | some dd=>
    rw [e1,e2] at e;cases e
    refine denL_cons ?_ (args_view r hB (fun b z y=>n b z (let ⟨i,w,d,m,q⟩:=y;⟨i,w,d,List.mem_cons_of_mem _ m,q⟩)) e2 h2)
    cases w with
    | v c=>cases e1;exact den_go (go_av hB) _ _ h1
    | r i=>
     have h1:σ[i]? =some (some v):=h1
     rw [dr] at e1
     cases q:ρ[i]? with
     | none=>rw [q] at e1;cases e1
     | some o=>
      rw [q] at e1
      cases o with
      | none=>cases e1
      | some w'=>
       cases w' with
       | v c=>
        cases e1
        obtain ⟨u,q1,q2⟩:=r.slot i _ q
        rw [h1] at q1;cases q1
        exact den_go (go_av hB) _ _ q2
       | _=>
        obtain ⟨a,q1,q2⟩:=r.obj q e1
        rw [h1] at q1;cases q1
        exact obj_den (obj_go (go_av hB) rfl q2) fun z=>n a z ⟨i,_,d,List.mem_cons_self,q,e1,h1⟩
    | _=>cases e1
theorem handed_frz {ws:List W}(r:Rep X P O L ρ σ H)(k:∀(j:Nat) (w:W) (d:D),ρ'[j]? =some (some w)→w.own=some d→ρ[j]? =some (some w)∧W.r j∉ws){b:Addr}(z:AvO O ρ' σ b):AvO O ρ σ b∧¬Handed ρ σ ws b:=by
 refine ⟨z.imp id fun ⟨j,w,d,e1,e2,e3⟩=>⟨j,w,d,(k j w d e1 e2).1,e2,e3⟩,fun ⟨i,w,d,m,q1,q2,q3⟩=>?_⟩
 rcases z with z | ⟨j,w',d',e1,e2,e3⟩
 ·exact r.ambN z ⟨i,w,d,q1,q2,q3⟩
 ·obtain ⟨a1,a2⟩:=k j w' d' e1 e2
  have:=r.inj i j w w' d d' b q1 q2 q3 a1 e2 e3
  subst this;exact a2 m
end
section
variable {X:Cx}{e:Expr}{es:List Expr}{pos p:Pos}{fa:FA}{x:Str}{k:Nat}
theorem qx_def {g:List D→Option W}(F:Fn X.prog X.w X.K X.mg X.base x k g)(hr:Room k X.A)(ha:QA X (e :: es) fa)(hg:autoParam (Gl X x) Zau.a2._auto_1)(hdb:autoParam ((x == ("__debug__":Str))=false) Zau.a1._auto_1)
  (he:autoParam (starEach (e :: es) X.env=(false,eval e X.env) :: starEach es X.env) Zau.a2._auto_1) (hpl:autoParam ((backTo pos (starEach es X.env)).any (·.1)=false) Zau.a2._auto_1):QX X (.Call (.Name x p) (e :: es) [] pos) (fDef g fa):=by
 obtain ⟨f,fd,ps,F,b,kp,hm⟩:=F.ex
 refine ⟨PE.weak (pe_call F hr hg hm kp b .nil pass0 ha.to hdb he hpl) fun σ H Q h0=>tXe h0 fun P O L ρ w ρ' r e q=>?_⟩
 unfold fDef at e
 obtain ⟨⟨ws,ρ1⟩,e1,e⟩:=obs e
 dsimp only at e
 cases e2:drs ρ1 ws with
 | none=>rw [e2] at e;cases e
 | some ds=>
  rw [e2] at e
  simp only [Option.bind_some] at e
  cases e3:g ds with
  | none=>rw [e3] at e;cases e
  | some w1=>
   rw [e3] at e
   simp only [Option.bind_some] at e
   refine ⟨P,O,L,ρ,ws,ρ1,r,e1,fun vs H1 r1 l1=>?_⟩
   refine ⟨fun b=>AvO O ρ1 σ b∧¬Handed ρ1 σ ws b,ds,w1,fun b z=>r1.there z.1,by rw [List.append_nil];exact args_view r1 (fun b z=>z.1) (fun b z=>z.2) e2 l1,e3,fun v H2 s2 d2=>?_⟩
   split at e
   ·rename_i hl
    cases e
    refine q v H1 H2 r1 s2 ?_
    cases w with
    | v d=>exact den_lf (fun _ _ e _=>e) _ _ hl d2
    | o d=>obtain ⟨a,ev,hn,ob⟩:=d2;exact ⟨a,ev,hn,obj_lf (fun _ _ e _=>e) hl rfl ob⟩
    | _=>cases hl
   ·obtain ⟨ρ2,e4,e⟩:=oms e
    cases e
    obtain ⟨r2,k2⟩:=frzL_ok r1 e4
    refine q v H1 H2 r2 s2 ?_
    have sub:=fun b (z:AvO O ρ' σ b)=>handed_frz r1 k2 z
    cases w with
    | v d=>exact den_go (go_av sub) _ _ d2
    | o d=>obtain ⟨a,ev,hn,ob⟩:=d2;exact ⟨a,ev,hn,obj_go (go_av fun b z=>z.imp (sub b) id) rfl ob⟩
    | r i=>exact absurd d2 (by simp [DenW])
    | l d=>exact d2.elim
theorem noR_not {i:Nat}:∀{ws:List W},noR i ws=true→W.r i∉ws
 | [],_=>by simp
 | .r j :: ws,h=>by
  rw [noR,Bool.and_eq_true] at h
  exact fun z=>(List.mem_cons.mp z).elim (fun z=>by cases z;simp at h) (noR_not h.2)
 | .v _ :: ws,h=>fun z=>(List.mem_cons.mp z).elim (fun z=>by cases z) (noR_not (ws:=ws) h)
 | .o _ :: ws,h=>fun z=>(List.mem_cons.mp z).elim (fun z=>by cases z) (noR_not (ws:=ws) h)
 | .l _ :: ws,h=>fun z=>(List.mem_cons.mp z).elim (fun z=>by cases z) (noR_not (ws:=ws) h)
theorem qx_defL {g:D→List D→Option (W×D)}(F:FnL X.prog X.w X.K X.mg X.base x k g)(hr:Room k X.A)(ha:QA X (e :: es) fa)(hg:autoParam (Gl X x) Zau.a2._auto_1)(hdb:autoParam ((x == ("__debug__":Str))=false) Zau.a1._auto_1)
  (he:autoParam (starEach (e :: es) X.env=(false,eval e X.env) :: starEach es X.env) Zau.a2._auto_1) (hpl:autoParam ((backTo pos (starEach es X.env)).any (·.1)=false) Zau.a2._auto_1):QX X (.Call (.Name x p) (e :: es) [] pos) (fDefL g fa):=by
 obtain ⟨f,fd,ps,F,b,kp,hm⟩:=F.ex
 refine ⟨PE.weak (pe_call F hr hg hm kp b .nil pass0 ha.to hdb he hpl) fun σ H Q h0=>tXe h0 fun P O L ρ w ρ' r e q=>?_⟩
 unfold fDefL at e
 obtain ⟨⟨ws0,ρ1⟩,e1,e⟩:=obs e
 dsimp only at e
 split at e
 ·rename_i i ws
  cases e0:ownAt ρ1 i with
  | none=>rw [e0] at e;cases e
  | some c=>
   rw [e0] at e
   simp only [Option.bind_some] at e
   cases e2:drs ρ1 ws with
   | none=>rw [e2] at e;cases e
   | some ds=>
    rw [e2] at e
    simp only [Option.bind_some] at e
    obtain ⟨⟨w1,c'⟩,e3,e⟩:=obs e
    dsimp only at e
    split at e
    ·rename_i hc
     refine ⟨P,O,L,ρ,_,ρ1,r,e1,fun vs H1 r1 l1=>?_⟩
     obtain ⟨v0,us,rfl,h0,l1⟩:=l1
     have h0:σ[i]? =some (some v0):=h0
     obtain ⟨w0,q0,ow⟩:=ownAt_some e0
     obtain ⟨a,h1,ob⟩:=r1.obj q0 ow
     rw [h0] at h1;cases h1
     have ia:Ow ρ1 σ a:=⟨i,w0,c,q0,ow,h0⟩
     have nh:¬Handed ρ1 σ ws a:=fun ⟨j,w',d',m,q1,q2,q3⟩=>by
      have:=r1.inj i j w0 w' c d' a q0 ow h0 q1 q2 q3
      subst this;exact noR_not hc.1 m
     have sub:∀b,((AvO O ρ1 σ b∧b≠a∧¬Handed ρ1 σ ws b)∨b=a)→AvO O ρ1 σ b:=fun b z=>z.elim (·.1) fun z=>by rw [z];exact .inr ia
     refine ⟨fun b=>AvO O ρ1 σ b∧b≠a∧¬Handed ρ1 σ ws b,a,c,ds,us,w1,c',by rw [List.append_nil],fun b z=>r1.there z.1,fun z=>z.2.1 rfl,obj_go (go_av sub) rfl ob,
      args_view r1 sub (fun b z=>z.elim (·.2.2) fun z=>by rw [z];exact nh) e2 l1,e3,fun v H2 k2 o2 d2=>?_⟩
     have main:∃Hx,Same Hx H2∧Rep X P O L (setOwn ρ1 i c') σ Hx∧∀A':Av,((∀b,A' b→((AvO O ρ1 σ b∧b≠a∧¬Handed ρ1 σ ws b)∨b=a))∨lfW w1=true)→DenW X.K A' σ Hx H2 w1 v:=by
      cases w1 with
      | v d=>
       refine ⟨H2,Same.refl _,r1.mut e0 h0 k2 (obj_lf (fun _ _ e _=>e) hc.2 rfl o2),fun A' h=>?_⟩
       rcases h with h | h
       ·exact den_go (go_av h) _ _ d2
       ·exact den_lf (fun _ _ e _=>e) _ _ h d2
      | o d=>
       obtain ⟨ar,ev,hn,obr⟩:=d2
       obtain ⟨u0,eu0,_⟩:=obj_mu ob
       obtain ⟨ur,eur,mur⟩:=obj_mu obr
       have na:a≠ar:=fun z=>by rw [z,hn] at eu0;cases eu0
       refine ⟨fun b=>if b=ar then none else H2 b,fun b o eb=>?_,r1.mut e0 h0 (fun b o eb nb=>?_) (obj_lf (fun b o eb nm=>?_) hc.2 (if_neg na) o2),fun A' h=>⟨ar,ev,if_pos rfl,?_⟩⟩
       ·dsimp only at eb;split at eb
        ·cases eb
        ·exact eb
       ·have:b≠ar:=fun z=>by rw [z,hn] at eb;cases eb
        show (if b=ar then none else H2 b)=some o
        rw [if_neg this];exact k2 b o eb nb
       ·have:b≠ar:=fun z=>by rw [z,eur] at eb;cases eb;exact nm mur
        show (if b=ar then none else H2 b)=some o
        rw [if_neg this];exact eb
       ·rcases h with h | h
        ·exact obj_go (go_av fun b z=>z.imp (h b) id) rfl obr
        ·exact obj_lf (fun _ _ e _=>e) h rfl obr
      | r i=>exact absurd d2 (by simp [DenW])
      | l d=>exact d2.elim
     obtain ⟨Hx,sx,rx,dx⟩:=main
     split at e
     ·rename_i hl
      cases e
      exact q v Hx H2 rx sx (dx _ (.inr hl))
     ·obtain ⟨ρ2,e4,e⟩:=oms e
      cases e
      obtain ⟨r2,k3⟩:=frzL_ok rx e4
      refine q v Hx H2 r2 sx (dx _ (.inl fun b z=>?_))
      obtain ⟨z1,z2⟩:=handed_frz rx k3 z
      by_cases hb:b=a
      ·exact .inr hb
      ·refine .inl ⟨z1.imp id fun z=>(setOwn_ow e0 b).mp z,hb,fun ⟨j,w',d',m,q1,q2,q3⟩=>z2 ?_⟩
       have hj:i≠j:=fun z=>by subst z;exact noR_not hc.1 m
       obtain ⟨w2,_,es,_⟩:=setOwn_get (d:=c') e0
       exact ⟨j,w',d',m,by rw [es,List.getElem?_set_ne hj];exact q1,q2,q3⟩
    ·cases e
 ·cases e
end
noncomputable def start0 (n:Nat) (ds:List D):Ev:=ds.map (fun d=>some (.v d)) ++ List.replicate (n - ds.length) none
noncomputable def runD (np n:Nat) (G:FS):List D→Option W:=fun ds=>if ds.length=np then match G (start0 n ds) with
 | some (.rt w _)=>some w
 | some (.nx _)=>some (.v .non)
 | _=>none else none
noncomputable def runL (np n:Nat) (G:FS):D→List D→Option (W×D):=fun c ds=>if ds.length + 1=np then match G (some (.l c) :: start0 (n - 1) ds) with
 | some (.rt w ρ)=>(ownAt ρ 0).map fun c'=>(w,c')
 | some (.nx ρ)=>(ownAt ρ 0).map fun c'=>(.v .non,c')
 | _=>none else none
section
variable {P:Program}{w:World}{K:PySem.W.Frag}{mg:Str→Option Value}{base:Heap}
theorem start0_get {n i:Nat}{ds:List D}{w:W}(e:(start0 n ds)[i]? =some (some w)):∃d,ds[i]? =some d∧w= .v d:=by
 unfold start0 at e
 by_cases hi:i < ds.length
 ·rw [List.getElem?_append_left (by simpa using hi),List.getElem?_map] at e
  cases q:ds[i]? with
  | none=>rw [q] at e;cases e
  | some d0=>rw [q] at e;cases e;exact ⟨d0,rfl,rfl⟩
 ·rw [List.getElem?_append_right (by simpa using hi),List.getElem?_replicate] at e
  split at e <;> cases e
theorem rep_start {X:Cx}{ds:List D}{vs:List V}{n:Nat}{N:List Str}{H:Hp}{A:Av}(hH:X.H₀=H)(hN:N.length=n)(hA:∀b,A b→∃o,H b=some o)(l:DenL X.K A H ds vs):Rep X [] A [] (start0 n ds) (start N vs) H where
 same:=fun b o e _=>by rw [←hH];exact e
 amb:=fun b z=>by rw [hH];exact ⟨hA b z,fun i=>by simp⟩
 len:=by unfold start0 L2.start;simp [denL_length l,hN]
 slot:=fun i w e=>by
  obtain ⟨d,q,rfl⟩:=start0_get e
  obtain ⟨v,h1,h2⟩:=denL_get l q
  refine ⟨v,?_,den_go (go_av fun b z=>?_) _ _ h2⟩
  ·unfold L2.start
   rw [List.getElem?_append_left (by have:=(List.getElem?_eq_some_iff.mp h1).1;simpa using this),List.getElem?_map,h1];rfl
  ·rcases z with z | ⟨j,w,c,e1,e2,e3⟩
   ·exact z
   ·obtain ⟨d',q',rfl⟩:=start0_get e1;cases e2
 inj:=fun i j w w' d d' b e1 e2=>by obtain ⟨_,_,rfl⟩:=start0_get e1;cases e2
 new:=fun i d b e=>by obtain ⟨_,_,z⟩:=start0_get e;cases z
 lnt:=fun i d e=>by obtain ⟨_,_,z⟩:=start0_get e;cases z
 lnd:=fun i b e=>by simp at e
 prot:=fun p hp=>by cases hp
theorem rep_startL {X:Cx}{c:D}{a:Addr}{ds:List D}{vs:List V}{n:Nat}{N:List Str}{H:Hp}{A:Av}(hH:X.H₀=H)(hN:N.length=n + 1)(hA:∀b,A b→∃o,H b=some o)(hn:¬A a)(ob:Obj X.K (fun b=>A b∨b=a) H a c)(l:DenL X.K (fun b=>A b∨b=a) H ds vs):
  Rep X [] A [(0,a)] (some (.l c) :: start0 n ds) (start N (.ref a :: vs)) H:=by
 have es:start N (.ref a :: vs)=some (.ref a) :: (vs.map some ++ List.replicate (n - vs.length) none):=by unfold L2.start;simp [hN]
 have own:∀{i:Nat} {w:W} {d:D},(some (.l c) :: start0 n ds)[i]? =some (some w)→w.own=some d→i=0:=fun {i w d} e1 e2=>by
  cases i with
  | zero=>rfl
  | succ i=>rw [List.getElem?_cons_succ] at e1;obtain ⟨_,_,rfl⟩:=start0_get e1;cases e2
 have av:∀b,AvO A (some (.l c) :: start0 n ds) (start N (.ref a :: vs)) b→A b∨b=a:=fun b z=>z.imp id fun ⟨i,w,d,e1,e2,e3⟩=>by
  have:=own e1 e2
  subst this
  rw [es] at e3;cases e3;rfl
 refine ⟨fun b o e _=>by rw [←hH];exact e,fun b z=>⟨by rw [hH];exact hA b z,fun i m=>?_⟩,by rw [es];unfold start0;simp [denL_length l],fun i w e=>?_,fun i j w w' d d' b e1 e2 _ e3 e4 _=>(own e1 e2).trans (own e3 e4).symm,fun i d b e=>?_,fun i d e=>?_,fun i b e=>?_,fun p hp=>by cases hp⟩
 ·rw [List.mem_singleton] at m;cases m;exact hn z
 ·cases i with
  | zero=>cases e;exact ⟨.ref a,by rw [es];rfl,a,rfl,obj_go (go_av av) rfl ob⟩
  | succ i=>
   rw [List.getElem?_cons_succ] at e
   obtain ⟨d,q,rfl⟩:=start0_get e
   obtain ⟨v,h1,h2⟩:=denL_get l q
   refine ⟨v,?_,den_go (go_av av) _ _ h2⟩
   rw [es,List.getElem?_cons_succ,List.getElem?_append_left (by have:=(List.getElem?_eq_some_iff.mp h1).1;simpa using this),List.getElem?_map,h1];rfl
 ·cases i with
  | zero=>cases e
  | succ i=>rw [List.getElem?_cons_succ] at e;obtain ⟨_,_,z⟩:=start0_get e;cases z
 ·have:=own e rfl
  subst this
  exact ⟨a,by rw [es];rfl,by simp⟩
 ·rw [List.mem_singleton] at e;cases e;exact ⟨c,rfl,by rw [es];rfl⟩
theorem fn_mk {x:Str}{st:Stmt}{f:Addr}{fd:FuncData}{N ps:List Str}{k np n:Nat}{G:FS}(F:Fun K x x st f fd)(S:FnScope N ps (defScope st))(B:Binds K fd ps [])(hm:mg x=some (.ref f))(hp:ps.length=np)(hn:N.length=n)
  (body:∀(cdv:Value) (A:Around) (outer:List Env) (s:Shared) (H:Hp) (E:XK),Room k (A.deeper (envOfC x (defScope st) s.heap.objs.size f cdv))→
   QSs (cxOf CX0 P w K mg base N x (defScope st) f cdv A outer s H E).nox (defBody st) G):Fn P w K mg base x (k + 1) (runD np n G):=by
 refine ⟨f,fd,ps,F.ok S (fun vs H Q E h0=>?_) (fun cdv A outer s H vs Q E hr h0=>⟨_,(body cdv A outer s H E hr).to,?_⟩),B,F.kp,hm⟩
 ·obtain ⟨A,ds,d,hA,l,e,q⟩:=h0
  unfold runD at e
  split at e
  ·rename_i hl;rw [←denL_length l,hl,hp]
  ·cases e
 ·obtain ⟨A',ds,d,hA,l,e,q⟩:=h0
  unfold runD at e
  split at e
  ·rename_i hl
   cases e1:G (start0 n ds) with
   | none=>rw [e1] at e;cases e
   | some r=>
    rw [e1] at e
    refine ⟨[],A',[],_,r,rep_start rfl hn hA l,e1,?_⟩
    have hz:∀{w:W} {v:V} {H':Hp},DenW K (A0 A' []) [] H H' w v→DenW K A' [] H H' w v:=fun {w v H'} h=>by
     have e0:A0 A' []=A':=funext fun b=>propext ⟨fun z=>z.elim id fun ⟨i,z⟩=>by simp at z,.inl⟩
     rw [e0] at h;exact h
    cases r with
    | rt w ρ'=>cases e;exact fun v H' s' _ d1=>q v H' (fun b o eb=>s' b o eb fun i=>by simp) (hz d1)
    | nx ρ'=>cases e;exact fun σ' H' rp'=>q .non H' (fun b o eb=>rp'.same b o eb fun i=>by simp) denW_non
    | bk ρ'=>cases e
    | ct ρ'=>cases e
  ·cases e
theorem fnL_mk {x:Str}{st:Stmt}{f:Addr}{fd:FuncData}{N ps:List Str}{k np n:Nat}{G:FS}(F:Fun K x x st f fd)(S:FnScope N ps (defScope st))(B:Binds K fd ps [])(hm:mg x=some (.ref f))(hp:ps.length=np)(hn:N.length=n + 1)
  (body:∀(cdv:Value) (A:Around) (outer:List Env) (s:Shared) (H:Hp) (E:XK),Room k (A.deeper (envOfC x (defScope st) s.heap.objs.size f cdv))→
   QSs (cxOf CX0 P w K mg base N x (defScope st) f cdv A outer s H E).nox (defBody st) G):FnL P w K mg base x (k + 1) (runL np (n + 1) G):=by
 refine ⟨f,fd,ps,F.ok S (fun vs H Q E h0=>?_) (fun cdv A outer s H vs Q E hr h0=>⟨_,(body cdv A outer s H E hr).to,?_⟩),B,F.kp,hm⟩
 ·obtain ⟨A,a,c,ds,us,w,c',e0,hA,hna,ob,l,e,q⟩:=h0
  unfold runL at e
  split at e
  ·rename_i hl;rw [e0,List.length_cons,←denL_length l,hl,hp]
  ·cases e
 ·obtain ⟨A',a,c,ds,us,w,c',e0,hA,hna,ob,l,e,q⟩:=h0
  subst e0
  unfold runL at e
  split at e
  ·rename_i hl
   rw [Nat.add_sub_cancel] at e
   cases e1:G (some (.l c) :: start0 n ds) with
   | none=>rw [e1] at e;cases e
   | some r=>
    rw [e1] at e
    refine ⟨[],A',[(0,a)],_,r,rep_startL rfl hn hA hna ob l,e1,?_⟩
    have ea:A0 A' [(0,a)]=fun b=>A' b∨b=a:=funext fun b=>propext (or_congr Iff.rfl ⟨fun ⟨i,z⟩=>by rw [List.mem_singleton] at z;cases z;rfl,fun z=>⟨0,by rw [z];exact List.mem_singleton.mpr rfl⟩⟩)
    have nl:∀{b:Addr},b≠a→∀i,(i,b)∉[(0,a)]:=fun n i z=>by rw [List.mem_singleton] at z;cases z;exact n rfl
    cases r with
    | rt w0 ρ'=>
     refine fun v H' s' ln d1=>?_
     obtain ⟨c0,h1,h2⟩:=ln 0 a (List.mem_singleton.mpr rfl)
     simp only [h1,Option.map_some] at e
     cases e
     rw [ea] at h2 d1
     exact q v H' (fun b o eb n=>s' b o eb (nl n)) h2 d1
    | nx ρ'=>
     refine fun σ' H' rp'=>?_
     obtain ⟨c0,h1,h2⟩:=rp'.lents 0 a (List.mem_singleton.mpr rfl)
     simp only [h1,Option.map_some] at e
     cases e
     rw [ea] at h2
     exact q .non H' (fun b o eb n=>rp'.same b o eb (nl n)) h2 denW_non
    | bk ρ'=>cases e
    | ct ρ'=>cases e
  ·cases e
end
@[elab_as_elim] theorem us1 {α:Type} {C:List α→Prop} {us:List α} (h:us.length=1) (k:∀a,C [a]):C us:=by
 match us,h with
 | [a],_=>exact k a
@[elab_as_elim] theorem us2 {α:Type} {C:List α→Prop} {us:List α} (h:us.length=2) (k:∀a b,C [a,b]):C us:=by
 match us,h with
 | [a,b],_=>exact k a b
@[elab_as_elim] theorem us3 {α:Type} {C:List α→Prop} {us:List α} (h:us.length=3) (k:∀a b c,C [a,b,c]):C us:=by
 match us,h with
 | [a,b,c],_=>exact k a b c
@[elab_as_elim] theorem us4 {α:Type} {C:List α→Prop} {us:List α} (h:us.length=4) (k:∀a b c d,C [a,b,c,d]):C us:=by
 match us,h with
 | [a,b,c,d],_=>exact k a b c d
end Z
set_option maxHeartbeats 1000000
namespace Z
open PySem PySem.Spec PyProof.Rows L2
section
variable {X:Cx}{a b c e:Expr}{es rest:List Expr}{pos:Pos}{f g h:FX}{t u:FT}{fa:FA}
theorem denR_bl {K:PySem.W.Frag}{A:Av}{H:Hp}{i:Bool}{v:V}(h:DenR K A H (.bl i) v):v= .bl i:=by
 have h:Den K A H (.bl i) v:=h
 exact den_bl.mp h
theorem denR_str {K:PySem.W.Frag}{A:Av}{H:Hp}{i:Str}{v:V}(h:DenR K A H (.str i) v):v= .str i:=by
 have h:Den K A H (.str i) v:=h
 exact den_str.mp h
theorem denR_non {K:PySem.W.Frag}{A:Av}{H:Hp}{v:V}(h:DenR K A H .non v):v= .non:=by
 have h:Den K A H .non v:=h
 exact den_non.mp h
noncomputable def tyD:D→String
 | .non=>"NoneType"
 | .bl _=>"bool"
 | .int _=>"int"
 | .str _=>"str"
 | .tup _=>"tuple"
 | .dT _ _=>"dict"
 | .dK _ _=>"dict"
 | _=>"list"
noncomputable def isX:D→Bool
 | .exn _=>true
 | _=>false
noncomputable def isiB (T:String) (d:D):Bool:=tyD d == T || (tyD d == "bool" && T == "int")
noncomputable def Kit (K:PySem.W.Frag) (T:String):Prop:=∀d:D,PySem.W.kitOne K (.type (tyD d)) (.type T)=some (isiB T d)
theorem kit_mk {K:PySem.W.Frag}{T:String}(h:T="int"∨T="bool"∨T="str"∨T="tuple"∨T="list"):Kit K T:=by
 rcases h with h | h | h | h | h <;> subst h <;> intro d <;> cases d <;> rfl
theorem call_isi {T:String}(hk:Kit X.K T):CallR X (.builtin "isinstance") (fun xs H Q=>∃x A d,xs=[x,.ty T]∧isX d=false∧DenR X.K A H d x∧Q (.bl (isiB T d)) H):=by
 intro pins s σ H xs us Q I r h
 obtain ⟨x,A,d,rfl,nx,hd,q⟩:=h
 obtain ⟨u,w,rfl,ru,rw'⟩:=vals2 r
 cases (show w=Value.type T from rw')
 have e:=hk d
 have fin:∀tk,EP X pins σ Q (.bool (isiB T d)) {s with toks:=tk}:=fun tk=>⟨.bl _,H,I.tok _,rfl,q⟩
 cases d with
 | non=>have hd:=denR_non hd;subst hd;cases (show u=Value.none from ru);exact PySem.W.kia_one PySem.W.kitx_none I.kIn True.intro e (fun z=>nomatch z) fin
 | bl y=>have hd:=denR_bl hd;subst hd;cases (show u=Value.bool y from ru);exact PySem.W.kia_one PySem.W.kitx_bool I.kIn True.intro e (fun z=>nomatch z) fin
 | int i=>have hd:=denR_int hd;subst hd;obtain ⟨t,z⟩:=(show ∃t,u=Value.int i t from ru);cases z;exact PySem.W.kia_one PySem.W.kitx_int I.kIn True.intro e (fun z=>nomatch z) fin
 | str y=>have hd:=denR_str hd;subst hd;obtain ⟨t,z⟩:=(show ∃t,u=Value.str y t from ru);cases z;exact PySem.W.kia_one PySem.W.kitx_str I.kIn True.intro e (fun z=>nomatch z) fin
 | tup ys=>
  have hd:Den X.K A H (.tup ys) x:=hd
  rw [Den] at hd
  obtain ⟨a,vs,rfl,hq,_⟩:=hd
  cases (show u=Value.ref a from ru)
  obtain ⟨its,_,p,_⟩:=I.tuple hq
  obtain ⟨o,h1,h2,_⟩:=p
  exact PySem.W.kia_one PySem.W.kitx_tuple I.kIn ⟨o,h1,h2⟩ e (fun z=>nomatch z) fin
 | lst ys=>
  obtain ⟨a,vs,rfl,hq,_⟩:=hd
  cases (show u=Value.ref a from ru)
  obtain ⟨its,_,p,_⟩:=I.list hq
  obtain ⟨o,n,h1,h2,_⟩:=p
  exact PySem.W.kia_one PySem.W.kitx_list I.kIn ⟨o,h1,h2⟩ e (fun z=>nomatch z) fin
 | dK ks ys=>
  obtain ⟨a,vs,rfl,hq,_⟩:=hd
  cases (show u=Value.ref a from ru)
  obtain ⟨_,_,vs,_,p⟩:=(show ObjOk X.prog X.w H s.heap a (.dK _) from I.hok a _ hq)
  obtain ⟨o,es,ep,h1,h2,_⟩:=p
  exact PySem.W.kia_one PySem.W.kitx_dict I.kIn ⟨o,h1,h2.1⟩ e (fun z=>nomatch z) fin
 | dT ks ys=>
  obtain ⟨a,vs,rfl,hq,_⟩:=hd
  cases (show u=Value.ref a from ru)
  obtain ⟨_,_,xs,_,o,es,ep,h1,h2,_⟩:=(show ObjOk X.prog X.w H s.heap a (.dT _) from I.hok a _ hq)
  exact PySem.W.kia_one PySem.W.kitx_dict I.kIn ⟨o,h1,h2.1⟩ e (fun z=>nomatch z) fin
 | exn C=>cases nx
noncomputable def oIsi (T:String) (d:D):Option W:=if isX d=true then none else some (.v (.bl (isiB T d)))
theorem qx_isi {T:String}{x:Str}{p p2:Pos}(hk:Kit X.K T)(hm:X.mg "isinstance"=none)(hmT:X.mg x=none)(ha:QX X e f)(hT:autoParam (bootBuiltins x=some (.type T)) Zau.a2._auto_1)(hb:autoParam (bootBuiltins "isinstance"=some (.builtin "isinstance")) Zau.a2._auto_1)(hg:autoParam (Gl X "isinstance") Zau.a2._auto_1)(hgT:autoParam (Gl X x) Zau.a2._auto_1)(hn:autoParam (x≠"__name__") Zau.a1._auto_1)(hdb:autoParam ((x == ("__debug__":Str))=false) Zau.a1._auto_1)
  (he:autoParam (starEach [e,.Name x p2] X.env=(false,eval e X.env) :: starEach [.Name x p2] X.env) Zau.a2._auto_1) (hpl:autoParam ((backTo pos (starEach [.Name x p2] X.env)).any (·.1)=false) Zau.a2._auto_1) (hs:autoParam (starEach [.Name x p2] X.env=(false,eval (.Name x p2) X.env) :: starEach [] X.env) Zau.a2._auto_1):QX X (.Call (.Name "isinstance" p) [e,.Name x p2] [] pos) (fUn (oIsi T) f):=
 ⟨PE.weak (pe_callB (call_isi hk) hg hm hb (pa_cons ha.to (pa_cons (pe_bltn (v:=.ty T) hgT hmT hT rfl hn hdb) pa_nil hs) he) (by decide) (by decide) he hpl) fun σ H Q h=>
  un_weak (r:=fun v H Q=>∃x A d,[v,V.ty T]=[x,.ty T]∧isX d=false∧DenR X.K A H d x∧Q (.bl (isiB T d)) H) (fun A x w v H Q _ e hx q=>by
   unfold oIsi at e
   split at e
   ·cases e
   ·rename_i nx;cases e;exact ⟨v,A,x,rfl,by simpa using nx,hx,q _ H (Same.refl H) denW_bl⟩) σ H Q h⟩
noncomputable def isD:D→D→Option Bool
 | .non,.non=>some true
 | d,.non=>some false
 | .bl a,.bl b=>some (a == b)
 | _,.bl _=>some false
 | _,_=>none
noncomputable def rD2 (K:PySem.W.Frag) (t:D→D→Option Bool) (neg:Bool):R2:=fun v u H Q=>∃A x y k,t x y=some k∧DenR K A H x v∧DenR K A H y u∧Q (.bl (if neg then !k else k)) H
noncomputable def oD2 (t:D→D→Option Bool) (neg:Bool) (x y:D):Option W:=(t x y).map fun k=>.v (.bl (if neg then !k else k))
theorem kD2 {t:D→D→Option Bool}{neg:Bool}:Pr2 X (oD2 t neg) (rD2 X.K t neg):=by
 intro A x y w v u H Q _ e hx hy q
 unfold oD2 at e
 cases e1:t x y with
 | none=>rw [e1] at e;cases e
 | some k=>rw [e1] at e;cases e;exact ⟨A,x,y,k,e1,hx,hy,q _ H (Same.refl H) denW_bl⟩
noncomputable def flatE:D→D→Option Bool
 | .non,.non=>some true
 | .bl a,.bl b=>some (a == b)
 | .bl a,.int b=>some ((if a then 1 else 0) == b)
 | .int a,.bl b=>some (a == (if b then 1 else 0))
 | .int a,.int b=>some (a == b)
 | .str a,.str b=>some (a == b)
 | _,_=>none
noncomputable def deqL (eq:D→D→Option Bool):List D→List D→Option Bool
 | [],[]=>some true
 | [],_ :: _=>some false
 | _ :: _,[]=>some false
 | x :: xs,y :: ys=>(eq x y).bind fun p=>(deqL eq xs ys).map fun q=>p && q
noncomputable def deq:Nat→D→D→Option Bool
 | 0,x,y=>flatE x y
 | n + 1,.tup xs,.tup ys=>deqL (deq n) xs ys
 | n + 1,.lst xs,.lst ys=>deqL (deq n) xs ys
 | _ + 1,x,y=>flatE x y
theorem flatE_r {K:PySem.W.Frag}{A:Av}{H:Hp}{x y:D}{v u:V}{k:Bool}(e:flatE x y=some k)(hx:DenR K A H x v)(hy:DenR K A H y u):Den K A H x v∧Den K A H y u:=by
 cases x <;> cases y <;> simp only [flatE] at e <;> cases e <;> exact ⟨hx,hy⟩
theorem flat_eqAt {K:PySem.W.Frag}{O:Av}{H:Hp}{A:Around}{s:Shared}{x y:D}{v u:V}{vv uu:Value}{k:Bool}(e:flatE x y=some k)(hx:DenR K O H x v)(hy:DenR K O H y u)(rx:RelV v vv)(ry:RelV u uu):SeqAt.EqAt A s vv uu k∧SeqAt.RcAt A s vv uu k∧SeqAt.RcNeAt A s vv uu (!k):=by
 obtain ⟨hx,hy⟩:=flatE_r e hx hy
 cases x <;> cases y <;> simp only [flatE] at e <;> cases e <;> rw [Den] at hx <;> rw [Den] at hy <;> subst hx <;> subst hy
 ·cases (show vv=Value.none from rx);cases (show uu=Value.none from ry);exact ⟨.same _,.none_none,.none_none⟩
 ·cases (show vv=Value.bool _ from rx);cases (show uu=Value.bool _ from ry);exact ⟨.bool_bool _ _,.bool_bool _ _,.bool_bool _ _⟩
 ·cases (show vv=Value.bool _ from rx);obtain ⟨t,z⟩:=(show ∃t,uu=Value.int _ t from ry);cases z;exact ⟨.bool_int _ _ _,.bool_int _ _ _,.bool_int _ _ _⟩
 ·cases (show uu=Value.bool _ from ry);obtain ⟨t,z⟩:=(show ∃t,vv=Value.int _ t from rx);cases z;exact ⟨.int_bool _ _ _,.int_bool _ _ _,.int_bool _ _ _⟩
 ·obtain ⟨t,z⟩:=(show ∃t,vv=Value.int _ t from rx);cases z;obtain ⟨t,z⟩:=(show ∃t,uu=Value.int _ t from ry);cases z;exact ⟨.int_int _ _ _ _,.int_int _ _ _ _,.int_int _ _ _ _⟩
 ·obtain ⟨t,z⟩:=(show ∃t,vv=Value.str _ t from rx);cases z;obtain ⟨t,z⟩:=(show ∃t,uu=Value.str _ t from ry);cases z;exact ⟨.str_str _ _ _ _,.str_str _ _ _ _,.str_str _ _ _ _⟩
theorem flat_self {K:PySem.W.Frag}{O:Av}{H:Hp}{x y:D}{v:V}{k:Bool}(e:flatE x y=some k)(hx:DenR K O H x v)(hy:DenR K O H y v):k=true:=by
 obtain ⟨hx,hy⟩:=flatE_r e hx hy
 cases x <;> cases y <;> simp only [flatE] at e <;> cases e <;> rw [Den] at hx <;> rw [Den] at hy
 all_goals first
  | rfl
  | (rw [hx] at hy;cases hy;simp)
  | (rw [hx] at hy;cases hy)
theorem deqL_at {K:PySem.W.Frag}{O:Av}{H:Hp}{A:Around}{s:Shared}{eq:D→D→Option Bool}(hq:∀x y v u vv uu k,eq x y=some k→Den K O H x v→Den K O H y u→RelV v vv→RelV u uu→SeqAt.EqAt A s vv uu k):
  ∀{xs ys:List D} {vs us:List V} {its jts:List Value} {k:Bool},deqL eq xs ys=some k→DenL K O H xs vs→DenL K O H ys us→Vals vs its→Vals us jts→
   ∃e:Nat→Bool,(∀j (h1:j < its.toArray.size) (h2:j < jts.toArray.size),SeqAt.EqAt A s its.toArray[j] jts.toArray[j] (e j))∧k=((List.range (min its.toArray.size jts.toArray.size)).all e && its.toArray.size == jts.toArray.size)
 | [],[],vs,us,its,jts,k,e,hx,hy,rx,ry=>by
  rw [DenL] at hx hy;subst hx;subst hy;cases rx;cases ry
  cases e
  exact ⟨fun _=>true,fun j h1 h2=>absurd h1 (by simp),rfl⟩
 | [],y :: ys,vs,us,its,jts,k,e,hx,hy,rx,ry=>by
  rw [DenL] at hx;rw [DenL] at hy;subst hx
  obtain ⟨u,r,rfl,_,_⟩:=hy
  cases rx;cases ry
  cases e
  exact ⟨fun _=>true,fun j h1 h2=>absurd h1 (by simp),by simp⟩
 | x :: xs,[],vs,us,its,jts,k,e,hx,hy,rx,ry=>by
  rw [DenL] at hx;rw [DenL] at hy;subst hy
  obtain ⟨u,r,rfl,_,_⟩:=hx
  cases rx;cases ry
  cases e
  exact ⟨fun _=>true,fun j h1 h2=>absurd h2 (by simp),by simp⟩
 | x :: xs,y :: ys,vs,us,its,jts,k,e,hx,hy,rx,ry=>by
  rw [DenL] at hx hy
  obtain ⟨v,r,rfl,dx,lx⟩:=hx
  obtain ⟨u,q,rfl,dy,ly⟩:=hy
  cases rx with
  | cons r1 rs1=>
   cases ry with
   | cons r2 rs2=>
    rw [deqL] at e
    cases e1:eq x y with
    | none=>rw [e1] at e;cases e
    | some p=>
     cases e2:deqL eq xs ys with
     | none=>rw [e1,e2] at e;cases e
     | some q2=>
      rw [e1,e2] at e;cases e
      obtain ⟨w,h1,h2⟩:=deqL_at hq e2 lx ly rs1 rs2
      refine ⟨fun j=>if j=0 then p else w (j - 1),fun j g1 g2=>?_,?_⟩
      ·cases j with
       | zero=>simpa using hq x y v u _ _ p e1 dx dy r1 r2
       | succ j=>
        have z:=h1 j (by simpa using g1) (by simpa using g2)
        simp only [List.getElem_toArray] at z ⊢
        simpa using z
      ·rw [h2]
       simp only [List.size_toArray,List.length_cons]
       rw [show min (_ + 1) (_ + 1)=min _ _ + 1 from Nat.succ_min_succ _ _,List.range_succ_eq_map,List.all_cons,List.all_map]
       simp [Function.comp_def,Bool.and_assoc]
theorem deqL_self {K:PySem.W.Frag}{O:Av}{H:Hp}{eq:D→D→Option Bool}(hq:∀x y v k,eq x y=some k→Den K O H x v→Den K O H y v→k=true):
  ∀{xs ys:List D} {vs:List V} {k:Bool},deqL eq xs ys=some k→DenL K O H xs vs→DenL K O H ys vs→k=true
 | [],[],vs,k,e,hx,hy=>by cases e;rfl
 | [],y :: ys,vs,k,e,hx,hy=>by have:=denL_length hx;have:=denL_length hy;simp at *;(first|lia|omega)
 | x :: xs,[],vs,k,e,hx,hy=>by have:=denL_length hx;have:=denL_length hy;simp at *;(first|lia|omega)
 | x :: xs,y :: ys,vs,k,e,hx,hy=>by
  rw [DenL] at hx hy
  obtain ⟨v,r,rfl,dx,lx⟩:=hx
  obtain ⟨u,q,e0,dy,ly⟩:=hy
  cases e0
  rw [deqL] at e
  cases e1:eq x y with
  | none=>rw [e1] at e;cases e
  | some p=>
   cases e2:deqL eq xs ys with
   | none=>rw [e1,e2] at e;cases e
   | some q2=>
    rw [e1,e2] at e;cases e
    rw [hq x y v p e1 dx dy,deqL_self hq e2 lx ly];rfl
theorem deq_cases {n:Nat}{x y:D}{k:Bool}(e:deq (n + 1) x y=some k):flatE x y=some k∨(∃xs ys,x= .tup xs∧y= .tup ys∧deqL (deq n) xs ys=some k)∨∃xs ys,x= .lst xs∧y= .lst ys∧deqL (deq n) xs ys=some k:=by
 cases x <;> cases y <;> first
  | exact .inl e
  | exact .inr (.inl ⟨_,_,rfl,rfl,e⟩)
  | exact .inr (.inr ⟨_,_,rfl,rfl,e⟩)
theorem denR_tup {K:PySem.W.Frag}{O:Av}{H:Hp}{xs:List D}{v:V}(h:DenR K O H (.tup xs) v):∃a vs,v= .ref a∧SqT K H a vs∧DenL K O H xs vs:=by
 have h:Den K O H (.tup xs) v:=h
 rw [Den] at h;exact h
theorem deq_self {O:Av}{pins:List (Addr×PySem.Obj)}{σ:L2.St}{H:Hp}{s:Shared}(I:Inv X pins σ H s):∀(n:Nat) (x y:D) (v:V) (k:Bool),deq n x y=some k→DenR X.K O H x v→DenR X.K O H y v→k=true
 | 0,x,y,v,k,e,hx,hy=>flat_self e hx hy
 | n + 1,x,y,v,k,e,hx,hy=>by
  have hs:∀x y v k,deq n x y=some k→Den X.K O H x v→Den X.K O H y v→k=true:=fun x y v k e hx hy=>deq_self I n x y v k e (den_r hx) (den_r hy)
  rcases deq_cases e with e | ⟨xs,ys,rfl,rfl,e⟩ | ⟨xs,ys,rfl,rfl,e⟩
  ·exact flat_self e hx hy
  ·obtain ⟨a,vs,rfl,q1,l1⟩:=denR_tup hx
   obtain ⟨b,us,z,q2,l2⟩:=denR_tup hy
   cases z
   rw [I.tuple_inj q2 q1] at l2
   exact deqL_self hs e l1 l2
  ·obtain ⟨a,vs,rfl,q1,l1⟩:=hx
   obtain ⟨b,us,z,q2,l2⟩:=hy
   cases z
   rw [I.list_inj q2 q1] at l2
   exact deqL_self hs e l1 l2
theorem deq_at {O:Av}{pins:List (Addr×PySem.Obj)}{σ:L2.St}{H:Hp}{s:Shared}(I:Inv X pins σ H s):∀(n:Nat) (A:Around),A.units + n + 1 < cLine→∀(x y:D) (v u:V) (vv uu:Value) (k:Bool),deq n x y=some k→DenR X.K O H x v→DenR X.K O H y u→RelV v vv→RelV u uu→
  SeqAt.EqAt A s vv uu k∧SeqAt.RcAt A s vv uu k∧SeqAt.RcNeAt A s vv uu (!k)
 | 0,A,hA,x,y,v,u,vv,uu,k,e,hx,hy,rx,ry=>flat_eqAt e hx hy rx ry
 | n + 1,A,hA,x,y,v,u,vv,uu,k,e,hx,hy,rx,ry=>by
  have hin:∀x y v u vv uu k,deq n x y=some k→Den X.K O H x v→Den X.K O H y u→RelV v vv→RelV u uu→SeqAt.EqAt A.in1 s vv uu k:=fun x y v u vv uu k e hx hy rx ry=>(deq_at I n A.in1 (by show A.units + 1 + n + 1 < _;(first|lia|omega)) x y v u vv uu k e (den_r hx) (den_r hy) rx ry).1
  have hu:A.units < cLine:=by (first|lia|omega)
  have done:∀(p q:Addr),v= .ref p→u= .ref q→SeqAt.RcAt A s (.ref p) (.ref q) k→SeqAt.RcNeAt A s (.ref p) (.ref q) (!k)→SeqAt.EqAt A s vv uu k∧SeqAt.RcAt A s vv uu k∧SeqAt.RcNeAt A s vv uu (!k):=fun p q ev eu rc rn=>by
   subst ev;subst eu
   cases (show vv=Value.ref p from rx);cases (show uu=Value.ref q from ry)
   refine ⟨?_,rc,rn⟩
   by_cases pq:p=q
   ·subst pq
    rw [deq_self I (n + 1) x y _ k e hx hy]
    exact .same _
   ·exact .of_refs pq rc
  rcases deq_cases e with e | ⟨xs,ys,rfl,rfl,e⟩ | ⟨xs,ys,rfl,rfl,e⟩
  ·exact flat_eqAt e hx hy rx ry
  ·obtain ⟨p,vs,ev,q1,l1⟩:=denR_tup hx
   obtain ⟨q,us,eu,q2,l2⟩:=denR_tup hy
   obtain ⟨its,r1,t1,_⟩:=I.tuple q1
   obtain ⟨jts,r2,t2,_⟩:=I.tuple q2
   obtain ⟨w,h1,h2⟩:=deqL_at hin e l1 l2 r1 r2
   refine done p q ev eu ?_ ?_
   ·rw [h2]
    exact SeqAt.RcAt.tuples t1 t2 hu h1
   ·rw [h2]
    exact SeqAt.RcNeAt.tuples t1 t2 hu h1
  ·obtain ⟨p,vs,ev,q1,l1⟩:=id hx
   obtain ⟨q,us,eu,q2,l2⟩:=id hy
   obtain ⟨its,r1,t1,_⟩:=I.list q1
   obtain ⟨jts,r2,t2,_⟩:=I.list q2
   obtain ⟨w,h1,h2⟩:=deqL_at hin e l1 l2 r1 r2
   by_cases sz:its.toArray.size=jts.toArray.size
   ·have r1:=SeqAt.RcAt.lists t1.isList t2.isList sz hu h1
    have r2:=SeqAt.RcNeAt.lists t1.isList t2.isList sz hu h1
    rw [sz,Nat.min_self,show (jts.toArray.size == jts.toArray.size)=true by simp,Bool.and_true] at h2
    rw [sz,←h2] at r1 r2
    exact done p q ev eu r1 r2
   ·have r1:=SeqAt.RcAt.lists_lengths (A:=A) t1.isList t2.isList (by simpa using sz) hu
    have r2:=SeqAt.RcNeAt.lists_lengths (A:=A) t1.isList t2.isList (by simpa using sz) hu
    rw [show (its.toArray.size == jts.toArray.size)=false by simpa using sz,Bool.and_false] at h2
    subst h2
    exact done p q ev eu r1 r2
theorem op_eqD {k:Nat}(hr:Room k X.A):OpR X (compareOp .Eq) (rD2 X.K (deq 20) false):=by
 intro pins s σ H x y v u Q I rx ry ⟨A,dx,dy,k,e,hx,hy,q⟩
 have:=(deq_at I 20 X.A (by have:=hr.units;(first|lia|omega)) dx dy x y v u k e hx hy rx ry).2.1
 exact this X.prog X.w X.xe _ ⟨.bl k,H,I,rfl,q⟩
theorem op_neD {k:Nat}(hr:Room k X.A):OpR X (compareOp .NotEq) (rD2 X.K (deq 20) true):=by
 intro pins s σ H x y v u Q I rx ry ⟨A,dx,dy,k,e,hx,hy,q⟩
 have:=(deq_at I 20 X.A (by have:=hr.units;(first|lia|omega)) dx dy x y v u k e hx hy rx ry).2.2
 exact this X.prog X.w X.xe _ ⟨.bl (!k),H,I,rfl,q⟩
theorem qx_eq {k:Nat}(hr:Room k X.A)(ha:QX X a f)(hb:QX X b g):QX X (.Compare a [.Eq] [b] pos) (fBin (oD2 (deq 20) false) f g):=qx_cmp (op_eqD hr) kD2 ha hb
theorem qx_ne {k:Nat}(hr:Room k X.A)(ha:QX X a f)(hb:QX X b g):QX X (.Compare a [.NotEq] [b] pos) (fBin (oD2 (deq 20) true) f g):=qx_cmp (op_neD hr) kD2 ha hb
theorem qt_eq {k:Nat}(hr:Room k X.A)(ha:QX X a f)(hb:QX X b g):QT X (.Compare a [.Eq] [b] pos) (fTest (fBin (oD2 (deq 20) false) f g)):=qt_cmp (op_eqD hr) kD2 ha hb
theorem qt_ne {k:Nat}(hr:Room k X.A)(ha:QX X a f)(hb:QX X b g):QT X (.Compare a [.NotEq] [b] pos) (fTest (fBin (oD2 (deq 20) true) f g)):=qt_cmp (op_neD hr) kD2 ha hb
end
end Z
set_option maxHeartbeats 1000000
namespace Z
open PySem PySem.Spec PyProof.Rows L2
section
variable {prog:Program}{w:World}{A:Around}{R:Result→Shared→Prop}{s:Shared}
noncomputable abbrev Fa:Value→Shared→Prop:=fun _ _=>False
theorem comp_loop {elt tg iter:Expr}{ifs:List Expr}{scope:Scope}{pos:Pos}{it acc:Value}{env:Env}(I:Nat→Shared→Prop)
  (turn:∀n s,I n s→wpAny (model prog w) A (pyNext it) (fun r s1=>match r with
   | none=>R (.ok .next) s1
   | some v=>wpAny (model prog w) A (letOwnedTupleGo tg it v) (fun _ s2=>wpAny (model prog w) A (assign tg env v) (fun _ s3=>
     wpAny (model prog w) A (forIn ifs true fun c r=>if r=true then do let ok ←isTrue c env (eval c env);pure (ForInStep.yield ok) else pure (ForInStep.yield r)) (fun ok s4=>
      if ok=true then wpAny (model prog w) A (eval elt env) (fun x s5=>wpAny (model prog w) A (call (.builtin "list.append") [acc,x]) (fun _ s6=>∃m,m < n∧I m s6) Fa s5) Fa s4
      else ∃m,m < n∧I m s4) Fa s3) Fa s2) Fa s1) Fa s)
  (n:Nat) (h:I n s):codeAny (model prog w) A (.compLoop (.ListComp elt [⟨tg,iter,ifs,0⟩] scope pos) 0 it acc env) R s:=by
 refine codeAny_loop rfl I (fun n s hI=>?_) n h
 show wpAny _ A ((compTurn (.ListComp elt [⟨tg,iter,ifs,0⟩] scope pos) 0 it acc env).onRaise (fun x=>do noteFrame x env;theTreesLotGoes x)) _ _ s
 refine wpAny_noted ?_
 rw [compTurn_list]
 refine wpAny_bind (wpAny_standAt (wpAny_bind (wpAny_mono (turn n s hI) (fun r s1 h1=>?_) fun _ _ z=>z.elim)))
 cases r with
 | none=>exact wpAny_pure h1
 | some v=>
  refine wpAny_bind (wpAny_mono h1 (fun _ s2 h2=>wpAny_bind (wpAny_mono h2 (fun _ s3 h3=>wpAny_bind (wpAny_mono h3 (fun ok s4 h4=>?_) fun _ _ z=>z.elim)) fun _ _ z=>z.elim)) fun _ _ z=>z.elim)
  cases ok with
  | true=>
   rw [if_pos rfl] at h4 ⊢
   exact wpAny_bind (wpAny_bind (wpAny_mono h4 (fun x s5 h5=>wpAny_bind (wpAny_mono h5 (fun _ s6 h6=>wpAny_pure (wpAny_pure ⟨rfl,h6⟩)) fun _ _ z=>z.elim)) fun _ _ z=>z.elim))
  | false=>
   rw [if_neg Bool.false_ne_true] at h4 ⊢
   exact wpAny_bind (wpAny_pure (wpAny_pure ⟨rfl,h4⟩))
end
noncomputable def blk (X:Cx) (scope:Scope) (cl:List (Str×Addr)) (s2:Shared) (H2:Hp) (fp:List Addr) (C:Addr) (N:List Str):Cx where
 prog:=X.prog
 w:=X.w
 K:=X.K
 mg:=X.mg
 base:=X.base
 A:=X.A
 N:=N
 s₀:=s2
 H₀:=H2
 env:=compEnvC scope cl C X.env
 outer:=X.stack
 stack:=X.stack
 ex:=fp
 fn:=fun _=>false
 calm:=X.calm
 pn:=[]
 xe:=fun _ _=>False
noncomputable abbrev accN:Str:=" acc"
inductive Cap (X:Cx) (sc:Scope) (cl:List (Str×Addr)):List Str→List (Option Nat)→Prop where
 | nil:Cap X sc cl [] []
 | own {n:Str} {N:List Str} {js:List (Option Nat)} (t:Cap X sc cl N js):Cap X sc cl (n :: N) (none :: js)
 | cap {n:Str} {N:List Str} {j:Nat} {js:List (Option Nat)} (hj:X.N[j]? =some n) (hk:X.env.scope.names.lookup n=some .cell) (hl:sc.names.lookup n=some .cell) (hc:cl.lookup n=X.env.cells.lookup n) (t:Cap X sc cl N js):Cap X sc cl (n :: N) (some j :: js)
theorem Cap.len {X:Cx}{sc:Scope}{cl:List (Str×Addr)}{N:List Str}{js:List (Option Nat)}(h:Cap X sc cl N js):js.length=N.length:=by
 induction h with
 | nil=>rfl
 | own t ih=>simp [ih]
 | cap _ _ _ _ t ih=>simp [ih]
theorem Cap.get {X:Cx}{sc:Scope}{cl:List (Str×Addr)}{N:List Str}{js:List (Option Nat)}(h:Cap X sc cl N js):∀{i j:Nat} {n:Str},N[i]? =some n→js[i]? =some (some j)→X.N[j]? =some n∧X.env.scope.names.lookup n=some .cell∧sc.names.lookup n=some .cell∧cl.lookup n=X.env.cells.lookup n:=by
 induction h with
 | nil=>intro i j n e1 _;simp at e1
 | own t ih=>
  intro i j n e1 e2
  cases i with
  | zero=>simp at e2
  | succ i=>exact ih (by simpa using e1) (by simpa using e2)
 | cap hj hk hl hc t ih=>
  intro i j n e1 e2
  cases i with
  | zero=>simp at e1 e2;subst e1;subst e2;exact ⟨hj,hk,hl,hc⟩
  | succ i=>exact ih (by simpa using e1) (by simpa using e2)
noncomputable def capS (js:List (Option Nat)) (σ:L2.St):L2.St:=js.map fun o=>o.bind fun j=>(σ[j]?).join
structure Blk (X:Cx) (scope:Scope) (cl:List (Str×Addr)) (N:List Str) (js:List (Option Nat)):Prop where
 clos:closureFor scope X.env=pure cl
 kind:scope.kind= .function
 cell:∀y∈scope.names,y.2≠.cell
 nms:∀y∈scope.names,y.2= .local→scope.names.lookup y.1=some .local
 cap:Cap X (relabel scope X.env) cl N js
 sub:∀y c,cl.lookup y=some c→X.env.cells.lookup y=some c
 has:∀y,((relabel scope X.env).names.lookup y=some .cell∨(relabel scope X.env).names.lookup y=some .free)→∃c,cl.lookup y=some c
 acc:∀k,(relabel scope X.env).names.lookup accN≠some k
section
variable {X:Cx}{pins:List (Addr×PySem.Obj)}{σ:L2.St}{H2:Hp}{s2 s4:Shared}{scope:Scope}{cl:List (Str×Addr)}{N:List Str}{js:List (Option Nat)}{fp:List Addr}{Dd C:Addr}{m:Str→Option Value}
theorem blk_ok (I:Inv X pins σ H2 s2)(b:Blk X scope cl N js)(f2:∀y∈fp,FpOk X pins H2 y)(fl:∀y∈fp,y < s2.heap.objs.size)(hC:s2.heap.objs.size≤C):(blk X scope cl s2 H2 fp C (N ++ [accN])).Ok where
 mod:=I.ok.mod
 kind:=b.kind
 glob:=I.ok.glob
 blt:=I.ok.blt
 above:=hC
 inj:=fun x y c e1 e2=>I.ok.inj x y c (b.sub x c e1) (b.sub y c e2)
 has:=fun x h=>b.has x h
 cab:=fun x c h=>nomatch h
 hd:=I.ok.hd
 frames:=I.ok.frames
 stk:=.inl rfl
 exf:=fun y hy=>⟨Nat.ne_of_lt (Nat.lt_of_lt_of_le (fl y hy) hC),fun x c e=>(f2 y hy).2.2.2.2.1 x c (b.sub x c e)⟩
 bs:=I.bs
 bsz:=Nat.le_trans I.ok.bsz I.sz
 noex:=fun y o e hy=>by
  rcases (f2 y hy).2.2.2.1 with z | z
  ·exact I.ok.noex y o e z
  ·exact absurd (Nat.lt_of_lt_of_le (Heap.lt_size e) (Nat.le_trans I.ok.bsz z)) (Nat.lt_irrefl _)
 exfs:=fun y hy z=>(List.mem_cons.mp (I.stkSub y z)).elim (f2 y hy).2.1 (f2 y hy).2.2.1
 funs:=I.stack
 frf:=I.stkFree
theorem blk_inv (I:Inv X pins σ H2 s2)(b:Blk X scope cl N js)(f2:∀y∈fp,FpOk X pins H2 y)(fl:∀y∈fp,y < s2.heap.objs.size)(hC:s2.heap.objs.size≤C)(hD:s2.heap.objs.size≤Dd)(ne:Dd≠C)
  (ho:s4.os=s2.os) (hg:AllBare s4.gens) (kp:∀y o,s2.heap.get? y=some o→s4.heap.get? y=some o) (hn:s4.heap.Ns C m) (hk:HOk X.prog X.w (upd H2 Dd (.lst [])) s4.heap):
  Inv (blk X scope cl s2 H2 fp C (N ++ [accN])) [] (capS js σ ++ [some (.ref Dd)]) (upd H2 Dd (.lst [])) s4:=by
 have nD:∀y o,s2.heap.get? y=some o→y≠Dd:=fun y o e=>Nat.ne_of_lt (Nat.lt_of_lt_of_le (Heap.lt_size e) hD)
 have nH:∀y u,H2 y=some u→y≠Dd:=fun y u e=>Nat.ne_of_lt (Nat.lt_of_lt_of_le (I.hok.lt e) hD)
 have cD:∀x c,X.env.cells.lookup x=some c→c≠Dd:=fun x c e=>by
  obtain ⟨v,o,e1,_⟩:=I.cell x c e
  exact nD c o e1
 refine ⟨blk_ok I b f2 fl hC,ho,hg,⟨fun y o e _ _ _=>kp y o e,fun y o e _ _ _=>⟨o.slots,kp y o e⟩,fun y o e n _=>?_,fun y o e _=>⟨o,kp y o e⟩,fun y xs e=>?_,fun y o u e=>?_,fun y ps e=>?_⟩,⟨m,hn,fun i x v e1 e2 e3=>?_⟩,fun x c e=>?_,?_,fun x c e=>?_,fun p hp=>absurd (show p∈([]:List (Addr×PySem.Obj)) from hp) (by simp),hk,?_⟩
 ·rw [upd_ne (nD y o e)];exact n
 ·rw [upd_ne (nH _ _ e)];exact e
 ·rw [upd_ne (nH _ _ e)];exact e
 ·have e':H2 y=some (.tbl ps):=e
  exact ⟨#[],by rw [upd_ne (nH _ _ e'),e'];simp⟩
 ·have hl:js.length=N.length:=b.cap.len
  by_cases hi:i < N.length
  ·have e1':N[i]? =some x:=by
    have z:(N ++ [accN])[i]? =some x:=e1
    rw [List.getElem?_append_left hi] at z;exact z
   rw [List.getElem?_append_left (by unfold capS;simp;(first|lia|omega))] at e2
   unfold capS at e2
   rw [List.getElem?_map] at e2
   cases ej:js[i]? with
   | none=>rw [ej] at e2;cases e2
   | some o=>
    rw [ej] at e2
    cases o with
    | none=>cases e2
    | some j=>
     obtain ⟨c1,c2,c3,c4⟩:=b.cap.get e1' ej
     simp only [Option.map_some,Option.bind_some] at e2
     have e2':σ[j]? =some (some v):=by
      cases q:σ[j]? with
      | none=>rw [q] at e2;cases e2
      | some o=>rw [q] at e2;simp at e2;rw [e2]
     obtain ⟨m2,_,hl2⟩:=I.loc
     obtain ⟨u,r,lk⟩:=hl2 j x v c1 e2' (.inr (.inl c2))
     refine ⟨u,r,.inr ⟨.inl c3,?_⟩⟩
     rcases lk with ⟨k,_⟩ | ⟨_,c,e,z⟩
     ·have k':X.env.scope.names.lookup x=some .local:=k
      rw [c2] at k';cases k'
     ·exact ⟨c,c4.trans e,z.keeps kp⟩
  ·have hx:x=accN:=by
    have z:(N ++ [accN])[i]? =some x:=e1
    rw [List.getElem?_append_right (by (first|lia|omega))] at z
    cases q:i - N.length with
    | zero=>rw [q] at z;simp at z;exact z.symm
    | succ k=>rw [q] at z;simp at z
   subst hx
   rcases e3 with z | z | z
   ·exact absurd z (b.acc _)
   ·exact absurd z (b.acc _)
   ·exact absurd z (b.acc _)
 ·obtain ⟨v,z⟩:=I.cell x c (b.sub x c e)
  exact ⟨v,z.keeps kp⟩
 ·show upd H2 Dd (.lst []) C=none
  rw [upd_ne (Ne.symm ne)]
  exact I.hok.fresh hC
 ·rw [upd_ne (cD x c (b.sub x c e))]
  exact I.freeC x c (b.sub x c e)
 ·show (capS js σ ++ [some (V.ref Dd)]).length=(N ++ [accN]).length
  unfold capS
  simp [b.cap.len]
end
noncomputable def AllC (X:Cx):List (Str×Addr)→Prop
 | []=>True
 | p :: r=>X.env.cells.lookup p.1=some p.2∧AllC X r
theorem AllC.sub {X:Cx}:∀{cl:List (Str×Addr)},AllC X cl→∀y c,cl.lookup y=some c→X.env.cells.lookup y=some c
 | [],_,y,c,e=>by simp at e
 | (n,c0) :: r,h,y,c,e=>by
  rw [List.lookup_cons] at e
  cases q:y == n with
  | true=>
   rw [q] at e
   cases e
   have:y=n:=by simpa using q
   rw [this];exact h.1
  | false=>rw [q] at e;exact AllC.sub h.2 y c e
theorem lookup_mem {α:Type}:∀{l:List (Str×α)} {y:Str} {k:α},l.lookup y=some k→(y,k)∈l
 | [],y,k,e=>by simp at e
 | (n,a) :: r,y,k,e=>by
  rw [List.lookup_cons] at e
  cases q:y == n with
  | true=>
   rw [q] at e;cases e
   have:y=n:=by simpa using q
   rw [this];exact List.mem_cons_self
  | false=>rw [q] at e;exact List.mem_cons_of_mem _ (lookup_mem e)
section
variable {X:Cx}{scope:Scope}{cl:List (Str×Addr)}{N:List Str}{js:List (Option Nat)}
theorem blk_mk (cap:Cap X (relabel scope X.env) cl N js)(clos:closureFor scope X.env=pure cl)(sub:AllC X cl)(has:(relabel scope X.env).names.all (fun p=>(p.2 != .cell && p.2 != .free) || (cl.lookup p.1).isSome)=true)(kind:autoParam (scope.kind= .function) Zau.a2._auto_1)(cell:autoParam (scope.names.all (fun y=>y.2 != .cell)=true) Zau.a10._auto_1)
  (nms:autoParam (scope.names.all (fun y=>y.2 != .local || scope.names.lookup y.1 == some .local)=true) Zau.a10._auto_1) (acc:autoParam ((relabel scope X.env).names.lookup accN=none) Zau.a2._auto_1):Blk X scope cl N js where
 clos:=clos
 kind:=kind
 cell:=fun y hy=>by have:=List.all_eq_true.mp cell y hy;simpa using this
 nms:=fun y hy hl=>by have:=List.all_eq_true.mp nms y hy;rw [hl] at this;simpa using this
 cap:=cap
 sub:=sub.sub
 has:=fun y h=>by
  have key:∀k,(relabel scope X.env).names.lookup y=some k→k= .cell∨k= .free→∃c,cl.lookup y=some c:=fun k e hk=>by
   have:=List.all_eq_true.mp has (y,k) (lookup_mem e)
   rcases hk with rfl | rfl <;> simpa [Option.isSome_iff_exists] using this
  rcases h with h | h
  ·exact key _ h (.inl rfl)
  ·exact key _ h (.inr rfl)
 acc:=fun k e=>by rw [acc] at e;cases e
end
end Z
set_option maxHeartbeats 1000000
namespace Z
open PySem PySem.Spec PyProof.Rows L2
noncomputable def capW (k:Bool):W→Option W
 | .v d=>some (.v d)
 | .o d=>some (if k then .l d else .v d)
 | .l d=>some (if k then .l d else .v d)
 | .r _=>none
noncomputable def capE (lj:Option Nat) (js:List (Option Nat)) (ρ:Ev):Ev:=js.map fun o=>o.bind fun j=>((ρ[j]?).join).bind (capW (lj == some j))
noncomputable def Capd (ρ:Ev) (σ:L2.St) (js:List (Option Nat)) (b:Addr):Prop:=∃(j:Nat) (w:W) (d:D),some j∈js∧ρ[j]? =some (some w)∧w.own=some d∧σ[j]? =some (some (V.ref b))
noncomputable def lentL (li:Option (Nat×Nat)) (σ:L2.St):List (Nat×Addr):=match li with
 | some (i,j)=>match σ[j]? with
  | some (some (.ref a))=>[(i,a)]
  | _=>[]
 | none=>[]
structure LiOk (li:Option (Nat×Nat)) (js:List (Option Nat)) (ρ:Ev):Prop where
 own:∀i j,li=some (i,j)→∃c,ownAt ρ j=some c
 at':∀i j,li=some (i,j)→js[i]? =some (some j)
 one:∀i j k,li=some (i,j)→js[k]? =some (some j)→k=i
section
variable {X:Cx}{P:List (D×V)}{O:Av}{L:List (Nat×Addr)}{ρ:Ev}{σ:L2.St}{H2:Hp}{s2:Shared}{scope:Scope}{cl:List (Str×Addr)}{N:List Str}{js:List (Option Nat)}{fp:List Addr}{Dd C:Addr}{li:Option (Nat×Nat)}
theorem capE_get {lj:Option Nat}{i:Nat}{w:W}(e:(capE lj js ρ)[i]? =some (some w)):∃j w0,js[i]? =some (some j)∧ρ[j]? =some (some w0)∧capW (lj == some j) w0=some w:=by
 unfold capE at e
 rw [List.getElem?_map] at e
 cases ej:js[i]? with
 | none=>rw [ej] at e;cases e
 | some o=>
  rw [ej] at e
  cases o with
  | none=>cases e
  | some j=>
   simp only [Option.map_some,Option.bind_some] at e
   cases q:ρ[j]? with
   | none=>rw [q] at e;cases e
   | some o=>
    rw [q] at e
    cases o with
    | none=>cases e
    | some w0=>exact ⟨j,w0,rfl,q,Option.some.inj e⟩
theorem capS_get {i j:Nat}{v:V}(ej:js[i]? =some (some j))(e:σ[j]? =some (some v)):(capS js σ)[i]? =some (some v):=by
 unfold capS
 rw [List.getElem?_map,ej]
 simp only [Option.map_some,Option.bind_some]
 rw [e];rfl
theorem mem_lentL {i:Nat}{b:Addr}:(i,b)∈lentL li σ↔∃j,li=some (i,j)∧σ[j]? =some (some (.ref b)):=by
 unfold lentL
 cases li with
 | none=>simp
 | some p=>
  obtain ⟨i',j'⟩:=p
  dsimp only
  constructor
  ·intro h
   split at h
   ·rename_i a q
    rw [List.mem_singleton] at h;cases h
    exact ⟨j',rfl,q⟩
   ·cases h
  ·rintro ⟨j,e,q⟩
   cases e
   rw [q];exact List.mem_singleton.mpr rfl
theorem blk_own (r:Rep X P O L ρ σ H2)(hl:LiOk li js ρ){i:Nat}{w:W}{d:D}{v:V}(e1:(capE (li.map (·.2)) js ρ ++ [some (.l (.lst []))])[i]? =some (some w))(e2:w.own=some d)(e3:(capS js σ ++ [some (.ref Dd)])[i]? =some (some v)):
  (i=js.length∧w= .l (.lst [])∧v= .ref Dd)∨∃j a w0,li=some (i,j)∧i < js.length∧w= .l d∧js[i]? =some (some j)∧ρ[j]? =some (some w0)∧w0.own=some d∧σ[j]? =some (some (.ref a))∧v= .ref a:=by
 have hcl:(capE (li.map (·.2)) js ρ).length=js.length:=by unfold capE;simp
 have hsl:(capS js σ).length=js.length:=by unfold capS;simp
 by_cases hi:i < js.length
 ·rw [List.getElem?_append_left (by (first|lia|omega))] at e1 e3
  obtain ⟨j,w0,ej,q,ew⟩:=capE_get e1
  have own0:w0.own≠none∧li.map (·.2)=some j∧w= .l d∧w0.own=some d:=by
   cases w0 with
   | v c=>cases ew;cases e2
   | r c=>cases ew
   | o c=>
    simp only [capW] at ew
    split at ew
    ·rename_i hk;cases ew;cases e2;exact ⟨nofun,by simpa using hk,rfl,rfl⟩
    ·cases ew;cases e2
   | l c=>
    simp only [capW] at ew
    split at ew
    ·rename_i hk;cases ew;cases e2;exact ⟨nofun,by simpa using hk,rfl,rfl⟩
    ·cases ew;cases e2
  obtain ⟨_,hlj,rfl,ow⟩:=own0
  obtain ⟨a,h1,h2⟩:=r.obj q ow
  rw [capS_get ej h1] at e3;cases e3
  cases li with
  | none=>cases hlj
  | some p=>
   obtain ⟨i',j'⟩:=p
   cases hlj
   have:=hl.one i' _ i rfl ej
   subst this
   exact .inr ⟨_,a,w0,rfl,hi,rfl,ej,q,ow,h1,rfl⟩
 ·have hi':i=js.length:=by
   have:=(List.getElem?_eq_some_iff.mp e1).1
   rw [List.length_append,hcl] at this;simp at this;(first|lia|omega)
  subst hi'
  rw [List.getElem?_append_right (by (first|lia|omega)),hcl,Nat.sub_self] at e1
  rw [List.getElem?_append_right (by (first|lia|omega)),hsl,Nat.sub_self] at e3
  simp only [List.getElem?_cons_zero,Option.some.injEq] at e1 e3
  exact .inl ⟨rfl,e1.symm,e3.symm⟩
theorem blk_rep (r:Rep X P O L ρ σ H2)(hl:LiOk li js ρ)(hn:H2 Dd=none):
  Rep (blk X scope cl s2 H2 fp C (N ++ [accN])) P (fun b=>AvO O ρ σ b∧¬Capd ρ σ js b) ((js.length,Dd) :: lentL li σ) (capE (li.map (·.2)) js ρ ++ [some (.l (.lst []))]) (capS js σ ++ [some (.ref Dd)]) (upd H2 Dd (.lst [])):=by
 have hcl:(capE (li.map (·.2)) js ρ).length=js.length:=by unfold capE;simp
 have hsl:(capS js σ).length=js.length:=by unfold capS;simp
 have acc1:(capE (li.map (·.2)) js ρ ++ [some (.l (.lst []))])[js.length]? =some (some (.l (.lst []))):=by rw [List.getElem?_append_right (by (first|lia|omega)),hcl,Nat.sub_self];rfl
 have acc2:(capS js σ ++ [some (V.ref Dd)])[js.length]? =some (some (.ref Dd)):=by rw [List.getElem?_append_right (by (first|lia|omega)),hsl,Nat.sub_self];rfl
 have lnt2:∀{i j:Nat} {a:Addr},li=some (i,j)→σ[j]? =some (some (.ref a))→∃w0 d,ρ[j]? =some (some w0)∧w0.own=some d∧(capE (li.map (·.2)) js ρ ++ [some (.l (.lst []))])[i]? =some (some (.l d))∧(capS js σ ++ [some (V.ref Dd)])[i]? =some (some (.ref a)):=fun {i j a} e1 e2=>by
  obtain ⟨c,ec⟩:=hl.own i j e1
  obtain ⟨w0,q,ow⟩:=ownAt_some ec
  have ej:=hl.at' i j e1
  have hi:i < js.length:=(List.getElem?_eq_some_iff.mp ej).1
  refine ⟨w0,c,q,ow,?_,by rw [List.getElem?_append_left (by (first|lia|omega))];exact capS_get ej e2⟩
  rw [List.getElem?_append_left (by (first|lia|omega))]
  unfold capE
  rw [List.getElem?_map,ej]
  simp only [Option.map_some,Option.bind_some,q,Option.join_some,e1,beq_self_eq_true]
  cases w0 with
  | o x=>cases ow;rfl
  | l x=>cases ow;rfl
  | _=>cases ow
 have av:∀b,AvO (fun b=>AvO O ρ σ b∧¬Capd ρ σ js b) (capE (li.map (·.2)) js ρ ++ [some (.l (.lst []))]) (capS js σ ++ [some (V.ref Dd)]) b→AvO O ρ σ b∨H2 b=none:=fun b z=>by
  rcases z with z | ⟨i,w,d,e1,e2,e3⟩
  ·exact .inl z.1
  ·rcases blk_own r hl e1 e2 e3 with ⟨_,_,e⟩ | ⟨j,a,w0,_,_,_,_,q,ow,qs,e⟩
   ·cases e;exact .inr hn
   ·cases e;exact .inl (.inr ⟨j,w0,d,q,ow,qs⟩)
 have g:Go (AvO O ρ σ) (AvO (fun b=>AvO O ρ σ b∧¬Capd ρ σ js b) (capE (li.map (·.2)) js ρ ++ [some (.l (.lst []))]) (capS js σ ++ [some (V.ref Dd)])) (fun _=>False) H2 (upd H2 Dd (.lst [])):=⟨fun b o e _=>same_upd hn _ b o e,fun _ z=>z.elim,av⟩
 refine ⟨fun b o e _=>same_upd hn _ b o e,fun b z=>⟨r.there z.1,fun i m=>?_⟩,by simp [hcl,hsl],fun i w e=>?_,fun i i' w w' d d' b e1 e2 e3 e4 e5 e6=>?_,fun i d b e=>?_,fun i d e=>?_,fun i b e=>?_,fun p hp=>den_go g _ _ (r.prot p hp)⟩
 ·rcases List.mem_cons.mp m with m | m
  ·cases m;exact r.fresh hn z.1
  ·obtain ⟨j,e1,e2⟩:=mem_lentL.mp m
   obtain ⟨w0,d,q,ow,_⟩:=lnt2 e1 e2
   exact z.2 ⟨j,w0,d,List.mem_of_getElem? (hl.at' i j e1),q,ow,e2⟩
 ·by_cases hi:i < js.length
  ·have e':=e
   rw [List.getElem?_append_left (by (first|lia|omega))] at e'
   obtain ⟨j,w0,ej,q,ew⟩:=capE_get e'
   obtain ⟨v,h1,h2⟩:=r.slot j w0 q
   refine ⟨v,by rw [List.getElem?_append_left (by (first|lia|omega))];exact capS_get ej h1,?_⟩
   cases w0 with
   | v c=>cases ew;exact den_go g _ _ h2
   | r c=>cases ew
   | o c=>
    simp only [capW] at ew
    obtain ⟨a,rfl,ob⟩:=h2
    have hk:upd H2 Dd (.lst []) a=H2 a:=upd_ne fun z=>by obtain ⟨u,eu,_⟩:=obj_mu ob;rw [z,hn] at eu;cases eu
    split at ew
    ·cases ew;exact ⟨a,rfl,obj_go g hk ob⟩
    ·rename_i nk
     cases ew
     refine obj_den (obj_go g hk ob) fun z=>?_
     rcases z with z | ⟨i2,w2,d2,e1,e2,e3⟩
     ·exact z.2 ⟨j,_,c,List.mem_of_getElem? ej,q,rfl,h1⟩
     ·rcases blk_own r hl e1 e2 e3 with ⟨_,_,e⟩ | ⟨j2,a2,w0,l2,_,_,ej2,q2,ow2,qs2,e⟩
      ·cases e;obtain ⟨u,eu,_⟩:=obj_mu ob;rw [hn] at eu;cases eu
      ·cases e
       have:=r.inj j j2 _ w0 c d2 a q rfl h1 q2 ow2 qs2
       subst this
       rw [l2] at nk;simp at nk
   | l c=>
    simp only [capW] at ew
    obtain ⟨a,rfl,ob⟩:=h2
    have hk:upd H2 Dd (.lst []) a=H2 a:=upd_ne fun z=>by obtain ⟨u,eu,_⟩:=obj_mu ob;rw [z,hn] at eu;cases eu
    split at ew
    ·cases ew;exact ⟨a,rfl,obj_go g hk ob⟩
    ·rename_i nk
     cases ew
     refine obj_den (obj_go g hk ob) fun z=>?_
     rcases z with z | ⟨i2,w2,d2,e1,e2,e3⟩
     ·exact z.2 ⟨j,_,c,List.mem_of_getElem? ej,q,rfl,h1⟩
     ·rcases blk_own r hl e1 e2 e3 with ⟨_,_,e⟩ | ⟨j2,a2,w0,l2,_,_,ej2,q2,ow2,qs2,e⟩
      ·cases e;obtain ⟨u,eu,_⟩:=obj_mu ob;rw [hn] at eu;cases eu
      ·cases e
       have:=r.inj j j2 _ w0 c d2 a q rfl h1 q2 ow2 qs2
       subst this
       rw [l2] at nk;simp at nk
  ·have hi':i=js.length:=by
    have:=(List.getElem?_eq_some_iff.mp e).1
    rw [List.length_append,hcl] at this;simp at this;(first|lia|omega)
   subst hi'
   rw [acc1] at e;cases e
   exact ⟨.ref Dd,acc2,Dd,rfl,[],upd_same,denL_nil⟩
 ·rcases blk_own r hl e1 e2 e3 with ⟨rfl,_,e⟩ | ⟨j,a,w0,l1,_,_,_,q,ow,qs,e⟩
  ·cases e
   rcases blk_own r hl e4 e5 e6 with ⟨rfl,_,_⟩ | ⟨j,a,w0,l1,_,_,_,q,ow,qs,e⟩
   ·rfl
   ·cases e;obtain ⟨u,eu,_⟩:=r.owMu ⟨j,w0,d',q,ow,qs⟩;rw [hn] at eu;cases eu
  ·cases e
   rcases blk_own r hl e4 e5 e6 with ⟨rfl,_,e⟩ | ⟨j',a',w0',l1',_,_,_,q',ow',qs',e⟩
   ·cases e;obtain ⟨u,eu,_⟩:=r.owMu ⟨j,w0,d,q,ow,qs⟩;rw [hn] at eu;cases eu
   ·rw [l1] at l1';cases l1';rfl
 ·by_cases hi:i < js.length
  ·rw [List.getElem?_append_left (by (first|lia|omega))] at e
   obtain ⟨j,w0,ej,q,ew⟩:=capE_get e
   cases w0 <;> simp only [capW] at ew <;> first | cases ew | (split at ew <;> cases ew)
  ·rw [List.getElem?_append_right (by (first|lia|omega))] at e
   cases q:i - (capE (li.map (·.2)) js ρ).length with
   | zero=>rw [q] at e;cases e
   | succ n=>rw [q] at e;simp at e
 ·by_cases hi:i < js.length
  ·have e':=e
   rw [List.getElem?_append_left (by (first|lia|omega))] at e'
   obtain ⟨j,w0,ej,q,ew⟩:=capE_get e'
   obtain ⟨v,h1,h2⟩:=r.slot j w0 q
   have e3:(capS js σ ++ [some (V.ref Dd)])[i]? =some (some v):=by rw [List.getElem?_append_left (by (first|lia|omega))];exact capS_get ej h1
   rcases blk_own r hl e rfl e3 with ⟨rfl,_⟩ | ⟨j,a,w0,l1,_,_,_,q,ow,qs,rfl⟩
   ·(first|lia|omega)
   ·exact ⟨a,e3,List.mem_cons_of_mem _ (mem_lentL.mpr ⟨j,l1,qs⟩)⟩
  ·have hi':i=js.length:=by
    have:=(List.getElem?_eq_some_iff.mp e).1
    rw [List.length_append,hcl] at this;simp at this;(first|lia|omega)
   subst hi'
   exact ⟨Dd,acc2,List.mem_cons_self⟩
 ·rcases List.mem_cons.mp e with e | e
  ·cases e;exact ⟨_,acc1,acc2⟩
  ·obtain ⟨j,e1,e2⟩:=mem_lentL.mp e
   obtain ⟨w0,d,_,_,q1,q2⟩:=lnt2 e1 e2
   exact ⟨d,q1,q2⟩
end
end Z
set_option maxHeartbeats 1000000
namespace Z
open PySem PySem.Spec PyProof.Rows L2
structure Tst (Y:Cx) (ifs:List Expr) (t:FT):Prop where
 to:∀(pins:List (Addr×PySem.Obj)) (s:Shared) (σ:L2.St) (H:Hp) (P:List (D×V)) (O:Av) (L:List (Nat×Addr)) (ρ ρ':Ev) (k:Bool) (Q:Bool→Hp→Prop),Inv Y pins σ H s→Rep Y P O L ρ σ H→t ρ=some (k,ρ')→(∀H',Rep Y P O L ρ' σ H'→Q k H')→
  wpAny (model Y.prog Y.w) Y.A (forIn ifs true fun c r=>if r=true then do let ok ←isTrue c Y.env (eval c Y.env);pure (ForInStep.yield ok) else pure (ForInStep.yield r)) (TP Y pins σ Q) Fa s
theorem tst_nil {Y:Cx}:Tst Y [] (fun ρ=>some (true,ρ)):=⟨fun pins s σ H P O L ρ ρ' k Q I r e q=>by cases e;exact wpAny_tests_nil ⟨H,I,q H r⟩⟩
theorem tst_one {Y:Cx}{c:Expr}{t:FT}(hx:Y.xe=Fa)(h:QT Y c t):Tst Y [c] t:=⟨fun pins s σ H P O L ρ ρ' k Q I r e q=>by
 have z:=h.to pins s σ H Q I ⟨P,O,L,ρ,k,ρ',r,e,q⟩
 rw [hx] at z
 exact wpAny_tests_one z⟩
noncomputable def WksB (li:Option (Nat×Nat)) (K:PySem.W.Frag) (P:List (D×V)) (O:Av) (ρ:Ev) (σ:L2.St) (H:Hp) (xs:List D) (J:It):Prop:=∀(Y:Cx) (O':Av) (L:List (Nat×Addr)) (ρ':Ev) (σ':L2.St) (H':Hp),Y.K=K→Y.H₀=H→Rep Y P O' L ρ' σ' H'→(∀b,O' b→AvO O ρ σ b)→(li=none→∀i b,(i,b)∈L→H b=none)→
 (∀(i:Nat) (x:D),xs[i]? =some x→J.go i H'∧∀v H'',J.yld i H' v H''→Same H' H''∧Den K (AvO O' ρ' σ') H'' x v)∧J.stop xs.length H'
noncomputable def tIB (X:Cx) (li:Option (Nat×Nat)) (fi:FI):TI:=fun σ H R=>∃P O L ρ xs ρ',Rep X P O L ρ σ H∧fi ρ=some (xs,ρ')∧∀J H1 P',Rep X P' O L ρ' σ H1→Holds P' P→WksB li X.K P' O ρ' σ H1 xs J→R J H1
theorem tIBe {X:Cx}{li:Option (Nat×Nat)}{fi:FI}{σ:L2.St}{H:Hp}{R:It→Hp→Prop}{C:Prop}(h:tIB X li fi σ H R)(k:∀P O L ρ xs ρ',Rep X P O L ρ σ H→fi ρ=some (xs,ρ')→(∀J H1 P',Rep X P' O L ρ' σ H1→Holds P' P→WksB li X.K P' O ρ' σ H1 xs J→R J H1)→C):C:=by
 obtain ⟨P,O,L,ρ,w,ρ',r,e,q⟩:=h
 exact k P O L ρ w ρ' r e q
structure QIB (X:Cx) (li:Option (Nat×Nat)) (tg iter:Expr) (fi:FI):Prop where
 to:PI X tg iter (tIB X li fi)
theorem Wks.b {li:Option (Nat×Nat)}{K:PySem.W.Frag}{P:List (D×V)}{O:Av}{ρ:Ev}{σ:L2.St}{H:Hp}{xs:List D}{J:It}(w:Wks K P xs J):WksB li K P O ρ σ H xs J:=fun Y O' L ρ' σ' H' hY _ r _ _=>w Y O' L ρ' σ' H' hY r
theorem qib_of {X:Cx}{li:Option (Nat×Nat)}{tg iter:Expr}{fi:FI}(h:QI X tg iter fi):QIB X li tg iter fi:=⟨PI.weak h.to fun σ H R h0=>tIBe h0 fun P O L ρ xs ρ' r e q=>⟨P,O,L,ρ,xs,ρ',r,e,fun J H1 P' r1 hh w=>q J H1 P' r1 hh w.b⟩⟩
noncomputable def fiName (i:Nat):FI:=fun ρ=>match ρ[i]? with
 | some (some (.v d))=>(items d).map fun xs=>(xs,ρ)
 | some (some (.r _))=>none
 | some (some w)=>match w.own with
  | some (.lst xs)=>some (xs,ρ)
  | _=>none
 | _=>none
theorem go_blk {Y:Cx}{P:List (D×V)}{O O':Av}{L:List (Nat×Addr)}{ρ ρ':Ev}{σ σ':L2.St}{H H':Hp}(hH:Y.H₀=H)(r:Rep Y P O' L ρ' σ' H')(ho:∀b,O' b→AvO O ρ σ b)(hn:∀i b,(i,b)∈L→H b=none):Go (AvO O ρ σ) (AvO O' ρ' σ') (fun _=>False) H H' where
 k:=fun b o e _=>r.same b o (by rw [hH];exact e) fun i m=>by rw [hn i b m] at e;cases e
 m:=fun _ z=>z.elim
 n:=fun b z=>by
  rcases z with z | ⟨i,w,d,e1,e2,e3⟩
  ·exact .inl (ho b z)
  ·cases w with
   | o c=>exact .inr (by rw [←hH];exact r.new i c b e1 e3)
   | l c=>obtain ⟨b',q1,q2⟩:=r.lnt i c e1;rw [e3] at q1;cases q1;exact .inr (hn i b q2)
   | _=>cases e2
theorem qib_name {X:Cx}{tg:Expr}{pos:Pos}(i:Nat){x:Str}(hN:autoParam (X.N[i]? =some x) Zau.a2._auto_1)(hv:autoParam (Vis X.env.scope x) Zau.a5._auto_1)(hd:autoParam ((x == ("__debug__":Str))=false) Zau.a1._auto_1)(hcd:autoParam ((x == ("__classdict__":Str))=false) Zau.a1._auto_1):QIB X none tg (.Name x pos) (fiName i):=⟨PI.weak (pi_seq (pe_var hN hv hd hcd)) fun σ H R h0=>tIBe h0 fun P O L ρ xs ρ' r e q=>by
 unfold fiName at e
 split at e
 ·rename_i d0 e0
  obtain ⟨v,h1,h2⟩:=r.slot i _ e0
  have h2:Den X.K (AvO O ρ σ) H d0 v:=h2
  obtain ⟨ys,e3,e⟩:=oms e
  cases e
  have r3:=r.more (p:=(d0,v)) h2
  have hh:Holds ((d0,v) :: P) P:=fun p hp=>List.mem_cons_of_mem _ hp
  refine ⟨v,h1,?_⟩
  cases d0 with
  | tup zs=>
   cases e3
   have z:=h2
   rw [Den] at z
   obtain ⟨a,vs,rfl,hq,l⟩:=z
   refine .inr ⟨a,rfl,⟨vs,hq⟩,q _ H _ r3 hh (Wks.b fun Y O' L' ρ' σ' Hh hY rr=>?_)⟩
   have z:=rr.head
   rw [hY] at z
   rw [Den] at z
   obtain ⟨a',vs,ea,hq,l⟩:=z
   cases ea
   refine ⟨fun i x ex=>?_,vs,hq,by rw [←denL_length l];exact Nat.le_refl _⟩
   obtain ⟨v0,hv,dv⟩:=denL_get l ex
   exact ⟨⟨vs,v0,hq,hv⟩,fun w H' ⟨y1,y2⟩=>by subst y1;have:=y2 vs hq;rw [hv] at this;cases this;exact ⟨Same.refl _,dv⟩⟩
  | lst zs=>
   cases e3
   obtain ⟨a,vs,rfl,hq,l⟩:=den_r h2
   refine .inl ⟨a,rfl,⟨vs,hq⟩,q _ H _ r3 hh (Wks.b fun Y O' L' ρ' σ' Hh hY rr=>?_)⟩
   have z:=rr.head
   rw [hY] at z
   obtain ⟨a',vs,ea,hq,l⟩:=den_r z
   cases ea
   refine ⟨fun i x ex=>?_,vs,hq,by rw [←denL_length l];exact Nat.le_refl _⟩
   obtain ⟨v0,hv,dv⟩:=denL_get l ex
   exact ⟨⟨vs,v0,hq,hv⟩,fun w H' ⟨y1,y2⟩=>by subst y1;have:=y2 vs hq;rw [hv] at this;cases this;exact ⟨Same.refl _,dv⟩⟩
  | _=>cases e3
 ·cases e
 ·rename_i w0 _ _ e0
  cases ew:w0.own with
  | none=>rw [ew] at e;cases e
  | some c=>
   rw [ew] at e
   cases c with
   | lst zs=>
    cases e
    obtain ⟨a,h1,h2⟩:=r.obj e0 ew
    refine ⟨.ref a,h1,?_⟩
    obtain ⟨vs,h4,lz⟩:=h2
    refine .inl ⟨a,rfl,⟨vs,.inl (.inl h4)⟩,q _ H P r (fun p hp=>hp) fun Y O' L' ρ2 σ2 Hh hY hH rr ho hn=>?_⟩
    have g:=go_blk hH rr ho (hn rfl)
    have l2:=denL_go g _ _ lz
    have h5:Hh a=some (.lst vs):=g.k a _ h4 id
    have hq:SqL X.K Hh a vs:=.inl (.inl h5)
    refine ⟨fun i x ex=>?_,vs,hq,by rw [←denL_length lz];exact Nat.le_refl _⟩
    obtain ⟨v0,hv,dv⟩:=denL_get l2 ex
    exact ⟨⟨vs,v0,hq,hv⟩,fun w H' ⟨y1,y2⟩=>by subst y1;have:=y2 vs hq;rw [hv] at this;cases this;exact ⟨Same.refl _,dv⟩⟩
   | _=>cases e
 ·cases e⟩
noncomputable def appTo (k:Nat) (p:W×Ev):Option Ev:=(takeAll p.2 [p.1.fz]).bind fun q=>match q.1,ownAt q.2 k with
 | [d],some (.lst zs)=>if zs.length < lim then some (setOwn q.2 k (.lst (zs ++ [d]))) else none
 | _,_=>none
noncomputable def turnC (k:Nat) (gf:FG) (t:FT) (fe:FX):D→Ev→Option Ev:=fun x ρ=>(gf x ρ).bind fun ρ1=>(t ρ1).bind fun p=>if p.1=true then (fe p.2).bind (appTo k) else some p.2
noncomputable def loopC (st:D→Ev→Option Ev):List D→Ev→Option Ev
 | [],ρ=>some ρ
 | x :: xs,ρ=>(st x ρ).bind (loopC st xs)
section
variable {X:Cx}{pins:List (Addr×PySem.Obj)}{σ:L2.St}{H2:Hp}{s2:Shared}{scope:Scope}{cl:List (Str×Addr)}{N:List Str}{js:List (Option Nat)}{fp:List Addr}{it:Addr}{tn:Nat→Heap→Prop}{J:It}
 {elt tg iter:Expr} {ifs:List Expr} {pos:Pos} {P:List (D×V)} {O:Av} {L:List (Nat×Addr)} {ρ ρe:Ev} {xs:List D} {gf:FG} {t:FT} {fe:FX} {Qq:Value→Shared→Prop} {use:Option (Value→Sem Unit)} {li:Option (Nat×Nat)}
theorem comp_run (hcalm:X.calm=true)(I2:Inv X pins σ H2 s2)(T:Turn X.prog X.w X.K tg J fp it tn)(st2:tn 0 s2.heap)(f2:∀y∈fp,FpOk X pins H2 y)(b:Blk X scope cl N js)(r:Rep X P O L ρ σ H2)(hl:LiOk li js ρ)(wk:WksB li X.K P O ρ σ H2 xs J)
  (hg:∀C,QG (blk X scope cl s2 H2 fp C (N ++ [accN])) tg gf) (ht:∀C,Tst (blk X scope cl s2 H2 fp C (N ++ [accN])) ifs t) (he:∀C,QX (blk X scope cl s2 H2 fp C (N ++ [accN])) elt fe)
  (e:loopC (turnC js.length gf t fe) xs (capE (li.map (·.2)) js ρ ++ [some (.l (.lst []))])=some ρe)
  (fin:∀(Dd C:Addr) (σe:L2.St) (He:Hp) (s1:Shared),H2 Dd=none→s2.heap.objs.size≤C→Inv (blk X scope cl s2 H2 fp C (N ++ [accN])) [] σe He s1→Rep (blk X scope cl s2 H2 fp C (N ++ [accN])) P (fun b=>AvO O ρ σ b∧¬Capd ρ σ js b) ((js.length,Dd) :: lentL li σ) ρe σe He→
   compPost (model X.prog X.w) X.A X.xe use Qq (.ref Dd) C (.ok .next) s1):
  wpAny (model X.prog X.w) X.A (newList []) (fun acc s3=>wpAny (model X.prog X.w) X.A (newFunctionEnv scope X.env.globals cl [] X.env.qual none .none (some X.env)) (fun cenv s4=>
   codeAny (model X.prog X.w) X.A (.compStart (.ListComp elt [⟨tg,iter,ifs,0⟩] scope pos) 0 (.ref it) acc {cenv with scope:=relabel scope X.env}) (compPost (model X.prog X.w) X.A X.xe use Qq acc cenv.locals) s4) X.xe s3) X.xe s2:=by
 have fl:∀y∈fp,y < s2.heap.objs.size:=fun y hy=>by obtain ⟨o,eo,_⟩:=T.obj _ _ st2 y hy;exact Heap.lt_size eo
 refine wpAny_newObj_type (wpAny_newFunctionEnv b.cell (by intro y hy;simp at hy) (fun h' hns hsb=>?_) b.kind)
 dsimp only at hns hsb ⊢
 generalize hH:s2.heap.push {cls:=.type "list",dict:=none,data:=.seq ([]:List Value).toArray}=H3 at hns hsb ⊢
 have hC:H3.objs.size=s2.heap.objs.size + 1:=by rw [←hH,Heap.size_push]
 have ne:s2.heap.objs.size≠H3.objs.size:=by rw [hC];exact Nat.ne_of_lt (Nat.lt_succ_self _)
 have leC:s2.heap.objs.size≤H3.objs.size:=by rw [hC];exact Nat.le_succ _
 have kp3:∀y o,s2.heap.get? y=some o→H3.get? y=some o:=fun y o e=>hH▸Heap.get?_push_of_some _ e
 have kp4:∀y o,H3.get? y=some o→h'.get? y=some o:=fun y o e=>hsb.extBut y o (Nat.ne_of_lt (Heap.lt_size e)) (Heap.get?_push_of_some _ e)
 have hDn:H2 s2.heap.objs.size=none:=I2.hok.fresh (Nat.le_refl _)
 have ok3:HOk X.prog X.w (upd H2 s2.heap.objs.size (.lst [])) H3:=I2.hok.laid kp3 (Nat.le_refl _) ⟨Nat.zero_le _,[],0,.nil,by rw [←hH];exact Heap.get?_push_size _ rfl⟩
 have I4:=blk_inv (s4:={s2 with heap:=h',toks:=s2.toks + ([]:List (Str×Value)).length}) (Dd:=s2.heap.objs.size) (C:=H3.objs.size) I2 b f2 fl leC (Nat.le_refl _) ne rfl I2.bare (fun y o e=>kp4 y o (kp3 y o e)) hns (ok3.kept kp4)
 have R4:=blk_rep (scope:=scope) (cl:=cl) (N:=N) (s2:=s2) (fp:=fp) (C:=H3.objs.size) (Dd:=s2.heap.objs.size) r hl hDn
 have hfree:∀{H':Hp},(∀y∈fp,H' y=none)→∀y∈fp,FpOk (blk X scope cl s2 H2 fp H3.objs.size (N ++ [accN])) [] H' y:=fun hn y hy=>
  ⟨hn y hy,Nat.ne_of_lt (Nat.lt_of_lt_of_le (fl y hy) leC),fun z=>(List.mem_cons.mp (I2.stkSub y z)).elim (f2 y hy).2.1 (f2 y hy).2.2.1,.inl hy,fun x c ec=>(f2 y hy).2.2.2.2.1 x c (b.sub x c ec),fun p hp=>absurd (show p∈([]:List (Addr×PySem.Obj)) from hp) (by simp)⟩
 obtain ⟨gg,pg,kg⟩:=(hg H3.objs.size).to
 have loop:∀s5:Shared,s5={s2 with heap:=h',toks:=s2.toks + ([]:List (Str×Value)).length}→
   codeAny (model X.prog X.w) X.A (.compLoop (.ListComp elt [⟨tg,iter,ifs,0⟩] scope pos) 0 (.ref it) (.ref s2.heap.objs.size) (compEnvC scope cl H3.objs.size X.env))
    (compPost (model X.prog X.w) X.A X.xe use Qq (.ref s2.heap.objs.size) H3.objs.size) s5:=by
  rintro s5 rfl
  let Y:=blk X scope cl s2 H2 fp H3.objs.size (N ++ [accN])
  let O':Av:=fun b=>AvO O ρ σ b∧¬Capd ρ σ js b
  let L':=(js.length,s2.heap.objs.size) :: lentL li σ
  refine comp_loop (fun n s=>∃i σ' H' ρ',n=xs.length - i∧i≤xs.length∧Inv Y [] σ' H' s∧tn i s.heap∧(∀y∈fp,H' y=none)∧Rep Y P O' L' ρ' σ' H'∧loopC (turnC js.length gf t fe) (xs.drop i) ρ'=some ρe) ?_ xs.length
   ⟨0,_,_,_,by simp,Nat.zero_le _,I4,T.keep 0 _ _ st2 fun y hy o eo=>kp4 y o (kp3 y o eo),fun y hy=>by rw [upd_ne (Nat.ne_of_lt (fl y hy))];exact (f2 y hy).1,R4,by simpa using e⟩
  rintro n s ⟨i,σ',H',ρ',rfl,hi,I,st,fr,rp,el⟩
  obtain ⟨wi,ws⟩:=wk Y O' L' ρ' σ' H' rfl rfl rp (fun b z=>z.1) (fun z i b m=>by subst z;exact (List.mem_cons.mp m).elim (fun m=>by cases m;exact hDn) (fun m=>by cases m))
  by_cases hlt:i < xs.length
  ·obtain ⟨go,yl⟩:=wi i xs[i] (by simp [hlt])
   refine wpAny_mono (T.item Y rfl rfl rfl hcalm i [] s σ' H' Fa I (hfree fr) st go) (fun r s1 ⟨u,hr,h1⟩=>?_) fun _ _ z=>z
   subst hr
   refine wpAny_mono h1 (fun _ s3 ⟨x,H5,I5,r5,y5,st5,fr5⟩=>?_) fun _ _ z=>z
   obtain ⟨sm5,dx⟩:=yl x H5 y5
   replace rp:=rp.grow sm5
   rw [List.drop_eq_getElem_cons hlt,loopC] at el
   cases e1:turnC js.length gf t fe xs[i] ρ' with
   | none=>rw [e1] at el;cases el
   | some ρt=>
    rw [e1] at el
    simp only [Option.bind_some] at el
    unfold turnC at e1
    cases e2:gf xs[i] ρ' with
    | none=>rw [e2] at e1;cases e1
    | some ρ1=>
     rw [e2] at e1
     simp only [Option.bind_some] at e1
     obtain ⟨⟨k,ρ2⟩,e3,e1⟩:=obs e1
     dsimp only at e1
     have I5':=I5.pinned (hfree fr5) (T.obj _ _ st5)
     have gq:=kg P O' L' xs[i] x ρ' ρ1 σ' H5 (fun σ2 Hh=>Rep Y P O' L' ρ1 σ2 Hh) rp dx e2 (fun σ2 H2' rp2=>rp2)
     refine wpAny_mono (pg _ s3 σ' H5 x u _ I5' r5 gq) (fun _ s6 ⟨σ6,H6,I6,rp6⟩=>?_) fun _ _ z=>z
     have back:∀{s7:Shared} {H7:Hp} {ρ7:Ev},Inv Y ([] ++ pinsAt fp s3.heap) σ6 H7 s7→Rep Y P O' L' ρ7 σ6 H7→loopC (turnC js.length gf t fe) (xs.drop (i + 1)) ρ7=some ρe→
       ∃m,m < xs.length - i∧∃i σ' H' ρ',m=xs.length - i∧i≤xs.length∧Inv Y [] σ' H' s7∧tn i s7.heap∧(∀y∈fp,H' y=none)∧Rep Y P O' L' ρ' σ' H'∧loopC (turnC js.length gf t fe) (xs.drop i) ρ'=some ρe:=fun {s7 H7 ρ7} I7 rp7 e7=>by
      refine ⟨xs.length - (i + 1),by omega,i + 1,σ6,H7,ρ7,rfl,hlt,I7.unpinned,T.keep _ _ _ st5 fun y hy o eo=>(I7.pin (y,o) (List.mem_append_right _ (List.mem_append_right _ (mem_pinsAt hy eo)))).1,fun y hy=>?_,rp7,e7⟩
      obtain ⟨o,eo,_⟩:=T.obj _ _ st5 y hy
      exact (I7.pin (y,o) (List.mem_append_right _ (List.mem_append_right _ (mem_pinsAt hy eo)))).2.1
     refine wpAny_mono ((ht H3.objs.size).to _ s6 σ6 H6 P O' L' ρ1 ρ2 k (fun k' Hh=>k'=k∧Rep Y P O' L' ρ2 σ6 Hh) I6 rp6 e3 (fun H' rr=>⟨rfl,rr⟩)) (fun ok s7 ⟨H7,I7,hk,rp7⟩=>?_) fun _ _ z=>z
     subst hk
     cases ok with
     | false=>
      rw [if_neg Bool.false_ne_true] at e1 ⊢
      cases e1
      exact back I7 rp7 el
     | true=>
      rw [if_pos rfl] at e1 ⊢
      obtain ⟨⟨w,ρ3⟩,e4,e1⟩:=obs e1
      simp only [appTo] at e1
      obtain ⟨⟨ds,ρ4⟩,e5,e1⟩:=obs e1
      dsimp only at e1
      split at e1
      ·rename_i d zs e6
       split at e1
       ·rename_i hl
        cases e1
        refine wpAny_mono ((he H3.objs.size).to _ s7 σ6 H7 (fun v H8=>Rep Y P O' L' ρ4 σ6 H8∧Den X.K (AvO O' ρ4 σ6) H8 d v) I7 ⟨P,O',L',ρ2,w,ρ3,rp7,e4,fun v H8 H8' r8 s8 d8=>?_⟩) (fun u8 s8 ⟨v8,H8,I8,r8,rp8,d8⟩=>?_) fun _ _ z=>z
        ·obtain ⟨r9,l9,_⟩:=takeAll_ok (vs:=[v]) (r8.grow s8) e5 ⟨v,[],rfl,d8.fz r8 s8,rfl⟩
         obtain ⟨v',ev,h'⟩:=denL1 l9
         cases ev
         exact ⟨r9,h'⟩
        ·obtain ⟨d0,q1,q2⟩:=rp8.lnd js.length s2.heap.objs.size List.mem_cons_self
         have e6':=e6
         unfold ownAt at e6'
         rw [q1] at e6'
         cases e6'
         obtain ⟨a,h1,vs,h4,lz⟩:=rp8.obj q1 rfl
         rw [q2] at h1
         cases h1
         have h9:=mt_append (X:=Y) _ s8 σ6 H8 (.ref s2.heap.objs.size) [v8] (.ref s2.heap.objs.size) [u8] (fun v H9=>H9=upd H8 s2.heap.objs.size (.lst (vs ++ [v8]))) I8 rfl (.cons r8 .nil) ⟨_,vs,v8,rfl,rfl,h4,by rw [←denL_length lz];exact Nat.lt_of_lt_of_le hl lim_line,rfl⟩
         refine wpAny_mono h9 (fun _ s9 ⟨v9,H9,I9,_,e9⟩=>?_) fun _ _ z=>z
         subst e9
         have g0:Go (AvO O' ρ4 σ6) (AvO O' ρ4 σ6) (fun b=>b=s2.heap.objs.size) H8 (upd H8 s2.heap.objs.size (.lst (vs ++ [v8]))):=⟨fun b o eb nb=>by rw [upd_ne nb];exact eb,fun b z=>by rw [z];exact ⟨.inr ⟨js.length,_,_,q1,rfl,q2⟩,_,h4,trivial⟩,fun b z=>.inl z⟩
         exact back I9 (rp8.mut (d:=.lst (zs ++ [d])) e6 q2 (fun b o eb nb=>by rw [upd_ne nb];exact eb) ⟨_,upd_same,denL_go g0 _ _ (denL_append lz (denL_cons d8 denL_nil))⟩) el
       ·cases e1
      ·cases e1
  ·have hie:i=xs.length:=by omega
   subst hie
   refine wpAny_mono (T.done Y rfl rfl rfl hcalm _ [] s σ' H' Fa I (hfree fr) st ws) (fun r s1 ⟨hr,I1⟩=>?_) fun _ _ z=>z
   subst hr
   rw [List.drop_eq_nil_of_le (Nat.le_refl _),loopC] at el
   cases el
   exact fin _ _ σ' H' s1 hDn leC I1 rp
 exact codeAny_compStart_list (loop _ rfl) (T.self _ 0 _ _ _ (T.keep 0 _ _ st2 fun y hy o eo=>kp4 y o (kp3 y o eo)) (loop _ rfl))
theorem inv_back {C:Addr}{σe:L2.St}{He:Hp}{s1:Shared}{h9:Heap}(I2:Inv X pins σ H2 s2)(f2:∀y∈fp,FpOk X pins H2 y)(leC:s2.heap.objs.size≤C)(I1:Inv (blk X scope cl s2 H2 fp C (N ++ [accN])) [] σe He s1)(hs9:∀y,y≠C→h9.get? y=s1.heap.get? y):
  Inv X pins σ He {s1 with heap:=h9}:=by
 have neC:∀y,He y≠none→y≠C:=fun y z w=>z (by rw [w];exact I1.free)
 have inS:∀y o,s2.heap.get? y=some o→y≠C:=fun y o e0=>Nat.ne_of_lt (Nat.lt_of_lt_of_le (Heap.lt_size e0) leC)
 have B:=I1.base
 have un:Un (frs X.stack) fp H2 He s2.heap h9:=⟨fun y o e0 n hb hx=>(hs9 y (inS y o e0)).trans (B.keep y o e0 n hb hx),fun y o e0 n hb hx=>by
   obtain ⟨sl',z⟩:=B.slot y o e0 n hb hx
   exact ⟨sl',(hs9 y (inS y o e0)).trans z⟩,B.free,fun y o e0 hx=>by
   obtain ⟨o',z⟩:=B.there y o e0 hx
   exact ⟨o',(hs9 y (inS y o e0)).trans z⟩,B.tups,B.frzs,B.tbls⟩
 have hok:HOk X.prog X.w He h9:=fun y u0 q0=>(I1.hok y u0 q0).stay (fun c v hc z=>(hs9 c (neC c (by
   rcases hc with w | w
   ·rw [w,q0];exact fun z=>nomatch z
   ·rw [w];exact fun z=>nomatch z))).trans z) (fun _ z=>z) fun _ _ z=>z
 exact I2.call' (s':={s1 with heap:=h9}) (ch:=fp) I1.os un hok I1.bare (fun y hy=>⟨(f2 y hy).2.2.2.1,(f2 y hy).2.1,(f2 y hy).2.2.2.2.1,(f2 y hy).2.2.2.2.2⟩)
end
noncomputable def capR (js:List (Option Nat)):List W:=js.filterMap fun o=>o.map W.r
noncomputable def backC (li:Option (Nat×Nat)) (js:List (Option Nat)) (ρe ρ1:Ev) (ys:List D):Option (W×Ev):=match li with
 | none=>if lfL ys=true then some (.o (.lst ys),ρ1) else (frzL (capR js) ρ1).map fun ρ2=>(.o (.lst ys),ρ2)
 | some (i,j)=>if lfL ys=true then (ownAt ρe i).bind fun c=>if lfC c=true then some (.o (.lst ys),setOwn ρ1 j c) else none else none
noncomputable def liJ (li:Option (Nat×Nat)) (js:List (Option Nat)):Bool:=match li with
 | none=>true
 | some (i,j)=>js[i]? == some (some j) && (List.range js.length).all fun k=>js[k]? != some (some j) || k == i
noncomputable def liB (li:Option (Nat×Nat)) (ρ:Ev):Bool:=match li with
 | none=>true
 | some (_,j)=>(ownAt ρ j).isSome
noncomputable def fComp (fi:FI) (li:Option (Nat×Nat)) (js:List (Option Nat)) (gf:FG) (t:FT) (fe:FX):FX:=fun ρ=>(fi ρ).bind fun p=>if liB li p.2=true then
  (loopC (turnC js.length gf t fe) p.1 (capE (li.map (·.2)) js p.2 ++ [some (.l (.lst []))])).bind fun ρe=>match ownAt ρe js.length with
   | some (.lst ys)=>backC li js ρe p.2 ys
   | _=>none
 else none
section
variable {X:Cx}{pins:List (Addr×PySem.Obj)}{σ σe:L2.St}{H2 He:Hp}{s2:Shared}{scope:Scope}{cl:List (Str×Addr)}{N:List Str}{js:List (Option Nat)}{fp:List Addr}{Dd C:Addr}
 {elt tg iter:Expr} {ifs:List Expr} {pos:Pos} {P:List (D×V)} {O:Av} {L:List (Nat×Addr)} {ρ ρ2 ρe:Ev} {w:W} {ys:List D} {fi:FI} {gf:FG} {t:FT} {fe:FX} {li:Option (Nat×Nat)}
theorem li_ok (h:liJ li js=true)(hb:liB li ρ=true):LiOk li js ρ:=by
 cases li with
 | none=>exact ⟨nofun,nofun,nofun⟩
 | some p=>
  obtain ⟨i,j⟩:=p
  simp only [liJ,Bool.and_eq_true,beq_iff_eq,List.all_eq_true,List.mem_range,Bool.or_eq_true,bne_iff_ne] at h
  simp only [liB,Option.isSome_iff_exists] at hb
  refine ⟨fun i' j' e=>by cases e;exact hb,fun i' j' e=>by cases e;exact h.1,fun i' j' k e ek=>?_⟩
  cases e
  rcases h.2 k (List.getElem?_eq_some_iff.mp ek).1 with z | z
  ·exact absurd ek z
  ·exact z
theorem mem_capR {j:Nat}:W.r j∈capR js↔some j∈js:=by
 unfold capR
 rw [List.mem_filterMap]
 constructor
 ·rintro ⟨o,h1,h2⟩
  cases o with
  | none=>cases h2
  | some k=>cases h2;exact h1
 ·exact fun h=>⟨some j,h,rfl⟩
theorem back_ok (r:Rep X P O L ρ σ H2)(hl:LiOk li js ρ)(hn:H2 Dd=none)(rp:Rep (blk X scope cl s2 H2 fp C (N ++ [accN])) P (fun b=>AvO O ρ σ b∧¬Capd ρ σ js b) ((js.length,Dd) :: lentL li σ) ρe σe He)
  (ey:ownAt ρe js.length=some (.lst ys)) (e:backC li js ρe ρ ys=some (w,ρ2)):∃Hx,Rep X P O L ρ2 σ Hx∧Same Hx He∧DenW X.K (AvO O ρ2 σ) σ Hx He w (.ref Dd):=by
 obtain ⟨c0,q0,ob⟩:=rp.lents js.length Dd List.mem_cons_self
 rw [ey] at q0;cases q0
 cases li with
 | none=>
  have sm:Same H2 He:=fun b o eb=>rp.same b o eb fun i m=>by
   rcases List.mem_cons.mp m with m | m
   ·cases m;rw [hn] at eb;cases eb
   ·cases m
  unfold backC at e
  simp only at e
  split at e
  ·rename_i hf
   cases e
   exact ⟨H2,r,sm,Dd,rfl,hn,obj_lf (d:=.lst ys) (fun _ _ e _=>e) hf rfl ob⟩
  ·obtain ⟨ρ3,e4,e⟩:=oms e
   cases e
   obtain ⟨r2,k2⟩:=frzL_ok r e4
   refine ⟨H2,r2,sm,Dd,rfl,hn,obj_go (go_av fun b z=>?_) rfl ob⟩
   rcases z with z | z
   ·obtain ⟨z1,z2⟩:=handed_frz r k2 z
    exact .inl ⟨z1,fun ⟨j,w,d,m,q⟩=>z2 ⟨j,w,d,mem_capR.mpr m,q⟩⟩
   ·exact .inr ⟨js.length,by rw [z];exact List.mem_cons_self⟩
 | some p=>
  obtain ⟨i,j⟩:=p
  unfold backC at e
  simp only at e
  split at e
  ·rename_i hf
   cases e5:ownAt ρe i with
   | none=>rw [e5] at e;cases e
   | some c=>
    rw [e5] at e
    simp only [Option.bind_some] at e
    split at e
    ·rename_i hc
     cases e
     obtain ⟨c1,ec1⟩:=hl.own i j rfl
     obtain ⟨w0,q1,ow⟩:=ownAt_some ec1
     obtain ⟨a,h1,oba⟩:=r.obj q1 ow
     obtain ⟨u0,eu0,_⟩:=obj_mu oba
     have na:a≠Dd:=fun z=>by rw [z,hn] at eu0;cases eu0
     have mem:(i,a)∈lentL (some (i,j)) σ:=mem_lentL.mpr ⟨j,rfl,h1⟩
     obtain ⟨c2,ec2,ob2⟩:=rp.lents i a (List.mem_cons_of_mem _ mem)
     rw [e5] at ec2;cases ec2
     obtain ⟨ur,eur,mur⟩:=obj_mu ob
     have keep:∀b o,H2 b=some o→b≠a→He b=some o:=fun b o eb nb=>rp.same b o eb fun k m=>by
      rcases List.mem_cons.mp m with m | m
      ·cases m;rw [hn] at eb;cases eb
      ·obtain ⟨j',e1,e2⟩:=mem_lentL.mp m
       cases e1
       rw [h1] at e2;cases e2;exact nb rfl
     refine ⟨fun b=>if b=Dd then none else He b,r.mut ec1 h1 (fun b o eb nb=>?_) (obj_lf (fun b o eb nm=>?_) hc (if_neg na) ob2),fun b o eb=>?_,Dd,rfl,if_pos rfl,obj_lf (d:=.lst ys) (fun _ _ e _=>e) hf rfl ob⟩
     ·have:b≠Dd:=fun z=>by rw [z,hn] at eb;cases eb
      show (if b=Dd then none else He b)=some o
      rw [if_neg this];exact keep b o eb nb
     ·have:b≠Dd:=fun z=>by rw [z,eur] at eb;cases eb;exact nm mur
      show (if b=Dd then none else He b)=some o
      rw [if_neg this];exact eb
     ·dsimp only at eb;split at eb
      ·cases eb
      ·exact eb
    ·cases e
  ·cases e
theorem comp_gen {Q:VK}{Qq:Value→Shared→Prop}{use:Option (Value→Sem Unit)}{H:Hp}{s:Shared}{newPos:Pos}(hc:X.calm=true)(b:Blk X scope cl N js)(hj:liJ li js=true)(hi:QIB X li tg iter fi)
  (hg:∀s2 H2 fp C,QG (blk X scope cl s2 H2 fp C (N ++ [accN])) tg gf) (ht:∀s2 H2 fp C,Tst (blk X scope cl s2 H2 fp C (N ++ [accN])) ifs t) (he:∀s2 H2 fp C,QX (blk X scope cl s2 H2 fp C (N ++ [accN])) elt fe) (hs:∀x,foldedSetIterable iter X.env x=pure x)
  (I:Inv X pins σ H s) (h:tX X (fComp fi li js gf t fe) σ H Q)
  (fin:∀(C:Addr) (v:V) (He:Hp) (s1:Shared),Q v He→(∀h9:Heap,(∀y,y≠C→h9.get? y=s1.heap.get? y)→Inv X pins σ He {s1 with heap:=h9})→FpOk X pins He C→(∃m,s1.heap.Ns C m)→∀vv,RelV v vv→compPost (model X.prog X.w) X.A X.xe use Qq vv C (.ok .next) s1):
  wpAny (model X.prog X.w) X.A (comprehension (.ListComp elt [⟨tg,iter,ifs,0⟩] scope pos) scope X.env newPos (newList []) false (eval iter X.env) use) Qq X.xe s:=by
 obtain ⟨P,O,L,ρ,w,ρ',r,e,q⟩:=h
 unfold fComp at e
 obtain ⟨⟨xs,ρ1⟩,e1,e⟩:=obs e
 dsimp only at e
 split at e
 ·rename_i hb
  cases e2:loopC (turnC js.length gf t fe) xs (capE (li.map (·.2)) js ρ1 ++ [some (.l (.lst []))]) with
  | none=>rw [e2] at e;cases e
  | some ρe=>
   rw [e2] at e
   simp only [Option.bind_some] at e
   split at e
   ·rename_i ys ey
    have hl:=li_ok hj hb
    refine wpAny_comprehension_free rfl hs b.clos b.kind b.nms ?_
    refine wpAny_mono (hi.to pins s σ H _ I ⟨P,O,L,ρ,xs,ρ1,r,e1,fun J H1 P' r1 hh wk=>(⟨P',r1,hh,wk⟩:∃P',Rep X P' O L ρ1 σ H1∧Holds P' P∧WksB li X.K P' O ρ1 σ H1 xs J)⟩) (fun v s1 h1=>wpAny_mono h1 (fun itv s2 h2=>?_) fun _ _ z=>z) fun _ _ z=>z
    obtain ⟨it,fp,tn,J,H2,rfl,I2,T,st2,f2,P',r1,hh,wk⟩:=h2
    refine comp_run hc I2 T st2 f2 b r1 hl wk (hg s2 H2 fp) (ht s2 H2 fp) (he s2 H2 fp) e2 fun Dd C σe He s3 hn leC I1 rp=>?_
    obtain ⟨Hx,rx,sx,dx⟩:=back_ok r1 hl hn rp ey e
    obtain ⟨m,hm,_⟩:=id I1.loc
    refine fin C (.ref Dd) He s3 (q _ Hx He (rx.holds hh) sx dx) (fun h9 k9=>inv_back I2 f2 leC I1 k9) ?_ ⟨m,hm⟩ (.ref Dd) rfl
    exact I2.fpOk leC I1.free
   ·cases e
 ·cases e
theorem qx_comp (hc:X.calm=true)(b:Blk X scope cl N js)(hi:QIB X li tg iter fi)(hg:∀s2 H2 fp C,QG (blk X scope cl s2 H2 fp C (N ++ [accN])) tg gf)(ht:∀s2 H2 fp C,Tst (blk X scope cl s2 H2 fp C (N ++ [accN])) ifs t)(he:∀s2 H2 fp C,QX (blk X scope cl s2 H2 fp C (N ++ [accN])) elt fe)
  (hj:autoParam (liJ li js=true) Zau.a2._auto_1) (hs:autoParam (∀x,foldedSetIterable iter X.env x=pure x) Zau.a3._auto_1):QX X (.ListComp elt [⟨tg,iter,ifs,0⟩] scope pos) (fComp fi li js gf t fe):=⟨fun pins s σ H Q I h=>by
 rw [eval_ListComp]
 refine comp_gen (use:=none) hc b hj hi hg ht he hs I h fun C v He s1 hq back fp ⟨m,hm⟩ vv rv=>?_
 exact ⟨m,hm,fun h9 k9=>⟨v,He,back h9 fun y ny=>k9.2 y ny,rv,hq⟩⟩⟩
end
end Z
set_option maxHeartbeats 1000000
namespace Z
open PySem PySem.Spec PyProof.Rows L2
theorem walks_lst {prog:Program}{w:World}{A:Around}(hh:A.handled=none){l I:Addr}{its:Array Value}(ne:l≠I):
  Walks prog w A I [I,l] [I] its.size (fun i v=>its[i]? =some v) (fun i h=>h.IsListIter I l i∧h.IsList l its) where
 sub:=fun b hb=>by rw [List.mem_singleton.mp hb];exact List.mem_cons_self
 frame:=fun i h h' ⟨⟨o,e,r⟩,⟨o2,e2,r2⟩⟩ k=>⟨⟨o,k I List.mem_cons_self o e,r⟩,⟨o2,k l (List.mem_cons_of_mem _ List.mem_cons_self) o2 e2,r2⟩⟩
 item:=fun i s Q E hi ⟨h1,h2⟩ q=>wpAny_pyNext_list_item h1 h2 (x:=its[i]) (by simp [hi]) fun h' hit hs=>q its[i] h' s.toks (by simp [hi]) ⟨hit,h2.extBut hs.extBut ne⟩ fun b o hb e=>hs.extBut b o (fun z=>hb (by rw [z];exact List.mem_singleton.mpr rfl)) e
 done:=fun s Q E ⟨h1,h2⟩ q=>wpAny_pyNext_list_end hh h1 h2 (by simp) fun h' hx=>q h' s.toks fun b o hb e=>hx b o (fun z=>hb (by rw [z];exact List.mem_singleton.mpr rfl)) e
 self:=fun i s Q E ⟨h1,_⟩ q=>wpAny_pyIter_listiter h1 q
theorem bools_at {bs:List Bool}{its:List Value}(r:Vals (bs.map V.bl) its){i:Nat}{v:Value}(e:its.toArray[i]? =some v):v= .bool (bs.getD i false):=by
 rw [List.getElem?_toArray] at e
 induction bs generalizing its i with
 | nil=>cases r;simp at e
 | cons b bs ih=>
  cases r with
  | cons r1 r2=>
   cases i with
   | zero=>simp at e;subst e;exact r1
   | succ i=>exact ih r2 (by simpa using e)
theorem range_all (bs:List Bool)(n:Nat)(hn:n=bs.length):(List.range n).all (fun i=>bs.getD i false)=bs.all id:=by
 subst hn
 apply Bool.eq_iff_iff.mpr
 simp only [List.all_eq_true,List.mem_range,id]
 constructor
 ·intro h x hx
  obtain ⟨i,hi,e⟩:=List.mem_iff_getElem.mp hx
  have:=h i hi
  rw [List.getD_eq_getElem?_getD,List.getElem?_eq_getElem hi] at this
  simpa [e] using this
 ·intro h i hi
  rw [List.getD_eq_getElem?_getD,List.getElem?_eq_getElem hi]
  exact h _ (List.getElem_mem hi)
section
variable {X:Cx}
theorem call_allL (hc:X.calm=true):CallR X (.builtin "all") (fun xs H Q=>∃(p:Addr) (bs:List Bool),xs=[.ref p]∧SqL X.K H p (bs.map V.bl)∧Q (.bl (bs.all id)) H):=by
 intro pins s σ H xs us Q I r h
 obtain ⟨p,bs,rfl,hq,q⟩:=h
 obtain ⟨u,rfl,ru⟩:=vals1 r
 cases ru
 obtain ⟨its,rv,⟨o,m,h1,h2,_,h4⟩,hz⟩:=I.list hq
 have hl:s.heap.IsList p its.toArray:=⟨o,h1,h2,m,h4⟩
 have ne:p≠s.heap.objs.size:=Nat.ne_of_lt (Heap.lt_size h1)
 refine call_all_walk (wpAny_pyIter_list hl ⟨s.heap.objs.size,_,_,_,_,_,fun i=>bs.getD i false,rfl,walks_lst (show X.A.in1.handled=none from I.ok.hd hc) ne,⟨⟨_,Heap.get?_push_size _ rfl,rfl,rfl⟩,hl.push _⟩,fun i v s' Q' E' hv hq'=>?_,fun h' tk hk=>?_⟩)
 ·rw [bools_at rv hv];exact wpAny_truthy_bool hq'
 ·have I1:Inv X pins σ H {s with heap:=h',toks:=tk}:=I.kept (t':=tk) fun b ob e=>hk b ob (fun z=>absurd (Heap.lt_size e) (by rw [List.mem_singleton.mp z];exact Nat.lt_irrefl _)) (Heap.get?_push_of_some _ e)
  refine ⟨.bl _,H,I1,?_,q⟩
  show Value.bool _=Value.bool _
  rw [range_all bs _ (by rw [List.size_toArray,←rv.length,List.length_map])]
end
section
variable {X:Cx}{a b c e:Expr}{es rest:List Expr}{pos p:Pos}{f g h:FX}{t u:FT}{fa:FA}{x:Str}
theorem call_intB:CallR X (.type "int") (fun xs H Q=>∃b,xs=[.bl b]∧Q (.int (if b then 1 else 0)) H):=by
 intro pins s σ H xs us Q I r h
 obtain ⟨b,rfl,q⟩:=h
 obtain ⟨u,rfl,rx⟩:=vals1 r
 cases (show u=Value.bool b from rx)
 exact call_int_bool ⟨.int _,H,I.tok _,⟨_,rfl⟩,q⟩
theorem inV_ints (i:Int):∀ns:List Int,inV (.int i) (ns.map V.int)=decide (i∈ns)
 | []=>rfl
 | n :: ns=>by
  have ih:=inV_ints i ns
  unfold inV at ih ⊢
  rw [List.map_cons,List.any_cons,ih]
  show ((n == i) || _)=_
  by_cases h:n=i
  ·simp [h]
  ·have h':¬i=n:=fun z=>h z.symm
   simp [h,h']
theorem flat_ints:∀ns:List Int,(ns.map V.int).all flatV=true
 | []=>rfl
 | n :: ns=>by rw [List.map_cons,List.all_cons,flat_ints ns];rfl
end
theorem vals_of_ints:∀{its:List Value} {ns:List Int},IntsAre its ns→Vals (ns.map V.int) its
 | _,_,.nil=>.nil
 | _,_,.cons a t r=>.cons ⟨t,rfl⟩ (vals_of_ints r)
section
variable {X:Cx}{e:Expr}{pos p:Pos}{fa:FA}
end
section
variable {prog:Program}{w:World}{A:Around}{E:Value→Shared→Prop}{s:Shared}
theorem tuple_full {t sl:Addr}{items:Array Value}{vl vu:Value}{lo hi:Option Int}{Q:Value→Shared→Prop}(ht:IsTup s.heap t items)(hs:s.heap.IsSliceOf sl vl vu .none)(pl:IsPart vl lo)(pu:IsPart vu hi)
  (hw:HT.sIx items.size 0 lo=0∧HT.sIx items.size items.size hi=items.size) (h:Q (.ref t) s):wpAny (model prog w) A (getItem (.ref t) (.ref sl)) Q E s:=by
 obtain ⟨os,hos,hcs,hds⟩:=id hs
 have hTs:s.TypeIs (.ref sl) "slice":=⟨os,hos,hcs⟩
 unfold getItem
 try with_reducible refine wpAny_holding ?_
 first | refine wpAny_bind (wpAny_pure ?_) | skip
 refine wpAny_bind (wpAny_sequenceKey ht.typeIs (by decide) ?_)
 refine wpAny_bind (wpAny_callSpecial?_slot (name:=Str.ofString "__getitem__") ht.typeIs PyProof.Rows.slot_tuple_getitem
  (wpAny_call_entry PyProof.Rows.slot_tuple_getitem ht.typeIs entry_tuple_getitem ?_ (args_tuple_getitem _ _)))
 show wpAny _ _ (Builtin.Tuple.tupleItemsOf (.ref t) >>=_) _ _ s
 refine wpAny_bind (tupleItemsOf_ ht ?_)
 refine wpAny_bind (wpAny_typeOf hTs ?_)
 rw [if_pos (by decide)]
 refine wpAny_bind (HT.sliceApplied_gen hs pl pu ?_)
 show wpAny _ _ (if (((HT.sIx items.size 0 lo:Nat):Int) == 0 && (1:Int) == 1 && (HT.sIx items.size items.size hi - HT.sIx items.size 0 lo) == items.size)=true then _ else _) _ _ s
 rw [if_pos (by rw [hw.1,hw.2];simp)]
 unfold Builtin.Tuple.tupleIsExact
 refine wpAny_bind (wpAny_bind (wpAny_typeOf ht.typeIs (wpAny_pure ?_)))
 rw [if_pos (by decide)]
 first
  | exact wpAny_bind (wpAny_rule (wpAny_pure ⟨_,rfl,wpAny_pure h⟩))
  | exact wpAny_bind (wpAny_rule (wpAny_bind (wpAny_pure (wpAny_pure ⟨_,rfl,wpAny_pure h⟩))))
end
section
variable {X:Cx}{a b c e:Expr}{es rest:List Expr}{pos p:Pos}{f g h:FX}{t u:FT}{fa:FA}{x:Str}
noncomputable def rSlF (K:PySem.W.Frag):V→Option Int→Option Int→Hp→VK→Prop:=fun x lo hi H Q=>∃a xs,x= .ref a∧SqT K H a xs∧(HT.sIx xs.length 0 lo=0∧HT.sIx xs.length xs.length hi=xs.length)∧Q (.ref a) H
theorem sl_full:SlR X (rSlF X.K):=by
 intro pins s σ H x v vl vu lo hi sl Q I rx hs pl pu h
 obtain ⟨a,xs,rfl,hx,hw,q⟩:=h
 cases rx
 obtain ⟨its,r,ht,hz⟩:=I.tuple hx
 have hlen:its.toArray.size=xs.length:=by rw [List.size_toArray];exact r.length.symm
 refine ⟨"tuple",_,PyProof.Rows.slot_tuple_getitem.lookup,ht.typeIs,?_⟩
 exact tuple_full ht hs pl pu (by rw [hlen];exact hw) ⟨.ref a,H,I,rfl,q⟩
theorem qx_b {id:String}{r:List V→Hp→VK→Prop}{k:List D→Option W}(hc:CallR X (.builtin id) r)(hk:PrA X k r)(hm:X.mg x=none)(ha:QA X (e :: es) fa)(hv:autoParam (bootBuiltins x=some (.builtin id)) Zau.a2._auto_1)(hg:autoParam (Gl X x) Zau.a2._auto_1)(hn:autoParam (x≠"__name__") Zau.a1._auto_1)(hdb:autoParam ((x == ("__debug__":Str))=false) Zau.a1._auto_1)
  (he:autoParam (starEach (e :: es) X.env=(false,eval e X.env) :: starEach es X.env) Zau.a2._auto_1) (hpl:autoParam ((backTo pos (starEach es X.env)).any (·.1)=false) Zau.a2._auto_1):QX X (.Call (.Name x p) (e :: es) [] pos) (fCall k fa):=qx_callB hc hk hv hm ha hg hn hdb he hpl
theorem qx_t {T:String}{r:List V→Hp→VK→Prop}{k:List D→Option W}(hc:CallR X (.type T) r)(hk:PrA X k r)(hm:X.mg x=none)(ha:QA X (e :: es) fa)(hv:autoParam (bootBuiltins x=some (.type T)) Zau.a2._auto_1)(hg:autoParam (Gl X x) Zau.a2._auto_1)(hn:autoParam (x≠"__name__") Zau.a1._auto_1)(hdb:autoParam ((x == ("__debug__":Str))=false) Zau.a1._auto_1)
  (he:autoParam (starEach (e :: es) X.env=(false,eval e X.env) :: starEach es X.env) Zau.a2._auto_1) (hpl:autoParam ((backTo pos (starEach es X.env)).any (·.1)=false) Zau.a2._auto_1):QX X (.Call (.Name x p) (e :: es) [] pos) (fCall k fa):=qx_callT hc hk hv hm ha hg hn hdb he hpl
noncomputable def k1 (g:D→Option W):List D→Option W
 | [d]=>g d
 | _=>none
theorem pr1 {g:D→Option W}{r:List V→Hp→VK→Prop}(h:∀(A:Av) (d:D) (w:W) (v:V) (H:Hp) (Q:VK),g d=some w→DenR X.K A H d v→(∀z H',Same H H'→DenW X.K A [] H H' w z→Q z H')→r [v] H Q):PrA X (k1 g) r:=fun A ds w vs H Q _ e l q=>by
 unfold k1 at e
 split at e
 ·obtain ⟨v,rfl,h1⟩:=denRL1 l;exact h A _ w v H Q e h1 q
 ·cases e
noncomputable def k2 (g:Int→Int→D):List D→Option W
 | [.int i,.int j]=>some (.v (g i j))
 | _=>none
noncomputable def gLen (d:D):Option W:=(items d).map fun xs=>.v (.int xs.length)
noncomputable def gAbs:D→Option W
 | .int i=>some (.v (.int (if i < 0 then -i else i)))
 | _=>none
theorem pr_abs:PrA X (k1 gAbs) (fun xs H Q=>∃i,xs=[.int i]∧Q (.int (if i < 0 then -i else i)) H):=pr1 fun A d w v H Q e h q=>by
 cases d <;> simp only [gAbs] at e <;> cases e
 exact ⟨_,by rw [denR_int h],q _ H (Same.refl H) denW_int⟩
noncomputable def gInt:D→Option W
 | .bl b=>some (.v (.int (if b then 1 else 0)))
 | _=>none
theorem pr_int:PrA X (k1 gInt) (fun xs H Q=>∃b,xs=[.bl b]∧Q (.int (if b then 1 else 0)) H):=pr1 fun A d w v H Q e h q=>by
 cases d <;> simp only [gInt] at e <;> cases e
 exact ⟨_,by rw [denR_bl h],q _ H (Same.refl H) denW_int⟩
noncomputable def gTuple (d:D):Option W:=(items d).map fun xs=>.v (.tup xs)
theorem pr_tuple:PrA X (k1 gTuple) (fun xs H Q=>∃p ys,xs=[.ref p]∧((SqL X.K H p ys∧∀l,H l=none→Q (.ref l) (upd H l (.tup ys)))∨(SqT X.K H p ys∧Q (.ref p) H))):=pr1 fun A d w v H Q e h q=>by
 cases d <;> simp only [gTuple,items,Option.map_none] at e <;> first | cases e | skip
 ·rename_i xs
  obtain ⟨a,vs,rfl,hq,l⟩:=denR_tup h
  exact ⟨a,vs,rfl,.inr ⟨hq,q _ H (Same.refl H) h⟩⟩
 ·rename_i xs
  obtain ⟨a,vs,rfl,hq,l⟩:=h
  exact ⟨a,vs,rfl,.inl ⟨hq,fun l' hl=>q _ _ (same_upd hl _) (denW_tup hl l)⟩⟩
noncomputable def gList (d:D):Option W:=(items d).map fun xs=>.o (.lst xs)
theorem pr_list:PrA X (k1 gList) (fun xs H Q=>∃p ys,xs=[.ref p]∧(SqL X.K H p ys∨SqT X.K H p ys)∧∀l,H l=none→Q (.ref l) (upd H l (.lst ys))):=pr1 fun A d w v H Q e h q=>by
 unfold gList at e
 obtain ⟨xs,e1,e⟩:=oms e
 cases e
 obtain ⟨a,ws,rfl,hq,lw⟩:=den_items e1 h
 exact ⟨a,ws,rfl,hq,fun l hl=>q _ _ (same_upd hl _) (denW_new hl lw)⟩
noncomputable def intsOf:List D→Option (List Int)
 | []=>some []
 | .int i :: ds=>(intsOf ds).map fun is=>i :: is
 | _=>none
theorem intsOf_eq:∀{ds:List D} {is:List Int},intsOf ds=some is→ds=is.map D.int
 | [],is,e=>by cases e;rfl
 | .int i :: ds,is,e=>by
  rw [intsOf] at e
  cases e1:intsOf ds with
  | none=>rw [e1] at e;cases e
  | some js=>rw [e1] at e;cases e;rw [List.map_cons,←intsOf_eq e1]
 | .non :: ds,is,e=>by cases e
 | .bl _ :: ds,is,e=>by cases e
 | .str _ :: ds,is,e=>by cases e
 | .tup _ :: ds,is,e=>by cases e
 | .lst _ :: ds,is,e=>by cases e
 | .dT _ _ :: ds,is,e=>by cases e
 | .dK _ _ :: ds,is,e=>by cases e
 | .exn _ :: ds,is,e=>by cases e
theorem intsOf_map:∀is:List Int,intsOf (is.map D.int)=some is
 | []=>rfl
 | i :: is=>by rw [List.map_cons,intsOf,intsOf_map is];rfl
theorem denL_of_ints {K:PySem.W.Frag}{A:Av}{H:Hp}:∀{is:List Int} {vs:List V},DenL K A H (is.map D.int) vs→vs=is.map V.int
 | [],vs,l=>by rw [List.map_nil,DenL] at l;exact l
 | i :: is,vs,l=>by
  rw [List.map_cons,DenL] at l
  obtain ⟨v,r,rfl,h,l⟩:=l
  rw [den_int.mp h,denL_of_ints l];rfl
theorem denL_ints {K:PySem.W.Frag}{A:Av}{H:Hp}:∀ns:List Int,DenL K A H (ns.map D.int) (ns.map V.int)
 | []=>by rw [List.map_nil,List.map_nil];exact denL_nil
 | n :: ns=>by rw [List.map_cons,List.map_cons];exact denL_cons (by rw [Den]) (denL_ints ns)
noncomputable def boolsOf:List D→Option (List Bool)
 | []=>some []
 | .bl i :: ds=>(boolsOf ds).map fun is=>i :: is
 | _=>none
theorem boolsOf_eq:∀{ds:List D} {is:List Bool},boolsOf ds=some is→ds=is.map D.bl
 | [],is,e=>by cases e;rfl
 | .bl i :: ds,is,e=>by
  rw [boolsOf] at e
  cases e1:boolsOf ds with
  | none=>rw [e1] at e;cases e
  | some js=>rw [e1] at e;cases e;rw [List.map_cons,←boolsOf_eq e1]
 | .non :: ds,is,e=>by cases e
 | .int _ :: ds,is,e=>by cases e
 | .str _ :: ds,is,e=>by cases e
 | .tup _ :: ds,is,e=>by cases e
 | .lst _ :: ds,is,e=>by cases e
 | .dT _ _ :: ds,is,e=>by cases e
 | .dK _ _ :: ds,is,e=>by cases e
 | .exn _ :: ds,is,e=>by cases e
theorem boolsOf_map:∀is:List Bool,boolsOf (is.map D.bl)=some is
 | []=>rfl
 | i :: is=>by rw [List.map_cons,boolsOf,boolsOf_map is];rfl
theorem denL_of_bools {K:PySem.W.Frag}{A:Av}{H:Hp}:∀{is:List Bool} {vs:List V},DenL K A H (is.map D.bl) vs→vs=is.map V.bl
 | [],vs,l=>by rw [List.map_nil,DenL] at l;exact l
 | i :: is,vs,l=>by
  rw [List.map_cons,DenL] at l
  obtain ⟨v,r,rfl,h,l⟩:=l
  rw [den_bl.mp h,denL_of_bools l];rfl
noncomputable def gBools (r:List Bool→Bool):D→Option W
 | .lst xs=>(boolsOf xs).map fun bs=>.v (.bl (r bs))
 | _=>none
theorem pr_bools {r:List Bool→Bool}:PrA X (k1 (gBools r)) (fun xs H Q=>∃(p:Addr) (bs:List Bool),xs=[.ref p]∧SqL X.K H p (bs.map V.bl)∧Q (.bl (r bs)) H):=pr1 fun A d w v H Q e h q=>by
 cases d with
 | lst xs=>
  simp only [gBools] at e
  obtain ⟨bs,e1,e⟩:=oms e
  cases e
  obtain ⟨a,vs,rfl,hq,l⟩:=h
  rw [boolsOf_eq e1] at l
  rw [denL_of_bools l] at hq
  exact ⟨a,bs,rfl,hq,q _ H (Same.refl H) denW_bl⟩
 | _=>cases e
noncomputable def oLtT:D→D→Option W
 | .int i,.int j=>some (.v (.bl (decide (i < j))))
 | .tup xs,.tup ys=>(intsOf xs).bind fun ns=>(intsOf ys).map fun ms=>.v (.bl (HT.lexLt ns ms))
 | _,_=>none
theorem kLtT:Pr2 X oLtT (fun v u H Q=>rI0 (fun i j=>.bl (decide (i < j))) v u H Q∨rLtT X.K v u H Q):=by
 intro A x y w v u H Q _ e hx hy q
 unfold oLtT at e
 split at e
 ·cases e;exact .inl ⟨_,_,denR_int hx,denR_int hy,q _ H (Same.refl H) denW_bl⟩
 ·rename_i xs ys
  cases e1:intsOf xs with
  | none=>rw [e1] at e;cases e
  | some ns=>
   cases e2:intsOf ys with
   | none=>rw [e1,e2] at e;cases e
   | some ms=>
    rw [e1,e2] at e;cases e
    obtain ⟨a,vs,rfl,h1,l1⟩:=denR_tup hx
    obtain ⟨b,us,rfl,h2,l2⟩:=denR_tup hy
    rw [intsOf_eq e1] at l1;rw [intsOf_eq e2] at l2
    rw [denL_of_ints l1] at h1;rw [denL_of_ints l2] at h2
    exact .inr ⟨a,b,ns,ms,rfl,rfl,h1,h2,q _ H (Same.refl H) denW_bl⟩
 ·cases e
theorem qx_ltT {k:Nat}(hr:Room k X.A)(ha:QX X a f)(hb:QX X b g):QX X (.Compare a [.Lt] [b] pos) (fBin oLtT f g):=qx_cmp (op_lt.or (op_ltT (by have:=hr.units;(first|lia|omega)))) kLtT ha hb
theorem qt_ltT {k:Nat}(hr:Room k X.A)(ha:QX X a f)(hb:QX X b g):QT X (.Compare a [.Lt] [b] pos) (fTest (fBin oLtT f g)):=qt_cmp (op_lt.or (op_ltT (by have:=hr.units;(first|lia|omega)))) kLtT ha hb
noncomputable def oInI (neg:Bool) (x y:D):Option W:=match x with
 | .int i=>(items y).bind fun ys=>(intsOf ys).map fun ns=>.v (.bl (if neg then !decide (i∈ns) else decide (i∈ns)))
 | _=>none
theorem kInI {neg:Bool}:Pr2 X (oInI neg) (rIn X.K neg):=by
 intro A x y w v u H Q _ e hx hy q
 cases x with
 | int i=>
  simp only [oInI] at e
  cases e1:items y with
  | none=>rw [e1] at e;cases e
  | some ys=>
   rw [e1] at e
   simp only [Option.bind_some] at e
   obtain ⟨ns,e2,e⟩:=oms e
   cases e
   obtain ⟨p,vs,rfl,hq,l⟩:=den_items e1 hy
   rw [intsOf_eq e2] at l
   rw [denL_of_ints l] at hq
   rw [denR_int hx]
   exact ⟨p,ns.map V.int,rfl,hq,rfl,flat_ints ns,by rw [inV_ints];exact q _ H (Same.refl H) denW_bl⟩
 | _=>cases e
theorem qx_inI (ha:QX X a f)(hb:QX X b g)(hm:autoParam (behindInMarks .In b=false) Zau.a2._auto_1):QX X (.Compare a [.In] [b] pos) (fBin (oInI false) f g):=qx_cmp op_in_seq kInI ha hb hm
theorem qt_notInI (ha:QX X a f)(hb:QX X b g)(hm:autoParam (behindInMarks .NotIn b=false) Zau.a2._auto_1):QT X (.Compare a [.NotIn] [b] pos) (fTest (fBin (oInI true) f g)):=qt_cmp op_notIn_seq kInI ha hb hm
noncomputable def fChain (o o':D→D→Option W) (f g h:FX):FX:=fun ρ=>(f ρ).bind fun p=>(g p.2).bind fun q=>(dr q.2 p.1.fz).bind fun x=>(dr q.2 q.1.fz).bind fun y=>(o x y).bind fun d=>match d with
 | .v (.bl k)=>if k=true then (h q.2).bind fun z=>(dr z.2 q.1.fz).bind fun y=>(dr z.2 z.1.fz).bind fun z'=>(o' y z').map fun w=>(w,z.2) else some (.v (.bl false),q.2)
 | _=>none
theorem chain_weak {r r':R2}{o o':D→D→Option W}(k:Pr2 X o r)(k':Pr2 X o' r'):∀σ H Q,tX X (fChain o o' f g h) σ H Q→tChain r r' (tX X f) (tX X g) (tX X h) σ H Q:=fun σ H Q h0=>tXe h0 fun P O L ρ w ρ' r e q=>by
 unfold fChain at e
 obtain ⟨⟨w1,ρ1⟩,e1,e⟩:=obs e
 dsimp only at e
 refine ⟨P,O,L,ρ,w1,ρ1,r,e1,fun v H1 H1' r1 s1 d1=>?_⟩
 obtain ⟨P',r1',k1⟩:=hold (r1.grow s1) (d1.fz r1 s1)
 obtain ⟨⟨w2,ρ2⟩,e2,e⟩:=obs e
 dsimp only at e
 refine ⟨P',O,L,ρ1,w2,ρ2,r1',e2,fun u H2 H2' r2 s2 d2=>?_⟩
 have d2':=d2.fz r2 s2
 obtain ⟨r3,d1'⟩:=k1 ρ2 H2' (r2.grow s2)
 cases e3:dr ρ2 w1.fz with
 | none=>rw [e3] at e;cases e
 | some x=>
  cases e4:dr ρ2 w2.fz with
  | none=>rw [e3,e4] at e;cases e
  | some y=>
   rw [e3,e4] at e
   simp only [Option.bind_some] at e
   cases e5:o x y with
   | none=>rw [e5] at e;cases e
   | some d0=>
    rw [e5] at e
    simp only [Option.bind_some] at e
    refine k _ x y d0 v u H2' _ (fun b z=>r3.there z) e5 (dr_den r3 e3 d1') (dr_den r3 e4 d2') fun z H3 s3 d3=>?_
    split at e
    ·rename_i b
     refine ⟨b,of_denW_bl d3,?_⟩
     have r4:=r3.grow s3
     cases b with
     | true=>
      rw [if_pos rfl] at e ⊢
      obtain ⟨P'',r4',k4⟩:=hold r4 (d2'.same s3)
      obtain ⟨⟨w3,ρ3⟩,e6,e⟩:=obs e
      dsimp only at e
      refine ⟨P'',O,L,ρ2,w3,ρ3,r4',e6,fun u3 H5 H5' r5 s5 d5=>?_⟩
      obtain ⟨r6,d6⟩:=k4 ρ3 H5' (r5.grow s5)
      cases e7:dr ρ3 w2.fz with
      | none=>rw [e7] at e;cases e
      | some y'=>
       cases e8:dr ρ3 w3.fz with
       | none=>rw [e7,e8] at e;cases e
       | some z'=>
        rw [e7,e8] at e
        simp only [Option.bind_some] at e
        cases e9:o' y' z' with
        | none=>rw [e9] at e;cases e
        | some w'=>
         rw [e9] at e;cases e
         exact k' _ y' z' w u u3 H5' Q (fun b z=>r6.there z) e9 (dr_den r6 e7 d6) (dr_den r6 e8 (d5.fz r5 s5)) fun z H' s d=>q z H5' H' r6 s d.st
     | false=>
      rw [if_neg Bool.false_ne_true] at e ⊢
      cases e
      exact q _ H3 H3 r4 (Same.refl _) denW_bl
    ·cases e
theorem qx_leLt (ha:QX X a f)(hb:QX X b g)(hc:QX X c h)(hm:autoParam (lastMarks [.LtE,.Lt] [b,c]=false) Zau.a4._auto_1):QX X (.Compare a [.LtE,.Lt] [b,c] pos) (fChain oLe oLt f g h):=⟨PE.weak (pe_chain op_le op_lt ha.to hb.to hc.to hm) (chain_weak kB0 kB0)⟩
noncomputable abbrev FO:=Ev→Option (Option Int×Ev)
noncomputable def tO (X:Cx) (f:FO):TO:=fun σ H Q=>∃P O L ρ o ρ',Rep X P O L ρ σ H∧f ρ=some (o,ρ')∧∀H',Rep X P O L ρ' σ H'→Q o H'
theorem tOe {X:Cx}{f:FO}{σ:L2.St}{H:Hp}{Q:Option Int→Hp→Prop}{C:Prop}(h:tO X f σ H Q)(k:∀P O L ρ o ρ',Rep X P O L ρ σ H→f ρ=some (o,ρ')→(∀H',Rep X P O L ρ' σ H'→Q o H')→C):C:=by
 obtain ⟨P,O,L,ρ,w,ρ',r,e,q⟩:=h
 exact k P O L ρ w ρ' r e q
structure QO (X:Cx) (e:Option Expr) (f:FO):Prop where
 to:PO X e (tO X f)
theorem PO.weak {X:Cx}{e:Option Expr}{t u:TO}(h:PO X e t)(w:∀σ H Q,u σ H Q→t σ H Q):PO X e u:=fun pins s σ H Q I q=>h pins s σ H Q I (w σ H Q q)
noncomputable def fO0:FO:=fun ρ=>some (none,ρ)
noncomputable def fO1 (f:FX):FO:=fun ρ=>(f ρ).bind fun p=>match p.1 with | .v (.int i)=>some (some i,p.2) | _=>none
theorem qo_none:QO X none fO0:=⟨PO.weak po_none fun σ H Q h0=>tOe h0 fun P O L ρ o ρ' r e q=>by cases e;exact q H r⟩
theorem qo_some (ha:QX X e f):QO X (some e) (fO1 f):=⟨PO.weak (po_some ha.to) fun σ H Q h0=>tOe h0 fun P O L ρ o ρ' r e q=>by
 unfold fO1 at e
 obtain ⟨⟨w,ρ1⟩,e1,e⟩:=obs e
 dsimp only at e
 split at e
 ·rename_i i
  cases e
  refine ⟨P,O,L,ρ,_,_,r,e1,fun v H1 H' r1 s1 d1=>⟨i,?_,q H' (r1.grow s1)⟩⟩
  have d1:Den X.K (AvO O ρ' σ) H' (.int i) v:=d1
  exact den_int.mp d1
 ·cases e⟩
noncomputable def cutD (xs:List D) (lo hi:Option Int):List D:=(xs.drop (HT.sIx xs.length 0 lo)).take (HT.sIx xs.length xs.length hi - HT.sIx xs.length 0 lo)
theorem cutD_den {K:PySem.W.Frag}{A:Av}{H:Hp}{xs:List D}{vs:List V}(lo hi:Option Int)(l:DenL K A H xs vs):DenL K A H (cutD xs lo hi) (cutV vs lo hi):=by
 unfold cutD cutV
 rw [denL_length l]
 exact denL_take _ (denL_drop _ l)
noncomputable def slD (x:D) (lo hi:Option Int):Option W:=match x with
 | .tup xs=>some (.v (.tup (cutD xs lo hi)))
 | .lst xs=>some (.o (.lst (cutD xs lo hi)))
 | _=>none
noncomputable def fSl (f:FX) (lo hi:FO):FX:=fun ρ=>(f ρ).bind fun p=>(lo p.2).bind fun l=>(hi l.2).bind fun u=>(dr u.2 p.1.fz).bind fun x=>(slD x l.1 u.1).map fun w=>(w,u.2)
theorem qx_slice {lo hi:Option Expr}{fl fu:FO}{p2:Pos}(ha:QX X a f)(hl:QO X lo fl)(hu:QO X hi fu):QX X (.Subscript a (.Slice lo hi none p2) pos) (fSl f fl fu):=⟨PE.weak (pe_slice ((sl_list.or sl_tup).or sl_full) ha.to hl.to hu.to) fun σ H Q h0=>tXe h0 fun P O L ρ w ρ' r e q=>by
 unfold fSl at e
 obtain ⟨⟨w1,ρ1⟩,e1,e⟩:=obs e
 dsimp only at e
 obtain ⟨⟨l,ρ2⟩,e2,e⟩:=obs e
 dsimp only at e
 obtain ⟨⟨u,ρ3⟩,e3,e⟩:=obs e
 dsimp only at e
 refine ⟨P,O,L,ρ,w1,ρ1,r,e1,fun v H1 H1' r1 s1 d1=>?_⟩
 obtain ⟨P',r1',k1⟩:=hold (r1.grow s1) (d1.fz r1 s1)
 refine ⟨P',O,L,ρ1,l,ρ2,r1',e2,fun H2 r2=>⟨P',O,L,ρ2,u,ρ3,r2,e3,fun H3 r3=>?_⟩⟩
 obtain ⟨r4,d4⟩:=k1 ρ3 H3 r3
 cases e4:dr ρ3 w1.fz with
 | none=>rw [e4] at e;cases e
 | some x=>
  rw [e4] at e
  simp only [Option.bind_some] at e
  have dx:=dr_den r4 e4 d4
  cases x with
  | tup xs=>
   cases e
   obtain ⟨a,vs,ev,hq,la⟩:=denR_tup dx
   by_cases hn:HT.sIx xs.length 0 l=0∧HT.sIx xs.length xs.length u=xs.length
   ·refine .inr ⟨a,vs,ev,hq,by rw [←denL_length la];exact hn,q _ H3 H3 r4 (Same.refl _) ?_⟩
    have ec:cutD xs l u=xs:=by
     unfold cutD
     rw [hn.1,hn.2,List.drop_zero,Nat.sub_zero,List.take_length]
    rw [ec,←ev]
    exact dx
   ·exact .inl (.inr ⟨a,vs,ev,hq,by rw [←denL_length la];exact hn,fun p hp=>q _ H3 _ r4 (same_upd hp _) (denW_tup hp (cutD_den l u la))⟩)
  | lst xs=>
   cases e
   obtain ⟨a,vs,ev,hq,la⟩:=dx
   exact .inl (.inl ⟨a,vs,ev,hq,fun p hp=>q _ H3 _ r4 (same_upd hp _) (denW_new hp (cutD_den l u la))⟩)
  | _=>cases e⟩
end
end Z
set_option maxHeartbeats 1000000
namespace Z
open PySem PySem.Spec PyProof.Rows L2
section
variable {X:Cx}{a b c e o:Expr}{es rest:List Expr}{pos p apos:Pos}{f g h:FX}{t u:FT}{fa:FA}{x:Str}
noncomputable def isLst:Option D→Bool
 | some (.lst _)=>true
 | _=>false
noncomputable def fMut (op:List D→List D→Option (W×List D)) (f:FX) (fa:FA):FX:=fun ρ=>(f ρ).bind fun p=>match p.1 with
 | .r i=>if isLst (ownAt p.2 i)=true then (fa p.2).bind fun q=>(takeAll q.2 q.1).bind fun z=>match ownAt z.2 i with
  | some (.lst xs)=>(op xs z.1).map fun y=>(y.1,setOwn z.2 i (.lst y.2))
  | _=>none
  else none
 | _=>none
noncomputable def PrM (X:Cx) (op:List D→List D→Option (W×List D)) (r:V→List V→Hp→VK→Prop):Prop:=∀(A:Av) (a:Addr) (xs ds:List D) (w:W) (ys:List D) (us vs:List V) (H:Hp) (Q:VK),H a=some (.lst us)→DenL X.K A H xs us→DenL X.K A H ds vs→op xs ds=some (w,ys)→
 (∀z ws,DenL X.K A H ys ws→DenW X.K A [] H H w z→Q z (upd H a (.lst ws)))→(w= .v .non∨∃d,w= .v d)→r (.ref a) vs H Q
theorem mut_core {op:List D→List D→Option (W×List D)}{r:V→List V→Hp→VK→Prop}(hk:PrM X op r)(hw:∀xs ds w ys,op xs ds=some (w,ys)→∃d,w= .v d):∀σ H Q,tX X (fMut op f fa) σ H Q→tBM X.K "list" r (tX X f) (tA X fa) σ H Q:=fun σ H Q h0=>tXe h0 fun P O L ρ w ρ' rp e q=>by
 unfold fMut at e
 obtain ⟨⟨w1,ρ1⟩,e1,e⟩:=obs e
 dsimp only at e
 split at e
 ·rename_i i
  split at e
  ·rename_i hl
   refine ⟨P,O,L,ρ,_,ρ1,rp,e1,fun v H1 H1' r1 s1 d1=>?_⟩
   have d1:σ[i]? =some (some v):=d1
   have r1':=r1.grow s1
   refine ⟨?_,?_⟩
   ·unfold isLst at hl
    split at hl
    ·rename_i xs e2
     obtain ⟨w0,q0,ow⟩:=ownAt_some e2
     obtain ⟨a,h1,vs,h2,_⟩:=r1'.obj q0 ow
     rw [d1] at h1;cases h1
     exact .inl ⟨rfl,vs,.inl (.inl h2)⟩
    ·cases hl
   ·obtain ⟨⟨ws,ρ2⟩,e3,e⟩:=obs e
    dsimp only at e
    obtain ⟨⟨ds,ρ3⟩,e4,e⟩:=obs e
    dsimp only at e
    split at e
    ·rename_i xs e5
     obtain ⟨⟨wy,ys⟩,e6,e⟩:=oms e
     cases e
     refine ⟨P,O,L,ρ1,ws,ρ2,r1',e3,fun vs H2 r2 l2=>?_⟩
     obtain ⟨r3,l3,_⟩:=takeAll_ok r2 e4 l2
     obtain ⟨w0,q0,ow⟩:=ownAt_some e5
     obtain ⟨a,h1,us,h2,l⟩:=r3.obj q0 ow
     rw [d1] at h1;cases h1
     refine hk _ a xs ds _ ys us vs H2 Q h2 l l3 e6 (fun z wz lz dz=>?_) (.inr (hw _ _ _ _ e6))
     have g0:Go (AvO O ρ3 σ) (AvO O ρ3 σ) (fun b=>b=a) H2 (upd H2 a (.lst wz)):=⟨fun b o eb nb=>by rw [upd_ne nb];exact eb,fun b z=>by rw [z];exact ⟨.inr ⟨i,w0,_,q0,ow,d1⟩,_,h2,trivial⟩,fun b z=>.inl z⟩
     have r4:Rep X P O L (setOwn ρ3 i (.lst ys)) σ (upd H2 a (.lst wz)):=r3.mut (d:=.lst ys) e5 d1 (fun b o eb nb=>by rw [upd_ne nb];exact eb) ⟨wz,upd_same,denL_go g0 _ _ lz⟩
     refine q z _ _ r4 (Same.refl _) ?_
     obtain ⟨d,rfl⟩:=hw _ _ _ _ e6
     have av:∀b,AvO O (setOwn ρ3 i (.lst ys)) σ b→AvO O ρ3 σ b:=fun b z=>z.imp id fun z=>(setOwn_ow e5 b).mp z
     exact den_go (go_av av) _ _ (den_go g0 _ _ dz)
    ·cases e
  ·cases e
 ·cases e
noncomputable def mApp (xs ds:List D):Option (W×List D):=match ds with
 | [d]=>if xs.length < lim then some (.v .non,xs ++ [d]) else none
 | _=>none
theorem pm_append:PrM X mApp rAppend:=fun A a xs ds w ys us vs H Q h l l' e q _=>by
 unfold mApp at e
 split at e
 ·split at e
  ·rename_i d hl
   cases e
   obtain ⟨v,rfl,hv⟩:=denL1 l'
   exact ⟨a,us,v,rfl,rfl,h,by rw [←denL_length l];exact Nat.lt_of_lt_of_le hl lim_line,q _ _ (denL_append l (denL_cons hv denL_nil)) denW_non⟩
  ·cases e
 ·cases e
theorem mv_app:∀xs ds w ys,mApp xs ds=some (w,ys)→∃d,w= .v d:=fun xs ds w ys e=>by
 unfold mApp at e
 split at e
 ·split at e
  ·cases e;exact ⟨_,rfl⟩
  ·cases e
 ·cases e
theorem qx_append (ho:QX X o f)(ha:QA X (e :: es) fa)(hbase:autoParam (attributeBase o "append" X.env (eval o X.env)=eval o X.env) Zau.a2._auto_1)
  (hfew:autoParam (((backTo pos (starEach (e :: es) X.env)).all (fun x=>!x.1) && (backToKw pos (keywordEach [] X.env)).all (fun x=>x.1.isSome) && decide ((e :: es).length + ([]:List Keyword).length + (if ([]:List Keyword).isEmpty then 0 else 1) < 30))=true) Zau.a2._auto_1)
  (hline:autoParam ((apos.endLine == pos.line)=true) Zau.a2._auto_1) (hs:autoParam (starEach (e :: es) X.env=(false,eval e X.env) :: starEach es X.env) Zau.a2._auto_1) (hpl:autoParam ((backTo pos (starEach es X.env)).any (·.1)=false) Zau.a2._auto_1):QX X (.Call (.Attribute o "append" apos) (e :: es) [] pos) (fMut mApp f fa):=
 ⟨PE.weak (pe_bm PySem.F.plainAttrs_list PySem.F.slot_list_append PySem.F.type_list_append mt_append ho.to ha.to hbase hfew hline hs hpl) (mut_core pm_append mv_app)⟩
end
section
variable {P:Program}{w:World}{K:PySem.W.Frag}{mg:Str→Option Value}{base:Heap}
noncomputable def spLaw (K:PySem.W.Frag):Sp:=fun vs H Q _=>∃(a:Addr) (ns:List Int),vs=[.ref a]∧((∃o,H a=some (.frz o (.lst (ns.map V.int))))∨SqL K (fun _=>none) a (ns.map V.int))∧ns.length≤63∧∀H',Q (.bl true) H'
theorem law_ok {st:Stmt}{f:Addr}{fd:FuncData}{N ps:List Str}{k np n:Nat}{G:FS}(F:Fun K "law" "law" st f fd)(S:FnScope N ps (defScope st))(hp:ps.length=np)(hn:N.length=n)
  (body:∀(cdv:Value) (A:Around) (outer:List Env) (s:Shared) (H:Hp) (E:XK),Room k (A.deeper (envOfC "law" (defScope st) s.heap.objs.size f cdv))→
   QSs (cxOf CX0 P w K mg base N "law" (defScope st) f cdv A outer s H E).nox (defBody st) G)
  (h:∀ns:List Int,ns.length≤63→runD np n G [.lst (ns.map D.int)]=some (.v (.bl true))):FnOk P w K mg base CX0 (k + 1) f fd ps (spLaw K):=by
 have den:∀(H:Hp) (a:Addr) (ns:List Int),((∃o,H a=some (.frz o (.lst (ns.map V.int))))∨SqL K (fun _=>none) a (ns.map V.int))→DenL K (fun _=>False) H [.lst (ns.map D.int)] [.ref a]:=fun H a ns hq=>by
  refine denL_cons ?_ denL_nil
  rw [Den]
  exact ⟨a,_,rfl,.inr hq,denL_ints ns⟩
 refine F.ok S (fun vs H Q E ⟨a,ns,ev,hq,hl,q⟩=>?_) (fun cdv A outer s H vs Q E hr ⟨a,ns,ev,hq,hl,q⟩=>⟨_,(body cdv A outer s H E hr).to,?_⟩)
 ·have e:=h ns hl
  unfold runD at e
  split at e
  ·rename_i hl'
   rw [ev,hp,←hl'];rfl
  ·cases e
 ·have e:=h ns hl
  unfold runD at e
  split at e
  ·rename_i hl'
   cases e1:G (start0 n [.lst (ns.map D.int)]) with
   | none=>rw [e1] at e;cases e
   | some r=>
    rw [e1] at e
    refine ⟨[],fun _=>False,[],_,r,rep_start rfl hn (fun b z=>z.elim) (by rw [ev];exact den H a ns hq),e1,?_⟩
    cases r with
    | rt d' ρ'=>cases e;exact fun v H' s' _ d1=>by rw [of_denW_bl d1];exact q H'
    | nx ρ'=>cases e
    | bk ρ'=>cases e
    | ct ρ'=>cases e
  ·cases e
theorem walk {l:PySem.W.OpenLaw}{q:Program}{loose:List Str}{XP:(Str→Option Value)→Heap→Prop}{YP:World→Heap→Prop}{d:DefRec}{K:Params→PySem.W.Frag}(hn:l.most=some 63)(hdf:d.params.defaults=[])
  (hY:∀(w:World) (h:Heap),YP w h→(K w.params).In h)
  (F:∀(w:World) (mg:Str→Option Value) (fa:Addr) (h:Heap),(K w.params).In h→h.Ns mainGlobals mg→mg d.name=some (.ref fa)→
   ∃fd:FuncData,(∀(s:Shared) (u:Value),BindsTo s fd ⟨[u],[]⟩ [("script",u)])∧∀base:Heap,(K w.params).In base→base.Ns mainGlobals mg→FnOk l.prog w (K w.params) mg base CX0 60 fa fd ["script"] (spLaw (K w.params))):
  PySem.W.WalkO q loose XP YP l.row.toRowW d [] (fun f vs=>PySem.call f vs):=
 L2.walk_of (n:=63) (k:=60) (x:="script") (CX:=fun _=>CX0) (sp:=fun w=>spLaw (K w.params)) hn (by decide) hdf ⟨rfl,by decide,by decide,rfl⟩ hY F (fun _ H a ns hl hO hS=>⟨a,ns,rfl,(by
  rcases hS with (hS | ⟨o,hS⟩) | hS
  ·rcases hO a with z | ⟨o,ys,z⟩
   ·rw [z] at hS;cases hS
   ·rw [z] at hS;cases hS
  ·exact .inl ⟨o,hS⟩
  ·exact .inr (.inr hS)),hl,fun _=>rfl⟩) fun _ _ _ _ _ z=>z
end
end Z
set_option maxHeartbeats 1000000
set_option exponentiation.threshold 100000
namespace Z
open PySem L2
theorem aR {d:D}:lfW (.v d)=lf d:=rfl
theorem aQ {d:D}:lfW (.o d)=lfC d:=rfl
theorem aP {xs:List D}:lfC (.lst xs)=lfL xs:=rfl
theorem lfC_dT {ks:List (List Key)}{xs:List D}:lfC (.dT ks xs)=lfL xs:=rfl
theorem lfC_dK {ks:List Key}{xs:List D}:lfC (.dK ks xs)=lfL xs:=rfl
noncomputable def freeO:Option W→Bool
 | some (.l _)=>false
 | _=>true
theorem aF:freeO none=true:=rfl
theorem aG {d:D}:freeO (some (.v d))=true:=rfl
theorem freeO_o {d:D}:freeO (some (.o d))=true:=rfl
theorem freeO_l {d:D}:freeO (some (.l d))=false:=rfl
theorem free_nil {n:Nat}:freeSlot [] n=true:=rfl
theorem aH {x:Option W}{ρ:Ev}:freeSlot (x :: ρ) 0=freeO x:=by
 unfold freeSlot freeO
 rw [List.getElem?_cons_zero]
 cases x with
 | none=>rfl
 | some w=>cases w <;> rfl
theorem aJ {x:Option W}{ρ:Ev}{n:Nat}:freeSlot (x :: ρ) (n + 1)=freeSlot ρ n:=by
 unfold freeSlot
 rw [List.getElem?_cons_succ]
theorem aM {xs:List D}:isLst (some (.lst xs))=true:=rfl
theorem liB_none {ρ:Ev}:liB none ρ=true:=rfl
theorem liB_some {i j:Nat}{ρ:Ev}:liB (some (i,j)) ρ=(ownAt ρ j).isSome:=rfl
theorem own_nil {n:Nat}:ownAt [] n=none:=rfl
theorem bJ {w:W}{ρ:Ev}:ownAt (some w :: ρ) 0=w.own:=rfl
theorem own_n {ρ:Ev}:ownAt (none :: ρ) 0=none:=rfl
theorem bK {x:Option W}{ρ:Ev}{n:Nat}:ownAt (x :: ρ) (n + 1)=ownAt ρ n:=by
 unfold ownAt
 rw [List.getElem?_cons_succ]
theorem iN {c d:D}{ρ:Ev}:setOwn (some (.l c) :: ρ) 0 d=some (.l d) :: ρ:=rfl
theorem iO {c d:D}{ρ:Ev}:setOwn (some (.o c) :: ρ) 0 d=some (.o d) :: ρ:=rfl
theorem iP {x:Option W}{ρ:Ev}{n:Nat}{d:D}:setOwn (x :: ρ) (n + 1) d=x :: setOwn ρ n d:=by
 unfold setOwn
 rw [List.getElem?_cons_succ]
 split <;> rename_i h <;> simp [h]
theorem frz_nil {n:Nat}:frzAt [] n=none:=rfl
theorem aK {d:D}{ρ:Ev}:frzAt (some (.o d) :: ρ) 0=some (some (.v d) :: ρ):=rfl
theorem frz_v {d:D}{ρ:Ev}:frzAt (some (.v d) :: ρ) 0=some (some (.v d) :: ρ):=rfl
theorem aL {x:Option W}{ρ:Ev}{n:Nat}:frzAt (x :: ρ) (n + 1)=(frzAt ρ n).map fun ρ'=>x :: ρ':=by
 unfold frzAt
 rw [List.getElem?_cons_succ]
 split <;> rename_i h <;> simp [h]
noncomputable abbrev acc (zs:List D):Ev:=[some (.l (.lst zs))]
theorem acc_at {B:Ev}{zs:List D}{k:Nat}(h:B.length=k):ownAt (B ++ acc zs) k=some (.lst zs):=by
 unfold ownAt
 rw [List.getElem?_append_right (by (first|lia|omega)),h,Nat.sub_self];rfl
theorem acc_set {B:Ev}{zs ys:List D}{k:Nat}(h:B.length=k):setOwn (B ++ acc zs) k (.lst ys)=B ++ acc ys:=by
 unfold setOwn
 have e:(B ++ acc zs)[k]? =some (some (.l (.lst zs))):=by rw [List.getElem?_append_right (by (first|lia|omega)),h,Nat.sub_self];rfl
 rw [e]
 simp only
 rw [List.set_append_right _ _ (by (first|lia|omega)),h,Nat.sub_self];rfl
theorem app_v {B:Ev}{zs:List D}{k:Nat}{w:W}{d:D}(h:B.length=k)(hw:w= .v d∨w= .o d)(hl:zs.length < lim):appTo k (w,B ++ acc zs)=some (B ++ acc (zs ++ [d])):=by
 unfold appTo
 have e:w.fz= .v d:=by rcases hw with rfl | rfl <;> rfl
 simp only [e,takeAll,Option.map_some,Option.bind_some]
 rw [acc_at h]
 simp only [if_pos hl,acc_set h]
theorem loopC_map {k:Nat}{gf:FG}{t:FT}{fe:FX}(I:Ev→Prop)(p:D→Bool)(h:D→D)(hI:∀B,I B→B.length=k):∀(xs:List D),(∀x∈xs,∀B zs,I B→∃B' w,I B'∧gf x (B ++ acc zs)=some (B' ++ acc zs)∧t (B' ++ acc zs)=some (p x,B' ++ acc zs)∧(p x=true→fe (B' ++ acc zs)=some (w,B' ++ acc zs)∧(w= .v (h x)∨w= .o (h x))))→
  ∀(B:Ev) (zs:List D),zs.length + xs.length≤lim→I B→∃B',I B'∧loopC (turnC k gf t fe) xs (B ++ acc zs)=some (B' ++ acc (zs ++ (xs.filter p).map h))
 | [],st,B,zs,hl,i=>⟨B,i,by simp [loopC]⟩
 | x :: xs,st,B,zs,hl,i=>by
  obtain ⟨B1,w,i1,e1,e2,e3⟩:=st x List.mem_cons_self B zs i
  rw [List.length_cons] at hl
  cases hp:p x with
  | true=>
   obtain ⟨e4,hw⟩:=e3 hp
   obtain ⟨B2,i2,e5⟩:=loopC_map I p h hI xs (fun y hy=>st y (List.mem_cons_of_mem _ hy)) B1 (zs ++ [h x]) (by rw [List.length_append,List.length_singleton];(first|lia|omega)) i1
   refine ⟨B2,i2,?_⟩
   rw [loopC,turnC,e1]
   have ea:=app_v (zs:=zs) (hI B1 i1) hw (by (first|lia|omega))
   simp only [Option.bind_some,e2,hp,if_true,e4,ea]
   rw [e5,List.filter_cons_of_pos hp,List.map_cons,List.append_assoc];rfl
  | false=>
   obtain ⟨B2,i2,e5⟩:=loopC_map I p h hI xs (fun y hy=>st y (List.mem_cons_of_mem _ hy)) B1 zs (by (first|lia|omega)) i1
   refine ⟨B2,i2,?_⟩
   rw [loopC,turnC,e1]
   simp only [Option.bind_some,e2,hp,Bool.false_eq_true,if_false]
   rw [e5,List.filter_cons_of_neg (by rw [hp];exact Bool.false_ne_true)]
theorem comp_map {fi:FI}{js:List (Option Nat)}{gf:FG}{t:FT}{fe:FX}{ρ ρ1:Ev}{xs:List D}(I:Ev→Prop)(p:D→Bool)(h:D→D)(ei:fi ρ=some (xs,ρ1))(hI:∀B,I B→B.length=js.length)(h0:I (capE none js ρ1))(hl:xs.length≤lim)(hf:lfL ((xs.filter p).map h)=true)
  (st:∀x∈xs,∀B zs,I B→∃B' w,I B'∧gf x (B ++ acc zs)=some (B' ++ acc zs)∧t (B' ++ acc zs)=some (p x,B' ++ acc zs)∧(p x=true→fe (B' ++ acc zs)=some (w,B' ++ acc zs)∧(w= .v (h x)∨w= .o (h x)))):
  fComp fi none js gf t fe ρ=some (.o (.lst ((xs.filter p).map h)),ρ1):=by
 obtain ⟨B',i',e⟩:=loopC_map I p h hI xs st (capE none js ρ1) [] (by rw [List.length_nil];(first|lia|omega)) h0
 unfold fComp
 rw [ei]
 simp only [Option.bind_some,liB,if_true,Option.map_none]
 rw [show capE none js ρ1 ++ [some (.l (.lst []))]=capE none js ρ1 ++ acc [] from rfl,e]
 simp only [Option.bind_some,List.nil_append,acc_at (hI B' i'),backC,hf,if_true]
theorem filter_tt {α:Type}(xs:List α):xs.filter (fun _=>true)=xs:=by induction xs with
 | nil=>rfl
 | cons x xs ih=>rw [List.filter_cons_of_pos rfl,ih]
theorem pow_big {a b:Int}{m n:Nat}(ha:a.natAbs < 2 ^ m)(hb:b.natAbs < 2 ^ n)(h:m + n≤8000):(a * b).natAbs < big:=by
 rw [Int.natAbs_mul]
 unfold big
 have h1:a.natAbs * b.natAbs < 2 ^ m * 2 ^ n:=Nat.mul_lt_mul'' ha hb
 rw [←Nat.pow_add] at h1
 exact Nat.lt_of_lt_of_le h1 (Nat.pow_le_pow_right (by decide) h)
theorem mOk_pow {a b:Int}{m n:Nat}(ha:a.natAbs < 2 ^ m)(hb:b.natAbs < 2 ^ n)(hm:m≤8000)(hn:n≤8000):mOk a b:=
 .inr (.inr ⟨Nat.lt_of_lt_of_le ha (Nat.pow_le_pow_right (by decide) hm),Nat.lt_of_lt_of_le hb (Nat.pow_le_pow_right (by decide) hn)⟩)
theorem gcd_turn (m n:Nat)(h:0 < n):Nat.gcd m n=Nat.gcd n (m % n):=by
 rw [Nat.gcd_comm m n,Nat.gcd_rec n m,Nat.gcd_comm]
noncomputable abbrev gcC (j:Nat):FT:=fTest (fBin oGt (fVar j) (fC (.int 0)))
noncomputable abbrev gcB (i j:Nat):FS:=fPar i j (fCons (fVar j) (fCons (fMod (fVar i) (fVar j)) fNil))
theorem set2 {ρ:Ev}{i j:Nat}(hij:i≠j)(a b c d:Option W):(((ρ.set i a).set j b).set i c).set j d=(ρ.set i c).set j d:=by
 apply List.ext_getElem?
 intro l
 simp only [List.getElem?_set,List.length_set]
 by_cases h1:j=l <;> by_cases h2:i=l <;> simp [h1,h2]
theorem gcd_loopF {i j:Nat}(hij:i≠j):∀(k m n:Nat) (ρ:Ev),n≤k→ρ[i]? =some (some (.v (.int (m:Nat))))→ρ[j]? =some (some (.v (.int (n:Nat))))→whileF (gcC j) (gcB i j) (k + 1) ρ=some (.nx ((ρ.set i (some (.v (.int (Nat.gcd m n:Nat))))).set j (some (.v (.int 0)))))
 | k,m,n,ρ,hk,h1,h2=>by
  have tst:gcC j ρ=some (decide ((0:Int) < (n:Int)),ρ):=by
   simp only [gcC,fTest,fBin,fVar,h2,fC,Option.bind_some,W.fz,dr,oI0,Option.map_some]
  rw [whileF,tst]
  by_cases hn:0 < n
  ·have bd:gcB i j ρ=some (.nx ((ρ.set i (some (.v (.int (n:Nat))))).set j (some (.v (.int ((m % n:Nat):Int)))))):=by
    have f1:freeSlot ρ i=true:=by simp only [freeSlot,h1]
    have f2:freeSlot (ρ.set i (some (.v (.int (n:Nat))))) j=true:=by simp only [freeSlot,List.getElem?_set_ne hij,h2]
    have p:(0:Int) < (n:Nat):=by (first|lia|omega)
    simp only [gcB,fPar,fCons,fNil,fVar,h1,h2,fBin,Option.bind_some,W.fz,dr,oI,p,if_true,Option.map_some,takeAll,f1,f2,and_self]
    rfl
   have d:decide ((0:Int) < (n:Int))=true:=by simp;(first|lia|omega)
   simp only [Option.bind_some,d,if_true,bd]
   cases k with
   | zero=>(first|lia|omega)
   | succ k=>
    have hlt:m % n < n:=Nat.mod_lt m hn
    have li:i < ρ.length:=(List.getElem?_eq_some_iff.mp h1).1
    have lj:j < ρ.length:=(List.getElem?_eq_some_iff.mp h2).1
    rw [gcd_loopF hij k n (m % n) _ (by (first|lia|omega)) (by rw [List.getElem?_set_ne (Ne.symm hij)];exact set_here li) (set_here (by simpa using lj)),set2 hij,←gcd_turn m n hn]
  ·have hn0:n=0:=by (first|lia|omega)
   subst hn0
   have d:decide ((0:Int) < ((0:Nat):Int))=false:=by decide
   simp only [Option.bind_some,d,Bool.false_eq_true,if_false,Nat.gcd_zero_right]
   congr 2
   apply List.ext_getElem?
   intro l
   by_cases lj:l=j
   ·subst lj;rw [set_here (by have:=(List.getElem?_eq_some_iff.mp h2).1;simpa using this)];exact h2
   ·rw [List.getElem?_set_ne (Ne.symm lj)]
    by_cases li:l=i
    ·subst li;rw [set_here (List.getElem?_eq_some_iff.mp h1).1];exact h1
    ·rw [List.getElem?_set_ne (Ne.symm li)]
theorem gcd_loop {i j:Nat}(hij:i≠j){a b:Int}{ρ:Ev}(ha:0≤a)(hb:0≤b)(h1:ρ[i]? =some (some (.v (.int a))))(h2:ρ[j]? =some (some (.v (.int b)))):whileV (gcC j) (gcB i j) ρ=some (.nx ((ρ.set i (some (.v (.int (Int.gcd a b:Nat))))).set j (some (.v (.int 0))))):=by
 obtain ⟨m,rfl⟩:=Int.eq_ofNat_of_zero_le ha
 obtain ⟨n,rfl⟩:=Int.eq_ofNat_of_zero_le hb
 exact whileV_of (gcd_loopF hij n m n ρ (Nat.le_refl _) h1 h2)
noncomputable def ratD (q:Rat):D:=.tup [.int q.num,.int q.den]
noncomputable def Sz (n:Nat) (q:Rat):Prop:=q.num.natAbs < 2 ^ n∧q.den < 2 ^ n
theorem Sz.mono {m n:Nat}{q:Rat}(h:Sz m q)(hm:m≤n):Sz n q:=⟨Nat.lt_of_lt_of_le h.1 (Nat.pow_le_pow_right (by decide) hm),Nat.lt_of_lt_of_le h.2 (Nat.pow_le_pow_right (by decide) hm)⟩
theorem divInt_parts {t b:Int}(hb:0 < b):(Rat.divInt t b).num=t / (Int.gcd t b:Nat)∧((Rat.divInt t b).den:Int)=b / (Int.gcd t b:Nat):=by
 obtain ⟨n,rfl⟩:=Int.eq_ofNat_of_zero_le (Int.le_of_lt hb)
 have hn:n≠0:=by (first|lia|omega)
 rw [Rat.divInt_ofNat,←Rat.normalize_eq_mkRat hn,Rat.normalize_eq]
 exact ⟨rfl,by simp [Int.gcd]⟩
theorem sz_div {t b:Int}{n:Nat}(hb:0 < b)(ht:t.natAbs < 2 ^ n)(h:b.natAbs < 2 ^ n):Sz n (Rat.divInt t b):=by
 obtain ⟨e1,e2⟩:=divInt_parts (t:=t) hb
 constructor
 ·rw [e1]
  have:(t / ((Int.gcd t b:Nat):Int)).natAbs≤t.natAbs:=by
   have hd:((Int.gcd t b:Nat):Int) ∣ t:=Int.gcd_dvd_left ..
   rw [Int.natAbs_ediv_of_dvd hd]
   exact Nat.div_le_self ..
  (first|lia|omega)
 ·have:((Rat.divInt t b).den:Int)≤b:=by
   rw [e2]
   exact Int.ediv_le_self _ (Int.le_of_lt hb)
  (first|lia|omega)
end Z
set_option maxHeartbeats 1000000
namespace Z
open PySem L2
section
variable {ρ ρ1 ρ2:Ev}{op o1 o2:D→D→Option W}{o:D→Option W}{f g h:FX}{t u:FT}{fa:FA}{F G:FS}{i j:Nat}{d e x y:D}{w z:W}{ws:List W}{ds xs ys zs:List D}{r:R}{k b:Bool}
noncomputable def varO (i:Nat) (ρ:Ev):Option (Option W)→Option (W×Ev)
 | some (some (.v d))=>some (.v d,ρ)
 | some (some (.r _))=>none
 | some (some _)=>some (.r i,ρ)
 | _=>none
theorem iI:fVar i ρ=varO i ρ ρ[i]?:=by unfold fVar varO;split <;> simp_all
theorem iL:varO i ρ (some (some (.v d)))=some (.v d,ρ):=rfl
theorem iK:varO i ρ (some (some (.o d)))=some (.r i,ρ):=rfl
theorem iJ:varO i ρ (some (some (.l d)))=some (.r i,ρ):=rfl
theorem cE:fC d ρ=some (.v d,ρ):=rfl
noncomputable def drO:Option (Option W)→Option D
 | some (some (.v d))=>some d
 | some (some w)=>w.own
 | _=>none
theorem dF:dr ρ (.v d)=some d:=rfl
theorem dE:dr ρ (.r i)=drO ρ[i]?:=by unfold dr drO;rfl
theorem r_drO_v:drO (some (some (.v d)))=some d:=rfl
theorem dD:drO (some (some (.o d)))=some d:=rfl
theorem dC:drO (some (some (.l d)))=some d:=rfl
theorem dX:(W.v d).fz= .v d:=rfl
theorem dU:(W.o d).fz= .v d:=rfl
theorem dW:(W.r i).fz= .r i:=rfl
noncomputable def drsC (ρ:Ev) (ws:List W):Option D→Option (List D)
 | some d=>(drs ρ ws).map fun ds=>d :: ds
 | none=>none
theorem dJ:drs ρ []=some []:=rfl
theorem dL:drs ρ (w :: ws)=drsC ρ ws (dr ρ w):=by rw [drs];unfold drsC;cases dr ρ w <;> rfl
theorem dI:drsC ρ ws (some d)=(drs ρ ws).map fun ds=>d :: ds:=rfl
noncomputable def bin2 (op:D→D→Option W) (g:FX):Option (W×Ev)→Option (W×Ev)
 | some p=>(g p.2).bind fun q=>(dr q.2 p.1.fz).bind fun x=>(dr q.2 q.1.fz).bind fun y=>(op x y).map fun w=>(w,q.2)
 | none=>none
noncomputable def bin3 (op:D→D→Option W) (w:W):Option (W×Ev)→Option (W×Ev)
 | some q=>(dr q.2 w.fz).bind fun x=>(dr q.2 q.1.fz).bind fun y=>(op x y).map fun w=>(w,q.2)
 | none=>none
noncomputable def bin4 (op:D→D→Option W) (ρ:Ev):Option D→Option D→Option (W×Ev)
 | some x,some y=>(op x y).map fun w=>(w,ρ)
 | _,_=>none
noncomputable def withE (ρ:Ev):Option W→Option (W×Ev)
 | some w=>some (w,ρ)
 | none=>none
theorem b0:fBin op f g ρ=bin2 op g (f ρ):=by unfold fBin bin2;cases f ρ <;> rfl
theorem cA:bin2 op g (some (w,ρ))=bin3 op w (g ρ):=by unfold bin2 bin3;dsimp only;cases g ρ <;> rfl
theorem cB:bin3 op w (some (z,ρ))=bin4 op ρ (dr ρ w.fz) (dr ρ z.fz):=by unfold bin3 bin4;dsimp only;cases dr ρ w.fz <;> cases dr ρ z.fz <;> rfl
theorem cC:bin4 op ρ (some x) (some y)=withE ρ (op x y):=by unfold bin4 withE;dsimp only;cases op x y <;> rfl
theorem iM:withE ρ (some w)=some (w,ρ):=rfl
noncomputable def un2 (o:D→Option W):Option (W×Ev)→Option (W×Ev)
 | some p=>(dr p.2 p.1.fz).bind fun x=>(o x).map fun w=>(w,p.2)
 | none=>none
noncomputable def un3 (o:D→Option W) (ρ:Ev):Option D→Option (W×Ev)
 | some x=>withE ρ (o x)
 | none=>none
theorem iF:fUn o f ρ=un2 o (f ρ):=by unfold fUn un2;cases f ρ <;> rfl
theorem iG:un2 o (some (w,ρ))=un3 o ρ (dr ρ w.fz):=by unfold un2 un3 withE;dsimp only;cases dr ρ w.fz with
 | none=>rfl
 | some x=>simp only [Option.bind_some];cases o x <;> rfl
theorem iH:un3 o ρ (some x)=withE ρ (o x):=rfl
noncomputable def tstO:Option (W×Ev)→Option (Bool×Ev)
 | some (.v (.bl k),ρ)=>some (k,ρ)
 | _=>none
theorem g6:fTest f ρ=tstO (f ρ):=by
 unfold fTest tstO
 cases f ρ with
 | none=>rfl
 | some p=>
  obtain ⟨w,ρ⟩:=p
  cases w with
  | v d=>cases d <;> rfl
  | _=>rfl
theorem iB:tstO (some (.v (.bl k),ρ))=some (k,ρ):=rfl
noncomputable def tru2:Option (W×Ev)→Option (Bool×Ev)
 | some p=>(dr p.2 p.1.fz).bind fun d=>(truth d).map fun k=>(k,p.2)
 | none=>none
noncomputable def tru3 (ρ:Ev):Option D→Option (Bool×Ev)
 | some d=>(truth d).map fun k=>(k,ρ)
 | none=>none
theorem hJ:fTru f ρ=tru2 (f ρ):=by unfold fTru tru2;cases f ρ <;> rfl
theorem hV:tru2 (some (w,ρ))=tru3 ρ (dr ρ w.fz):=by unfold tru2 tru3;dsimp only;cases dr ρ w.fz <;> rfl
theorem hW:tru3 ρ (some (.bl k))=some (k,ρ):=rfl
theorem r_tru_tup:tru3 ρ (some (.tup xs))=some (!xs.isEmpty,ρ):=rfl
theorem r_tru_lst:tru3 ρ (some (.lst xs))=some (!xs.isEmpty,ρ):=rfl
theorem r_tru_non:tru3 ρ (some .non)=some (false,ρ):=rfl
noncomputable def notO:Option (Bool×Ev)→Option (Bool×Ev)
 | some p=>some (!p.1,p.2)
 | none=>none
theorem fH:fNot t ρ=notO (t ρ):=by unfold fNot notO;cases t ρ <;> rfl
theorem fI:notO (some (k,ρ))=some (!k,ρ):=rfl
noncomputable def andO (u:FT):Option (Bool×Ev)→Option (Bool×Ev)
 | some (true,ρ)=>u ρ
 | some (false,ρ)=>some (false,ρ)
 | none=>none
noncomputable def orO (u:FT):Option (Bool×Ev)→Option (Bool×Ev)
 | some (true,ρ)=>some (true,ρ)
 | some (false,ρ)=>u ρ
 | none=>none
theorem bO:fAnd t u ρ=andO u (t ρ):=by unfold fAnd andO;cases t ρ with
 | none=>rfl
 | some p=>obtain ⟨k,ρ⟩:=p;cases k <;> rfl
theorem fP:fOr t u ρ=orO u (t ρ):=by unfold fOr orO;cases t ρ with
 | none=>rfl
 | some p=>obtain ⟨k,ρ⟩:=p;cases k <;> rfl
theorem bT:andO u (some (true,ρ))=u ρ:=id rfl
theorem bS:andO u (some (false,ρ))=some (false,ρ):=rfl
theorem fR:orO u (some (true,ρ))=some (true,ρ):=rfl
theorem fQ:orO u (some (false,ρ))=u ρ:=id rfl
noncomputable def andV (g:FX):Option (Bool×Ev)→Option (W×Ev)
 | some (true,ρ)=>g ρ
 | some (false,ρ)=>some (.v (.bl false),ρ)
 | none=>none
noncomputable def orV (g:FX):Option (Bool×Ev)→Option (W×Ev)
 | some (true,ρ)=>some (.v (.bl true),ρ)
 | some (false,ρ)=>g ρ
 | none=>none
noncomputable def notV:Option (Bool×Ev)→Option (W×Ev)
 | some (k,ρ)=>some (.v (.bl (!k)),ρ)
 | none=>none
noncomputable def ifV (f g:FX):Option (Bool×Ev)→Option (W×Ev)
 | some (true,ρ)=>f ρ
 | some (false,ρ)=>g ρ
 | none=>none
theorem bP:fAndV f g ρ=andV g (tstO (f ρ)):=by unfold fAndV andV;rw [g6];cases tstO (f ρ) with
 | none=>rfl
 | some p=>obtain ⟨k,ρ⟩:=p;cases k <;> rfl
theorem r_orV:fOrV f g ρ=orV g (tstO (f ρ)):=by unfold fOrV orV;rw [g6];cases tstO (f ρ) with
 | none=>rfl
 | some p=>obtain ⟨k,ρ⟩:=p;cases k <;> rfl
theorem r_notV:fNotV f ρ=notV (tstO (f ρ)):=by unfold fNotV notV;rw [g6];cases tstO (f ρ) <;> rfl
theorem eG:fIf t f g ρ=ifV f g (t ρ):=by unfold fIf ifV;cases t ρ with
 | none=>rfl
 | some p=>obtain ⟨k,ρ⟩:=p;cases k <;> rfl
theorem bR:andV g (some (true,ρ))=g ρ:=id rfl
theorem bQ:andV g (some (false,ρ))=some (.v (.bl false),ρ):=rfl
theorem r_orV_t:orV g (some (true,ρ))=some (.v (.bl true),ρ):=rfl
theorem r_orV_f:orV g (some (false,ρ))=g ρ:=id rfl
theorem r_notV_s:notV (some (k,ρ))=some (.v (.bl (!k)),ρ):=rfl
theorem eM:ifV f g (some (true,ρ))=f ρ:=id rfl
theorem eL:ifV f g (some (false,ρ))=g ρ:=id rfl
noncomputable def cons2 (fa:FA):Option (W×Ev)→Option (List W×Ev)
 | some p=>(fa p.2).map fun q=>(p.1.fz :: q.1,q.2)
 | none=>none
noncomputable def cons3 (w:W):Option (List W×Ev)→Option (List W×Ev)
 | some q=>some (w :: q.1,q.2)
 | none=>none
theorem fG:fNil ρ=some ([],ρ):=rfl
theorem cO:fCons f fa ρ=cons2 fa (f ρ):=by unfold fCons cons2;cases f ρ <;> rfl
theorem cP:cons2 fa (some (w,ρ))=cons3 w.fz (fa ρ):=by unfold cons2 cons3;dsimp only;cases fa ρ <;> rfl
theorem cQ:cons3 w (some (ws,ρ))=some (w :: ws,ρ):=rfl
noncomputable def takC (d:D):Option (List D×Ev)→Option (List D×Ev)
 | some p=>some (d :: p.1,p.2)
 | none=>none
noncomputable def takR (i:Nat) (ws:List W):Option Ev→Option (List D×Ev)
 | some ρ1=>match ρ1[i]? with
  | some (some (.v d))=>(takeAll ρ1 ws).map fun p=>(d :: p.1,p.2)
  | _=>none
 | none=>none
noncomputable def takS (ρ:Ev) (ws:List W):Option (Option W)→Option (List D×Ev)
 | some (some (.v d))=>takC d (takeAll ρ ws)
 | _=>none
theorem gU:takeAll ρ []=some ([],ρ):=rfl
theorem gW:takeAll ρ (.v d :: ws)=takC d (takeAll ρ ws):=by rw [takeAll];unfold takC;cases takeAll ρ ws <;> rfl
theorem r_tak_r:takeAll ρ (.r i :: ws)=takR i ws (frzAt ρ i):=by rw [takeAll];unfold takR;cases frzAt ρ i <;> rfl
theorem gT:takC d (some (ds,ρ))=some (d :: ds,ρ):=rfl
theorem r_takR:takR i ws (some ρ)=takS ρ ws ρ[i]?:=by
 unfold takR takS
 dsimp only
 split
 ·unfold takC;cases takeAll ρ ws <;> rfl
 ·rfl
theorem r_takS:takS ρ ws (some (some (.v d)))=takC d (takeAll ρ ws):=rfl
noncomputable def disp2 (mk:List D→W):Option (List W×Ev)→Option (W×Ev)
 | some p=>(takeAll p.2 p.1).bind fun q=>if q.1.length≤lim then some (mk q.1,q.2) else none
 | none=>none
noncomputable def disp3 (mk:List D→W):Option (List D×Ev)→Option (W×Ev)
 | some q=>if q.1.length≤lim then some (mk q.1,q.2) else none
 | none=>none
theorem iC:fTup fa ρ=disp2 (fun ds=>.v (.tup ds)) (fa ρ):=by unfold fTup disp2;cases fa ρ <;> rfl
theorem eY:fLst fa ρ=disp2 (fun ds=>.o (.lst ds)) (fa ρ):=by unfold fLst disp2;cases fa ρ <;> rfl
theorem cW {mk:List D→W}:disp2 mk (some (ws,ρ))=disp3 mk (takeAll ρ ws):=by unfold disp2 disp3;dsimp only;cases takeAll ρ ws <;> rfl
theorem cX {mk:List D→W}:disp3 mk (some (ds,ρ))=if ds.length≤lim then some (mk ds,ρ) else none:=rfl
noncomputable def call2 (k:List D→Option W):Option (List W×Ev)→Option (W×Ev)
 | some p=>(drs p.2 p.1).bind fun ds=>(k ds).map fun w=>(w,p.2)
 | none=>none
noncomputable def call3 (k:List D→Option W) (ρ:Ev):Option (List D)→Option (W×Ev)
 | some ds=>withE ρ (k ds)
 | none=>none
theorem cF {k:List D→Option W}:fCall k fa ρ=call2 k (fa ρ):=by unfold fCall call2;cases fa ρ <;> rfl
theorem cG {k:List D→Option W}:call2 k (some (ws,ρ))=call3 k ρ (drs ρ ws):=by
 unfold call2 call3 withE
 dsimp only
 cases drs ρ ws with
 | none=>rfl
 | some ds=>simp only [Option.bind_some];cases k ds <;> rfl
theorem cH {k:List D→Option W}:call3 k ρ (some ds)=withE ρ (k ds):=rfl
theorem eX {g:D→Option W}:k1 g [d]=g d:=rfl
theorem r_k2 {g:Int→Int→D}{i j:Int}:k2 g [.int i,.int j]=some (.v (g i j)):=rfl
noncomputable def def2 (g:List D→Option W):Option (List W×Ev)→Option (W×Ev)
 | some p=>(drs p.2 p.1).bind fun ds=>(g ds).bind fun w=>if lfW w=true then some (w,p.2) else (frzL p.1 p.2).map fun ρ2=>(w,ρ2)
 | none=>none
noncomputable def def3 (g:List D→Option W) (ws:List W) (ρ:Ev):Option (List D)→Option (W×Ev)
 | some ds=>(g ds).bind fun w=>if lfW w=true then some (w,ρ) else (frzL ws ρ).map fun ρ2=>(w,ρ2)
 | none=>none
noncomputable def def4 (ws:List W) (ρ:Ev):Option W→Option (W×Ev)
 | some w=>if lfW w=true then some (w,ρ) else (frzL ws ρ).map fun ρ2=>(w,ρ2)
 | none=>none
theorem cR {g:List D→Option W}:fDef g fa ρ=def2 g (fa ρ):=by unfold fDef def2;cases fa ρ <;> rfl
theorem cS {g:List D→Option W}:def2 g (some (ws,ρ))=def3 g ws ρ (drs ρ ws):=by unfold def2 def3;dsimp only;cases drs ρ ws <;> rfl
theorem cU {g:List D→Option W}:def3 g ws ρ (some ds)=def4 ws ρ (g ds):=by unfold def3 def4;dsimp only;cases g ds <;> rfl
theorem cV:def4 ws ρ (some w)=if lfW w=true then some (w,ρ) else (frzL ws ρ).map fun ρ2=>(w,ρ2):=rfl
noncomputable def dl2 (g:D→List D→Option (W×D)):Option (List W×Ev)→Option (W×Ev)
 | some (.r i :: ws,ρ)=>(ownAt ρ i).bind fun c=>(drs ρ ws).bind fun ds=>(g c ds).bind fun z=>if noR i ws=true∧lfC z.2=true then (if lfW z.1=true then some (z.1,setOwn ρ i z.2) else (frzL ws (setOwn ρ i z.2)).map fun ρ2=>(z.1,ρ2)) else none
 | _=>none
noncomputable def dl3 (g:D→List D→Option (W×D)) (i:Nat) (ws:List W) (ρ:Ev):Option D→Option (List D)→Option (W×Ev)
 | some c,some ds=>(g c ds).bind fun z=>if noR i ws=true∧lfC z.2=true then (if lfW z.1=true then some (z.1,setOwn ρ i z.2) else (frzL ws (setOwn ρ i z.2)).map fun ρ2=>(z.1,ρ2)) else none
 | _,_=>none
noncomputable def dl4 (i:Nat) (ws:List W) (ρ:Ev):Option (W×D)→Option (W×Ev)
 | some z=>if noR i ws=true∧lfC z.2=true then (if lfW z.1=true then some (z.1,setOwn ρ i z.2) else (frzL ws (setOwn ρ i z.2)).map fun ρ2=>(z.1,ρ2)) else none
 | none=>none
theorem cY {g:D→List D→Option (W×D)}:fDefL g fa ρ=dl2 g (fa ρ):=by
 unfold fDefL dl2
 cases fa ρ with
 | none=>rfl
 | some p=>
  obtain ⟨ws,ρ⟩:=p
  cases ws with
  | nil=>rfl
  | cons w ws=>cases w <;> rfl
theorem cZ {g:D→List D→Option (W×D)}:dl2 g (some (.r i :: ws,ρ))=dl3 g i ws ρ (ownAt ρ i) (drs ρ ws):=by unfold dl2 dl3;dsimp only;cases ownAt ρ i <;> cases drs ρ ws <;> rfl
theorem dA {g:D→List D→Option (W×D)}:dl3 g i ws ρ (some d) (some ds)=dl4 i ws ρ (g d ds):=by unfold dl3 dl4;dsimp only;cases g d ds <;> rfl
theorem dB:dl4 i ws ρ (some (w,d))=if noR i ws=true∧lfC d=true then (if lfW w=true then some (w,setOwn ρ i d) else (frzL ws (setOwn ρ i d)).map fun ρ2=>(w,ρ2)) else none:=rfl
noncomputable def sl2 (lo hi:FO):Option (W×Ev)→Option (W×Ev)
 | some p=>(lo p.2).bind fun l=>(hi l.2).bind fun u=>(dr u.2 p.1.fz).bind fun x=>(slD x l.1 u.1).map fun w=>(w,u.2)
 | none=>none
noncomputable def sl3 (hi:FO) (w:W):Option (Option Int×Ev)→Option (W×Ev)
 | some l=>(hi l.2).bind fun u=>(dr u.2 w.fz).bind fun x=>(slD x l.1 u.1).map fun w=>(w,u.2)
 | none=>none
noncomputable def sl4 (w:W) (l:Option Int):Option (Option Int×Ev)→Option (W×Ev)
 | some u=>(dr u.2 w.fz).bind fun x=>(slD x l u.1).map fun w=>(w,u.2)
 | none=>none
noncomputable def sl5 (l u:Option Int) (ρ:Ev):Option D→Option (W×Ev)
 | some x=>withE ρ (slD x l u)
 | none=>none
theorem gN {lo hi:FO}:fSl f lo hi ρ=sl2 lo hi (f ρ):=by unfold fSl sl2;cases f ρ <;> rfl
theorem gO {lo hi:FO}:sl2 lo hi (some (w,ρ))=sl3 hi w (lo ρ):=by unfold sl2 sl3;dsimp only;cases lo ρ <;> rfl
theorem gP {hi:FO}{l:Option Int}:sl3 hi w (some (l,ρ))=sl4 w l (hi ρ):=by unfold sl3 sl4;dsimp only;cases hi ρ <;> rfl
theorem gQ {l u:Option Int}:sl4 w l (some (u,ρ))=sl5 l u ρ (dr ρ w.fz):=by
 unfold sl4 sl5 withE
 dsimp only
 cases dr ρ w.fz with
 | none=>rfl
 | some x=>simp only [Option.bind_some];cases slD x l u <;> rfl
theorem gR {l u:Option Int}:sl5 l u ρ (some x)=withE ρ (slD x l u):=rfl
theorem gS {l u:Option Int}:slD (.tup xs) l u=some (.v (.tup (cutD xs l u))):=rfl
theorem r_sl_l {l u:Option Int}:slD (.lst xs) l u=some (.o (.lst (cutD xs l u))):=rfl
noncomputable def o1O:Option (W×Ev)→Option (Option Int×Ev)
 | some (.v (.int i),ρ)=>some (some i,ρ)
 | _=>none
theorem fM:fO0 ρ=some (none,ρ):=rfl
theorem fN:fO1 f ρ=o1O (f ρ):=by
 unfold fO1 o1O
 cases f ρ with
 | none=>rfl
 | some p=>
  obtain ⟨w,ρ⟩:=p
  cases w with
  | v d=>cases d <;> rfl
  | _=>rfl
theorem fO {n:Int}:o1O (some (.v (.int n),ρ))=some (some n,ρ):=rfl
noncomputable def thnO (G:FS):Option R→Option R
 | some (.nx ρ)=>G ρ
 | o=>o
theorem g7:fThen F G ρ=thnO G (F ρ):=by unfold fThen thnO;cases F ρ with
 | none=>rfl
 | some r=>cases r <;> rfl
theorem g8:thnO G (some (.nx ρ))=G ρ:=id rfl
theorem g9:thnO G (some (.rt w ρ))=some (.rt w ρ):=id rfl
theorem r_then_bk:thnO G (some (.bk ρ))=some (.bk ρ):=rfl
theorem r_then_ct:thnO G (some (.ct ρ))=some (.ct ρ):=rfl
noncomputable def retO:Option (W×Ev)→Option R
 | some p=>retW p.2 p.1
 | none=>none
noncomputable def retS (ρ:Ev):Option (Option W)→Option R
 | some (some (.o d))=>some (.rt (.o d) ρ)
 | some (some (.v d))=>some (.rt (.v d) ρ)
 | _=>none
theorem gD:fRet f ρ=retO (f ρ):=by unfold fRet retO;cases f ρ <;> rfl
theorem gH:retO (some (.v d,ρ))=some (.rt (.v d) ρ):=rfl
theorem gF:retO (some (.o d,ρ))=some (.rt (.o d) ρ):=rfl
theorem gG:retO (some (.r i,ρ))=retS ρ ρ[i]?:=by unfold retO retS;first | (dsimp only [retW];done) | (dsimp only [retW];rfl)
theorem gE:retS ρ (some (some (.o d)))=some (.rt (.o d) ρ):=rfl
theorem r_retS_v:retS ρ (some (some (.v d)))=some (.rt (.v d) ρ):=rfl
noncomputable def ifO (F G:FS):Option (Bool×Ev)→Option R
 | some (true,ρ)=>F ρ
 | some (false,ρ)=>G ρ
 | none=>none
theorem eI:fIfS t F G ρ=ifO F G (t ρ):=by unfold fIfS ifO;cases t ρ with
 | none=>rfl
 | some p=>obtain ⟨k,ρ⟩:=p;cases k <;> rfl
theorem eK:ifO F G (some (true,ρ))=F ρ:=id rfl
theorem eJ:ifO F G (some (false,ρ))=G ρ:=id rfl
noncomputable def asgO (i:Nat):Option (W×Ev)→Option R
 | some p=>(bindW p.2 i p.1).map .nx
 | none=>none
noncomputable def bndO (i j:Nat):Option Ev→Option R
 | some ρ1=>match ρ1[j]? with
  | some (some (.v d))=>if freeSlot ρ1 i=true then some (.nx (ρ1.set i (some (.v d)))) else none
  | _=>none
 | none=>none
noncomputable def bndS (i:Nat) (ρ:Ev):Option (Option W)→Option R
 | some (some (.v d))=>if freeSlot ρ i=true then some (.nx (ρ.set i (some (.v d)))) else none
 | _=>none
theorem bX:fAsg i f ρ=asgO i (f ρ):=by unfold fAsg asgO;cases f ρ <;> rfl
theorem bZ:asgO i (some (.v d,ρ))=if freeSlot ρ i=true then some (.nx (ρ.set i (some (.v d)))) else none:=by unfold asgO;dsimp only [bindW];split <;> rfl
theorem bY:asgO i (some (.o d,ρ))=if freeSlot ρ i=true then some (.nx (ρ.set i (some (.o d)))) else none:=by unfold asgO;dsimp only [bindW];split <;> rfl
theorem r_asg_r:asgO i (some (.r j,ρ))=bndO i j (frzAt ρ j):=by
 unfold asgO bndO
 dsimp only [bindW]
 cases frzAt ρ j with
 | none=>rfl
 | some ρ1=>
  simp only [Option.bind_some]
  cases q:ρ1[j]? with
  | none=>rfl
  | some o=>
   cases o with
   | none=>rfl
   | some w=>
    cases w with
    | v d=>dsimp only;split <;> rfl
    | _=>rfl
theorem r_bndO:bndO i j (some ρ)=bndS i ρ ρ[j]?:=by
 unfold bndO bndS
 rfl
theorem r_bndS:bndS i ρ (some (some (.v d)))=if freeSlot ρ i=true then some (.nx (ρ.set i (some (.v d)))) else none:=rfl
noncomputable def agO2 (gf:FG):Option (W×Ev)→Option R
 | some p=>(takeAll p.2 [p.1.fz]).bind fun q=>match q.1 with
  | [d]=>(gf d q.2).map .nx
  | _=>none
 | none=>none
noncomputable def agO3 (gf:FG):Option (List D×Ev)→Option R
 | some ([d],ρ)=>(gf d ρ).map .nx
 | _=>none
noncomputable def nxO:Option Ev→Option R
 | some ρ=>some (.nx ρ)
 | none=>none
theorem bL {gf:FG}:fAsgG f gf ρ=agO2 gf (f ρ):=by unfold fAsgG agO2;cases f ρ <;> rfl
theorem bM {gf:FG}:agO2 gf (some (w,ρ))=agO3 gf (takeAll ρ [w.fz]):=by
 unfold agO2 agO3
 dsimp only
 cases takeAll ρ [w.fz] with
 | none=>rfl
 | some p=>
  obtain ⟨ds,ρ⟩:=p
  match ds with
  | []=>rfl
  | [_]=>rfl
  | _ :: _ :: _=>rfl
theorem bN {gf:FG}:agO3 gf (some ([d],ρ))=nxO (gf d ρ):=by unfold agO3 nxO;dsimp only;cases gf d ρ <;> rfl
theorem fL:nxO (some ρ)=some (.nx ρ):=rfl
theorem d9:gfName i d ρ=if freeSlot ρ i=true then some (ρ.set i (some (.v d))) else none:=rfl
noncomputable def gcO (gs:FGs) (ds:List D):Option Ev→Option Ev
 | some ρ=>gs ds ρ
 | none=>none
theorem eA:gfNil [] ρ=some ρ:=rfl
theorem dZ {gf:FG}{gs:FGs}:gfCons gf gs (d :: ds) ρ=gcO gs ds (gf d ρ):=by unfold gfCons gcO;dsimp only;cases gf d ρ <;> rfl
theorem dY {gs:FGs}:gcO gs ds (some ρ)=gs ds ρ:=id rfl
theorem eF {gs:FGs}:gfTup gs (.tup ds) ρ=gs ds ρ:=rfl
noncomputable def gs2 (g:FX) (d:D):Option (W×Ev)→Option Ev
 | some (.r j,ρ)=>(g ρ).bind fun q=>(dr q.2 q.1.fz).bind fun k=>match k,ownAt q.2 j with
  | .int k,some (.lst xs)=>(ixN xs.length k).map fun n=>setOwn q.2 j (.lst (xs.set n d))
  | _,_=>none
 | _=>none
noncomputable def gs3 (j:Nat) (d:D):Option (W×Ev)→Option Ev
 | some q=>(dr q.2 q.1.fz).bind fun k=>match k,ownAt q.2 j with
  | .int k,some (.lst xs)=>(ixN xs.length k).map fun n=>setOwn q.2 j (.lst (xs.set n d))
  | _,_=>none
 | none=>none
noncomputable def gs4 (j:Nat) (d:D) (ρ:Ev):Option D→Option D→Option Ev
 | some (.int k),some (.lst xs)=>(ixN xs.length k).map fun n=>setOwn ρ j (.lst (xs.set n d))
 | _,_=>none
theorem eB:gfSub f g d ρ=gs2 g d (f ρ):=by
 unfold gfSub gs2
 cases f ρ with
 | none=>rfl
 | some p=>obtain ⟨w,ρ⟩:=p;cases w <;> rfl
theorem eC:gs2 g d (some (.r j,ρ))=gs3 j d (g ρ):=by unfold gs2 gs3;dsimp only;cases g ρ <;> rfl
theorem eD:gs3 j d (some (w,ρ))=gs4 j d ρ (dr ρ w.fz) (ownAt ρ j):=by
 unfold gs3 gs4
 dsimp only
 cases dr ρ w.fz with
 | none=>rfl
 | some k=>
  simp only [Option.bind_some]
  cases k with
  | int n=>cases ownAt ρ j with
   | none=>rfl
   | some c=>cases c <;> rfl
  | _=>rfl
theorem eE {n:Int}:gs4 j d ρ (some (.int n)) (some (.lst xs))=(ixN xs.length n).map fun n=>setOwn ρ j (.lst (xs.set n d)):=rfl
noncomputable def dropO:Option (W×Ev)→Option R
 | some p=>some (.nx p.2)
 | none=>none
theorem dG:fDrop f ρ=dropO (f ρ):=by unfold fDrop dropO;cases f ρ <;> rfl
theorem dH:dropO (some (w,ρ))=some (.nx ρ):=rfl
noncomputable def par2 (i j:Nat):Option (List W×Ev)→Option R
 | some p=>(takeAll p.2 p.1).bind fun q=>match q.1 with
  | [d,d']=>if freeSlot q.2 i=true∧freeSlot (q.2.set i (some (.v d))) j=true then some (.nx ((q.2.set i (some (.v d))).set j (some (.v d')))) else none
  | _=>none
 | none=>none
noncomputable def par3 (i j:Nat):Option (List D×Ev)→Option R
 | some ([d,d'],ρ)=>if freeSlot ρ i=true∧freeSlot (ρ.set i (some (.v d))) j=true then some (.nx ((ρ.set i (some (.v d))).set j (some (.v d')))) else none
 | _=>none
theorem fS:fPar i j fa ρ=par2 i j (fa ρ):=by unfold fPar par2;cases fa ρ <;> rfl
theorem fT:par2 i j (some (ws,ρ))=par3 i j (takeAll ρ ws):=by
 unfold par2 par3
 dsimp only
 cases takeAll ρ ws with
 | none=>rfl
 | some p=>
  obtain ⟨ds,ρ⟩:=p
  match ds with
  | []=>rfl
  | [_]=>rfl
  | [_,_]=>rfl
  | _ :: _ :: _ :: _=>rfl
theorem fU:par3 i j (some ([d,e],ρ))=if freeSlot ρ i=true∧freeSlot (ρ.set i (some (.v d))) j=true then some (.nx ((ρ.set i (some (.v d))).set j (some (.v e)))) else none:=rfl
noncomputable def is2:Option (W×Ev)→Option (List D×Ev)
 | some p=>(takeAll p.2 [p.1.fz]).bind fun q=>match q.1 with
  | [d]=>(items d).map fun xs=>(xs,q.2)
  | _=>none
 | none=>none
noncomputable def is3:Option (List D×Ev)→Option (List D×Ev)
 | some ([.tup xs],ρ)=>some (xs,ρ)
 | some ([.lst xs],ρ)=>some (xs,ρ)
 | _=>none
theorem eN:fiSeq f ρ=is2 (f ρ):=by unfold fiSeq is2;cases f ρ <;> rfl
theorem eO:is2 (some (w,ρ))=is3 (takeAll ρ [w.fz]):=by
 unfold is2 is3
 dsimp only
 cases takeAll ρ [w.fz] with
 | none=>rfl
 | some p=>
  obtain ⟨ds,ρ⟩:=p
  match ds with
  | []=>rfl
  | [d]=>cases d <;> rfl
  | _ :: _ :: _=>simp
theorem eQ:is3 (some ([.tup xs],ρ))=some (xs,ρ):=rfl
theorem eP:is3 (some ([.lst xs],ρ))=some (xs,ρ):=rfl
noncomputable def forO (gf:FG) (b:FS):Option (List D×Ev)→Option R
 | some p=>loopF (turnF gf b) p.1 p.2
 | none=>none
theorem dR {fi:FI}{gf:FG}:fFor fi gf F ρ=forO gf F (fi ρ):=by unfold fFor forO;cases fi ρ <;> rfl
theorem dS {gf:FG}:forO gf F (some (xs,ρ))=loopF (turnF gf F) xs ρ:=id rfl
noncomputable def turnO (b:FS):Option Ev→Option R
 | some ρ=>b ρ
 | none=>none
theorem iD {gf:FG}:turnF gf F d ρ=turnO F (gf d ρ):=by unfold turnF turnO;cases gf d ρ <;> rfl
theorem iE:turnO F (some ρ)=F ρ:=id rfl
noncomputable def mu2 (op:List D→List D→Option (W×List D)) (fa:FA):Option (W×Ev)→Option (W×Ev)
 | some (.r i,ρ)=>if isLst (ownAt ρ i)=true then (fa ρ).bind fun q=>(takeAll q.2 q.1).bind fun z=>match ownAt z.2 i with
  | some (.lst xs)=>(op xs z.1).map fun y=>(y.1,setOwn z.2 i (.lst y.2))
  | _=>none
  else none
 | _=>none
noncomputable def mu3 (op:List D→List D→Option (W×List D)) (i:Nat):Option (List W×Ev)→Option (W×Ev)
 | some q=>(takeAll q.2 q.1).bind fun z=>match ownAt z.2 i with
  | some (.lst xs)=>(op xs z.1).map fun y=>(y.1,setOwn z.2 i (.lst y.2))
  | _=>none
 | none=>none
noncomputable def mu4 (op:List D→List D→Option (W×List D)) (i:Nat):Option (List D×Ev)→Option (W×Ev)
 | some z=>match ownAt z.2 i with
  | some (.lst xs)=>(op xs z.1).map fun y=>(y.1,setOwn z.2 i (.lst y.2))
  | _=>none
 | none=>none
noncomputable def mu5 (op:List D→List D→Option (W×List D)) (i:Nat) (ds:List D) (ρ:Ev):Option D→Option (W×Ev)
 | some (.lst xs)=>(op xs ds).map fun y=>(y.1,setOwn ρ i (.lst y.2))
 | _=>none
noncomputable def mu6 (i:Nat) (ρ:Ev):Option (W×List D)→Option (W×Ev)
 | some y=>some (y.1,setOwn ρ i (.lst y.2))
 | none=>none
variable {om:List D→List D→Option (W×List D)}
theorem eZ:fMut om f fa ρ=mu2 om fa (f ρ):=by
 unfold fMut mu2
 cases f ρ with
 | none=>rfl
 | some p=>obtain ⟨w,ρ⟩:=p;cases w <;> rfl
theorem fA:mu2 om fa (some (.r i,ρ))=if isLst (ownAt ρ i)=true then mu3 om i (fa ρ) else none:=by unfold mu2 mu3;dsimp only;cases fa ρ <;> rfl
theorem fB:mu3 om i (some (ws,ρ))=mu4 om i (takeAll ρ ws):=by unfold mu3 mu4;dsimp only;cases takeAll ρ ws <;> rfl
theorem fD:mu4 om i (some (ds,ρ))=mu5 om i ds ρ (ownAt ρ i):=by unfold mu4 mu5;rfl
theorem fE:mu5 om i ds ρ (some (.lst xs))=mu6 i ρ (om xs ds):=by unfold mu5 mu6;dsimp only;cases om xs ds <;> rfl
theorem fF:mu6 i ρ (some (w,xs))=some (w,setOwn ρ i (.lst xs)):=rfl
theorem bW:mApp xs [d]=if xs.length < lim then some (.v .non,xs ++ [d]) else none:=rfl
noncomputable def runO:Option R→Option W
 | some (.rt w _)=>some w
 | some (.nx _)=>some (.v .non)
 | _=>none
theorem gI {np n:Nat}:runD np n G ds=if ds.length=np then runO (G (start0 n ds)) else none:=by
 unfold runD runO
 split
 ·cases G (start0 n ds) with
  | none=>rfl
  | some r=>cases r <;> rfl
 ·rfl
theorem gM:runO (some (.rt w ρ))=some w:=rfl
theorem gL:runO (some (.nx ρ))=some (.v .non):=rfl
noncomputable def runLO:Option R→Option (W×D)
 | some (.rt w ρ)=>(ownAt ρ 0).map fun c=>(w,c)
 | some (.nx ρ)=>(ownAt ρ 0).map fun c=>(.v .non,c)
 | _=>none
theorem gJ {np n:Nat}:runL np n G d ds=if ds.length + 1=np then runLO (G (some (.l d) :: start0 (n - 1) ds)) else none:=by
 unfold runL runLO
 split
 ·cases G (some (.l d) :: start0 (n - 1) ds) with
  | none=>rfl
  | some r=>cases r <;> rfl
 ·rfl
theorem gK:runLO (some (.rt w ρ))=(ownAt ρ 0).map fun c=>(w,c):=rfl
theorem r_runL_nx:runLO (some (.nx ρ))=(ownAt ρ 0).map fun c=>(.v .non,c):=rfl
variable {m n:Int}{s1 s2:Str}
theorem bB {g:Int→Int→D}:oI0 g (.int m) (.int n)=some (.v (g m n)):=rfl
theorem bA {C:Int→Int→Prop} [∀i j,Decidable (C i j)] {g:Int→Int→D}:oI C g (.int m) (.int n)=if C m n then some (.v (g m n)) else none:=rfl
theorem aX:oAdd (.int m) (.int n)=some (.v (.int (m + n))):=rfl
theorem aY:oAdd (.lst xs) (.lst ys)=if xs.length + ys.length≤lim then some (.o (.lst (xs ++ ys))) else none:=rfl
theorem o_add_t:oAdd (.tup xs) (.tup ys)=if xs≠[]∧xs.length + ys.length≤lim then some (.v (.tup (xs ++ ys))) else none:=by
 by_cases h:xs≠[]∧xs.length + ys.length≤lim
 ·rw [if_pos h];exact if_pos h
 ·rw [if_neg h];exact if_neg h
theorem bH:oNeg (.int m)=some (.v (.int (-m))):=rfl
theorem bG:oLtT (.int m) (.int n)=some (.v (.bl (decide (m < n)))):=rfl
theorem bE:oIx (.tup xs) (.int n)=(atI xs n).map .v:=rfl
theorem bD:oIx (.lst xs) (.int n)=(atI xs n).map .v:=rfl
theorem o_len_t:gLen (.tup xs)=some (.v (.int xs.length)):=rfl
theorem o_len_l:gLen (.lst xs)=some (.v (.int xs.length)):=rfl
theorem aV:gAbs (.int m)=some (.v (.int (if m < 0 then -m else m))):=rfl
theorem bC:gInt (.bl b)=some (.v (.int (if b then 1 else 0))):=rfl
theorem o_tuple_t:gTuple (.tup xs)=some (.v (.tup xs)):=rfl
theorem bI:gTuple (.lst xs)=some (.v (.tup xs)):=rfl
theorem bF:gList (.tup xs)=some (.o (.lst xs)):=rfl
theorem o_list_l:gList (.lst xs)=some (.o (.lst xs)):=rfl
theorem aZ {q:D→D→Option Bool}{neg:Bool}:oD2 q neg x y=(q x y).map fun k=>.v (.bl (if neg then !k else k)):=rfl
theorem aA:atI (d :: ds) 0=some d:=atI_nat (j:=0) rfl
theorem aB:atI (d :: e :: ds) 1=some e:=atI_nat (j:=1) rfl
theorem aC:atI (d :: e :: x :: ds) 2=some x:=atI_nat (j:=2) rfl
end
end Z
set_option maxHeartbeats 1000000
namespace Z
open PySem PySem.Spec PyProof.Rows L2
section
variable {prog:Program}{w:World}{A:Around}{E:Value→Shared→Prop}{s:Shared}
theorem nextT_item {c t:Addr}{k:Nat}{its:Array Value}{x:Value}{Q:Value→Shared→Prop}(hc:IsTupIter s.heap c t k)(ht:IsTup s.heap t its)(hx:its[k]? =some x)
  (q:∀h',IsTupIter h' c t (k + 1)→Heap.SameBut c s.heap h'→Q x {s with heap:=h'}):wpAny (model prog w) A (Builtin.SmallTypes.nextOf (.ref c)) Q E s:=by
 have T:=hc.typeIs
 obtain ⟨o,e1,e2,e3⟩:=hc
 obtain ⟨o2,g1,_,m,g3⟩:=ht
 unfold Builtin.SmallTypes.nextOf
 refine wpAny_bind (wpAny_callSpecial?_slot (name:=Str.ofString "__next__") T slot_tupleiter_next (wpAny_call_entry slot_tupleiter_next T entry_tupleiter_next ?_ (args_tupleiter_next _)))
 have step:wpAny (model prog w) A.in1 (setField (.ref c) 1 (rawInt ((k:Nat) + 1:Nat))) (fun _ s'=>wpAny (model prog w) A.in1 (ret x) (fun fin s''=>∃v,fin= .done (.ret v)∧wpAny (model prog w) A (pure v) Q E s'') E s') E s:=by
  refine wpAny_setField e1 e3 (by simp) (wpAny_pure ⟨x,rfl,wpAny_pure (q _ ⟨_,Heap.get?_update_self _ e1 (Obj.isFreed_of_fields (Obj.data_mapFields e3 _)),(Obj.cls_mapFields ..).trans e2,?_⟩ (Heap.SameBut.update ..))⟩)
  rw [Obj.data_mapFields e3];simp [rawInt]
 refine wpAny_bind (m:=field (.ref c) 0) (wpAny_field e1 e3 (x:=.ref t) rfl ?_)
 show wpAny _ _ (if (Value.ref t == Value.none)=true then _ else _) _ _ s
 have nn:¬((Value.ref t == Value.none)=true):=Bool.false_ne_true
 rw [if_neg nn]
 refine wpAny_bind (m:=field (.ref c) 1) (wpAny_field e1 e3 (x:=.int k 0) rfl (wpAny_bind (m:=seqItems? (.ref t)) (wpAny_seqItems g1 g3 ?_)))
 simp only [Int.toNat_natCast,hx]
 exact wpAny_bind step
theorem nextT_end {c t:Addr}{k:Nat}{its:Array Value}{Q:Value→Shared→Prop}(hh:A.handled=none)(hc:IsTupIter s.heap c t k)(ht:IsTup s.heap t its)(hx:its[k]? =none)
  (q:∀h' x,Heap.ExtBut c s.heap h'→(∃o,h'.get? x=some o∧o.cls= .type "StopIteration")→E (.ref x) {s with heap:=h'}):wpAny (model prog w) A (Builtin.SmallTypes.nextOf (.ref c)) Q E s:=by
 have T:=hc.typeIs
 obtain ⟨o,e1,e2,e3⟩:=hc
 obtain ⟨o2,g1,_,m,g3⟩:=ht
 unfold Builtin.SmallTypes.nextOf
 refine wpAny_bind (wpAny_callSpecial?_slot (name:=Str.ofString "__next__") T slot_tupleiter_next (wpAny_call_entry slot_tupleiter_next T entry_tupleiter_next ?_ (args_tupleiter_next _)))
 refine wpAny_bind (m:=field (.ref c) 0) (wpAny_field e1 e3 (x:=.ref t) rfl ?_)
 show wpAny _ _ (if (Value.ref t == Value.none)=true then _ else _) _ _ s
 have nn:¬((Value.ref t == Value.none)=true):=Bool.false_ne_true
 rw [if_neg nn]
 refine wpAny_bind (m:=field (.ref c) 1) (wpAny_field e1 e3 (x:=.int k 0) rfl (wpAny_bind (m:=seqItems? (.ref t)) (wpAny_seqItems g1 g3 ?_)))
 simp only [Int.toNat_natCast,hx]
 refine wpAny_bind (wpAny_rule (wpAny_bind (wpAny_setField e1 e3 (by simp) ?_)))
 refine wpAny_bind (m:=newExc (.type "StopIteration") []) ?_
 simp only [newExc,newTuple]
 refine wpAny_bind (wpAny_newObj_type ?_ (by size_fits))
 refine wpAny_bind (m:=firstArgMember _ _) (wpAny_of_eq (a:=Value.none) (by first | rfl | (simp only [firstArgMember];rfl)) (wpAny_newObj_type ?_ (by size_fits)))
 simp only [raiseNew]
 refine wpAny_bind (wpAny_handled ?_)
 first | rw [show A.in1.handled=none from hh] | rw [hh]
 exact wpAny_bind (wpAny_pure (wpAny_throw (q _ _ (((Heap.SameBut.update ..).extBut.push _).push _) ⟨_,Heap.get?_push_size _ rfl,rfl⟩)))
end
noncomputable def SIt (k:Bool) (h:Heap) (c t:Addr) (i:Nat):Prop:=match k with
 | true=>h.IsListIter c t i
 | false=>IsTupIter h c t i
noncomputable def SSq (k:Bool) (h:Heap) (t:Addr) (its:Array Value):Prop:=match k with
 | true=>h.IsList t its
 | false=>IsTup h t its
noncomputable def SqK (k:Bool) (K:PySem.W.Frag) (H:Hp) (a:Addr) (xs:List V):Prop:=match k with
 | true=>SqL K H a xs
 | false=>SqT K H a xs
noncomputable def itN (k:Bool):String:=if k then "list_iterator" else "tuple_iterator"
theorem sit_on {b:Bool}{h h':Heap}{c t:Addr}{k:Nat}(i:SIt b h c t k)(kp:∀o,h.get? c=some o→h'.get? c=some o):SIt b h' c t k:=by
 cases b <;> (obtain ⟨o,e,r⟩:=i;exact ⟨o,kp o e,r⟩)
theorem ssq_on {b:Bool}{h h':Heap}{c:Addr}{its:Array Value}(i:SSq b h c its)(kp:∀o,h.get? c=some o→h'.get? c=some o):SSq b h' c its:=by
 cases b <;> (obtain ⟨o,e,r⟩:=i;exact ⟨o,kp o e,r⟩)
theorem sit_obj {b:Bool}{h:Heap}{c t:Addr}{k:Nat}(i:SIt b h c t k):∃o,h.get? c=some o∧∀v,o.data≠.cell v:=by
 cases b <;> (obtain ⟨o,e,r,d⟩:=i;exact ⟨o,e,fun v z=>by rw [d] at z;cases z⟩)
theorem sit_new {b:Bool}{h:Heap}{c l:Addr}(e:h.get? c=some {cls:=.type (itN b),data:=.fields #[.ref l,.int 0 0]}):SIt b h c l 0:=by
 cases b <;> exact ⟨_,e,rfl,rfl⟩
theorem sqk {X:Cx}{k:Bool}{pins:List (Addr×PySem.Obj)}{σ:L2.St}{H:Hp}{s:Shared}{a:Addr}{xs:List V}(I:Inv X pins σ H s)(h:SqK k X.K H a xs):∃its,Vals xs its∧SSq k s.heap a its.toArray:=by
 cases k
 ·obtain ⟨its,r,p,_⟩:=I.tuple h;exact ⟨its,r,p⟩
 ·obtain ⟨its,r,p,_⟩:=I.list h;exact ⟨its,r,p.isList⟩
theorem sqk_inj {X:Cx}{k:Bool}{pins:List (Addr×PySem.Obj)}{σ:L2.St}{H:Hp}{s:Shared}{a:Addr}{xs ys:List V}(I:Inv X pins σ H s)(h:SqK k X.K H a xs)(h':SqK k X.K H a ys):xs=ys:=by
 cases k
 ·exact I.tuple_inj h h'
 ·exact I.list_inj h h'
theorem ssq_lt {b:Bool}{h:Heap}{c:Addr}{its:Array Value}(i:SSq b h c its):c < h.objs.size:=by
 cases b <;> (obtain ⟨o,e,r⟩:=i;exact Heap.lt_size e)
section
variable {prog:Program}{w:World}{A:Around}{E:Value→Shared→Prop}{s:Shared}
theorem nextS_item {b:Bool}{c t:Addr}{k:Nat}{its:Array Value}{x:Value}{Q:Value→Shared→Prop}(hc:SIt b s.heap c t k)(ht:SSq b s.heap t its)(hx:its[k]? =some x)
  (q:∀h',SIt b h' c t (k + 1)→Heap.SameBut c s.heap h'→Q x {s with heap:=h'}):wpAny (model prog w) A (Builtin.SmallTypes.nextOf (.ref c)) Q E s:=by
 cases b
 ·exact nextT_item hc ht hx q
 ·exact wpAny_nextOf_list_item hc ht hx q
theorem nextS_end {b:Bool}{c t:Addr}{k:Nat}{its:Array Value}{Q:Value→Shared→Prop}(hh:A.handled=none)(hc:SIt b s.heap c t k)(ht:SSq b s.heap t its)(hx:its[k]? =none)
  (q:∀h' x,Heap.ExtBut c s.heap h'→(∃o,h'.get? x=some o∧o.cls= .type "StopIteration")→E (.ref x) {s with heap:=h'}):wpAny (model prog w) A (Builtin.SmallTypes.nextOf (.ref c)) Q E s:=by
 cases b
 ·exact nextT_end hh hc ht hx q
 ·exact wpAny_nextOf_list_end hh hc ht hx q
theorem iterS {b:Bool}{l:Addr}{its:Array Value}{Q:Value→Shared→Prop}(ht:SSq b s.heap l its)(q:Q (.ref s.heap.objs.size) {s with heap:=s.heap.push {cls:=.type (itN b),data:=.fields #[.ref l,.int 0 0]}}):wpAny (model prog w) A (pyIter (.ref l)) Q E s:=by
 cases b
 ·exact iter_tuple ht q
 ·exact wpAny_pyIter_list ht q
end
section
variable {prog:Program}{w:World}{A:Around}{E:Value→Shared→Prop}{s:Shared}{c1 c2:Bool}{z TI TO i1 i2 l1 l2:Addr}{k1 k2:Nat}{xs ys:Array Value}{x y a b:Value}
theorem zipT_item {Q:Value→Shared→Prop}(D:ZipApart z TI TO i1 i2 l1 l2)(hz:IsZip s.heap z TI TO .none)(hTI:IsPair s.heap TI (.ref i1) (.ref i2))(hTO:IsPair s.heap TO a b)
  (h1:SIt c1 s.heap i1 l1 k1) (h2:SIt c2 s.heap i2 l2 k2) (t1:SSq c1 s.heap l1 xs) (t2:SSq c2 s.heap l2 ys) (hx:xs[k1]? =some x) (hy:ys[k2]? =some y)
  (q:∀h',IsZip h' z TI TO (rawInt s.heap.objs.size)→IsPair h' TO x y→SIt c1 h' i1 l1 (k1 + 1)→SIt c2 h' i2 l2 (k2 + 1)→IsPair h' s.heap.objs.size x y→h'.objs.size=s.heap.objs.size + 1→
   (∀c o,c≠z→c≠TO→c≠i1→c≠i2→s.heap.get? c=some o→h'.get? c=some o)→Q (.ref s.heap.objs.size) {s with heap:=h'}):
  wpAny (model prog w) A (Builtin.«zip.__next__» ⟨[.ref z],[]⟩) (fun fin s'=>∃v,fin= .done (.ret v)∧Q v s') E s:=by
 refine wpAny_bind (m:=field (.ref z) 2) (wpAny_field hz rfl (x:=.bool false) rfl ?_)
 refine wpAny_bind (m:=field (.ref z) 3) (wpAny_field hz rfl (x:=.ref TI) rfl (wpAny_bind (wpAny_seqItems hTI rfl ?_)))
 refine wpAny_bind (m:=Builtin.SmallTypes.ownedTupleIsFree (.ref z)) ?_
 unfold Builtin.SmallTypes.ownedTupleIsFree
 refine wpAny_bind (wpAny_field hz rfl (x:=.none) rfl (wpAny_pure ?_))
 simp only [if_true]
 refine wpAny_bind (wpAny_rule (wpAny_bind (wpAny_field hz rfl (x:=.ref TO) rfl (wpAny_bind (wpAny_setField_rec hz (by simp) fun ha za sa=>?_)))))
 have za':IsZip ha z TI TO .ellipsis:=za
 have ka:∀c o,c≠z→s.heap.get? c=some o→ha.get? c=some o:=fun c o n e=>sa.extBut c o n e
 refine wpAny_bind ?_
 simp only [List.zipIdx_cons,List.zipIdx_nil,List.forIn_cons,List.forIn_nil]
 refine wpAny_bind (wpAny_bind (wpAny_onRaise (wpAny_bind (m:=Builtin.SmallTypes.nextOf (.ref i1)) (nextS_item (sit_on h1 fun o e=>ka _ o D.i1z e) (ssq_on t1 fun o e=>ka _ o D.l1z e) hx fun hb ib sb=>wpAny_pure ?_))))
 have kb:∀c o,c≠z→c≠i1→s.heap.get? c=some o→hb.get? c=some o:=fun c o n n1 e=>sb.extBut c o n1 (ka c o n e)
 have ob:IsPair hb TO a b:=kb _ _ D.TOz D.TOi1 hTO
 refine wpAny_bind (wpAny_seqItems ob rfl (wpAny_bind (wpAny_updateSeq_pair ob fun hc oc sc=>?_)))
 have oc':IsPair hc TO x b:=oc
 have kc:∀c o,c≠z→c≠i1→c≠TO→s.heap.get? c=some o→hc.get? c=some o:=fun c o n n1 n2 e=>sc.extBut c o n2 (kb c o n n1 e)
 refine wpAny_bind (wpAny_letGo (wpAny_pure ?_))
 refine wpAny_bind (wpAny_bind (wpAny_onRaise (wpAny_bind (m:=Builtin.SmallTypes.nextOf (.ref i2)) (nextS_item (sit_on h2 fun o e=>kc _ o D.i2z D.i12.symm D.TOi2.symm e) (ssq_on t2 fun o e=>kc _ o D.l2z D.l2i1 D.l2TO e) hy fun hd id' sd=>wpAny_pure ?_))))
 have od:IsPair hd TO x b:=sd.extBut _ _ D.TOi2 oc'
 refine wpAny_bind (wpAny_seqItems od rfl (wpAny_bind (wpAny_updateSeq_pair od fun he oe se=>?_)))
 have oe':IsPair he TO x y:=oe
 refine wpAny_bind (wpAny_letGo (wpAny_pure (wpAny_pure ?_)))
 refine wpAny_bind (wpAny_seqItems oe' rfl (wpAny_bind (wpAny_newTuple ?_)))
 have size:he.objs.size=s.heap.objs.size:=by rw [se.1,sd.1,sc.1,sb.1,sa.1]
 have ke:∀c o,c≠z→c≠TO→c≠i1→c≠i2→s.heap.get? c=some o→he.get? c=some o:=fun c o n n1 n2 n3 e=>se.extBut c o n1 (sd.extBut c o n3 (kc c o n n2 n1 e))
 have ze:IsZip he z TI TO .ellipsis:=se.extBut _ _ D.TOz.symm (sd.extBut _ _ D.i2z.symm (sc.extBut _ _ D.TOz.symm (sb.extBut _ _ D.i1z.symm za')))
 have ie1:SIt c1 he i1 l1 (k1 + 1):=sit_on ib fun o e=>se.extBut _ o D.TOi1.symm (sd.extBut _ o D.i12 (sc.extBut _ o D.TOi1.symm e))
 have ie2:SIt c2 he i2 l2 (k2 + 1):=sit_on id' fun o e=>se.extBut _ o D.TOi2.symm e
 have zlt:z < he.objs.size:=Heap.lt_size ze
 refine wpAny_bind (m:=Builtin.SmallTypes.ownedTupleHandOut (.ref z) (.ref he.objs.size)) ?_
 unfold Builtin.SmallTypes.ownedTupleHandOut
 have zp:IsZip (he.push {cls:=.type "tuple",data:=.seq #[x,y]}) z TI TO .ellipsis:=Heap.get?_push_of_some _ ze
 refine wpAny_bind (wpAny_setField_rec zp (by simp) fun hf zf sf=>?_)
 have zf':IsZip hf z TI TO (rawInt he.objs.size):=zf
 refine wpAny_setField_rec zf' (by simp) fun hg zg sg=>?_
 have zg':IsZip hg z TI TO (rawInt he.objs.size):=zg
 have up:∀c o,c≠z→he.get? c=some o→hg.get? c=some o:=fun c o n e=>sg.extBut c o n (sf.extBut c o n (Heap.get?_push_of_some _ e))
 have pg:IsPair hg he.objs.size x y:=sg.extBut _ _ (Nat.ne_of_gt zlt) (sf.extBut _ _ (Nat.ne_of_gt zlt) (Heap.get?_push_size _ rfl))
 have szg:hg.objs.size=he.objs.size + 1:=by rw [sg.1,sf.1,Heap.size_push]
 rw [size] at zg' pg szg
 refine wpAny_pure ⟨_,rfl,?_⟩
 show Q (.ref he.objs.size) _
 rw [size]
 exact q hg zg' (up _ _ D.TOz oe') (sit_on ie1 fun o e=>up _ o D.i1z e) (sit_on ie2 fun o e=>up _ o D.i2z e) pg szg fun c o n n1 n2 n3 e=>up c o n (ke c o n n1 n2 n3 e)
end
section
variable {prog:Program}{w:World}{A:Around}{E:Value→Shared→Prop}{s:Shared}{c1 c2:Bool}{z TI TO i1 i2 l1 l2:Addr}{k1 k2:Nat}{xs ys:Array Value}{x y a b:Value}
theorem zipT_end {Q:Fin→Shared→Prop}(hh:A.handled=none)(D:ZipApart z TI TO i1 i2 l1 l2)(hz:IsZip s.heap z TI TO .none)(hTI:IsPair s.heap TI (.ref i1) (.ref i2))(hTO:IsPair s.heap TO a b)
  (h1:SIt c1 s.heap i1 l1 k1) (h2:SIt c2 s.heap i2 l2 k2) (t1:SSq c1 s.heap l1 xs) (t2:SSq c2 s.heap l2 ys) (hend:xs[k1]? =none∨ys[k2]? =none)
  (q:∀h' c,(∀c o,c≠z→c≠TO→c≠i1→c≠i2→s.heap.get? c=some o→h'.get? c=some o)→(∃o,h'.get? c=some o∧o.cls= .type "StopIteration")→E (.ref c) {s with heap:=h'}):
  wpAny (model prog w) A (Builtin.«zip.__next__» ⟨[.ref z],[]⟩) Q E s:=by
 refine wpAny_bind (m:=field (.ref z) 2) (wpAny_field hz rfl (x:=.bool false) rfl ?_)
 refine wpAny_bind (m:=field (.ref z) 3) (wpAny_field hz rfl (x:=.ref TI) rfl (wpAny_bind (wpAny_seqItems hTI rfl ?_)))
 refine wpAny_bind (m:=Builtin.SmallTypes.ownedTupleIsFree (.ref z)) ?_
 unfold Builtin.SmallTypes.ownedTupleIsFree
 refine wpAny_bind (wpAny_field hz rfl (x:=.none) rfl (wpAny_pure ?_))
 simp only [if_true]
 refine wpAny_bind (wpAny_rule (wpAny_bind (wpAny_field hz rfl (x:=.ref TO) rfl (wpAny_bind (wpAny_setField_rec hz (by simp) fun ha za sa=>?_)))))
 have za':IsZip ha z TI TO .ellipsis:=za
 have ka:∀c o,c≠z→s.heap.get? c=some o→ha.get? c=some o:=fun c o n e=>sa.extBut c o n e
 have apart:∀{h:Heap} {c:Addr} {v:Value},IsZip h z TI TO v→(∃o,h.get? c=some o∧o.cls= .type "StopIteration")→c≠z:=fun {h c v} hz' ⟨o,e1,e2⟩ n=>by
  subst n
  rw [hz'] at e1
  cases e1
  simp at e2
 refine wpAny_bind ?_
 simp only [List.zipIdx_cons,List.zipIdx_nil,List.forIn_cons,List.forIn_nil]
 cases hx:xs[k1]? with
 | none=>
  refine wpAny_bind (wpAny_bind (wpAny_onRaise (wpAny_bind (m:=Builtin.SmallTypes.nextOf (.ref i1)) (nextS_end hh (sit_on h1 fun o e=>ka _ o D.i1z e) (ssq_on t1 fun o e=>ka _ o D.l1z e) hx fun hb c kb hc=>?_))))
  have zb:IsZip hb z TI TO .ellipsis:=kb _ _ D.i1z.symm za'
  have nz:=apart zb hc
  obtain ⟨o,eo,co⟩:=hc
  exact wpAny_setField_rec zb (by simp) fun hd _ sd=>q hd c (fun d o' n _ n2 _ e=>sd.extBut d o' n (kb d o' n2 (ka d o' n e))) ⟨o,sd.extBut _ _ nz eo,co⟩
 | some x=>
  have hy:ys[k2]? =none:=hend.resolve_left (by rw [hx];exact fun n=>nomatch n)
  refine wpAny_bind (wpAny_bind (wpAny_onRaise (wpAny_bind (m:=Builtin.SmallTypes.nextOf (.ref i1)) (nextS_item (sit_on h1 fun o e=>ka _ o D.i1z e) (ssq_on t1 fun o e=>ka _ o D.l1z e) hx fun hb ib sb=>wpAny_pure ?_))))
  have kb:∀c o,c≠z→c≠i1→s.heap.get? c=some o→hb.get? c=some o:=fun c o n n1 e=>sb.extBut c o n1 (ka c o n e)
  have ob:IsPair hb TO a b:=kb _ _ D.TOz D.TOi1 hTO
  refine wpAny_bind (wpAny_seqItems ob rfl (wpAny_bind (wpAny_updateSeq_pair ob fun hc oc sc=>?_)))
  have kc:∀c o,c≠z→c≠i1→c≠TO→s.heap.get? c=some o→hc.get? c=some o:=fun c o n n1 n2 e=>sc.extBut c o n2 (kb c o n n1 e)
  refine wpAny_bind (wpAny_letGo (wpAny_pure ?_))
  refine wpAny_bind (wpAny_bind (wpAny_onRaise (wpAny_bind (m:=Builtin.SmallTypes.nextOf (.ref i2)) (nextS_end hh (sit_on h2 fun o e=>kc _ o D.i2z D.i12.symm D.TOi2.symm e) (ssq_on t2 fun o e=>kc _ o D.l2z D.l2i1 D.l2TO e) hy fun hd c kd hc'=>?_))))
  have zd:IsZip hd z TI TO .ellipsis:=kd _ _ D.i2z.symm (sc.extBut _ _ D.TOz.symm (sb.extBut _ _ D.i1z.symm za'))
  have nz:=apart zd hc'
  obtain ⟨o,eo,co⟩:=hc'
  exact wpAny_setField_rec zd (by simp) fun hf _ sf=>q hf c (fun d o' n n1 n2 n3 e=>sf.extBut d o' n (kd d o' n3 (kc d o' n n2 n1 e))) ⟨o,sf.extBut _ _ nz eo,co⟩
theorem nextZ_item {Q:Option Value→Shared→Prop}(D:ZipApart z TI TO i1 i2 l1 l2)(hz:IsZip s.heap z TI TO .none)(hTI:IsPair s.heap TI (.ref i1) (.ref i2))(hTO:IsPair s.heap TO a b)
  (h1:SIt c1 s.heap i1 l1 k1) (h2:SIt c2 s.heap i2 l2 k2) (t1:SSq c1 s.heap l1 xs) (t2:SSq c2 s.heap l2 ys) (hx:xs[k1]? =some x) (hy:ys[k2]? =some y)
  (q:∀h',IsZip h' z TI TO (rawInt s.heap.objs.size)→IsPair h' TO x y→SIt c1 h' i1 l1 (k1 + 1)→SIt c2 h' i2 l2 (k2 + 1)→IsPair h' s.heap.objs.size x y→h'.objs.size=s.heap.objs.size + 1→
   (∀c o,c≠z→c≠TO→c≠i1→c≠i2→s.heap.get? c=some o→h'.get? c=some o)→Q (some (.ref s.heap.objs.size)) {s with heap:=h'}):
  wpAny (model prog w) A (pyNext (.ref z)) Q E s:=by
 have T:s.TypeIs (.ref z) "zip":=⟨_,hz,rfl⟩
 unfold pyNext
 exact wpAny_bind (wpAny_attempt (wpAny_callSpecial?_slot (name:=Str.ofString "__next__") T F.slot_zip_next
  (wpAny_call_entry F.slot_zip_next T F.entry_zip_next (zipT_item D hz hTI hTO h1 h2 t1 t2 hx hy fun h' b1 b2 b3 b4 b5 b6 b7=>wpAny_pure (q h' b1 b2 b3 b4 b5 b6 b7)) (F.args_zip_next_1 _))))
theorem nextZ_end {Q:Option Value→Shared→Prop}(hh:A.handled=none)(D:ZipApart z TI TO i1 i2 l1 l2)(hz:IsZip s.heap z TI TO .none)(hTI:IsPair s.heap TI (.ref i1) (.ref i2))(hTO:IsPair s.heap TO a b)
  (h1:SIt c1 s.heap i1 l1 k1) (h2:SIt c2 s.heap i2 l2 k2) (t1:SSq c1 s.heap l1 xs) (t2:SSq c2 s.heap l2 ys) (hend:xs[k1]? =none∨ys[k2]? =none)
  (q:∀h',(∀c o,c≠z→c≠TO→c≠i1→c≠i2→s.heap.get? c=some o→h'.get? c=some o)→Q none {s with heap:=h'}):wpAny (model prog w) A (pyNext (.ref z)) Q E s:=by
 have T:s.TypeIs (.ref z) "zip":=⟨_,hz,rfl⟩
 unfold pyNext
 refine wpAny_bind (wpAny_attempt (wpAny_callSpecial?_slot (name:=Str.ofString "__next__") T F.slot_zip_next (wpAny_call_entry F.slot_zip_next T F.entry_zip_next (zipT_end hh D hz hTI hTO h1 h2 t1 t2 hend fun h' c kp hc=>?_) (F.args_zip_next_1 _))))
 obtain ⟨o,eo,co⟩:=hc
 exact wpAny_bind (wpAny_isInstance (T:="StopIteration") (b:=true) ⟨o,eo,co⟩ isSubtype_stop (wpAny_pure (q _ kp)))
noncomputable abbrev zp1 (b:Bool) (h:Heap) (l:Addr):Heap:=h.push {cls:=.type (itN b),data:=.fields #[.ref l,.int 0 0]}
noncomputable abbrev zp3 (c1 c2:Bool) (h:Heap) (l m:Addr):Heap:=(zp1 c2 (zp1 c1 h l) m).push {cls:=.type "tuple",data:=.seq #[.ref h.objs.size,.ref (zp1 c1 h l).objs.size]}
noncomputable abbrev zp4 (c1 c2:Bool) (h:Heap) (l m:Addr):Heap:=(zp3 c1 c2 h l m).push {cls:=.type "tuple",data:=.seq #[.none,.none]}
noncomputable abbrev zp5 (c1 c2:Bool) (h:Heap) (l m:Addr):Heap:=(zp4 c1 c2 h l m).push {cls:=.type "zip",data:=.fields #[.none,.bool false,.bool false,.ref (zp1 c2 (zp1 c1 h l) m).objs.size,.ref (zp3 c1 c2 h l m).objs.size]}
theorem zipT_new (c1 c2:Bool)(l m:Addr)(xs ys:Array Value):Meets (Builtin.«zip.__new__» ⟨[.type "zip",.ref l,.ref m],[]⟩) (fun _ R s=>SSq c1 s.heap l xs∧SSq c2 s.heap m ys∧R (.ok (.ret (.ref (zp4 c1 c2 s.heap l m).objs.size))) {s with heap:=zp5 c1 c2 s.heap l m}):=
 .of_wp fun prog w A R s hh=>by
  obtain ⟨hp,g,d,tk,os⟩:=s
  obtain ⟨p1,p2,hr⟩:=hh
  have hsub:=sub_zip
  have q1:SSq c1 (Shared.heap ⟨hp,g,d,tk,os⟩) l xs:=p1
  have q2:SSq c2 (Shared.heap ⟨zp1 c1 hp l,g,d,tk,os⟩) m ys:=ssq_on p2 fun o e=>Heap.get?_push_of_some _ e
  wp_walk using iterS q1,iterS q2
  exact ⟨_,rfl,hr⟩
theorem call_zipT {Q:Value→Shared→Prop}(p1:SSq c1 s.heap l1 xs)(p2:SSq c2 s.heap l2 ys)
  (q:∀h',IsZip h' (s.heap.objs.size + 4) (s.heap.objs.size + 2) (s.heap.objs.size + 3) .none→IsPair h' (s.heap.objs.size + 2) (.ref s.heap.objs.size) (.ref (s.heap.objs.size + 1))→IsPair h' (s.heap.objs.size + 3) .none .none→
   SIt c1 h' s.heap.objs.size l1 0→SIt c2 h' (s.heap.objs.size + 1) l2 0→(∀c o,s.heap.get? c=some o→h'.get? c=some o)→Q (.ref (s.heap.objs.size + 4)) {s with heap:=h'}):
  wpAny (model prog w) A (call (.type "zip") [.ref l1,.ref l2]) Q E s:=by
 refine callType_new F.called_zip (by decide) (F.typeCall_zip_2 _ _) (F.newCall_zip_2 _ _) (fun obj=>F.args_object_init_3 obj _ _) F.entry_zip_new (zipT_new c1 c2 l1 l2 xs ys) ⟨p1,p2,?_⟩
 have n1:(zp1 c1 s.heap l1).objs.size=s.heap.objs.size + 1:=Heap.size_push ..
 have n2:(zp1 c2 (zp1 c1 s.heap l1) l2).objs.size=s.heap.objs.size + 2:=by rw [Heap.size_push,n1]
 have n3:(zp3 c1 c2 s.heap l1 l2).objs.size=s.heap.objs.size + 3:=by rw [Heap.size_push,n2]
 have n4:(zp4 c1 c2 s.heap l1 l2).objs.size=s.heap.objs.size + 4:=by rw [Heap.size_push,n3]
 have up:∀{h:Heap} {c:Addr} {o p:PySem.Obj},h.get? c=some o→(h.push p).get? c=some o:=fun e=>Heap.get?_push_of_some _ e
 have r5:(zp5 c1 c2 s.heap l1 l2).get? (zp4 c1 c2 s.heap l1 l2).objs.size=some _:=Heap.get?_push_size _ rfl
 have r4:(zp5 c1 c2 s.heap l1 l2).get? (zp3 c1 c2 s.heap l1 l2).objs.size=some _:=up (Heap.get?_push_size _ rfl)
 have r3:(zp5 c1 c2 s.heap l1 l2).get? (zp1 c2 (zp1 c1 s.heap l1) l2).objs.size=some _:=up (up (Heap.get?_push_size _ rfl))
 have r2:(zp5 c1 c2 s.heap l1 l2).get? (zp1 c1 s.heap l1).objs.size=some _:=up (up (up (Heap.get?_push_size _ rfl)))
 have r1:(zp5 c1 c2 s.heap l1 l2).get? s.heap.objs.size=some _:=up (up (up (up (Heap.get?_push_size _ rfl))))
 rw [n2,n3,n4] at r5
 rw [n1,n2] at r3
 rw [n3] at r4
 rw [n1] at r2
 show _∧_
 rw [n4]
 exact ⟨⟨_,r5,rfl⟩,q _ r5 r3 r4 (sit_new r1) (sit_new r2) fun c o e=>up (up (up (up (up e))))⟩
end
theorem vals_none {xs:List V}{us:List Value}{i:Nat}(r:Vals xs us)(e:xs[i]? =none):us.toArray[i]? =none:=by
 have:=r.length
 rw [List.getElem?_eq_none_iff] at e
 rw [List.getElem?_toArray,List.getElem?_eq_none_iff]
 (first|lia|omega)
noncomputable def ItzT (c1 c2:Bool) (K:PySem.W.Frag) (l1 l2:Addr):It:=
 ⟨fun i H=>∃xs ys x y,SqK c1 K H l1 xs∧SqK c2 K H l2 ys∧xs[i]? =some x∧ys[i]? =some y,
  fun i H v H'=>∃T x y,v= .ref T∧H T=none∧H'=upd H T (.tup [x,y])∧(∀xs,SqK c1 K H l1 xs→xs[i]? =some x)∧∀ys,SqK c2 K H l2 ys→ys[i]? =some y,
  fun i H=>∃xs ys,SqK c1 K H l1 xs∧SqK c2 K H l2 ys∧(xs[i]? =none∨ys[i]? =none)⟩
noncomputable def zipTt (c1 c2:Bool) (z TI TO i1 i2 l1 l2:Addr) (i:Nat) (h:Heap):Prop:=IsZip h z TI TO .none∧IsPair h TI (.ref i1) (.ref i2)∧(∃a b,IsPair h TO a b)∧SIt c1 h i1 l1 i∧SIt c2 h i2 l2 i
theorem turn_zipT {P:Program}{w:World}{K:PySem.W.Frag}{es:List Expr}{kt:Nat}{pt:Pos}{c1 c2:Bool}{z TI TO i1 i2 l1 l2:Addr}(D:ZipApart z TI TO i1 i2 l1 l2):
  Turn P w K (.Tuple es kt pt) (ItzT c1 c2 K l1 l2) [z,TI,TO,i1,i2] z (zipTt c1 c2 z TI TO i1 i2 l1 l2) where
 mem:=by simp
 obj:=fun i h st b hb=>by
  obtain ⟨hz,hTI,⟨a,b',hTO⟩,s1,s2⟩:=st
  obtain ⟨o1,e1,d1⟩:=sit_obj s1
  obtain ⟨o2,e2,d2⟩:=sit_obj s2
  simp only [List.mem_cons,List.not_mem_nil,or_false] at hb
  rcases hb with rfl | rfl | rfl | rfl | rfl
  ·exact ⟨_,hz,fun v z=>nomatch z⟩
  ·exact ⟨_,hTI,fun v z=>nomatch z⟩
  ·exact ⟨_,hTO,fun v z=>nomatch z⟩
  ·exact ⟨_,e1,d1⟩
  ·exact ⟨_,e2,d2⟩
 keep:=fun i h h' st k=>by
  obtain ⟨hz,hTI,⟨a,b',hTO⟩,h1,h2⟩:=st
  exact ⟨k z (by simp) _ hz,k TI (by simp) _ hTI,⟨a,b',k TO (by simp) _ hTO⟩,sit_on h1 fun o e=>k i1 (by simp) o e,sit_on h2 fun o e=>k i2 (by simp) o e⟩
 item:=by
  intro X hP hw hK hc i pins s σ H E I hf st hg
  subst hP hw hK
  obtain ⟨xs,ys,x,y,q1,q2,ex,ey⟩:=hg
  obtain ⟨its1,r1,p1⟩:=sqk I q1
  obtain ⟨its2,r2,p2⟩:=sqk I q2
  obtain ⟨u,hu,ru⟩:=r1.get ex
  obtain ⟨v,hv,rv⟩:=r2.get ey
  obtain ⟨hz,hTI,⟨a,b,hTO⟩,h1,h2⟩:=st
  have l1:∀{c o},s.heap.get? c=some o→c≠s.heap.objs.size:=fun e=>Nat.ne_of_lt (Heap.lt_size e)
  refine nextZ_item D hz hTI hTO h1 h2 p1 p2 (x:=u) (y:=v) (by simpa using hu) (by simpa using hv) fun h' a1 a2 a3 a4 a5 a6 hk=>⟨_,rfl,?_⟩
  refine wpAny_letOwnedTupleGo_zip a1 fun h2' b1 b2=>?_
  have ez:z < s.heap.objs.size:=Heap.lt_size hz
  have nT:s.heap.objs.size≠z:=Nat.ne_of_gt ez
  have kp:∀c o,c∉[z,TI,TO,i1,i2]→s.heap.get? c=some o→h2'.get? c=some o:=fun c o hc e=>by
   simp only [List.mem_cons,List.not_mem_nil,or_false,not_or] at hc
   exact (b2.2 c hc.1).trans (hk c o hc.1 hc.2.2.1 hc.2.2.2.1 hc.2.2.2.2 e)
  have fr:H s.heap.objs.size=none:=I.hok.fresh (Nat.le_refl _)
  have tr:∀c w,H c=some w→c∉[z,TI,TO,i1,i2]:=fun c w e hc=>by rw [(hf c hc).1] at e;cases e
  have st':zipTt c1 c2 z TI TO i1 i2 _ _ (i + 1) h2':=⟨b1,(b2.2 _ D.TIz).trans (hk _ _ D.TIz D.TITO D.TIi1 D.TIi2 hTI),⟨_,_,(b2.2 _ D.TOz).trans a2⟩,sit_on a3 fun o e=>(b2.2 _ D.i1z).trans e,sit_on a4 fun o e=>(b2.2 _ D.i2z).trans e⟩
  have five:∀c∈[z,TI,TO,i1,i2],∃o,h2'.get? c=some o:=fun c hc=>by
   obtain ⟨q1,q2,⟨_,_,q3⟩,s4,s5⟩:=st'
   obtain ⟨_,q4,_⟩:=sit_obj s4
   obtain ⟨_,q5,_⟩:=sit_obj s5
   simp only [List.mem_cons,List.not_mem_nil,or_false] at hc
   rcases hc with rfl | rfl | rfl | rfl | rfl
   ·exact ⟨_,q1⟩
   ·exact ⟨_,q2⟩
   ·exact ⟨_,q3⟩
   ·exact ⟨_,q4⟩
   ·exact ⟨_,q5⟩
  have hb5:h2'.get? s.heap.objs.size=some {cls:=.type "tuple",data:=.seq #[u,v]}:=(b2.2 _ nT).trans a5
  have un:Un (frs X.stack) [z,TI,TO,i1,i2] H (upd H s.heap.objs.size (.tup [x,y])) s.heap h2':=⟨fun c o e n hfs hx=>kp c o hx e,fun c o e n hfs hx=>⟨o.slots,kp c o hx e⟩,fun c o e n hx=>by rw [upd_ne (l1 e)];exact n,fun c o e hx=>⟨o,kp c o hx e⟩,
   fun c ws e=>by rw [upd_ne (ne_of_none e fr)];exact e,fun c o w e=>by rw [upd_ne (ne_of_none e fr)];exact e,fun c ps e=>⟨#[],by rw [upd_ne (ne_of_none e fr),e];simp⟩⟩
  have hok:HOk X.prog X.w (upd H s.heap.objs.size (.tup [x,y])) h2':=fun c w e=>by
   by_cases hc:c=s.heap.objs.size
   ·subst hc
    rw [upd_same] at e;cases e
    exact ⟨by show 2≤sizeLine;rw [sizeLine_eq];decide,[u,v],.cons ru (.cons rv .nil),⟨_,hb5,rfl,⟨_,rfl⟩,rfl⟩⟩
   ·rw [upd_ne hc] at e
    refine (I.hok c w e).stay (fun c' o hc' e'=>kp c' o (by
     rcases hc' with rfl | hc'
     ·exact tr _ _ e
     ·exact tr _ _ hc') e') (fun c' q=>by rw [upd_ne (ne_of_none q fr)];exact q) fun c' ws q=>by rw [upd_ne (ne_of_none q fr)];exact q
  have I1:Inv X pins σ (upd H s.heap.objs.size (.tup [x,y])) {s with heap:=h2'}:=I.call' (s':={s with heap:=h2'}) (ch:=[z,TI,TO,i1,i2]) rfl un hok I.bare fun c hc=>⟨(hf c hc).2.2.2.1,(hf c hc).2.1,(hf c hc).2.2.2.2.1,(hf c hc).2.2.2.2.2⟩
  exact ⟨.ref s.heap.objs.size,_,I1,rfl,⟨_,x,y,rfl,fr,rfl,fun ws hw=>by rw [sqk_inj I hw q1];exact ex,fun ws hw=>by rw [sqk_inj I hw q2];exact ey⟩,st',fun c hc=>by
   obtain ⟨o,e⟩:=five c hc
   have:c≠s.heap.objs.size:=fun z=>by
    subst z
    have:=(hf _ hc)
    obtain ⟨q1,q2,⟨_,_,q3⟩,s4,s5⟩:=(⟨hz,hTI,⟨a,b,hTO⟩,h1,h2⟩:zipTt c1 c2 z TI TO i1 i2 _ _ i s.heap)
    obtain ⟨_,q4,_⟩:=sit_obj s4
    obtain ⟨_,q5,_⟩:=sit_obj s5
    simp only [List.mem_cons,List.not_mem_nil,or_false] at hc
    rcases hc with rfl | rfl | rfl | rfl | rfl
    ·exact l1 q1 rfl
    ·exact l1 q2 rfl
    ·exact l1 q3 rfl
    ·exact l1 q4 rfl
    ·exact l1 q5 rfl
   rw [upd_ne this];exact (hf c hc).1⟩
 done:=by
  intro X hP hw hK hc i pins s σ H E I hf st hg
  subst hP hw hK
  obtain ⟨xs,ys,q1,q2,hend⟩:=hg
  obtain ⟨its1,r1,p1⟩:=sqk I q1
  obtain ⟨its2,r2,p2⟩:=sqk I q2
  obtain ⟨hz,hTI,⟨a,b,hTO⟩,h1,h2⟩:=st
  refine nextZ_end (I.ok.hd hc) D hz hTI hTO h1 h2 p1 p2 (hend.imp (vals_none r1) (vals_none r2)) fun h' hk=>⟨rfl,?_⟩
  have kp:∀c o,c∉[z,TO,i1,i2]→s.heap.get? c=some o→h'.get? c=some o:=fun c o hc e=>by
   simp only [List.mem_cons,List.not_mem_nil,or_false,not_or] at hc
   exact hk c o hc.1 hc.2.1 hc.2.2.1 hc.2.2.2 e
  have sub:∀c∈[z,TO,i1,i2],c∈[z,TI,TO,i1,i2]:=fun c hc=>by simp at hc ⊢;rcases hc with h | h | h | h <;> simp [h]
  have un:Un (frs X.stack) [z,TO,i1,i2] H H s.heap h':=⟨fun c o e n hfs hx=>kp c o hx e,fun c o e n hfs hx=>⟨o.slots,kp c o hx e⟩,fun c o e n hx=>n,fun c o e hx=>⟨o,kp c o hx e⟩,fun c ws e=>e,fun c o w e=>e,fun c ps e=>⟨#[],by rw [e];simp⟩⟩
  have tr:∀c w,H c=some w→c∉[z,TO,i1,i2]:=fun c w e hc=>by rw [(hf c (sub c hc)).1] at e;cases e
  have hok:HOk X.prog X.w H h':=fun c w e=>(I.hok c w e).stay (fun c' o hc' e'=>kp c' o (by
   rcases hc' with rfl | hc'
   ·exact tr _ _ e
   ·exact tr _ _ hc') e') (fun _ q=>q) fun _ _ q=>q
  exact I.call' (s':={s with heap:=h'}) (ch:=[z,TO,i1,i2]) rfl un hok I.bare fun c hc=>⟨(hf c (sub c hc)).2.2.2.1,(hf c (sub c hc)).2.1,(hf c (sub c hc)).2.2.2.2.1,(hf c (sub c hc)).2.2.2.2.2⟩
 self:=fun _ _ _ _ _ st h=>wpAny_pyIter_zip st.1 h
end Z
set_option maxHeartbeats 1000000
namespace Z
open PySem PySem.Spec PyProof.Rows L2
section
variable {prog:Program}{w:World}{A:Around}{E:Value→Shared→Prop}{s:Shared}{k:Bool}
end
noncomputable def kd:D→Bool
 | .lst _=>true
 | _=>false
theorem den_sq {K:PySem.W.Frag}{A:Av}{H:Hp}{d:D}{v:V}{xs:List D}(e:items d=some xs)(h:Den K A H d v):∃a vs,v= .ref a∧SqK (kd d) K H a vs∧DenL K A H xs vs:=by
 cases d with
 | tup zs=>cases e;rw [Den] at h;exact h
 | lst zs=>cases e;obtain ⟨a,vs,e,hq,l⟩:=den_r h;exact ⟨a,vs,e,hq,l⟩
 | _=>cases e
section
variable {X:Cx}{a b:Expr}{p pos:Pos}{fa:FA}{es:List Expr}{kt:Nat}{pt:Pos}
noncomputable def iZip (K:PySem.W.Frag) (ta:TA):TI:=fun σ H R=>ta σ H fun vs H1=>∃c1 c2 l1 l2,vs=[.ref l1,.ref l2]∧(∃xs,SqK c1 K H1 l1 xs)∧(∃ys,SqK c2 K H1 l2 ys)∧R (ItzT c1 c2 K l1 l2) H1
theorem pi_zip {ta:TA}(hg:Gl X "zip")(hm:X.mg "zip"=none)(ha:PA X [a,b] ta)(hs:autoParam (starEach [a,b] X.env=(false,eval a X.env) :: starEach [b] X.env) Zau.a2._auto_1)(hpl:autoParam ((backTo pos (starEach [b] X.env)).any (·.1)=false) Zau.a2._auto_1)(hbt:autoParam (bootBuiltins "zip"=some (.type "zip")) Zau.a2._auto_1):
  PI X (.Tuple es kt pt) (.Call (.Name "zip" p) [a,b] [] pos) (iZip X.K ta):=by
 intro pins s σ H R I h
 refine Call_ (ld_blt I hg hm hbt (PyProof.Rows.callWith_type1 (thn (ha pos pins s σ H _ I h) fun us s1 ⟨vs,H1,I1,r1,q1⟩=>?_) hs hpl) (by decide) (by decide))
 obtain ⟨c1,c2,l1,l2,rfl,⟨xs,h1⟩,⟨ys,h2⟩,q⟩:=q1
 obtain ⟨u1,u2,rfl,ru1,ru2⟩:=vals2 r1
 cases ru1
 cases ru2
 obtain ⟨its1,_,p1⟩:=sqk I1 h1
 obtain ⟨its2,_,p2⟩:=sqk I1 h2
 refine call_zipT p1 p2 fun h' d1 d2 d3 d4 d5 d7=>?_
 refine wpAny_pyIter_zip d1 ?_
 refine ⟨_,[s1.heap.objs.size + 4,s1.heap.objs.size + 2,s1.heap.objs.size + 3,s1.heap.objs.size,s1.heap.objs.size + 1],_,_,H1,rfl,I1.kept (t':=s1.toks) fun c o e0=>d7 c o e0,turn_zipT (zipApart_new (ssq_lt p1) (ssq_lt p2)),⟨d1,d2,⟨_,_,d3⟩,d4,d5⟩,fun c hc=>?_,q⟩
 have le:s1.heap.objs.size≤c:=by simp only [List.mem_cons,List.not_mem_nil,or_false] at hc;rcases hc with h | h | h | h | h <;> (rw [h];first | exact Nat.le_add_right _ _ | exact Nat.le_refl _)
 exact I1.fpOk le (I1.hok.fresh le)
noncomputable def zipD (xs ys:List D):List D:=List.zipWith (fun x y=>.tup [x,y]) xs ys
noncomputable def enumD (xs:List D):List D:=xs.mapIdx fun (i:Nat) x=>.tup [.int i,x]
noncomputable def fiZip (fa:FA):FI:=fun ρ=>(fa ρ).bind fun p=>(takeAll p.2 p.1).bind fun q=>match q.1 with
 | [x,y]=>(items x).bind fun xs=>(items y).map fun ys=>(zipD xs ys,q.2)
 | _=>none
noncomputable def fiEnum (fa:FA):FI:=fun ρ=>(fa ρ).bind fun p=>(takeAll p.2 p.1).bind fun q=>match q.1 with
 | [x]=>(items x).map fun xs=>(enumD xs,q.2)
 | _=>none
theorem qi_zip (hm:X.mg "zip"=none)(ha:QA X [a,b] fa)(hg:autoParam (Gl X "zip") Zau.a2._auto_1)(hs:autoParam (starEach [a,b] X.env=(false,eval a X.env) :: starEach [b] X.env) Zau.a2._auto_1)(hpl:autoParam ((backTo pos (starEach [b] X.env)).any (·.1)=false) Zau.a2._auto_1)(hbt:autoParam (bootBuiltins "zip"=some (.type "zip")) Zau.a2._auto_1):
  QI X (.Tuple es kt pt) (.Call (.Name "zip" p) [a,b] [] pos) (fiZip fa):=⟨PI.weak (pi_zip hg hm ha.to hs hpl hbt) fun σ H R h0=>tIe h0 fun P O L ρ xs ρ' r e q=>by
 unfold fiZip at e
 obtain ⟨⟨ws,ρ1⟩,e1,e⟩:=obs e
 dsimp only at e
 obtain ⟨⟨ds,ρ2⟩,e2,e⟩:=obs e
 dsimp only at e
 split at e
 ·rename_i x y
  cases e3:items x with
  | none=>rw [e3] at e;cases e
  | some xs'=>
   cases e4:items y with
   | none=>rw [e3,e4] at e;cases e
   | some ys'=>
    rw [e3,e4] at e;cases e
    refine ⟨P,O,L,ρ,ws,ρ1,r,e1,fun vs H1 r1 l1=>?_⟩
    obtain ⟨r2,l2,_⟩:=takeAll_ok r1 e2 l1
    obtain ⟨v,u,rfl,hv,hu⟩:=denL2 l2
    obtain ⟨a1,vs1,rfl,s1,m1⟩:=den_sq e3 hv
    obtain ⟨a2,vs2,rfl,s2,m2⟩:=den_sq e4 hu
    have r3:=(r2.more (p:=(y,.ref a2)) hu).more (p:=(x,.ref a1)) hv
    refine ⟨kd x,kd y,a1,a2,rfl,⟨vs1,s1⟩,⟨vs2,s2⟩,q _ H1 _ r3 (fun p hp=>List.mem_cons_of_mem _ (List.mem_cons_of_mem _ hp)) fun Y O' L' ρ' σ' Hh hY rr=>?_⟩
    have z1:=rr.prot _ List.mem_cons_self
    have z2:=rr.prot _ (List.mem_cons_of_mem _ List.mem_cons_self)
    rw [hY] at z1 z2
    obtain ⟨b1,ws1,ev1,q1,n1⟩:=den_sq e3 z1
    obtain ⟨b2,ws2,ev2,q2,n2⟩:=den_sq e4 z2
    cases ev1;cases ev2
    refine ⟨fun i z ez=>?_,ws1,ws2,q1,q2,?_⟩
    ·unfold zipD at ez
     rw [List.getElem?_zipWith] at ez
     cases g1:xs'[i]? with
     | none=>rw [g1] at ez;cases ez
     | some x0=>
      cases g2:ys'[i]? with
      | none=>rw [g1,g2] at ez;cases ez
      | some y0=>
       rw [g1,g2] at ez
       cases ez
       obtain ⟨v1,k1,t1⟩:=denL_get n1 g1
       obtain ⟨v2,k2,t2⟩:=denL_get n2 g2
       refine ⟨⟨ws1,ws2,v1,v2,q1,q2,k1,k2⟩,fun w H' ⟨T,x1,y1,ew,hT,eH,f1,f2⟩=>?_⟩
       subst ew eH
       have g3:=f1 ws1 q1
       have g4:=f2 ws2 q2
       rw [k1] at g3;cases g3
       rw [k2] at g4;cases g4
       have sm:=same_upd hT (.tup [v1,v2])
       refine ⟨sm,?_⟩
       rw [Den]
       exact ⟨T,[v1,v2],rfl,.inl (.inl upd_same),denL_cons (den_same sm t1) (denL_cons (den_same sm t2) denL_nil)⟩
    ·have k1:=denL_length n1
     have k2:=denL_length n2
     unfold zipD
     rw [List.length_zipWith,List.getElem?_eq_none_iff,List.getElem?_eq_none_iff]
     (first|lia|omega)
 ·cases e⟩
end
end Z
set_option maxHeartbeats 1000000
namespace Z
open PySem PySem.Spec PyProof.Rows L2
section
variable {X:Cx}{a b c e e' o:Expr}{es rest:List Expr}{pos p p2 p3 apos:Pos}{f g h:FX}{t u:FT}{fa:FA}{x:Str}
theorem call_divmodI:CallR X (.builtin "divmod") (fun xs H Q=>∃i j:Int,xs=[.int i,.int j]∧dOk j∧∀l,H l=none→Q (.ref l) (upd H l (.tup [.int (i / j),.int (i % j)]))):=by
 intro pins s σ H xs us Q I r h
 obtain ⟨i,j,rfl,hj,q⟩:=h
 obtain ⟨u,u',rfl,r1,r2⟩:=vals2 r
 obtain ⟨t,rfl⟩:=r1
 obtain ⟨t',rfl⟩:=r2
 have e1:i.fdiv j=i / j:=Int.fdiv_eq_ediv_of_nonneg i (Int.le_of_lt hj.1)
 have e2:i.fmod j=i % j:=Int.fmod_eq_emod_of_nonneg i (Int.le_of_lt hj.1)
 refine divmod_int (Int.ne_of_gt hj.1) ?_ (.inl (PyProof.noPylong_of_log2 ?_))
 ·rw [e1,e2]
  have I2:Inv X pins σ (upd H s.heap.objs.size (.tup [.int (i / j),.int (i % j)])) {s with heap:=s.heap.push {cls:=.type "tuple",data:=.seq #[.int (i / j) s.toks,.int (i % j) (s.toks + 1)]},toks:=s.toks + 1 + 1}:=
   I.laid (fun b o e=>Heap.get?_push_of_some _ e) (Nat.le_refl _) (show ObjOk X.prog X.w _ _ _ (.tup [.int (i / j),.int (i % j)]) from ⟨by rw [sizeLine_eq];show 2≤16777216;decide,[.int (i / j) s.toks,.int (i % j) (s.toks + 1)],.cons ⟨_,rfl⟩ (.cons ⟨_,rfl⟩ .nil),TupN.new _ _⟩)
  exact ⟨.ref s.heap.objs.size,_,I2,rfl,q _ (I.hok.fresh (Nat.le_refl _))⟩
 ·by_cases z:j.natAbs=0
  ·rw [z];decide
  ·exact Nat.lt_of_lt_of_le ((Nat.log2_lt z).mpr (show j.natAbs < 2 ^ 8000 from hj.2)) (by decide)
noncomputable def gDivmod:List D→Option W
 | [.int i,.int j]=>if dOk j then some (.v (.tup [.int (i / j),.int (i % j)])) else none
 | _=>none
theorem pr_divmod:PrA X gDivmod (fun xs H Q=>∃i j:Int,xs=[.int i,.int j]∧dOk j∧∀l,H l=none→Q (.ref l) (upd H l (.tup [.int (i / j),.int (i % j)]))):=fun A ds w vs H Q _ e l q=>by
 unfold gDivmod at e
 split at e
 ·rename_i i j
  split at e
  ·rename_i hj
   cases e
   obtain ⟨v,v',rfl,h1,h2⟩:=denRL2 l
   exact ⟨i,j,by rw [denR_int h1,denR_int h2],hj,fun l hl=>q _ _ (same_upd hl _) (denW_tup hl (denL_ints [i / j,i % j]))⟩
  ·cases e
 ·cases e
theorem qx_divmod (hm:X.mg "divmod"=none)(ha:QA X (e :: es) fa)(hv:autoParam (bootBuiltins "divmod"=some (.builtin "divmod")) Zau.a2._auto_1)(hg:autoParam (Gl X "divmod") Zau.a2._auto_1)
  (he:autoParam (starEach (e :: es) X.env=(false,eval e X.env) :: starEach es X.env) Zau.a2._auto_1) (hpl:autoParam ((backTo pos (starEach es X.env)).any (·.1)=false) Zau.a2._auto_1):QX X (.Call (.Name "divmod" p) (e :: es) [] pos) (fCall gDivmod fa):=qx_callB call_divmodI pr_divmod hv hm ha hg (by decide) (by decide) he hpl
noncomputable def fListR (fa:FA):FX:=fun ρ=>(fa ρ).bind fun p=>match p.1 with
 | [.v (.int n)]=>if 0≤n∧n≤1000 then some (.o (.lst (rngD 0 n.toNat)),p.2) else none
 | _=>none
theorem rngD_ints (n:Nat):rngD 0 n=((List.range n).map fun (i:Nat)=>(i:Int)).map D.int:=by
 unfold rngD;rw [List.map_map];apply List.map_congr_left;intro i _;simp
noncomputable def fCnt (f:FX) (fa:FA):FX:=fun ρ=>(f ρ).bind fun p=>(dr p.2 p.1.fz).bind fun d=>match d with
 | .tup _=>(fa p.2).bind fun q=>(dr q.2 p.1.fz).bind fun y=>match y,q.1 with
  | .tup xs,[.v (.int i)]=>(intsOf xs).map fun ns=>(.v (.int (ns.count i:Nat)),q.2)
  | _,_=>none
 | _=>none
theorem qx_in {k:Nat}(hr:Room k X.A)(ha:QX X a f)(hb:QX X b g)(hm:autoParam (behindInMarks .In b=false) Zau.a2._auto_1):QX X (.Compare a [.In] [b] pos) (fBin (oInI false) f g):=qx_inI ha hb hm
theorem qt_notIn {k:Nat}(hr:Room k X.A)(ha:QX X a f)(hb:QX X b g)(hm:autoParam (behindInMarks .NotIn b=false) Zau.a2._auto_1):QT X (.Compare a [.NotIn] [b] pos) (fTest (fBin (oInI true) f g)):=qt_notInI ha hb hm
noncomputable def fDNew:FX:=fun ρ=>some (.o (.dK [] []),ρ)
noncomputable def fDNewT:FX:=fun ρ=>some (.o (.dT [] []),ρ)
end
end Z
set_option maxHeartbeats 1000000
namespace Z
open PySem PySem.Spec PyProof.Rows L2
section
variable {f g:FX}{t u:FT}{fa:FA}{F G:FS}{ρ ρ1 ρ2:Ev}{w z:W}{ws:List W}{d e x y:D}{ds xs ys:List D}{i j k:Nat}{m n:Int}{b:Bool}
theorem aN:items (.tup xs)=some xs:=rfl
theorem it_l:items (.lst xs)=some xs:=rfl
noncomputable def iz2:Option (List W×Ev)→Option (List D×Ev)
 | some p=>(takeAll p.2 p.1).bind fun q=>match q.1 with
  | [x,y]=>(items x).bind fun xs=>(items y).map fun ys=>(zipD xs ys,q.2)
  | _=>none
 | none=>none
noncomputable def iz3:Option (List D×Ev)→Option (List D×Ev)
 | some q=>match q.1 with
  | [x,y]=>(items x).bind fun xs=>(items y).map fun ys=>(zipD xs ys,q.2)
  | _=>none
 | none=>none
noncomputable def iz4 (ρ:Ev):Option (List D)→Option (List D)→Option (List D×Ev)
 | some xs,some ys=>some (zipD xs ys,ρ)
 | _,_=>none
theorem eT:fiZip fa ρ=iz2 (fa ρ):=by unfold fiZip iz2;cases fa ρ <;> rfl
theorem eU:iz2 (some (ws,ρ))=iz3 (takeAll ρ ws):=by unfold iz2 iz3;dsimp only;cases takeAll ρ ws <;> rfl
theorem eV:iz3 (some ([x,y],ρ))=iz4 ρ (items x) (items y):=by unfold iz3 iz4;dsimp only;cases items x <;> cases items y <;> rfl
theorem eW:iz4 ρ (some xs) (some ys)=some (zipD xs ys,ρ):=rfl
noncomputable def ie2:Option (List W×Ev)→Option (List D×Ev)
 | some p=>(takeAll p.2 p.1).bind fun q=>match q.1 with
  | [x]=>(items x).map fun xs=>(enumD xs,q.2)
  | _=>none
 | none=>none
noncomputable def ie3:Option (List D×Ev)→Option (List D×Ev)
 | some q=>match q.1 with
  | [x]=>(items x).map fun xs=>(enumD xs,q.2)
  | _=>none
 | none=>none
theorem r_ie:fiEnum fa ρ=ie2 (fa ρ):=by unfold fiEnum ie2;cases fa ρ <;> rfl
theorem r_ie2:ie2 (some (ws,ρ))=ie3 (takeAll ρ ws):=by unfold ie2 ie3;dsimp only;cases takeAll ρ ws <;> rfl
theorem r_ie3_t:ie3 (some ([.tup xs],ρ))=some (enumD xs,ρ):=rfl
theorem r_ie3_l:ie3 (some ([.lst xs],ρ))=some (enumD xs,ρ):=rfl
noncomputable def jr1:Option (List W×Ev)→Option (List D×Ev)
 | some p=>match p.1 with
  | [.v (.int n)]=>if -(2 ^ 62)≤n∧n < 2 ^ 62 then some (rngD 0 n.toNat,p.2) else none
  | _=>none
 | none=>none
noncomputable def jr2:Option (List W×Ev)→Option (List D×Ev)
 | some p=>match p.1 with
  | [.v (.int m),.v (.int n)]=>if (-(2 ^ 62)≤m∧m < 2 ^ 62)∧-(2 ^ 62)≤n∧n < 2 ^ 62 then some (rngD m (n - m).toNat,p.2) else none
  | _=>none
 | none=>none
noncomputable def lr2:Option (List W×Ev)→Option (W×Ev)
 | some p=>match p.1 with
  | [.v (.int n)]=>if 0≤n∧n≤1000 then some (.o (.lst (rngD 0 n.toNat)),p.2) else none
  | _=>none
 | none=>none
theorem fV:fiR1 fa ρ=jr1 (fa ρ):=by unfold fiR1 jr1;cases fa ρ <;> rfl
theorem fW:jr1 (some ([.v (.int n)],ρ))=if -(2 ^ 62)≤n∧n < 2 ^ 62 then some (rngD 0 n.toNat,ρ) else none:=rfl
theorem fX:fiR2 fa ρ=jr2 (fa ρ):=by unfold fiR2 jr2;cases fa ρ <;> rfl
theorem fY:jr2 (some ([.v (.int m),.v (.int n)],ρ))=if (-(2 ^ 62)≤m∧m < 2 ^ 62)∧-(2 ^ 62)≤n∧n < 2 ^ 62 then some (rngD m (n - m).toNat,ρ) else none:=rfl
theorem r_lr:fListR fa ρ=lr2 (fa ρ):=by unfold fListR lr2;cases fa ρ <;> rfl
theorem r_lr2:lr2 (some ([.v (.int n)],ρ))=if 0≤n∧n≤1000 then some (.o (.lst (rngD 0 n.toNat)),ρ) else none:=rfl
theorem r_dm (h:dOk n):gDivmod [.int m,.int n]=some (.v (.tup [.int (m / n),.int (m % n)])):=by unfold gDivmod;exact if_pos h
noncomputable def cn2 (fa:FA):Option (W×Ev)→Option (W×Ev)
 | some p=>(dr p.2 p.1.fz).bind fun d=>match d with
  | .tup _=>(fa p.2).bind fun q=>(dr q.2 p.1.fz).bind fun y=>match y,q.1 with
   | .tup xs,[.v (.int i)]=>(intsOf xs).map fun ns=>(.v (.int (ns.count i:Nat)),q.2)
   | _,_=>none
  | _=>none
 | none=>none
noncomputable def cn3 (fa:FA) (w:W) (ρ:Ev):Option D→Option (W×Ev)
 | some (.tup _)=>(fa ρ).bind fun q=>(dr q.2 w.fz).bind fun y=>match y,q.1 with
   | .tup xs,[.v (.int i)]=>(intsOf xs).map fun ns=>(.v (.int (ns.count i:Nat)),q.2)
   | _,_=>none
 | _=>none
noncomputable def cn4 (w:W):Option (List W×Ev)→Option (W×Ev)
 | some q=>(dr q.2 w.fz).bind fun y=>match y,q.1 with
   | .tup xs,[.v (.int i)]=>(intsOf xs).map fun ns=>(.v (.int (ns.count i:Nat)),q.2)
   | _,_=>none
 | _=>none
noncomputable def cn5 (ws:List W) (ρ:Ev):Option D→Option (W×Ev)
 | some y=>match y,ws with
   | .tup xs,[.v (.int i)]=>(intsOf xs).map fun ns=>(.v (.int (ns.count i:Nat)),ρ)
   | _,_=>none
 | _=>none
theorem r_cn:fCnt f fa ρ=cn2 fa (f ρ):=by unfold fCnt cn2;cases f ρ <;> rfl
theorem r_cn2:cn2 fa (some (w,ρ))=cn3 fa w ρ (dr ρ w.fz):=by
 unfold cn2 cn3
 dsimp only
 cases dr ρ w.fz with
 | none=>rfl
 | some d=>cases d <;> rfl
theorem r_cn3:cn3 fa w ρ (some (.tup xs))=cn4 w (fa ρ):=by unfold cn3 cn4;cases fa ρ <;> rfl
theorem r_cn4:cn4 w (some (ws,ρ))=cn5 ws ρ (dr ρ w.fz):=by unfold cn4 cn5;dsimp only;cases dr ρ w.fz <;> rfl
theorem o_in_t {ns:List Int}(h:intsOf xs=some ns):oInI b (.int n) (.tup xs)=some (.v (.bl (if b then !decide (n∈ns) else decide (n∈ns)))):=by unfold oInI;simp only [items,Option.bind_some,h,Option.map_some]
theorem r_dnew:fDNew ρ=some (.o (.dK [] []),ρ):=rfl
noncomputable def ch2 (o o':D→D→Option W) (g h:FX):Option (W×Ev)→Option (W×Ev)
 | some p=>fChain o o' (fun _=>some p) g h p.2
 | none=>none
noncomputable def ch3 (o o':D→D→Option W) (w:W) (h:FX):Option (W×Ev)→Option (W×Ev)
 | some q=>(dr q.2 w.fz).bind fun x=>(dr q.2 q.1.fz).bind fun y=>(o x y).bind fun d=>match d with
  | .v (.bl k)=>if k=true then (h q.2).bind fun z=>(dr z.2 q.1.fz).bind fun y=>(dr z.2 z.1.fz).bind fun z'=>(o' y z').map fun w=>(w,z.2) else some (.v (.bl false),q.2)
  | _=>none
 | none=>none
noncomputable def ch4 (o o':D→D→Option W) (h:FX) (w:W) (ρ:Ev):Option D→Option D→Option (W×Ev)
 | some x,some y=>(o x y).bind fun d=>match d with
  | .v (.bl k)=>if k=true then (h ρ).bind fun z=>(dr z.2 w.fz).bind fun y=>(dr z.2 z.1.fz).bind fun z'=>(o' y z').map fun w=>(w,z.2) else some (.v (.bl false),ρ)
  | _=>none
 | _,_=>none
noncomputable def ch5 (o':D→D→Option W) (h:FX) (w:W) (ρ:Ev):Option W→Option (W×Ev)
 | some (.v (.bl k))=>if k=true then bin3 o' w (h ρ) else some (.v (.bl false),ρ)
 | _=>none
theorem cI {o o':D→D→Option W}{h:FX}:fChain o o' f g h ρ=ch2 o o' g h (f ρ):=by unfold ch2;cases e:f ρ with
 | none=>unfold fChain;rw [e];rfl
 | some p=>unfold fChain;rw [e]
theorem cJ {o o':D→D→Option W}{h:FX}:ch2 o o' g h (some (w,ρ))=ch3 o o' w h (g ρ):=by unfold ch2 ch3 fChain;dsimp only [Option.bind_some];cases g ρ <;> rfl
theorem cK {o o':D→D→Option W}{h:FX}:ch3 o o' w h (some (z,ρ))=ch4 o o' h z ρ (dr ρ w.fz) (dr ρ z.fz):=by
 unfold ch3 ch4;dsimp only;cases dr ρ w.fz <;> cases dr ρ z.fz <;> rfl
theorem cL {o o':D→D→Option W}{h:FX}:ch4 o o' h w ρ (some x) (some y)=ch5 o' h w ρ (o x y):=by
 unfold ch4 ch5 bin3
 dsimp only
 cases o x y with
 | none=>rfl
 | some d=>
  dsimp only [Option.bind_some]
  cases d with
  | v d=>cases d with
   | bl k=>cases h ρ <;> rfl
   | _=>rfl
  | _=>rfl
theorem cN {o':D→D→Option W}{h:FX}:ch5 o' h w ρ (some (.v (.bl true)))=bin3 o' w (h ρ):=rfl
theorem cM {o':D→D→Option W}{h:FX}:ch5 o' h w ρ (some (.v (.bl false)))=some (.v (.bl false),ρ):=rfl
noncomputable def tc2 (k:Nat) (t:FT) (fe:FX):Option Ev→Option Ev
 | some ρ1=>(t ρ1).bind fun p=>if p.1=true then (fe p.2).bind (appTo k) else some p.2
 | none=>none
noncomputable def tc3 (k:Nat) (fe:FX):Option (Bool×Ev)→Option Ev
 | some p=>if p.1=true then (fe p.2).bind (appTo k) else some p.2
 | none=>none
noncomputable def tc4 (k:Nat):Option (W×Ev)→Option Ev
 | some p=>appTo k p
 | none=>none
noncomputable def ap2 (k:Nat):Option (List D×Ev)→Option Ev
 | some q=>match q.1,ownAt q.2 k with
  | [d],some (.lst zs)=>if zs.length < lim then some (setOwn q.2 k (.lst (zs ++ [d]))) else none
  | _,_=>none
 | none=>none
noncomputable def ap3 (k:Nat) (d:D) (ρ:Ev):Option D→Option Ev
 | some (.lst zs)=>if zs.length < lim then some (setOwn ρ k (.lst (zs ++ [d]))) else none
 | _=>none
theorem gX {gf:FG}{fe:FX}:turnC k gf t fe d ρ=tc2 k t fe (gf d ρ):=by unfold turnC tc2;cases gf d ρ <;> rfl
theorem gY {fe:FX}:tc2 k t fe (some ρ)=tc3 k fe (t ρ):=by unfold tc2 tc3;dsimp only;cases t ρ <;> rfl
theorem gZ {fe:FX}:tc3 k fe (some (true,ρ))=tc4 k (fe ρ):=by unfold tc3 tc4;simp only [if_true];cases fe ρ <;> rfl
theorem r_tc3_f {fe:FX}:tc3 k fe (some (false,ρ))=some ρ:=rfl
theorem g5:tc4 k (some (w,ρ))=ap2 k (takeAll ρ [w.fz]):=by
 unfold tc4 appTo ap2
 dsimp only
 cases takeAll ρ [w.fz] <;> rfl
theorem bU:ap2 k (some ([d],ρ))=ap3 k d ρ (ownAt ρ k):=by
 unfold ap2 ap3
 dsimp only
 cases ownAt ρ k with
 | none=>rfl
 | some x=>cases x <;> rfl
theorem bV:ap3 k d ρ (some (.lst xs))=if xs.length < lim then some (setOwn ρ k (.lst (xs ++ [d]))) else none:=rfl
theorem loop_elim {C:Prop}{b:D→FS}{r:Option R}(e:loopF b xs ρ=r)(I:List D→Ev→Prop)(h0:I [] ρ)(st:∀d x ρ,x∈xs→d.length < xs.length→I d ρ→∃ρ',b x ρ=some (.nx ρ')∧I (d ++ [x]) ρ')(c:∀ρ',r=some (.nx ρ')→I xs ρ'→C):C:=by
 have key:∀(ys done:List D) (ρ:Ev),(∀y∈ys,y∈xs)→done.length + ys.length=xs.length→I done ρ→∃ρ',loopF b ys ρ=some (.nx ρ')∧I (done ++ ys) ρ':=by
  intro ys
  induction ys with
  | nil=>intro done ρ _ _ h;exact ⟨ρ,rfl,by rw [List.append_nil];exact h⟩
  | cons y ys ih=>
   intro done ρ hm hl h
   rw [List.length_cons] at hl
   obtain ⟨ρ1,e1,i1⟩:=st done y ρ (hm y List.mem_cons_self) (by (first|lia|omega)) h
   obtain ⟨ρ2,e2,i2⟩:=ih (done ++ [y]) ρ1 (fun a ha=>hm a (List.mem_cons_of_mem _ ha)) (by rw [List.length_append,List.length_singleton];(first|lia|omega)) i1
   exact ⟨ρ2,by rw [loopF,e1];exact e2,by rw [List.append_assoc] at i2;exact i2⟩
 obtain ⟨ρ',e',i⟩:=key xs [] ρ (fun _ h=>h) (by simp) h0
 exact c ρ' (e.symm.trans e') (by simpa using i)
theorem comp_elim {C:Prop}{fi:FI}{js:List (Option Nat)}{gf:FG}{fe:FX}{r:Option (W×Ev)}(e:fComp fi (some (i,j)) js gf t fe ρ=r)(I:List D→Ev→List D→Prop)(ei:fi ρ=some (xs,ρ1))(hl:xs.length≤lim)(hj:(ownAt ρ1 j).isSome=true)
  (hI:∀d B zs,I d B zs→B.length=js.length) (h0:I [] (capE (some j) js ρ1) []) (st:∀d x B zs,x∈xs→I d B zs→zs.length < lim→∃B' zs',turnC js.length gf t fe x (B ++ acc zs)=some (B' ++ acc zs')∧I (d ++ [x]) B' zs'∧zs'.length≤zs.length + 1)
  (fin:∀B zs,I xs B zs→lfL zs=true∧∃c,ownAt (B ++ acc zs) i=some c∧lfC c=true) (c:∀B zs c,I xs B zs→ownAt (B ++ acc zs) i=some c→r=some (.o (.lst zs),setOwn ρ1 j c)→C):C:=by
 have key:∀(ys done:List D) (B:Ev) (zs:List D),(∀y∈ys,y∈xs)→I done B zs→zs.length + ys.length≤lim→∃B' zs',loopC (turnC js.length gf t fe) ys (B ++ acc zs)=some (B' ++ acc zs')∧I (done ++ ys) B' zs':=by
  intro ys
  induction ys with
  | nil=>intro done B zs _ h _;exact ⟨B,zs,rfl,by rw [List.append_nil];exact h⟩
  | cons y ys ih=>
   intro done B zs hm h hl
   rw [List.length_cons] at hl
   obtain ⟨B1,z1,e1,i1,l1⟩:=st done y B zs (hm y List.mem_cons_self) h (by (first|lia|omega))
   obtain ⟨B2,z2,e2,i2⟩:=ih (done ++ [y]) B1 z1 (fun a ha=>hm a (List.mem_cons_of_mem _ ha)) i1 (by (first|lia|omega))
   exact ⟨B2,z2,by rw [loopC,e1];exact e2,by rw [List.append_assoc] at i2;exact i2⟩
 obtain ⟨B,zs,e1,i1⟩:=key xs [] _ [] (fun _ h=>h) h0 (by rw [List.length_nil];(first|lia|omega))
 rw [List.nil_append] at i1
 obtain ⟨l1,c0,o1,lc⟩:=fin B zs i1
 refine c B zs c0 i1 o1 ?_
 rw [←e]
 unfold fComp
 rw [ei]
 simp only [Option.bind_some,liB,hj,if_true,Option.map_some]
 rw [show capE (some j) js ρ1 ++ [some (.l (.lst []))]=capE (some j) js ρ1 ++ acc [] from rfl,e1]
 simp only [Option.bind_some,acc_at (hI _ _ _ i1),backC,l1,if_true,o1,lc]
theorem lfL_ints (ns:List Int):lfL (ns.map D.int)=true:=by
 induction ns with
 | nil=>rfl
 | cons n ns ih=>rw [List.map_cons,lfL,ih];rfl
theorem len_rng (m:Int)(n:Nat):(rngD m n).length=n:=by unfold rngD;simp
theorem mem_rng {m:Int}{n:Nat}(h:x∈rngD m n):∃i:Int,x= .int i∧m≤i∧i < m + n:=by
 unfold rngD at h
 obtain ⟨i,hi,rfl⟩:=List.mem_map.mp h
 rw [List.mem_range] at hi
 exact ⟨_,rfl,by (first|lia|omega),by (first|lia|omega)⟩
theorem dOk_lit (h:0 < n)(h2:n.natAbs < 2 ^ 64):dOk n:=⟨h,Nat.lt_of_lt_of_le h2 (Nat.pow_le_pow_right (by decide) (by decide))⟩
end
end Z
set_option maxHeartbeats 1000000
namespace Z
open PySem PySem.Spec PyProof.Rows L2
theorem aI {o:Option D}:freeO (o.map W.v)=true:=by cases o <;> rfl
noncomputable def isI:D→Bool
 | .int _=>true
 | .bl _=>true
 | _=>false
noncomputable def isB:D→Bool
 | .bl _=>true
 | _=>false
noncomputable def isT:D→Bool
 | .tup _=>true
 | _=>false
noncomputable def whole:D→Bool
 | .int _=>true
 | _=>false
theorem oi_int {d:D}(h:isX d=false):oIsi "int" d=some (.v (.bl (isI d))):=by cases d <;> first | rfl | cases h
theorem oi_bool {d:D}(h:isX d=false):oIsi "bool" d=some (.v (.bl (isB d))):=by cases d <;> first | rfl | cases h
theorem oi_tuple {d:D}(h:isX d=false):oIsi "tuple" d=some (.v (.bl (isT d))):=by cases d <;> first | rfl | cases h
noncomputable def rise:List Int→Bool
 | a :: b :: r=>decide (a < b) && rise (b :: r)
 | _=>true
noncomputable def lt2:D→Bool
 | .tup [.int a,.int b]=>decide (a < b)
 | _=>false
theorem sIx1 (n:Nat):HT.sIx n 0 (some 1)=min 1 n:=by
 unfold HT.sIx
 simp
theorem cut_tail (xs:List D):cutD xs (some 1) none=xs.drop 1:=by
 unfold cutD
 rw [sIx1]
 cases xs with
 | nil=>rfl
 | cons x xs=>
  rw [List.length_cons,show min 1 (xs.length + 1)=1 by (first|lia|omega)]
  simp [HT.sIx]
theorem zip_lt2:∀ns:List Int,boolsOf (((zipD (ns.map D.int) ((ns.map D.int).drop 1)).filter fun _=>true).map fun d=>D.bl (lt2 d))=some ((ns.zip (ns.drop 1)).map fun p=>decide (p.1 < p.2)):=by
 intro ns
 rw [filter_tt]
 have key:∀(as bs:List Int),(zipD (as.map D.int) (bs.map D.int)).map (fun d=>D.bl (lt2 d))=((as.zip bs).map fun p=>decide (p.1 < p.2)).map D.bl:=by
  intro as
  induction as with
  | nil=>intro bs;rfl
  | cons a as ih=>
   intro bs
   cases bs with
   | nil=>rfl
   | cons b bs=>
    have:=ih bs
    unfold zipD at this ⊢
    simp only [List.map_cons,List.zipWith_cons_cons,List.zip_cons_cons,this];rfl
 rw [←List.map_drop,key,boolsOf_map]
theorem zip_rise:∀ns:List Int,((ns.zip (ns.drop 1)).map fun p=>decide (p.1 < p.2)).all id=rise ns
 | []=>rfl
 | [a]=>rfl
 | a :: b :: r=>by
  have:=zip_rise (b :: r)
  simp only [List.drop_succ_cons,List.drop_zero,List.zip_cons_cons,List.map_cons,List.all_cons,id] at this ⊢
  rw [rise,←this]
theorem gB_lst {r:List Bool→Bool}{xs:List D}{bs:List Bool}(h:boolsOf xs=some bs):gBools r (.lst xs)=some (.v (.bl (r bs))):=by unfold gBools;simp only [h,Option.map_some]
theorem lfL_bl (f:D→Bool)(xs:List D):lfL (xs.map fun d=>D.bl (f d))=true:=by
 induction xs with
 | nil=>rfl
 | cons n ns ih=>rw [List.map_cons,lfL,ih];rfl
theorem boolsOf_fun (f:D→Bool)(xs:List D):boolsOf (xs.map fun d=>D.bl (f d))=some (xs.map f):=by
 have:(xs.map fun d=>D.bl (f d))=(xs.map f).map D.bl:=by rw [List.map_map];rfl
 rw [this,boolsOf_map]
theorem all_map_id {α:Type}(f:α→Bool)(xs:List α):(xs.map f).all id=xs.all f:=by rw [List.all_map];rfl
noncomputable def pers (n:Int):D→Bool
 | .int i=>decide (0≤i) && decide (i < n)
 | _=>false
theorem pers_ints {n:Int}:∀{xs:List D},xs.all (pers n)=true→∃ns:List Int,xs=ns.map D.int∧∀i∈ns,0≤i∧i < n
 | [],_=>⟨[],rfl,fun _ h=>nomatch h⟩
 | x :: xs,h=>by
  rw [List.all_cons,Bool.and_eq_true] at h
  obtain ⟨ns,e,b⟩:=pers_ints h.2
  cases x with
  | int i=>
   have hi:=h.1
   simp only [pers,Bool.and_eq_true,decide_eq_true_eq] at hi
   exact ⟨i :: ns,by rw [e];rfl,fun j hj=>by
    rcases List.mem_cons.mp hj with rfl | hj
    ·exact hi
    ·exact b j hj⟩
  | _=>cases h.1
theorem zip_mem {xs ys:List D}{x:D}(h:x∈zipD xs ys):∃a∈xs,∃b∈ys,x= .tup [a,b]:=by
 unfold zipD at h
 obtain ⟨i,hi,e⟩:=List.mem_iff_getElem.mp h
 rw [List.getElem_zipWith] at e
 exact ⟨_,List.getElem_mem _,_,List.getElem_mem _,e.symm⟩
theorem mem_ints {ns:List Int}{x:D}(h:x∈ns.map D.int):∃i∈ns,x= .int i:=by
 obtain ⟨i,hi,rfl⟩:=List.mem_map.mp h
 exact ⟨i,hi,rfl⟩
theorem len_zip (xs ys:List D):(zipD xs ys).length=min xs.length ys.length:=by unfold zipD;simp
theorem at_get {xs:List D}{i:Int}{d:D}(h:0≤i)(e:xs[i.toNat]? =some d):atI xs i=some d:=by
 have:=atI_nat (j:=i.toNat) e
 rwa [show ((i.toNat:Nat):Int)=i by (first|lia|omega)] at this
theorem at_ints {ns:List Int}{i:Int}(h:0≤i)(l:i < ns.length):atI (ns.map D.int) i=some (.int (ns.getD i.toNat 0)):=by
 refine at_get h ?_
 rw [List.getElem?_map,List.getD_eq_getElem?_getD,List.getElem?_eq_getElem (by (first|lia|omega))]
 rfl
theorem lfL_all:∀{xs:List D},(∀x∈xs,lf x=true)→lfL xs=true
 | [],_=>rfl
 | x :: xs,h=>by rw [lfL,h x List.mem_cons_self,lfL_all fun y hy=>h y (List.mem_cons_of_mem _ hy)];rfl
section
variable {d:D}{ds:List D}{x0:D}{x1:D}{x2:D}{x3:D}{x4:D}{x5:D}{x6:D}{x7:D}{x8:D}{x9:D}{x10:D}{x11:D}{x12:D}{x13:D}
theorem aD:atI (x0 :: x1 :: x2 :: d :: ds) 3=some d:=atI_nat (j:=3) rfl
theorem aE:atI (x0 :: x1 :: x2 :: x3 :: d :: ds) 4=some d:=atI_nat (j:=4) rfl
theorem a_5:atI (x0 :: x1 :: x2 :: x3 :: x4 :: d :: ds) 5=some d:=atI_nat (j:=5) rfl
theorem a_6:atI (x0 :: x1 :: x2 :: x3 :: x4 :: x5 :: d :: ds) 6=some d:=atI_nat (j:=6) rfl
theorem a_7:atI (x0 :: x1 :: x2 :: x3 :: x4 :: x5 :: x6 :: d :: ds) 7=some d:=atI_nat (j:=7) rfl
theorem a_8:atI (x0 :: x1 :: x2 :: x3 :: x4 :: x5 :: x6 :: x7 :: d :: ds) 8=some d:=atI_nat (j:=8) rfl
theorem a_9:atI (x0 :: x1 :: x2 :: x3 :: x4 :: x5 :: x6 :: x7 :: x8 :: d :: ds) 9=some d:=atI_nat (j:=9) rfl
theorem a_10:atI (x0 :: x1 :: x2 :: x3 :: x4 :: x5 :: x6 :: x7 :: x8 :: x9 :: d :: ds) 10=some d:=atI_nat (j:=10) rfl
theorem a_11:atI (x0 :: x1 :: x2 :: x3 :: x4 :: x5 :: x6 :: x7 :: x8 :: x9 :: x10 :: d :: ds) 11=some d:=atI_nat (j:=11) rfl
theorem a_12:atI (x0 :: x1 :: x2 :: x3 :: x4 :: x5 :: x6 :: x7 :: x8 :: x9 :: x10 :: x11 :: d :: ds) 12=some d:=atI_nat (j:=12) rfl
theorem a_13:atI (x0 :: x1 :: x2 :: x3 :: x4 :: x5 :: x6 :: x7 :: x8 :: x9 :: x10 :: x11 :: x12 :: d :: ds) 13=some d:=atI_nat (j:=13) rfl
theorem aO {n:Nat}:ixN (n + 1) 0=some 0:=by unfold ixN;rw [if_pos (Int.le_refl _),if_pos (by (first|lia|omega))];rfl
end
theorem ints_of {Q:Int→Prop}:∀{xs:List D},(∀x∈xs,∃i:Int,x= .int i∧Q i)→∃ns:List Int,xs=ns.map D.int∧ns.length=xs.length∧∀i∈ns,Q i
 | [],_=>⟨[],rfl,rfl,fun _ h=>nomatch h⟩
 | x :: xs,h=>by
  obtain ⟨i,rfl,hi⟩:=h x List.mem_cons_self
  obtain ⟨ns,e,l,q⟩:=ints_of (xs:=xs) fun y hy=>h y (List.mem_cons_of_mem _ hy)
  refine ⟨i :: ns,by rw [e];rfl,by rw [List.length_cons,List.length_cons,l],fun j hj=>?_⟩
  rcases List.mem_cons.mp hj with rfl | hj
  ·exact hi
  ·exact q j hj
end Z
set_option maxHeartbeats 1000000
namespace Z
open PySem PySem.Spec PyProof.Rows L2
noncomputable def dkey:D→Option Key
 | .int i=>some (Sum.inl i)
 | .str x=>some (Sum.inr x)
 | _=>none
noncomputable def dkeys:List D→Option (List Key)
 | []=>some []
 | d :: ds=>(dkey d).bind fun k=>(dkeys ds).map fun ks=>k :: ks
noncomputable def tkey:D→Option (List Key)
 | .tup ds=>dkeys ds
 | _=>none
noncomputable def look {κ:Type} [DecidableEq κ]:List κ→List D→κ→Option D
 | k' :: ks,x :: xs,k=>if k'=k then some x else look ks xs k
 | _,_,_=>none
noncomputable def putKs {κ:Type} [DecidableEq κ] (ks:List κ) (k:κ):List κ:=if k∈ks then ks else ks ++ [k]
noncomputable def putX {κ α:Type} [DecidableEq κ] (ks:List κ) (xs:List α) (k:κ) (d:α):List α:=if k∈ks then List.zipWith (fun k' x=>if k'=k then d else x) ks xs else xs ++ [d]
section
variable {X:Cx}{a b c e e' o:Expr}{es rest:List Expr}{pos p p2 p3 apos cpos:Pos}{f g h:FX}{t u:FT}{fa:FA}{x:Str}
noncomputable def lookG (x y:D):Option (Option D):=match x with
 | .dT ks xs=>(tkey y).map fun k=>look ks xs k
 | .dK ks xs=>(dkey y).map fun k=>look ks xs k
 | _=>none
noncomputable def isDi:D→Bool
 | .dT _ _=>true
 | .dK _ _=>true
 | _=>false
noncomputable def oIxG (x y:D):Option W:=if isDi x=true then (lookG x y).bind fun r=>r.map .v else oIx x y
theorem deqL_ints {m:Nat}:∀(a b:List Int),deqL (deq m) (a.map D.int) (b.map D.int)=some (decide (a=b))
 | [],[]=>rfl
 | [],_ :: _=>rfl
 | _ :: _,[]=>rfl
 | x :: a,y :: b=>by
  have ih:=deqL_ints (m:=m) a b
  have e:deq m (.int x) (.int y)=some (x == y):=by cases m <;> rfl
  simp only [List.map_cons,deqL,e,ih,Option.bind_some,Option.map_some]
  congr 1
  by_cases h:x=y
  ·simp [h]
  ·simp [h]
noncomputable def tupI (k:List Int):D:=.tup (k.map D.int)
theorem deq_tupI {m:Nat}(a b:List Int):deq (m + 1) (tupI a) (tupI b)=some (decide (a=b)):=deqL_ints a b
noncomputable def nb (neg k:Bool):W:=.v (.bl (if neg then !k else k))
noncomputable def fGet (f:FX) (fa:FA):FX:=fun ρ=>(f ρ).bind fun p=>(dr p.2 p.1.fz).bind fun d=>if isDi d=true then (fa p.2).bind fun q=>(takeAll q.2 q.1).bind fun z=>(dr z.2 p.1.fz).bind fun x=>match z.1 with
  | [y,e]=>(lookG x y).map fun r=>(.v (r.getD e),z.2)
  | _=>none
 else none
end
end Z
set_option maxHeartbeats 1000000
namespace Z
open PySem PySem.W PyProof.Rows
section
variable {O:KeyOrd}{f:Nat→O.α}{n:Nat}
structure PB (n:Nat) (p:Array Nat):Prop where
 perm:p.Perm (List.toArray (List.range n))
 pos:0 < n
theorem PB.size {p:Array Nat}(h:PB n p):p.size=n:=by rw [h.perm.size_eq];simp
theorem PB.lt {p:Array Nat}(h:PB n p)(i:Nat):p.getD i 0 < n:=by
 by_cases q:i < p.size
 ·have e:p.getD i 0=p[i]:=by simp [Array.getD,q]
  rw [e]
  have m:p[i]∈p.toList:=by simp
  have:=(Array.perm_iff_toList_perm.mp h.perm).mem_iff.mp m
  simpa using this
 ·have e:p.getD i 0=0:=by simp [Array.getD,q]
  rw [e];exact h.pos
end
noncomputable def DRaw (h:Heap) (d:Addr) (es:Array DictEntry) (ep:Nat):Prop:=∃o,h.get? d=some o∧o.ExactDict∧o.data= .dict es ep
theorem DRaw.typeIs {s:Shared}{d:Addr}{es:Array DictEntry}{ep:Nat}(x:DRaw s.heap d es ep):s.TypeIs (.ref d) "dict":=let ⟨o,e,c,_⟩:=x;⟨o,e,c.1⟩
theorem DRaw.lt {h:Heap}{d:Addr}{es:Array DictEntry}{ep:Nat}(x:DRaw h d es ep):d < h.objs.size:=let ⟨_,e,_⟩:=x;Heap.lt_size e
theorem DRaw.on {h h':Heap}{d:Addr}{es:Array DictEntry}{ep:Nat}(x:DRaw h d es ep)(k:∀o,h.get? d=some o→h'.get? d=some o):DRaw h' d es ep:=let ⟨o,e,r⟩:=x;⟨o,k o e,r⟩
section
variable {prog:Program}{w:World}{A:Around}{E:Value→Shared→Prop}{s:Shared}{it d:Addr}{es:Array DictEntry}{i ep:Nat}
end
inductive Tups (h:Heap):List Value→List (List Int)→Prop where
 | nil:Tups h [] []
 | cons {a:Addr} {its:Array Value} {k:List Int} {vs:List Value} {ks:List (List Int)} (t:IsTup h a its) (i:IntsAre its.toList k) (ne:k≠[]) (r:Tups h vs ks):Tups h (.ref a :: vs) (k :: ks)
theorem Tups.len {h:Heap}{vs:List Value}{ks:List (List Int)}(t:Tups h vs ks):vs.length=ks.length:=by
 induction t with
 | nil=>rfl
 | cons _ _ _ _ ih=>simp [ih]
theorem Tups.on {h h':Heap}{vs:List Value}{ks:List (List Int)}(t:Tups h vs ks)(k:∀a o,(.ref a)∈vs→h.get? a=some o→h'.get? a=some o):Tups h' vs ks:=by
 induction t with
 | nil=>exact .nil
 | cons x i ne r ih=>
  obtain ⟨o,e,c⟩:=x
  exact .cons ⟨o,k _ o List.mem_cons_self e,c⟩ i ne (ih fun a o m e=>k a o (List.mem_cons_of_mem _ m) e)
theorem Tups.at {h:Heap}{vs:List Value}{ks:List (List Int)}(t:Tups h vs ks):∀{i:Nat},i < vs.length→∃a its,vs.getD i .none= .ref a∧IsTup h a its∧IntsAre its.toList (ks.getD i [])∧ks.getD i []≠[]:=by
 induction t with
 | nil=>intro i hi;simp at hi
 | cons x i ne r ih=>
  intro j hj
  cases j with
  | zero=>exact ⟨_,_,rfl,x,i,ne⟩
  | succ j=>exact ih (i:=j) (by simpa using hj)
section
variable {prog:Program}{w:World}{A:Around}{E:Value→Shared→Prop}{s:Shared}{h₀:Heap}{L D:Addr}{m:Str→Option Value}{vs:List Value}{ks:List (List Int)}
end
end Z
set_option maxHeartbeats 1000000
namespace Z
open PySem PySem.Spec PyProof.Rows L2
inductive Al (K:PySem.W.Frag) (H:Hp):List Addr→List (List Int)→Prop where
 | nil:Al K H [] []
 | cons {a:Addr} {k:List Int} {as:List Addr} {ks:List (List Int)} (q:SqT K H a (k.map V.int)) (r:Al K H as ks):Al K H (a :: as) (k :: ks)
section
variable {K:PySem.W.Frag}{H:Hp}
theorem Al.len {as:List Addr}{ks:List (List Int)}(h:Al K H as ks):as.length=ks.length:=by
 induction h with
 | nil=>rfl
 | cons _ _ ih=>simp [ih]
theorem Al.at {as:List Addr}{ks:List (List Int)}(h:Al K H as ks):∀{i:Nat},i < as.length→SqT K H (as.getD i 0) ((ks.getD i []).map V.int):=by
 induction h with
 | nil=>intro i hi;simp at hi
 | cons q r ih=>
  intro i hi
  cases i with
  | zero=>exact q
  | succ i=>exact ih (i:=i) (by simpa using hi)
theorem Al.same {H':Hp}{as:List Addr}{ks:List (List Int)}(h:Al K H as ks)(s:Same H H'):Al K H' as ks:=by
 induction h with
 | nil=>exact .nil
 | cons q r ih=>
  refine .cons ?_ ih
  rcases q with (q | ⟨o,q⟩) | q
  ·exact .inl (.inl (s _ _ q))
  ·exact .inl (.inr ⟨o,s _ _ q⟩)
  ·exact .inr q
theorem Al.den {O:Av}{as:List Addr}{ks:List (List Int)}(h:Al K H as ks):DenL K O H (ks.map tupI) (as.map V.ref):=by
 induction h with
 | nil=>exact denL_nil
 | cons q r ih=>
  refine denL_cons ?_ ih
  unfold tupI
  rw [Den]
  exact ⟨_,_,rfl,q,denL_ints _⟩
end
section
variable {X:Cx}{pins:List (Addr×PySem.Obj)}{σ:L2.St}{H:Hp}{s:Shared}
theorem Al.tups {as:List Addr}{ks:List (List Int)}(I:Inv X pins σ H s)(h:Al X.K H as ks)(ne:∀k∈ks,k≠[]):Tups s.heap (as.map Value.ref) ks:=by
 induction h with
 | nil=>exact .nil
 | cons q r ih=>
  obtain ⟨its,r1,p1,_⟩:=I.tuple q
  exact .cons p1 (intsAre_of r1) (ne _ List.mem_cons_self) (ih fun k hk=>ne k (List.mem_cons_of_mem _ hk))
end
section
variable {X:Cx}{e:Expr}{pos p:Pos}{fa:FA}
end
end Z
set_option maxHeartbeats 1000000
namespace Z
open PySem PySem.Spec PyProof.Rows L2
section
variable {prog:Program}{w:World}{A:Around}{R:Result→Shared→Prop}{s:Shared}
end
section
variable {X:Cx}{pins:List (Addr×PySem.Obj)}{σ:L2.St}{H2:Hp}{s2 s4:Shared}{scope:Scope}{cl:List (Str×Addr)}{N:List Str}{js:List (Option Nat)}{fp:List Addr}{Dd C:Addr}{m:Str→Option Value}
end
section
variable {X:Cx}{pins:List (Addr×PySem.Obj)}{σ:L2.St}{H:Hp}{s:Shared}{a b:Addr}{v:V}{r:Value}{A:Around}{E:Value→Shared→Prop}
end
section
variable {X:Cx}{P:List (D×V)}{O:Av}{L:List (Nat×Addr)}{ρ:Ev}{σ:L2.St}{H2:Hp}{s2:Shared}{scope:Scope}{cl:List (Str×Addr)}{N:List Str}{js:List (Option Nat)}{fp:List Addr}{Dd C:Addr}{li:Option (Nat×Nat)}
end
noncomputable def putTo (k j:Nat) (p:List W×Ev):Option Ev:=(takeAll p.2 p.1).bind fun q=>(dkeys q.1).bind fun kk=>match q.2[j]? with
 | some (some (.v d))=>match ownAt q.2 k with
  | some (.dT ks zs)=>if ks.length < lim∧q.1.length≤lim then some (setOwn q.2 k (.dT (putKs ks kk) (putX ks zs kk d))) else none
  | _=>none
 | _=>none
noncomputable def turnCD (k:Nat) (gf:FG) (t:FT) (fa:FA) (j:Nat):D→Ev→Option Ev:=fun x ρ=>(gf x ρ).bind fun ρ1=>(t ρ1).bind fun p=>if p.1=true then (fa p.2).bind (putTo k j) else some p.2
section
variable {X:Cx}{pins:List (Addr×PySem.Obj)}{σ:L2.St}{H2:Hp}{s2:Shared}{scope:Scope}{cl:List (Str×Addr)}{N:List Str}{js:List (Option Nat)}{fp:List Addr}{it:Addr}{tn:Nat→Heap→Prop}{J:It}
 {vx tg iter:Expr} {es:List Expr} {kt:Nat} {kp0:Pos} {fa:FA} {j:Nat} {ifs:List Expr} {pos:Pos} {P:List (D×V)} {O:Av} {L:List (Nat×Addr)} {ρ ρe:Ev} {xs:List D} {gf:FG} {t:FT} {fe:FX} {Qq:Value→Shared→Prop} {use:Option (Value→Sem Unit)} {li:Option (Nat×Nat)}
end
section
variable {X:Cx}{pins:List (Addr×PySem.Obj)}{σ σe:L2.St}{H2 He:Hp}{s2:Shared}{scope:Scope}{cl:List (Str×Addr)}{N:List Str}{js:List (Option Nat)}{fp:List Addr}{Dd C:Addr}
 {vx tg iter:Expr} {es:List Expr} {kt:Nat} {kp0:Pos} {fa:FA} {j:Nat} {kz:List (List Key)} {ifs:List Expr} {pos:Pos} {P:List (D×V)} {O:Av} {L:List (Nat×Addr)} {ρ ρ2 ρe:Ev} {w:W} {ys:List D} {fi:FI} {gf:FG} {t:FT} {fe:FX} {li:Option (Nat×Nat)}
end
end Z
set_option maxHeartbeats 1000000
namespace Z
open PySem PySem.Spec PyProof.Rows L2
section
variable {X:Cx}{a b c e e' o:Expr}{es rest:List Expr}{pos p p2 p3 apos:Pos}{f g h:FX}{t u:FT}{fa:FA}{x:Str}
noncomputable def oBits:D→Option W
 | .int i=>some (.v (.int (Builtin.Int.intBits i:Nat)))
 | _=>none
noncomputable def fDPutT (fd:FX) (fk:FA) (fv:FX):FS:=fun ρ=>(fv ρ).bind fun p=>(fd p.2).bind fun q=>match q.1 with
 | .r i=>(fk q.2).bind fun z=>(takeAll z.2 (p.1.fz :: z.1)).bind fun y=>match y.1 with
  | d :: ds=>(dkeys ds).bind fun k=>match ownAt y.2 i with
   | some (.dT ks xs)=>if ks.length < lim∧ds.length≤lim then some (.nx (setOwn y.2 i (.dT (putKs ks k) (putX ks xs k d)))) else none
   | _=>none
  | _=>none
 | _=>none
end
end Z
set_option maxHeartbeats 1000000
namespace Z
open PySem PySem.Spec PyProof.Rows L2
noncomputable def kd1:Key→D
 | .inl i=>.int i
 | .inr x=>.str x
noncomputable def keyD (k:List Key):D:=.tup (k.map kd1)
theorem den_kd1 {K:PySem.W.Frag}{A:Av}{H:Hp}(k:Key):Den K A H (kd1 k) (kV k):=by
 cases k with
 | inl i=>exact den_int.mpr rfl
 | inr x=>exact den_str.mpr rfl
theorem denL_kd1 {K:PySem.W.Frag}{A:Av}{H:Hp}:∀ks:List Key,DenL K A H (ks.map kd1) (ks.map kV)
 | []=>denL_nil
 | k :: ks=>by rw [List.map_cons,List.map_cons];exact denL_cons (den_kd1 k) (denL_kd1 ks)
inductive KeysAt (H:Hp):List (List Key)→List Addr→Prop where
 | nil:KeysAt H [] []
 | cons {k:List Key} {ks:List (List Key)} {b:Addr} {bs:List Addr} (q:H b=some (.tup (k.map kV))) (r:KeysAt H ks bs):KeysAt H (k :: ks) (b :: bs)
theorem KeysAt.den {K:PySem.W.Frag}{A:Av}{H:Hp}:∀{ks:List (List Key)} {bs:List Addr},KeysAt H ks bs→DenL K A H (ks.map keyD) (bs.map V.ref)
 | _,_,.nil=>denL_nil
 | _,_,.cons q r=>by
  rw [List.map_cons,List.map_cons]
  refine denL_cons ?_ r.den
  unfold keyD
  rw [Den]
  exact ⟨_,_,rfl,.inl (.inl q),denL_kd1 _⟩
section
variable {X:Cx}{a b c e e' o:Expr}{es rest:List Expr}{pos p p2 p3 apos:Pos}{f g h:FX}{t u:FT}{fa:FA}{x:Str}
noncomputable def gListD:D→Option W
 | .dT ks _=>some (.o (.lst (ks.map keyD)))
 | d=>gList d
noncomputable def mExt (xs ds:List D):Option (W×List D):=match ds with
 | [d]=>(items d).bind fun ys=>if xs.length + ys.length≤lim then some (.v .non,xs ++ ys) else none
 | _=>none
end
end Z
set_option maxHeartbeats 1000000
namespace Z
open PySem PySem.Spec PyProof.Rows L2
section
variable {f g h:FX}{t u:FT}{fa:FA}{F G:FS}{ρ ρ1 ρ2:Ev}{w z:W}{ws:List W}{d e x y:D}{ds xs ys:List D}{i j k:Nat}{m n:Int}{b:Bool}{kl:List (List Key)}{kk:List Key}{kq:List Key}{kx:Key}
theorem g_ix_t:oIxG (.tup xs) d=oIx (.tup xs) d:=rfl
theorem g_ix_l:oIxG (.lst xs) d=oIx (.lst xs) d:=rfl
theorem nb_f {k:Bool}:nb false k= .v (.bl k):=rfl
theorem nb_t {k:Bool}:nb true k= .v (.bl (!k)):=rfl
noncomputable def ge2 (fa:FA):Option (W×Ev)→Option (W×Ev)
 | some p=>fGet (fun _=>some p) fa p.2
 | none=>none
noncomputable def ge3 (fa:FA) (w:W) (ρ:Ev):Option D→Option (W×Ev)
 | some d=>if isDi d=true then (fa ρ).bind fun q=>(takeAll q.2 q.1).bind fun z=>(dr z.2 w.fz).bind fun x=>match z.1 with
  | [y,e]=>(lookG x y).map fun r=>(.v (r.getD e),z.2)
  | _=>none
  else none
 | none=>none
noncomputable def ge4 (w:W):Option (List W×Ev)→Option (W×Ev)
 | some q=>(takeAll q.2 q.1).bind fun z=>(dr z.2 w.fz).bind fun x=>match z.1 with
  | [y,e]=>(lookG x y).map fun r=>(.v (r.getD e),z.2)
  | _=>none
 | none=>none
noncomputable def ge5 (w:W):Option (List D×Ev)→Option (W×Ev)
 | some z=>(dr z.2 w.fz).bind fun x=>match z.1 with
  | [y,e]=>(lookG x y).map fun r=>(.v (r.getD e),z.2)
  | _=>none
 | none=>none
noncomputable def ge6 (y e:D) (ρ:Ev):Option D→Option (W×Ev)
 | some x=>(lookG x y).map fun r=>(.v (r.getD e),ρ)
 | none=>none
theorem r_ge:fGet f fa ρ=ge2 fa (f ρ):=by unfold ge2;cases e:f ρ with
 | none=>unfold fGet;rw [e];rfl
 | some p=>unfold fGet;rw [e]
theorem r_ge2:ge2 fa (some (w,ρ))=ge3 fa w ρ (dr ρ w.fz):=by unfold ge2 ge3 fGet;dsimp only [Option.bind_some];cases dr ρ w.fz <;> rfl
theorem r_ge3_T:ge3 fa w ρ (some (.dT kl xs))=ge4 w (fa ρ):=by unfold ge3 ge4;simp only [isDi,if_true];cases fa ρ <;> rfl
theorem r_ge3_K:ge3 fa w ρ (some (.dK kq xs))=ge4 w (fa ρ):=by unfold ge3 ge4;simp only [isDi,if_true];cases fa ρ <;> rfl
theorem r_ge4:ge4 w (some (ws,ρ))=ge5 w (takeAll ρ ws):=by unfold ge4 ge5;dsimp only;cases takeAll ρ ws <;> rfl
theorem r_ge5:ge5 w (some ([y,e],ρ))=ge6 y e ρ (dr ρ w.fz):=by unfold ge5 ge6;dsimp only;cases dr ρ w.fz <;> rfl
noncomputable def dp2 (fd:FX) (fk:FA):Option (W×Ev)→Option R
 | some p=>fDPutT fd fk (fun _=>some p) p.2
 | none=>none
noncomputable def dp3 (w:W) (fk:FA):Option (W×Ev)→Option R
 | some q=>match q.1 with
  | .r i=>(fk q.2).bind fun z=>(takeAll z.2 (w.fz :: z.1)).bind fun y=>match y.1 with
   | d :: ds=>(dkeys ds).bind fun k=>match ownAt y.2 i with
    | some (.dT ks xs)=>if ks.length < lim∧ds.length≤lim then some (.nx (setOwn y.2 i (.dT (putKs ks k) (putX ks xs k d)))) else none
    | _=>none
   | _=>none
  | _=>none
 | none=>none
noncomputable def dp4 (w:W) (i:Nat):Option (List W×Ev)→Option R
 | some z=>(takeAll z.2 (w.fz :: z.1)).bind fun y=>match y.1 with
   | d :: ds=>(dkeys ds).bind fun k=>match ownAt y.2 i with
    | some (.dT ks xs)=>if ks.length < lim∧ds.length≤lim then some (.nx (setOwn y.2 i (.dT (putKs ks k) (putX ks xs k d)))) else none
    | _=>none
   | _=>none
 | none=>none
noncomputable def dp5 (i:Nat):Option (List D×Ev)→Option R
 | some y=>match y.1 with
   | d :: ds=>(dkeys ds).bind fun k=>match ownAt y.2 i with
    | some (.dT ks xs)=>if ks.length < lim∧ds.length≤lim then some (.nx (setOwn y.2 i (.dT (putKs ks k) (putX ks xs k d)))) else none
    | _=>none
   | _=>none
 | none=>none
noncomputable def dp6 (i:Nat) (d:D) (ds:List D) (ρ:Ev):Option (List Key)→Option D→Option R
 | some k,some (.dT ks xs)=>if ks.length < lim∧ds.length≤lim then some (.nx (setOwn ρ i (.dT (putKs ks k) (putX ks xs k d)))) else none
 | _,_=>none
theorem r_dp:fDPutT f fa g ρ=dp2 f fa (g ρ):=by unfold dp2;cases e:g ρ with
 | none=>unfold fDPutT;rw [e];rfl
 | some p=>unfold fDPutT;rw [e]
theorem r_dp2:dp2 f fa (some (w,ρ))=dp3 w fa (f ρ):=by unfold dp2 dp3 fDPutT;dsimp only [Option.bind_some];cases f ρ <;> rfl
theorem r_dp3:dp3 w fa (some (.r i,ρ))=dp4 w i (fa ρ):=by unfold dp3 dp4;dsimp only;cases fa ρ <;> rfl
theorem r_dp4:dp4 w i (some (ws,ρ))=dp5 i (takeAll ρ (w.fz :: ws)):=by unfold dp4 dp5;dsimp only;cases takeAll ρ (w.fz :: ws) <;> rfl
theorem r_dp5:dp5 i (some (d :: ds,ρ))=dp6 i d ds ρ (dkeys ds) (ownAt ρ i):=by
 unfold dp5 dp6
 dsimp only
 cases dkeys ds with
 | none=>cases ownAt ρ i <;> rfl
 | some k=>
  dsimp only [Option.bind_some]
  cases ownAt ρ i with
  | none=>rfl
  | some x=>cases x <;> rfl
theorem r_dp6:dp6 i d ds ρ (some kk) (some (.dT kl xs))=if kl.length < lim∧ds.length≤lim then some (.nx (setOwn ρ i (.dT (putKs kl kk) (putX kl xs kk d)))) else none:=rfl
theorem dks_0:dkeys []=some []:=rfl
theorem dks_i:dkeys (.int m :: ds)=(dkeys ds).map fun ks=>Sum.inl m :: ks:=by rw [dkeys];rfl
theorem r_dnT:fDNewT ρ=some (.o (.dT [] []),ρ):=rfl
theorem o_bits:oBits (.int n)=some (.v (.int (Builtin.Int.intBits n:Nat))):=by cases n <;> exact rfl
theorem r_ext:mExt xs [d]=(items d).bind fun ys=>if xs.length + ys.length≤lim then some (.v .non,xs ++ ys) else none:=rfl
theorem o_listD_T:gListD (.dT kl xs)=some (.o (.lst (kl.map keyD))):=rfl
theorem o_listD_l:gListD (.lst xs)=some (.o (.lst xs)):=rfl
theorem o_listD_t:gListD (.tup xs)=some (.o (.lst xs)):=rfl
noncomputable def td2 (k j:Nat) (t:FT) (fa:FA):Option Ev→Option Ev
 | some ρ1=>(t ρ1).bind fun p=>if p.1=true then (fa p.2).bind (putTo k j) else some p.2
 | none=>none
noncomputable def td3 (k j:Nat) (fa:FA):Option (Bool×Ev)→Option Ev
 | some p=>if p.1=true then (fa p.2).bind (putTo k j) else some p.2
 | none=>none
noncomputable def td4 (k j:Nat):Option (List W×Ev)→Option Ev
 | some p=>putTo k j p
 | none=>none
noncomputable def pt2 (k j:Nat):Option (List D×Ev)→Option Ev
 | some q=>(dkeys q.1).bind fun kk=>match q.2[j]? with
  | some (some (.v d))=>match ownAt q.2 k with
   | some (.dT ks zs)=>if ks.length < lim∧q.1.length≤lim then some (setOwn q.2 k (.dT (putKs ks kk) (putX ks zs kk d))) else none
   | _=>none
  | _=>none
 | none=>none
noncomputable def pt3 (k:Nat) (n:Nat) (ρ:Ev):Option (List Key)→Option (Option W)→Option D→Option Ev
 | some kk,some (some (.v d)),some (.dT ks zs)=>if ks.length < lim∧n≤lim then some (setOwn ρ k (.dT (putKs ks kk) (putX ks zs kk d))) else none
 | _,_,_=>none
theorem r_td {gf:FG}:turnCD k gf t fa j d ρ=td2 k j t fa (gf d ρ):=by unfold turnCD td2;cases gf d ρ <;> rfl
theorem r_td2:td2 k j t fa (some ρ)=td3 k j fa (t ρ):=by unfold td2 td3;dsimp only;cases t ρ <;> rfl
theorem r_td3:td3 k j fa (some (true,ρ))=td4 k j (fa ρ):=by unfold td3 td4;simp only [if_true];cases fa ρ <;> rfl
theorem r_td4:td4 k j (some (ws,ρ))=pt2 k j (takeAll ρ ws):=by unfold td4 putTo pt2;dsimp only;cases takeAll ρ ws <;> rfl
theorem r_pt2:pt2 k j (some (ds,ρ))=pt3 k ds.length ρ (dkeys ds) ρ[j]? (ownAt ρ k):=by
 unfold pt2 pt3
 dsimp only
 cases dkeys ds with
 | none=>rfl
 | some kk=>
  dsimp only [Option.bind_some]
  cases ρ[j]? with
  | none=>rfl
  | some o=>
   cases o with
   | none=>rfl
   | some w=>
    cases w with
    | v d=>
     cases ownAt ρ k with
     | none=>rfl
     | some x=>cases x <;> rfl
    | _=>rfl
theorem r_pt3 {n:Nat}:pt3 k n ρ (some kk) (some (some (.v d))) (some (.dT kl xs))=if kl.length < lim∧n≤lim then some (setOwn ρ k (.dT (putKs kl kk) (putX kl xs kk d))) else none:=rfl
end
end Z
set_option maxHeartbeats 1000000
namespace Z
open PySem PySem.Spec PyProof.Rows L2
noncomputable abbrev Tie:=Int×Int×Int
noncomputable def tieD (t:Tie):D:=.tup [.int t.1,.int t.2.1,.int t.2.2]
noncomputable def webD (n:Int) (ts:List Tie):D:=.tup [.int n,.tup (ts.map tieD)]
structure WebOk (n:Int) (ts:List Tie):Prop where
 n1:1≤n∧n≤8
 t:∀t∈ts,0≤t.1∧t.1 < t.2.1∧t.2.1 < n∧1≤t.2.2∧t.2.2≤10 ^ 12
 nd:(ts.map fun t=>(t.1,t.2.1)).Nodup
 len:ts.length≤55
theorem lf_tie (t:Tie):lf (tieD t)=true:=rfl
theorem lf_ties (ts:List Tie):lfL (ts.map tieD)=true:=lfL_all fun x hx=>by
 obtain ⟨t,_,rfl⟩:=List.mem_map.mp hx;rfl
theorem lf_web (n:Int)(ts:List Tie):lf (webD n ts)=true:=by
 unfold webD
 simp only [lf,lfL,lf_ties,Bool.and_self]
theorem deqL_same {m:Nat}:∀ks:List (List Int),deqL (deq (m + 1)) (ks.map tupI) (ks.map tupI)=some true
 | []=>rfl
 | k :: ks=>by
  rw [List.map_cons,deqL,deq_tupI,deqL_same ks];simp
theorem lf_rat (q:Rat):lf (ratD q)=true:=rfl
theorem den_prod (p q:Rat):0 < (p.den:Int) * q.den:=Int.mul_pos (by have:=p.den_pos;(first|lia|omega)) (by have:=q.den_pos;(first|lia|omega))
theorem sz_mul {p q:Rat}{m n:Nat}(hp:Sz m p)(hq:Sz n q)(h:m + n≤8000):mOk p.num q.den∧mOk q.num p.den∧mOk p.den q.den∧(0 < (p.den:Int) * q.den)∧((p.den:Int) * q.den).natAbs < big:=by
 have a1:=hp.1;have a2:=hp.2;have b1:=hq.1;have b2:=hq.2
 exact ⟨mOk_pow a1 (by simpa using b2) (by (first|lia|omega)) (by (first|lia|omega)),mOk_pow b1 (by simpa using a2) (by (first|lia|omega)) (by (first|lia|omega)),mOk_pow (m:=m) (n:=n) (by simpa using a2) (by simpa using b2) (by (first|lia|omega)) (by (first|lia|omega)),den_prod p q,pow_big (m:=m) (n:=n) (by simpa using a2) (by simpa using b2) h⟩
theorem gcd_abs (t b:Int):Int.gcd (if t < 0 then -t else t) b=Int.gcd t b:=by
 unfold Int.gcd
 congr 1
 split <;> (first|lia|omega)
theorem dOk_gcd {t b:Int}(hb:0 < b)(hs:b.natAbs < big):dOk ((Int.gcd t b:Nat):Int):=by
 have h1:0 < Int.gcd t b:=Int.gcd_pos_iff.mpr (.inr (by (first|lia|omega)))
 have h2:Int.gcd t b≤b.natAbs:=Int.gcd_le_natAbs_right t (by (first|lia|omega))
 exact ⟨by (first|lia|omega),by (first|lia|omega)⟩
theorem loop_at {C:Prop}{b:D→FS}{xs:List D}{ρ:Ev}{r:Option R}(e:loopF b xs ρ=r)(I:Nat→Ev→Prop)(h0:I 0 ρ)(st:∀i x ρ,xs[i]? =some x→I i ρ→∃ρ',b x ρ=some (.nx ρ')∧I (i + 1) ρ')(c:∀ρ',r=some (.nx ρ')→I xs.length ρ'→C):C:=by
 have key:∀(ys:List D) (k:Nat) (ρ:Ev),xs.drop k=ys→I k ρ→k≤xs.length→∃ρ',loopF b ys ρ=some (.nx ρ')∧I xs.length ρ':=by
  intro ys
  induction ys with
  | nil=>
   intro k ρ hk h hl
   have:k=xs.length:=by
    have:=List.drop_eq_nil_iff.mp hk;(first|lia|omega)
   exact ⟨ρ,rfl,this▸h⟩
  | cons y ys ih=>
   intro k ρ hk h hl
   have hx:xs[k]? =some y:=by
    have:=congrArg (·[0]?) hk
    simpa using this
   have lt:=(List.getElem?_eq_some_iff.mp hx).1
   obtain ⟨ρ1,e1,i1⟩:=st k y ρ hx h
   obtain ⟨ρ2,e2,i2⟩:=ih (k + 1) ρ1 (by rw [←List.drop_drop,hk];rfl) i1 lt
   exact ⟨ρ2,by rw [loopF,e1];exact e2,i2⟩
 obtain ⟨ρ',e',i⟩:=key xs 0 ρ (by simp) h0 (Nat.zero_le _)
 exact c ρ' (e.symm.trans e') i
noncomputable def Sm (n:Int):Prop:=0 < n∧n.natAbs < 2 ^ 390
theorem Sm.pos {n:Int}(h:Sm n):0 < n:=h.1
noncomputable def Pot (b:Nat) (d:D):Prop:=∃r c s:Int,d= .lst [.int r,.int c,.int s]∧0≤c∧c≤b∧0≤s∧s < 2147483647
theorem Pot.mono {b b':Nat}{d:D}(h:Pot b d)(hb:b≤b'):Pot b' d:=by
 obtain ⟨r,c,s,e,h1,h2,h3⟩:=h
 exact ⟨r,c,s,e,h1,by (first|lia|omega),h3⟩
theorem Pot.lf {b:Nat}{d:D}(h:Pot b d):lfC d=true:=by obtain ⟨r,c,s,rfl,_⟩:=h;rfl
end Z
set_option maxHeartbeats 1000000
namespace Z
open PySem PySem.Spec PyProof.Rows L2
section
variable {prog:Program}{w:World}{A:Around}{R:Result→Shared→Prop}{s:Shared}{elt t1 i1 t2 i2:Expr}{scope:Scope}{pos:Pos}{it acc:Value}{env:Env}
end
section
variable {X:Cx}{pins:List (Addr×PySem.Obj)}{σ:L2.St}{H2:Hp}{s2:Shared}{scope:Scope}{cl:List (Str×Addr)}{N:List Str}{js:List (Option Nat)}{fp:List Addr}{it:Addr}{tn:Nat→Heap→Prop}{J:It}
 {elt tg iter t2 i2:Expr} {pos:Pos} {P:List (D×V)} {O:Av} {L:List (Nat×Addr)} {ρ ρe:Ev} {xs:List D} {gf gf2:FG} {fi fi2:FI} {fe:FX} {Qq:Value→Shared→Prop} {use:Option (Value→Sem Unit)}
end
section
variable {ρ:Ev}{i:Nat}{d:D}{xs:List D}
noncomputable def fn2 (ρ:Ev):Option (Option W)→Option (List D×Ev)
 | some (some (.v d))=>(items d).map fun xs=>(xs,ρ)
 | some (some (.r _))=>none
 | some (some w)=>match w.own with
  | some (.lst xs)=>some (xs,ρ)
  | _=>none
 | _=>none
noncomputable def fn3 (ρ:Ev):Option (List D)→Option (List D×Ev)
 | some xs=>some (xs,ρ)
 | none=>none
theorem dO:fiName i ρ=fn2 ρ ρ[i]?:=by
 unfold fiName fn2
 cases ρ[i]? with
 | none=>rfl
 | some o=>cases o with
  | none=>rfl
  | some w=>cases w <;> rfl
theorem dQ:fn2 ρ (some (some (.v d)))=fn3 ρ (items d):=by
 show (items d).map _=_
 unfold fn3;cases items d <;> rfl
theorem r_fn_o:fn2 ρ (some (some (.o (.lst xs))))=some (xs,ρ):=rfl
theorem r_fn_l:fn2 ρ (some (some (.l (.lst xs))))=some (xs,ρ):=rfl
theorem dP:fn3 ρ (some xs)=some (xs,ρ):=rfl
end
end Z
set_option maxHeartbeats 1000000
namespace Z
open PySem PySem.Spec PyProof.Rows L2
mutual
noncomputable def toP:D→PyData
 | .non=>.none
 | .bl b=>.bool b
 | .int i=>.int i
 | .str x=>.str x
 | .tup xs=>.tuple (toPs xs)
 | .lst xs=>.list (toPs xs)
 | _=>.none
noncomputable def toPs:List D→List PyData
 | []=>[]
 | x :: xs=>toP x :: toPs xs
end
section
variable {X:Cx}{pins:List (Addr×PySem.Obj)}{σ:L2.St}{H:Hp}{s:Shared}{A:Av}
open Classical in
end
section
variable {X:Cx}{a:Expr}{f:FX}{pos:Pos}
theorem pe_notT {ta:TE}(ha:PE X a ta):PE X (.UnaryOp .Not a pos) (fun σ H Q=>ta σ H fun x H'=>∃k,TruV X.K x H' k∧Q (.bl (!k)) H'):=by
 intro pins s σ H Q I h
 refine UnaryOp_ (thn (ha pins s σ H _ I h) fun v s1 ⟨x,H1,I1,r1,q1⟩=>?_)
 obtain ⟨k,q1,q2⟩:=q1
 exact not_of (wpAny_mono (tru_ok pins s1 σ H1 x v (fun k' H'=>Q (.bl (!k')) H') I1 r1 ⟨k,q1,q2⟩) (fun b s2 ⟨H2,I2,q3⟩=>⟨.bl (!b),H2,I2,rfl,q3⟩) (fun _ _ z=>z))
noncomputable def fNotT (f:FX):FX:=fun ρ=>(fTru f ρ).map fun p=>(.v (.bl (!p.1)),p.2)
theorem qx_notT (ha:QX X a f):QX X (.UnaryOp .Not a pos) (fNotT f):=⟨PE.weak (pe_notT ha.to) fun σ H Q h0=>tXe h0 fun P O L ρ w0 ρ' r e q=>by
 unfold fNotT fTru at e
 cases e1:f ρ with
 | none=>rw [e1] at e;cases e
 | some p=>
  obtain ⟨w,ρ1⟩:=p
  rw [e1] at e
  simp only [Option.bind_some] at e
  cases e2:dr ρ1 w.fz with
  | none=>rw [e2] at e;cases e
  | some d=>
   rw [e2] at e
   simp only [Option.bind_some] at e
   cases e3:truth d with
   | none=>rw [e3] at e;cases e
   | some k'=>
    rw [e3] at e;cases e
    exact ⟨P,O,L,ρ,w,_,r,e1,fun v H1 H' r1 s1 d1=>⟨k',tru_den e3 (dr_den (r1.grow s1) e2 (d1.fz r1 s1)),q _ H' H' (r1.grow s1) (Same.refl _) denW_bl⟩⟩⟩
end
section
variable {f:FX}{ρ:Ev}{k:Bool}
noncomputable def nt2:Option (Bool×Ev)→Option (W×Ev)
 | some p=>some (.v (.bl (!p.1)),p.2)
 | none=>none
theorem fJ:fNotT f ρ=nt2 (tru2 (f ρ)):=by unfold fNotT;rw [hJ];unfold nt2;cases tru2 (f ρ) <;> rfl
theorem fK:nt2 (some (k,ρ))=some (.v (.bl (!k)),ρ):=rfl
end
end Z
set_option maxHeartbeats 1000000
namespace Z
open PySem PySem.Spec PyProof.Rows L2
noncomputable def key2 (t:Tie):List Int:=[t.1,t.2.1]
theorem WebOk.perm {n:Int}{ts us:List Tie}(h:WebOk n us)(p:ts.Perm us):WebOk n ts where
 n1:=h.n1
 t:=fun t ht=>h.t t (p.mem_iff.mp ht)
 nd:=(p.map _).nodup_iff.mpr h.nd
 len:=by rw [p.length_eq];exact h.len
structure Bq (m:Nat) (q:Rat):Prop where
 nn:0≤q
 le:q≤((10 ^ 12:Int):Rat)
 dn:q.den < 2 ^ m
theorem Bq.sz {m:Nat}{q:Rat}(h:Bq m q):Sz (m + 41) q:=by
 refine ⟨?_,Nat.lt_of_lt_of_le h.dn (Nat.pow_le_pow_right (by decide) (by (first|lia|omega)))⟩
 have h1:=Rat.num_nonneg.mpr h.nn
 have h2:=(Rat.le_iff _ _).mp h.le
 rw [Rat.num_intCast,Rat.den_intCast] at h2
 have h3:q.num≤10 ^ 12 * (q.den:Int):=by
  have:q.num * ((1:Nat):Int)=q.num:=by (first|lia|omega)
  rw [this] at h2;exact h2
 have h4:(q.num.natAbs:Int)≤10 ^ 12 * (q.den:Int):=by (first|lia|omega)
 have h5:q.num.natAbs≤10 ^ 12 * q.den:=by exact_mod_cast h4
 have h6:10 ^ 12 * q.den < 2 ^ 41 * 2 ^ m:=Nat.mul_lt_mul'' (by decide) h.dn
 rw [←Nat.pow_add,Nat.add_comm] at h6
 (first|lia|omega)
theorem Bq.mono {m n:Nat}{q:Rat}(h:Bq m q)(hm:m≤n):Bq n q:=⟨h.nn,h.le,Nat.lt_of_lt_of_le h.dn (Nat.pow_le_pow_right (by decide) hm)⟩
end Z
set_option maxHeartbeats 1000000
namespace Z
open PySem PySem.Spec PyProof.Rows L2
noncomputable def up (m:Nat):List Int:=(List.range m).map fun (i:Nat)=>0 + (i:Int)
theorem mem_up {m:Nat}{x:Int}:x∈up m↔0≤x∧x < m:=by
 unfold up
 rw [List.mem_map]
 constructor
 ·rintro ⟨i,hi,rfl⟩;rw [List.mem_range] at hi;(first|lia|omega)
 ·intro h;exact ⟨x.toNat,List.mem_range.mpr (by (first|lia|omega)),by (first|lia|omega)⟩
theorem up_len (m:Nat):(up m).length=m:=by unfold up;simp
theorem up_sorted (m:Nat):(up m).Pairwise (· < ·):=by
 unfold up
 rw [List.pairwise_map]
 exact List.pairwise_lt_range.imp fun h=>by (first|lia|omega)
structure FwI (n:Int) (ls:List Int) (hd:List Rat) (ts:List Tie) (ps:List (List Int)):Prop where
 srt:ls.Pairwise (· < ·)
 rng:∀x∈ls,0≤x∧x < n
 len:hd.length=n.toNat
 bq:∀s∈hd,0≤s∧s≤((200000000001:Int):Rat)∧s.den≤12
 z0:∀x∈ls,hd.getD x.toNat 0=0
 tt:∀t∈ts,(0≤t.1∧t.1 < t.2.1∧t.2.1 < n∧1≤t.2.2∧t.2.2≤10 ^ 12)∧t.1∉ls∧t.2.1∉ls∧hd.getD t.1.toNat 0 + hd.getD t.2.1.toNat 0=((t.2.2:Int):Rat)
 nd:(ts.map key2).Nodup
 cnt:2 * ts.length + ls.length≤n.toNat
 pp:∀p∈ps,(∃x,p=[x]∧0≤x∧x < n∧x∉ls∧hd.getD x.toNat 0=0)∨∃t∈ts,p=key2 t
 prm:(ps.flatten ++ ls).Perm (up n.toNat)
 pl:ps.length + ls.length≤n.toNat
theorem FwI.start {n:Int}(hn:1≤n):FwI n (up n.toNat) (List.replicate n.toNat 0) [] [] where
 srt:=up_sorted _
 rng:=fun x hx=>by have:=mem_up.mp hx;(first|lia|omega)
 len:=by simp
 bq:=fun s hs=>by rw [(List.mem_replicate.mp hs).2];exact ⟨Rat.le_refl,by decide,by decide⟩
 z0:=fun x hx=>by
  rw [List.getD_eq_getElem?_getD,List.getElem?_replicate]
  split <;> rfl
 tt:=fun t h=>nomatch h
 nd:=List.nodup_nil
 cnt:=by rw [up_len];simp
 pp:=fun t h=>nomatch h
 prm:=List.Perm.refl _
 pl:=by rw [up_len];simp
theorem FwI.one {n a:Int}{ls:List Int}{hd:List Rat}{ts:List Tie}{ps:List (List Int)}(h:FwI n (a :: ls) hd ts ps):FwI n ls hd ts (ps ++ [[a]]) where
 srt:=(List.pairwise_cons.mp h.srt).2
 rng:=fun x hx=>h.rng x (List.mem_cons_of_mem _ hx)
 len:=h.len
 bq:=h.bq
 z0:=fun x hx=>h.z0 x (List.mem_cons_of_mem _ hx)
 tt:=fun t ht=>by
  obtain ⟨h1,h2,h3,h4⟩:=h.tt t ht
  exact ⟨h1,fun z=>h2 (List.mem_cons_of_mem _ z),fun z=>h3 (List.mem_cons_of_mem _ z),h4⟩
 nd:=h.nd
 cnt:=by have:=h.cnt;rw [List.length_cons] at this;(first|lia|omega)
 pp:=fun p hp=>by
  rcases List.mem_append.mp hp with hp | hp
  ·rcases h.pp p hp with ⟨x,e,h1,h2,h3,h4⟩ | z
   ·exact .inl ⟨x,e,h1,h2,fun z=>h3 (List.mem_cons_of_mem _ z),h4⟩
   ·exact .inr z
  ·rw [List.mem_singleton.mp hp]
   have:=h.rng a List.mem_cons_self
   exact .inl ⟨a,rfl,this.1,this.2,fun z=>by have:=(List.pairwise_cons.mp h.srt).1 a z;(first|lia|omega),h.z0 a List.mem_cons_self⟩
 prm:=by
  have:=h.prm
  rw [List.flatten_append]
  simpa using this
 pl:=by have:=h.pl;rw [List.length_append,List.length_singleton];rw [List.length_cons] at this;(first|lia|omega)
end Z
set_option maxHeartbeats 1000000
namespace Z
open PySem PySem.Spec PyProof.Rows L2
section
variable {X:Cx}
end
end Z
set_option maxHeartbeats 1000000
namespace Z
open PySem PySem.Spec PyProof.Rows L2
theorem objOk_ex {P:Program}{w:World}{H:Hp}{h:Heap}{a:Addr}{o:HO}(x:ObjOk P w H h a o):∃ob,h.get? a=some ob:=by
 cases o with
 | lst xs=>obtain ⟨_,_,_,_,e⟩:=x;exact ⟨_,e⟩
 | tup xs=>obtain ⟨_,_,_,_,e,_⟩:=x;exact ⟨_,e⟩
 | dK kvs=>obtain ⟨_,_,_,_,o,_,_,e,_⟩:=x;exact ⟨_,e⟩
 | dT kvs=>obtain ⟨_,_,_,_,o,_,_,e,_⟩:=x;exact ⟨_,e⟩
 | set S n=>obtain ⟨o,_,_,_,e,_⟩:=x;exact ⟨_,e⟩
 | ins C dx fs=>obtain ⟨_,_,_,e,_⟩:=x;exact ⟨_,e⟩
 | own y=>obtain ⟨_,e⟩:=x;exact ⟨_,e⟩
 | xd fs=>obtain ⟨_,⟨_,_,_,e,_⟩,_⟩:=x;exact ⟨_,e⟩
 | rng lo hi=>obtain ⟨_,_,_,e⟩:=x;exact ⟨_,e⟩
 | frz ob u=>obtain ⟨e,_⟩:=x;exact ⟨_,e⟩
 | tbl ps=>exact ⟨_,(show h.get? a=some _ from x)⟩
 | met f y=>exact ⟨_,(show h.get? a=some _ from x)⟩
 | ext φ=>obtain ⟨_,e,_⟩:=x;exact e
structure Fly (P:Program) (w:World) (l:List Env) (H:Hp) (s:Shared) (C x:Addr) (H':Hp) (s':Shared):Prop where
 os:s'.os=s.os
 bare:AllBare s'.gens
 un:Un (frs l) [] H H' s.heap s'.heap
 hok:HOk P w H' s'.heap
 fly:∃B a0,Heap.FlyingW B l x (.ref C) a0 s'.heap∧∀b o,s'.heap.get? b=some o→b∉frs l→((∃o0,s.heap.get? b=some o0)∨H' b≠none)→B.get? b=some o
noncomputable def CXE (P:Program) (w:World):CXT:=fun l H s E e s'=>∃C x H',e= .ref x∧Fly P w l H s C x H' s'∧E e (some C) H'
section
variable {X:Cx}{pins:List (Addr×PySem.Obj)}{σ:L2.St}{H H':Hp}{s s':Shared}{h'' B:Heap}{x C:Addr}{a0:Value}
theorem fly_of (I:Inv X pins σ H' s')(hex:X.ex=[])(hsm:s'.heap.UpToSlots h'')(hfl:Heap.FlyingW B X.outer x (.ref C) a0 h'')
  (hB:∀b o,s'.heap.get? b=some o→b∉frs X.stack→((∃o0,X.s₀.heap.get? b=some o0)∨H' b≠none)→B.get? b=some o):
  Fly X.prog X.w X.outer X.H₀ X.s₀ C x H' {s' with heap:=h''}:=by
 have nex:∀b,b∉X.ex:=fun b z=>by rw [hex] at z;cases z
 have inB:∀b o,s'.heap.get? b=some o→b∉frs X.stack→((∃o0,X.s₀.heap.get? b=some o0)∨H' b≠none)→h''.get? b=some o:=fun b o e hb hc=>hfl.1 b o (hB b o e hb hc)
 have nl:∀b o,X.s₀.heap.get? b=some o→b≠X.env.locals:=fun b o e=>Nat.ne_of_lt (Nat.lt_of_lt_of_le (Heap.lt_size e) I.ok.above)
 have ns:∀b,b≠X.env.locals→b∉frs X.outer→b∉frs X.stack:=fun b n hb z=>(List.mem_cons.mp (I.stkSub b z)).elim n hb
 have sl:∀b o,s'.heap.get? b=some o→b∈frs X.outer→∃t,h''.get? b=some {o with slots:=t}:=fun b o e hb=>by
  obtain ⟨o',e',nf⟩:=(I.funs.mem hb).2
  rw [e] at e';cases e'
  exact hsm b o e nf
 refine ⟨I.os,I.bare,⟨fun b o e n hb _=>inB b o (I.base.keep b o e n hb (nex b)) (ns b (nl b o e) hb) (.inl ⟨o,e⟩),fun b o e n hb _=>?_,fun b o e n _=>I.base.free b o e n (nex b),fun b o e _=>?_,I.base.tups,I.base.frzs,I.base.tbls⟩,fun b u q=>?_,B,a0,hfl,fun b o e hb hc=>?_⟩
 ·obtain ⟨t,e1⟩:=I.base.slot b o e n hb (nex b)
  obtain ⟨t',e2⟩:=sl b _ e1 hb
  exact ⟨t',e2⟩
 ·obtain ⟨o',e1⟩:=I.base.there b o e (nex b)
  by_cases hb:b∈frs X.outer
  ·obtain ⟨t',e2⟩:=sl b _ e1 hb
   exact ⟨_,e2⟩
  ·exact ⟨o',inB b o' e1 (ns b (nl b o e) hb) (.inl ⟨o,e⟩)⟩
 ·refine (I.hok b u q).stay (fun c v hc e=>?_) (fun _ q=>q) fun _ _ q=>q
  have tr:H' c≠none:=by
   rcases hc with z | z
   ·rw [z,q];exact fun z=>nomatch z
   ·rw [z];exact fun z=>nomatch z
  exact inB c v e (fun z=>tr (I.stkFree c z)) (.inr tr)
 ·have nlb:b≠X.env.locals:=by
   rcases hc with ⟨o0,e0⟩ | z
   ·exact nl b o0 e0
   ·exact fun y=>z (by rw [y];exact I.free)
  have hb':=ns b nlb hb
  obtain ⟨o',e1⟩:∃o',s'.heap.get? b=some o':=by
   rcases hc with ⟨o0,e0⟩ | z
   ·exact I.base.there b o0 e0 (nex b)
   ·cases q:H' b with
    | none=>exact absurd q z
    | some u=>exact objOk_ex (I.hok b u q)
  have e2:=hB b o' e1 hb' hc
  have e3:=hfl.1 b o' e2
  rw [show ({s' with heap:=h''}:Shared).heap=h'' from rfl] at e
  rw [e3] at e;cases e
  exact e2
theorem Fly.inv (I:Inv X pins σ H s)(F:Fly X.prog X.w X.stack H s C x H' s'):Inv X pins σ H' s':=by
 obtain ⟨hh,g,d,t,os'⟩:=s'
 obtain rfl:os'=s.os:=F.os
 exact I.call (h':=hh) (g':=g) (d':=d) (t':=t) (ch:=[]) F.un F.hok F.bare (fun b z=>absurd z (by simp))
noncomputable def Thr (X:Cx) (C:Addr) (v:Value) (s':Shared):Prop:=∃pins σ x H1 s1,v= .ref x∧Inv X pins σ H1 s1∧Same X.H₀ H1∧
 ((∃h' args,Heap.MadeExcOf s1.heap h' x (.ref C) args∧s'={s1 with heap:=h'})∨∃H',Same H1 H'∧Fly X.prog X.w X.stack H1 s1 C x H' s')
theorem thr_leave {M:Model}{E:Value→Shared→Prop}{Q:Unit→Shared→Prop}{v:Value}(T:Thr X C v s')(hst:X.stack=X.env :: X.outer)(hf:X.env.frame=some X.env.locals)(hex:X.ex=[])
  (hQ:∀x H' s'',v= .ref x→Same X.H₀ H'→Fly X.prog X.w X.outer X.H₀ X.s₀ C x H' s''→Q () s''):wpAny M X.A (leaving X.env v) Q E s':=by
 obtain ⟨pins,σ,x,H1,s1,rfl,I,sm,h⟩:=T
 have fr:X.A.frames=some (X.env :: X.outer):=by rw [I.ok.frames,hst]
 rcases h with ⟨h',args,hx,rfl⟩ | ⟨H',sm',F⟩
 ·refine wpAny_leaves_madeW (base:=PySem.W.hideAll s1.heap (frs X.stack)) (h:=s1.heap) fr hf (fun b o q=>PySem.W.of_hideAll _ q) ?_ hx fun h'' t x1 x2 x3 x4=>?_
  ·rw [←hst]
   exact PySem.W.funFrames_hide I.stack fun env he a ha=>List.mem_filterMap.mpr ⟨env,he,ha⟩
  ·have F:=fly_of (X:=X) (h'':=h'') (s':=s1) I hex ((Heap.UpToSlots.of_keeps hx.keeps).trans x4) x1 (fun b o e hb _=>PySem.W.hideAll_get _ e hb)
   exact hQ x H1 _ rfl sm F
 ·obtain ⟨B,a0,hfl,hB⟩:=F.fly
  have I':=F.inv I
  refine wpAny_leaves_onW fr hf (by rw [←hst];exact hfl) fun h'' hfl'' hsm=>?_
  have G:=fly_of (X:=X) (h'':=h'') (s':=s') I' hex hsm hfl'' (fun b o e hb hc=>hB b o e hb (hc.imp (fun ⟨o0,e0⟩=>I.base.there b o0 e0 (fun z=>by rw [hex] at z;cases z)) id))
  exact hQ x H' _ rfl (sm.trans sm') G
end
end Z
set_option maxHeartbeats 1000000
namespace Z
open PySem PySem.Spec PyProof.Rows L2
abbrev bmV:List Value:=[.type "ValueError",.type "Exception",.type "BaseException",.type "object"]
abbrev nwV:String:="ValueError.__new__"
theorem exc_obj {K:PySem.W.Frag}{h:Heap}{C:Addr}{bmB:List Value}{newId:String}(X:K.In h)(q:PySem.W.excIn K C bmB newId=true):
  ∃bm N nm qn bs hd sn sub ab col dd k0 k1 k2 k3 k5 mN,h.get? C=some (excClassObj nm qn C N bs bm hd sn sub ab col dd k0 k1 k2 k3 k5 newId)∧h.Ns N mN∧mN "__init__"=none∧OwnTail h bmB bm:=by
 unfold PySem.W.excIn at q
 split at q
 ·rename_i dd cd sl ho
  split at q
  ·rename_i C' bm k0 k1 k2 k3 n k5 hm hs
   simp only [Bool.and_eq_true,beq_iff_eq,Bool.not_eq_true'] at q
   obtain ⟨⟨⟨⟨⟨rfl,rfl⟩,hdel⟩,ht⟩,hok⟩,hni⟩:=q
   obtain ⟨nm,bs,mro,ns,qn,hd,sn,sub,ab,col,del⟩:=cd
   dsimp only at hm hdel hok hni
   subst hm hdel
   have hsl:sl= #[k0,k1,k2,k3,some (.builtin n),k5]:=by
    obtain ⟨l⟩:=sl
    simp only at hs
    rw [hs]
   subst hsl
   exact ⟨bm,ns,nm,qn,bs,hd,sn,sub,ab,col,dd,k0,k1,k2,k3,k5,_,X _ _ ho,.of_isNs (PySem.W.isNs_of_in X hok),PySem.W.nsMap_none_of_in X hok hni,PySem.W.tail_of_in X ht⟩
  ·cases q
 ·cases q
noncomputable abbrev inx (X:Cx) (v:Value):Cx:={X with A:=X.A.mark (some v),calm:=false,xe:=fun _ _=>False}
section
variable {X:Cx}{pins:List (Addr×PySem.Obj)}{σ:L2.St}{H H1 H':Hp}{s s1 s':Shared}{h5 B:Heap}{x C:Addr}{a0 v:Value}{P:List (D×V)}{ρ:Ev}
theorem ok_inx (ok:X.Ok):(inx X v).Ok:=
 ⟨ok.mod,ok.kind,ok.glob,ok.blt,ok.above,ok.inj,ok.has,ok.cab,(fun z=>nomatch z),ok.frames,ok.stk,ok.exf,ok.bs,ok.bsz,ok.noex,ok.exfs,ok.funs,ok.frf⟩
theorem inv_inx (I:Inv X pins σ H s):Inv (inx X v) pins σ H s:=⟨ok_inx I.ok,I.os,I.bare,I.base,I.loc,I.cell,I.free,I.freeC,I.pin,I.hok,I.len⟩
theorem inv_un (ok:X.Ok)(I:Inv (inx X v) pins σ H s):Inv X pins σ H s:=⟨ok,I.os,I.bare,I.base,I.loc,I.cell,I.free,I.freeC,I.pin,I.hok,I.len⟩
theorem inv_land (I1:Inv X pins σ H1 s1)(I:Inv X pins σ H' s')(hst:X.stack=X.env :: X.outer)(hf:X.env.frame=some X.env.locals)(hex:X.ex=[])
  (hB:∀b o,s'.heap.get? b=some o→b∉frs X.stack→((∃o0,s1.heap.get? b=some o0)∨H' b≠none)→B.get? b=some o) (st:B.StaysIn h5) (sm:s'.heap.UpToSlots h5):Inv X pins σ H' {s' with heap:=h5}:=by
 have nex:∀b,b∉X.ex:=fun b z=>by rw [hex] at z;cases z
 have inB:∀b o,s'.heap.get? b=some o→b∉frs X.stack→((∃o0,s1.heap.get? b=some o0)∨H' b≠none)→h5.get? b=some o:=fun b o e hb hc=>st b o (hB b o e hb hc)
 have nl:∀b o,X.s₀.heap.get? b=some o→b≠X.env.locals:=fun b o e=>Nat.ne_of_lt (Nat.lt_of_lt_of_le (Heap.lt_size e) I.ok.above)
 have ns:∀b,b≠X.env.locals→b∉frs X.outer→b∉frs X.stack:=fun b n hb z=>(List.mem_cons.mp (I.stkSub b z)).elim n hb
 have sub:∀b,b∈frs X.outer→b∈frs X.stack:=fun b hb=>by rw [hst];unfold frs at hb ⊢;rw [List.filterMap_cons,hf];exact List.mem_cons_of_mem _ hb
 have sl:∀b o,s'.heap.get? b=some o→b∈frs X.stack→∃t,h5.get? b=some {o with slots:=t}:=fun b o e hb=>by
  obtain ⟨o',e',nf⟩:=(I.stack.mem hb).2
  rw [e] at e';cases e'
  exact sm b o e nf
 have cellK:∀c v,s'.heap.IsCell c v→h5.IsCell c v:=fun c v ⟨o,ho,hd⟩=>by
  obtain ⟨t,e⟩:=sm c o ho (fun vs z=>by rw [hd] at z;cases z)
  exact ⟨_,e,hd⟩
 refine ⟨I.ok,I.os,I.bare,⟨fun b o e n hb hx=>inB b o (I.base.keep b o e n hb hx) (ns b (nl b o e) hb) (.inl (I1.base.there b o e hx)),fun b o e n hb hx=>?_,I.base.free,fun b o e hx=>?_,I.base.tups,I.base.frzs,I.base.tbls⟩,?_,fun y c e=>?_,I.free,I.freeC,fun p hp=>?_,fun b u q=>?_,I.len⟩
 ·obtain ⟨t,e1⟩:=I.base.slot b o e n hb hx
  obtain ⟨t',e2⟩:=sl b _ e1 (sub b hb)
  exact ⟨t',e2⟩
 ·obtain ⟨o',e1⟩:=I.base.there b o e hx
  by_cases hb:b∈frs X.stack
  ·obtain ⟨t',e2⟩:=sl b _ e1 hb
   exact ⟨_,e2⟩
  ·exact ⟨o',inB b o' e1 hb (.inl (I1.base.there b o e hx))⟩
 ·obtain ⟨m,hn,hl⟩:=I.loc
  refine ⟨m,sm.ns hn,fun i y v e1 e2 e3=>?_⟩
  obtain ⟨u,r,l⟩:=hl i y v e1 e2 e3
  refine ⟨u,r,?_⟩
  rcases l with l | ⟨k,c,e,z⟩
  ·exact .inl l
  ·exact .inr ⟨k,c,e,cellK c _ z⟩
 ·obtain ⟨v,z⟩:=I.cell y c e
  exact ⟨v,cellK c v z⟩
 ·obtain ⟨e,n,ne,nf,d⟩:=I.pin p hp
  exact ⟨inB p.1 p.2 e (ns p.1 ne nf) (.inl ⟨_,(I1.pin p hp).1⟩),n,ne,nf,d⟩
 ·refine (I.hok b u q).stay (fun c v hc e=>?_) (fun _ q=>q) fun _ _ q=>q
  have tr:H' c≠none:=by
   rcases hc with z | z
   ·rw [z,q];exact fun z=>nomatch z
   ·rw [z];exact fun z=>nomatch z
  exact inB c v e (fun z=>tr (I.stkFree c z)) (.inr tr)
theorem inv_track (I:Inv X pins σ H s)(hx:H x=none)(h0:X.s₀.heap.get? x=none)(hL:x≠X.env.locals)(hc:∀y c,X.env.cells.lookup y=some c→c≠x)(hp:∀p∈X.pn ++ pins,p.1≠x)(e:ExcAt x C s.heap):
  Inv X pins σ (upd H x (.ext (ExcAt x C))) s:=by
 have ne:∀b u,H b=some u→b≠x:=fun b u q z=>by rw [z,hx] at q;cases q
 refine ⟨I.ok,I.os,I.bare,⟨I.base.keep,I.base.slot,fun b o q n hx'=>?_,I.base.there,fun b xs q=>?_,fun b o u q=>?_,fun b ps q=>?_⟩,I.loc,I.cell,?_,fun y c q=>?_,fun p q=>?_,fun b u q=>?_,I.len⟩
 ·rw [upd_ne (fun z=>by rw [z,h0] at q;cases q)];exact I.base.free b o q n hx'
 ·have:=I.base.tups b xs q;rw [upd_ne (ne _ _ this)];exact this
 ·have:=I.base.frzs b o u q;rw [upd_ne (ne _ _ this)];exact this
 ·obtain ⟨m,this⟩:=I.base.tbls b ps q;exact ⟨m,by rw [upd_ne (ne _ _ this)];exact this⟩
 ·rw [upd_ne (Ne.symm hL)];exact I.free
 ·rw [upd_ne (hc y c q)];exact I.freeC y c q
 ·obtain ⟨e,n,n2,nf,d⟩:=I.pin p q
  exact ⟨e,by rw [upd_ne (hp p q)];exact n,n2,nf,d⟩
 ·by_cases hb:b=x
  ·subst hb
   rw [upd_same] at q;cases q
   obtain ⟨o,vs,e1,e2⟩:=e
   exact ⟨⟨o,vs,e1,e2⟩,⟨o,e1⟩,fun h1 h2 ⟨o,vs,e1,e2⟩ k=>⟨o,vs,k o e1,e2⟩⟩
  ·rw [upd_ne hb] at q
   exact (I.hok b u q).stay (fun _ _ _ e=>e) (fun c z=>by rw [upd_ne (ne _ _ z)];exact z) fun c xs z=>by rw [upd_ne (ne _ _ z)];exact z
theorem inv_goes {i:Nat}{n:Str}{u:Option Value}{m:Str→Option Value}{h':Heap}{t:Nat}(I:Inv X pins σ H s)(hN:X.N.Nodup)(hi:X.N[i]? =some n)(hm:∀(j:Nat) (y:Str) (v:V),X.N[j]? =some y→σ[j]? =some (some v)→Vis X.env.scope y→∃u,RelV v u∧Look X.env s.heap m y u)
  (hn':h'.Ns X.env.locals (fun y=>if y=n then u else m y)) (hs:Heap.SameBut X.env.locals s.heap h'):Inv X pins (σ.set i none) H {s with heap:=h',toks:=t}:=by
 have nl:∀b o,X.s₀.heap.get? b=some o→b≠X.env.locals:=fun b o e=>Nat.ne_of_lt (Nat.lt_of_lt_of_le (Heap.lt_size e) I.ok.above)
 refine ⟨I.ok,I.os,I.bare,⟨fun b o e n hb hx=>(hs.2 b (nl b o e)).trans (I.base.keep b o e n hb hx),fun b o e n hb hx=>?_,I.base.free,fun b o e hx=>?_,I.base.tups,I.base.frzs,I.base.tbls⟩,⟨_,hn',fun j y v e1 e2 e3=>?_⟩,fun y c e=>?_,I.free,I.freeC,fun p hp=>?_,fun b u q=>?_,by simpa using I.len⟩
 ·obtain ⟨sl,e1⟩:=I.base.slot b o e n hb hx
  exact ⟨sl,(hs.2 b (nl b o e)).trans e1⟩
 ·obtain ⟨o',e1⟩:=I.base.there b o e hx
  exact ⟨o',(hs.2 b (nl b o e)).trans e1⟩
 ·by_cases hj:j=i
  ·subst hj
   rw [List.getElem?_set,if_pos rfl] at e2
   split at e2 <;> cases e2
  ·rw [List.getElem?_set_ne (Ne.symm hj)] at e2
   obtain ⟨u',r',q⟩:=hm j y v e1 e2 e3
   refine ⟨u',r',?_⟩
   rcases q with ⟨k,e⟩ | ⟨k,c,e,z⟩
   ·refine .inl ⟨k,?_⟩
    have:y≠n:=fun e=>hj (nodup_ix hN e1 (e▸hi))
    simp [this,e]
   ·exact .inr ⟨k,c,e,z.sameBut hs (I.cne y c e)⟩
 ·obtain ⟨w',z⟩:=I.cell y c e
  exact ⟨w',z.sameBut hs (I.cne y c e)⟩
 ·obtain ⟨e,n,ne,nf,d⟩:=I.pin p hp
  exact ⟨(hs.2 p.1 ne).trans e,n,ne,nf,d⟩
 ·refine (I.hok b u q).stay (fun c v hc e=>(hs.2 c ?_).trans e) (fun _ q=>q) fun _ _ q=>q
  rintro rfl
  rcases hc with z | z
  ·rw [←z,I.free] at q;cases q
  ·rw [I.free] at z;cases z
end
end Z
set_option maxHeartbeats 1000000
namespace Z
open PySem PySem.Spec PyProof.Rows L2
noncomputable abbrev FR:=Ev→Option Addr
noncomputable abbrev FRe:=Ev→Option (Addr×Ev)
section
variable {X:Cx}{P:List (D×V)}{O:Av}{L:List (Nat×Addr)}{ρ:Ev}{σ:L2.St}{H:Hp}{E:Value→Shared→Prop}{v:Value}
theorem Rep.same0 (r:Rep X P O [] ρ σ H):Same X.H₀ H:=fun b o e=>r.same b o e fun i z=>by simp at z
theorem Rep.wish (r:Rep X P O L ρ σ H):Rep (X.wish E) P O L ρ σ H:=⟨r.same,r.amb,r.len,r.slot,r.inj,r.new,r.lnt,r.lnd,r.prot⟩
theorem Rep.unwish (r:Rep (X.wish E) P O L ρ σ H):Rep X P O L ρ σ H:=⟨r.same,r.amb,r.len,r.slot,r.inj,r.new,r.lnt,r.lnd,r.prot⟩
theorem rep_inx (r:Rep X P O L ρ σ H):Rep (inx X v) P O L ρ σ H:=⟨r.same,r.amb,r.len,r.slot,r.inj,r.new,r.lnt,r.lnd,r.prot⟩
theorem rep_un (r:Rep (inx X v) P O L ρ σ H):Rep X P O L ρ σ H:=⟨r.same,r.amb,r.len,r.slot,r.inj,r.new,r.lnt,r.lnd,r.prot⟩
end
structure PR (X:Cx) (st:Stmt) (r:FR):Prop where
 to:∀(pins:List (Addr×PySem.Obj)) (s:Shared) (σ:L2.St) (H:Hp) (P:List (D×V)) (O:Av) (ρ:Ev) (C:Addr),Inv X pins σ H s→Rep X P O [] ρ σ H→r ρ=some C→
  wpAny (model X.prog X.w) X.A (exec st X.env) (fun _ _=>False) (Thr X C) s
structure PRs (X:Cx) (st:List Stmt) (r:FR):Prop where
 to:∀(pins:List (Addr×PySem.Obj)) (s:Shared) (σ:L2.St) (H:Hp) (P:List (D×V)) (O:Av) (ρ:Ev) (C:Addr),Inv X pins σ H s→Rep X P O [] ρ σ H→r ρ=some C→
  wpAny (model X.prog X.w) X.A (execs st X.env) (fun _ _=>False) (Thr X C) s
structure PRe (X:Cx) (e:Expr) (r:FRe):Prop where
 to:∀(pins:List (Addr×PySem.Obj)) (s:Shared) (σ:L2.St) (H:Hp) (P:List (D×V)) (O:Av) (ρ ρ':Ev) (C:Addr),Inv X pins σ H s→Rep X P O [] ρ σ H→r ρ=some (C,ρ')→
  wpAny (model X.prog X.w) X.A (eval e X.env) (fun _ _=>False) (fun v s'=>∃x H1 s1 H',v= .ref x∧Inv X pins σ H1 s1∧Rep X P O [] ρ' σ H1∧Same H1 H'∧Fly X.prog X.w X.stack H1 s1 C x H' s') s
noncomputable def spR (K:PySem.W.Frag) (gx:List D→Option Addr):Sp:=fun vs H _ E=>∃(A:Av) (ds:List D) (C:Addr),(∀b,A b→∃o,H b=some o)∧DenL K A H ds vs∧gx ds=some C∧∀v H',Same H H'→E v (some C) H'
structure FnR (P:Program) (w:World) (K:PySem.W.Frag) (mg:Str→Option Value) (base:Heap) (x:Str) (k:Nat) (gx:List D→Option Addr):Prop where
 ex:∃(f:Addr) (fd:FuncData) (ps:List Str),FnOk P w K mg base (CXE P w) k f fd ps (spR K gx)∧Binds K fd ps []∧PySem.W.keepIn K (.ref f)=true∧mg x=some (.ref f)
theorem FnR.mono {P:Program}{w:World}{K:PySem.W.Frag}{mg:Str→Option Value}{base:Heap}{x:Str}{j k:Nat}{g:List D→Option Addr}(F:FnR P w K mg base x j g)(h:j≤k):FnR P w K mg base x k g:=by
 obtain ⟨f,fd,ps,a,b,c,d⟩:=F.ex
 exact ⟨f,fd,ps,a.mono h,b,c,d⟩
theorem denA_len {K:PySem.W.Frag}{A:Av}{σ:L2.St}{H:Hp}:∀{ws:List W} {vs:List V},DenA K A σ H ws vs→ws.length=vs.length
 | [],[],_=>rfl
 | w :: ws,[],h=>by simp [DenA] at h
 | [],v :: vs,h=>by simp [DenA] at h
 | w :: ws,v :: vs,h=>by
  simp only [DenA] at h
  first
  | (obtain ⟨a,b,e,_,t⟩:=h;cases e;rw [List.length_cons,List.length_cons,denA_len t])
  | (rw [List.length_cons,List.length_cons,denA_len h.2])
section
variable {X:Cx}{e:Expr}{es:List Expr}{pos p np cpos:Pos}{fa:FA}{x:Str}{k:Nat}{C:Addr}{st:Stmt}{rest bd els:List Stmt}{F:FS}{r r1 r2:FR}{re:FRe}{t:FT}{c:Expr}
noncomputable def fRaise (C:Addr) (fa:FA):FR:=fun ρ=>(fa ρ).bind fun p=>if p.1.length≤lim then some C else none
theorem pr_raise (hc:X.calm=true)(ex:X.mg x=some (.ref C))(q:PySem.W.excIn X.K C bmV nwV=true)(ha:QA X.nox (e :: es) fa)(hg:autoParam (Gl X x) Zau.a2._auto_1)(hdb:autoParam ((x == ("__debug__":Str))=false) Zau.a1._auto_1)
  (he:autoParam (starEach (e :: es) X.env=(false,eval e X.env) :: starEach es X.env) Zau.a2._auto_1) (hpl:autoParam ((backTo cpos (starEach es X.env)).any (·.1)=false) Zau.a2._auto_1):
  PR X (.Raise (some (.Call (.Name x np) (e :: es) [] cpos)) none pos) (fRaise C fa):=by
 refine ⟨fun pins s σ H P O ρ C' I rp hr=>?_⟩
 unfold fRaise at hr
 cases e1:fa ρ with
 | none=>rw [e1] at hr;cases hr
 | some pp=>
  obtain ⟨ws,ρ1⟩:=pp
  rw [e1] at hr
  simp only [Option.bind_some] at hr
  split at hr
  ·rename_i hl
   cases hr
   obtain ⟨bm,N,nm,qn,bs,hd,sn,sub,ab,col,dd,k0,k1,k2,k3,k5,mN,hC,hN,hni,T⟩:=exc_obj I.ok.mod.kin q
   refine wpAny_Raise_call_subT (C:=C) (nm:=nm) (q:=qn) (N:=N) (bs:=bs) (bm:=bm) (hdct:=hd) (sn:=sn) (sub:=sub) (ab:=ab) (col:=col) (dd:=dd) (k0:=k0) (k1:=k1) (k2:=k2) (k3:=k3) (k5:=k5)
    PySem.F.excBase_ValueError (mN:=mN) (T.hasType PySem.F.excBase_ValueError.hasBase) (I.ok.hd hc) (by rw [he];show (false || (backTo cpos (starEach es X.env)).any (·.1))=false;rw [hpl];rfl) hni (ld_glob I hg ex ⟨rfl,?_⟩ hdb)
   have h2:=ha.to cpos pins s σ H (fun vs H1=>vs.length≤sizeLine∧Same X.H₀ H1) (I.wish _) ⟨P,O,[],ρ,ws,ρ1,rp.wish,e1,fun vs H1 r1 l1=>⟨by rw [←denA_len l1];exact Nat.le_trans hl lim_line,r1.unwish.same0⟩⟩
   rw [he]
   rw [show X.nox.env=X.env from rfl,he] at h2
   refine Calls.evalArgs_plain (wpAny_mono h2 (fun us s2 ⟨vs,H2,I2,rel,hl2,sm⟩=>⟨rfl,by rw [←rel.length];exact hl2,I2.bk _ _ hC,hN.keeps I2.bk,T.keeps I2.bk,fun h' x hm=>?_⟩) fun _ _ z=>z.elim)
   exact ⟨pins,σ,x,H2,s2,rfl,I2.unwish,sm,.inl ⟨h',us,hm,rfl⟩⟩
  ·cases hr
theorem prs_nil:PRs X [] (fun _=>none):=⟨fun _ _ _ _ _ _ _ _ _ _ z=>nomatch z⟩
theorem prs_here (h1:PR X st r):PRs X (st :: rest) r:=
 ⟨fun pins s σ H P O ρ C I rp hr=>wpAny_execs_cons (wpAny_mono (h1.to pins s σ H P O ρ C I rp hr) (fun _ _ z=>z.elim) fun _ _ z=>z)⟩
noncomputable def fRIf (t:FT) (r1 r2:FR):FR:=fun ρ=>(t ρ).bind fun p=>if p.1=true then r1 p.2 else r2 p.2
theorem pr_if (hc:QT X.nox c t)(ha:PRs X bd r1)(hb:PRs X els r2):PR X (.If c bd els pos) (fRIf t r1 r2):=by
 refine ⟨fun pins s σ H P O ρ C I rp hr=>?_⟩
 unfold fRIf at hr
 cases e1:t ρ with
 | none=>rw [e1] at hr;cases hr
 | some pp=>
  obtain ⟨k,ρ1⟩:=pp
  rw [e1] at hr
  simp only [Option.bind_some] at hr
  have h:=hc.to pins s σ H (fun b H1=>b=k∧Rep X P O [] ρ1 σ H1) (I.wish _) ⟨P,O,[],ρ,k,ρ1,rp.wish,e1,fun H1 r1=>⟨rfl,r1.unwish⟩⟩
  refine wpAny_If (wpAny_mono h (fun b s1 ⟨H1,I1,hb',r1'⟩=>?_) fun _ _ z=>z.elim)
  subst hb'
  cases b with
  | true=>exact ha.to pins s1 σ H1 P O ρ1 C I1.unwish r1' hr
  | false=>exact hb.to pins s1 σ H1 P O ρ1 C I1.unwish r1' hr
noncomputable def fRE (r:FRe):FR:=fun ρ=>(r ρ).map (·.1)
theorem pr_expr (h:PRe X e re)(hs:autoParam (swapsWith e none pos.line X.env=pure false) Zau.a2._auto_1):PR X (.Expr e pos) (fRE re):=by
 refine ⟨fun pins s σ H P O ρ C I rp hr=>?_⟩
 obtain ⟨⟨C',ρ'⟩,e1,e2⟩:=oms hr
 dsimp only at e2
 subst e2
 refine wpAny_Expr_any (wpAny_mono (h.to pins s σ H P O ρ ρ' C' I rp e1) (fun _ _ z=>z.elim) fun v s' ⟨x,H1,s1,H',ev,I1,r1,s2,F⟩=>?_) I.quiet hs
 exact ⟨pins,σ,x,H1,s1,ev,I1,r1.same0,.inr ⟨H',s2,F⟩⟩
noncomputable def fRCall (gx:List D→Option Addr) (fa:FA):FRe:=fun ρ=>(fa ρ).bind fun p=>(drs p.2 p.1).bind fun ds=>(gx ds).map fun C=>(C,p.2)
theorem pre_call {gx:List D→Option Addr}(F:FnR X.prog X.w X.K X.mg X.base x k gx)(hr:Room k X.A)(ha:QA X.nox (e :: es) fa)(hg:autoParam (Gl X x) Zau.a2._auto_1)(hdb:autoParam ((x == ("__debug__":Str))=false) Zau.a1._auto_1)
  (he:autoParam (starEach (e :: es) X.env=(false,eval e X.env) :: starEach es X.env) Zau.a2._auto_1) (hpl:autoParam ((backTo pos (starEach es X.env)).any (·.1)=false) Zau.a2._auto_1):PRe X (.Call (.Name x p) (e :: es) [] pos) (fRCall gx fa):=by
 refine ⟨fun pins s σ H P O ρ ρ' C I rp hc=>?_⟩
 unfold fRCall at hc
 obtain ⟨⟨ws,ρ1⟩,e1,hc⟩:=obs hc
 dsimp only at hc
 obtain ⟨ds,e2,hc⟩:=obs hc
 obtain ⟨C',e3,hc⟩:=oms hc
 cases hc
 obtain ⟨f,fd,ps,F,b,kp,hm⟩:=F.ex
 have h:=ha.to pos pins s σ H (fun vs H1=>Rep X P O [] ρ' σ H1∧DenA X.K (AvO O ρ' σ) σ H1 ws vs) (I.wish _) ⟨P,O,[],ρ,ws,ρ',rp.wish,e1,fun vs H1 r1 l1=>⟨r1.unwish,l1⟩⟩
 refine wpAny_Call_Name_kw (ld_glob I hg hm ?_ hdb)
 refine PySem.W.callWith_K (h₀:=X.base) I.ok.mod.kin kp (wpAny_mono h (fun us s1 ⟨vs,H1,I1,rel,r1,l1⟩=>⟨I1.kIn,?_⟩) fun _ _ z=>z.elim) he hpl
 have I2:=I1.unwish
 have sp:spR X.K gx vs H1 (fun _ _=>False) (fun v oc H'=>oc=some C∧Same H1 H'):=⟨fun b=>AvO O ρ' σ b∧¬Handed ρ' σ ws b,ds,C,fun b z=>r1.there z.1,args_view r1 (fun b z=>z.1) (fun b z=>z.2) e2 l1,e3,fun v H' s2=>⟨rfl,s2⟩⟩
 have hl:us.length=ps.length:=by rw [←rel.length];exact F.len _ _ _ _ sp
 have bb:=b s1 us I2.kIn (by rw [List.append_nil];exact hl)
 rw [List.append_nil] at bb
 refine wpAny_call (codeAny_mono (F.run X.A X.stack s1 H1 ⟨us,[]⟩ us vs _ _ hr I2.env0 bb rel sp) fun r s' hq=>?_)
 cases r with
 | error v=>
  obtain ⟨C',x',H',ev,fl,ec,s2⟩:=hq
  cases ec
  exact ⟨x',H1,s1,H',ev,I2,r1,s2,fl⟩
 | ok fl=>
  cases fl with
  | ret u=>obtain ⟨_,_,_,_,_,_,_,z⟩:=hq;exact z.elim
  | next=>exact False.elim hq
  | brk=>exact False.elim hq
  | cont=>exact False.elim hq
end
section
variable {P:Program}{w:World}{K:PySem.W.Frag}{mg:Str→Option Value}{base:Heap}
noncomputable def runR (np n:Nat) (r:FR):List D→Option Addr:=fun ds=>if ds.length=np then r (start0 n ds) else none
theorem fnR_mk {x:Str}{st:Stmt}{f:Addr}{fd:FuncData}{N ps:List Str}{k np n:Nat}{r:FR}(F:Fun K x x st f fd)(S:FnScope N ps (defScope st))(B:Binds K fd ps [])(hm:mg x=some (.ref f))(hp:ps.length=np)(hn:N.length=n)
  (body:∀(cdv:Value) (A:Around) (outer:List Env) (s:Shared) (H:Hp) (E:XK),Room k (A.deeper (envOfC x (defScope st) s.heap.objs.size f cdv))→
   PRs (cxOf (CXE P w) P w K mg base N x (defScope st) f cdv A outer s H E) (defBody st) r):FnR P w K mg base x (k + 1) (runR np n r):=by
 refine ⟨f,fd,ps,?_,B,F.kp,hm⟩
 obtain ⟨oc,od,kV,doc,pm,an,cdv,ct,osl,rfl,lk,hcd⟩:=F.ex
 refine fn_of lk hcd S (fun vs H Q E ⟨A,ds,C,hA,l,e,q⟩=>?_) fun A outer s H vs Q E hr ⟨A',ds,C,hA,l,e,q⟩=>?_
 ·unfold runR at e
  split at e
  ·rename_i hl;rw [←denL_length l,hl,hp]
  ·cases e
 ·unfold runR at e
  split at e
  ·rename_i hl
   refine ⟨fun _ σ H1=>σ=start N vs∧H1=H,fun pins s1 σ H1 D I hq=>?_,rfl,rfl⟩
   obtain ⟨rfl,rfl⟩:=hq
   have h:=(body cdv A outer s _ E hr).to pins s1 _ _ [] _ _ C I (rep_start rfl hn hA l) e
   refine wpAny_mono h (fun _ _ z=>z.elim) fun v s' T=>?_
   exact thr_leave T rfl rfl rfl fun x H' s'' ev sm G=>⟨C,x,H',ev,G,q v H' sm⟩
  ·cases e
end
end Z
set_option maxHeartbeats 1000000
namespace Z
open PySem PySem.Spec PyProof.Rows L2
noncomputable def noL (ρ:Ev):Bool:=ρ.all fun o=>match o with
 | some (.l _)=>false
 | _=>true
section
variable {X:Cx}{P:List (D×V)}{O:Av}{L:List (Nat×Addr)}{ρ:Ev}{σ:L2.St}{H:Hp}
theorem Rep.noL (r:Rep X P O L ρ σ H)(h:noL ρ=true):L=[]:=by
 cases L with
 | nil=>rfl
 | cons p L=>
  obtain ⟨d,e,_⟩:=r.lnd p.1 p.2 List.mem_cons_self
  have z:=List.all_eq_true.mp h _ (List.mem_of_getElem? e)
  cases z
theorem Rep.drop (r:Rep X P O L ρ σ H){i:Nat}(hf:freeSlot ρ i=true):Rep X P O L (ρ.set i none) (σ.set i none) H:=by
 have sub:∀b,AvO O (ρ.set i none) (σ.set i none) b→AvO O ρ σ b:=fun b z=>by
  rcases z with z | ⟨j,w,c,e1,e2,e3⟩
  ·exact .inl z
  ·rcases set_at e1 with ⟨rfl,z,_⟩ | ⟨n,e1⟩
   ·cases z
   ·rw [List.getElem?_set_ne (Ne.symm n)] at e3;exact .inr ⟨j,w,c,e1,e2,e3⟩
 have g:=go_av (H:=H) sub
 have st:∀{j:Nat} {w:W},(ρ.set i none)[j]? =some (some w)→j≠i∧ρ[j]? =some (some w):=fun {j w} e1=>by
  rcases set_at e1 with ⟨rfl,z,_⟩ | z
  ·cases z
  ·exact z
 refine ⟨r.same,r.amb,by rw [List.length_set,List.length_set];exact r.len,fun j w e=>?_,fun j k w w' c c' b e1 e2 e3 e4 e5 e6=>?_,fun j c b e1 e2=>?_,fun j c e=>?_,fun j b e=>?_,fun p hp=>den_go g _ _ (r.prot p hp)⟩
 ·obtain ⟨n,e⟩:=st e
  obtain ⟨u,h1,h2⟩:=r.slot j w e
  exact ⟨u,by rw [List.getElem?_set_ne (Ne.symm n)];exact h1,slotOk_go g (fun _ _ _ _=>rfl) h2⟩
 ·obtain ⟨n1,e1⟩:=st e1
  obtain ⟨n2,e4⟩:=st e4
  rw [List.getElem?_set_ne (Ne.symm n1)] at e3
  rw [List.getElem?_set_ne (Ne.symm n2)] at e6
  exact r.inj j k w w' c c' b e1 e2 e3 e4 e5 e6
 ·obtain ⟨n1,e1⟩:=st e1
  rw [List.getElem?_set_ne (Ne.symm n1)] at e2
  exact r.new j c b e1 e2
 ·obtain ⟨n1,e1⟩:=st e
  rw [List.getElem?_set_ne (Ne.symm n1)]
  exact r.lnt j c e1
 ·obtain ⟨d,e1,e2⟩:=r.lnd j b e
  have n:j≠i:=fun z=>by subst z;unfold freeSlot at hf;rw [e1] at hf;cases hf
  exact ⟨d,by rw [List.getElem?_set_ne (Ne.symm n)];exact e1,by rw [List.getElem?_set_ne (Ne.symm n)];exact e2⟩
end
noncomputable def fTry (i:Nat) (kc:Addr→Option Bool) (f:FX) (r:FRe) (G:FS):FS:=fun ρ=>match r ρ with
 | some (C,ρ1)=>if (noL ρ=true∧freeSlot ρ1 i=true)∧kc C=some true then (G (ρ1.set i (some (.v (.exn C))))).bind fun q=>match q with
   | .nx ρ'=>if freeSlot ρ' i=true then some (.nx (ρ'.set i none)) else none
   | _=>none
  else none
 | none=>(f ρ).map fun p=>.nx p.2
section
variable {X:Cx}{e:Expr}{ep np hp pos:Pos}{f:FX}{r:FRe}{G:FS}{T n:Str}{CT:Addr}{b₀:Stmt}{suite:List Stmt}
theorem qs_try (i:Nat){kc:Addr→Option Bool}(hN:X.N.Nodup)(hT:X.mg T=some (.ref CT))(hk:∀C b,kc C=some b→PySem.W.exmOne X.K (.ref C) (.ref CT)=some b)(hn:QX X e f)(hr:PRe X e r)(hG:∀v,QSs (inx X v) (b₀ :: suite) G)
  (hi:autoParam (X.N[i]? =some n) Zau.a2._auto_1) (hl:autoParam (X.env.kindOf n=some .local) Zau.a2._auto_1) (hg:autoParam (Gl X T) Zau.a2._auto_1) (hdb:autoParam ((T == ("__debug__":Str))=false) Zau.a1._auto_1) (hs:autoParam (swapsWith e none ep.line X.env=pure false) Zau.a2._auto_1)
  (hst:autoParam (X.stack=X.env :: X.outer) Zau.a2._auto_1) (hf:autoParam (X.env.frame=some X.env.locals) Zau.a2._auto_1) (hex:autoParam (X.ex=[]) Zau.a2._auto_1) (hxe:autoParam (X.xe=fun _ _=>False) Zau.a2._auto_1):
  QS X (.Try [.Expr e ep] [.ExceptHandler (some (.Name T np)) (some n) (b₀ :: suite) hp] [] [] pos) (fTry i kc f r G):=by
 refine ⟨fun pins s σ H D I ⟨P,O,L,ρ,res,rp,he,q⟩=>?_⟩
 unfold fTry at he
 cases e1:r ρ with
 | none=>
  rw [e1] at he
  dsimp only at he
  cases e2:f ρ with
  | none=>rw [e2] at he;cases he
  | some pp=>
   obtain ⟨w,ρ'⟩:=pp
   rw [e2] at he;cases he
   refine wpAny_Try_except (wpAny_execs_cons ?_)
   have h:=hn.to pins s σ H (fun _ H1=>Rep X P O L ρ' σ H1) I ⟨P,O,L,ρ,w,ρ',rp,e2,fun v H1 H2 r1 s1 _=>r1.grow s1⟩
   refine wpAny_Expr_any (wpAny_mono h (fun v s1 ⟨x,H1,I1,_,r1⟩=>?_) fun v s1 z=>?_) I.quiet hs
   ·exact wpAny_execs_nil (wpAny_execs_nil ⟨σ,H1,I1,q σ H1 r1⟩)
   ·rw [hxe] at z;exact z.elim
 | some cc=>
  obtain ⟨C,ρ1⟩:=cc
  rw [e1] at he
  dsimp only at he
  split at he
  ·rename_i hkc
   obtain ⟨⟨hnl,hfs⟩,hkc⟩:=hkc
   obtain rfl:=rp.noL hnl
   cases e2:G (ρ1.set i (some (.v (.exn C)))) with
   | none=>rw [e2] at he;cases he
   | some qq=>
    rw [e2] at he
    simp only [Option.bind_some] at he
    cases qq with
    | bk _=>cases he
    | ct _=>cases he
    | rt _ _=>cases he
    | nx ρ'=>
     simp only at he
     split at he
     case isFalse=>cases he
     case isTrue hfr=>
     cases he
     have fr:X.A.frames=some (X.env :: X.outer):=by rw [I.ok.frames,hst]
     refine wpAny_Try_except (wpAny_execs_cons (wpAny_Expr_any (wpAny_mono (hr.to pins s σ H P O ρ ρ1 C I rp e1) (fun _ _ z=>z.elim) fun v s' hv=>?_) I.quiet hs))
     obtain ⟨x,H1,s1,H',rfl,I1,rp1,sm2,F⟩:=hv
     have I':=F.inv I1
     obtain ⟨B,a0,hfl,hB⟩:=F.fly
     rw [hst] at hfl
     refine wpAny_looks_onW fr hf hfl fun h4 held4 sm4=>?_
     refine wpAny_landsW held4 fun h5 hfl5 sm5=>?_
     have I5:=inv_land I1 I' hst hf hex hB hfl5.1 (sm4.trans sm5)
     obtain ⟨ob,hob,hobc⟩:=hfl.there
     obtain ⟨oe,ws,hoe,_,hoed,_⟩:=hfl.first
     have nB:B.get? x=none:=hfl.2.1
     have xs:x∉frs X.stack:=fun z=>by
      obtain ⟨o',e',nf⟩:=(I'.stack.mem z).2
      rw [hoe] at e';cases e'
      exact nf _ hoed
     have notin:∀b o,s1.heap.get? b=some o→b∉frs X.stack→b≠x:=fun b o e0 hb z=>by
      subst z
      have:=hB b oe hoe hb (.inl ⟨o,e0⟩)
      rw [nB] at this;cases this
     have xH:H' x=none:=by
      cases z:H' x with
      | none=>rfl
      | some u=>
       have:=hB x oe hoe xs (.inr (by rw [z];exact fun y=>nomatch y))
       rw [nB] at this;cases this
     have xL:x≠X.env.locals:=fun z=>xs (by rw [z,hst];unfold frs;rw [List.filterMap_cons,hf];exact List.mem_cons_self)
     have x0:X.s₀.heap.get? x=none:=by
      cases z:X.s₀.heap.get? x with
      | none=>rfl
      | some o=>
       obtain ⟨o',e'⟩:=I1.base.there x o z (fun y=>by rw [hex] at y;cases y)
       exact absurd rfl (notin x o' e' xs)
     have xC:∀y c,X.env.cells.lookup y=some c→c≠x:=fun y c ec z=>by
      obtain ⟨v,o,ho,hd⟩:=I'.cell y c ec
      rw [z,hoe] at ho;cases ho
      rw [hoed] at hd;cases hd
     have xP:∀p∈X.pn ++ pins,p.1≠x:=fun p hp=>by
      obtain ⟨e0,_,ne,nf,_⟩:=I1.pin p hp
      exact notin p.1 p.2 e0 (fun z=>(List.mem_cons.mp (I1.stkSub p.1 z)).elim ne nf)
     refine wpAny_handleBy_cons (codeAny_handlers_test ?_) (by intro z;cases z)
     refine ld_glob (X:=inx X (.ref x)) (inv_inx I5) hg hT ?_ hdb
     obtain ⟨ob5,hob5,hobc5⟩:=hfl5.there
     have LT:PySem.W.Looks (model X.prog X.w) h5 (typeOf (.ref x)) (.ref C):=hobc5▸(PySem.W.Looks.ld hob5).andThen .now
     refine (PySem.W.exm_one (K:=X.K) I5.kIn LT (hk C true hkc)) _ _ _ _ (fun _ _ z=>z) ?_
     refine codeAny_handlers_suite_as ?_
     refine lands_againW hfl5 fun h6 hfl6 sm6=>?_
     have I6:=inv_land I1 I' hst hf hex hB hfl6.1 (sm4.trans (sm5.trans sm6))
     obtain ⟨oe6,ws6,hoe6,hoec6,hoed6,_⟩:=hfl6.first
     have I7:=inv_track (C:=C) I6 xH x0 xL xC xP ⟨oe6,ws6,hoe6,hoec6,hoed6⟩
     refine store_ok (v:=.ref x) I7 hN hi (.inl hl) rfl (fun s8 I8=>?_) (.inr hl)
     have rp8:=(rp1.grow (sm2.trans (same_upd xH _))).put (i:=i) (d:=.exn C) (v:=.ref x) hfs (by rw [Den];exact ⟨x,rfl,upd_same⟩)
     have h9:=(hG (.ref x)).to pins s8 _ _ {nx:=fun σ' H''=>Rep X P O [] ρ' σ' H'',rt:=fun _ _=>False} (inv_inx I8) ⟨P,O,[],_,.nx ρ',rep_inx rp8,e2,fun σ' H'' rp'=>rep_un rp'⟩
     refine wpAny_mono h9 (fun fl s9 hq=>?_) fun _ _ z=>z.elim
     cases fl with
     | ret v=>obtain ⟨_,_,_,_,_,z⟩:=hq;exact z.elim
     | brk=>obtain ⟨_,_,_,z⟩:=hq;exact z.elim
     | cont=>obtain ⟨_,_,_,z⟩:=hq;exact z.elim
     | next=>
      obtain ⟨σ9,H9,I9,rp9⟩:=hq
      have I9':=inv_un I.ok I9
      obtain ⟨m,hnm,hlk⟩:=id I9'.loc
      refine wpAny_nameGoes_keeps hl hnm (by rw [I.ok.kind];rfl) fun h10 u hn10 hs10=>?_
      exact ⟨_,H9,inv_goes I9' hN hi hlk hn10 hs10,q _ H9 (rp9.drop hfr)⟩
  ·cases he
end
end Z
set_option maxHeartbeats 1000000
namespace Z
open PySem PySem.Spec PyProof.Rows L2
section
variable {prog:Program}{w:World}{A:Around}{E:Value→Shared→Prop}{K:PySem.W.Frag}{h:Heap}{g:Array GenState}{d:Drawn}{t:Nat}{os:OsState}{a C:Addr}{o:PySem.Obj}
theorem exc_class_get {R:Result→Shared→Prop}{tp:Value}(X:K.In h)(hx:h.get? a=some o)(hc:o.cls= .ref C)(hm:PySem.W.mroIn K C (.type "object")=some true)(hq:R (.ok (.ret (.ref C))) ⟨h,g,d,t,os⟩):
  codeAny (model prog w) A (.call (.builtin "getset_descriptor.__get__") ⟨[.builtin "object.__class__",.ref a,tp],[]⟩) R ⟨h,g,d,t,os⟩:=by
 have L1:=PySem.W.looks_mroIn (M:=model prog w) X hm
 have hT5:(⟨h,g,d,t,os⟩:Shared).TypeIs (.builtin "object.__class__") "getset_descriptor":=F.typeOf_object_class
 have fo:=F.owner_object_class
 refine codeAny_call_builtin F.slot_gs_get.plain F.entry_gs_get (F.slot_gs_get.check _ _ _ _ _ _ _ _ hT5 (F.args_gs_get _ _ _) ?_)
 repeat (any_goals (first | assumption | (with_reducible refine wpAny_loadPart_at hx ?_;rw [hc]) | (rw [fo];with_reducible refine L1.at ?_) | (with_reducible refine L1.at ?_) | wp_step))
 refine ⟨Code.quiet_builtin _ (by decide +kernel),codeAny_builtin F.entry_object_class ?_⟩
 unfold Builtin.«object.__class__» shownTypeOf
 repeat (any_goals (first | assumption | (with_reducible refine wpAny_loadPart_at hx ?_;rw [hc]) | wp_step))
theorem exc_check_ga {M:Model}{nameV:Value}{Q:Unit→Shared→Prop}(X:K.In h)(hx:h.get? a=some o)(hc:o.cls= .ref C)(hm:PySem.W.mroIn K C (.type "BaseException")=some true)(hq:Q () ⟨h,g,d,t,os⟩):
  wpAny M A (checkBuiltinCall "BaseException.__getattribute__" ⟨[.ref a,nameV],[]⟩) Q E ⟨h,g,d,t,os⟩:=by
 have L1:=PySem.W.looks_mroIn (M:=M) X hm
 have hk:builtinKind "BaseException.__getattribute__"=some .slot:=by decide +kernel
 have hsplit:splitId "BaseException.__getattribute__"=some ("BaseException","__getattribute__"):=by decide +kernel
 have ha:=F.args_bexc_ga (.ref a) nameV
 simp only [checkBuiltinCall,hk,hsplit]
 refine wpAny_bind ?_
 ·unfold isInstance
  repeat (first | (with_reducible refine wpAny_loadPart_at hx ?_;rw [hc]) | (with_reducible refine L1.at ?_) | wp_step)
  exact hq
theorem exc_class_entry {tk:Tok}{Q:Fin→Shared→Prop}(X:K.In h)(hx:h.get? a=some o)(hc:o.cls= .ref C)(hm:PySem.W.mroIn K C (.type "object")=some true)(hf:PySem.W.findIn K (.ref C) "__class__"=some (some (.builtin "object.__class__")))
  (hq:Q (.done (.ret (.ref C))) ⟨h,g,d,t,os⟩):wpAny (model prog w) A (Builtin.«object.__getattribute__» ⟨[.ref a,.str "__class__" tk],[]⟩) Q E ⟨h,g,d,t,os⟩:=by
 have L1:=PySem.W.looks_findIn (M:=model prog w) X hf
 have hT5:(⟨h,g,d,t,os⟩:Shared).TypeIs (.builtin "object.__class__") "getset_descriptor":=F.typeOf_object_class
 have f5:=F.typeOf_object_class
 have f6:=F.slot_gs_get.lookup
 have f7:=F.slot_gs_set.lookup
 repeat (any_goals (first | assumption | (with_reducible refine wpAny_loadPart_at hx ?_;rw [hc]) | (with_reducible refine L1.at ?_) | wp_step))
 refine exc_class_get X hx hc hm ?_
 repeat (any_goals (first | assumption | wp_step))
theorem exc_class_by {tk:Tok}{Q:Value→Shared→Prop}(X:K.In h)(hx:h.get? a=some o)(hc:o.cls= .ref C)(hm:PySem.W.mroIn K C (.type "object")=some true)(hb:PySem.W.mroIn K C (.type "BaseException")=some true)
  (hf:PySem.W.findIn K (.ref C) "__class__"=some (some (.builtin "object.__class__"))) (hga:PySem.W.findIn K (.ref C) "__getattribute__"=some (some (.builtin "BaseException.__getattribute__"))) (hna:PySem.W.findIn K (.ref C) "__getattr__"=some none)
  (hq:Q (.ref C) ⟨h,g,d,t,os⟩):wpAny (model prog w) A (getAttrBy (.ref a) (.str "__class__" tk) false) Q E ⟨h,g,d,t,os⟩:=by
 have L1:=PySem.W.looks_findIn (M:=model prog w) X hga
 have L2:=PySem.W.looks_findIn (M:=model prog w) X hna
 have FG:=PySem.F.attrBase_ValueError.ga
 have f3:=FG.bind (.ref a)
 have hx2:(Value.builtin "BaseException.__getattribute__" == Value.builtin "object.__getattribute__")=false:=by decide +kernel
 have hx1:(onTheHeap (Value.ref C) && Value.builtin "BaseException.__getattribute__" == Value.builtin "object.__getattribute__")=false:=by rw [hx2];rfl
 have hx0:(false && onTheHeap (Value.builtin "BaseException.__getattribute__"))=false:=rfl
 repeat (any_goals (first | assumption | (with_reducible refine wpAny_loadPart_at hx ?_;rw [hc]) | (with_reducible refine L1.at ?_) | (with_reducible refine L2.at ?_) | wp_step))
 refine codeAny_call_builtin FG.plain F.entry_bexc_ga (exc_check_ga X hx hc hb (exc_class_entry X hx hc hm hf ?_))
 repeat (any_goals (first | assumption | wp_step))
theorem exc_class_attr {Q:Option Value→Shared→Prop}(X:K.In h)(hx:h.get? a=some o)(hc:o.cls= .ref C)(hm:PySem.W.mroIn K C (.type "object")=some true)(hb:PySem.W.mroIn K C (.type "BaseException")=some true)
  (hf:PySem.W.findIn K (.ref C) "__class__"=some (some (.builtin "object.__class__"))) (hga:PySem.W.findIn K (.ref C) "__getattribute__"=some (some (.builtin "BaseException.__getattribute__"))) (hna:PySem.W.findIn K (.ref C) "__getattr__"=some none)
  (hq:Q (some (.ref C)) ⟨h,g,d,t + 1,os⟩):wpAny (model prog w) A (getAttr? (.ref a) "__class__") Q E ⟨h,g,d,t,os⟩:=by
 unfold getAttr? getAttrBy?
 repeat (any_goals (first | assumption | with_reducible apply exc_class_by X hx hc hm hb hf hga hna | wp_step))
end
structure ExcC (K:PySem.W.Frag) (C:Addr):Prop where
 ob:PySem.W.mroIn K C (.type "object")=some true
 be:PySem.W.mroIn K C (.type "BaseException")=some true
 cl:PySem.W.findIn K (.ref C) "__class__"=some (some (.builtin "object.__class__"))
 ga:PySem.W.findIn K (.ref C) "__getattribute__"=some (some (.builtin "BaseException.__getattribute__"))
 na:PySem.W.findIn K (.ref C) "__getattr__"=some none
theorem kitx_exc {K:PySem.W.Frag}{x C:Addr}(T:ExcC K C):PySem.W.KitX K (.ref x) (.ref C) (ExcAt x C):=by
 obtain ⟨cdC,hcC,_⟩:=Option.bind_eq_some_iff.mp T.ob
 unfold PySem.W.clsIn at hcC
 split at hcC
 ·rename_i c' d' cd' sl' ho
  refine ⟨fun M h X ⟨o,vs,e1,e2,e3⟩=>e2▸(PySem.W.Looks.ld e1).andThen .now,fun M h X _=>?_,fun h tp dd its n sl X htp=>?_,fun {prog w A E Q s} X ⟨o,vs,e1,e2,e3⟩ hq=>?_⟩
  ·intro A' Q' E' s' k q
   unfold isType loadHead
   exact wpAny_bind (wpAny_loadPart (k _ _ (X _ _ ho)) (wpAny_pure q))
  ·refine Bool.eq_false_iff.mpr fun q=>?_
   have e:C=tp:=Value.ref.inj (beq_iff_eq.mp q)
   subst e
   have z:=(X _ _ ho).symm.trans htp
   cases z
  ·obtain ⟨h,g,d,t,os⟩:=s
   exact exc_class_attr X e1 e2 T.ob T.be T.cl T.ga T.na hq
 ·cases hcC
noncomputable def oIsX (kc:Addr→Option Bool):D→Option W
 | .exn C=>(kc C).map fun b=>.v (.bl b)
 | _=>none
section
variable {X:Cx}{e:Expr}{es:List Expr}{pos p p2:Pos}{f:FX}{x:Str}
theorem isX_pr {kc:Addr→Option Bool}{A:Av}{y:D}{w:W}{v:V}{H:Hp}(e:oIsX kc y=some w)(hx:DenR X.K A H y v):∃a C b,v= .ref a∧H a=some (.ext (ExcAt a C))∧kc C=some b∧w= .v (.bl b):=by
 cases y with
 | exn C=>
  simp only [oIsX] at e
  obtain ⟨b,e1,e2⟩:=oms e
  have z:Den X.K A H (.exn C) v:=hx
  rw [Den] at z
  obtain ⟨a,rfl,ha⟩:=z
  exact ⟨a,C,b,rfl,ha,e1,e2.symm⟩
 | _=>cases e
theorem call_isX {kc:Addr→Option Bool}{v:V}{c:Value}(hT:∀C b,kc C=some b→ExcC X.K C)(hk:∀C b,kc C=some b→PySem.W.kitOne X.K (.ref C) c=some b)(hv:∀u,RelV v u→u=c):CallR X (.builtin "isinstance") (fun xs H Q=>∃a C b,xs=[.ref a,v]∧H a=some (.ext (ExcAt a C))∧kc C=some b∧Q (.bl b) H):=by
 intro pins s σ H xs us Q I r h
 obtain ⟨a,C,b,rfl,ha,hb',q⟩:=h
 obtain ⟨u,w',rfl,ru,rw'⟩:=vals2 r
 obtain rfl:=hv w' rw'
 cases (show u=Value.ref a from ru)
 have ob:=I.hok a _ ha
 exact PySem.W.kia_one (kitx_exc (hT C b hb')) I.kIn ob.1 (hk C b hb') (fun z=>nomatch z) fun tk=>⟨.bl b,H,I.tok _,rfl,q⟩
theorem qx_isC {kc:Addr→Option Bool}{c:Addr}(hm:X.mg "isinstance"=none)(hx:X.mg x=some (.ref c))(hk:∀C b,kc C=some b→PySem.W.kitOne X.K (.ref C) (.ref c)=some b)(hT:∀C b,kc C=some b→ExcC X.K C)(ha:QX X e f)
  (hb:autoParam (bootBuiltins "isinstance"=some (.builtin "isinstance")) Zau.a2._auto_1) (hg:autoParam (Gl X "isinstance") Zau.a2._auto_1) (hgx:autoParam (Gl X x) Zau.a2._auto_1) (hd:autoParam ((x == ("__debug__":Str))=false) Zau.a1._auto_1)
  (he:autoParam (starEach [e,.Name x p2] X.env=(false,eval e X.env) :: starEach [.Name x p2] X.env) Zau.a2._auto_1) (hpl:autoParam ((backTo pos (starEach [.Name x p2] X.env)).any (·.1)=false) Zau.a2._auto_1) (hs:autoParam (starEach [.Name x p2] X.env=(false,eval (.Name x p2) X.env) :: starEach [] X.env) Zau.a2._auto_1):
  QX X (.Call (.Name "isinstance" p) [e,.Name x p2] [] pos) (fUn (oIsX kc) f):=
 ⟨PE.weak (pe_callB (call_isX (v:=.ref c) hT hk (fun u r=>r)) hg hm hb (pa_cons ha.to (pa_cons (pe_glob (v:=.ref c) hgx hx rfl hd) pa_nil hs) he) (by decide) (by decide) he hpl) fun σ H Q h=>
  un_weak (r:=fun v H Q=>∃a C b,[v,V.ref c]=[.ref a,.ref c]∧H a=some (.ext (ExcAt a C))∧kc C=some b∧Q (.bl b) H) (fun A y w v H Q _ e hx q=>by
   obtain ⟨a,C,b,rfl,ha,hb,rfl⟩:=isX_pr e hx
   exact ⟨a,C,b,rfl,ha,hb,q _ H (Same.refl H) denW_bl⟩) σ H Q h⟩
theorem qx_isT {kc:Addr→Option Bool}{T:String}(hm:X.mg "isinstance"=none)(hx:X.mg x=none)(hk:∀C b,kc C=some b→PySem.W.kitOne X.K (.ref C) (.type T)=some b)(hT:∀C b,kc C=some b→ExcC X.K C)(ha:QX X e f)
  (hbx:autoParam (bootBuiltins x=some (.type T)) Zau.a2._auto_1) (hb:autoParam (bootBuiltins "isinstance"=some (.builtin "isinstance")) Zau.a2._auto_1) (hg:autoParam (Gl X "isinstance") Zau.a2._auto_1) (hgx:autoParam (Gl X x) Zau.a2._auto_1) (hn:autoParam (x≠"__name__") Zau.a1._auto_1) (hd:autoParam ((x == ("__debug__":Str))=false) Zau.a1._auto_1)
  (he:autoParam (starEach [e,.Name x p2] X.env=(false,eval e X.env) :: starEach [.Name x p2] X.env) Zau.a2._auto_1) (hpl:autoParam ((backTo pos (starEach [.Name x p2] X.env)).any (·.1)=false) Zau.a2._auto_1) (hs:autoParam (starEach [.Name x p2] X.env=(false,eval (.Name x p2) X.env) :: starEach [] X.env) Zau.a2._auto_1):
  QX X (.Call (.Name "isinstance" p) [e,.Name x p2] [] pos) (fUn (oIsX kc) f):=
 ⟨PE.weak (pe_callB (call_isX (v:=.ty T) hT hk (fun u r=>r)) hg hm hb (pa_cons ha.to (pa_cons (pe_bltn (v:=.ty T) hgx hx hbx rfl hn hd) pa_nil hs) he) (by decide) (by decide) he hpl) fun σ H Q h=>
  un_weak (r:=fun v H Q=>∃a C b,[v,V.ty T]=[.ref a,.ty T]∧H a=some (.ext (ExcAt a C))∧kc C=some b∧Q (.bl b) H) (fun A y w v H Q _ e hx q=>by
   obtain ⟨a,C,b,rfl,ha,hb,rfl⟩:=isX_pr e hx
   exact ⟨a,C,b,rfl,ha,hb,q _ H (Same.refl H) denW_bl⟩) σ H Q h⟩
inductive Cls (X:Cx):List Expr→List Addr→Prop where
 | nil:Cls X [] []
 | cons {x:Str} {p:Pos} {c:Addr} {es:List Expr} {cs:List Addr} (hx:X.mg x=some (.ref c)) (hg:Gl X x) (hd:(x == ("__debug__":Str))=false) (h:Cls X es cs) (hs:starEach (.Name x p :: es) X.env=(false,eval (.Name x p) X.env) :: starEach es X.env):Cls X (.Name x p :: es) (c :: cs)
theorem cls_pa {cs:List Addr}(h:Cls X es cs):PA X es (fun σ H Q=>Q (cs.map V.ref) H):=by
 induction h with
 | nil=>exact PA.weak pa_nil fun σ H Q q=>q
 | @cons x p c es cs hx hg hd h hs ih=>exact PA.weak (pa_cons (pe_glob (v:=.ref c) hg hx rfl hd) ih hs) fun σ H Q q=>q
theorem qx_isTup {kc:Addr→Option Bool}{cs:List Addr}{n:Nat}(hm:X.mg "isinstance"=none)(hcs:Cls X es cs)(hk:∀C b,kc C=some b→PySem.W.kitAny X.K (.ref C) (cs.map Value.ref)=some b)(hT:∀C b,kc C=some b→ExcC X.K C)(ha:QX X e f)(hl:cs.length≤sizeLine)
  (hb:autoParam (bootBuiltins "isinstance"=some (.builtin "isinstance")) Zau.a2._auto_1) (hg:autoParam (Gl X "isinstance") Zau.a2._auto_1)
  (he:autoParam (starEach [e,.Tuple es n p2] X.env=(false,eval e X.env) :: starEach [.Tuple es n p2] X.env) Zau.a2._auto_1) (hpl:autoParam ((backTo pos (starEach [.Tuple es n p2] X.env)).any (·.1)=false) Zau.a2._auto_1) (hs:autoParam (starEach [.Tuple es n p2] X.env=(false,eval (.Tuple es n p2) X.env) :: starEach [] X.env) Zau.a2._auto_1):
  QX X (.Call (.Name "isinstance" p) [e,.Tuple es n p2] [] pos) (fUn (oIsX kc) f):=by
 have hc:CallR X (.builtin "isinstance") (fun xs H Q=>∃a C b t,xs=[.ref a,.ref t]∧H a=some (.ext (ExcAt a C))∧H t=some (.tup (cs.map V.ref))∧kc C=some b∧Q (.bl b) H):=by
  intro pins s σ H xs us Q I r h
  obtain ⟨a,C,b,t,rfl,ha,ht,hb',q⟩:=h
  obtain ⟨u,w',rfl,ru,rw'⟩:=vals2 r
  cases (show w'=Value.ref t from rw')
  cases (show u=Value.ref a from ru)
  have ob:=I.hok a _ ha
  obtain ⟨hz,its,rel,⟨o,ho,hcl,⟨n',hd'⟩,hdn⟩⟩:=(show ObjOk X.prog X.w H s.heap t (.tup (cs.map V.ref)) from I.hok t _ ht)
  have ei:its=cs.map Value.ref:=by
   clear hz hk hcs ho hd' ht hl hdn hcl
   induction cs generalizing its with
   | nil=>cases rel;rfl
   | cons c cs ih=>
    rw [List.map_cons] at rel
    cases rel with
    | cons r1 r2=>rw [List.map_cons,ih _ r2];cases (show _=Value.ref c from r1);rfl
  subst ei
  obtain ⟨ocl,odi,oda,osl⟩:=o
  dsimp only at hcl hd' hdn
  subst hcl hd' hdn
  exact PySem.W.kia_tup (kitx_exc (hT C b hb')) I.kIn ob.1 ho (hk C b hb') (fun z=>nomatch z) fun tk=>⟨.bl b,H,I.tok _,rfl,q⟩
 refine ⟨PE.weak (pe_callB hc hg hm hb (pa_cons ha.to (pa_cons (pe_tup (cls_pa hcs)) pa_nil hs) he) (by decide) (by decide) he hpl) fun σ H Q h=>?_⟩
 exact un_weak (r:=fun v H Q=>(cs.map V.ref).length≤sizeLine∧∀p,H p=none→∃a C b t,[v,V.ref p]=[.ref a,.ref t]∧(upd H p (.tup (cs.map V.ref))) a=some (.ext (ExcAt a C))∧(upd H p (.tup (cs.map V.ref))) t=some (.tup (cs.map V.ref))∧kc C=some b∧Q (.bl b) (upd H p (.tup (cs.map V.ref)))) (fun A y w v H Q _ e hx q=>by
  obtain ⟨a,C,b,rfl,ha,hb,rfl⟩:=isX_pr e hx
  exact ⟨by rw [List.length_map];exact hl,fun t ht=>⟨a,C,b,t,rfl,by rw [upd_ne (ne_of_none ha ht)];exact ha,upd_same,hb,q _ _ (same_upd ht _) denW_bl⟩⟩) σ H Q h
end
end Z
set_option maxHeartbeats 1000000
namespace Z
open PySem PySem.Spec PyProof.Rows L2
noncomputable abbrev IsZipW (h:Heap) (z TI TO:Addr) (f0:Value) (b:Bool):Prop:=
 h.get? z=some {cls:=.type "zip",dict:=none,data:=.fields #[f0,.bool b,.bool false,.ref TI,.ref TO],slots:= #[]}
noncomputable def RawV (v:Value):Prop:=v= .none∨∃n:Int,v=rawInt n
section
variable {prog:Program}{w:World}{A:Around}{E:Value→Shared→Prop}{s:Shared}{c1 c2:Bool}{z TI TO i1 i2 l1 l2:Addr}{k1 k2:Nat}{xs ys:Array Value}{x y a b f0:Value}{g:Bool}
theorem wpAny_alive {M:Model}{a:Addr}{Q:Option PySem.Obj→Shared→Prop}(h:Q (s.heap.get? a) s):wpAny M A (loadIfAlive a) Q E s:=fun Γ p _=>by
 unfold loadIfAlive
 rw [Sem.wp_loadIfAlive]
 exact h
theorem freeZ {Q:Bool→Shared→Prop}(hz:IsZipW s.heap z TI TO f0 g)(hr:RawV f0)(q1:Q true s)(q2:∀h',IsZipW h' z TI TO f0 true→Heap.SameBut z s.heap h'→Q false {s with heap:=h'}):
  wpAny (model prog w) A (Builtin.SmallTypes.ownedTupleIsFree (.ref z)) Q E s:=by
 unfold Builtin.SmallTypes.ownedTupleIsFree
 rcases hr with rfl | ⟨n,rfl⟩
 ·exact wpAny_bind (wpAny_field hz rfl (x:=.none) rfl (wpAny_pure q1))
 ·refine wpAny_bind (wpAny_field hz rfl (x:=rawInt n) rfl ?_)
  refine wpAny_bind (m:=loadIfAlive n.toNat) (wpAny_alive ?_)
  cases s.heap.get? n.toNat with
  | none=>exact wpAny_pure q1
  | some o=>
   show wpAny _ _ ((field (.ref z) 1) >>=_) _ _ s
   refine wpAny_bind (wpAny_field hz rfl (x:=.bool g) rfl ?_)
   cases g with
   | true=>exact wpAny_pure (q2 _ hz ⟨rfl,fun _ _=>rfl⟩)
   | false=>exact wpAny_bind (wpAny_setField_rec hz (by simp) fun h' e sb=>wpAny_pure (q2 h' e sb))
theorem zipW_item {Q:Value→Shared→Prop}(D:ZipApart z TI TO i1 i2 l1 l2)(hz:IsZipW s.heap z TI TO f0 g)(hr:RawV f0)(hTI:IsPair s.heap TI (.ref i1) (.ref i2))(hTO:IsPair s.heap TO a b)
  (h1:SIt c1 s.heap i1 l1 k1) (h2:SIt c2 s.heap i2 l2 k2) (t1:SSq c1 s.heap l1 xs) (t2:SSq c2 s.heap l2 ys) (hx:xs[k1]? =some x) (hy:ys[k2]? =some y)
  (q:∀h' f0' g',IsZipW h' z TI TO f0' g'→RawV f0'→(∃a b,IsPair h' TO a b)→SIt c1 h' i1 l1 (k1 + 1)→SIt c2 h' i2 l2 (k2 + 1)→IsPair h' s.heap.objs.size x y→h'.objs.size=s.heap.objs.size + 1→
   (∀c o,c≠z→c≠TO→c≠i1→c≠i2→s.heap.get? c=some o→h'.get? c=some o)→Q (.ref s.heap.objs.size) {s with heap:=h'}):
  wpAny (model prog w) A (Builtin.«zip.__next__» ⟨[.ref z],[]⟩) (fun fin s'=>∃v,fin= .done (.ret v)∧Q v s') E s:=by
 refine wpAny_bind (m:=field (.ref z) 2) (wpAny_field hz rfl (x:=.bool false) rfl ?_)
 refine wpAny_bind (m:=field (.ref z) 3) (wpAny_field hz rfl (x:=.ref TI) rfl (wpAny_bind (wpAny_seqItems hTI rfl ?_)))
 refine wpAny_bind (m:=Builtin.SmallTypes.ownedTupleIsFree (.ref z)) (freeZ hz hr ?_ fun h0 z0 s0=>?_)
 ·simp only [if_true]
  refine wpAny_bind (wpAny_rule (wpAny_bind (wpAny_field hz rfl (x:=.ref TO) rfl (wpAny_bind (wpAny_setField_rec hz (by simp) fun ha za sa=>?_)))))
  have za':IsZipW ha z TI TO .ellipsis g:=za
  have ka:∀c o,c≠z→s.heap.get? c=some o→ha.get? c=some o:=fun c o n e=>sa.extBut c o n e
  refine wpAny_bind ?_
  simp only [List.zipIdx_cons,List.zipIdx_nil,List.forIn_cons,List.forIn_nil]
  refine wpAny_bind (wpAny_bind (wpAny_onRaise (wpAny_bind (m:=Builtin.SmallTypes.nextOf (.ref i1)) (nextS_item (sit_on h1 fun o e=>ka _ o D.i1z e) (ssq_on t1 fun o e=>ka _ o D.l1z e) hx fun hb ib sb=>wpAny_pure ?_))))
  have kb:∀c o,c≠z→c≠i1→s.heap.get? c=some o→hb.get? c=some o:=fun c o n n1 e=>sb.extBut c o n1 (ka c o n e)
  have ob:IsPair hb TO a b:=kb _ _ D.TOz D.TOi1 hTO
  refine wpAny_bind (wpAny_seqItems ob rfl (wpAny_bind (wpAny_updateSeq_pair ob fun hc oc sc=>?_)))
  have oc':IsPair hc TO x b:=oc
  have kc:∀c o,c≠z→c≠i1→c≠TO→s.heap.get? c=some o→hc.get? c=some o:=fun c o n n1 n2 e=>sc.extBut c o n2 (kb c o n n1 e)
  refine wpAny_bind (wpAny_letGo (wpAny_pure ?_))
  refine wpAny_bind (wpAny_bind (wpAny_onRaise (wpAny_bind (m:=Builtin.SmallTypes.nextOf (.ref i2)) (nextS_item (sit_on h2 fun o e=>kc _ o D.i2z D.i12.symm D.TOi2.symm e) (ssq_on t2 fun o e=>kc _ o D.l2z D.l2i1 D.l2TO e) hy fun hd id' sd=>wpAny_pure ?_))))
  have od:IsPair hd TO x b:=sd.extBut _ _ D.TOi2 oc'
  refine wpAny_bind (wpAny_seqItems od rfl (wpAny_bind (wpAny_updateSeq_pair od fun he oe se=>?_)))
  have oe':IsPair he TO x y:=oe
  refine wpAny_bind (wpAny_letGo (wpAny_pure (wpAny_pure ?_)))
  refine wpAny_bind (wpAny_seqItems oe' rfl (wpAny_bind (wpAny_newTuple ?_)))
  have size:he.objs.size=s.heap.objs.size:=by rw [se.1,sd.1,sc.1,sb.1,sa.1]
  have ke:∀c o,c≠z→c≠TO→c≠i1→c≠i2→s.heap.get? c=some o→he.get? c=some o:=fun c o n n1 n2 n3 e=>se.extBut c o n1 (sd.extBut c o n3 (kc c o n n2 n1 e))
  have ze:IsZipW he z TI TO .ellipsis g:=se.extBut _ _ D.TOz.symm (sd.extBut _ _ D.i2z.symm (sc.extBut _ _ D.TOz.symm (sb.extBut _ _ D.i1z.symm za')))
  have ie1:SIt c1 he i1 l1 (k1 + 1):=sit_on ib fun o e=>se.extBut _ o D.TOi1.symm (sd.extBut _ o D.i12 (sc.extBut _ o D.TOi1.symm e))
  have ie2:SIt c2 he i2 l2 (k2 + 1):=sit_on id' fun o e=>se.extBut _ o D.TOi2.symm e
  have zlt:z < he.objs.size:=Heap.lt_size ze
  refine wpAny_bind (m:=Builtin.SmallTypes.ownedTupleHandOut (.ref z) (.ref he.objs.size)) ?_
  unfold Builtin.SmallTypes.ownedTupleHandOut
  have zp:IsZipW (he.push {cls:=.type "tuple",data:=.seq #[x,y]}) z TI TO .ellipsis g:=Heap.get?_push_of_some _ ze
  refine wpAny_bind (wpAny_setField_rec zp (by simp) fun hf zf sf=>?_)
  have zf':IsZipW hf z TI TO (rawInt he.objs.size) g:=zf
  refine wpAny_setField_rec zf' (by simp) fun hg zg sg=>?_
  have zg':IsZipW hg z TI TO (rawInt he.objs.size) false:=zg
  have up:∀c o,c≠z→he.get? c=some o→hg.get? c=some o:=fun c o n e=>sg.extBut c o n (sf.extBut c o n (Heap.get?_push_of_some _ e))
  have pg:IsPair hg he.objs.size x y:=sg.extBut _ _ (Nat.ne_of_gt zlt) (sf.extBut _ _ (Nat.ne_of_gt zlt) (Heap.get?_push_size _ rfl))
  have szg:hg.objs.size=he.objs.size + 1:=by rw [sg.1,sf.1,Heap.size_push]
  rw [size] at zg' pg szg
  refine wpAny_pure ⟨_,rfl,?_⟩
  show Q (.ref he.objs.size) _
  rw [size]
  exact q hg _ _ zg' (.inr ⟨_,rfl⟩) ⟨_,_,up _ _ D.TOz oe'⟩ (sit_on ie1 fun o e=>up _ o D.i1z e) (sit_on ie2 fun o e=>up _ o D.i2z e) pg szg fun c o n n1 n2 n3 e=>up c o n (ke c o n n1 n2 n3 e)
 ·simp only [Bool.false_eq_true,if_false]
  have k0:∀c o,c≠z→s.heap.get? c=some o→h0.get? c=some o:=fun c o n e=>s0.extBut c o n e
  refine wpAny_bind ?_
  simp only [List.forIn_toArray,List.forIn_cons,List.forIn_nil]
  refine wpAny_bind (wpAny_bind (wpAny_holding (wpAny_bind (m:=Builtin.SmallTypes.nextOf (.ref i1)) (nextS_item (sit_on h1 fun o e=>k0 _ o D.i1z e) (ssq_on t1 fun o e=>k0 _ o D.l1z e) hx fun hb ib sb=>wpAny_pure (wpAny_pure ?_)))))
  have kb:∀c o,c≠z→c≠i1→s.heap.get? c=some o→hb.get? c=some o:=fun c o n n1 e=>sb.extBut c o n1 (k0 c o n e)
  refine wpAny_bind (wpAny_bind (wpAny_holding (wpAny_bind (m:=Builtin.SmallTypes.nextOf (.ref i2)) (nextS_item (sit_on h2 fun o e=>kb _ o D.i2z D.i12.symm e) (ssq_on t2 fun o e=>kb _ o D.l2z D.l2i1 e) hy fun hd id' sd=>wpAny_pure (wpAny_pure (wpAny_pure ?_))))))
  refine wpAny_bind (m:=newTuple [x,y]) (wpAny_newTuple ?_)
  have size:hd.objs.size=s.heap.objs.size:=by rw [sd.1,sb.1,s0.1]
  have zd:IsZipW hd z TI TO f0 true:=sd.extBut _ _ D.i2z.symm (sb.extBut _ _ D.i1z.symm z0)
  have kd:∀c o,c≠z→c≠TO→c≠i1→c≠i2→s.heap.get? c=some o→hd.get? c=some o:=fun c o n n1 n2 n3 e=>sd.extBut c o n3 (kb c o n n2 e)
  refine wpAny_pure ⟨_,rfl,?_⟩
  show Q (.ref hd.objs.size) _
  have pg:=Heap.get?_push_size hd (o:={cls:=.type "tuple",data:=.seq #[x,y]}) rfl
  rw [size] at pg ⊢
  exact q _ _ _ (Heap.get?_push_of_some _ zd) hr ⟨_,_,Heap.get?_push_of_some _ (sd.extBut _ _ D.TOi2 (kb _ _ D.TOz D.TOi1 hTO))⟩ (sit_on ib fun o e=>Heap.get?_push_of_some _ (sd.extBut _ o D.i12 e)) (sit_on id' fun o e=>Heap.get?_push_of_some _ e) pg (by rw [Heap.size_push,size]) fun c o n n1 n2 n3 e=>Heap.get?_push_of_some _ (kd c o n n1 n2 n3 e)
end
end Z
set_option maxHeartbeats 1000000
namespace Z
open PySem PySem.Spec PyProof.Rows L2
noncomputable def zipWt (c1 c2:Bool) (z TI TO i1 i2 l1 l2:Addr) (i:Nat) (h:Heap):Prop:=(∃f0 g,IsZipW h z TI TO f0 g∧RawV f0)∧IsPair h TI (.ref i1) (.ref i2)∧(∃a b,IsPair h TO a b)∧SIt c1 h i1 l1 i∧SIt c2 h i2 l2 i
section
variable {prog:Program}{w:World}{A:Around}{E:Value→Shared→Prop}{s:Shared}{c1 c2:Bool}{z TI TO i1 i2 l1 l2:Addr}{k:Nat}{xs ys:Array Value}{x y:Value}
theorem zipWt_on {h h':Heap}(D:ZipApart z TI TO i1 i2 l1 l2)(st:zipWt c1 c2 z TI TO i1 i2 l1 l2 k h)(kp:∀c∈[z,TI,TO,i1,i2],∀o,h.get? c=some o→h'.get? c=some o):zipWt c1 c2 z TI TO i1 i2 l1 l2 k h':=by
 obtain ⟨⟨f0,g,e0,r0⟩,e1,⟨a,b,e2⟩,e3,e4⟩:=st
 exact ⟨⟨f0,g,kp z (by simp) _ e0,r0⟩,kp TI (by simp) _ e1,⟨a,b,kp TO (by simp) _ e2⟩,sit_on e3 fun o e=>kp i1 (by simp) o e,sit_on e4 fun o e=>kp i2 (by simp) o e⟩
theorem zipWt_obj {h:Heap}(st:zipWt c1 c2 z TI TO i1 i2 l1 l2 k h):∀b∈[z,TI,TO,i1,i2],∃o,h.get? b=some o∧∀v,o.data≠.cell v:=by
 obtain ⟨⟨f0,g,hz,r0⟩,hTI,⟨a,b',hTO⟩,s1,s2⟩:=st
 obtain ⟨o1,e1,d1⟩:=sit_obj s1
 obtain ⟨o2,e2,d2⟩:=sit_obj s2
 intro b hb
 simp only [List.mem_cons,List.not_mem_nil,or_false] at hb
 rcases hb with rfl | rfl | rfl | rfl | rfl
 ·exact ⟨_,hz,fun v z=>nomatch z⟩
 ·exact ⟨_,hTI,fun v z=>nomatch z⟩
 ·exact ⟨_,hTO,fun v z=>nomatch z⟩
 ·exact ⟨_,e1,d1⟩
 ·exact ⟨_,e2,d2⟩
theorem nextZW_item {Q:Value→Shared→Prop}(D:ZipApart z TI TO i1 i2 l1 l2)(st:zipWt c1 c2 z TI TO i1 i2 l1 l2 k s.heap)(t1:SSq c1 s.heap l1 xs)(t2:SSq c2 s.heap l2 ys)(hx:xs[k]? =some x)(hy:ys[k]? =some y)
  (q:∀h',zipWt c1 c2 z TI TO i1 i2 l1 l2 (k + 1) h'→IsPair h' s.heap.objs.size x y→h'.objs.size=s.heap.objs.size + 1→(∀c o,c∉[z,TI,TO,i1,i2]→s.heap.get? c=some o→h'.get? c=some o)→Q (.ref s.heap.objs.size) {s with heap:=h'}):
  wpAny (model prog w) A (Builtin.SmallTypes.nextOf (.ref z)) Q E s:=by
 obtain ⟨⟨f0,g,hz,r0⟩,hTI,⟨a,b,hTO⟩,s1,s2⟩:=st
 have T:s.TypeIs (.ref z) "zip":=⟨_,hz,rfl⟩
 unfold Builtin.SmallTypes.nextOf
 refine wpAny_bind (wpAny_callSpecial?_slot (name:=Str.ofString "__next__") T F.slot_zip_next (wpAny_call_entry F.slot_zip_next T F.entry_zip_next (zipW_item D hz r0 hTI hTO s1 s2 t1 t2 hx hy fun h' f0' g' b1 b2 b3 b4 b5 b6 b7 b8=>wpAny_pure ?_) (F.args_zip_next_1 _)))
 refine q h' ⟨⟨_,_,b1,b2⟩,b8 _ _ D.TIz D.TITO D.TIi1 D.TIi2 hTI,b3,b4,b5⟩ b6 b7 fun c o hc e=>?_
 simp only [List.mem_cons,List.not_mem_nil,or_false,not_or] at hc
 exact b8 c o hc.1 hc.2.2.1 hc.2.2.2.1 hc.2.2.2.2 e
theorem zipW_end {Q:Fin→Shared→Prop}(hh:A.handled=none)(D:ZipApart z TI TO i1 i2 l1 l2)(st:zipWt c1 c2 z TI TO i1 i2 l1 l2 k s.heap)(t1:SSq c1 s.heap l1 xs)(t2:SSq c2 s.heap l2 ys)(hend:xs[k]? =none∨ys[k]? =none)
  (q:∀h' c,(∀c o,c∉[z,TI,TO,i1,i2]→s.heap.get? c=some o→h'.get? c=some o)→(∃o,h'.get? c=some o∧o.cls= .type "StopIteration")→E (.ref c) {s with heap:=h'}):
  wpAny (model prog w) A (Builtin.«zip.__next__» ⟨[.ref z],[]⟩) Q E s:=by
 obtain ⟨⟨f0,g,hz,r0⟩,hTI,⟨a,b,hTO⟩,h1,h2⟩:=st
 have q':∀h' c,(∀c o,c≠z→c≠TO→c≠i1→c≠i2→s.heap.get? c=some o→h'.get? c=some o)→(∃o,h'.get? c=some o∧o.cls= .type "StopIteration")→E (.ref c) {s with heap:=h'}:=fun h' c k0 e=>q h' c (fun c o hc e0=>by
  simp only [List.mem_cons,List.not_mem_nil,or_false,not_or] at hc
  exact k0 c o hc.1 hc.2.2.1 hc.2.2.2.1 hc.2.2.2.2 e0) e
 clear q
 have apart:∀{h:Heap} {c:Addr} {v:Value} {g:Bool},IsZipW h z TI TO v g→(∃o,h.get? c=some o∧o.cls= .type "StopIteration")→c≠z:=fun {h c v g} hz' ⟨o,e1,e2⟩ n=>by
  subst n
  rw [hz'] at e1
  cases e1
  simp at e2
 refine wpAny_bind (m:=field (.ref z) 2) (wpAny_field hz rfl (x:=.bool false) rfl ?_)
 refine wpAny_bind (m:=field (.ref z) 3) (wpAny_field hz rfl (x:=.ref TI) rfl (wpAny_bind (wpAny_seqItems hTI rfl ?_)))
 refine wpAny_bind (m:=Builtin.SmallTypes.ownedTupleIsFree (.ref z)) (freeZ hz r0 ?_ fun h0 z0 s0=>?_)
 ·simp only [if_true]
  refine wpAny_bind (wpAny_rule (wpAny_bind (wpAny_field hz rfl (x:=.ref TO) rfl (wpAny_bind (wpAny_setField_rec hz (by simp) fun ha za sa=>?_)))))
  have za':IsZipW ha z TI TO .ellipsis g:=za
  have ka:∀c o,c≠z→s.heap.get? c=some o→ha.get? c=some o:=fun c o n e=>sa.extBut c o n e
  refine wpAny_bind ?_
  simp only [List.zipIdx_cons,List.zipIdx_nil,List.forIn_cons,List.forIn_nil]
  cases hx:xs[k]? with
  | none=>
   refine wpAny_bind (wpAny_bind (wpAny_onRaise (wpAny_bind (m:=Builtin.SmallTypes.nextOf (.ref i1)) (nextS_end hh (sit_on h1 fun o e=>ka _ o D.i1z e) (ssq_on t1 fun o e=>ka _ o D.l1z e) hx fun hb c kb hc=>?_))))
   have zb:IsZipW hb z TI TO .ellipsis g:=kb _ _ D.i1z.symm za'
   have nz:=apart zb hc
   obtain ⟨o,eo,co⟩:=hc
   exact wpAny_setField_rec zb (by simp) fun hd _ sd=>q' hd c (fun d o' n _ n2 _ e=>sd.extBut d o' n (kb d o' n2 (ka d o' n e))) ⟨o,sd.extBut _ _ nz eo,co⟩
  | some x=>
   have hy:ys[k]? =none:=hend.resolve_left (by rw [hx];exact fun n=>nomatch n)
   refine wpAny_bind (wpAny_bind (wpAny_onRaise (wpAny_bind (m:=Builtin.SmallTypes.nextOf (.ref i1)) (nextS_item (sit_on h1 fun o e=>ka _ o D.i1z e) (ssq_on t1 fun o e=>ka _ o D.l1z e) hx fun hb ib sb=>wpAny_pure ?_))))
   have kb:∀c o,c≠z→c≠i1→s.heap.get? c=some o→hb.get? c=some o:=fun c o n n1 e=>sb.extBut c o n1 (ka c o n e)
   have ob:IsPair hb TO a b:=kb _ _ D.TOz D.TOi1 hTO
   refine wpAny_bind (wpAny_seqItems ob rfl (wpAny_bind (wpAny_updateSeq_pair ob fun hc oc sc=>?_)))
   have kc:∀c o,c≠z→c≠i1→c≠TO→s.heap.get? c=some o→hc.get? c=some o:=fun c o n n1 n2 e=>sc.extBut c o n2 (kb c o n n1 e)
   refine wpAny_bind (wpAny_letGo (wpAny_pure ?_))
   refine wpAny_bind (wpAny_bind (wpAny_onRaise (wpAny_bind (m:=Builtin.SmallTypes.nextOf (.ref i2)) (nextS_end hh (sit_on h2 fun o e=>kc _ o D.i2z D.i12.symm D.TOi2.symm e) (ssq_on t2 fun o e=>kc _ o D.l2z D.l2i1 D.l2TO e) hy fun hd c kd hc'=>?_))))
   have zd:IsZipW hd z TI TO .ellipsis g:=kd _ _ D.i2z.symm (sc.extBut _ _ D.TOz.symm (sb.extBut _ _ D.i1z.symm za'))
   have nz:=apart zd hc'
   obtain ⟨o,eo,co⟩:=hc'
   exact wpAny_setField_rec zd (by simp) fun hf _ sf=>q' hf c (fun d o' n n1 n2 n3 e=>sf.extBut d o' n (kd d o' n3 (kc d o' n n2 n1 e))) ⟨o,sf.extBut _ _ nz eo,co⟩
 ·simp only [Bool.false_eq_true,if_false]
  have k0:∀c o,c≠z→s.heap.get? c=some o→h0.get? c=some o:=fun c o n e=>s0.extBut c o n e
  refine wpAny_bind ?_
  simp only [List.forIn_toArray,List.forIn_cons,List.forIn_nil]
  cases hx:xs[k]? with
  | none=>
   exact wpAny_bind (wpAny_bind (wpAny_holding (wpAny_bind (m:=Builtin.SmallTypes.nextOf (.ref i1)) (nextS_end hh (sit_on h1 fun o e=>k0 _ o D.i1z e) (ssq_on t1 fun o e=>k0 _ o D.l1z e) hx fun hb c kb hc=>q' hb c (fun d o' n _ n2 _ e=>kb d o' n2 (k0 d o' n e)) hc))))
  | some x=>
   have hy:ys[k]? =none:=hend.resolve_left (by rw [hx];exact fun n=>nomatch n)
   refine wpAny_bind (wpAny_bind (wpAny_holding (wpAny_bind (m:=Builtin.SmallTypes.nextOf (.ref i1)) (nextS_item (sit_on h1 fun o e=>k0 _ o D.i1z e) (ssq_on t1 fun o e=>k0 _ o D.l1z e) hx fun hb ib sb=>wpAny_pure (wpAny_pure ?_)))))
   have kb:∀c o,c≠z→c≠i1→s.heap.get? c=some o→hb.get? c=some o:=fun c o n n1 e=>sb.extBut c o n1 (k0 c o n e)
   exact wpAny_bind (wpAny_bind (wpAny_holding (wpAny_bind (m:=Builtin.SmallTypes.nextOf (.ref i2)) (nextS_end hh (sit_on h2 fun o e=>kb _ o D.i2z D.i12.symm e) (ssq_on t2 fun o e=>kb _ o D.l2z D.l2i1 e) hy fun hd c kd hc'=>q' hd c (fun d o' n n1 n2 n3 e=>kd d o' n3 (kb d o' n n2 e)) hc'))))
theorem nextZW_end {Q:Value→Shared→Prop}(hh:A.handled=none)(D:ZipApart z TI TO i1 i2 l1 l2)(st:zipWt c1 c2 z TI TO i1 i2 l1 l2 k s.heap)(t1:SSq c1 s.heap l1 xs)(t2:SSq c2 s.heap l2 ys)(hend:xs[k]? =none∨ys[k]? =none)
  (q:∀h' c,(∀c o,c∉[z,TI,TO,i1,i2]→s.heap.get? c=some o→h'.get? c=some o)→(∃o,h'.get? c=some o∧o.cls= .type "StopIteration")→E (.ref c) {s with heap:=h'}):
  wpAny (model prog w) A (Builtin.SmallTypes.nextOf (.ref z)) Q E s:=by
 obtain ⟨f0,g,hz,r0⟩:=st.1
 have T:s.TypeIs (.ref z) "zip":=⟨_,hz,rfl⟩
 unfold Builtin.SmallTypes.nextOf
 exact wpAny_bind (wpAny_callSpecial?_slot (name:=Str.ofString "__next__") T F.slot_zip_next (wpAny_call_entry F.slot_zip_next T F.entry_zip_next (zipW_end hh D st t1 t2 hend q) (F.args_zip_next_1 _)))
noncomputable abbrev fpZ (z TI TO i1 i2:Addr):List Addr:=[z,TI,TO,i1,i2]
theorem enumZ_next {en:Addr}{old:Value}{Q:Value→Shared→Prop}(hE:IsEnum s.heap en z k old)(D:ZipApart z TI TO i1 i2 l1 l2)(st:zipWt c1 c2 z TI TO i1 i2 l1 l2 k s.heap)(t1:SSq c1 s.heap l1 xs)(t2:SSq c2 s.heap l2 ys)(hx:xs[k]? =some x)(hy:ys[k]? =some y)(ne:en∉fpZ z TI TO i1 i2)
  (q:∀h' x',IsEnumOut h' en z ((k:Int) + 1) x' (s.heap.objs.size + 1)→zipWt c1 c2 z TI TO i1 i2 l1 l2 (k + 1) h'→IsPair h' s.heap.objs.size x y→h'.get? (s.heap.objs.size + 1)=some {cls:=.type "tuple",data:=.seq #[.int k s.toks,.ref s.heap.objs.size]}→
   (∀b o,b≠en→b∉fpZ z TI TO i1 i2→s.heap.get? b=some o→h'.get? b=some o)→Q (.ref (s.heap.objs.size + 1)) {s with heap:=h',toks:=s.toks + 1}):
  wpAny (model prog w) A (Builtin.«enumerate.__next__» ⟨[.ref en],[]⟩) (fun fin s'=>∃v,fin= .done (.ret v)∧Q v s') E s:=by
 obtain ⟨h0,g,d,tk,os⟩:=s
 refine wpAny_bind (m:=field (.ref en) 2) (wpAny_field hE rfl (x:=.ref z) rfl (wpAny_bind (nextZW_item D st t1 t2 hx hy fun h1 c1' p1 z1 s1=>?_)))
 have s1:∀c o,c∉fpZ z TI TO i1 i2→h0.get? c=some o→h1.get? c=some o:=s1
 have z1:h1.objs.size=h0.objs.size + 1:=z1
 have p1:IsPair h1 h0.objs.size x y:=p1
 have e1:IsEnum h1 en z k old:=s1 en _ ne hE
 refine wpAny_bind (m:=field (.ref en) 3) (wpAny_field e1 rfl (x:=rawInt k) rfl (wpAny_bind (m:=field (.ref en) 4) (wpAny_field e1 rfl (x:=.none) rfl (wpAny_bind (m:=mkInt k) (wpAny_mkInt ?_)))))
 refine wpAny_bind (m:=setField (.ref en) 3 (rawInt ((k:Int) + 1))) (wpAny_setField_rec e1 (by simp) fun h2 e2 s2=>?_)
 have s2:Heap.SameBut en h1 h2:=s2
 have e2:IsEnum h2 en z ((k:Int) + 1) old:=e2
 refine wpAny_bind (m:=setField (.ref en) 4 .none) (wpAny_setField_rec e2 (by simp) fun h3 e3 s3=>?_)
 have s3:Heap.SameBut en h2 h3:=s3
 have e3:IsEnum h3 en z ((k:Int) + 1) old:=e3
 refine wpAny_bind (m:=newTuple [.int k tk,.ref h0.objs.size]) (wpAny_newTuple ?_)
 have e4:IsEnum (h3.push {cls:=.type "tuple",data:=.seq #[.int k tk,.ref h0.objs.size]}) en z ((k:Int) + 1) old:=Heap.get?_push_of_some _ e3
 have z3:h3.objs.size=h0.objs.size + 1:=by rw [s3.1,s2.1,z1]
 have lt:en < h0.objs.size:=Heap.lt_size hE
 generalize g4:h3.push {cls:=.type "tuple",data:=.seq #[.int k tk,.ref h0.objs.size]}=h4 at e4
 have t4:h4.get? (h0.objs.size + 1)=some {cls:=.type "tuple",data:=.seq #[.int k tk,.ref h0.objs.size]}:=by rw [←g4,←z3];exact Heap.get?_push_size _ rfl
 have k34:∀b o,b≠en→h1.get? b=some o→h4.get? b=some o:=fun b o n1 e=>by rw [←g4];exact Heap.get?_push_of_some _ (s3.extBut b o n1 (s2.extBut b o n1 e))
 rw [z3]
 refine wpAny_bind (m:=Builtin.SmallTypes.ownedTupleIsFree (.ref en)) ?_
 unfold Builtin.SmallTypes.ownedTupleIsFree
 refine wpAny_bind (wpAny_field e4 rfl (x:=.none) rfl (wpAny_pure ?_))
 simp only [if_true]
 refine wpAny_bind (wpAny_rule (wpAny_bind (wpAny_field e4 rfl (x:=old) rfl (wpAny_bind (wpAny_setField_rec e4 (by simp) fun h5 e5 s5=>?_)))))
 have s5:Heap.SameBut en h4 h5:=s5
 have e5:IsEnum h5 en z ((k:Int) + 1) (.ref h0.objs.size):=e5
 refine wpAny_bind (m:=Builtin.SmallTypes.ownedTupleHandOut (.ref en) (.ref (h0.objs.size + 1))) ?_
 unfold Builtin.SmallTypes.ownedTupleHandOut
 refine wpAny_bind (wpAny_setField_rec e5 (by simp) fun h6 e6 s6=>?_)
 have s6:Heap.SameBut en h5 h6:=s6
 have e6:IsEnumOut h6 en z ((k:Int) + 1) (.ref h0.objs.size) (h0.objs.size + 1):=e6
 refine wpAny_setField_rec e6 (by simp) fun h7 e7 s7=>?_
 have s7:Heap.SameBut en h6 h7:=s7
 have up:∀b o,b≠en→h4.get? b=some o→h7.get? b=some o:=fun b o n e=>s7.extBut b o n (s6.extBut b o n (s5.extBut b o n e))
 have nz:∀c∈fpZ z TI TO i1 i2,c≠en:=fun c hc e=>ne (e▸hc)
 exact wpAny_bind (wpAny_letGo (wpAny_pure ⟨_,rfl,q h7 _ e7 (zipWt_on D c1' fun c hc o e=>up c o (nz c hc) (k34 c o (nz c hc) e)) (up _ _ (Nat.ne_of_gt lt) (k34 _ _ (Nat.ne_of_gt lt) p1)) (up _ _ (Nat.ne_of_gt (Nat.lt_succ_of_lt lt)) t4) fun b o n1 n2 e=>up b o n1 (k34 b o n1 (s1 b o n2 e))⟩))
theorem nextEZ_item {en:Addr}{old:Value}{Q:Option Value→Shared→Prop}(hE:IsEnum s.heap en z k old)(D:ZipApart z TI TO i1 i2 l1 l2)(st:zipWt c1 c2 z TI TO i1 i2 l1 l2 k s.heap)(t1:SSq c1 s.heap l1 xs)(t2:SSq c2 s.heap l2 ys)(hx:xs[k]? =some x)(hy:ys[k]? =some y)(ne:en∉fpZ z TI TO i1 i2)
  (q:∀h' x',IsEnumOut h' en z ((k:Int) + 1) x' (s.heap.objs.size + 1)→zipWt c1 c2 z TI TO i1 i2 l1 l2 (k + 1) h'→IsPair h' s.heap.objs.size x y→h'.get? (s.heap.objs.size + 1)=some {cls:=.type "tuple",data:=.seq #[.int k s.toks,.ref s.heap.objs.size]}→
   (∀b o,b≠en→b∉fpZ z TI TO i1 i2→s.heap.get? b=some o→h'.get? b=some o)→Q (some (.ref (s.heap.objs.size + 1))) {s with heap:=h',toks:=s.toks + 1}):wpAny (model prog w) A (pyNext (.ref en)) Q E s:=by
 have T:s.TypeIs (.ref en) "enumerate":=⟨_,hE,rfl⟩
 unfold pyNext
 exact wpAny_bind (wpAny_attempt (wpAny_callSpecial?_slot (name:=Str.ofString "__next__") T F.slot_enumerate_next (wpAny_call_entry F.slot_enumerate_next T F.entry_enumerate_next (enumZ_next hE D st t1 t2 hx hy ne fun h' x' a b c d kp=>wpAny_pure (q h' x' a b c d kp)) (F.args_enumerate_next_1 _))))
theorem nextEZ_end {en:Addr}{old:Value}{Q:Option Value→Shared→Prop}(hh:A.handled=none)(hE:IsEnum s.heap en z k old)(D:ZipApart z TI TO i1 i2 l1 l2)(st:zipWt c1 c2 z TI TO i1 i2 l1 l2 k s.heap)(t1:SSq c1 s.heap l1 xs)(t2:SSq c2 s.heap l2 ys)(hend:xs[k]? =none∨ys[k]? =none)
  (q:∀h',(∀b o,b∉fpZ z TI TO i1 i2→s.heap.get? b=some o→h'.get? b=some o)→Q none {s with heap:=h'}):wpAny (model prog w) A (pyNext (.ref en)) Q E s:=by
 have T:s.TypeIs (.ref en) "enumerate":=⟨_,hE,rfl⟩
 unfold pyNext
 refine wpAny_bind (wpAny_attempt (wpAny_callSpecial?_slot (name:=Str.ofString "__next__") T F.slot_enumerate_next (wpAny_call_entry F.slot_enumerate_next T F.entry_enumerate_next ?_ (F.args_enumerate_next_1 _))))
 refine wpAny_bind (m:=field (.ref en) 2) (wpAny_field hE rfl (x:=.ref z) rfl (wpAny_bind (nextZW_end hh D st t1 t2 hend fun h' x kp ⟨o,eo,co⟩=>?_)))
 exact wpAny_bind (wpAny_isInstance (T:="StopIteration") (b:=true) ⟨o,eo,co⟩ isSubtype_stop (wpAny_pure (q _ kp)))
end
end Z
set_option maxHeartbeats 1000000
namespace Z
open PySem PySem.Spec PyProof.Rows L2
section
variable {prog:Program}{w:World}{A:Around}{E:Value→Shared→Prop}{s:Shared}
theorem enumZ_new (z TI TO:Addr)(f0:Value):Meets (Builtin.«enumerate.__new__» ⟨[.type "enumerate",.ref z],[]⟩) (fun _ R s=>IsZip s.heap z TI TO f0∧
   R (.ok (.ret (.ref s.heap.objs.size))) {s with heap:=s.heap.push {cls:=.type "enumerate",data:=.fields #[.none,.bool false,.ref z,rawInt 0,.none,.none]}}):=
 .of_wp fun prog w A R s h=>by
  obtain ⟨h0,g,d,tk,os⟩:=s
  obtain ⟨hl,h⟩:=h
  have hsub:=sub_enumerate
  have q1:IsZip (Shared.heap ⟨h0,g,d,tk,os⟩) z TI TO f0:=hl
  wp_walk using wpAny_pyIter_zip q1
  refine wpAny_stack_any fun st=>wpAny_pure ?_
  split
  ·rename_i c _ _ _ _ _
   cases (c == Value.type "enumerate") <;> (wp_walk using wpAny_pyIter_zip q1;exact ⟨_,rfl,h⟩)
  ·wp_walk using wpAny_pyIter_zip q1
   exact ⟨_,rfl,h⟩
theorem call_enumZ {z TI TO:Addr}{f0:Value}{Q:Value→Shared→Prop}(hL:IsZip s.heap z TI TO f0)
  (q:∀h',IsEnum h' s.heap.objs.size z 0 .none→(∀b o,s.heap.get? b=some o→h'.get? b=some o)→Q (.ref s.heap.objs.size) {s with heap:=h'}):
  wpAny (model prog w) A (call (.type "enumerate") [.ref z]) Q E s:=by
 refine callType_new F.called_enumerate (by decide) (F.typeCall_enumerate_1 _) (F.newCall_enumerate_1 _) (fun obj=>F.args_object_init_2 obj _) F.entry_enumerate_new (enumZ_new z TI TO f0) ⟨hL,?_⟩
 have r2:=Heap.get?_push_size s.heap (o:={cls:=.type "enumerate",data:=.fields #[.none,.bool false,.ref z,rawInt 0,.none,.none]}) rfl
 exact ⟨⟨_,r2,rfl⟩,q _ r2 fun b o x=>Heap.get?_push_of_some _ x⟩
end
noncomputable def Itez (c1 c2:Bool) (K:PySem.W.Frag) (l1 l2:Addr):It:=
 ⟨fun i H=>∃xs ys x y,SqK c1 K H l1 xs∧SqK c2 K H l2 ys∧xs[i]? =some x∧ys[i]? =some y,
  fun i H v H'=>∃T U x y,v= .ref U∧T≠U∧H T=none∧H U=none∧H'=upd (upd H T (.tup [x,y])) U (.tup [.int (i:Int),.ref T])∧(∀xs,SqK c1 K H l1 xs→xs[i]? =some x)∧∀ys,SqK c2 K H l2 ys→ys[i]? =some y,
  fun i H=>∃xs ys,SqK c1 K H l1 xs∧SqK c2 K H l2 ys∧(xs[i]? =none∨ys[i]? =none)⟩
noncomputable def enumZT (c1 c2:Bool) (en z TI TO i1 i2 l1 l2:Addr) (i:Nat) (h:Heap):Prop:=(∃old,IsEnum h en z (i:Int) old)∧zipWt c1 c2 z TI TO i1 i2 l1 l2 i h
theorem turn_enumZ {P:Program}{w:World}{K:PySem.W.Frag}{es:List Expr}{kt:Nat}{pt:Pos}{c1 c2:Bool}{en z TI TO i1 i2 l1 l2:Addr}(D:ZipApart z TI TO i1 i2 l1 l2)(ne:en∉fpZ z TI TO i1 i2):
  Turn P w K (.Tuple es kt pt) (Itez c1 c2 K l1 l2) (en :: fpZ z TI TO i1 i2) en (enumZT c1 c2 en z TI TO i1 i2 l1 l2) where
 mem:=List.mem_cons_self
 obj:=fun i h st b hb=>by
  obtain ⟨⟨old,hE⟩,hC⟩:=st
  rcases List.mem_cons.mp hb with rfl | hb
  ·exact ⟨_,hE,fun v z=>nomatch z⟩
  ·exact zipWt_obj hC b hb
 keep:=fun i h h' st kp=>by
  obtain ⟨⟨old,hE⟩,hC⟩:=st
  exact ⟨⟨old,kp en List.mem_cons_self _ hE⟩,zipWt_on D hC fun c hc o e=>kp c (List.mem_cons_of_mem _ hc) o e⟩
 item:=by
  intro X hP hw hK hc i pins s σ H E I hf st hg
  subst hP hw hK
  obtain ⟨xs,ys,x,y,q1,q2,ex,ey⟩:=hg
  obtain ⟨its1,r1,p1⟩:=sqk I q1
  obtain ⟨its2,r2,p2⟩:=sqk I q2
  obtain ⟨u,hu,ru⟩:=r1.get ex
  obtain ⟨v,hv,rv⟩:=r2.get ey
  obtain ⟨⟨old,hE⟩,hC⟩:=st
  have lt1:∀{c o},s.heap.get? c=some o→c < s.heap.objs.size:=fun e=>Heap.lt_size e
  refine nextEZ_item hE D hC p1 p2 (x:=u) (y:=v) (by simpa using hu) (by simpa using hv) ne fun h' x' a1 a2 a3 a4 hk=>⟨_,rfl,?_⟩
  refine wpAny_letOwnedTupleGo_enum a1 fun h2' b1 b2=>?_
  have ltE:=lt1 hE
  have l1:∀{c o},s.heap.get? c=some o→c≠s.heap.objs.size:=fun e=>Nat.ne_of_lt (lt1 e)
  have l2:∀{c o},s.heap.get? c=some o→c≠s.heap.objs.size + 1:=fun e=>Nat.ne_of_lt (Nat.lt_succ_of_lt (lt1 e))
  have n1:s.heap.objs.size≠en:=Nat.ne_of_gt ltE
  have n2:s.heap.objs.size + 1≠en:=Nat.ne_of_gt (Nat.lt_succ_of_lt ltE)
  have kp:∀c o,c∉en :: fpZ z TI TO i1 i2→s.heap.get? c=some o→h2'.get? c=some o:=fun c o hc e=>
   (b2.2 c (fun z=>hc (z▸List.mem_cons_self))).trans (hk c o (fun z=>hc (z▸List.mem_cons_self)) (fun z=>hc (List.mem_cons_of_mem _ z)) e)
  have fr1:H s.heap.objs.size=none:=I.hok.fresh (Nat.le_refl _)
  have fr2:H (s.heap.objs.size + 1)=none:=I.hok.fresh (Nat.le_succ _)
  have tr:∀c w,H c=some w→c∉en :: fpZ z TI TO i1 i2:=fun c w e hc=>by rw [(hf c hc).1] at e;cases e
  have st':enumZT c1 c2 en z TI TO i1 i2 _ _ (i + 1) h2':=⟨⟨_,b1⟩,zipWt_on D a2 fun c hc o e=>(b2.2 c fun z=>ne (z▸hc)).trans e⟩
  have hb3:h2'.get? (s.heap.objs.size + 1)=some {cls:=.type "tuple",data:=.seq #[.int i s.toks,.ref s.heap.objs.size]}:=(b2.2 _ n2).trans a4
  have hb4:h2'.get? s.heap.objs.size=some {cls:=.type "tuple",data:=.seq #[u,v]}:=(b2.2 _ n1).trans a3
  have nn:s.heap.objs.size≠s.heap.objs.size + 1:=Nat.ne_of_lt (Nat.lt_succ_self _)
  have sm:Same H (upd (upd H s.heap.objs.size (.tup [x,y])) (s.heap.objs.size + 1) (.tup [.int (i:Int),.ref s.heap.objs.size])):=(same_upd fr1 _).trans (same_upd (by rw [upd_ne (Ne.symm nn)];exact fr2) _)
  have upn:∀{c w},H c=some w→upd (upd H s.heap.objs.size (.tup [x,y])) (s.heap.objs.size + 1) (.tup [.int (i:Int),.ref s.heap.objs.size]) c=some w:=fun {c w} e=>by
   rw [upd_ne (ne_of_none e fr2),upd_ne (ne_of_none e fr1)];exact e
  have un:Un (frs X.stack) (en :: fpZ z TI TO i1 i2) H (upd (upd H s.heap.objs.size (.tup [x,y])) (s.heap.objs.size + 1) (.tup [.int (i:Int),.ref s.heap.objs.size])) s.heap h2':=⟨fun c o e n hfs hx=>kp c o hx e,fun c o e n hfs hx=>⟨o.slots,kp c o hx e⟩,fun c o e n hx=>by rw [upd_ne (l2 e),upd_ne (l1 e)];exact n,fun c o e hx=>⟨o,kp c o hx e⟩,
   fun c ws e=>upn e,fun c o w e=>upn e,fun c ps e=>⟨#[],by rw [upn e];simp⟩⟩
  have hok:HOk X.prog X.w (upd (upd H s.heap.objs.size (.tup [x,y])) (s.heap.objs.size + 1) (.tup [.int (i:Int),.ref s.heap.objs.size])) h2':=fun c w e=>by
   by_cases hc:c=s.heap.objs.size + 1
   ·subst hc
    rw [upd_same] at e;cases e
    exact ⟨by show 2≤sizeLine;rw [sizeLine_eq];decide,[.int i s.toks,.ref s.heap.objs.size],.cons ⟨_,rfl⟩ (.cons rfl .nil),⟨_,hb3,rfl,⟨_,rfl⟩,rfl⟩⟩
   ·rw [upd_ne hc] at e
    by_cases hc1:c=s.heap.objs.size
    ·subst hc1
     rw [upd_same] at e;cases e
     exact ⟨by show 2≤sizeLine;rw [sizeLine_eq];decide,[u,v],.cons ru (.cons rv .nil),⟨_,hb4,rfl,⟨_,rfl⟩,rfl⟩⟩
    ·rw [upd_ne hc1] at e
     refine (I.hok c w e).stay (fun c' o hc' e'=>kp c' o (by
      rcases hc' with rfl | hc'
      ·exact tr _ _ e
      ·exact tr _ _ hc') e') (fun c' q=>upn q) fun c' ws q=>upn q
  have I1:Inv X pins σ (upd (upd H s.heap.objs.size (.tup [x,y])) (s.heap.objs.size + 1) (.tup [.int (i:Int),.ref s.heap.objs.size])) {s with heap:=h2',toks:=s.toks + 1}:=I.call' (s':={s with heap:=h2',toks:=s.toks + 1}) (ch:=en :: fpZ z TI TO i1 i2) rfl un hok I.bare fun c hc=>⟨(hf c hc).2.2.2.1,(hf c hc).2.1,(hf c hc).2.2.2.2.1,(hf c hc).2.2.2.2.2⟩
  refine ⟨.ref (s.heap.objs.size + 1),_,I1,rfl,⟨_,_,x,y,rfl,nn,fr1,fr2,rfl,fun ws hw=>by rw [sqk_inj I hw q1];exact ex,fun ws hw=>by rw [sqk_inj I hw q2];exact ey⟩,st',fun c hc=>?_⟩
  have ec:∃o,s.heap.get? c=some o:=by
   rcases List.mem_cons.mp hc with rfl | hc
   ·exact ⟨_,hE⟩
   ·obtain ⟨o,e,_⟩:=zipWt_obj hC c hc;exact ⟨o,e⟩
  obtain ⟨o,e⟩:=ec
  rw [upd_ne (l2 e),upd_ne (l1 e)];exact (hf c hc).1
 done:=by
  intro X hP hw hK hc i pins s σ H E I hf st hg
  subst hP hw hK
  obtain ⟨xs,ys,q1,q2,hend⟩:=hg
  obtain ⟨its1,r1,p1⟩:=sqk I q1
  obtain ⟨its2,r2,p2⟩:=sqk I q2
  obtain ⟨⟨old,hE⟩,hC⟩:=st
  refine nextEZ_end (I.ok.hd hc) hE D hC p1 p2 (hend.imp (vals_none r1) (vals_none r2)) fun h' kp=>⟨rfl,?_⟩
  have sub:∀c∈fpZ z TI TO i1 i2,c∈en :: fpZ z TI TO i1 i2:=fun c hc=>List.mem_cons_of_mem _ hc
  have un:Un (frs X.stack) (fpZ z TI TO i1 i2) H H s.heap h':=⟨fun c o e n hfs hx=>kp c o hx e,fun c o e n hfs hx=>⟨o.slots,kp c o hx e⟩,fun c o e n hx=>n,fun c o e hx=>⟨o,kp c o hx e⟩,fun c ws e=>e,fun c o w e=>e,fun c ps e=>⟨#[],by rw [e];simp⟩⟩
  have tr:∀c w,H c=some w→c∉fpZ z TI TO i1 i2:=fun c w e hc=>by rw [(hf c (sub c hc)).1] at e;cases e
  have hok:HOk X.prog X.w H h':=fun c w e=>(I.hok c w e).stay (fun c' o hc' e'=>kp c' o (by
   rcases hc' with rfl | hc'
   ·exact tr _ _ e
   ·exact tr _ _ hc') e') (fun _ q=>q) fun _ _ q=>q
  exact I.call' (s':={s with heap:=h'}) (ch:=fpZ z TI TO i1 i2) rfl un hok I.bare fun c hc=>⟨(hf c (sub c hc)).2.2.2.1,(hf c (sub c hc)).2.1,(hf c (sub c hc)).2.2.2.2.1,(hf c (sub c hc)).2.2.2.2.2⟩
 self:=fun _ _ _ _ _ st h=>wpAny_pyIter_enum st.1.choose_spec h
section
variable {X:Cx}{a b:Expr}{p p2 pos pos2:Pos}{fa:FA}{es:List Expr}{kt:Nat}{pt:Pos}
noncomputable def iEnumZ (K:PySem.W.Frag) (ta:TA):TI:=fun σ H R=>ta σ H fun vs H1=>∃c1 c2 l1 l2,vs=[.ref l1,.ref l2]∧(∃xs,SqK c1 K H1 l1 xs)∧(∃ys,SqK c2 K H1 l2 ys)∧R (Itez c1 c2 K l1 l2) H1
theorem pi_enumZ {ta:TA}(hg:Gl X "zip")(hm:X.mg "zip"=none)(hgE:Gl X "enumerate")(hmE:X.mg "enumerate"=none)(ha:PA X [a,b] ta)(hs:autoParam (starEach [a,b] X.env=(false,eval a X.env) :: starEach [b] X.env) Zau.a2._auto_1)(hpl:autoParam ((backTo pos (starEach [b] X.env)).any (·.1)=false) Zau.a2._auto_1)(hbt:autoParam (bootBuiltins "zip"=some (.type "zip")) Zau.a2._auto_1)
  (hs2:autoParam (starEach [.Call (.Name "zip" p) [a,b] [] pos] X.env=[(false,eval (.Call (.Name "zip" p) [a,b] [] pos) X.env)]) Zau.a2._auto_1) (hbt2:autoParam (bootBuiltins "enumerate"=some (.type "enumerate")) Zau.a2._auto_1):
  PI X (.Tuple es kt pt) (.Call (.Name "enumerate" p2) [.Call (.Name "zip" p) [a,b] [] pos] [] pos2) (iEnumZ X.K ta):=by
 intro pins s σ H R I h
 refine Call_ (ld_blt I hgE hmE hbt2 (PyProof.Rows.callWith_type1 (rest:=[]) ?_ hs2 rfl) (by decide) (by decide))
 rw [hs2]
 refine Calls.spliced_cons ?_
 refine Call_ (ld_blt I hg hm hbt (PyProof.Rows.callWith_type1 (thn (ha pos pins s σ H _ I h) fun us s1 ⟨vs,H1,I1,r1,q1⟩=>?_) hs hpl) (by decide) (by decide))
 obtain ⟨c1,c2,l1,l2,rfl,⟨xs,h1⟩,⟨ys,h2⟩,q⟩:=q1
 obtain ⟨u1,u2,rfl,ru1,ru2⟩:=vals2 r1
 cases ru1
 cases ru2
 obtain ⟨its1,_,p1⟩:=sqk I1 h1
 obtain ⟨its2,_,p2⟩:=sqk I1 h2
 refine call_zipT p1 p2 fun h' d1 d2 d3 d4 d5 d7=>Calls.spliced_nil ?_
 refine call_enumZ (s:={s1 with heap:=h'}) d1 fun h2' f1 f7=>?_
 refine wpAny_pyIter_enum f1 ?_
 have lz:s1.heap.objs.size + 4 < h'.objs.size:=Heap.lt_size d1
 have g1:zipWt c1 c2 (s1.heap.objs.size + 4) (s1.heap.objs.size + 2) (s1.heap.objs.size + 3) s1.heap.objs.size (s1.heap.objs.size + 1) l1 l2 0 h2':=⟨⟨_,_,f7 _ _ d1,.inl rfl⟩,f7 _ _ d2,⟨_,_,f7 _ _ d3⟩,sit_on d4 fun o e=>f7 _ o e,sit_on d5 fun o e=>f7 _ o e⟩
 have nm:h'.objs.size∉fpZ (s1.heap.objs.size + 4) (s1.heap.objs.size + 2) (s1.heap.objs.size + 3) s1.heap.objs.size (s1.heap.objs.size + 1):=fun hc=>by
  simp only [List.mem_cons,List.not_mem_nil,or_false] at hc;(first|lia|omega)
 refine ⟨_,h'.objs.size :: fpZ (s1.heap.objs.size + 4) (s1.heap.objs.size + 2) (s1.heap.objs.size + 3) s1.heap.objs.size (s1.heap.objs.size + 1),_,_,H1,rfl,I1.kept (t':=s1.toks) fun c o e0=>f7 c o (d7 c o e0),turn_enumZ (zipApart_new (ssq_lt p1) (ssq_lt p2)) nm,⟨⟨_,f1⟩,g1⟩,fun c hc=>?_,q⟩
 have le:s1.heap.objs.size≤c:=by simp only [List.mem_cons,List.not_mem_nil,or_false] at hc;rcases hc with h | h | h | h | h | h <;> (rw [h];first | exact Nat.le_add_right _ _ | exact Nat.le_refl _ | (first|lia|omega))
 exact I1.fpOk le (I1.hok.fresh le)
noncomputable def ezD (xs ys:List D):List D:=enumD (zipD xs ys)
noncomputable def fiEnumZ (fa:FA):FI:=fun ρ=>(fa ρ).bind fun p=>(takeAll p.2 p.1).bind fun q=>match q.1 with
 | [x,y]=>(items x).bind fun xs=>(items y).map fun ys=>(ezD xs ys,q.2)
 | _=>none
theorem qi_enumZ (hmE:X.mg "enumerate"=none)(hm:X.mg "zip"=none)(ha:QA X [a,b] fa)(hgE:autoParam (Gl X "enumerate") Zau.a2._auto_1)(hg:autoParam (Gl X "zip") Zau.a2._auto_1)(hs:autoParam (starEach [a,b] X.env=(false,eval a X.env) :: starEach [b] X.env) Zau.a2._auto_1)(hpl:autoParam ((backTo pos (starEach [b] X.env)).any (·.1)=false) Zau.a2._auto_1)(hbt:autoParam (bootBuiltins "zip"=some (.type "zip")) Zau.a2._auto_1)
  (hs2:autoParam (starEach [.Call (.Name "zip" p) [a,b] [] pos] X.env=[(false,eval (.Call (.Name "zip" p) [a,b] [] pos) X.env)]) Zau.a2._auto_1) (hbt2:autoParam (bootBuiltins "enumerate"=some (.type "enumerate")) Zau.a2._auto_1):
  QI X (.Tuple es kt pt) (.Call (.Name "enumerate" p2) [.Call (.Name "zip" p) [a,b] [] pos] [] pos2) (fiEnumZ fa):=⟨PI.weak (pi_enumZ hg hm hgE hmE ha.to hs hpl hbt hs2 hbt2) fun σ H R h0=>tIe h0 fun P O L ρ xs ρ' r e q=>by
 unfold fiEnumZ at e
 obtain ⟨⟨ws,ρ1⟩,e1,e⟩:=obs e
 dsimp only at e
 obtain ⟨⟨ds,ρ2⟩,e2,e⟩:=obs e
 dsimp only at e
 split at e
 ·rename_i x y
  cases e3:items x with
  | none=>rw [e3] at e;cases e
  | some xs'=>
   cases e4:items y with
   | none=>rw [e3,e4] at e;cases e
   | some ys'=>
    rw [e3,e4] at e;cases e
    refine ⟨P,O,L,ρ,ws,ρ1,r,e1,fun vs H1 r1 l1=>?_⟩
    obtain ⟨r2,l2,_⟩:=takeAll_ok r1 e2 l1
    obtain ⟨v,u,rfl,hv,hu⟩:=denL2 l2
    obtain ⟨a1,vs1,rfl,s1,m1⟩:=den_sq e3 hv
    obtain ⟨a2,vs2,rfl,s2,m2⟩:=den_sq e4 hu
    have r3:=(r2.more (p:=(y,.ref a2)) hu).more (p:=(x,.ref a1)) hv
    refine ⟨kd x,kd y,a1,a2,rfl,⟨vs1,s1⟩,⟨vs2,s2⟩,q _ H1 _ r3 (fun p hp=>List.mem_cons_of_mem _ (List.mem_cons_of_mem _ hp)) fun Y O' L' ρ' σ' Hh hY rr=>?_⟩
    have z1:=rr.prot _ List.mem_cons_self
    have z2:=rr.prot _ (List.mem_cons_of_mem _ List.mem_cons_self)
    rw [hY] at z1 z2
    obtain ⟨b1,ws1,ev1,q1,n1⟩:=den_sq e3 z1
    obtain ⟨b2,ws2,ev2,q2,n2⟩:=den_sq e4 z2
    cases ev1;cases ev2
    refine ⟨fun i z ez=>?_,ws1,ws2,q1,q2,?_⟩
    ·unfold ezD enumD zipD at ez
     rw [List.getElem?_mapIdx] at ez
     obtain ⟨zz,ez,ez'⟩:=oms ez
     rw [List.getElem?_zipWith] at ez
     cases g1:xs'[i]? with
     | none=>rw [g1] at ez;cases ez
     | some x0=>
      cases g2:ys'[i]? with
      | none=>rw [g1,g2] at ez;cases ez
      | some y0=>
       rw [g1,g2] at ez
       cases ez
       cases ez'
       obtain ⟨v1,k1,t1⟩:=denL_get n1 g1
       obtain ⟨v2,k2,t2⟩:=denL_get n2 g2
       refine ⟨⟨ws1,ws2,v1,v2,q1,q2,k1,k2⟩,fun w H' ⟨T,U,x1,y1,ew,hTU,hT,hU,eH,f1,f2⟩=>?_⟩
       subst ew eH
       have g3:=f1 ws1 q1
       have g4:=f2 ws2 q2
       rw [k1] at g3;cases g3
       rw [k2] at g4;cases g4
       have sm1:=same_upd hT (.tup [v1,v2])
       have hU':upd Hh T (.tup [v1,v2]) U=none:=by rw [upd_ne (Ne.symm hTU)];exact hU
       have sm2:=same_upd hU' (.tup [.int (i:Int),.ref T])
       have sm:=sm1.trans sm2
       refine ⟨sm,?_⟩
       have dT:Den X.K (AvO O' ρ' σ') (upd (upd Hh T (.tup [v1,v2])) U (.tup [.int (i:Int),.ref T])) (.tup [x0,y0]) (.ref T):=by
        rw [Den]
        exact ⟨T,[v1,v2],rfl,.inl (.inl (by rw [upd_ne hTU];exact upd_same)),denL_cons (den_same sm t1) (denL_cons (den_same sm t2) denL_nil)⟩
       rw [Den]
       exact ⟨U,[.int (i:Int),.ref T],rfl,.inl (.inl upd_same),denL_cons (den_int.mpr rfl) (denL_cons dT denL_nil)⟩
    ·have k1:=denL_length n1
     have k2:=denL_length n2
     unfold ezD enumD zipD
     rw [List.length_mapIdx,List.length_zipWith,List.getElem?_eq_none_iff,List.getElem?_eq_none_iff]
     (first|lia|omega)
 ·cases e⟩
theorem len_ez (xs ys:List D):(ezD xs ys).length=min xs.length ys.length:=by unfold ezD enumD zipD;rw [List.length_mapIdx,List.length_zipWith]
end
end Z
set_option maxHeartbeats 4000000
namespace Z
open PySem PySem.Spec PyProof.Rows L2
noncomputable def lm (m:Nat):List Nat:=(List.range 8).filter m.testBit
noncomputable def tab (b:Bool) (m:Nat):SetTable:=if (lm m).length < 5 then {mask:=7,place:=(lm m).toArray,dummies:= #[],finger:=0,led:=b,moves:=0,plain:=true} else {mask:=31,place:=(lm m).toArray,dummies:= #[],finger:=0,led:=b,moves:=1,plain:=true}
noncomputable def tab1 (b:Bool) (m h:Nat):SetTable:={tab b m with place:=(lm (m ||| 2 ^ h)).toArray}
noncomputable def posM (m h:Nat):Nat:=((lm m).filter (· < h)).length
noncomputable def slotM (m k:Nat):Nat:=if k=0 then 0 else (lm m).getD (k - 1) 0 + 1
noncomputable def intsN (l:List Nat):List Int:=l.map fun (n:Nat)=>(n:Int)
noncomputable def AddOk (b:Bool) (m h:Nat):Prop:=m.testBit h=false→(tab b m).freeSlot h=some (h,false)∧(tab b m).put h=(tab1 b m h,posM m h)∧lm (m ||| 2 ^ h)=(lm m).take (posM m h) ++ h :: (lm m).drop (posM m h)∧(tab1 b m h).fits ((lm m).length + 1)=true∧
 (tab1 b m h).tooFull=decide ((lm m).length=4)∧((lm m).length≠4→tab1 b m h=tab b (m ||| 2 ^ h))∧((lm m).length=4→(tab1 b m h).relaid (intsN (lm (m ||| 2 ^ h))).toArray 20=some (tab b (m ||| 2 ^ h), #[0,1,2,3,4]))
noncomputable instance (b:Bool) (m h:Nat):Decidable (AddOk b m h):=by unfold AddOk;infer_instance
theorem addOk0t:∀m < 256,AddOk true m 0:=by decide +kernel
theorem addOk0f:∀m < 256,AddOk false m 0:=by decide +kernel
theorem addOk1t:∀m < 256,AddOk true m 1:=by decide +kernel
theorem addOk1f:∀m < 256,AddOk false m 1:=by decide +kernel
theorem addOk2t:∀m < 256,AddOk true m 2:=by decide +kernel
theorem addOk2f:∀m < 256,AddOk false m 2:=by decide +kernel
theorem addOk3t:∀m < 256,AddOk true m 3:=by decide +kernel
theorem addOk3f:∀m < 256,AddOk false m 3:=by decide +kernel
theorem addOk4t:∀m < 256,AddOk true m 4:=by decide +kernel
theorem addOk4f:∀m < 256,AddOk false m 4:=by decide +kernel
theorem addOk5t:∀m < 256,AddOk true m 5:=by decide +kernel
theorem addOk5f:∀m < 256,AddOk false m 5:=by decide +kernel
theorem addOk6t:∀m < 256,AddOk true m 6:=by decide +kernel
theorem addOk6f:∀m < 256,AddOk false m 6:=by decide +kernel
theorem addOk7t:∀m < 256,AddOk true m 7:=by decide +kernel
theorem addOk7f:∀m < 256,AddOk false m 7:=by decide +kernel
theorem addOk {m h:Nat}(hm:m < 256)(hh:h < 8)(b:Bool):AddOk b m h:=by
 have hc:h=0∨h=1∨h=2∨h=3∨h=4∨h=5∨h=6∨h=7:=by (first|lia|omega)
 rcases hc with rfl | rfl | rfl | rfl | rfl | rfl | rfl | rfl <;> cases b
 ·exact addOk0f m hm
 ·exact addOk0t m hm
 ·exact addOk1f m hm
 ·exact addOk1t m hm
 ·exact addOk2f m hm
 ·exact addOk2t m hm
 ·exact addOk3f m hm
 ·exact addOk3t m hm
 ·exact addOk4f m hm
 ·exact addOk4t m hm
 ·exact addOk5f m hm
 ·exact addOk5t m hm
 ·exact addOk6f m hm
 ·exact addOk6t m hm
 ·exact addOk7f m hm
 ·exact addOk7t m hm
theorem tab_fits:∀m < 256,∀b,(tab b m).fits (lm m).length=true:=by decide +kernel
theorem below_slot:∀m < 256,∀k < 9,k≤(lm m).length→SetTable.below (lm m).toArray (slotM m k)=k:=by decide +kernel
theorem or_lt:∀m < 256,∀h < 8,m ||| 2 ^ h < 256:=by decide +kernel
theorem or_in:∀m < 256,∀h < 8,m.testBit h=true→m ||| 2 ^ h=m:=by decide +kernel
theorem mem_lm {m n:Nat}:n∈lm m↔n < 8∧m.testBit n=true:=by unfold lm;rw [List.mem_filter,List.mem_range]
theorem lm_len (m:Nat):(lm m).length≤8:=by unfold lm;exact Nat.le_trans (List.length_filter_le _ _) (by simp)
theorem lm_pw (m:Nat):(lm m).Pairwise (· < ·):=List.Pairwise.filter _ List.pairwise_lt_range
theorem tab_place (b:Bool)(m:Nat):(tab b m).place=(lm m).toArray:=by unfold tab;split <;> rfl
theorem tab_plain (b:Bool)(m:Nat):(tab b m).plain=true:=by unfold tab;split <;> rfl
theorem tab_led (b:Bool)(m:Nat):(tab b m).led=b:=by unfold tab;split <;> rfl
end Z
set_option maxHeartbeats 3200000
namespace Z
open PySem PySem.Spec PyProof.Rows L2
inductive EsOk:List (Int×Value)→List Nat→Prop where
 | nil:EsOk [] []
 | cons {e:Int×Value} {n:Nat} {es:List (Int×Value)} {l:List Nat} (h:e.1=(n:Int)∧∃t,e.2= .int n t) (r:EsOk es l):EsOk (e :: es) (n :: l)
noncomputable abbrev byT (w:World):Bool:=w.params.followText "set-order"
noncomputable def setObjM (es:Array (Int×Value)) (ep:Nat) (t:SetTable):PySem.Obj:={cls:=.type "set",dict:=none,data:=.set es ep t,slots:= #[]}
noncomputable def SetM (w:World) (h:Heap) (a:Addr) (m:Nat):Prop:=m < 256∧∃es ep,h.get? a=some (setObjM es ep (tab (!byT w) m))∧EsOk es.toList (lm m)
theorem hash8:∀n < 8,hashInt (n:Nat)=(n:Nat):=by decide +kernel
section
variable {prog:Program}{w:World}{A:Around}{E:Value→Shared→Prop}{s:Shared}{a:Addr}{m n:Nat}{es:Array (Int×Value)}{l:List Nat}
theorem EsOk.len {es:List (Int×Value)}(h:EsOk es l):es.length=l.length:=by
 induction h with
 | nil=>rfl
 | cons _ _ ih=>rw [List.length_cons,List.length_cons,ih]
theorem EsOk.elems:∀{es:List (Int×Value)} {l:List Nat},EsOk es l→(∀n∈l,n < 8)→ElemsOf (intKind prog w) es
 | _,_,.nil,_=>fun e he=>nomatch he
 | _,_,.cons (e:=e) (n:=n) ⟨h1,t,h2⟩ r,hl=>fun x hx=>by
  rcases List.mem_cons.mp hx with rfl | hx
  ·refine ⟨⟨(n:Int),by rw [h2];exact intKind_is _ _ _ _,?_⟩,by rw [h2];rfl⟩
   rw [h1];exact (hash8 n (hl n List.mem_cons_self)).symm
  ·exact EsOk.elems r (fun k hk=>hl k (List.mem_cons_of_mem _ hk)) x hx
theorem EsOk.find:∀{es:List (Int×Value)} {l:List Nat},EsOk es l→(∃j,es.findIdx? (fun e=>(intKind prog w).is (n:Int) e.2)=some j)∧n∈l∨es.findIdx? (fun e=>(intKind prog w).is (n:Int) e.2)=none∧n∉l
 | _,_,.nil=>.inr ⟨rfl,fun h=>nomatch h⟩
 | _,_,.cons (e:=e) (n:=k) ⟨h1,t,h2⟩ r=>by
  have his:(intKind prog w).is (n:Int) e.2=decide (n=k):=by
   rw [h2,KeyKind.is_eq_decide (knd:=intKind prog w) (intKind_is _ _ _ _) (n:Int)]
   by_cases h:n=k
   ·subst h;simp
   ·rw [decide_eq_false h,decide_eq_false (by (first|lia|omega))]
  by_cases h:n=k
  ·subst h
   exact .inl ⟨⟨0,by rw [List.findIdx?_cons,his,decide_eq_true rfl];rfl⟩,List.mem_cons_self⟩
  ·rw [List.findIdx?_cons,his,decide_eq_false h]
   rcases EsOk.find r with ⟨⟨j,ej⟩,hm⟩ | ⟨ej,hm⟩
   ·exact .inl ⟨⟨j + 1,by rw [ej];rfl⟩,List.mem_cons_of_mem _ hm⟩
   ·exact .inr ⟨by rw [ej];rfl,fun z=>(List.mem_cons.mp z).elim h hm⟩
theorem EsOk.take:∀{xs:List (Int×Value)} {ys:List Nat} (k:Nat),EsOk xs ys→EsOk (xs.take k) (ys.take k)
 | _,_,0,_=>by rw [List.take_zero,List.take_zero];exact .nil
 | _,_,k + 1,.nil=>by rw [List.take_nil,List.take_nil];exact .nil
 | _,_,k + 1,.cons h t=>by rw [List.take_succ_cons,List.take_succ_cons];exact .cons h (EsOk.take k t)
theorem EsOk.drop:∀{xs:List (Int×Value)} {ys:List Nat} (k:Nat),EsOk xs ys→EsOk (xs.drop k) (ys.drop k)
 | _,_,0,h=>by rw [List.drop_zero,List.drop_zero];exact h
 | _,_,k + 1,.nil=>by rw [List.drop_nil,List.drop_nil];exact .nil
 | _,_,k + 1,.cons h t=>by rw [List.drop_succ_cons,List.drop_succ_cons];exact EsOk.drop k t
theorem EsOk.app:∀{xs xs':List (Int×Value)} {ys ys':List Nat},EsOk xs ys→EsOk xs' ys'→EsOk (xs ++ xs') (ys ++ ys')
 | _,_,_,_,.nil,h=>h
 | _,_,_,_,.cons h t,h'=>.cons h (EsOk.app t h')
theorem insertAt_list {α:Type}(xs:Array α)(p:Nat)(x:α)(hp:p≤xs.size):(SetTable.insertAt xs p x).toList=xs.toList.take p ++ x :: xs.toList.drop p:=by
 unfold SetTable.insertAt
 simp [Array.toList_extract]
 rw [List.take_of_length_le (by simp)]
theorem filterMap_all (es:Array (Int×Value))(h:es.size=5):(#[0,1,2,3,4]:Array Nat).filterMap (es[·]?)=es:=by
 obtain ⟨l⟩:=es
 match l,h with
 | [a,b,c,d,e],_=>rfl
theorem addM {t:Tok}{Q:Bool→Shared→Prop}(hn:n < 8)(S:SetM w s.heap a m)(q:∀r h',Heap.SameBut a s.heap h'→SetM w h' a (m ||| 2 ^ n)→Q r {s with heap:=h'}):
  wpAny (model prog w) A (setAddHashed a (.int n t) (n:Int)) Q E s:=by
 obtain ⟨hm,es,ep,ho,hes⟩:=S
 have hl8:∀k∈lm m,k < 8:=fun k hk=>(mem_lm.mp hk).1
 have hel:ElemsOf (intKind prog w) es.toList:=hes.elems hl8
 have hsz:es.size=(lm m).length:=by rw [←Array.length_toList];exact hes.len
 have hf:(tab (!byT w) m).fits es.size=true:=by rw [hsz];exact tab_fits m hm _
 have hkey:(intKind prog w).is (n:Int) (.int n t)=true:=intKind_is _ _ _ _
 have hb:es.size < scanBound:=by rw [hsz];exact Nat.lt_of_le_of_lt (lm_len m) (by decide)
 have hh:hashInt (n:Nat)=(n:Nat):=hash8 n hn
 unfold setAddHashed setAddHashedIn
 refine wpAny_holding (wpAny_bind (wpAny_setState_of ho rfl hf ?_))
 dsimp only
 rw [byScan_of (knd:=intKind prog w) (x:=.int n t) rfl hb hel]
 simp only [↓reduceIte]
 unfold setAddByScan
 refine wpAny_bind ?_
 refine wpAny_bind (wpAny_rule ?_)
 have sc:=wpAny_setScan_of (A:=A) (E:=E) (prog:=prog) (w:=w) (knd:=intKind prog w) (s:=s) (adding:=true) hkey ho rfl hf hel (Q:=fun r s'=>s'=s∧(((∃j,r= .found j)∧n∈lm m)∨r= .absent∧n∉lm m)) (by
  rcases hes.find (prog:=prog) (w:=w) (n:=n) with ⟨⟨j,ej⟩,hin⟩ | ⟨ej,hin⟩
  ·rw [ej];exact ⟨rfl,.inl ⟨⟨_,rfl⟩,hin⟩⟩
  ·rw [ej];exact ⟨rfl,.inr ⟨rfl,hin⟩⟩)
 rw [show (intKind prog w).hash (n:Int)=(n:Int) from hh] at sc
 refine wpAny_bind (wpAny_mono sc (fun r s' ⟨es',hr⟩=>es'▸?_) fun _ _ z=>z)
 clear es'
 have ese:s={s with heap:=s.heap}:=by cases s;rfl
 rcases hr with ⟨⟨j,rfl⟩,hin⟩ | ⟨rfl,hin⟩
 ·dsimp only
  refine wpAny_pure (wpAny_pure ?_)
  rw [ese]
  refine q _ s.heap (Heap.SameBut.refl a s.heap) ?_
  rw [or_in m hm n hn (mem_lm.mp hin).2]
  exact ⟨hm,es,ep,ho,hes⟩
 ·dsimp only
  have hbit:m.testBit n=false:=by
   cases hb':m.testBit n with
   | false=>rfl
   | true=>exact absurd (mem_lm.mpr ⟨hn,hb'⟩) hin
  obtain ⟨a1,a2,a3,a4,a5,a6,a7⟩:=addOk hm hn (!byT w) hbit
  have pl:posM m n≤es.size:=by rw [hsz];unfold posM;exact List.length_filter_le _ _
  have hL:layNew (tab (!byT w) m) es (n:Int) (.int n t)=(SetTable.insertAt es (posM m n) ((n:Int),.int n t),tab1 (!byT w) m n,false,false):=by
   have hs1:(SetTable.insertAt es (posM m n) ((n:Int),Value.int n t)).size=(lm m).length + 1:=by
    rw [←Array.length_toList,insertAt_list _ _ _ pl]
    simp only [List.length_append,List.length_cons,List.length_take,List.length_drop,Array.length_toList]
    (first|lia|omega)
   unfold layNew
   rw [a1]
   dsimp only
   rw [a2]
   dsimp only
   rw [hs1]
   unfold SetTable.orStandIn
   rw [if_pos a4,a4];rfl
  have hes1:EsOk (SetTable.insertAt es (posM m n) ((n:Int),.int n t)).toList (lm (m ||| 2 ^ n)):=by
   rw [insertAt_list _ _ _ pl,a3]
   exact (hes.take _).app (.cons ⟨rfl,t,rfl⟩ (hes.drop _))
  rw [hL]
  generalize hE1:SetTable.insertAt es (posM m n) ((n:Int),Value.int n t)=es1 at hes1
  have hsz1:es1.size=(lm (m ||| 2 ^ n)).length:=by rw [←Array.length_toList];exact hes1.len
  have hln:(lm (m ||| 2 ^ n)).length=(lm m).length + 1:=by rw [a3];simp only [List.length_append,List.length_cons,List.length_take,List.length_drop];rw [hsz] at pl;(first|lia|omega)
  have hz1:es1.size≤sizeLine:=by rw [hsz1,sizeLine_eq];have:=lm_len (m ||| 2 ^ n);(first|lia|omega)
  have pl1:(tab1 (!byT w) m n).plain=true:=tab_plain _ _
  dsimp only
  refine wpAny_bind (m:=pure ()) (wpAny_pure ?_)
  rw [if_pos pl1]
  refine wpAny_bind (m:=hashByValue 8 (.int n t)) ?_
  rw [hashByValue_scannable 8 (x:=.int n t) rfl]
  refine wpAny_pure ?_
  have pk:plainKind (Value.int (n:Int) t)=true:=rfl
  simp only [pk,if_true]
  refine wpAny_bind (wpAny_storeSet_of ho rfl ?_ hz1)
  have g1:(s.heap.update a (Obj.putSet es1 (tab1 (!byT w) m n))).get? a=some (setObjM es1 (ep + 1) (tab1 (!byT w) m n)):=by
   have:=Heap.get?_update_self (Obj.putSet es1 (tab1 (!byT w) m n)) ho (by rw [putSet_of es1 _ rfl];rfl)
   rw [putSet_of es1 _ rfl] at this;exact this
  have sb1:=Heap.SameBut.update s.heap a (Obj.putSet es1 (tab1 (!byT w) m n))
  have hlt:=or_lt m hm n hn
  rw [a5]
  by_cases h4:(lm m).length=4
  ·rw [decide_eq_true h4]
   have h5:es1.size=5:=by rw [hsz1,hln,h4]
   have hR:relayAll (tab1 (!byT w) m n) es1 (SetTable.grown es1.size)=(es1,tab (!byT w) (m ||| 2 ^ n),false):=by
    have hx:(es1.map (·.1))=(intsN (lm (m ||| 2 ^ n))).toArray:=by
     have:∀{es:List (Int×Value)} {l:List Nat},EsOk es l→es.map (·.1)=intsN l:=fun h=>by
      induction h with
      | nil=>rfl
      | cons h _ ih=>rw [List.map_cons,ih,h.1];rfl
     have:=this hes1
     rw [←this]
     apply Array.ext'
     simp
    unfold relayAll
    rw [hx,h5,show SetTable.grown 5=20 from rfl,a7 h4]
    dsimp only
    rw [filterMap_all es1 h5]
    have c1:coversAll #[0,1,2,3,4] 5=true:=by decide +kernel
    have c2:(tab (!byT w) (m ||| 2 ^ n)).fits es1.size=true:=by rw [hsz1];exact tab_fits _ hlt _
    rw [c1,c2];rfl
   simp only [Bool.not_false,Bool.and_self,if_true]
   rw [hR]
   dsimp only
   refine wpAny_bind (m:=pure ()) (wpAny_pure ?_)
   refine wpAny_bind (wpAny_storeSet_of g1 rfl ?_ hz1)
   refine wpAny_pure (wpAny_pure (q _ _ (sb1.trans (Heap.SameBut.update _ a _)) ⟨hlt,es1,ep + 1 + 1,?_,hes1⟩))
   have:=Heap.get?_update_self (Obj.putSet es1 (tab (!byT w) (m ||| 2 ^ n))) g1 (by rw [putSet_of es1 _ rfl];rfl)
   rw [putSet_of es1 _ rfl] at this;exact this
  ·rw [decide_eq_false h4]
   simp only [Bool.and_false,Bool.false_eq_true,if_false]
   refine wpAny_pure (wpAny_pure (q _ _ sb1 ⟨hlt,es1,ep + 1,?_,hes1⟩))
   rw [←a6 h4];exact g1
end
end Z
set_option maxHeartbeats 3200000
namespace Z
open PySem PySem.Spec PyProof.Rows L2
noncomputable def mAll (ns:List Nat):Nat:=ns.foldl (fun m n=>m ||| 2 ^ n) 0
theorem mAll_snoc {ns:List Nat}{n i:Nat}(h:ns[i]? =some n):mAll (ns.take (i + 1))=mAll (ns.take i) ||| 2 ^ n:=by
 unfold mAll
 rw [List.take_succ,h,List.foldl_append];rfl
theorem mAll_bit {ns:List Nat}{k:Nat}:(mAll ns).testBit k=decide (k∈ns):=by
 unfold mAll
 have key:∀(ns:List Nat) (m:Nat),(ns.foldl (fun m n=>m ||| 2 ^ n) m).testBit k=(m.testBit k || decide (k∈ns)):=by
  intro ns
  induction ns with
  | nil=>intro m;simp
  | cons n ns ih=>
   intro m
   rw [List.foldl_cons,ih,Nat.testBit_or,Nat.testBit_two_pow]
   by_cases h:n=k
   ·subst h;simp
   ·rw [decide_eq_false h,Bool.or_false]
    have:(k∈n :: ns)↔k∈ns:=by rw [List.mem_cons];exact ⟨fun z=>z.elim (fun e=>absurd e.symm h) id,.inr⟩
    rw [show decide (k∈n :: ns)=decide (k∈ns) from decide_eq_decide.mpr this]
 rw [key ns 0];simp
section
variable {prog:Program}{w:World}{A:Around}{R:Result→Shared→Prop}{I:Addr}{fp wr:List Addr}{G:Array GenState→Array GenState→Prop}{P:Nat→Value→Prop}{St:Nat→Shared→Prop}
theorem updM {ns:List Nat}(h8:∀n∈ns,n < 8)(W:WalksS prog w A.in1 I fp wr G ns.length P St)(S:Addr)(hSf:S∉fp)(hval:∀(i:Nat) (v:Value),P i v→∃(n:Nat) (t:Tok),ns[i]? =some n∧v=Value.int n t):
  ∀(k i:Nat) (s:Shared),ns.length - i=k→i≤ns.length→St i s→SetM w s.heap S (mAll (ns.take i))→
   (∀s',Moved (S :: wr) G s s'→SetM w s'.heap S (mAll ns)→R (.ok (.ret .none)) s')→codeAny (model prog w) A (.builtin "set.update.loop" ⟨[.ref S,.ref I],[]⟩) R s:=by
 have hSw:S∉wr:=fun h=>hSf (W.sub _ h)
 have hsub:∀b∈wr,b∈S :: wr:=fun b hb=>List.mem_cons_of_mem _ hb
 intro k
 induction k with
 | zero=>
  intro i s hk hi hst hS hR
  have hin:i=ns.length:=by (first|lia|omega)
  subst hin
  refine codeAny_builtin F.entry_set_update_loop ?_
  rw [Around.under_plainId F.plain_set_update_loop _]
  show wpAny _ A.in1 (pyNext (.ref I) >>=_) _ _ s
  refine wpAny_bind (W.done s _ _ hst fun s' hm=>?_)
  show wpAny _ A.in1 (ret Value.none) _ _ s'
  rw [List.take_length] at hS
  obtain ⟨hl,es,ep,ho,rest⟩:=hS
  exact wpAny_pure (hR s' (hm.mono hsub) ⟨hl,es,ep,hm.heap S _ hSw ho,rest⟩)
 | succ k ih=>
  intro i s hk hi hst hS hR
  have hlt:i < ns.length:=by (first|lia|omega)
  refine codeAny_builtin F.entry_set_update_loop ?_
  rw [Around.under_plainId F.plain_set_update_loop _]
  show wpAny _ A.in1 (pyNext (.ref I) >>=_) _ _ s
  refine wpAny_bind (W.item i s _ _ hlt hst fun v s' hP hst' hm=>?_)
  obtain ⟨n,t,hn,rfl⟩:=hval i v hP
  have hn8:n < 8:=h8 n (List.mem_of_getElem? hn)
  have hS':SetM w s'.heap S (mAll (ns.take i)):=by
   obtain ⟨hl,es,ep,ho,rest⟩:=hS
   exact ⟨hl,es,ep,hm.heap S _ hSw ho,rest⟩
  show wpAny _ A.in1 (holding [Value.int n t] (setAdd S (.int n t)) >>=_) _ _ s'
  refine wpAny_bind (wpAny_holding ?_)
  unfold setAdd
  refine wpAny_holding ?_
  refine wpAny_bind ((intKind prog w).pyHash (k:=(n:Int)) (intKind_is _ _ _ _) ?_)
  rw [show (intKind prog w).hash (n:Int)=(n:Int) from hash8 n hn8]
  refine addM (s:={s' with toks:=s'.toks + 1}) hn8 hS' fun r h' hsb hS2=>?_
  rw [←mAll_snoc hn] at hS2
  refine wpAny_pure ⟨plainId_quiet F.plain_set_update_loop _,ih (i + 1) _ (by (first|lia|omega)) hlt (W.frame _ s' _ _ hst' (Nat.le_succ _) fun b hb o e=>?_) hS2 fun s'' hm'' hS''=>?_⟩
  ·rw [hsb.2 b (fun h:b=S=>hSf (by rw [←h];exact hb))];exact e
  ·refine hR s'' (Moved.trans W.gtrans ((hm.mono hsub).then_heap (Nat.le_succ _) fun b o hb e=>?_) hm'') hS''
   rw [hsb.2 b (fun h:b=S=>hb (by rw [h];exact List.mem_cons_self))];exact e
end
theorem sub_tuple_set:isSubtype (.type "tuple") (.type "set")=pure false:=by rw [isSubtype_type];kernel_rfl
theorem sub_tuple_frozenset:isSubtype (.type "tuple") (.type "frozenset")=pure false:=by rw [isSubtype_type];kernel_rfl
section
variable {prog:Program}{w:World}{A:Around}{E:Value→Shared→Prop}{s:Shared}
theorem code_set_new {a:Value}{Q₁:Value→Shared→Prop}
  (h:Q₁ (.ref s.heap.objs.size) {s with heap:=s.heap.push (setObjM #[] 0 (.fresh 0 0 (!byT w)))}):
  codeAny (model prog w) A (.call (.builtin "set.__new__") ⟨[.type "set",a],[]⟩) (wants Q₁ E) s:=by
 refine codeAny_of_tree ?_
 show wpAny _ A.in1 (do checkBuiltinCall "set.__new__" ⟨[.type "set",a],[]⟩;again (.builtin "set.__new__" ⟨[.type "set",a],[]⟩)) _ _ s
 refine wpAny_bind (wpAny_of_eq (F.newCall_set_1 a) (wpAny_pure ⟨plainId_quiet F.plain_set_new _,codeAny_builtin F.entry_set_new ?_⟩))
 rw [Around.under_plainId F.plain_set_new _]
 unfold Builtin.«set.__new__» Builtin.Frozenset.newClass
 have hsub:=sub_set_self
 obtain ⟨hp,g,d,tk,os⟩:=s
 dsimp only
 wp_walk
 refine wpAny_askSetting (wpAny_pure ?_)
 dsimp only
 simp only [newObj]
 refine wpAny_bind (wpAny_alloc (wpAny_pure ?_))
 exact wpAny_pure h
theorem call_set_tup {l:Addr}{items:Array Value}{ns:List Nat}{Q:Value→Shared→Prop}(hh:A.handled=none)(hl:s.heap.IsTuple l items)(h8:∀n∈ns,n < 8)(hsz:items.size=ns.length)(hi:∀(i:Nat) (v:Value),items[i]? =some v→∃(n:Nat) (t:Tok),ns[i]? =some n∧v=Value.int n t)
  (h:∀(h':Heap) (tk:Nat),SetM w h' s.heap.objs.size (mAll ns)→(∀b o,b < s.heap.objs.size→s.heap.get? b=some o→h'.get? b=some o)→Q (.ref s.heap.objs.size) {s with heap:=h',toks:=tk}):
  wpAny (model prog w) A (call (.type "set") [.ref l]) Q E s:=by
 obtain ⟨c,tl,hmro⟩:=F.called_set.mro
 have hmade:=F.called_set.made
 have hsub:=F.called_set.sub
 refine wpAny_call (codeAny_of_tree ?_)
 show wpAny _ _ (callAny (.type "set") _) _ _ _
 refine wpAny_pure ⟨Code.quiet_builtin _ (by decide +kernel),codeAny_builtin F.entry_type_call ?_⟩
 rw [Around.under_plain (weight_type_call_type "set" [.ref l] []) rfl]
 have h1:=F.called_set.notType
 have h2:=F.called_set.canCreate
 have hct:=F.typeCall_set_1 (.ref l)
 repeat (any_goals (first | assumption | wp_step))
 refine codeAny_mono (code_set_new (a:=.ref l) (E:=E) (Q₁:=fun obj s₁=>obj= .ref s.heap.objs.size∧s₁={s with heap:=s.heap.push (setObjM #[] 0 (.fresh 0 0 (!byT w)))}) ⟨rfl,rfl⟩) fun r s₁ hr=>?_
 cases r with
 | error e=>exact hr
 | ok fl=>
  cases fl with
  | ret obj=>
   obtain ⟨rfl,rfl⟩:=hr
   have hS:(s.heap.push (setObjM #[] 0 (.fresh 0 0 (!byT w)))).get? s.heap.objs.size=some (setObjM #[] 0 (.fresh 0 0 (!byT w))):=Heap.get?_push_size _ rfl
   have hT:Shared.TypeIs {s with heap:=s.heap.push (setObjM #[] 0 (.fresh 0 0 (!byT w)))} (.ref s.heap.objs.size) "set":=⟨_,hS,rfl⟩
   have hli:=F.called_set.init.lookup
   have hbi:=F.called_set.init.bind (.ref s.heap.objs.size)
   repeat (any_goals (first | assumption | wp_step))
   refine codeAny_mono (codeAny_call_builtin (R:=wants (fun r s₂=>r= .none∧∃h' tk,s₂={s with heap:=h',toks:=tk}∧SetM w h' s.heap.objs.size (mAll ns)∧
     (∀b o,b < s.heap.objs.size→s.heap.get? b=some o→h'.get? b=some o)) E) F.called_set.init.plain F.entry_set_init (check_set_init_1 hT ?_)) fun r₂ s₂ hr₂=>?_
   ·have hlS:l < s.heap.objs.size:=by obtain ⟨o,e,_⟩:=hl;exact Heap.lt_size e
    obtain ⟨ol,hol,hcl,nl,hdl⟩:=id hl
    obtain ⟨ocls,odict,odata,oslots⟩:=ol
    simp only at hcl hdl
    subst hcl;subst hdl
    have hol':(s.heap.push (setObjM #[] 0 (.fresh 0 0 (!byT w)))).get? l=some {cls:=.type "tuple",dict:=odict,data:=.seq items nl,slots:=oslots}:=Heap.get?_push_of_some _ hol
    have hsls:=sub_tuple_set
    have hslf:=sub_tuple_frozenset
    have hne:(Value.type "tuple" == Value.type "dict")=false:=by decide
    have hl1:(s.heap.push (setObjM #[] 0 (.fresh 0 0 (!byT w)))).IsTuple l items:=⟨_,hol',rfl,nl,rfl⟩
    have hS':(s.heap.push (setObjM #[] 0 (.fresh 0 0 (!byT w)))).get? s.heap.objs.size=some {cls:=.type "set",dict:=none,data:=.set #[] 0 (.fresh 0 0 (!byT w)),slots:= #[]}:=hS
    unfold Builtin.«set.__init__» noKeywords Builtin.Frozenset.updateFrom
    generalize hPI:pyIter=PI
    wp_walk
    subst hPI
    refine iter_tuple (t:=l) (items:=items) ⟨_,hol',rfl,nl,rfl⟩ ?_
    refine wpAny_bind (wpAny_runValue ?_)
    have hh3:A.in1.in1.in1.handled=none:=by simp [hh]
    have hneI:l≠(s.heap.push (setObjM #[] 0 (.fresh 0 0 (!byT w)))).objs.size:=by
     rw [Heap.size_push];exact Nat.ne_of_lt (Nat.lt_succ_of_lt hlS)
    have hSf:s.heap.objs.size∉[(s.heap.push (setObjM #[] 0 (.fresh 0 0 (!byT w)))).objs.size,l]:=by
     rw [Heap.size_push];simp only [List.mem_cons,List.mem_singleton,List.not_mem_nil,or_false,not_or]
     exact ⟨Nat.ne_of_lt (Nat.lt_succ_self _),Nat.ne_of_gt hlS⟩
    have W:=(Walks.tuple (prog:=prog) (w:=w) hh3 _ l hneI items).toS
    rw [hsz] at W
    refine updM h8 W s.heap.objs.size hSf (fun i v hv=>hi i v hv) (ns.length - 0) 0 _ rfl (Nat.zero_le _) ?hSt ?hS0 ?hR
    case hSt=>exact ⟨⟨_,Heap.get?_push_size _ rfl,rfl,rfl⟩,⟨_,Heap.get?_push_of_some _ hol',rfl,nl,rfl⟩⟩
    case hS0=>
     refine ⟨by rw [List.take_zero];decide, #[],0,?_,?_⟩
     ·rw [List.take_zero];exact Heap.get?_push_of_some _ hS
     ·rw [List.take_zero];exact .nil
    case hR=>
     intro s' hm hS'
     obtain ⟨h',g',d',tk',os'⟩:=s'
     have eg:g'=s.gens:=hm.gens
     have ed:d'=s.drawn:=hm.drawn
     have eo:os'=s.os:=hm.os
     subst eg;subst ed;subst eo
     show wpAny _ _ _ _ _ _
     refine wpAny_pure ?_
     show wpAny _ _ (ret Value.none) _ _ _
     refine wpAny_pure ⟨rfl,h',tk',rfl,hS',fun b o hb e=>?_⟩
     have hb1:b≠s.heap.objs.size:=Nat.ne_of_lt hb
     have hb2:b≠(s.heap.push (setObjM #[] 0 (.fresh 0 0 (!byT w)))).objs.size:=by
      rw [Heap.size_push];exact Nat.ne_of_lt (Nat.lt_succ_of_lt hb)
     exact hm.heap b o (by simp only [List.mem_cons,List.mem_singleton,List.not_mem_nil,or_false,not_or];exact ⟨hb1,hb2⟩) (Heap.get?_push_of_some _ (Heap.get?_push_of_some _ e))
   ·cases r₂ with
    | error e=>exact hr₂
    | ok fl₂=>
     cases fl₂ with
     | ret r=>
      obtain ⟨rfl,h',tk,rfl,hS',hk'⟩:=hr₂
      repeat (any_goals (first | assumption | wp_step))
      exact h _ _ hS' hk'
     | _=>exact hr₂.elim
  | _=>exact hr.elim
end
end Z
set_option maxHeartbeats 3200000
namespace Z
open PySem PySem.Spec PyProof.Rows L2
theorem entry_set_iter:entryFor table "set.__iter__"=some Builtin.«frozenset.__iter__»:=
 entryFor_alias (id':="frozenset.__iter__") (by kernel_rfl) rfl (by decide +kernel) (by kernel_rfl)
theorem slot_setit_next:Slot "set_iterator" "__next__" "set_iterator.__next__":=
 .of (owner:="set_iterator") (n:="__next__") (by rw [typeLookup_type,builtinLookup_eq_fast];kernel_rfl) (by decide +kernel) (by decide +kernel) (by decide +kernel)
  (by first | exact .inl (by decide +kernel) | exact .inr (by decide +kernel)) (by rw [isSubtype_type];kernel_rfl)
theorem entry_setit_next:entryFor table "set_iterator.__next__"=some Builtin.«set_iterator.__next__»:=entryFor_of_fast (by kernel_rfl)
theorem args_setit_next (a:Value):argsOk "set_iterator.__next__" ⟨[a],[]⟩:=by unfold argsOk;kernel_rfl
noncomputable abbrev IsSetIt (h:Heap) (it a:Addr) (slot i n ep:Nat):Prop:=
 h.get? it=some {cls:=.type "set_iterator",dict:=none,data:=.fields #[rawInt slot,rawInt i,.ref a,rawInt n,rawInt ep],slots:= #[]}
noncomputable def SRaw (w:World) (h:Heap) (a:Addr) (es:Array (Int×Value)) (ep m:Nat):Prop:=m < 256∧es.size=(lm m).length∧h.get? a=some (setObjM es ep (tab (!byT w) m))
noncomputable def ordM (w:World) (a:Addr) (es:Array (Int×Value)) (ep:Nat):Array (Int×Value):=if byT w then pickOrder (w.params.setOrder a ep) es else es
section
variable {prog:Program}{w:World}{A:Around}{E:Value→Shared→Prop}{s:Shared}{it a:Addr}{es:Array (Int×Value)}{i ep m slot:Nat}
theorem SRaw.fits (S:SRaw w s.heap a es ep m):(tab (!byT w) m).fits es.size=true:=by rw [S.2.1];exact tab_fits m S.1 _
theorem SRaw.typeIs (S:SRaw w s.heap a es ep m):s.TypeIs (.ref a) "set":=⟨_,S.2.2,rfl⟩
theorem SRaw.on {h h':Heap}(S:SRaw w h a es ep m)(k:∀o,h.get? a=some o→h'.get? a=some o):SRaw w h' a es ep m:=⟨S.1,S.2.1,k _ S.2.2⟩
theorem byText_wp {Q:Bool→Shared→Prop}(q:Q (byT w) s):wpAny (model prog w) A setsByText Q E s:=by
 unfold setsByText
 exact wpAny_bind (wpAny_askSetting (wpAny_pure q))
theorem iter_set {Q:Value→Shared→Prop}(S:SRaw w s.heap a es ep m)
  (q:Q (.ref s.heap.objs.size) {s with heap:=s.heap.push {cls:=.type "set_iterator",data:=.fields #[rawInt (0:Nat),rawInt (0:Nat),.ref a,rawInt es.size,rawInt ep]}}):wpAny (model prog w) A (pyIter (.ref a)) Q E s:=by
 have T:=S.typeIs
 have ho:=S.2.2
 have hf:=S.fits
 refine wpAny_pyIter_slot T F.slot_set_iter (wpAny_call_entry F.slot_set_iter T entry_set_iter ?_ (F.args_set_iter_1 _))
 unfold Builtin.«frozenset.__iter__»
 refine wpAny_bind (m:=Builtin.Frozenset.slot0 "__iter__" _) (wpAny_pure ?_)
 refine wpAny_bind (m:=Builtin.Frozenset.sizeOf a) ?_
 unfold Builtin.Frozenset.sizeOf
 refine wpAny_bind (wpAny_setEntries_of ho rfl hf (wpAny_pure ?_))
 refine wpAny_bind (m:=setDrawn a) ?_
 unfold setDrawn
 refine wpAny_bind (wpAny_setState_of ho rfl hf ?_)
 refine wpAny_bind (byText_wp (wpAny_pure ?_))
 show wpAny _ _ (if (!byT w && (!(tab (!byT w) m).plain && decide (es.size > 1)))=true then _ else _) _ _ s
 rw [tab_plain]
 simp only [Bool.not_true,Bool.false_and,Bool.and_false,Bool.false_eq_true,if_false]
 refine wpAny_bind (wpAny_pure ?_)
 refine wpAny_bind (m:=setEpoch a) (wpAny_setEpoch_of ho rfl hf ?_)
 exact wpAny_bind (wpAny_newObj_type (wpAny_pure ⟨_,rfl,"set_iterator",_,⟨_,Heap.get?_push_size _ rfl,rfl⟩,slot_setit_next.lookup,q⟩))
theorem setNext_wp {Q:Option (Value×Nat)→Shared→Prop}(S:SRaw w s.heap a es ep m)(hi:i < 9)(hil:i≤(lm m).length)(hs:byT w=false→slot=slotM m i)
  (q:∀r,(r=none∧(ordM w a es ep)[i]? =none∨∃e slot',r=some (e.2,slot')∧(ordM w a es ep)[i]? =some e∧(byT w=false→slot'=slotM m (i + 1)))→Q r s):wpAny (model prog w) A (setNext a slot i ep) Q E s:=by
 have ho:=S.2.2
 have hf:=S.fits
 unfold setNext
 refine wpAny_bind (wpAny_setState_of ho rfl hf ?_)
 refine wpAny_bind (byText_wp ?_)
 cases hb:byT w with
 | true=>
  simp only [if_true]
  rw [if_neg (by simp)]
  refine wpAny_bind ?_
  unfold setWalk
  refine wpAny_bind (wpAny_setState_of ho rfl hf ?_)
  refine wpAny_bind (byText_wp ?_)
  rw [hb]
  simp only [if_true]
  refine wpAny_bind (wpAny_askSetting (wpAny_pure (wpAny_pure ?_)))
  have eo:ordM w a es ep=pickOrder (w.params.setOrder a ep) es:=by unfold ordM;rw [hb];rfl
  rw [eo,hb] at q
  show Q (((pickOrder (w.params.setOrder a ep) es)[i]?).map fun e=>(e.2,slot)) s
  cases he:(pickOrder (w.params.setOrder a ep) es)[i]? with
  | none=>exact q _ (.inl ⟨rfl,he⟩)
  | some e=>exact q _ (.inr ⟨e,slot,rfl,he,fun z=>nomatch z⟩)
 | false=>
  simp only [Bool.false_eq_true,if_false]
  show wpAny _ _ (if (!(tab (!false) m).plain && decide (es.size > 1))=true then _ else _) _ _ s
  rw [tab_plain]
  simp only [Bool.not_true,Bool.false_and,Bool.false_eq_true,if_false]
  refine wpAny_bind ?_
  show wpAny _ _ (if (!(tab (!false) m).led && !es.isEmpty)=true then _ else _) _ _ s
  rw [tab_led]
  simp only [Bool.not_false,Bool.not_true,Bool.false_and,Bool.false_eq_true,if_false]
  refine wpAny_pure ?_
  refine wpAny_pure ?_
  have eo:ordM w a es ep=es:=by unfold ordM;rw [hb];rfl
  rw [eo] at q
  have hbl:SetTable.below (lm m).toArray slot=i:=by rw [hs hb];exact below_slot m S.1 i hi hil
  simp only [tab_place,hbl]
  by_cases hlt:i < (lm m).length
  ·have hlt':i < es.size:=by rw [S.2.1];exact hlt
   have he:es[i]? =some es[i]:=by simp [hlt']
   have hp:(lm m).toArray[i]? =some (lm m)[i]:=by simp [hlt]
   rw [he,hp]
   refine q _ (.inr ⟨_,_,rfl,he,fun _=>?_⟩)
   unfold slotM
   rw [if_neg (by (first|lia|omega)),Nat.add_sub_cancel,List.getD_eq_getElem?_getD,List.getElem?_eq_getElem hlt];rfl
  ·have he:es[i]? =none:=by rw [Array.getElem?_eq_none_iff,S.2.1];(first|lia|omega)
   rw [he]
   exact q _ (.inl ⟨rfl,he⟩)
theorem next_set {Q:Option Value→Shared→Prop}(hh:A.handled=none)(hit:IsSetIt s.heap it a slot i es.size ep)(S:SRaw w s.heap a es ep m)(hne:a≠it)(hil:i≤(lm m).length)(hs:byT w=false→slot=slotM m i)
  (q1:∀e h' slot',(ordM w a es ep)[i]? =some e→IsSetIt h' it a slot' (i + 1) es.size ep→(byT w=false→slot'=slotM m (i + 1))→Heap.SameBut it s.heap h'→Q (some e.2) {s with heap:=h'})
  (q2:∀h',(ordM w a es ep)[i]? =none→Heap.ExtBut it s.heap h'→Q none {s with heap:=h'}):wpAny (model prog w) A (pyNext (.ref it)) Q E s:=by
 have ho:=S.2.2
 have hf:=S.fits
 have T:s.TypeIs (.ref it) "set_iterator":=⟨_,hit,rfl⟩
 unfold pyNext
 refine wpAny_bind (wpAny_attempt (wpAny_callSpecial?_slot (name:=Str.ofString "__next__") T slot_setit_next (wpAny_call_entry slot_setit_next T entry_setit_next ?_ (args_setit_next _))))
 unfold Builtin.«set_iterator.__next__»
 refine wpAny_bind (m:=slotArgs "__next__" 0 _) (wpAny_pure ?_)
 refine wpAny_bind (wpAny_fieldsOf hit rfl ?_)
 dsimp only
 refine wpAny_bind (wpAny_setEntries_of ho rfl hf ?_)
 rw [if_neg (by simp)]
 show wpAny _ _ (setNext a slot i ep >>=_) _ _ s
 refine wpAny_bind (setNext_wp S (by have:=lm_len m;(first|lia|omega)) hil hs fun r hr=>?_)
 rcases hr with ⟨rfl,he⟩ | ⟨e,slot',rfl,he,hs'⟩
 ·dsimp only
  refine wpAny_bind (wpAny_setField_rec hit (by simp) fun h1 e1 s1=>?_)
  refine wpAny_bind (m:=newExc (.type "StopIteration") []) ?_
  simp only [newExc,newTuple]
  refine wpAny_bind (wpAny_newObj_type ?_ (by size_fits))
  refine wpAny_bind (m:=firstArgMember _ _) (wpAny_of_eq (a:=Value.none) (by first | rfl | (simp only [firstArgMember];rfl)) (wpAny_newObj_type ?_ (by size_fits)))
  simp only [raiseNew]
  refine wpAny_bind (wpAny_handled ?_)
  rw [show A.in1.handled=none from hh]
  refine wpAny_bind (wpAny_pure (wpAny_throw ?_))
  refine wpAny_bind (wpAny_isInstance (b:=true) (T:="StopIteration") ⟨_,Heap.get?_push_size _ rfl,rfl⟩ isSubtype_stop ?_)
  exact wpAny_pure (q2 _ he ((s1.extBut.push _).push _))
 ·dsimp only
  refine wpAny_bind (wpAny_setField_rec hit (by simp) fun h1 e1 s1=>?_)
  have e1':IsSetIt h1 it a slot' i es.size ep:=e1
  refine wpAny_bind (m:=setField (.ref it) 1 (rawInt ((i:Int) + 1))) (wpAny_setField_rec e1' (by simp) fun h2 e2 s2=>?_)
  have e2':IsSetIt h2 it a slot' (i + 1) es.size ep:=e2
  exact wpAny_pure ⟨_,rfl,wpAny_pure (q1 e h2 slot' he e2' hs' (s1.trans s2))⟩
end
end Z
set_option maxHeartbeats 3200000
namespace Z
open PySem PySem.Spec PyProof.Rows L2 PySem.W
theorem go_perm {α:Type}(next:Nat→Nat):∀(fuel k:Nat) (left:List α) (out:Array α),left.length=fuel→(pickOrder.go next fuel k left out).toList.Perm (out.toList ++ left)
 | 0,k,left,out,h=>by
  obtain rfl:=List.length_eq_zero_iff.mp h
  unfold pickOrder.go
  rw [List.append_nil]
 | fuel + 1,k,left,out,h=>by
  unfold pickOrder.go
  have hlt:next k % left.length < left.length:=Nat.mod_lt _ (by (first|lia|omega))
  rw [List.getElem?_eq_getElem hlt]
  dsimp only
  refine (go_perm next fuel (k + 1) (left.eraseIdx (next k % left.length)) (out.push left[next k % left.length]) (by rw [List.length_eraseIdx_of_lt hlt];(first|lia|omega))).trans ?_
  rw [Array.toList_push,List.append_assoc]
  refine List.Perm.append_left _ ?_
  rw [List.eraseIdx_eq_take_drop_succ]
  refine (List.perm_middle (l₁:=left.take (next k % left.length)) (a:=left[next k % left.length]) (l₂:=left.drop (next k % left.length + 1))).symm.trans (.of_eq ?_)
  rw [←List.drop_eq_getElem_cons hlt,List.take_append_drop]
theorem ordM_perm (w:World)(a:Addr)(es:Array (Int×Value))(ep:Nat):(ordM w a es ep).toList.Perm es.toList:=by
 unfold ordM
 split
 ·unfold pickOrder
  exact go_perm _ es.size 0 es.toList #[] Array.length_toList
 ·exact .refl _
theorem ordM_size (w:World)(a:Addr)(es:Array (Int×Value))(ep:Nat):(ordM w a es ep).size=es.size:=by
 rw [←Array.length_toList,(ordM_perm w a es ep).length_eq,Array.length_toList]
section
variable {prog:Program}{w:World}{A:Around}{E:Value→Shared→Prop}{s:Shared}{it a:Addr}{es:Array (Int×Value)}{i ep m:Nat}
noncomputable def StM (w:World) (it a:Addr) (es:Array (Int×Value)) (ep m i:Nat) (h:Heap):Prop:=(∃slot,IsSetIt h it a slot i es.size ep∧(byT w=false→slot=slotM m i))∧SRaw w h a es ep m
theorem setit_iter {slot n:Nat}{Q:Value→Shared→Prop}(h:IsSetIt s.heap it a slot i n ep)(q:Q (.ref it) s):wpAny (model prog w) A (pyIter (.ref it)) Q E s:=by
 have T:s.TypeIs (.ref it) "set_iterator":=⟨_,h,rfl⟩
 have sl:Slot "set_iterator" "__iter__" "set_iterator.__iter__":=
  .of (owner:="set_iterator") (n:="__iter__") (by rw [typeLookup_type,builtinLookup_eq_fast];kernel_rfl) (by decide +kernel) (by decide +kernel) (by decide +kernel)
   (by first | exact .inl (by decide +kernel) | exact .inr (by decide +kernel)) (by rw [isSubtype_type];kernel_rfl)
 have en:entryFor table "set_iterator.__iter__"=some Builtin.«dict_keyiterator.__iter__»:=entryFor_alias (id':="dict_keyiterator.__iter__") (by kernel_rfl) rfl (by decide +kernel) (by kernel_rfl)
 have ar:argsOk "set_iterator.__iter__" ⟨[.ref it],[]⟩:=by unfold argsOk;kernel_rfl
 refine wpAny_pyIter_slot T sl (wpAny_call_entry sl T en ?_ ar)
 show wpAny _ _ (ret (.ref it)) _ _ s
 exact wpAny_pure ⟨_,rfl,"set_iterator",_,T,slot_setit_next.lookup,q⟩
theorem walks_set (hh:A.handled=none)(I a:Addr)(hne:a≠I)(es:Array (Int×Value))(ep m:Nat):
  Walks prog w A I [I,a] [I] es.size (fun i v=>∃e,(ordM w a es ep)[i]? =some e∧v=e.2) (StM w I a es ep m) where
 sub:=fun b hb=>by simp at hb;simp [hb]
 frame:=fun i h h' st hk=>by
  obtain ⟨⟨slot,st1,st2⟩,S⟩:=st
  exact ⟨⟨slot,hk I (by simp) _ st1,st2⟩,S.on fun o e=>hk a (by simp) o e⟩
 item:=fun i s Q E hi st hQ=>by
  obtain ⟨⟨slot,st1,st2⟩,S⟩:=st
  have hz:=S.2.1
  refine next_set hh st1 S hne (by (first|lia|omega)) st2 (fun e h' slot' he e2 hs' sb=>hQ _ h' s.toks ⟨e,he,rfl⟩ ⟨⟨slot',e2,hs'⟩,S.on fun o e=>(sb.2 a hne).trans e⟩ fun b o hb e=>(sb.2 b (fun z=>hb (by simp [z]))).trans e) fun h' he _=>?_
  rw [Array.getElem?_eq_none_iff,ordM_size] at he
  (first|lia|omega)
 done:=fun s Q E st hQ=>by
  obtain ⟨⟨slot,st1,st2⟩,S⟩:=st
  have hz:=S.2.1
  refine next_set hh st1 S hne (by (first|lia|omega)) st2 (fun e h' slot' he _ _ _=>?_) fun h' he x=>hQ h' s.toks fun b o hb e=>x b o (fun z=>hb (by simp [z])) e
  have:(ordM w a es ep)[es.size]? =none:=by rw [Array.getElem?_eq_none_iff,ordM_size];exact Nat.le_refl _
  rw [this] at he;cases he
 self:=fun _ _ _ _ st hQ=>by
  obtain ⟨⟨slot,st1,st2⟩,S⟩:=st
  exact setit_iter st1 hQ
theorem hint_set {Q:Bool→Shared→Prop}(hT:s.TypeIs (.ref a) "set")(h:Q false s):wpAny (model prog w) A (Builtin.List.listLengthHint (.ref a)) Q E s:=by
 have lk:typeLookup (.type "set") "__len__"=pure (some (.builtin "set.__len__")):=by rw [typeLookup_type,builtinLookup_eq_fast];kernel_rfl
 unfold Builtin.List.listLengthHint
 refine wpAny_bind (wpAny_specialOf hT lk ?_)
 generalize hid:("set.__len__":String)=id0
 wp_delta
 rw [show splitId id0=some ("set","__len__") from by subst hid;decide +kernel]
 subst hid
 refine wpAny_bind (wpAny_isInstance (T:="set") (b:=true) hT (by rw [isSubtype_type];kernel_rfl) ?_)
 refine wpAny_ite_split (fun hab=>absurd hab (by decide)) (fun _=>?_)
 refine wpAny_ite_split (fun _=>?_) (fun hab=>absurd (by decide +kernel) hab)
 refine wpAny_bind (wpAny_typeOf hT ?_)
 exact wpAny_pure h
theorem src_set:KdlSrc prog w "set" a a es.size (fun i v=>∃e,(ordM w a es ep)[i]? =some e∧v=e.2) (fun h=>SRaw w h a es ep m) where
 type:=fun _ x=>x.typeIs
 there:=fun _ x=>⟨Heap.lt_size x.2.2,Heap.lt_size x.2.2⟩
 keep:=fun _ _ x hk=>x.on fun o e=>hk a (.inl rfl) o e
 notList:=by decide
 notTuple:=by decide
 hint:=fun _ _ _ _ x q=>hint_set x.typeIs q
 iter:=fun _ _ hh x=>⟨_,_,(fun _ _ q=>iter_set x q),walks_set hh _ a (Nat.ne_of_lt (Heap.lt_size x.2.2)) es ep m,⟨⟨0,Heap.get?_push_size _ rfl,fun _=>rfl⟩,x.on fun o e=>Heap.get?_push_of_some _ e⟩⟩
end
theorem EsOk.fst:∀{es:List (Int×Value)} {l:List Nat},EsOk es l→es.map (·.1)=intsN l
 | _,_,.nil=>rfl
 | _,_,.cons h r=>by rw [List.map_cons,EsOk.fst r,h.1];rfl
theorem EsOk.int:∀{es:List (Int×Value)} {l:List Nat},EsOk es l→∀e∈es,∃t,e.2= .int e.1 t
 | _,_,.nil,_,h=>nomatch h
 | _,_,.cons h r,e,he=>by
  rcases List.mem_cons.mp he with rfl | he
  ·obtain ⟨h1,t,h2⟩:=h;exact ⟨t,by rw [h1];exact h2⟩
  ·exact EsOk.int r e he
theorem ints_snd:∀{es:List (Int×Value)},(∀e∈es,∃t,e.2= .int e.1 t)→IntsAre (es.map (·.2)) (es.map (·.1))
 | [],_=>.nil
 | e :: es,h=>by
  obtain ⟨t,ht⟩:=h e List.mem_cons_self
  rw [List.map_cons,List.map_cons,ht]
  exact .cons _ t (ints_snd fun x hx=>h x (List.mem_cons_of_mem _ hx))
theorem intsN_le (m:Nat):(intsN (lm m)).Pairwise (·≤·):=by
 unfold intsN
 exact List.pairwise_map.mpr ((lm_pw m).imp fun h=>by (first|lia|omega))
section
variable {X:Cx}{e:Expr}{pos pos2 p p2:Pos}{fa:FA}
theorem call_sortedS (hc:X.calm=true):CallR X (.builtin "sorted") (fun xs H Q=>∃p m,xs=[.ref p]∧H p=some (.ext fun h=>SetM X.w h p m)∧∀l,H l=none→Q (.ref l) (upd H l (.lst ((intsN (lm m)).map V.int)))):=by
 intro pins s σ H xs us Q I r h
 obtain ⟨p,m,rfl,hp,q⟩:=h
 obtain ⟨u,rfl,ru⟩:=vals1 r
 cases ru
 obtain ⟨⟨hm,es,ep,ho,hes⟩,_,_⟩:=(show ObjOk X.prog X.w H s.heap p (.ext fun h=>SetM X.w h p m) from I.hok p _ hp)
 have hsz:es.size=(lm m).length:=by rw [←Array.length_toList];exact hes.len
 have l8:=lm_len m
 refine Calls.call_function_entry kind_sorted plain_sorted entry_sorted (args_sorted1 _) ?_
 unfold Builtin.«sorted»
 refine wpAny_bind (m:=checkCount "sorted" 1 1 _) (wpAny_pure ?_)
 refine wpAny_bind (PySem.W.kdu_collect (src_set (m:=m) (ep:=ep) (es:=es)) (show X.A.in1.handled=none from I.ok.hd hc) ⟨hm,hsz,ho⟩ (by rw [hsz,sizeLine_eq];(first|lia|omega)) fun G tk acc hk hacc=>?_)
 have ea:acc.toList=(ordM X.w p es ep).toList.map (·.2):=by
  apply List.ext_getElem?
  intro i
  rw [Array.getElem?_toList,List.getElem?_map,Array.getElem?_toList]
  by_cases hi:i < es.size
  ·have hi2:i < acc.size:=by rw [hacc.1];exact hi
   obtain ⟨e,he,hv⟩:=hacc.2 i acc[i] (by simp [hi2])
   rw [he,Array.getElem?_eq_getElem hi2,hv];rfl
  ·rw [Array.getElem?_eq_none (by rw [hacc.1];(first|lia|omega)),Array.getElem?_eq_none (by rw [ordM_size];(first|lia|omega))];rfl
 have op:=ordM_perm X.w p es ep
 have hI:IntsAre acc.toList ((ordM X.w p es ep).toList.map (·.1)):=by
  rw [ea];exact ints_snd fun e he=>hes.int e (op.mem_iff.mp he)
 have hP0:((ordM X.w p es ep).toList.map (·.1)).Perm (intsN (lm m)):=by rw [←hes.fst];exact op.map _
 have hlen:acc.toList.length≤8:=by rw [ea,List.length_map,Array.length_toList,ordM_size];(first|lia|omega)
 generalize hA:acc.toList=its at hI hlen ⊢
 refine wpAny_bind (wpAny_newList ?_ (by rw [sizeLine_eq];(first|lia|omega)))
 have I1:Inv X pins σ H {s with heap:=G,toks:=tk}:=I.kept (t':=tk) hk
 have ho:(G.push (seqObj "list" its.toArray 0)).get? G.objs.size=some (seqObj "list" its.toArray 0):=Heap.get?_push_size _ rfl
 refine wpAny_bind (wpAny_holding ?_)
 refine wpAny_call_entry PyProof.Rows.slot_list_sort ⟨_,ho,rfl⟩ PyProof.Rows.entry_list_sort (list_sort_tree (n:=0) (vs:=its) ho hI (by (first|lia|omega)) fun out ns' hI' hp' hP=>⟨.none,rfl,?_⟩) (PyProof.Rows.args_list_sort _)
 have es':ns'=intsN (lm m):=PySem.W.lks_uniq (hp'.trans hP0) hP (intsN_le m)
 subst es'
 have g1:=get?_update_seq ho (fun _=> #[])
 have g2:=get?_update_seq (Heap.get?_push_of_some (seqObj "list" #[] 0) (Heap.get?_push_of_some (seqObj "tuple" its.toArray 0) g1)) (fun _=>out)
 have kept:∀b o,G.get? b=some o→(sortedHeap (G.push (seqObj "list" its.toArray 0)) G.objs.size its out).get? b=some o:=fun b o e=>by
  have ne:b≠G.objs.size:=Nat.ne_of_lt (Heap.lt_size e)
  unfold sortedHeap
  rw [Heap.get?_update_ne _ _ _ _ ne]
  refine Heap.get?_push_of_some _ (Heap.get?_push_of_some _ ?_)
  rw [Heap.get?_update_ne _ _ _ _ ne]
  exact Heap.get?_push_of_some _ e
 refine wpAny_pure ⟨_,rfl,.ref G.objs.size,_,I1.laid (t':=tk) (o:=.lst ((intsN (lm m)).map V.int)) kept (Nat.le_refl _) ?_,rfl,q _ (I1.hok.fresh (Nat.le_refl _))⟩
 obtain ⟨ep',g3⟩:∃ep',(sortedHeap (G.push (seqObj "list" its.toArray 0)) G.objs.size its out).get? G.objs.size=some (seqObj "list" out.toList.toArray ep'):=⟨_,by rw [Array.toArray_toList];exact g2⟩
 exact ⟨by rw [List.length_map];unfold intsN;rw [List.length_map,sizeLine_eq];(first|lia|omega),out.toList,_,vals_of_ints hI',g3⟩
theorem vals_nats:∀{ns:List Nat} {its:List Value},Vals ((intsN ns).map V.int) its→its.length=ns.length∧∀(i:Nat) (v:Value),its[i]? =some v→∃(n:Nat) (t:Tok),ns[i]? =some n∧v=Value.int n t
 | [],_,.nil=>⟨rfl,fun i v h=>by simp at h⟩
 | n :: ns,_,.cons (b:=u) r t=>by
  obtain ⟨h1,h2⟩:=vals_nats t
  obtain ⟨tk,rfl⟩:=(show ∃tk,u=Value.int n tk from r)
  refine ⟨by rw [List.length_cons,List.length_cons,h1],fun i v h=>?_⟩
  cases i with
  | zero=>cases h;exact ⟨n,tk,rfl,rfl⟩
  | succ i=>exact h2 i v h
theorem call_setS (hc:X.calm=true):CallR X (.type "set") (fun xs H Q=>∃p ns,xs=[.ref p]∧SqT X.K H p ((intsN ns).map V.int)∧(∀n∈ns,n < 8)∧∀l,H l=none→Q (.ref l) (upd H l (.ext fun h=>SetM X.w h l (mAll ns)))):=by
 intro pins s σ H xs us Q I r h
 obtain ⟨p,ns,rfl,hp,h8,q⟩:=h
 obtain ⟨u,rfl,ru⟩:=vals1 r
 cases ru
 obtain ⟨its,rv,ht,_⟩:=I.tuple hp
 obtain ⟨hl,hi⟩:=vals_nats rv
 refine call_set_tup (ns:=ns) (I.ok.hd hc) ht h8 (by simpa using hl) (fun i v e=>hi i v (by simpa using e)) fun h' tk hS hk=>?_
 have kp:∀b o,s.heap.get? b=some o→h'.get? b=some o:=fun b o e=>hk b o (Heap.lt_size e) e
 refine ⟨.ref s.heap.objs.size,_,I.laid (t':=tk) (o:=.ext fun h=>SetM X.w h s.heap.objs.size (mAll ns)) kp (Nat.le_refl _) ⟨hS,?_,fun h1 h2 x k=>?_⟩,rfl,q _ (I.hok.fresh (Nat.le_refl _))⟩
 ·obtain ⟨_,es,ep,ho,_⟩:=hS;exact ⟨_,ho⟩
 ·obtain ⟨hm,es,ep,ho,r⟩:=x;exact ⟨hm,es,ep,k _ ho,r⟩
noncomputable def gSS:D→Option W
 | .tup xs=>(intsOf xs).bind fun ns=>if ∀n∈ns,0≤n∧n < 8 then some (.o (.lst ((intsN (lm (mAll (ns.map Int.toNat)))).map D.int))) else none
 | _=>none
noncomputable def rSS (X:Cx):List V→Hp→VK→Prop:=fun xs H Q=>∃p ns,xs=[.ref p]∧SqT X.K H p ((intsN ns).map V.int)∧(∀n∈ns,n < 8)∧∀l,H l=none→∃p m,[V.ref l]=[.ref p]∧(upd H l (.ext fun h=>SetM X.w h l (mAll ns))) p=some (.ext fun h=>SetM X.w h p m)∧
 ∀l',(upd H l (.ext fun h=>SetM X.w h l (mAll ns))) l'=none→Q (.ref l') (upd (upd H l (.ext fun h=>SetM X.w h l (mAll ns))) l' (.lst ((intsN (lm m)).map V.int)))
theorem pr_SS:PrA X (k1 gSS) (rSS X):=pr1 fun A d w v H Q e h q=>by
 cases d with
 | tup xs=>
  simp only [gSS] at e
  cases e1:intsOf xs with
  | none=>rw [e1] at e;cases e
  | some bs=>
   rw [e1] at e
   simp only [Option.bind_some] at e
   split at e
   ·rename_i hl
    cases e
    have hd:Den X.K A H (.tup xs) v:=h
    rw [Den] at hd
    obtain ⟨a,vs,rfl,hq,l⟩:=hd
    rw [intsOf_eq e1] at l
    rw [denL_of_ints l] at hq
    have eb:bs=intsN (bs.map Int.toNat):=by
     unfold intsN
     rw [List.map_map]
     conv=>lhs;rw [←List.map_id bs]
     apply List.map_congr_left
     intro n hn
     have:=(hl n hn).1
     show n=((n.toNat:Nat):Int)
     (first|lia|omega)
    refine ⟨a,bs.map Int.toNat,rfl,by rw [←eb];exact hq,fun n hn=>?_,fun l hl'=>⟨l,_,rfl,upd_same,fun l' hl2=>?_⟩⟩
    ·obtain ⟨k,hk,rfl⟩:=List.mem_map.mp hn
     have:=hl k hk;(first|lia|omega)
    ·have hn:H l'=none:=by
      by_cases z:l'=l
      ·rw [z];exact hl'
      ·rw [upd_ne z] at hl2;exact hl2
     exact q _ _ ((same_upd hl' _).trans (same_upd hl2 _)) ⟨l',rfl,hn,_,upd_same,denL_ints _⟩
   ·cases e
 | _=>cases e
theorem qx_sortedSet (hc:X.calm=true)(hm:X.mg "sorted"=none)(hm2:X.mg "set"=none)(ha:QA X [e] fa)(hv:autoParam (bootBuiltins "sorted"=some (.builtin "sorted")) Zau.a2._auto_1)(hv2:autoParam (bootBuiltins "set"=some (.type "set")) Zau.a2._auto_1)(hg:autoParam (Gl X "sorted") Zau.a2._auto_1)(hg2:autoParam (Gl X "set") Zau.a2._auto_1)
  (he:autoParam (starEach [e] X.env=(false,eval e X.env) :: starEach [] X.env) Zau.a2._auto_1) (he2:autoParam (starEach [.Call (.Name "set" p2) [e] [] pos2] X.env=(false,eval (.Call (.Name "set" p2) [e] [] pos2) X.env) :: starEach [] X.env) Zau.a2._auto_1):
  QX X (.Call (.Name "sorted" p) [.Call (.Name "set" p2) [e] [] pos2] [] pos) (fCall (k1 gSS) fa):=
 ⟨PE.weak (PE.weak (pe_callB (call_sortedS hc) hg hm hv (pa_cons (pe_callTy (call_setS hc) hg2 hm2 hv2 ha.to (by decide) (by decide) he rfl) pa_nil he2) (by decide) (by decide) he2 rfl) (u:=tCB (rSS X) (tA X fa)) fun σ H Q h=>h) (call_weak pr_SS)⟩
end
end Z
set_option maxHeartbeats 1000000
namespace Z
open PySem PySem.Spec PyProof.Rows L2
section
variable {f:FX}{fa:FA}{r:FRe}{G:FS}{ρ ρ1:Ev}{kc:Addr→Option Bool}{C:Addr}{i:Nat}{xs ys:List D}{d:D}{b:Bool}
noncomputable def ez1:Option (List D×Ev)→Option (List D×Ev)
 | some p=>some (enumD p.1,p.2)
 | none=>none
theorem dM:fiEnumZ fa ρ=ez1 (fiZip fa ρ):=by
 unfold fiEnumZ fiZip
 cases fa ρ with
 | none=>rfl
 | some p=>
  simp only [Option.bind_some]
  cases takeAll p.2 p.1 with
  | none=>rfl
  | some q=>
   obtain ⟨ds,ρ2⟩:=q
   simp only [Option.bind_some]
   match ds with
   | []=>rfl
   | [x]=>rfl
   | [x,y]=>dsimp only;cases items x <;> cases items y <;> rfl
   | _ :: _ :: _ :: _=>rfl
theorem dN:ez1 (some (zipD xs ys,ρ))=some (ezD xs ys,ρ):=rfl
noncomputable def try3 (i:Nat):Option R→Option R
 | some (.nx ρ)=>if freeSlot ρ i=true then some (.nx (ρ.set i none)) else none
 | _=>none
noncomputable def try1 (i:Nat) (kc:Addr→Option Bool) (f:FX) (G:FS) (ρ:Ev):Option (Addr×Ev)→Option R
 | some (C,ρ1)=>if (noL ρ=true∧freeSlot ρ1 i=true)∧kc C=some true then try3 i (G (ρ1.set i (some (.v (.exn C))))) else none
 | none=>(f ρ).map fun p=>.nx p.2
theorem hX:fTry i kc f r G ρ=try1 i kc f G ρ (r ρ):=by
 unfold fTry try1
 cases r ρ with
 | none=>rfl
 | some p=>
  obtain ⟨C,ρ1⟩:=p
  dsimp only
  split
  ·cases G (ρ1.set i (some (.v (.exn C)))) with
   | none=>rfl
   | some q=>cases q <;> rfl
  ·rfl
theorem hZ:try1 i kc f G ρ (some (C,ρ1))=if (noL ρ=true∧freeSlot ρ1 i=true)∧kc C=some true then try3 i (G (ρ1.set i (some (.v (.exn C))))) else none:=rfl
theorem iA:try3 i (some (.nx ρ))=if freeSlot ρ i=true then some (.nx (ρ.set i none)) else none:=rfl
theorem aT:noL []=true:=rfl
theorem aU:noL (some (.v d) :: ρ)=noL ρ:=rfl
theorem nl_o:noL (some (.o d) :: ρ)=noL ρ:=rfl
theorem aS:noL (none :: ρ)=noL ρ:=rfl
noncomputable def isx1:Option Bool→Option W
 | some b=>some (.v (.bl b))
 | none=>none
theorem eR:oIsX kc (.exn C)=isx1 (kc C):=by unfold oIsX isx1;dsimp only;cases kc C <;> rfl
theorem eS:isx1 (some b)=some (.v (.bl b)):=rfl
noncomputable def fRC1 (gx:List D→Option Addr):Option (List W×Ev)→Option (Addr×Ev)
 | some p=>(drs p.2 p.1).bind fun ds=>(gx ds).map fun C=>(C,p.2)
 | none=>none
noncomputable def fRC2 (gx:List D→Option Addr) (ρ:Ev):Option (List D)→Option (Addr×Ev)
 | some ds=>(gx ds).map fun C=>(C,ρ)
 | none=>none
noncomputable def fRC3 (ρ:Ev):Option Addr→Option (Addr×Ev)
 | some C=>some (C,ρ)
 | none=>none
variable {gx:List D→Option Addr}{ws:List W}{ds:List D}
theorem fZ:fRCall gx fa ρ=fRC1 gx (fa ρ):=by unfold fRCall fRC1;cases fa ρ <;> rfl
theorem gA:fRC1 gx (some (ws,ρ))=fRC2 gx ρ (drs ρ ws):=by unfold fRC1 fRC2;dsimp only;cases drs ρ ws <;> rfl
theorem gB:fRC2 gx ρ (some ds)=fRC3 ρ (gx ds):=by unfold fRC2 fRC3;dsimp only;cases gx ds <;> rfl
theorem gC:fRC3 ρ (some C)=some (C,ρ):=rfl
noncomputable def kcF (c:Addr) (b:Bool):Addr→Option Bool:=fun C=>if C=c then some b else none
theorem kcF_eq {c:Addr}:kcF c b c=some b:=if_pos rfl
theorem kcF_of {c:Addr}{p:Addr→Bool→Prop}(h:p c b):∀C b',kcF c b C=some b'→p C b':=fun C b' e=>by
 unfold kcF at e
 split at e
 ·rename_i z;cases e;rw [z];exact h
 ·cases e
end
end Z
set_option maxHeartbeats 1000000
namespace Z
open PySem PySem.Spec PyProof.Rows L2
section
variable {X:Cx}{a b:Expr}{f g:FX}{pos:Pos}
noncomputable def rCatT0 (K:PySem.W.Frag):R2:=fun x y H Q=>∃a b ys,x= .ref a∧y= .ref b∧SqT K H a []∧SqT K H b ys∧Q (.ref b) H
theorem op_catT0:OpR X (binaryOp .Add) (rCatT0 X.K):=by
 intro pins s σ H x y v u Q I rx ry h
 obtain ⟨a,b,ys,rfl,rfl,ha,hb,q⟩:=h
 cases rx
 cases ry
 obtain ⟨its,r1,p1,_⟩:=I.tuple ha
 obtain ⟨its2,r2,p2,_⟩:=I.tuple hb
 have e0:its=[]:=r1.nil_iff.mpr rfl
 subst e0
 obtain ⟨⟨cls,dd,data,sl⟩,ho,hc,n,hd⟩:=p1
 obtain ⟨⟨cls2,dd2,data2,sl2⟩,ho2,hc2,n2,hd2⟩:=p2
 simp only at hc hd hc2 hd2
 subst hc hd hc2 hd2
 exact concat_meets ⟨_,ho,rfl⟩ ⟨_,ho2,rfl⟩ noFill_tuple_add seq_tuple_add PySem.F.slot_tuple_add PySem.F.entry_tuple_add (PySem.F.args_tuple_add_2 _ _) (tuple_addW0 a b _ _ n n2 dd dd2 sl sl2 rfl) ⟨ho,ho2,.ref b,H,I,rfl,q⟩
noncomputable def oAddT:D→D→Option W
 | .tup xs,.tup ys=>if xs.length + ys.length≤lim then some (.v (.tup (xs ++ ys))) else none
 | _,_=>none
theorem qx_addT (ha:QX X a f)(hb:QX X b g):QX X (.BinOp a .Add b pos) (fBin oAddT f g):=qx_bin (op_catT0.or op_catT) (by
 intro A x y w v u H Q _ e hx hy q
 cases x <;> cases y <;> simp only [oAddT] at e <;> try cases e
 rename_i xs ys
 split at e
 ·rename_i hl
  cases e
  have hx:Den X.K A H (.tup xs) v:=hx
  have hy:Den X.K A H (.tup ys) u:=hy
  rw [Den] at hx hy
  obtain ⟨a,vs,ev,ha,la⟩:=hx
  obtain ⟨b,us,eu,hb,lb⟩:=hy
  by_cases h0:xs=[]
  ·subst h0
   have z:vs=[]:=List.length_eq_zero_iff.mp (denL_length la).symm
   subst z
   refine .inl ⟨a,b,us,ev,eu,ha,hb,q _ H (Same.refl H) ?_⟩
   show Den _ _ _ _ _
   rw [List.nil_append,Den]
   exact ⟨b,us,rfl,hb,lb⟩
  ·refine .inr ⟨a,b,vs,us,ev,eu,ha,hb,fun z=>?_,?_,fun z=>?_,fun _ p hp=>q _ _ (same_upd hp _) (denW_tup hp (denL_append la lb))⟩
   rotate_left 2
   ·subst z
    have z:ys=[]:=List.length_eq_zero_iff.mp (denL_length lb)
    subst z
    refine q _ H (Same.refl H) ?_
    show Den _ _ _ _ _
    rw [List.append_nil,Den]
    exact ⟨a,vs,rfl,ha,la⟩
   ·subst z;exact h0 (List.length_eq_zero_iff.mp (denL_length la))
   ·rw [←denL_length la,←denL_length lb];exact Nat.le_trans hl lim_line
 ·cases e) ha hb
theorem aW {xs ys:List D}:oAddT (.tup xs) (.tup ys)=if xs.length + ys.length≤lim then some (.v (.tup (xs ++ ys))) else none:=rfl
end
end Z
set_option maxHeartbeats 1500000
namespace Q67
open PySem L2 Z
noncomputable def top (i:Nat):Stmt:=PySem.Challenge.pw_twainhoard_k67_shares_joined.main.body.getD i (.Pass ⟨0,0,0,0⟩)
section
variable {P:Program}{w:World}{K:PySem.W.Frag}{mg:Str→Option Value}{base:Heap}{f:Addr}{fd:FuncData}{k:Nat}
noncomputable def inB (ns:List Int):D→Bool
 | .tup [.int a,.int b,.int _]=>decide (a∈ns) != decide (b∈ns)
 | _=>false
noncomputable def sideB (n:Int) (ts:List (Int×Int×Int)):D→Bool
 | .tup xs=>xs.all (pers n) && (match intsOf xs with
  | some ns=>rise ns && ts.all fun t=>decide (t.1∈ns) != decide (t.2.1∈ns)
  | none=>false)
 | _=>false
noncomputable def Cl:D→Prop
 | .tup xs=>(∀x∈xs,isX x=false)∧xs.length≤1000
 | d=>isX d=false
noncomputable abbrev s_is_whole:Stmt:=top 16
theorem sc_is_whole:FnScope ["thing"] ["thing"] (defScope s_is_whole):=⟨rfl,rfl,rfl,by decide +kernel,rfl,by decide +kernel,by decide +kernel⟩
noncomputable def S_is_whole (g:List D→Option W):Prop:=∀d:D,isX d=false→g [d]=some (.v (.bl (whole d)))
theorem fn_is_whole (m_isinstance:mg "isinstance"=none)(m_int:mg "int"=none)(m_bool:mg "bool"=none)(F:Fun K "is_whole" "is_whole" s_is_whole f fd)(B:Binds K fd ["thing"] [])(hm:mg "is_whole"=some (.ref f)):∃g,Fn P w K mg base "is_whole" (k + 1) g∧S_is_whole g:=by
 have nd:=sc_is_whole.nd
 refine ⟨_,fn_mk F sc_is_whole B hm rfl rfl (fun cdv A outer s H E hr=>(qss_one (qs_ret (qx_and (qx_isi (T:="int") (kit_mk (by decide)) m_isinstance m_int (qx_name 0)) (qx_one (qx_notT (qx_isi (T:="bool") (kit_mk (by decide)) m_isinstance m_bool (qx_name 0)))))))),?_⟩
 intro d hd
 have i1:=oi_int hd
 have i2:=oi_bool hd
 cases d with
 | exn C=>cases hd
 | _=>repeat (first | simp only [lim,fJ,fK,dO,dQ,dP,aI,aN,eT,eU,eV,eW,cI,cJ,cK,cL,cN,cM,iI,iL,cE,dF,dX,dU,dJ,dL,dI,b0,cA,cB,cC,iM,iF,iG,iH,g6,iB,hJ,hV,hW,fH,fI,fP,fR,fQ,bP,bR,bQ,fG,cO,cP,cQ,gU,gW,gT,iC,cW,cX,cF,cG,cH,eX,cR,cS,cU,cV,gN,gO,gP,gQ,gR,gS,fM,fN,fO,g7,g8,g9,gD,gH,eI,eK,eJ,bX,bZ,d9,eA,dZ,dY,eF,eN,eO,eQ,gI,gM,bB,bA,bG,bE,aV,aZ,aA,aB,aR,aF,aH,aJ,start0,deq,flatE,lf,frzL,List.length_cons,List.length_nil,List.map_cons,List.map_nil,List.replicate,List.append_nil,List.nil_append,List.cons_append,List.getElem?_cons_zero,List.getElem?_cons_succ,List.set_cons_zero,List.set_cons_succ,Option.map_some,if_true,if_false,Bool.false_eq_true,Nat.zero_add,Nat.reduceAdd,Nat.reduceSub,Nat.sub_self,Nat.add_one_sub_one,Bool.and_self,Bool.true_and,Bool.not_true,Bool.not_false,Bool.false_and,ite_self,Nat.reduceLeDiff,beq_self_eq_true] | simp only [i1,i2,isI,isB,whole])
noncomputable abbrev s_is_rising:Stmt:=top 17
theorem sc_is_rising:FnScope ["row"] ["row"] (defScope s_is_rising):=⟨rfl,rfl,rfl,by decide +kernel,rfl,by decide +kernel,by decide +kernel⟩
noncomputable def S_is_rising (g:List D→Option W):Prop:=∀ns:List Int,ns.length≤1000→g [.tup (ns.map .int)]=some (.v (.bl (rise ns)))
theorem fn_is_rising (m_all:mg "all"=none)(m_zip:mg "zip"=none)(F:Fun K "is_rising" "is_rising" s_is_rising f fd)(B:Binds K fd ["row"] [])(hm:mg "is_rising"=some (.ref f)):∃g,Fn P w K mg base "is_rising" (k + 1) g∧S_is_rising g:=by
 have nd:=sc_is_rising.nd
 refine ⟨_,fn_mk F sc_is_rising B hm rfl rfl (fun cdv A outer s H E hr=>(qss_one (qs_ret (qx_b (call_allL rfl) pr_bools m_all (qa_cons (qx_comp (N:=["one","other"]) (js:=[none,none]) (li:=none) rfl (blk_mk (by exact (.own (.own .nil))) rfl (by exact trivial) (by rfl)) (qib_of (qi_zip m_zip (qa_cons (qx_name 0) (qa_cons (qx_slice (qx_name 0) (qo_some qx_int) qo_none) qa_nil)))) (fun _ _ _ _=>(qg_tup rfl (qgs_cons (qg_name 0 (show ((["one","other"]:List Str) ++ [accN]).Nodup by decide +kernel)) (qgs_cons (qg_name 1 (show ((["one","other"]:List Str) ++ [accN]).Nodup by decide +kernel)) qgs_nil)))) (fun _ _ _ _=>tst_nil) (fun _ _ _ _=>(qx_ltT hr (qx_name 0) (qx_name 1)))) qa_nil))))),?_⟩
 intro ns hl
 repeat (simp only [lim,fJ,fK,dO,dQ,dP,aI,aN,eT,eU,eV,eW,cI,cJ,cK,cL,cN,cM,iI,iL,cE,dF,dX,dU,dJ,dL,dI,b0,cA,cB,cC,iM,iF,iG,iH,g6,iB,hJ,hV,hW,fH,fI,fP,fR,fQ,bP,bR,bQ,fG,cO,cP,cQ,gU,gW,gT,iC,cW,cX,cF,cG,cH,eX,cR,cS,cU,cV,gN,gO,gP,gQ,gR,gS,fM,fN,fO,g7,g8,g9,gD,gH,eI,eK,eJ,bX,bZ,d9,eA,dZ,dY,eF,eN,eO,eQ,gI,gM,bB,bA,bG,bE,aV,aZ,aA,aB,aR,aF,aH,aJ,start0,deq,flatE,lf,frzL,List.length_cons,List.length_nil,List.map_cons,List.map_nil,List.replicate,List.append_nil,List.nil_append,List.cons_append,List.getElem?_cons_zero,List.getElem?_cons_succ,List.set_cons_zero,List.set_cons_succ,Option.map_some,if_true,if_false,Bool.false_eq_true,Nat.zero_add,Nat.reduceAdd,Nat.reduceSub,Nat.sub_self,Nat.add_one_sub_one,Bool.and_self,Bool.true_and,Bool.not_true,Bool.not_false,Bool.false_and,ite_self,Nat.reduceLeDiff,beq_self_eq_true])
 rw [comp_map (ρ1:=[some (.v (.tup (ns.map .int)))]) (xs:=zipD (ns.map .int) ((ns.map D.int).drop 1)) (fun B=>∃o1 o2:Option D,B=[o1.map .v,o2.map .v]) (fun _=>true) (fun d=>.bl (lt2 d))]
 ·have gb:=gB_lst (r:=fun bs=>bs.all id) (zip_lt2 ns)
  rw [zip_rise] at gb
  repeat (first | simp only [lim,fJ,fK,dO,dQ,dP,aI,aN,eT,eU,eV,eW,cI,cJ,cK,cL,cN,cM,iI,iL,cE,dF,dX,dU,dJ,dL,dI,b0,cA,cB,cC,iM,iF,iG,iH,g6,iB,hJ,hV,hW,fH,fI,fP,fR,fQ,bP,bR,bQ,fG,cO,cP,cQ,gU,gW,gT,iC,cW,cX,cF,cG,cH,eX,cR,cS,cU,cV,gN,gO,gP,gQ,gR,gS,fM,fN,fO,g7,g8,g9,gD,gH,eI,eK,eJ,bX,bZ,d9,eA,dZ,dY,eF,eN,eO,eQ,gI,gM,bB,bA,bG,bE,aV,aZ,aA,aB,aR,aF,aH,aJ,start0,deq,flatE,lf,frzL,List.length_cons,List.length_nil,List.map_cons,List.map_nil,List.replicate,List.append_nil,List.nil_append,List.cons_append,List.getElem?_cons_zero,List.getElem?_cons_succ,List.set_cons_zero,List.set_cons_succ,Option.map_some,if_true,if_false,Bool.false_eq_true,Nat.zero_add,Nat.reduceAdd,Nat.reduceSub,Nat.sub_self,Nat.add_one_sub_one,Bool.and_self,Bool.true_and,Bool.not_true,Bool.not_false,Bool.false_and,ite_self,Nat.reduceLeDiff,beq_self_eq_true] | simp only [gb])
 ·repeat (first | simp only [lim,fJ,fK,dO,dQ,dP,aI,aN,eT,eU,eV,eW,cI,cJ,cK,cL,cN,cM,iI,iL,cE,dF,dX,dU,dJ,dL,dI,b0,cA,cB,cC,iM,iF,iG,iH,g6,iB,hJ,hV,hW,fH,fI,fP,fR,fQ,bP,bR,bQ,fG,cO,cP,cQ,gU,gW,gT,iC,cW,cX,cF,cG,cH,eX,cR,cS,cU,cV,gN,gO,gP,gQ,gR,gS,fM,fN,fO,g7,g8,g9,gD,gH,eI,eK,eJ,bX,bZ,d9,eA,dZ,dY,eF,eN,eO,eQ,gI,gM,bB,bA,bG,bE,aV,aZ,aA,aB,aR,aF,aH,aJ,start0,deq,flatE,lf,frzL,List.length_cons,List.length_nil,List.map_cons,List.map_nil,List.replicate,List.append_nil,List.nil_append,List.cons_append,List.getElem?_cons_zero,List.getElem?_cons_succ,List.set_cons_zero,List.set_cons_succ,Option.map_some,if_true,if_false,Bool.false_eq_true,Nat.zero_add,Nat.reduceAdd,Nat.reduceSub,Nat.sub_self,Nat.add_one_sub_one,Bool.and_self,Bool.true_and,Bool.not_true,Bool.not_false,Bool.false_and,ite_self,Nat.reduceLeDiff,beq_self_eq_true] | simp only [cut_tail])
 ·rintro _ ⟨_,_,rfl⟩;rfl
 ·exact ⟨none,none,rfl⟩
 ·rw [len_zip];simp [lim];(first|lia|omega)
 ·exact lfL_bl _ _
 ·rintro x hx _ zs ⟨o1,o2,rfl⟩
  obtain ⟨a,ha,b,hb,rfl⟩:=zip_mem hx
  obtain ⟨a,_,rfl⟩:=mem_ints ha
  obtain ⟨b,_,rfl⟩:=mem_ints (List.mem_of_mem_drop hb)
  refine ⟨[some (.v (.int a)),some (.v (.int b))],.v (.bl (decide (a < b))),⟨some _,some _,rfl⟩,?_,rfl,fun _=>⟨?_,.inl rfl⟩⟩
  ·repeat (simp only [lim,fJ,fK,dO,dQ,dP,aI,aN,eT,eU,eV,eW,cI,cJ,cK,cL,cN,cM,iI,iL,cE,dF,dX,dU,dJ,dL,dI,b0,cA,cB,cC,iM,iF,iG,iH,g6,iB,hJ,hV,hW,fH,fI,fP,fR,fQ,bP,bR,bQ,fG,cO,cP,cQ,gU,gW,gT,iC,cW,cX,cF,cG,cH,eX,cR,cS,cU,cV,gN,gO,gP,gQ,gR,gS,fM,fN,fO,g7,g8,g9,gD,gH,eI,eK,eJ,bX,bZ,d9,eA,dZ,dY,eF,eN,eO,eQ,gI,gM,bB,bA,bG,bE,aV,aZ,aA,aB,aR,aF,aH,aJ,start0,deq,flatE,lf,frzL,List.length_cons,List.length_nil,List.map_cons,List.map_nil,List.replicate,List.append_nil,List.nil_append,List.cons_append,List.getElem?_cons_zero,List.getElem?_cons_succ,List.set_cons_zero,List.set_cons_succ,Option.map_some,if_true,if_false,Bool.false_eq_true,Nat.zero_add,Nat.reduceAdd,Nat.reduceSub,Nat.sub_self,Nat.add_one_sub_one,Bool.and_self,Bool.true_and,Bool.not_true,Bool.not_false,Bool.false_and,ite_self,Nat.reduceLeDiff,beq_self_eq_true])
  ·repeat (simp only [lim,fJ,fK,dO,dQ,dP,aI,aN,eT,eU,eV,eW,cI,cJ,cK,cL,cN,cM,iI,iL,cE,dF,dX,dU,dJ,dL,dI,b0,cA,cB,cC,iM,iF,iG,iH,g6,iB,hJ,hV,hW,fH,fI,fP,fR,fQ,bP,bR,bQ,fG,cO,cP,cQ,gU,gW,gT,iC,cW,cX,cF,cG,cH,eX,cR,cS,cU,cV,gN,gO,gP,gQ,gR,gS,fM,fN,fO,g7,g8,g9,gD,gH,eI,eK,eJ,bX,bZ,d9,eA,dZ,dY,eF,eN,eO,eQ,gI,gM,bB,bA,bG,bE,aV,aZ,aA,aB,aR,aF,aH,aJ,start0,deq,flatE,lf,frzL,List.length_cons,List.length_nil,List.map_cons,List.map_nil,List.replicate,List.append_nil,List.nil_append,List.cons_append,List.getElem?_cons_zero,List.getElem?_cons_succ,List.set_cons_zero,List.set_cons_succ,Option.map_some,if_true,if_false,Bool.false_eq_true,Nat.zero_add,Nat.reduceAdd,Nat.reduceSub,Nat.sub_self,Nat.add_one_sub_one,Bool.and_self,Bool.true_and,Bool.not_true,Bool.not_false,Bool.false_and,ite_self,Nat.reduceLeDiff,beq_self_eq_true])
noncomputable abbrev s_is_person:Stmt:=top 23
theorem sc_is_person:FnScope ["people","thing"] ["people","thing"] (defScope s_is_person):=⟨rfl,rfl,rfl,by decide +kernel,rfl,by decide +kernel,by decide +kernel⟩
noncomputable def S_is_person (g:List D→Option W):Prop:=∀(n:Int) (d:D),isX d=false→g [.int n,d]=some (.v (.bl (pers n d)))
theorem fn_is_person {g_is_whole:List D→Option W}(h_is_whole:Fn P w K mg base "is_whole" k g_is_whole)(e_is_whole:S_is_whole g_is_whole)(F:Fun K "is_person" "is_person" s_is_person f fd)(B:Binds K fd ["people","thing"] [])(hm:mg "is_person"=some (.ref f)):∃g,Fn P w K mg base "is_person" (k + 1) g∧S_is_person g:=by
 have nd:=sc_is_person.nd
 refine ⟨_,fn_mk F sc_is_person B hm rfl rfl (fun cdv A outer s H E hr=>(qss_one (qs_ret (qx_and (qx_def h_is_whole hr (qa_cons (qx_name 1) qa_nil)) (qx_one (qx_leLt qx_int (qx_name 1) (qx_name 0))))))),?_⟩
 intro n d hd
 have w:=e_is_whole d hd
 cases d with
 | int i=>
  by_cases h:0≤i
  ·have h':decide (0≤i)=true:=decide_eq_true h
   repeat (first | simp only [lim,fJ,fK,dO,dQ,dP,aI,aN,eT,eU,eV,eW,cI,cJ,cK,cL,cN,cM,iI,iL,cE,dF,dX,dU,dJ,dL,dI,b0,cA,cB,cC,iM,iF,iG,iH,g6,iB,hJ,hV,hW,fH,fI,fP,fR,fQ,bP,bR,bQ,fG,cO,cP,cQ,gU,gW,gT,iC,cW,cX,cF,cG,cH,eX,cR,cS,cU,cV,gN,gO,gP,gQ,gR,gS,fM,fN,fO,g7,g8,g9,gD,gH,eI,eK,eJ,bX,bZ,d9,eA,dZ,dY,eF,eN,eO,eQ,gI,gM,bB,bA,bG,bE,aV,aZ,aA,aB,aR,aF,aH,aJ,start0,deq,flatE,lf,frzL,List.length_cons,List.length_nil,List.map_cons,List.map_nil,List.replicate,List.append_nil,List.nil_append,List.cons_append,List.getElem?_cons_zero,List.getElem?_cons_succ,List.set_cons_zero,List.set_cons_succ,Option.map_some,if_true,if_false,Bool.false_eq_true,Nat.zero_add,Nat.reduceAdd,Nat.reduceSub,Nat.sub_self,Nat.add_one_sub_one,Bool.and_self,Bool.true_and,Bool.not_true,Bool.not_false,Bool.false_and,ite_self,Nat.reduceLeDiff,beq_self_eq_true] | simp only [w,whole,h',pers])
  ·have h':decide (0≤i)=false:=decide_eq_false h
   repeat (first | simp only [lim,fJ,fK,dO,dQ,dP,aI,aN,eT,eU,eV,eW,cI,cJ,cK,cL,cN,cM,iI,iL,cE,dF,dX,dU,dJ,dL,dI,b0,cA,cB,cC,iM,iF,iG,iH,g6,iB,hJ,hV,hW,fH,fI,fP,fR,fQ,bP,bR,bQ,fG,cO,cP,cQ,gU,gW,gT,iC,cW,cX,cF,cG,cH,eX,cR,cS,cU,cV,gN,gO,gP,gQ,gR,gS,fM,fN,fO,g7,g8,g9,gD,gH,eI,eK,eJ,bX,bZ,d9,eA,dZ,dY,eF,eN,eO,eQ,gI,gM,bB,bA,bG,bE,aV,aZ,aA,aB,aR,aF,aH,aJ,start0,deq,flatE,lf,frzL,List.length_cons,List.length_nil,List.map_cons,List.map_nil,List.replicate,List.append_nil,List.nil_append,List.cons_append,List.getElem?_cons_zero,List.getElem?_cons_succ,List.set_cons_zero,List.set_cons_succ,Option.map_some,if_true,if_false,Bool.false_eq_true,Nat.zero_add,Nat.reduceAdd,Nat.reduceSub,Nat.sub_self,Nat.add_one_sub_one,Bool.and_self,Bool.true_and,Bool.not_true,Bool.not_false,Bool.false_and,ite_self,Nat.reduceLeDiff,beq_self_eq_true] | simp only [w,whole,h',pers])
 | exn C=>cases hd
 | _=>repeat (first | simp only [lim,fJ,fK,dO,dQ,dP,aI,aN,eT,eU,eV,eW,cI,cJ,cK,cL,cN,cM,iI,iL,cE,dF,dX,dU,dJ,dL,dI,b0,cA,cB,cC,iM,iF,iG,iH,g6,iB,hJ,hV,hW,fH,fI,fP,fR,fQ,bP,bR,bQ,fG,cO,cP,cQ,gU,gW,gT,iC,cW,cX,cF,cG,cH,eX,cR,cS,cU,cV,gN,gO,gP,gQ,gR,gS,fM,fN,fO,g7,g8,g9,gD,gH,eI,eK,eJ,bX,bZ,d9,eA,dZ,dY,eF,eN,eO,eQ,gI,gM,bB,bA,bG,bE,aV,aZ,aA,aB,aR,aF,aH,aJ,start0,deq,flatE,lf,frzL,List.length_cons,List.length_nil,List.map_cons,List.map_nil,List.replicate,List.append_nil,List.nil_append,List.cons_append,List.getElem?_cons_zero,List.getElem?_cons_succ,List.set_cons_zero,List.set_cons_succ,Option.map_some,if_true,if_false,Bool.false_eq_true,Nat.zero_add,Nat.reduceAdd,Nat.reduceSub,Nat.sub_self,Nat.add_one_sub_one,Bool.and_self,Bool.true_and,Bool.not_true,Bool.not_false,Bool.false_and,ite_self,Nat.reduceLeDiff,beq_self_eq_true] | simp only [w,whole,pers])
noncomputable abbrev s_is_side:Stmt:=top 25
theorem sc_is_side:FnScope ["web","thing"] ["web","thing"] (defScope s_is_side):=⟨rfl,rfl,rfl,by decide +kernel,rfl,by decide +kernel,by decide +kernel⟩
noncomputable def S_is_side (g:List D→Option W):Prop:=∀(n:Int) (ts:List (Int×Int×Int)) (d:D),Cl d→ts.length≤1000→g [webD n ts,d]=some (.v (.bl (sideB n ts d)))
theorem all_inB (ns:List Int)(ts:List (Int×Int×Int)):((ts.map tieD).map (inB ns)).all id=ts.all fun t=>decide (t.1∈ns) != decide (t.2.1∈ns):=by
 rw [all_map_id,List.all_map];rfl
theorem fn_is_side {g_is_rising:List D→Option W}{g_is_person:List D→Option W}(h_is_rising:Fn P w K mg base "is_rising" k g_is_rising)(e_is_rising:S_is_rising g_is_rising)(h_is_person:Fn P w K mg base "is_person" k g_is_person)(e_is_person:S_is_person g_is_person)(m_all:mg "all"=none)(m_isinstance:mg "isinstance"=none)(m_tuple:mg "tuple"=none)(F:Fun K "is_side" "is_side" s_is_side f fd)(B:Binds K fd ["web","thing"] [])(hm:mg "is_side"=some (.ref f)):∃g,Fn P w K mg base "is_side" (k + 1) g∧S_is_side g:=by
 have nd:=sc_is_side.nd
 refine ⟨_,fn_mk F sc_is_side B hm rfl rfl (fun cdv A outer s H E hr=>(qss_cons (qs_if (qt_of (qw_or (qt_not (qt_tru (qx_isi (T:="tuple") (kit_mk (by decide)) m_isinstance m_tuple (qx_name 1)))) (qw_or (qt_not (qt_tru (qx_b (call_allL rfl) pr_bools m_all (qa_cons (qx_comp (N:=["one","web"]) (js:=[none,some 0]) (li:=none) rfl (blk_mk (by exact (.own (.cap rfl rfl rfl rfl .nil))) rfl (by exact ⟨rfl,trivial⟩) (by rfl)) (qib_name 1) (fun _ _ _ _=>(qg_name 0 (show ((["one","web"]:List Str) ++ [accN]).Nodup by decide +kernel))) (fun _ _ _ _=>tst_nil) (fun _ _ _ _=>(qx_def h_is_person hr (qa_cons (qx_ix (qx_name 1) qx_int) (qa_cons (qx_name 0) qa_nil))))) qa_nil)))) (qw_or1 (qt_not (qt_tru (qx_def h_is_rising hr (qa_cons (qx_name 1) qa_nil)))))))) (qss_one (qs_ret qx_bl)) qss_nil)
  (qss_one (qs_ret (qx_b (call_allL rfl) pr_bools m_all (qa_cons (qx_comp (N:=["one","other","gain","thing"]) (js:=[none,none,none,some 1]) (li:=none) rfl (blk_mk (by exact (.own (.own (.own (.cap rfl rfl rfl rfl .nil))))) rfl (by exact ⟨rfl,trivial⟩) (by rfl)) (qib_of (qi_seq (qx_ix (qx_name 0) qx_int))) (fun _ _ _ _=>(qg_tup rfl (qgs_cons (qg_name 0 (show ((["one","other","gain","thing"]:List Str) ++ [accN]).Nodup by decide +kernel)) (qgs_cons (qg_name 1 (show ((["one","other","gain","thing"]:List Str) ++ [accN]).Nodup by decide +kernel)) (qgs_cons (qg_name 2 (show ((["one","other","gain","thing"]:List Str) ++ [accN]).Nodup by decide +kernel)) qgs_nil))))) (fun _ _ _ _=>tst_nil) (fun _ _ _ _=>(qx_ne hr (qx_in hr (qx_name 0) (qx_name 3)) (qx_in hr (qx_name 1) (qx_name 3))))) qa_nil)))))),?_⟩
 intro n ts d hd hl
 unfold webD
 cases d with
 | tup xs=>
  obtain ⟨hx,hlx⟩:=hd
  have it:=oi_tuple (d:=.tup xs) rfl
  repeat (first | simp only [lim,fJ,fK,dO,dQ,dP,aI,aN,eT,eU,eV,eW,cI,cJ,cK,cL,cN,cM,iI,iL,cE,dF,dX,dU,dJ,dL,dI,b0,cA,cB,cC,iM,iF,iG,iH,g6,iB,hJ,hV,hW,fH,fI,fP,fR,fQ,bP,bR,bQ,fG,cO,cP,cQ,gU,gW,gT,iC,cW,cX,cF,cG,cH,eX,cR,cS,cU,cV,gN,gO,gP,gQ,gR,gS,fM,fN,fO,g7,g8,g9,gD,gH,eI,eK,eJ,bX,bZ,d9,eA,dZ,dY,eF,eN,eO,eQ,gI,gM,bB,bA,bG,bE,aV,aZ,aA,aB,aR,aF,aH,aJ,start0,deq,flatE,lf,frzL,List.length_cons,List.length_nil,List.map_cons,List.map_nil,List.replicate,List.append_nil,List.nil_append,List.cons_append,List.getElem?_cons_zero,List.getElem?_cons_succ,List.set_cons_zero,List.set_cons_succ,Option.map_some,if_true,if_false,Bool.false_eq_true,Nat.zero_add,Nat.reduceAdd,Nat.reduceSub,Nat.sub_self,Nat.add_one_sub_one,Bool.and_self,Bool.true_and,Bool.not_true,Bool.not_false,Bool.false_and,ite_self,Nat.reduceLeDiff,beq_self_eq_true] | simp only [it,isT])
  rw [comp_map (ρ1:=[some (.v (.tup [.int n,.tup (ts.map tieD)])),some (.v (.tup xs))]) (xs:=xs) (fun B=>∃o1:Option D,B=[o1.map .v,some (.v (.tup [.int n,.tup (ts.map tieD)]))]) (fun _=>true) (fun d=>.bl (pers n d))]
  ·rw [filter_tt]
   have gb:=gB_lst (r:=fun bs=>bs.all id) (boolsOf_fun (pers n) xs)
   rw [all_map_id] at gb
   cases hp:xs.all (pers n) with
   | false=>
    rw [hp] at gb
    simp only [sideB,hp,Bool.false_and]
    repeat (first | simp only [lim,fJ,fK,dO,dQ,dP,aI,aN,eT,eU,eV,eW,cI,cJ,cK,cL,cN,cM,iI,iL,cE,dF,dX,dU,dJ,dL,dI,b0,cA,cB,cC,iM,iF,iG,iH,g6,iB,hJ,hV,hW,fH,fI,fP,fR,fQ,bP,bR,bQ,fG,cO,cP,cQ,gU,gW,gT,iC,cW,cX,cF,cG,cH,eX,cR,cS,cU,cV,gN,gO,gP,gQ,gR,gS,fM,fN,fO,g7,g8,g9,gD,gH,eI,eK,eJ,bX,bZ,d9,eA,dZ,dY,eF,eN,eO,eQ,gI,gM,bB,bA,bG,bE,aV,aZ,aA,aB,aR,aF,aH,aJ,start0,deq,flatE,lf,frzL,List.length_cons,List.length_nil,List.map_cons,List.map_nil,List.replicate,List.append_nil,List.nil_append,List.cons_append,List.getElem?_cons_zero,List.getElem?_cons_succ,List.set_cons_zero,List.set_cons_succ,Option.map_some,if_true,if_false,Bool.false_eq_true,Nat.zero_add,Nat.reduceAdd,Nat.reduceSub,Nat.sub_self,Nat.add_one_sub_one,Bool.and_self,Bool.true_and,Bool.not_true,Bool.not_false,Bool.false_and,ite_self,Nat.reduceLeDiff,beq_self_eq_true] | simp only [gb])
   | true=>
    rw [hp] at gb
    obtain ⟨ns,rfl,hb⟩:=pers_ints hp
    rw [List.length_map] at hlx
    have er:=e_is_rising ns hlx
    simp only [sideB,hp,Bool.true_and,intsOf_map]
    cases hr:rise ns with
    | false=>
     rw [hr] at er
     repeat (first | simp only [lim,fJ,fK,dO,dQ,dP,aI,aN,eT,eU,eV,eW,cI,cJ,cK,cL,cN,cM,iI,iL,cE,dF,dX,dU,dJ,dL,dI,b0,cA,cB,cC,iM,iF,iG,iH,g6,iB,hJ,hV,hW,fH,fI,fP,fR,fQ,bP,bR,bQ,fG,cO,cP,cQ,gU,gW,gT,iC,cW,cX,cF,cG,cH,eX,cR,cS,cU,cV,gN,gO,gP,gQ,gR,gS,fM,fN,fO,g7,g8,g9,gD,gH,eI,eK,eJ,bX,bZ,d9,eA,dZ,dY,eF,eN,eO,eQ,gI,gM,bB,bA,bG,bE,aV,aZ,aA,aB,aR,aF,aH,aJ,start0,deq,flatE,lf,frzL,List.length_cons,List.length_nil,List.map_cons,List.map_nil,List.replicate,List.append_nil,List.nil_append,List.cons_append,List.getElem?_cons_zero,List.getElem?_cons_succ,List.set_cons_zero,List.set_cons_succ,Option.map_some,if_true,if_false,Bool.false_eq_true,Nat.zero_add,Nat.reduceAdd,Nat.reduceSub,Nat.sub_self,Nat.add_one_sub_one,Bool.and_self,Bool.true_and,Bool.not_true,Bool.not_false,Bool.false_and,ite_self,Nat.reduceLeDiff,beq_self_eq_true] | simp only [gb,er])
    | true=>
     rw [hr] at er
     repeat (first | simp only [lim,fJ,fK,dO,dQ,dP,aI,aN,eT,eU,eV,eW,cI,cJ,cK,cL,cN,cM,iI,iL,cE,dF,dX,dU,dJ,dL,dI,b0,cA,cB,cC,iM,iF,iG,iH,g6,iB,hJ,hV,hW,fH,fI,fP,fR,fQ,bP,bR,bQ,fG,cO,cP,cQ,gU,gW,gT,iC,cW,cX,cF,cG,cH,eX,cR,cS,cU,cV,gN,gO,gP,gQ,gR,gS,fM,fN,fO,g7,g8,g9,gD,gH,eI,eK,eJ,bX,bZ,d9,eA,dZ,dY,eF,eN,eO,eQ,gI,gM,bB,bA,bG,bE,aV,aZ,aA,aB,aR,aF,aH,aJ,start0,deq,flatE,lf,frzL,List.length_cons,List.length_nil,List.map_cons,List.map_nil,List.replicate,List.append_nil,List.nil_append,List.cons_append,List.getElem?_cons_zero,List.getElem?_cons_succ,List.set_cons_zero,List.set_cons_succ,Option.map_some,if_true,if_false,Bool.false_eq_true,Nat.zero_add,Nat.reduceAdd,Nat.reduceSub,Nat.sub_self,Nat.add_one_sub_one,Bool.and_self,Bool.true_and,Bool.not_true,Bool.not_false,Bool.false_and,ite_self,Nat.reduceLeDiff,beq_self_eq_true] | simp only [gb,er])
     rw [comp_map (ρ1:=[some (.v (.tup [.int n,.tup (ts.map tieD)])),some (.v (.tup (ns.map .int)))]) (xs:=ts.map tieD) (fun B=>∃o1 o2 o3:Option D,B=[o1.map .v,o2.map .v,o3.map .v,some (.v (.tup (ns.map .int)))]) (fun _=>true) (fun d=>.bl (inB ns d))]
     ·rw [filter_tt]
      have gb:=gB_lst (r:=fun bs=>bs.all id) (boolsOf_fun (inB ns) (ts.map tieD))
      rw [all_inB] at gb
      repeat (first | simp only [lim,fJ,fK,dO,dQ,dP,aI,aN,eT,eU,eV,eW,cI,cJ,cK,cL,cN,cM,iI,iL,cE,dF,dX,dU,dJ,dL,dI,b0,cA,cB,cC,iM,iF,iG,iH,g6,iB,hJ,hV,hW,fH,fI,fP,fR,fQ,bP,bR,bQ,fG,cO,cP,cQ,gU,gW,gT,iC,cW,cX,cF,cG,cH,eX,cR,cS,cU,cV,gN,gO,gP,gQ,gR,gS,fM,fN,fO,g7,g8,g9,gD,gH,eI,eK,eJ,bX,bZ,d9,eA,dZ,dY,eF,eN,eO,eQ,gI,gM,bB,bA,bG,bE,aV,aZ,aA,aB,aR,aF,aH,aJ,start0,deq,flatE,lf,frzL,List.length_cons,List.length_nil,List.map_cons,List.map_nil,List.replicate,List.append_nil,List.nil_append,List.cons_append,List.getElem?_cons_zero,List.getElem?_cons_succ,List.set_cons_zero,List.set_cons_succ,Option.map_some,if_true,if_false,Bool.false_eq_true,Nat.zero_add,Nat.reduceAdd,Nat.reduceSub,Nat.sub_self,Nat.add_one_sub_one,Bool.and_self,Bool.true_and,Bool.not_true,Bool.not_false,Bool.false_and,ite_self,Nat.reduceLeDiff,beq_self_eq_true] | simp only [gb])
     ·repeat (simp only [lim,fJ,fK,dO,dQ,dP,aI,aN,eT,eU,eV,eW,cI,cJ,cK,cL,cN,cM,iI,iL,cE,dF,dX,dU,dJ,dL,dI,b0,cA,cB,cC,iM,iF,iG,iH,g6,iB,hJ,hV,hW,fH,fI,fP,fR,fQ,bP,bR,bQ,fG,cO,cP,cQ,gU,gW,gT,iC,cW,cX,cF,cG,cH,eX,cR,cS,cU,cV,gN,gO,gP,gQ,gR,gS,fM,fN,fO,g7,g8,g9,gD,gH,eI,eK,eJ,bX,bZ,d9,eA,dZ,dY,eF,eN,eO,eQ,gI,gM,bB,bA,bG,bE,aV,aZ,aA,aB,aR,aF,aH,aJ,start0,deq,flatE,lf,frzL,List.length_cons,List.length_nil,List.map_cons,List.map_nil,List.replicate,List.append_nil,List.nil_append,List.cons_append,List.getElem?_cons_zero,List.getElem?_cons_succ,List.set_cons_zero,List.set_cons_succ,Option.map_some,if_true,if_false,Bool.false_eq_true,Nat.zero_add,Nat.reduceAdd,Nat.reduceSub,Nat.sub_self,Nat.add_one_sub_one,Bool.and_self,Bool.true_and,Bool.not_true,Bool.not_false,Bool.false_and,ite_self,Nat.reduceLeDiff,beq_self_eq_true])
     ·rintro _ ⟨_,_,_,rfl⟩;rfl
     ·exact ⟨none,none,none,rfl⟩
     ·rw [List.length_map];unfold lim;(first|lia|omega)
     ·exact lfL_bl _ _
     ·rintro x hx _ zs ⟨o1,o2,o3,rfl⟩
      obtain ⟨⟨a,b,c⟩,ha,rfl⟩:=List.mem_map.mp hx
      have i1:=o_in_t (b:=false) (n:=a) (intsOf_map ns)
      have i2:=o_in_t (b:=false) (n:=b) (intsOf_map ns)
      refine ⟨[some (.v (.int a)),some (.v (.int b)),some (.v (.int c)),some (.v (.tup (ns.map .int)))],.v (.bl (decide (a∈ns) != decide (b∈ns))),⟨some _,some _,some _,rfl⟩,?_,rfl,fun _=>⟨?_,.inl rfl⟩⟩
      ·unfold tieD
       repeat (simp only [lim,fJ,fK,dO,dQ,dP,aI,aN,eT,eU,eV,eW,cI,cJ,cK,cL,cN,cM,iI,iL,cE,dF,dX,dU,dJ,dL,dI,b0,cA,cB,cC,iM,iF,iG,iH,g6,iB,hJ,hV,hW,fH,fI,fP,fR,fQ,bP,bR,bQ,fG,cO,cP,cQ,gU,gW,gT,iC,cW,cX,cF,cG,cH,eX,cR,cS,cU,cV,gN,gO,gP,gQ,gR,gS,fM,fN,fO,g7,g8,g9,gD,gH,eI,eK,eJ,bX,bZ,d9,eA,dZ,dY,eF,eN,eO,eQ,gI,gM,bB,bA,bG,bE,aV,aZ,aA,aB,aR,aF,aH,aJ,start0,deq,flatE,lf,frzL,List.length_cons,List.length_nil,List.map_cons,List.map_nil,List.replicate,List.append_nil,List.nil_append,List.cons_append,List.getElem?_cons_zero,List.getElem?_cons_succ,List.set_cons_zero,List.set_cons_succ,Option.map_some,if_true,if_false,Bool.false_eq_true,Nat.zero_add,Nat.reduceAdd,Nat.reduceSub,Nat.sub_self,Nat.add_one_sub_one,Bool.and_self,Bool.true_and,Bool.not_true,Bool.not_false,Bool.false_and,ite_self,Nat.reduceLeDiff,beq_self_eq_true])
      ·repeat (first | simp only [lim,fJ,fK,dO,dQ,dP,aI,aN,eT,eU,eV,eW,cI,cJ,cK,cL,cN,cM,iI,iL,cE,dF,dX,dU,dJ,dL,dI,b0,cA,cB,cC,iM,iF,iG,iH,g6,iB,hJ,hV,hW,fH,fI,fP,fR,fQ,bP,bR,bQ,fG,cO,cP,cQ,gU,gW,gT,iC,cW,cX,cF,cG,cH,eX,cR,cS,cU,cV,gN,gO,gP,gQ,gR,gS,fM,fN,fO,g7,g8,g9,gD,gH,eI,eK,eJ,bX,bZ,d9,eA,dZ,dY,eF,eN,eO,eQ,gI,gM,bB,bA,bG,bE,aV,aZ,aA,aB,aR,aF,aH,aJ,start0,deq,flatE,lf,frzL,List.length_cons,List.length_nil,List.map_cons,List.map_nil,List.replicate,List.append_nil,List.nil_append,List.cons_append,List.getElem?_cons_zero,List.getElem?_cons_succ,List.set_cons_zero,List.set_cons_succ,Option.map_some,if_true,if_false,Bool.false_eq_true,Nat.zero_add,Nat.reduceAdd,Nat.reduceSub,Nat.sub_self,Nat.add_one_sub_one,Bool.and_self,Bool.true_and,Bool.not_true,Bool.not_false,Bool.false_and,ite_self,Nat.reduceLeDiff,beq_self_eq_true] | simp only [i1,i2])
       rfl
  ·repeat (simp only [lim,fJ,fK,dO,dQ,dP,aI,aN,eT,eU,eV,eW,cI,cJ,cK,cL,cN,cM,iI,iL,cE,dF,dX,dU,dJ,dL,dI,b0,cA,cB,cC,iM,iF,iG,iH,g6,iB,hJ,hV,hW,fH,fI,fP,fR,fQ,bP,bR,bQ,fG,cO,cP,cQ,gU,gW,gT,iC,cW,cX,cF,cG,cH,eX,cR,cS,cU,cV,gN,gO,gP,gQ,gR,gS,fM,fN,fO,g7,g8,g9,gD,gH,eI,eK,eJ,bX,bZ,d9,eA,dZ,dY,eF,eN,eO,eQ,gI,gM,bB,bA,bG,bE,aV,aZ,aA,aB,aR,aF,aH,aJ,start0,deq,flatE,lf,frzL,List.length_cons,List.length_nil,List.map_cons,List.map_nil,List.replicate,List.append_nil,List.nil_append,List.cons_append,List.getElem?_cons_zero,List.getElem?_cons_succ,List.set_cons_zero,List.set_cons_succ,Option.map_some,if_true,if_false,Bool.false_eq_true,Nat.zero_add,Nat.reduceAdd,Nat.reduceSub,Nat.sub_self,Nat.add_one_sub_one,Bool.and_self,Bool.true_and,Bool.not_true,Bool.not_false,Bool.false_and,ite_self,Nat.reduceLeDiff,beq_self_eq_true])
  ·rintro _ ⟨_,rfl⟩;rfl
  ·exact ⟨none,rfl⟩
  ·unfold lim;(first|lia|omega)
  ·exact lfL_bl _ _
  ·rintro x hx' _ zs ⟨o1,rfl⟩
   have ep:=e_is_person n x (hx x hx')
   refine ⟨[some (.v x),some (.v (.tup [.int n,.tup (ts.map tieD)]))],.v (.bl (pers n x)),⟨some _,rfl⟩,?_,rfl,fun _=>⟨?_,.inl rfl⟩⟩
   ·repeat (simp only [lim,fJ,fK,dO,dQ,dP,aI,aN,eT,eU,eV,eW,cI,cJ,cK,cL,cN,cM,iI,iL,cE,dF,dX,dU,dJ,dL,dI,b0,cA,cB,cC,iM,iF,iG,iH,g6,iB,hJ,hV,hW,fH,fI,fP,fR,fQ,bP,bR,bQ,fG,cO,cP,cQ,gU,gW,gT,iC,cW,cX,cF,cG,cH,eX,cR,cS,cU,cV,gN,gO,gP,gQ,gR,gS,fM,fN,fO,g7,g8,g9,gD,gH,eI,eK,eJ,bX,bZ,d9,eA,dZ,dY,eF,eN,eO,eQ,gI,gM,bB,bA,bG,bE,aV,aZ,aA,aB,aR,aF,aH,aJ,start0,deq,flatE,lf,frzL,List.length_cons,List.length_nil,List.map_cons,List.map_nil,List.replicate,List.append_nil,List.nil_append,List.cons_append,List.getElem?_cons_zero,List.getElem?_cons_succ,List.set_cons_zero,List.set_cons_succ,Option.map_some,if_true,if_false,Bool.false_eq_true,Nat.zero_add,Nat.reduceAdd,Nat.reduceSub,Nat.sub_self,Nat.add_one_sub_one,Bool.and_self,Bool.true_and,Bool.not_true,Bool.not_false,Bool.false_and,ite_self,Nat.reduceLeDiff,beq_self_eq_true])
   ·repeat (first | simp only [lim,fJ,fK,dO,dQ,dP,aI,aN,eT,eU,eV,eW,cI,cJ,cK,cL,cN,cM,iI,iL,cE,dF,dX,dU,dJ,dL,dI,b0,cA,cB,cC,iM,iF,iG,iH,g6,iB,hJ,hV,hW,fH,fI,fP,fR,fQ,bP,bR,bQ,fG,cO,cP,cQ,gU,gW,gT,iC,cW,cX,cF,cG,cH,eX,cR,cS,cU,cV,gN,gO,gP,gQ,gR,gS,fM,fN,fO,g7,g8,g9,gD,gH,eI,eK,eJ,bX,bZ,d9,eA,dZ,dY,eF,eN,eO,eQ,gI,gM,bB,bA,bG,bE,aV,aZ,aA,aB,aR,aF,aH,aJ,start0,deq,flatE,lf,frzL,List.length_cons,List.length_nil,List.map_cons,List.map_nil,List.replicate,List.append_nil,List.nil_append,List.cons_append,List.getElem?_cons_zero,List.getElem?_cons_succ,List.set_cons_zero,List.set_cons_succ,Option.map_some,if_true,if_false,Bool.false_eq_true,Nat.zero_add,Nat.reduceAdd,Nat.reduceSub,Nat.sub_self,Nat.add_one_sub_one,Bool.and_self,Bool.true_and,Bool.not_true,Bool.not_false,Bool.false_and,ite_self,Nat.reduceLeDiff,beq_self_eq_true] | simp only [ep])
 | exn C=>cases hd
 | non=>have it:=oi_tuple (d:=.non) rfl;repeat (first | simp only [lim,fJ,fK,dO,dQ,dP,aI,aN,eT,eU,eV,eW,cI,cJ,cK,cL,cN,cM,iI,iL,cE,dF,dX,dU,dJ,dL,dI,b0,cA,cB,cC,iM,iF,iG,iH,g6,iB,hJ,hV,hW,fH,fI,fP,fR,fQ,bP,bR,bQ,fG,cO,cP,cQ,gU,gW,gT,iC,cW,cX,cF,cG,cH,eX,cR,cS,cU,cV,gN,gO,gP,gQ,gR,gS,fM,fN,fO,g7,g8,g9,gD,gH,eI,eK,eJ,bX,bZ,d9,eA,dZ,dY,eF,eN,eO,eQ,gI,gM,bB,bA,bG,bE,aV,aZ,aA,aB,aR,aF,aH,aJ,start0,deq,flatE,lf,frzL,List.length_cons,List.length_nil,List.map_cons,List.map_nil,List.replicate,List.append_nil,List.nil_append,List.cons_append,List.getElem?_cons_zero,List.getElem?_cons_succ,List.set_cons_zero,List.set_cons_succ,Option.map_some,if_true,if_false,Bool.false_eq_true,Nat.zero_add,Nat.reduceAdd,Nat.reduceSub,Nat.sub_self,Nat.add_one_sub_one,Bool.and_self,Bool.true_and,Bool.not_true,Bool.not_false,Bool.false_and,ite_self,Nat.reduceLeDiff,beq_self_eq_true] | simp only [it,isT,sideB])
 | bl b=>have it:=oi_tuple (d:=.bl b) rfl;repeat (first | simp only [lim,fJ,fK,dO,dQ,dP,aI,aN,eT,eU,eV,eW,cI,cJ,cK,cL,cN,cM,iI,iL,cE,dF,dX,dU,dJ,dL,dI,b0,cA,cB,cC,iM,iF,iG,iH,g6,iB,hJ,hV,hW,fH,fI,fP,fR,fQ,bP,bR,bQ,fG,cO,cP,cQ,gU,gW,gT,iC,cW,cX,cF,cG,cH,eX,cR,cS,cU,cV,gN,gO,gP,gQ,gR,gS,fM,fN,fO,g7,g8,g9,gD,gH,eI,eK,eJ,bX,bZ,d9,eA,dZ,dY,eF,eN,eO,eQ,gI,gM,bB,bA,bG,bE,aV,aZ,aA,aB,aR,aF,aH,aJ,start0,deq,flatE,lf,frzL,List.length_cons,List.length_nil,List.map_cons,List.map_nil,List.replicate,List.append_nil,List.nil_append,List.cons_append,List.getElem?_cons_zero,List.getElem?_cons_succ,List.set_cons_zero,List.set_cons_succ,Option.map_some,if_true,if_false,Bool.false_eq_true,Nat.zero_add,Nat.reduceAdd,Nat.reduceSub,Nat.sub_self,Nat.add_one_sub_one,Bool.and_self,Bool.true_and,Bool.not_true,Bool.not_false,Bool.false_and,ite_self,Nat.reduceLeDiff,beq_self_eq_true] | simp only [it,isT,sideB])
 | int b=>have it:=oi_tuple (d:=.int b) rfl;repeat (first | simp only [lim,fJ,fK,dO,dQ,dP,aI,aN,eT,eU,eV,eW,cI,cJ,cK,cL,cN,cM,iI,iL,cE,dF,dX,dU,dJ,dL,dI,b0,cA,cB,cC,iM,iF,iG,iH,g6,iB,hJ,hV,hW,fH,fI,fP,fR,fQ,bP,bR,bQ,fG,cO,cP,cQ,gU,gW,gT,iC,cW,cX,cF,cG,cH,eX,cR,cS,cU,cV,gN,gO,gP,gQ,gR,gS,fM,fN,fO,g7,g8,g9,gD,gH,eI,eK,eJ,bX,bZ,d9,eA,dZ,dY,eF,eN,eO,eQ,gI,gM,bB,bA,bG,bE,aV,aZ,aA,aB,aR,aF,aH,aJ,start0,deq,flatE,lf,frzL,List.length_cons,List.length_nil,List.map_cons,List.map_nil,List.replicate,List.append_nil,List.nil_append,List.cons_append,List.getElem?_cons_zero,List.getElem?_cons_succ,List.set_cons_zero,List.set_cons_succ,Option.map_some,if_true,if_false,Bool.false_eq_true,Nat.zero_add,Nat.reduceAdd,Nat.reduceSub,Nat.sub_self,Nat.add_one_sub_one,Bool.and_self,Bool.true_and,Bool.not_true,Bool.not_false,Bool.false_and,ite_self,Nat.reduceLeDiff,beq_self_eq_true] | simp only [it,isT,sideB])
 | str b=>have it:=oi_tuple (d:=.str b) rfl;repeat (first | simp only [lim,fJ,fK,dO,dQ,dP,aI,aN,eT,eU,eV,eW,cI,cJ,cK,cL,cN,cM,iI,iL,cE,dF,dX,dU,dJ,dL,dI,b0,cA,cB,cC,iM,iF,iG,iH,g6,iB,hJ,hV,hW,fH,fI,fP,fR,fQ,bP,bR,bQ,fG,cO,cP,cQ,gU,gW,gT,iC,cW,cX,cF,cG,cH,eX,cR,cS,cU,cV,gN,gO,gP,gQ,gR,gS,fM,fN,fO,g7,g8,g9,gD,gH,eI,eK,eJ,bX,bZ,d9,eA,dZ,dY,eF,eN,eO,eQ,gI,gM,bB,bA,bG,bE,aV,aZ,aA,aB,aR,aF,aH,aJ,start0,deq,flatE,lf,frzL,List.length_cons,List.length_nil,List.map_cons,List.map_nil,List.replicate,List.append_nil,List.nil_append,List.cons_append,List.getElem?_cons_zero,List.getElem?_cons_succ,List.set_cons_zero,List.set_cons_succ,Option.map_some,if_true,if_false,Bool.false_eq_true,Nat.zero_add,Nat.reduceAdd,Nat.reduceSub,Nat.sub_self,Nat.add_one_sub_one,Bool.and_self,Bool.true_and,Bool.not_true,Bool.not_false,Bool.false_and,ite_self,Nat.reduceLeDiff,beq_self_eq_true] | simp only [it,isT,sideB])
 | lst b=>have it:=oi_tuple (d:=.lst b) rfl;repeat (first | simp only [lim,fJ,fK,dO,dQ,dP,aI,aN,eT,eU,eV,eW,cI,cJ,cK,cL,cN,cM,iI,iL,cE,dF,dX,dU,dJ,dL,dI,b0,cA,cB,cC,iM,iF,iG,iH,g6,iB,hJ,hV,hW,fH,fI,fP,fR,fQ,bP,bR,bQ,fG,cO,cP,cQ,gU,gW,gT,iC,cW,cX,cF,cG,cH,eX,cR,cS,cU,cV,gN,gO,gP,gQ,gR,gS,fM,fN,fO,g7,g8,g9,gD,gH,eI,eK,eJ,bX,bZ,d9,eA,dZ,dY,eF,eN,eO,eQ,gI,gM,bB,bA,bG,bE,aV,aZ,aA,aB,aR,aF,aH,aJ,start0,deq,flatE,lf,frzL,List.length_cons,List.length_nil,List.map_cons,List.map_nil,List.replicate,List.append_nil,List.nil_append,List.cons_append,List.getElem?_cons_zero,List.getElem?_cons_succ,List.set_cons_zero,List.set_cons_succ,Option.map_some,if_true,if_false,Bool.false_eq_true,Nat.zero_add,Nat.reduceAdd,Nat.reduceSub,Nat.sub_self,Nat.add_one_sub_one,Bool.and_self,Bool.true_and,Bool.not_true,Bool.not_false,Bool.false_and,ite_self,Nat.reduceLeDiff,beq_self_eq_true] | simp only [it,isT,sideB])
 | dT b c=>have it:=oi_tuple (d:=.dT b c) rfl;repeat (first | simp only [lim,fJ,fK,dO,dQ,dP,aI,aN,eT,eU,eV,eW,cI,cJ,cK,cL,cN,cM,iI,iL,cE,dF,dX,dU,dJ,dL,dI,b0,cA,cB,cC,iM,iF,iG,iH,g6,iB,hJ,hV,hW,fH,fI,fP,fR,fQ,bP,bR,bQ,fG,cO,cP,cQ,gU,gW,gT,iC,cW,cX,cF,cG,cH,eX,cR,cS,cU,cV,gN,gO,gP,gQ,gR,gS,fM,fN,fO,g7,g8,g9,gD,gH,eI,eK,eJ,bX,bZ,d9,eA,dZ,dY,eF,eN,eO,eQ,gI,gM,bB,bA,bG,bE,aV,aZ,aA,aB,aR,aF,aH,aJ,start0,deq,flatE,lf,frzL,List.length_cons,List.length_nil,List.map_cons,List.map_nil,List.replicate,List.append_nil,List.nil_append,List.cons_append,List.getElem?_cons_zero,List.getElem?_cons_succ,List.set_cons_zero,List.set_cons_succ,Option.map_some,if_true,if_false,Bool.false_eq_true,Nat.zero_add,Nat.reduceAdd,Nat.reduceSub,Nat.sub_self,Nat.add_one_sub_one,Bool.and_self,Bool.true_and,Bool.not_true,Bool.not_false,Bool.false_and,ite_self,Nat.reduceLeDiff,beq_self_eq_true] | simp only [it,isT,sideB])
 | dK b c=>have it:=oi_tuple (d:=.dK b c) rfl;repeat (first | simp only [lim,fJ,fK,dO,dQ,dP,aI,aN,eT,eU,eV,eW,cI,cJ,cK,cL,cN,cM,iI,iL,cE,dF,dX,dU,dJ,dL,dI,b0,cA,cB,cC,iM,iF,iG,iH,g6,iB,hJ,hV,hW,fH,fI,fP,fR,fQ,bP,bR,bQ,fG,cO,cP,cQ,gU,gW,gT,iC,cW,cX,cF,cG,cH,eX,cR,cS,cU,cV,gN,gO,gP,gQ,gR,gS,fM,fN,fO,g7,g8,g9,gD,gH,eI,eK,eJ,bX,bZ,d9,eA,dZ,dY,eF,eN,eO,eQ,gI,gM,bB,bA,bG,bE,aV,aZ,aA,aB,aR,aF,aH,aJ,start0,deq,flatE,lf,frzL,List.length_cons,List.length_nil,List.map_cons,List.map_nil,List.replicate,List.append_nil,List.nil_append,List.cons_append,List.getElem?_cons_zero,List.getElem?_cons_succ,List.set_cons_zero,List.set_cons_succ,Option.map_some,if_true,if_false,Bool.false_eq_true,Nat.zero_add,Nat.reduceAdd,Nat.reduceSub,Nat.sub_self,Nat.add_one_sub_one,Bool.and_self,Bool.true_and,Bool.not_true,Bool.not_false,Bool.false_and,ite_self,Nat.reduceLeDiff,beq_self_eq_true] | simp only [it,isT,sideB])
noncomputable abbrev s_common_divisor:Stmt:=top 19
theorem sc_common_divisor:FnScope ["one","other"] ["one","other"] (defScope s_common_divisor):=⟨rfl,rfl,rfl,by decide +kernel,rfl,by decide +kernel,by decide +kernel⟩
noncomputable def S_common_divisor (g:List D→Option W):Prop:=∀a b:Int,0≤a→0≤b→g [.int a,.int b]=some (.v (.int (Int.gcd a b:Nat)))
theorem fn_common_divisor (F:Fun K "common_divisor" "common_divisor" s_common_divisor f fd)(B:Binds K fd ["one","other"] [])(hm:mg "common_divisor"=some (.ref f)):∃g,Fn P w K mg base "common_divisor" (k + 1) g∧S_common_divisor g:=by
 have nd:=sc_common_divisor.nd
 refine ⟨_,fn_mk F sc_common_divisor B hm rfl rfl (fun cdv A outer s H E hr=>(qss_cons (qs_while PySem.PassesOwn.never (qt_gt (qx_name 1) qx_int) (qss_one (qs_par 0 1 rfl nd (qa_cons (qx_name 1) (qa_cons (qx_mod (qx_name 0) (qx_name 1)) qa_nil)) rfl)))
  (qss_one (qs_ret (qx_name 0))))),?_⟩
 intro a b ha hb
 have l:=gcd_loop (i:=0) (j:=1) (ρ:=[some (.v (.int a)),some (.v (.int b))]) (by decide) ha hb rfl rfl
 repeat (first | simp only [lim,fJ,fK,dO,dQ,dP,aI,aN,eT,eU,eV,eW,cI,cJ,cK,cL,cN,cM,iI,iL,cE,dF,dX,dU,dJ,dL,dI,b0,cA,cB,cC,iM,iF,iG,iH,g6,iB,hJ,hV,hW,fH,fI,fP,fR,fQ,bP,bR,bQ,fG,cO,cP,cQ,gU,gW,gT,iC,cW,cX,cF,cG,cH,eX,cR,cS,cU,cV,gN,gO,gP,gQ,gR,gS,fM,fN,fO,g7,g8,g9,gD,gH,eI,eK,eJ,bX,bZ,d9,eA,dZ,dY,eF,eN,eO,eQ,gI,gM,bB,bA,bG,bE,aV,aZ,aA,aB,aR,aF,aH,aJ,start0,deq,flatE,lf,frzL,List.length_cons,List.length_nil,List.map_cons,List.map_nil,List.replicate,List.append_nil,List.nil_append,List.cons_append,List.getElem?_cons_zero,List.getElem?_cons_succ,List.set_cons_zero,List.set_cons_succ,Option.map_some,if_true,if_false,Bool.false_eq_true,Nat.zero_add,Nat.reduceAdd,Nat.reduceSub,Nat.sub_self,Nat.add_one_sub_one,Bool.and_self,Bool.true_and,Bool.not_true,Bool.not_false,Bool.false_and,ite_self,Nat.reduceLeDiff,beq_self_eq_true] | rw [l])
noncomputable abbrev s_ratio:Stmt:=top 20
theorem sc_ratio:FnScope ["top","bottom","common"] ["top","bottom"] (defScope s_ratio):=⟨rfl,rfl,rfl,by decide +kernel,rfl,by decide +kernel,by decide +kernel⟩
noncomputable def S_ratio (g:List D→Option W):Prop:=∀t b:Int,0 < b→b.natAbs < big→g [.int t,.int b]=some (.v (ratD (Rat.divInt t b)))
theorem fn_ratio {g_common_divisor:List D→Option W}(h_common_divisor:Fn P w K mg base "common_divisor" k g_common_divisor)(e_common_divisor:S_common_divisor g_common_divisor)(m_abs:mg "abs"=none)(F:Fun K "ratio" "ratio" s_ratio f fd)(B:Binds K fd ["top","bottom"] [])(hm:mg "ratio"=some (.ref f)):∃g,Fn P w K mg base "ratio" (k + 1) g∧S_ratio g:=by
 have nd:=sc_ratio.nd
 refine ⟨_,fn_mk F sc_ratio B hm rfl rfl (fun cdv A outer s H E hr=>(qss_cons (qs_if (qt_eq hr (qx_name 1) qx_int) (qss_one qs_raise) qss_nil)
  (qss_cons (qs_if (qt_ltT hr (qx_name 1) qx_int) (qss_one (qs_par 0 1 rfl nd (qa_cons (qx_neg (qx_name 0)) (qa_cons (qx_neg (qx_name 1)) qa_nil)) rfl)) qss_nil)
  (qss_cons (qs_set 2 nd (qx_def h_common_divisor hr (qa_cons (qx_b call_abs pr_abs m_abs (qa_cons (qx_name 0) qa_nil)) (qa_cons (qx_name 1) qa_nil))))
  (qss_one (qs_ret (qx_tup (qa_cons (qx_div (qx_name 0) (qx_name 2)) (qa_cons (qx_div (qx_name 1) (qx_name 2)) qa_nil))))))))),?_⟩
 intro t b hb hs
 have d:=dOk_gcd (t:=t) hb hs
 have c:=e_common_divisor (if t < 0 then -t else t) b (by split <;> (first|lia|omega)) (by (first|lia|omega))
 rw [gcd_abs] at c
 obtain ⟨p1,p2⟩:=divInt_parts (t:=t) hb
 have z0:(b == 0)=false:=by simpa using (by (first|lia|omega):b≠0)
 have n:decide (b < 0)=false:=by simp;(first|lia|omega)
 unfold ratD
 rw [p1,p2]
 repeat (first | simp only [lim,fJ,fK,dO,dQ,dP,aI,aN,eT,eU,eV,eW,cI,cJ,cK,cL,cN,cM,iI,iL,cE,dF,dX,dU,dJ,dL,dI,b0,cA,cB,cC,iM,iF,iG,iH,g6,iB,hJ,hV,hW,fH,fI,fP,fR,fQ,bP,bR,bQ,fG,cO,cP,cQ,gU,gW,gT,iC,cW,cX,cF,cG,cH,eX,cR,cS,cU,cV,gN,gO,gP,gQ,gR,gS,fM,fN,fO,g7,g8,g9,gD,gH,eI,eK,eJ,bX,bZ,d9,eA,dZ,dY,eF,eN,eO,eQ,gI,gM,bB,bA,bG,bE,aV,aZ,aA,aB,aR,aF,aH,aJ,start0,deq,flatE,lf,frzL,List.length_cons,List.length_nil,List.map_cons,List.map_nil,List.replicate,List.append_nil,List.nil_append,List.cons_append,List.getElem?_cons_zero,List.getElem?_cons_succ,List.set_cons_zero,List.set_cons_succ,Option.map_some,if_true,if_false,Bool.false_eq_true,Nat.zero_add,Nat.reduceAdd,Nat.reduceSub,Nat.sub_self,Nat.add_one_sub_one,Bool.and_self,Bool.true_and,Bool.not_true,Bool.not_false,Bool.false_and,ite_self,Nat.reduceLeDiff,beq_self_eq_true] | simp only [z0,n,c,d])
noncomputable abbrev s_less:Stmt:=top 21
theorem sc_less:FnScope ["one","other"] ["one","other"] (defScope s_less):=⟨rfl,rfl,rfl,by decide +kernel,rfl,by decide +kernel,by decide +kernel⟩
noncomputable def S_less (g:List D→Option W):Prop:=∀(p q:Rat) (m n:Nat),Sz m p→Sz n q→m + n≤8000→g [ratD p,ratD q]=some (.v (.bl (decide (p.num * q.den < q.num * p.den))))
theorem fn_less (F:Fun K "less" "less" s_less f fd)(B:Binds K fd ["one","other"] [])(hm:mg "less"=some (.ref f)):∃g,Fn P w K mg base "less" (k + 1) g∧S_less g:=by
 have nd:=sc_less.nd
 refine ⟨_,fn_mk F sc_less B hm rfl rfl (fun cdv A outer s H E hr=>(qss_one (qs_ret (qx_ltT hr (qx_mul (qx_ix (qx_name 0) qx_int) (qx_ix (qx_name 1) qx_int)) (qx_mul (qx_ix (qx_name 1) qx_int) (qx_ix (qx_name 0) qx_int)))))),?_⟩
 intro p q m n hp hq h
 obtain ⟨m1,m2,m3,hpos,hbig⟩:=sz_mul hp hq h
 rw [show ratD p= .tup [.int p.num,.int p.den] from rfl,show ratD q= .tup [.int q.num,.int q.den] from rfl]
 repeat (first | simp only [lim,fJ,fK,dO,dQ,dP,aI,aN,eT,eU,eV,eW,cI,cJ,cK,cL,cN,cM,iI,iL,cE,dF,dX,dU,dJ,dL,dI,b0,cA,cB,cC,iM,iF,iG,iH,g6,iB,hJ,hV,hW,fH,fI,fP,fR,fQ,bP,bR,bQ,fG,cO,cP,cQ,gU,gW,gT,iC,cW,cX,cF,cG,cH,eX,cR,cS,cU,cV,gN,gO,gP,gQ,gR,gS,fM,fN,fO,g7,g8,g9,gD,gH,eI,eK,eJ,bX,bZ,d9,eA,dZ,dY,eF,eN,eO,eQ,gI,gM,bB,bA,bG,bE,aV,aZ,aA,aB,aR,aF,aH,aJ,start0,deq,flatE,lf,frzL,List.length_cons,List.length_nil,List.map_cons,List.map_nil,List.replicate,List.append_nil,List.nil_append,List.cons_append,List.getElem?_cons_zero,List.getElem?_cons_succ,List.set_cons_zero,List.set_cons_succ,Option.map_some,if_true,if_false,Bool.false_eq_true,Nat.zero_add,Nat.reduceAdd,Nat.reduceSub,Nat.sub_self,Nat.add_one_sub_one,Bool.and_self,Bool.true_and,Bool.not_true,Bool.not_false,Bool.false_and,ite_self,Nat.reduceLeDiff,beq_self_eq_true] | simp only [m1,m2])
end
end Q67
set_option maxHeartbeats 1500000
namespace Q67
open PySem L2 Z
section
variable {P:Program}{w:World}{K:PySem.W.Frag}{mg:Str→Option Value}{base:Heap}{f:Addr}{fd:FuncData}{k:Nat}
noncomputable abbrev s__law_mixed:Stmt:=top 29
theorem sc__law_mixed:FnScope ["cell","k","part"] ["cell","k"] (defScope s__law_mixed):=⟨rfl,rfl,rfl,by decide +kernel,rfl,by decide +kernel,by decide +kernel⟩
noncomputable def S__law_mixed (g:List D→Option W):Prop:=∀c k:Int,0≤k→k < 40→∃i:Int,g [.int c,.int k]=some (.v (.int i))
theorem fn__law_mixed (F:Fun K "_law_mixed" "_law_mixed" s__law_mixed f fd)(B:Binds K fd ["cell","k"] [])(hm:mg "_law_mixed"=some (.ref f)):∃g,Fn P w K mg base "_law_mixed" (k + 1) g∧S__law_mixed g:=by
 have nd:=sc__law_mixed.nd
 refine ⟨_,fn_mk F sc__law_mixed B hm rfl rfl (fun cdv A outer s H E hr=>(qss_cons (qs_set 2 nd (qx_mod (qx_mul (qx_add (qx_add (qx_mod (qx_name 0) qx_int) (qx_mul qx_int (qx_name 1))) qx_int) qx_int) qx_int))
  (qss_cons (qs_set 2 nd (qx_mod (qx_mul (qx_name 2) (qx_name 2)) qx_int))
  (qss_one (qs_ret (qx_div (qx_mod (qx_mul (qx_add (qx_name 2) (qx_name 1)) qx_int) qx_int) qx_int)))))),?_⟩
 intro c k h0 h1
 have p0:∀a:Int,mOk a 48271:=fun a=>.inr (.inl (by decide))
 have p1:∀a:Int,mOk a 69621:=fun a=>.inr (.inl (by decide))
 have p2:∀a:Int,mOk 7919 a:=fun a=>.inl (by decide)
 have p3:∀a:Int,mOk (a % 2305843009213693951) (a % 2305843009213693951):=fun a=>.inl (by
  have:=Int.emod_nonneg a (b:=2305843009213693951) (by decide)
  have:=Int.emod_lt_of_pos a (b:=2305843009213693951) (by decide)
  (first|lia|omega))
 have d1:(0:Int) < 1000000000000000009:=by decide
 have d2:(0:Int) < 2305843009213693951:=by decide
 have d3:(0:Int) < 2305843009213693921:=by decide
 have d4:dOk 8:=dOk_lit (by decide) (by decide)
 refine ⟨?_,?_⟩
 rotate_left
 ·repeat (first | simp only [lim,aI,aO,aD,aE,fV,fW,iI,iL,iJ,cE,dF,dE,dC,dX,dU,dW,dJ,dL,dI,b0,cA,cB,cC,iM,g6,iB,fG,cO,cP,cQ,gU,gW,gT,iC,eY,cW,cX,cF,cG,cH,cR,cS,cU,cV,cY,cZ,dA,dB,g7,g8,g9,gD,gH,gF,eI,eK,eJ,bX,bZ,bL,bM,bN,fL,d9,eA,dZ,dY,eF,eB,eC,eD,eE,dR,dS,iD,iE,gI,gM,gJ,gK,bB,bA,aX,bD,aA,aB,aC,aR,aP,aF,aG,aH,aJ,bJ,bK,iN,iP,Z.W.own,start0,lf,lfL,noR,frzL,List.length_cons,List.length_nil,List.map_cons,List.map_nil,List.replicate,List.nil_append,List.cons_append,List.getElem?_cons_zero,List.getElem?_cons_succ,List.set_cons_zero,List.set_cons_succ,Option.map_some,if_true,Nat.zero_add,Nat.reduceAdd,Nat.reduceSub,Nat.sub_self,Nat.add_one_sub_one,and_self,Bool.and_self,ite_self,Nat.reduceLeDiff] | simp only [p0,p1,p2,p3,d1,d2,d3,d4])
  rfl
noncomputable abbrev s__law_deal:Stmt:=top 30
theorem sc__law_deal:FnScope ["cell","great","k"] ["cell"] (defScope s__law_deal):=⟨rfl,rfl,rfl,by decide +kernel,rfl,by decide +kernel,by decide +kernel⟩
noncomputable def S__law_deal (g:List D→Option W):Prop:=∀c:Int,∃m:Int,g [.int c]=some (.o (.lst [.int m]))
theorem fn__law_deal {g__law_mixed:List D→Option W}(h__law_mixed:Fn P w K mg base "_law_mixed" k g__law_mixed)(e__law_mixed:S__law_mixed g__law_mixed)(m_range:mg "range"=none)(F:Fun K "_law_deal" "_law_deal" s__law_deal f fd)(B:Binds K fd ["cell"] [])(hm:mg "_law_deal"=some (.ref f)):∃g,Fn P w K mg base "_law_deal" (k + 1) g∧S__law_deal g:=by
 have nd:=sc__law_deal.nd
 refine ⟨_,fn_mk F sc__law_deal B hm rfl rfl (fun cdv A outer s H E hr=>(qss_cons (qs_if (qt_ge (qx_name 0) (qx_pow qx_int qx_int)) (qss_one (qs_ret (qx_lst (qa_cons (qx_sub (qx_name 0) (qx_pow qx_int qx_int)) qa_nil)))) qss_nil)
  (qss_cons (qs_set 1 nd qx_int)
  (qss_cons (qs_for PySem.PassesOwn.never rfl (qi_r1 m_range (qa_cons qx_int qa_nil)) (qg_name 2 nd) (qss_one (qs_set 1 nd (qx_add (qx_mul (qx_name 1) qx_int) (qx_mod (qx_def h__law_mixed hr (qa_cons (qx_name 0) (qa_cons (qx_name 2) qa_nil))) qx_int)))))
  (qss_one (qs_ret (qx_lst (qa_cons (qx_name 1) qa_nil)))))))),?_⟩
 intro c
 have p1:∀a:Int,mOk a 1152921504606846976:=fun a=>.inr (.inl (by decide))
 have d1:(0:Int) < 1152921504606846976:=by decide
 have pw:CPow 10 18:=by decide
 by_cases h:(10:Int) ^ (18:Int).toNat≤c
 ·have h':decide ((10:Int) ^ (18:Int).toNat≤c)=true:=decide_eq_true h
  refine ⟨?_,?_⟩
  rotate_left
  ·repeat (first | simp only [lim,aI,aO,aD,aE,fV,fW,iI,iL,iJ,cE,dF,dE,dC,dX,dU,dW,dJ,dL,dI,b0,cA,cB,cC,iM,g6,iB,fG,cO,cP,cQ,gU,gW,gT,iC,eY,cW,cX,cF,cG,cH,cR,cS,cU,cV,cY,cZ,dA,dB,g7,g8,g9,gD,gH,gF,eI,eK,eJ,bX,bZ,bL,bM,bN,fL,d9,eA,dZ,dY,eF,eB,eC,eD,eE,dR,dS,iD,iE,gI,gM,gJ,gK,bB,bA,aX,bD,aA,aB,aC,aR,aP,aF,aG,aH,aJ,bJ,bK,iN,iP,Z.W.own,start0,lf,lfL,noR,frzL,List.length_cons,List.length_nil,List.map_cons,List.map_nil,List.replicate,List.nil_append,List.cons_append,List.getElem?_cons_zero,List.getElem?_cons_succ,List.set_cons_zero,List.set_cons_succ,Option.map_some,if_true,Nat.zero_add,Nat.reduceAdd,Nat.reduceSub,Nat.sub_self,Nat.add_one_sub_one,and_self,Bool.and_self,ite_self,Nat.reduceLeDiff] | simp only [pw,h'])
   rfl
 ·have h':decide ((10:Int) ^ (18:Int).toNat≤c)=false:=decide_eq_false h
  have r40:(-(2 ^ 62:Int)≤40∧(40:Int) < 2 ^ 62):=by decide
  repeat (first | simp only [lim,aI,aO,aD,aE,fV,fW,iI,iL,iJ,cE,dF,dE,dC,dX,dU,dW,dJ,dL,dI,b0,cA,cB,cC,iM,g6,iB,fG,cO,cP,cQ,gU,gW,gT,iC,eY,cW,cX,cF,cG,cH,cR,cS,cU,cV,cY,cZ,dA,dB,g7,g8,g9,gD,gH,gF,eI,eK,eJ,bX,bZ,bL,bM,bN,fL,d9,eA,dZ,dY,eF,eB,eC,eD,eE,dR,dS,iD,iE,gI,gM,gJ,gK,bB,bA,aX,bD,aA,aB,aC,aR,aP,aF,aG,aH,aJ,bJ,bK,iN,iP,Z.W.own,start0,lf,lfL,noR,frzL,List.length_cons,List.length_nil,List.map_cons,List.map_nil,List.replicate,List.nil_append,List.cons_append,List.getElem?_cons_zero,List.getElem?_cons_succ,List.set_cons_zero,List.set_cons_succ,Option.map_some,if_true,Nat.zero_add,Nat.reduceAdd,Nat.reduceSub,Nat.sub_self,Nat.add_one_sub_one,and_self,Bool.and_self,ite_self,Nat.reduceLeDiff] | simp only [pw,h',r40])
  generalize el:loopF _ _ _=r
  refine loop_elim el (fun _ ρ=>∃(m:Int) (o:Option D),ρ=[some (.v (.int c)),some (.v (.int m)),o.map .v]) ⟨0,none,rfl⟩ ?_ ?_
  ·rintro d x _ hx _ ⟨m,o,rfl⟩
   obtain ⟨i,rfl,h1,h2⟩:=mem_rng hx
   obtain ⟨j,ej⟩:=e__law_mixed c i (by (first|lia|omega)) (by (first|lia|omega))
   refine ⟨_,?_,m * 1152921504606846976 + j % 1152921504606846976,some (.int i),rfl⟩
   repeat (first | simp only [lim,aI,aO,aD,aE,fV,fW,iI,iL,iJ,cE,dF,dE,dC,dX,dU,dW,dJ,dL,dI,b0,cA,cB,cC,iM,g6,iB,fG,cO,cP,cQ,gU,gW,gT,iC,eY,cW,cX,cF,cG,cH,cR,cS,cU,cV,cY,cZ,dA,dB,g7,g8,g9,gD,gH,gF,eI,eK,eJ,bX,bZ,bL,bM,bN,fL,d9,eA,dZ,dY,eF,eB,eC,eD,eE,dR,dS,iD,iE,gI,gM,gJ,gK,bB,bA,aX,bD,aA,aB,aC,aR,aP,aF,aG,aH,aJ,bJ,bK,iN,iP,Z.W.own,start0,lf,lfL,noR,frzL,List.length_cons,List.length_nil,List.map_cons,List.map_nil,List.replicate,List.nil_append,List.cons_append,List.getElem?_cons_zero,List.getElem?_cons_succ,List.set_cons_zero,List.set_cons_succ,Option.map_some,if_true,Nat.zero_add,Nat.reduceAdd,Nat.reduceSub,Nat.sub_self,Nat.add_one_sub_one,and_self,Bool.and_self,ite_self,Nat.reduceLeDiff] | simp only [ej,p1,d1])
  ·rintro _ rfl ⟨m,o,rfl⟩
   refine ⟨m,?_⟩
   repeat (first | simp only [lim,aI,aO,aD,aE,fV,fW,iI,iL,iJ,cE,dF,dE,dC,dX,dU,dW,dJ,dL,dI,b0,cA,cB,cC,iM,g6,iB,fG,cO,cP,cQ,gU,gW,gT,iC,eY,cW,cX,cF,cG,cH,cR,cS,cU,cV,cY,cZ,dA,dB,g7,g8,g9,gD,gH,gF,eI,eK,eJ,bX,bZ,bL,bM,bN,fL,d9,eA,dZ,dY,eF,eB,eC,eD,eE,dR,dS,iD,iE,gI,gM,gJ,gK,bB,bA,aX,bD,aA,aB,aC,aR,aP,aF,aG,aH,aJ,bJ,bK,iN,iP,Z.W.own,start0,lf,lfL,noR,frzL,List.length_cons,List.length_nil,List.map_cons,List.map_nil,List.replicate,List.nil_append,List.cons_append,List.getElem?_cons_zero,List.getElem?_cons_succ,List.set_cons_zero,List.set_cons_succ,Option.map_some,if_true,Nat.zero_add,Nat.reduceAdd,Nat.reduceSub,Nat.sub_self,Nat.add_one_sub_one,and_self,Bool.and_self,ite_self,Nat.reduceLeDiff])
noncomputable abbrev s__law_next:Stmt:=top 31
theorem sc__law_next:FnScope ["left","many","digit"] ["left","many"] (defScope s__law_next):=⟨rfl,rfl,rfl,by decide +kernel,rfl,by decide +kernel,by decide +kernel⟩
noncomputable def S__law_next (g:D→List D→Option (W×D)):Prop:=∀m n:Int,dOk n→∃i m':Int,0≤i∧i < n∧g (.lst [.int m]) [.int n]=some (.v (.int i),.lst [.int m'])
theorem fn__law_next (m_divmod:mg "divmod"=none)(F:Fun K "_law_next" "_law_next" s__law_next f fd)(B:Binds K fd ["left","many"] [])(hm:mg "_law_next"=some (.ref f)):∃g,FnL P w K mg base "_law_next" (k + 1) g∧S__law_next g:=by
 have nd:=sc__law_next.nd
 refine ⟨_,fnL_mk F sc__law_next B hm rfl rfl (fun cdv A outer s H E hr=>(qss_cons (qs_asg (qx_divmod m_divmod (qa_cons (qx_ix (qx_name 0) qx_int) (qa_cons (qx_name 1) qa_nil))) (qg_tup rfl (qgs_cons (qg_sub (qx_name 0) qx_int) (qgs_cons (qg_name 2 nd) qgs_nil))))
  (qss_one (qs_ret (qx_name 2))))),?_⟩
 intro m n hn
 have dm:=r_dm (m:=m) hn
 have i10:ixN 1 0=some 0:=rfl
 refine ⟨m % n,m / n,Int.emod_nonneg _ (by have:=hn.1;(first|lia|omega)),Int.emod_lt_of_pos _ hn.1,?_⟩
 repeat (first | simp only [lim,aI,aO,aD,aE,fV,fW,iI,iL,iJ,cE,dF,dE,dC,dX,dU,dW,dJ,dL,dI,b0,cA,cB,cC,iM,g6,iB,fG,cO,cP,cQ,gU,gW,gT,iC,eY,cW,cX,cF,cG,cH,cR,cS,cU,cV,cY,cZ,dA,dB,g7,g8,g9,gD,gH,gF,eI,eK,eJ,bX,bZ,bL,bM,bN,fL,d9,eA,dZ,dY,eF,eB,eC,eD,eE,dR,dS,iD,iE,gI,gM,gJ,gK,bB,bA,aX,bD,aA,aB,aC,aR,aP,aF,aG,aH,aJ,bJ,bK,iN,iP,Z.W.own,start0,lf,lfL,noR,frzL,List.length_cons,List.length_nil,List.map_cons,List.map_nil,List.replicate,List.nil_append,List.cons_append,List.getElem?_cons_zero,List.getElem?_cons_succ,List.set_cons_zero,List.set_cons_succ,Option.map_some,if_true,Nat.zero_add,Nat.reduceAdd,Nat.reduceSub,Nat.sub_self,Nat.add_one_sub_one,and_self,Bool.and_self,ite_self,Nat.reduceLeDiff] | simp only [dm,i10])
noncomputable abbrev s__law_tie:Stmt:=top 32
theorem sc__law_tie:FnScope ["left","a","b","kind","base"] ["left","a","b","kind"] (defScope s__law_tie):=⟨rfl,rfl,rfl,by decide +kernel,rfl,by decide +kernel,by decide +kernel⟩
noncomputable def S__law_tie (g:D→List D→Option (W×D)):Prop:=∀m a b c:Int,0≤c→c < 5→∃t m':Int,g (.lst [.int m]) [.int a,.int b,.int c]=some (.v (tieD (a,b,t)),.lst [.int m'])
theorem fn__law_tie {g__law_next:D→List D→Option (W×D)}(h__law_next:FnL P w K mg base "_law_next" k g__law_next)(e__law_next:S__law_next g__law_next)(F:Fun K "_law_tie" "_law_tie" s__law_tie f fd)(B:Binds K fd ["left","a","b","kind"] [])(hm:mg "_law_tie"=some (.ref f)):∃g,FnL P w K mg base "_law_tie" (k + 1) g∧S__law_tie g:=by
 have nd:=sc__law_tie.nd
 refine ⟨_,fnL_mk F sc__law_tie B hm rfl rfl (fun cdv A outer s H E hr=>(qss_cons (qs_set 4 nd (qx_ix (qx_lst (qa_cons qx_int (qa_cons qx_int (qa_cons (qx_sub (qx_pow qx_int qx_int) qx_int) (qa_cons qx_int (qa_cons qx_int qa_nil)))))) (qx_name 3)))
  (qss_one (qs_ret (qx_tup (qa_cons (qx_name 1) (qa_cons (qx_name 2) (qa_cons (qx_add (qx_name 4) (qx_defL h__law_next hr (qa_cons (qx_name 0) (qa_cons (qx_ix (qx_lst (qa_cons qx_int (qa_cons qx_int (qa_cons qx_int (qa_cons qx_int (qa_cons (qx_pow qx_int qx_int) qa_nil)))))) (qx_name 3)) qa_nil)))) qa_nil)))))))),?_⟩
 intro m a b c h0 h5
 have pw:CPow 10 12:=by decide
 have hc:c=0∨c=1∨c=2∨c=3∨c=4:=by (first|lia|omega)
 have d1:dOk 1:=dOk_lit (by decide) (by decide)
 have d4:dOk 4:=dOk_lit (by decide) (by decide)
 have d3:dOk 3:=dOk_lit (by decide) (by decide)
 have dz:dOk ((10:Int) ^ (12:Int).toNat):=dOk_lit (by decide) (by decide)
 obtain ⟨i0,n0,_,_,e0⟩:=e__law_next m 1 d1
 obtain ⟨i1,n1,_,_,e1⟩:=e__law_next m 4 d4
 obtain ⟨i2,n2,_,_,e2⟩:=e__law_next m 3 d3
 obtain ⟨i4,n4,_,_,e4⟩:=e__law_next m _ dz
 rcases hc with rfl | rfl | rfl | rfl | rfl <;>
 ·refine ⟨?_,?_,?_⟩
  rotate_left 2
  ·repeat (first | simp only [lim,aI,aO,aD,aE,fV,fW,iI,iL,iJ,cE,dF,dE,dC,dX,dU,dW,dJ,dL,dI,b0,cA,cB,cC,iM,g6,iB,fG,cO,cP,cQ,gU,gW,gT,iC,eY,cW,cX,cF,cG,cH,cR,cS,cU,cV,cY,cZ,dA,dB,g7,g8,g9,gD,gH,gF,eI,eK,eJ,bX,bZ,bL,bM,bN,fL,d9,eA,dZ,dY,eF,eB,eC,eD,eE,dR,dS,iD,iE,gI,gM,gJ,gK,bB,bA,aX,bD,aA,aB,aC,aR,aP,aF,aG,aH,aJ,bJ,bK,iN,iP,Z.W.own,start0,lf,lfL,noR,frzL,List.length_cons,List.length_nil,List.map_cons,List.map_nil,List.replicate,List.nil_append,List.cons_append,List.getElem?_cons_zero,List.getElem?_cons_succ,List.set_cons_zero,List.set_cons_succ,Option.map_some,if_true,Nat.zero_add,Nat.reduceAdd,Nat.reduceSub,Nat.sub_self,Nat.add_one_sub_one,and_self,Bool.and_self,ite_self,Nat.reduceLeDiff] | simp only [pw,e0,e1,e2,e4])
   rfl
end
end Q67
set_option maxHeartbeats 1500000
namespace Q67
open PySem L2 Z
section
variable {P:Program}{w:World}{K:PySem.W.Frag}{mg:Str→Option Value}{base:Heap}{f:Addr}{fd:FuncData}{k:Nat}
noncomputable def TsB (n:Int) (bs:List Int) (ts:List Tie):Prop:=∀t∈ts,0≤t.1∧t.1 < t.2.1∧t.2.1 < n∧bs.getD t.1.toNat 0≠bs.getD t.2.1.toNat 0
theorem TsB.snoc {n:Int}{bs:List Int}{ts:List Tie}{a b c:Int}(h:TsB n bs ts)(h1:0≤a∧a < b∧b < n∧bs.getD a.toNat 0≠bs.getD b.toNat 0):TsB n bs (ts ++ [(a,b,c)]):=fun t ht=>by
 rcases List.mem_append.mp ht with ht | ht
 ·exact h t ht
 ·rw [List.mem_singleton.mp ht];exact h1
noncomputable def ridx (n:Nat) (p:Int→Bool):List Int:=((List.range n).map fun (i:Nat)=>(i:Int)).filter p
theorem mem_ridx {n:Nat}{p:Int→Bool}{x:Int}:x∈ridx n p↔(0≤x∧x < n)∧p x=true:=by
 unfold ridx
 rw [List.mem_filter,List.mem_map]
 constructor
 ·rintro ⟨⟨i,hi,rfl⟩,h⟩
  rw [List.mem_range] at hi
  exact ⟨by (first|lia|omega),h⟩
 ·rintro ⟨⟨h0,h1⟩,h⟩
  exact ⟨⟨x.toNat,List.mem_range.mpr (by (first|lia|omega)),by (first|lia|omega)⟩,h⟩
theorem rise_pw:∀{ns:List Int},ns.Pairwise (· < ·)→rise ns=true
 | [],_=>rfl
 | [_],_=>rfl
 | a :: b :: r,h=>by
  rw [rise,Bool.and_eq_true,decide_eq_true_eq]
  exact ⟨(List.pairwise_cons.mp h).1 b List.mem_cons_self,rise_pw (List.pairwise_cons.mp h).2⟩
theorem rise_ridx (n:Nat)(p:Int→Bool):rise (ridx n p)=true:=by
 refine rise_pw (List.Pairwise.filter _ (List.pairwise_map.mpr (List.pairwise_lt_range.imp fun h=>?_)))
 (first|lia|omega)
theorem len_ridx (n:Nat)(p:Int→Bool):(ridx n p).length≤n:=by
 unfold ridx
 refine Nat.le_trans (List.length_filter_le _ _) ?_
 rw [List.length_map,List.length_range];exact Nat.le_refl _
noncomputable def onI (p:Int→Bool):D→Bool
 | .int i=>p i
 | _=>false
theorem ridx_eq (n:Nat)(p:Int→Bool):((rngD 0 n).filter (onI p)).map id=(ridx n p).map .int:=by
 rw [List.map_id,rngD_ints]
 unfold ridx
 rw [List.filter_map];rfl
structure Part (n:Int) (ts:List Tie) (side:List Int):Prop where
 n1:1≤n∧n≤8
 tl:ts.length≤64
 tb:∀t∈ts,0≤t.1∧t.1 < t.2.1∧t.2.1 < n∧(decide (t.1∈side) != decide (t.2.1∈side))=true
 sp:∀i∈side,0≤i∧i < n
 sr:rise side=true
 sl:side.length≤8
theorem six8 {i:Int}(h0:0≤i)(h4:i < 4):∃s:Int,(s=6∨s=8)∧atI [D.int 6,.int 6,.int 6,.int 8] i=some (.int s):=by
 have hc:i=0∨i=1∨i=2∨i=3:=by (first|lia|omega)
 rcases hc with rfl | rfl | rfl | rfl
 ·exact ⟨6,.inl rfl,aA⟩
 ·exact ⟨6,.inl rfl,aB⟩
 ·exact ⟨6,.inl rfl,aC⟩
 ·exact ⟨8,.inr rfl,aD⟩
noncomputable def bit1 (bs:List Int):Int→Bool:=fun i=>bs.getD i.toNat 0 == 1
theorem part_mk {n:Int}{bs:List Int}{ts:List Tie}(hn:1≤n∧n≤8)(hl:ts.length≤64)(hb:∀x∈bs,x=0∨x=1)(ht:TsB n bs ts):Part n ts (ridx n.toNat (bit1 bs)):=by
 have bb:∀i:Nat,bs.getD i 0=0∨bs.getD i 0=1:=fun i=>by
  rw [List.getD_eq_getElem?_getD]
  cases e:bs[i]? with
  | none=>exact .inl rfl
  | some x=>exact hb x (List.mem_of_getElem? e)
 refine ⟨hn,hl,fun t h=>?_,fun i h=>?_,rise_ridx _ _,Nat.le_trans (len_ridx _ _) (by (first|lia|omega))⟩
 ·obtain ⟨h1,h2,h3,h4⟩:=ht t h
  refine ⟨h1,h2,h3,?_⟩
  have e1:(t.1∈ridx n.toNat (bit1 bs))↔bs.getD t.1.toNat 0=1:=by
   rw [mem_ridx];unfold bit1;rw [beq_iff_eq]
   exact ⟨fun h=>h.2,fun h=>⟨by (first|lia|omega),h⟩⟩
  have e2:(t.2.1∈ridx n.toNat (bit1 bs))↔bs.getD t.2.1.toNat 0=1:=by
   rw [mem_ridx];unfold bit1;rw [beq_iff_eq]
   exact ⟨fun h=>h.2,fun h=>⟨by (first|lia|omega),h⟩⟩
  rcases bb t.1.toNat with x1 | x1 <;> rcases bb t.2.1.toNat with x2 | x2
  ·exact absurd (x1.trans x2.symm) h4
  ·rw [decide_eq_false (fun z=>by have:=e1.mp z;(first|lia|omega)),decide_eq_true (e2.mpr x2)];rfl
  ·rw [decide_eq_true (e1.mpr x1),decide_eq_false (fun z=>by have:=e2.mp z;(first|lia|omega))];rfl
  ·exact absurd (x1.trans x2.symm) h4
 ·have:=(mem_ridx.mp h).1;(first|lia|omega)
noncomputable abbrev s__law_parted:Stmt:=top 33
theorem sc__law_parted:FnScope ["left","many","kind","rare","bits","ties","a","b"] ["left"] (defScope s__law_parted):=⟨rfl,rfl,rfl,by decide +kernel,rfl,by decide +kernel,by decide +kernel⟩
noncomputable def S__law_parted (g:D→List D→Option (W×D)):Prop:=∀m:Int,∃(m' n:Int) (ts:List Tie) (side:List Int),Part n ts side∧g (.lst [.int m]) []=some (.v (.tup [webD n ts,.tup (side.map .int)]),.lst [.int m'])
theorem fn__law_parted {g__law_next:D→List D→Option (W×D)}{g__law_tie:D→List D→Option (W×D)}(h__law_next:FnL P w K mg base "_law_next" k g__law_next)(e__law_next:S__law_next g__law_next)(h__law_tie:FnL P w K mg base "_law_tie" k g__law_tie)(e__law_tie:S__law_tie g__law_tie)(m_range:mg "range"=none)(m_tuple:mg "tuple"=none)(F:Fun K "_law_parted" "_law_parted" s__law_parted f fd)(B:Binds K fd ["left"] [])(hm:mg "_law_parted"=some (.ref f)):∃g,FnL P w K mg base "_law_parted" (k + 1) g∧S__law_parted g:=by
 have nd:=sc__law_parted.nd
 refine ⟨_,fnL_mk F sc__law_parted B hm rfl rfl (fun cdv A outer s H E hr=>(qss_cons (qs_set 1 nd (qx_add qx_int (qx_defL h__law_next hr (qa_cons (qx_name 0) (qa_cons (qx_ix (qx_lst (qa_cons qx_int (qa_cons qx_int (qa_cons qx_int (qa_cons qx_int qa_nil))))) (qx_defL h__law_next hr (qa_cons (qx_name 0) (qa_cons qx_int qa_nil)))) qa_nil)))))
  (qss_cons (qs_set 2 nd (qx_defL h__law_next hr (qa_cons (qx_name 0) (qa_cons qx_int qa_nil))))
  (qss_cons (qs_set 3 nd (qx_add qx_int (qx_defL h__law_next hr (qa_cons (qx_name 0) (qa_cons qx_int qa_nil)))))
  (qss_cons (qs_set 4 nd (qx_comp (N:=["person","left"]) (js:=[none,some 0]) (li:=some (1,0)) rfl (blk_mk (by exact (.own (.cap rfl rfl rfl rfl .nil))) rfl (by exact ⟨rfl,trivial⟩) (by rfl)) (qib_of (qi_r1 m_range (qa_cons (qx_name 1) qa_nil))) (fun _ _ _ _=>(qg_name 0 (show ((["person","left"]:List Str) ++ [accN]).Nodup by decide +kernel))) (fun _ _ _ _=>tst_nil) (fun _ _ _ _=>(qx_defL h__law_next hr (qa_cons (qx_name 1) (qa_cons qx_int qa_nil))))))
  (qss_cons (qs_set 5 nd (qx_lst qa_nil))
  (qss_cons (qs_for PySem.PassesOwn.never rfl (qi_r1 m_range (qa_cons (qx_name 1) qa_nil)) (qg_name 6 nd) (qss_one (qs_for PySem.PassesOwn.never rfl (qi_r2 m_range (qa_cons (qx_add (qx_name 6) qx_int) (qa_cons (qx_name 1) qa_nil))) (qg_name 7 nd) (qss_one (qs_if (qt_of (qw_and (qt_ne hr (qx_ix (qx_name 4) (qx_name 6)) (qx_ix (qx_name 4) (qx_name 7))) (qw_and1 (qt_eq hr (qx_defL h__law_next hr (qa_cons (qx_name 0) (qa_cons (qx_name 3) qa_nil))) qx_int)))) (qss_one (qs_expr (qx_append (qx_name 5) (qa_cons (qx_defL h__law_tie hr (qa_cons (qx_name 0) (qa_cons (qx_name 6) (qa_cons (qx_name 7) (qa_cons (qx_name 2) qa_nil))))) qa_nil)))) qss_nil)))))
  (qss_one (qs_ret (qx_tup (qa_cons (qx_tup (qa_cons (qx_name 1) (qa_cons (qx_t call_tuple_of pr_tuple m_tuple (qa_cons (qx_name 5) qa_nil)) qa_nil))) (qa_cons (qx_t call_tuple_of pr_tuple m_tuple (qa_cons (qx_comp (N:=["person","bits"]) (js:=[none,some 4]) (li:=none) rfl (blk_mk (by exact (.own (.cap rfl rfl rfl rfl .nil))) rfl (by exact ⟨rfl,trivial⟩) (by rfl)) (qib_of (qi_r1 m_range (qa_cons (qx_name 1) qa_nil))) (fun _ _ _ _=>(qg_name 0 (show ((["person","bits"]:List Str) ++ [accN]).Nodup by decide +kernel))) (fun _ _ _ _=>(tst_one rfl (qt_eq hr (qx_ix (qx_name 1) (qx_name 0)) qx_int))) (fun _ _ _ _=>(qx_name 0))) qa_nil)) qa_nil)))))))))))),?_⟩
 intro m
 have d4:dOk 4:=dOk_lit (by decide) (by decide)
 have d5:dOk 5:=dOk_lit (by decide) (by decide)
 have d3:dOk 3:=dOk_lit (by decide) (by decide)
 have d2:dOk 2:=dOk_lit (by decide) (by decide)
 obtain ⟨i0,m0,h0,h0',e0⟩:=e__law_next m 4 d4
 obtain ⟨s,hs,ea⟩:=six8 h0 h0'
 obtain ⟨i1,m1,h1,h1',e1⟩:=e__law_next m0 s (dOk_lit (by (first|lia|omega)) (by (first|lia|omega)))
 obtain ⟨i2,m2,h2,h2',e2⟩:=e__law_next m1 5 d5
 obtain ⟨i3,m3,h3,h3',e3⟩:=e__law_next m2 3 d3
 have r1:(-(2 ^ 62:Int)≤1 + i1∧1 + i1 < 2 ^ 62):=by (first|lia|omega)
 repeat (first | simp only [lim,aI,fV,fW,fX,fY,gX,gY,gZ,g5,bU,bV,iI,iL,iK,iJ,cE,dF,dE,dD,dX,dU,dW,dJ,dL,dI,b0,cA,cB,cC,iM,g6,iB,bO,bT,bS,fG,cO,cP,cQ,gU,gW,gT,iC,eY,cW,cX,cF,cG,cH,eX,cY,cZ,dA,dB,g7,g8,gD,gH,eI,eK,eJ,bX,bZ,bY,d9,dG,dH,dR,dS,iD,iE,eZ,fA,fB,fD,fE,fF,bW,gJ,gK,aX,bD,bI,aZ,aR,aP,aF,aH,aJ,aM,bJ,bK,iN,iO,iP,Z.W.own,start0,deq,flatE,lf,lfL,noR,frzL,List.length_cons,List.length_nil,List.map_cons,List.map_nil,List.replicate,List.nil_append,List.cons_append,List.getElem?_cons_zero,List.getElem?_cons_succ,List.set_cons_zero,List.set_cons_succ,Option.map_some,if_true,if_false,Bool.false_eq_true,Nat.zero_add,Nat.reduceAdd,Nat.reduceSub,Nat.sub_self,Nat.add_one_sub_one,and_self,Bool.and_self,Bool.not_true,Bool.not_false,ite_self,Nat.reduceLeDiff,beq_self_eq_true] | simp only [e0,ea,e1,e2,e3])
 generalize ec:fComp _ _ _ _ _ _ _=r
 refine comp_elim ec (fun d B zs=>∃(o:Option D) (m:Int) (bs:List Int),B=[o.map .v,some (.l (.lst [.int m]))]∧zs=bs.map .int∧bs.length=d.length∧∀x∈bs,x=0∨x=1) (xs:=rngD 0 (1 + i1).toNat) (ρ1:=[some (.l (.lst [.int m3])),some (.v (.int (1 + i1))),some (.v (.int i2)),some (.v (.int (1 + i3))),none,none,none,none]) ?_ ?_ ?_ ?_ ?_ ?_ ?_ ?_
 ·repeat (first | simp only [lim,aI,fV,fW,fX,fY,gX,gY,gZ,g5,bU,bV,iI,iL,iK,iJ,cE,dF,dE,dD,dX,dU,dW,dJ,dL,dI,b0,cA,cB,cC,iM,g6,iB,bO,bT,bS,fG,cO,cP,cQ,gU,gW,gT,iC,eY,cW,cX,cF,cG,cH,eX,cY,cZ,dA,dB,g7,g8,gD,gH,eI,eK,eJ,bX,bZ,bY,d9,dG,dH,dR,dS,iD,iE,eZ,fA,fB,fD,fE,fF,bW,gJ,gK,aX,bD,bI,aZ,aR,aP,aF,aH,aJ,aM,bJ,bK,iN,iO,iP,Z.W.own,start0,deq,flatE,lf,lfL,noR,frzL,List.length_cons,List.length_nil,List.map_cons,List.map_nil,List.replicate,List.nil_append,List.cons_append,List.getElem?_cons_zero,List.getElem?_cons_succ,List.set_cons_zero,List.set_cons_succ,Option.map_some,if_true,if_false,Bool.false_eq_true,Nat.zero_add,Nat.reduceAdd,Nat.reduceSub,Nat.sub_self,Nat.add_one_sub_one,and_self,Bool.and_self,Bool.not_true,Bool.not_false,ite_self,Nat.reduceLeDiff,beq_self_eq_true] | simp only [r1])
 ·rw [len_rng];unfold lim;(first|lia|omega)
 ·rfl
 ·rintro d _ _ ⟨_,_,_,rfl,_⟩;rfl
 ·exact ⟨none,m3,[],rfl,rfl,rfl,fun _ h=>nomatch h⟩
 ·rintro d x _ _ hx ⟨o,m,bs,rfl,rfl,hb,hbb⟩ hl
  obtain ⟨i,rfl,_⟩:=mem_rng hx
  obtain ⟨j,m',hj0,hj1,ej⟩:=e__law_next m 2 d2
  rw [List.length_map] at hl
  unfold lim at hl
  refine ⟨[some (.v (.int i)),some (.l (.lst [.int m']))],(bs ++ [j]).map .int,?_,⟨some _,m',bs ++ [j],rfl,rfl,?_,fun x hx=>?_⟩,?_⟩
  ·repeat (first | simp only [lim,aI,fV,fW,fX,fY,gX,gY,gZ,g5,bU,bV,iI,iL,iK,iJ,cE,dF,dE,dD,dX,dU,dW,dJ,dL,dI,b0,cA,cB,cC,iM,g6,iB,bO,bT,bS,fG,cO,cP,cQ,gU,gW,gT,iC,eY,cW,cX,cF,cG,cH,eX,cY,cZ,dA,dB,g7,g8,gD,gH,eI,eK,eJ,bX,bZ,bY,d9,dG,dH,dR,dS,iD,iE,eZ,fA,fB,fD,fE,fF,bW,gJ,gK,aX,bD,bI,aZ,aR,aP,aF,aH,aJ,aM,bJ,bK,iN,iO,iP,Z.W.own,start0,deq,flatE,lf,lfL,noR,frzL,List.length_cons,List.length_nil,List.map_cons,List.map_nil,List.replicate,List.nil_append,List.cons_append,List.getElem?_cons_zero,List.getElem?_cons_succ,List.set_cons_zero,List.set_cons_succ,Option.map_some,if_true,if_false,Bool.false_eq_true,Nat.zero_add,Nat.reduceAdd,Nat.reduceSub,Nat.sub_self,Nat.add_one_sub_one,and_self,Bool.and_self,Bool.not_true,Bool.not_false,ite_self,Nat.reduceLeDiff,beq_self_eq_true] | simp only [ej,List.length_map,hl,List.map_append])
  ·rw [List.length_append,List.length_append,hb];rfl
  ·rcases List.mem_append.mp hx with hx | hx
   ·exact hbb x hx
   ·rw [List.mem_singleton.mp hx];(first|lia|omega)
  ·rw [List.length_map,List.length_map,List.length_append];exact Nat.le_refl _
 ·rintro _ _ ⟨o,m,bs,rfl,rfl,_⟩
  exact ⟨lfL_ints bs,_,rfl,rfl⟩
 ·rintro _ _ c ⟨o,m,bs,rfl,rfl,hb,hbb⟩ hc rfl
  cases hc
  rw [len_rng] at hb
  repeat (first | simp only [lim,aI,fV,fW,fX,fY,gX,gY,gZ,g5,bU,bV,iI,iL,iK,iJ,cE,dF,dE,dD,dX,dU,dW,dJ,dL,dI,b0,cA,cB,cC,iM,g6,iB,bO,bT,bS,fG,cO,cP,cQ,gU,gW,gT,iC,eY,cW,cX,cF,cG,cH,eX,cY,cZ,dA,dB,g7,g8,gD,gH,eI,eK,eJ,bX,bZ,bY,d9,dG,dH,dR,dS,iD,iE,eZ,fA,fB,fD,fE,fF,bW,gJ,gK,aX,bD,bI,aZ,aR,aP,aF,aH,aJ,aM,bJ,bK,iN,iO,iP,Z.W.own,start0,deq,flatE,lf,lfL,noR,frzL,List.length_cons,List.length_nil,List.map_cons,List.map_nil,List.replicate,List.nil_append,List.cons_append,List.getElem?_cons_zero,List.getElem?_cons_succ,List.set_cons_zero,List.set_cons_succ,Option.map_some,if_true,if_false,Bool.false_eq_true,Nat.zero_add,Nat.reduceAdd,Nat.reduceSub,Nat.sub_self,Nat.add_one_sub_one,and_self,Bool.and_self,Bool.not_true,Bool.not_false,ite_self,Nat.reduceLeDiff,beq_self_eq_true] | simp only [r1])
  generalize el:loopF _ _ _=r
  refine loop_elim el (fun d ρ=>∃(m:Int) (o1 o2:Option D) (ts:List (Int×Int×Int)),ρ=[some (.l (.lst [.int m])),some (.v (.int (1 + i1))),some (.v (.int i2)),some (.v (.int (1 + i3))),some (.o (.lst (bs.map .int))),some (.o (.lst (ts.map tieD))),o1.map .v,o2.map .v]∧TsB (1 + i1) bs ts∧ts.length≤8 * d.length) ⟨m,none,none,[],rfl,(fun _ h=>nomatch h),Nat.le_refl _⟩ ?_ ?_
  ·rintro d x _ hx hd ⟨m,o1,o2,ts,rfl,ht,hl⟩
   rw [len_rng] at hd
   obtain ⟨a,rfl,ha,ha'⟩:=mem_rng hx
   have r2:((-(2 ^ 62:Int)≤a + 1∧a + 1 < 2 ^ 62)∧-(2 ^ 62:Int)≤1 + i1∧1 + i1 < 2 ^ 62):=by (first|lia|omega)
   repeat (first | simp only [lim,aI,fV,fW,fX,fY,gX,gY,gZ,g5,bU,bV,iI,iL,iK,iJ,cE,dF,dE,dD,dX,dU,dW,dJ,dL,dI,b0,cA,cB,cC,iM,g6,iB,bO,bT,bS,fG,cO,cP,cQ,gU,gW,gT,iC,eY,cW,cX,cF,cG,cH,eX,cY,cZ,dA,dB,g7,g8,gD,gH,eI,eK,eJ,bX,bZ,bY,d9,dG,dH,dR,dS,iD,iE,eZ,fA,fB,fD,fE,fF,bW,gJ,gK,aX,bD,bI,aZ,aR,aP,aF,aH,aJ,aM,bJ,bK,iN,iO,iP,Z.W.own,start0,deq,flatE,lf,lfL,noR,frzL,List.length_cons,List.length_nil,List.map_cons,List.map_nil,List.replicate,List.nil_append,List.cons_append,List.getElem?_cons_zero,List.getElem?_cons_succ,List.set_cons_zero,List.set_cons_succ,Option.map_some,if_true,if_false,Bool.false_eq_true,Nat.zero_add,Nat.reduceAdd,Nat.reduceSub,Nat.sub_self,Nat.add_one_sub_one,and_self,Bool.and_self,Bool.not_true,Bool.not_false,ite_self,Nat.reduceLeDiff,beq_self_eq_true] | simp only [r2])
   generalize el2:loopF _ _ _=r2
   refine loop_elim el2 (fun d' ρ=>∃(m:Int) (o2:Option D) (ts:List (Int×Int×Int)),ρ=[some (.l (.lst [.int m])),some (.v (.int (1 + i1))),some (.v (.int i2)),some (.v (.int (1 + i3))),some (.o (.lst (bs.map .int))),some (.o (.lst (ts.map tieD))),some (.v (.int a)),o2.map .v]∧TsB (1 + i1) bs ts∧ts.length≤8 * d.length + d'.length) ⟨m,o2,ts,rfl,ht,hl⟩ ?_ ?_
   ·rintro d' y _ hy hd' ⟨m,o2,ts,rfl,ht,hl⟩
    rw [len_rng] at hd'
    obtain ⟨b,rfl,hb1,hb'⟩:=mem_rng hy
    obtain ⟨j,m',hj,hj',ej⟩:=e__law_next m (1 + i3) (dOk_lit (by (first|lia|omega)) (by (first|lia|omega)))
    have hlt:ts.length < 1000000:=by (first|lia|omega)
    have x1:=at_ints (ns:=bs) (i:=a) (by (first|lia|omega)) (by (first|lia|omega))
    have x2:=at_ints (ns:=bs) (i:=b) (by (first|lia|omega)) (by (first|lia|omega))
    by_cases hne:(bs.getD a.toNat 0 == bs.getD b.toNat 0)=true
    ·refine ⟨_,?_,m,some (.int b),ts,rfl,ht,by rw [List.length_append];(first|lia|omega)⟩
     repeat (first | simp only [lim,aI,fV,fW,fX,fY,gX,gY,gZ,g5,bU,bV,iI,iL,iK,iJ,cE,dF,dE,dD,dX,dU,dW,dJ,dL,dI,b0,cA,cB,cC,iM,g6,iB,bO,bT,bS,fG,cO,cP,cQ,gU,gW,gT,iC,eY,cW,cX,cF,cG,cH,eX,cY,cZ,dA,dB,g7,g8,gD,gH,eI,eK,eJ,bX,bZ,bY,d9,dG,dH,dR,dS,iD,iE,eZ,fA,fB,fD,fE,fF,bW,gJ,gK,aX,bD,bI,aZ,aR,aP,aF,aH,aJ,aM,bJ,bK,iN,iO,iP,Z.W.own,start0,deq,flatE,lf,lfL,noR,frzL,List.length_cons,List.length_nil,List.map_cons,List.map_nil,List.replicate,List.nil_append,List.cons_append,List.getElem?_cons_zero,List.getElem?_cons_succ,List.set_cons_zero,List.set_cons_succ,Option.map_some,if_true,if_false,Bool.false_eq_true,Nat.zero_add,Nat.reduceAdd,Nat.reduceSub,Nat.sub_self,Nat.add_one_sub_one,and_self,Bool.and_self,Bool.not_true,Bool.not_false,ite_self,Nat.reduceLeDiff,beq_self_eq_true] | simp only [x1,x2,hne])
    ·have hne':(bs.getD a.toNat 0 == bs.getD b.toNat 0)=false:=by simpa using hne
     by_cases hz:j=0
     ·subst hz
      obtain ⟨t,m'',et⟩:=e__law_tie m' a b i2 h2 h2'
      refine ⟨_,?_,m'',some (.int b),ts ++ [(a,b,t)],rfl,ht.snoc ⟨by (first|lia|omega),by (first|lia|omega),by (first|lia|omega),by simpa using hne'⟩,by rw [List.length_append,List.length_append,List.length_singleton,List.length_singleton];(first|lia|omega)⟩
      repeat (first | simp only [lim,aI,fV,fW,fX,fY,gX,gY,gZ,g5,bU,bV,iI,iL,iK,iJ,cE,dF,dE,dD,dX,dU,dW,dJ,dL,dI,b0,cA,cB,cC,iM,g6,iB,bO,bT,bS,fG,cO,cP,cQ,gU,gW,gT,iC,eY,cW,cX,cF,cG,cH,eX,cY,cZ,dA,dB,g7,g8,gD,gH,eI,eK,eJ,bX,bZ,bY,d9,dG,dH,dR,dS,iD,iE,eZ,fA,fB,fD,fE,fF,bW,gJ,gK,aX,bD,bI,aZ,aR,aP,aF,aH,aJ,aM,bJ,bK,iN,iO,iP,Z.W.own,start0,deq,flatE,lf,lfL,noR,frzL,List.length_cons,List.length_nil,List.map_cons,List.map_nil,List.replicate,List.nil_append,List.cons_append,List.getElem?_cons_zero,List.getElem?_cons_succ,List.set_cons_zero,List.set_cons_succ,Option.map_some,if_true,if_false,Bool.false_eq_true,Nat.zero_add,Nat.reduceAdd,Nat.reduceSub,Nat.sub_self,Nat.add_one_sub_one,and_self,Bool.and_self,Bool.not_true,Bool.not_false,ite_self,Nat.reduceLeDiff,beq_self_eq_true] | simp only [x1,x2,hne',ej,et,hlt,lf_tie,List.length_map,List.map_append])
     ·have hz':(j == 0)=false:=by simpa using hz
      refine ⟨_,?_,m',some (.int b),ts,rfl,ht,by rw [List.length_append];(first|lia|omega)⟩
      repeat (first | simp only [lim,aI,fV,fW,fX,fY,gX,gY,gZ,g5,bU,bV,iI,iL,iK,iJ,cE,dF,dE,dD,dX,dU,dW,dJ,dL,dI,b0,cA,cB,cC,iM,g6,iB,bO,bT,bS,fG,cO,cP,cQ,gU,gW,gT,iC,eY,cW,cX,cF,cG,cH,eX,cY,cZ,dA,dB,g7,g8,gD,gH,eI,eK,eJ,bX,bZ,bY,d9,dG,dH,dR,dS,iD,iE,eZ,fA,fB,fD,fE,fF,bW,gJ,gK,aX,bD,bI,aZ,aR,aP,aF,aH,aJ,aM,bJ,bK,iN,iO,iP,Z.W.own,start0,deq,flatE,lf,lfL,noR,frzL,List.length_cons,List.length_nil,List.map_cons,List.map_nil,List.replicate,List.nil_append,List.cons_append,List.getElem?_cons_zero,List.getElem?_cons_succ,List.set_cons_zero,List.set_cons_succ,Option.map_some,if_true,if_false,Bool.false_eq_true,Nat.zero_add,Nat.reduceAdd,Nat.reduceSub,Nat.sub_self,Nat.add_one_sub_one,and_self,Bool.and_self,Bool.not_true,Bool.not_false,ite_self,Nat.reduceLeDiff,beq_self_eq_true] | simp only [x1,x2,hne',ej,hz'])
   ·rintro _ rfl ⟨m,o2,ts,rfl,ht,hl⟩
    refine ⟨_,?_,m,some (.int a),o2,ts,rfl,ht,?_⟩
    ·repeat (first | simp only [lim,aI,fV,fW,fX,fY,gX,gY,gZ,g5,bU,bV,iI,iL,iK,iJ,cE,dF,dE,dD,dX,dU,dW,dJ,dL,dI,b0,cA,cB,cC,iM,g6,iB,bO,bT,bS,fG,cO,cP,cQ,gU,gW,gT,iC,eY,cW,cX,cF,cG,cH,eX,cY,cZ,dA,dB,g7,g8,gD,gH,eI,eK,eJ,bX,bZ,bY,d9,dG,dH,dR,dS,iD,iE,eZ,fA,fB,fD,fE,fF,bW,gJ,gK,aX,bD,bI,aZ,aR,aP,aF,aH,aJ,aM,bJ,bK,iN,iO,iP,Z.W.own,start0,deq,flatE,lf,lfL,noR,frzL,List.length_cons,List.length_nil,List.map_cons,List.map_nil,List.replicate,List.nil_append,List.cons_append,List.getElem?_cons_zero,List.getElem?_cons_succ,List.set_cons_zero,List.set_cons_succ,Option.map_some,if_true,if_false,Bool.false_eq_true,Nat.zero_add,Nat.reduceAdd,Nat.reduceSub,Nat.sub_self,Nat.add_one_sub_one,and_self,Bool.and_self,Bool.not_true,Bool.not_false,ite_self,Nat.reduceLeDiff,beq_self_eq_true])
    ·rw [len_rng] at hl
     rw [List.length_append,List.length_singleton];(first|lia|omega)
  ·rintro _ rfl ⟨m,o1,o2,ts,rfl,ht,hl⟩
   rw [len_rng] at hl
   have es:=ridx_eq (1 + i1).toNat (bit1 bs)
   refine ⟨m,1 + i1,ts,ridx (1 + i1).toNat (bit1 bs),part_mk (by (first|lia|omega)) (by (first|lia|omega)) hbb ht,?_⟩
   ·repeat (first | simp only [lim,aI,fV,fW,fX,fY,gX,gY,gZ,g5,bU,bV,iI,iL,iK,iJ,cE,dF,dE,dD,dX,dU,dW,dJ,dL,dI,b0,cA,cB,cC,iM,g6,iB,bO,bT,bS,fG,cO,cP,cQ,gU,gW,gT,iC,eY,cW,cX,cF,cG,cH,eX,cY,cZ,dA,dB,g7,g8,gD,gH,eI,eK,eJ,bX,bZ,bY,d9,dG,dH,dR,dS,iD,iE,eZ,fA,fB,fD,fE,fF,bW,gJ,gK,aX,bD,bI,aZ,aR,aP,aF,aH,aJ,aM,bJ,bK,iN,iO,iP,Z.W.own,start0,deq,flatE,lf,lfL,noR,frzL,List.length_cons,List.length_nil,List.map_cons,List.map_nil,List.replicate,List.nil_append,List.cons_append,List.getElem?_cons_zero,List.getElem?_cons_succ,List.set_cons_zero,List.set_cons_succ,Option.map_some,if_true,if_false,Bool.false_eq_true,Nat.zero_add,Nat.reduceAdd,Nat.reduceSub,Nat.sub_self,Nat.add_one_sub_one,and_self,Bool.and_self,Bool.not_true,Bool.not_false,ite_self,Nat.reduceLeDiff,beq_self_eq_true])
    rw [comp_map (ρ1:=[some (.l (.lst [.int m])),some (.v (.int (1 + i1))),some (.v (.int i2)),some (.v (.int (1 + i3))),some (.o (.lst (bs.map .int))),some (.o (.lst (ts.map tieD))),o1.map .v,o2.map .v]) (xs:=rngD 0 (1 + i1).toNat) (fun B=>∃o1:Option D,B=[o1.map .v,some (.v (.lst (bs.map .int)))]) (onI (bit1 bs)) id]
    ·rw [es]
     repeat (first | simp only [lim,aI,fV,fW,fX,fY,gX,gY,gZ,g5,bU,bV,iI,iL,iK,iJ,cE,dF,dE,dD,dX,dU,dW,dJ,dL,dI,b0,cA,cB,cC,iM,g6,iB,bO,bT,bS,fG,cO,cP,cQ,gU,gW,gT,iC,eY,cW,cX,cF,cG,cH,eX,cY,cZ,dA,dB,g7,g8,gD,gH,eI,eK,eJ,bX,bZ,bY,d9,dG,dH,dR,dS,iD,iE,eZ,fA,fB,fD,fE,fF,bW,gJ,gK,aX,bD,bI,aZ,aR,aP,aF,aH,aJ,aM,bJ,bK,iN,iO,iP,Z.W.own,start0,deq,flatE,lf,lfL,noR,frzL,List.length_cons,List.length_nil,List.map_cons,List.map_nil,List.replicate,List.nil_append,List.cons_append,List.getElem?_cons_zero,List.getElem?_cons_succ,List.set_cons_zero,List.set_cons_succ,Option.map_some,if_true,if_false,Bool.false_eq_true,Nat.zero_add,Nat.reduceAdd,Nat.reduceSub,Nat.sub_self,Nat.add_one_sub_one,and_self,Bool.and_self,Bool.not_true,Bool.not_false,ite_self,Nat.reduceLeDiff,beq_self_eq_true])
     rfl
    ·repeat (first | simp only [lim,aI,fV,fW,fX,fY,gX,gY,gZ,g5,bU,bV,iI,iL,iK,iJ,cE,dF,dE,dD,dX,dU,dW,dJ,dL,dI,b0,cA,cB,cC,iM,g6,iB,bO,bT,bS,fG,cO,cP,cQ,gU,gW,gT,iC,eY,cW,cX,cF,cG,cH,eX,cY,cZ,dA,dB,g7,g8,gD,gH,eI,eK,eJ,bX,bZ,bY,d9,dG,dH,dR,dS,iD,iE,eZ,fA,fB,fD,fE,fF,bW,gJ,gK,aX,bD,bI,aZ,aR,aP,aF,aH,aJ,aM,bJ,bK,iN,iO,iP,Z.W.own,start0,deq,flatE,lf,lfL,noR,frzL,List.length_cons,List.length_nil,List.map_cons,List.map_nil,List.replicate,List.nil_append,List.cons_append,List.getElem?_cons_zero,List.getElem?_cons_succ,List.set_cons_zero,List.set_cons_succ,Option.map_some,if_true,if_false,Bool.false_eq_true,Nat.zero_add,Nat.reduceAdd,Nat.reduceSub,Nat.sub_self,Nat.add_one_sub_one,and_self,Bool.and_self,Bool.not_true,Bool.not_false,ite_self,Nat.reduceLeDiff,beq_self_eq_true] | simp only [r1])
    ·rintro _ ⟨_,rfl⟩;rfl
    ·exact ⟨none,rfl⟩
    ·rw [len_rng];unfold lim;(first|lia|omega)
    ·rw [es];exact lfL_ints _
    ·rintro x hx _ zs ⟨o1,rfl⟩
     obtain ⟨i,rfl,q1,q2⟩:=mem_rng hx
     have x1:=at_ints (ns:=bs) (i:=i) (by (first|lia|omega)) (by (first|lia|omega))
     refine ⟨[some (.v (.int i)),some (.v (.lst (bs.map .int)))],.v (.int i),⟨some _,rfl⟩,?_,?_,fun _=>⟨?_,.inl rfl⟩⟩
     ·repeat (simp only [lim,aI,fV,fW,fX,fY,gX,gY,gZ,g5,bU,bV,iI,iL,iK,iJ,cE,dF,dE,dD,dX,dU,dW,dJ,dL,dI,b0,cA,cB,cC,iM,g6,iB,bO,bT,bS,fG,cO,cP,cQ,gU,gW,gT,iC,eY,cW,cX,cF,cG,cH,eX,cY,cZ,dA,dB,g7,g8,gD,gH,eI,eK,eJ,bX,bZ,bY,d9,dG,dH,dR,dS,iD,iE,eZ,fA,fB,fD,fE,fF,bW,gJ,gK,aX,bD,bI,aZ,aR,aP,aF,aH,aJ,aM,bJ,bK,iN,iO,iP,Z.W.own,start0,deq,flatE,lf,lfL,noR,frzL,List.length_cons,List.length_nil,List.map_cons,List.map_nil,List.replicate,List.nil_append,List.cons_append,List.getElem?_cons_zero,List.getElem?_cons_succ,List.set_cons_zero,List.set_cons_succ,Option.map_some,if_true,if_false,Bool.false_eq_true,Nat.zero_add,Nat.reduceAdd,Nat.reduceSub,Nat.sub_self,Nat.add_one_sub_one,and_self,Bool.and_self,Bool.not_true,Bool.not_false,ite_self,Nat.reduceLeDiff,beq_self_eq_true])
     ·repeat (first | simp only [lim,aI,fV,fW,fX,fY,gX,gY,gZ,g5,bU,bV,iI,iL,iK,iJ,cE,dF,dE,dD,dX,dU,dW,dJ,dL,dI,b0,cA,cB,cC,iM,g6,iB,bO,bT,bS,fG,cO,cP,cQ,gU,gW,gT,iC,eY,cW,cX,cF,cG,cH,eX,cY,cZ,dA,dB,g7,g8,gD,gH,eI,eK,eJ,bX,bZ,bY,d9,dG,dH,dR,dS,iD,iE,eZ,fA,fB,fD,fE,fF,bW,gJ,gK,aX,bD,bI,aZ,aR,aP,aF,aH,aJ,aM,bJ,bK,iN,iO,iP,Z.W.own,start0,deq,flatE,lf,lfL,noR,frzL,List.length_cons,List.length_nil,List.map_cons,List.map_nil,List.replicate,List.nil_append,List.cons_append,List.getElem?_cons_zero,List.getElem?_cons_succ,List.set_cons_zero,List.set_cons_succ,Option.map_some,if_true,if_false,Bool.false_eq_true,Nat.zero_add,Nat.reduceAdd,Nat.reduceSub,Nat.sub_self,Nat.add_one_sub_one,and_self,Bool.and_self,Bool.not_true,Bool.not_false,ite_self,Nat.reduceLeDiff,beq_self_eq_true] | simp only [x1,onI,bit1])
     ·repeat (simp only [lim,aI,fV,fW,fX,fY,gX,gY,gZ,g5,bU,bV,iI,iL,iK,iJ,cE,dF,dE,dD,dX,dU,dW,dJ,dL,dI,b0,cA,cB,cC,iM,g6,iB,bO,bT,bS,fG,cO,cP,cQ,gU,gW,gT,iC,eY,cW,cX,cF,cG,cH,eX,cY,cZ,dA,dB,g7,g8,gD,gH,eI,eK,eJ,bX,bZ,bY,d9,dG,dH,dR,dS,iD,iE,eZ,fA,fB,fD,fE,fF,bW,gJ,gK,aX,bD,bI,aZ,aR,aP,aF,aH,aJ,aM,bJ,bK,iN,iO,iP,Z.W.own,start0,deq,flatE,lf,lfL,noR,frzL,List.length_cons,List.length_nil,List.map_cons,List.map_nil,List.replicate,List.nil_append,List.cons_append,List.getElem?_cons_zero,List.getElem?_cons_succ,List.set_cons_zero,List.set_cons_succ,Option.map_some,if_true,if_false,Bool.false_eq_true,Nat.zero_add,Nat.reduceAdd,Nat.reduceSub,Nat.sub_self,Nat.add_one_sub_one,and_self,Bool.and_self,Bool.not_true,Bool.not_false,ite_self,Nat.reduceLeDiff,beq_self_eq_true])
end
end Q67
set_option maxHeartbeats 1500000
namespace Q67
open PySem L2 Z
section
variable {P:Program}{w:World}{K:PySem.W.Frag}{mg:Str→Option Value}{base:Heap}{f:Addr}{fd:FuncData}{k:Nat}
theorem Part.sideB {n:Int}{ts:List Tie}{side:List Int}(h:Part n ts side):sideB n ts (.tup (side.map .int))=true:=by
 have h1:(side.map D.int).all (pers n)=true:=by
  rw [List.all_eq_true]
  intro x hx
  obtain ⟨i,hi,rfl⟩:=mem_ints hx
  have:=h.sp i hi
  simp only [pers,Bool.and_eq_true,decide_eq_true_eq]
  (first|lia|omega)
 have h2:(ts.all fun t=>decide (t.1∈side) != decide (t.2.1∈side))=true:=by
  rw [List.all_eq_true]
  intro t ht
  exact (h.tb t ht).2.2.2
 simp only [Q67.sideB,h1,intsOf_map,h.sr,h2,Bool.and_self]
noncomputable abbrev s_must_be_side:Stmt:=top 26
theorem sc_must_be_side:FnScope ["web","thing"] ["web","thing"] (defScope s_must_be_side):=⟨rfl,rfl,rfl,by decide +kernel,rfl,by decide +kernel,by decide +kernel⟩
noncomputable def S_must_be_side (g:List D→Option W):Prop:=∀(n:Int) (ts:List Tie) (d:D),Cl d→ts.length≤1000→sideB n ts d=true→g [webD n ts,d]=some (.v .non)
theorem fn_must_be_side {g_is_side:List D→Option W}(h_is_side:Fn P w K mg base "is_side" k g_is_side)(e_is_side:S_is_side g_is_side)(F:Fun K "must_be_side" "must_be_side" s_must_be_side f fd)(B:Binds K fd ["web","thing"] [])(hm:mg "must_be_side"=some (.ref f)):∃g,Fn P w K mg base "must_be_side" (k + 1) g∧S_must_be_side g:=by
 have nd:=sc_must_be_side.nd
 refine ⟨_,fn_mk F sc_must_be_side B hm rfl rfl (fun cdv A outer s H E hr=>(qss_one (qs_if (qt_not (qt_tru (qx_def h_is_side hr (qa_cons (qx_name 0) (qa_cons (qx_name 1) qa_nil))))) (qss_one qs_raise) qss_nil))),?_⟩
 intro n ts d hd hl hs
 have e:=e_is_side n ts d hd hl
 rw [hs] at e
 repeat (first | simp only [lim,aI,aN,eT,dM,dN,eU,eV,eW,iI,iL,iK,cE,dF,dE,dD,dX,dW,dJ,dL,dI,b0,cA,cB,cC,iM,hJ,hV,hW,fH,fI,eG,eM,eL,fG,cO,cP,cQ,gU,gW,gT,eY,cW,cX,cF,cG,cH,eX,cR,cS,cU,cV,g7,g8,gD,gH,eI,eJ,bX,bZ,bY,d9,eA,dZ,dY,eF,dG,dH,dR,dS,iD,iE,eZ,fA,fB,fD,fE,fF,bW,gI,gM,gL,bI,aZ,aR,aF,aH,aJ,aM,bJ,bK,iO,iP,Z.W.own,start0,deq,flatE,lf,frzL,List.length_cons,List.length_nil,List.map_cons,List.map_nil,List.replicate,List.append_nil,List.nil_append,List.cons_append,List.getElem?_cons_zero,List.getElem?_cons_succ,List.set_cons_zero,List.set_cons_succ,Option.bind_some,Option.map_some,if_true,if_false,Bool.false_eq_true,Nat.zero_add,Nat.reduceAdd,Nat.reduceSub,Nat.sub_self,and_self,Bool.and_self,Bool.not_true,Bool.not_false,ite_self,Nat.reduceLeDiff,beq_self_eq_true] | simp only [e])
noncomputable def R_must_be_side (c:Addr) (gx:List D→Option Addr):Prop:=∀(n:Int) (ts:List Tie) (d:D),Cl d→ts.length≤1000→sideB n ts d=false→gx [webD n ts,d]=some c
theorem fnR_must_be_side {g_is_side:List D→Option W}{c:Addr}(h_is_side:Fn P w K mg base "is_side" k g_is_side)(e_is_side:S_is_side g_is_side)(x_NoSides:mg "NoSides"=some (.ref c))(q:PySem.W.excIn K c bmV nwV=true)(F:Fun K "must_be_side" "must_be_side" s_must_be_side f fd)(B:Binds K fd ["web","thing"] [])(hm:mg "must_be_side"=some (.ref f)):
  ∃gx,FnR P w K mg base "must_be_side" (k + 1) gx∧R_must_be_side c gx:=by
 refine ⟨_,fnR_mk F sc_must_be_side B hm rfl rfl (fun cdv A outer s H E hr=>prs_here (pr_if (qt_not (qt_tru (qx_def h_is_side hr (qa_cons (qx_name 0) (qa_cons (qx_name 1) qa_nil))))) (prs_here (pr_raise rfl x_NoSides q (qa_cons qx_str qa_nil))) prs_nil)),?_⟩
 intro n ts d hd hl hs
 have e:=e_is_side n ts d hd hl
 rw [hs] at e
 unfold runR fRIf fRaise
 repeat (first | simp only [lim,aI,aN,eT,dM,dN,eU,eV,eW,iI,iL,iK,cE,dF,dE,dD,dX,dW,dJ,dL,dI,b0,cA,cB,cC,iM,hJ,hV,hW,fH,fI,eG,eM,eL,fG,cO,cP,cQ,gU,gW,gT,eY,cW,cX,cF,cG,cH,eX,cR,cS,cU,cV,g7,g8,gD,gH,eI,eJ,bX,bZ,bY,d9,eA,dZ,dY,eF,dG,dH,dR,dS,iD,iE,eZ,fA,fB,fD,fE,fF,bW,gI,gM,gL,bI,aZ,aR,aF,aH,aJ,aM,bJ,bK,iO,iP,Z.W.own,start0,deq,flatE,lf,frzL,List.length_cons,List.length_nil,List.map_cons,List.map_nil,List.replicate,List.append_nil,List.nil_append,List.cons_append,List.getElem?_cons_zero,List.getElem?_cons_succ,List.set_cons_zero,List.set_cons_succ,Option.bind_some,Option.map_some,if_true,if_false,Bool.false_eq_true,Nat.zero_add,Nat.reduceAdd,Nat.reduceSub,Nat.sub_self,and_self,Bool.and_self,Bool.not_true,Bool.not_false,ite_self,Nat.reduceLeDiff,beq_self_eq_true] | simp only [e])
noncomputable def pickJ (b:Bool) (p q:Rat):Rat:=if (decide (p.num * q.den < q.num * p.den) == b)=true then q else p
noncomputable def pickD (b:Bool) (p q:Rat):Rat:=if (decide (q.num * p.den < p.num * q.den) == b)=true then p else q
theorem rat_cross {p q:Rat}(h:p.num * q.den=q.num * p.den):p=q:=by
 rw [←Rat.num_divInt_den p,←Rat.num_divInt_den q,Rat.divInt_eq_divInt_iff (by have:=p.den_pos;(first|lia|omega)) (by have:=q.den_pos;(first|lia|omega))]
 exact h
theorem pick_eq (b:Bool)(p q:Rat):pickJ b p q=pickD b p q:=by
 unfold pickJ pickD
 by_cases h:p.num * q.den=q.num * p.den
 ·obtain rfl:=rat_cross h
  rw [ite_self]
 ·by_cases h1:p.num * q.den < q.num * p.den
  ·rw [decide_eq_true h1,decide_eq_false (show ¬q.num * p.den < p.num * q.den by (first|lia|omega))]
   cases b <;> rfl
  ·rw [decide_eq_false h1,decide_eq_true (show q.num * p.den < p.num * q.den by (first|lia|omega))]
   cases b <;> rfl
noncomputable def joinL (side:List Int):Nat→List Rat→List Rat→List Rat
 | i,p :: ps,q :: qs=>pickJ (decide ((i:Int)∈side)) p q :: joinL side (i + 1) ps qs
 | _,_,_=>[]
theorem joinL_len (side:List Int):∀(i:Nat) (ps qs:List Rat),ps.length=qs.length→(joinL side i ps qs).length=ps.length
 | _,[],[],_=>rfl
 | i,p :: ps,q :: qs,h=>by rw [joinL,List.length_cons,List.length_cons,joinL_len side (i + 1) ps qs (by simpa using h)]
 | _,[],_ :: _,h=>by simp at h
 | _,_ :: _,[],h=>by simp at h
theorem joinL_get (side:List Int):∀(k i:Nat) (ps qs:List Rat) (p q:Rat),ps[i]? =some p→qs[i]? =some q→(joinL side k ps qs)[i]? =some (pickJ (decide (((k + i:Nat):Int)∈side)) p q)
 | k,i,[],_,_,_,h,_=>by simp at h
 | k,i,_ :: _,[],_,_,_,h=>by simp at h
 | k,0,p :: ps,q :: qs,_,_,h1,h2=>by cases h1;cases h2;rfl
 | k,i + 1,p :: ps,q :: qs,p',q',h1,h2=>by
  rw [joinL,List.getElem?_cons_succ,joinL_get side (k + 1) i ps qs p' q' h1 h2,show k + 1 + i=k + (i + 1) by (first|lia|omega)]
theorem ez_get {ps qs:List Rat}{i:Nat}{x:D}(h:(ezD (ps.map ratD) (qs.map ratD))[i]? =some x):∃p q,ps[i]? =some p∧qs[i]? =some q∧x= .tup [.int i,.tup [ratD p,ratD q]]:=by
 unfold ezD enumD zipD at h
 rw [List.getElem?_mapIdx] at h
 obtain ⟨y,h,rfl⟩:=oms h
 rw [List.getElem?_zipWith,List.getElem?_map,List.getElem?_map] at h
 cases h1:ps[i]? with
 | none=>rw [h1] at h;cases h
 | some p=>
  cases h2:qs[i]? with
  | none=>rw [h1,h2] at h;cases h
  | some q=>rw [h1,h2] at h;cases h;exact ⟨p,q,rfl,rfl,rfl⟩
noncomputable abbrev s_joined:Stmt:=top 27
theorem sc_joined:FnScope ["web","side","one","other","told","person","here","there","takes_there"] ["web","side","one","other"] (defScope s_joined):=⟨rfl,rfl,rfl,by decide +kernel,rfl,by decide +kernel,by decide +kernel⟩
noncomputable def S_joined (g:List D→Option W):Prop:=∀(n:Int) (ts:List Tie) (side:List Int) (ps qs:List Rat),Cl (.tup (side.map .int))→ts.length≤1000→sideB n ts (.tup (side.map .int))=true→ps.length=qs.length→ps.length≤8→(∀p∈ps,Sz 300 p)→(∀q∈qs,Sz 300 q)→g [webD n ts,.tup (side.map .int),.tup (ps.map ratD),.tup (qs.map ratD)]=some (.v (.tup ((joinL side 0 ps qs).map ratD)))
theorem fn_joined {g_must_be_side:List D→Option W}{g_less:List D→Option W}(h_must_be_side:Fn P w K mg base "must_be_side" k g_must_be_side)(e_must_be_side:S_must_be_side g_must_be_side)(h_less:Fn P w K mg base "less" k g_less)(e_less:S_less g_less)(m_enumerate:mg "enumerate"=none)(m_tuple:mg "tuple"=none)(m_zip:mg "zip"=none)(F:Fun K "joined" "joined" s_joined f fd)(B:Binds K fd ["web","side","one","other"] [])(hm:mg "joined"=some (.ref f)):∃g,Fn P w K mg base "joined" (k + 1) g∧S_joined g:=by
 have nd:=sc_joined.nd
 refine ⟨_,fn_mk F sc_joined B hm rfl rfl (fun cdv A outer s H E hr=>(qss_cons (qs_expr (qx_def h_must_be_side hr (qa_cons (qx_name 0) (qa_cons (qx_name 1) qa_nil))))
  (qss_cons (qs_set 4 nd (qx_lst qa_nil))
  (qss_cons (qs_for PySem.PassesOwn.never rfl (qi_enumZ m_enumerate m_zip (qa_cons (qx_name 2) (qa_cons (qx_name 3) qa_nil))) (qg_tup rfl (qgs_cons (qg_name 5 nd) (qgs_cons (qg_tup rfl (qgs_cons (qg_name 6 nd) (qgs_cons (qg_name 7 nd) qgs_nil))) qgs_nil))) (qss_cons (qs_set 8 nd (qx_eq hr (qx_def h_less hr (qa_cons (qx_name 6) (qa_cons (qx_name 7) qa_nil))) (qx_in hr (qx_name 5) (qx_name 1))))
  (qss_one (qs_expr (qx_append (qx_name 4) (qa_cons (qx_if (qt_tru (qx_name 8)) (qx_name 7) (qx_name 6)) qa_nil))))))
  (qss_one (qs_ret (qx_t call_tuple_of pr_tuple m_tuple (qa_cons (qx_name 4) qa_nil)))))))),?_⟩
 intro n ts side ps qs hd hl hs hpq hp8 hps hqs
 have e:=e_must_be_side n ts _ hd hl hs
 repeat (first | simp only [lim,aI,aN,eT,dM,dN,eU,eV,eW,iI,iL,iK,cE,dF,dE,dD,dX,dW,dJ,dL,dI,b0,cA,cB,cC,iM,hJ,hV,hW,fH,fI,eG,eM,eL,fG,cO,cP,cQ,gU,gW,gT,eY,cW,cX,cF,cG,cH,eX,cR,cS,cU,cV,g7,g8,gD,gH,eI,eJ,bX,bZ,bY,d9,eA,dZ,dY,eF,dG,dH,dR,dS,iD,iE,eZ,fA,fB,fD,fE,fF,bW,gI,gM,gL,bI,aZ,aR,aF,aH,aJ,aM,bJ,bK,iO,iP,Z.W.own,start0,deq,flatE,lf,frzL,List.length_cons,List.length_nil,List.map_cons,List.map_nil,List.replicate,List.append_nil,List.nil_append,List.cons_append,List.getElem?_cons_zero,List.getElem?_cons_succ,List.set_cons_zero,List.set_cons_succ,Option.bind_some,Option.map_some,if_true,if_false,Bool.false_eq_true,Nat.zero_add,Nat.reduceAdd,Nat.reduceSub,Nat.sub_self,and_self,Bool.and_self,Bool.not_true,Bool.not_false,ite_self,Nat.reduceLeDiff,beq_self_eq_true] | simp only [e])
 generalize el:loopF _ _ _=r
 refine loop_at el (fun i ρ=>∃o1 o2 o3 o4:Option D,ρ=[some (.v (webD n ts)),some (.v (.tup (side.map .int))),some (.v (.tup (ps.map ratD))),some (.v (.tup (qs.map ratD))),some (.o (.lst (((joinL side 0 ps qs).take i).map ratD))),o1.map .v,o2.map .v,o3.map .v,o4.map .v]) ⟨none,none,none,none,rfl⟩ ?_ ?_
 ·rintro i x _ hx ⟨o1,o2,o3,o4,rfl⟩
  obtain ⟨p,q,h1,h2,rfl⟩:=ez_get hx
  have hp:=hps p (List.mem_of_getElem? h1)
  have hq:=hqs q (List.mem_of_getElem? h2)
  have le:=e_less p q 300 300 hp hq (by decide)
  have i1:=o_in_t (b:=false) (n:=(i:Int)) (intsOf_map side)
  have jg:=joinL_get side 0 i ps qs p q h1 h2
  rw [Nat.zero_add] at jg
  have tk:(joinL side 0 ps qs).take (i + 1)=(joinL side 0 ps qs).take i ++ [pickJ (decide ((i:Int)∈side)) p q]:=by
   rw [List.take_succ,jg];rfl
  have hlt:(List.take i (joinL side 0 ps qs)).length < 1000000:=by
   rw [List.length_take,joinL_len side 0 ps qs hpq];(first|lia|omega)
  rw [tk,List.map_append]
  cases hb:(decide (p.num * q.den < q.num * p.den) == decide ((i:Int)∈side)) with
  | true=>
   have pj:pickJ (decide ((i:Int)∈side)) p q=q:=by unfold pickJ;rw [hb];rfl
   rw [pj]
   refine ⟨_,?_,some (.int i),some (ratD p),some (ratD q),some (.bl true),rfl⟩
   repeat (first | simp only [lim,aI,aN,eT,dM,dN,eU,eV,eW,iI,iL,iK,cE,dF,dE,dD,dX,dW,dJ,dL,dI,b0,cA,cB,cC,iM,hJ,hV,hW,fH,fI,eG,eM,eL,fG,cO,cP,cQ,gU,gW,gT,eY,cW,cX,cF,cG,cH,eX,cR,cS,cU,cV,g7,g8,gD,gH,eI,eJ,bX,bZ,bY,d9,eA,dZ,dY,eF,dG,dH,dR,dS,iD,iE,eZ,fA,fB,fD,fE,fF,bW,gI,gM,gL,bI,aZ,aR,aF,aH,aJ,aM,bJ,bK,iO,iP,Z.W.own,start0,deq,flatE,lf,frzL,List.length_cons,List.length_nil,List.map_cons,List.map_nil,List.replicate,List.append_nil,List.nil_append,List.cons_append,List.getElem?_cons_zero,List.getElem?_cons_succ,List.set_cons_zero,List.set_cons_succ,Option.bind_some,Option.map_some,if_true,if_false,Bool.false_eq_true,Nat.zero_add,Nat.reduceAdd,Nat.reduceSub,Nat.sub_self,and_self,Bool.and_self,Bool.not_true,Bool.not_false,ite_self,Nat.reduceLeDiff,beq_self_eq_true] | simp only [le,i1,hb,hlt,lf_rat,List.length_map])
  | false=>
   have pj:pickJ (decide ((i:Int)∈side)) p q=p:=by unfold pickJ;rw [hb];rfl
   rw [pj]
   refine ⟨_,?_,some (.int i),some (ratD p),some (ratD q),some (.bl false),rfl⟩
   repeat (first | simp only [lim,aI,aN,eT,dM,dN,eU,eV,eW,iI,iL,iK,cE,dF,dE,dD,dX,dW,dJ,dL,dI,b0,cA,cB,cC,iM,hJ,hV,hW,fH,fI,eG,eM,eL,fG,cO,cP,cQ,gU,gW,gT,eY,cW,cX,cF,cG,cH,eX,cR,cS,cU,cV,g7,g8,gD,gH,eI,eJ,bX,bZ,bY,d9,eA,dZ,dY,eF,dG,dH,dR,dS,iD,iE,eZ,fA,fB,fD,fE,fF,bW,gI,gM,gL,bI,aZ,aR,aF,aH,aJ,aM,bJ,bK,iO,iP,Z.W.own,start0,deq,flatE,lf,frzL,List.length_cons,List.length_nil,List.map_cons,List.map_nil,List.replicate,List.append_nil,List.nil_append,List.cons_append,List.getElem?_cons_zero,List.getElem?_cons_succ,List.set_cons_zero,List.set_cons_succ,Option.bind_some,Option.map_some,if_true,if_false,Bool.false_eq_true,Nat.zero_add,Nat.reduceAdd,Nat.reduceSub,Nat.sub_self,and_self,Bool.and_self,Bool.not_true,Bool.not_false,ite_self,Nat.reduceLeDiff,beq_self_eq_true] | simp only [le,i1,hb,hlt,lf_rat,List.length_map])
 ·rintro _ rfl ⟨o1,o2,o3,o4,rfl⟩
  rw [len_ez,List.length_map,List.length_map,←hpq,Nat.min_self,List.take_of_length_le (by rw [joinL_len side 0 ps qs hpq];exact Nat.le_refl _)]
  repeat (first | simp only [lim,aI,aN,eT,dM,dN,eU,eV,eW,iI,iL,iK,cE,dF,dE,dD,dX,dW,dJ,dL,dI,b0,cA,cB,cC,iM,hJ,hV,hW,fH,fI,eG,eM,eL,fG,cO,cP,cQ,gU,gW,gT,eY,cW,cX,cF,cG,cH,eX,cR,cS,cU,cV,g7,g8,gD,gH,eI,eJ,bX,bZ,bY,d9,eA,dZ,dY,eF,dG,dH,dR,dS,iD,iE,eZ,fA,fB,fD,fE,fF,bW,gI,gM,gL,bI,aZ,aR,aF,aH,aJ,aM,bJ,bK,iO,iP,Z.W.own,start0,deq,flatE,lf,frzL,List.length_cons,List.length_nil,List.map_cons,List.map_nil,List.replicate,List.append_nil,List.nil_append,List.cons_append,List.getElem?_cons_zero,List.getElem?_cons_succ,List.set_cons_zero,List.set_cons_succ,Option.bind_some,Option.map_some,if_true,if_false,Bool.false_eq_true,Nat.zero_add,Nat.reduceAdd,Nat.reduceSub,Nat.sub_self,and_self,Bool.and_self,Bool.not_true,Bool.not_false,ite_self,Nat.reduceLeDiff,beq_self_eq_true])
noncomputable def R_joined (c:Addr) (gx:List D→Option Addr):Prop:=∀(n:Int) (ts:List Tie) (d a b:D),Cl d→ts.length≤1000→sideB n ts d=false→gx [webD n ts,d,a,b]=some c
theorem fnR_joined {c:Addr}{gx_must_be_side:List D→Option Addr}(r_must_be_side:FnR P w K mg base "must_be_side" k gx_must_be_side)(e_must_be_side:R_must_be_side c gx_must_be_side)(F:Fun K "joined" "joined" s_joined f fd)(B:Binds K fd ["web","side","one","other"] [])(hm:mg "joined"=some (.ref f)):
  ∃gx,FnR P w K mg base "joined" (k + 1) gx∧R_joined c gx:=by
 refine ⟨_,fnR_mk F sc_joined B hm rfl rfl (fun cdv A outer s H E hr=>prs_here (pr_expr (pre_call r_must_be_side hr (qa_cons (qx_name 0) (qa_cons (qx_name 1) qa_nil))))),?_⟩
 intro n ts d a b hd hl hs
 have e:=e_must_be_side n ts d hd hl hs
 unfold runR fRE fRCall
 repeat (first | simp only [lim,aI,aN,eT,dM,dN,eU,eV,eW,iI,iL,iK,cE,dF,dE,dD,dX,dW,dJ,dL,dI,b0,cA,cB,cC,iM,hJ,hV,hW,fH,fI,eG,eM,eL,fG,cO,cP,cQ,gU,gW,gT,eY,cW,cX,cF,cG,cH,eX,cR,cS,cU,cV,g7,g8,gD,gH,eI,eJ,bX,bZ,bY,d9,eA,dZ,dY,eF,dG,dH,dR,dS,iD,iE,eZ,fA,fB,fD,fE,fF,bW,gI,gM,gL,bI,aZ,aR,aF,aH,aJ,aM,bJ,bK,iO,iP,Z.W.own,start0,deq,flatE,lf,frzL,List.length_cons,List.length_nil,List.map_cons,List.map_nil,List.replicate,List.append_nil,List.nil_append,List.cons_append,List.getElem?_cons_zero,List.getElem?_cons_succ,List.set_cons_zero,List.set_cons_succ,Option.bind_some,Option.map_some,if_true,if_false,Bool.false_eq_true,Nat.zero_add,Nat.reduceAdd,Nat.reduceSub,Nat.sub_self,and_self,Bool.and_self,Bool.not_true,Bool.not_false,ite_self,Nat.reduceLeDiff,beq_self_eq_true] | simp only [e])
end
end Q67
set_option maxHeartbeats 1500000
namespace Q67
open PySem L2 Z
section
variable {P:Program}{w:World}{K:PySem.W.Frag}{mg:Str→Option Value}{base:Heap}{f:Addr}{fd:FuncData}{k:Nat}
theorem lf_rats (qs:List Rat):lfL (qs.map ratD)=true:=lfL_all fun x hx=>by obtain ⟨q,_,rfl⟩:=List.mem_map.mp hx;rfl
theorem at_rat {ss:List Rat}{i:Int}(h:0≤i)(l:i < ss.length):atI (ss.map ratD) i=some (ratD (ss.getD i.toNat 0)):=by
 refine at_get h ?_
 rw [List.getElem?_map,List.getD_eq_getElem?_getD,List.getElem?_eq_getElem (by (first|lia|omega))]
 rfl
theorem p59:(10:Int) ^ (59:Int).toNat=100000000000000000000000000000000000000000000000000000000000:=by decide
theorem p12:(10:Int) ^ (12:Int).toNat=1000000000000:=by decide
theorem botAt {a c i:Int}(ha:0≤a∧a < 12)(hc:0≤c∧c < 9):∃b:Int,(1≤b∧b≤100000000000000000000000000000000000000000000000000000000000)∧atI [D.int (1 + a),.int (10 ^ (59:Int).toNat - 1 - c)] (if (i == 0)=true then 1 else 0)=some (.int b):=by
 rw [p59]
 split
 ·exact ⟨_,by (first|lia|omega),aB⟩
 ·exact ⟨_,by (first|lia|omega),aA⟩
theorem topAt {b i:Int}(hb:1≤b∧b≤100000000000000000000000000000000000000000000000000000000000)(h0:0≤i)(h4:i < 4):∃s:Int,(1≤s∧s≤400000000000000000000000000000000000000000000000000000000000)∧atI [D.int 4,.int (4 * b),.int (10 ^ (12:Int).toNat),.int (10 ^ (59:Int).toNat)] i=some (.int s):=by
 rw [p59,p12]
 have hc:i=0∨i=1∨i=2∨i=3:=by (first|lia|omega)
 rcases hc with rfl | rfl | rfl | rfl
 ·exact ⟨_,by (first|lia|omega),aA⟩
 ·exact ⟨_,by (first|lia|omega),aB⟩
 ·exact ⟨_,by (first|lia|omega),aC⟩
 ·exact ⟨_,by (first|lia|omega),aD⟩
theorem pow_le {n:Int}(h:0≤n)(h2:n≤400000000000000000000000000000000000000000000000000000000000):n.natAbs < 2 ^ 300:=
 Nat.lt_of_le_of_lt (m:=400000000000000000000000000000000000000000000000000000000000) (by (first|lia|omega)) (by decide)
noncomputable abbrev s__law_ratio:Stmt:=top 34
theorem sc__law_ratio:FnScope ["left","bottom"] ["left"] (defScope s__law_ratio):=⟨rfl,rfl,rfl,by decide +kernel,rfl,by decide +kernel,by decide +kernel⟩
noncomputable def S__law_ratio (g:D→List D→Option (W×D)):Prop:=∀m:Int,∃(m':Int) (q:Rat),Sz 300 q∧g (.lst [.int m]) []=some (.v (ratD q),.lst [.int m'])
theorem fn__law_ratio {g_ratio:List D→Option W}{g__law_next:D→List D→Option (W×D)}(h_ratio:Fn P w K mg base "ratio" k g_ratio)(e_ratio:S_ratio g_ratio)(h__law_next:FnL P w K mg base "_law_next" k g__law_next)(e__law_next:S__law_next g__law_next)(m_int:mg "int"=none)(F:Fun K "_law_ratio" "_law_ratio" s__law_ratio f fd)(B:Binds K fd ["left"] [])(hm:mg "_law_ratio"=some (.ref f)):∃g,FnL P w K mg base "_law_ratio" (k + 1) g∧S__law_ratio g:=by
 have nd:=sc__law_ratio.nd
 refine ⟨_,fnL_mk F sc__law_ratio B hm rfl rfl (fun cdv A outer s H E hr=>(qss_cons (qs_set 1 nd (qx_ix (qx_lst (qa_cons (qx_add qx_int (qx_defL h__law_next hr (qa_cons (qx_name 0) (qa_cons qx_int qa_nil)))) (qa_cons (qx_sub (qx_sub (qx_pow qx_int qx_int) qx_int) (qx_defL h__law_next hr (qa_cons (qx_name 0) (qa_cons qx_int qa_nil)))) qa_nil))) (qx_t call_intB pr_int m_int (qa_cons (qx_eq hr (qx_defL h__law_next hr (qa_cons (qx_name 0) (qa_cons qx_int qa_nil))) qx_int) qa_nil))))
  (qss_one (qs_ret (qx_def h_ratio hr (qa_cons (qx_defL h__law_next hr (qa_cons (qx_name 0) (qa_cons (qx_ix (qx_lst (qa_cons qx_int (qa_cons (qx_mul qx_int (qx_name 1)) (qa_cons (qx_pow qx_int qx_int) (qa_cons (qx_pow qx_int qx_int) qa_nil))))) (qx_defL h__law_next hr (qa_cons (qx_name 0) (qa_cons qx_int qa_nil)))) qa_nil))) (qa_cons (qx_name 1) qa_nil))))))),?_⟩
 intro m
 have pw:CPow 10 59:=by decide
 have pw2:CPow 10 12:=by decide
 obtain ⟨i0,m0,h0,h0',e0⟩:=e__law_next m 12 (dOk_lit (by decide) (by decide))
 obtain ⟨i1,m1,h1,h1',e1⟩:=e__law_next m0 9 (dOk_lit (by decide) (by decide))
 obtain ⟨i2,m2,h2,h2',e2⟩:=e__law_next m1 6 (dOk_lit (by decide) (by decide))
 obtain ⟨b,hb,eb⟩:=botAt (i:=i2) ⟨h0,h0'⟩ ⟨h1,h1'⟩
 obtain ⟨i3,m3,h3,h3',e3⟩:=e__law_next m2 4 (dOk_lit (by decide) (by decide))
 obtain ⟨s,hs,es⟩:=topAt (i:=i3) hb h3 h3'
 obtain ⟨i4,m4,h4,h4',e4⟩:=e__law_next m3 s ⟨by (first|lia|omega),Nat.lt_of_lt_of_le (pow_le (by (first|lia|omega)) hs.2) (Nat.pow_le_pow_right (by decide) (by decide))⟩
 have er:=e_ratio i4 b (by (first|lia|omega)) (Nat.lt_of_lt_of_le (pow_le (by (first|lia|omega)) (by (first|lia|omega))) (Nat.pow_le_pow_right (by decide) (by decide)))
 have mo:mOk 4 b:=.inl (by decide)
 refine ⟨m4,Rat.divInt i4 b,sz_div (by (first|lia|omega)) (pow_le (by (first|lia|omega)) (by (first|lia|omega))) (pow_le (by (first|lia|omega)) (by (first|lia|omega))),?_⟩
 repeat (first | simp only [lim,aI,fV,fW,gX,gY,gZ,g5,bU,bV,iI,iL,iK,iJ,cE,dF,dE,dD,dX,dU,dW,dJ,dL,dI,b0,cA,cB,cC,iM,g6,iB,fG,cO,cP,cQ,gU,gW,gT,eY,cW,cX,cF,cG,cH,eX,cR,cS,cU,cV,cY,cZ,dA,dB,g7,g8,gD,gH,gF,eI,eK,eJ,bX,bZ,bY,d9,dG,dH,fS,fT,fU,dR,dS,iD,iE,eZ,fA,fB,fD,fE,fF,bW,gI,gM,gJ,gK,bB,bA,aX,bE,bD,bC,bI,aZ,aA,aB,aR,aP,aF,aH,aJ,aM,bJ,bK,iN,iO,iP,Z.W.own,start0,deq,flatE,lf,lfL,noR,frzL,List.length_cons,List.length_nil,List.map_cons,List.map_nil,List.replicate,List.nil_append,List.cons_append,List.getElem?_cons_zero,List.getElem?_cons_succ,List.set_cons_zero,List.set_cons_succ,Option.map_some,if_true,if_false,Bool.false_eq_true,Nat.zero_add,Nat.reduceAdd,Nat.reduceSub,Nat.sub_self,Nat.add_one_sub_one,and_self,Bool.and_self,ite_self,Nat.reduceLeDiff,beq_self_eq_true] | simp only [pw,pw2,e0,e1,e2,eb,e3,es,e4,er,mo,lf_rat])
structure RowsOk (n:Int) (ps qs:List Rat):Prop where
 l1:ps.length=n.toNat
 l2:qs.length=n.toNat
 s1:∀p∈ps,Sz 300 p
 s2:∀q∈qs,Sz 300 q
noncomputable abbrev s__law_rows:Stmt:=top 35
theorem sc__law_rows:FnScope ["left","many","one","other","person"] ["left","many"] (defScope s__law_rows):=⟨rfl,rfl,rfl,by decide +kernel,rfl,by decide +kernel,by decide +kernel⟩
noncomputable def S__law_rows (g:D→List D→Option (W×D)):Prop:=∀m n:Int,1≤n∧n≤8→∃(m':Int) (ps qs:List Rat),RowsOk n ps qs∧g (.lst [.int m]) [.int n]=some (.o (.lst [.tup (ps.map ratD),.tup (qs.map ratD)]),.lst [.int m'])
theorem fn__law_rows {g__law_ratio:D→List D→Option (W×D)}{g__law_next:D→List D→Option (W×D)}(h__law_ratio:FnL P w K mg base "_law_ratio" k g__law_ratio)(e__law_ratio:S__law_ratio g__law_ratio)(h__law_next:FnL P w K mg base "_law_next" k g__law_next)(e__law_next:S__law_next g__law_next)(m_tuple:mg "tuple"=none)(m_range:mg "range"=none)(F:Fun K "_law_rows" "_law_rows" s__law_rows f fd)(B:Binds K fd ["left","many"] [])(hm:mg "_law_rows"=some (.ref f)):∃g,FnL P w K mg base "_law_rows" (k + 1) g∧S__law_rows g:=by
 have nd:=sc__law_rows.nd
 refine ⟨_,fnL_mk F sc__law_rows B hm rfl rfl (fun cdv A outer s H E hr=>(qss_cons (qs_set 2 nd (qx_t call_tuple_of pr_tuple m_tuple (qa_cons (qx_comp (N:=["person","left"]) (js:=[none,some 0]) (li:=some (1,0)) rfl (blk_mk (by exact (.own (.cap rfl rfl rfl rfl .nil))) rfl (by exact ⟨rfl,trivial⟩) (by rfl)) (qib_of (qi_r1 m_range (qa_cons (qx_name 1) qa_nil))) (fun _ _ _ _=>(qg_name 0 (show ((["person","left"]:List Str) ++ [accN]).Nodup by decide +kernel))) (fun _ _ _ _=>tst_nil) (fun _ _ _ _=>(qx_defL h__law_ratio hr (qa_cons (qx_name 1) qa_nil)))) qa_nil)))
  (qss_cons (qs_set 3 nd (qx_lst qa_nil))
  (qss_cons (qs_for PySem.PassesOwn.never rfl (qi_r1 m_range (qa_cons (qx_name 1) qa_nil)) (qg_name 4 nd) (qss_one (qs_if (qt_eq hr (qx_defL h__law_next hr (qa_cons (qx_name 0) (qa_cons qx_int qa_nil))) qx_int) (qss_one (qs_expr (qx_append (qx_name 3) (qa_cons (qx_ix (qx_name 2) (qx_name 4)) qa_nil)))) (qss_one (qs_expr (qx_append (qx_name 3) (qa_cons (qx_defL h__law_ratio hr (qa_cons (qx_name 0) qa_nil)) qa_nil)))))))
  (qss_one (qs_ret (qx_lst (qa_cons (qx_name 2) (qa_cons (qx_t call_tuple_of pr_tuple m_tuple (qa_cons (qx_name 3) qa_nil)) qa_nil))))))))),?_⟩
 intro m n hn
 have r1:(-(2 ^ 62:Int)≤n∧n < 2 ^ 62):=by (first|lia|omega)
 repeat (first | simp only [lim,aI,fV,fW,gX,gY,gZ,g5,bU,bV,iI,iL,iK,iJ,cE,dF,dE,dD,dX,dU,dW,dJ,dL,dI,b0,cA,cB,cC,iM,g6,iB,fG,cO,cP,cQ,gU,gW,gT,eY,cW,cX,cF,cG,cH,eX,cR,cS,cU,cV,cY,cZ,dA,dB,g7,g8,gD,gH,gF,eI,eK,eJ,bX,bZ,bY,d9,dG,dH,fS,fT,fU,dR,dS,iD,iE,eZ,fA,fB,fD,fE,fF,bW,gI,gM,gJ,gK,bB,bA,aX,bE,bD,bC,bI,aZ,aA,aB,aR,aP,aF,aH,aJ,aM,bJ,bK,iN,iO,iP,Z.W.own,start0,deq,flatE,lf,lfL,noR,frzL,List.length_cons,List.length_nil,List.map_cons,List.map_nil,List.replicate,List.nil_append,List.cons_append,List.getElem?_cons_zero,List.getElem?_cons_succ,List.set_cons_zero,List.set_cons_succ,Option.map_some,if_true,if_false,Bool.false_eq_true,Nat.zero_add,Nat.reduceAdd,Nat.reduceSub,Nat.sub_self,Nat.add_one_sub_one,and_self,Bool.and_self,ite_self,Nat.reduceLeDiff,beq_self_eq_true])
 generalize ec:fComp _ _ _ _ _ _ _=r
 refine comp_elim ec (fun d B zs=>∃(o:Option D) (m:Int) (ps:List Rat),B=[o.map .v,some (.l (.lst [.int m]))]∧zs=ps.map ratD∧ps.length=d.length∧∀p∈ps,Sz 300 p) (xs:=rngD 0 n.toNat) (ρ1:=[some (.l (.lst [.int m])),some (.v (.int n)),none,none,none]) ?_ ?_ ?_ ?_ ?_ ?_ ?_ ?_
 ·repeat (first | simp only [lim,aI,fV,fW,gX,gY,gZ,g5,bU,bV,iI,iL,iK,iJ,cE,dF,dE,dD,dX,dU,dW,dJ,dL,dI,b0,cA,cB,cC,iM,g6,iB,fG,cO,cP,cQ,gU,gW,gT,eY,cW,cX,cF,cG,cH,eX,cR,cS,cU,cV,cY,cZ,dA,dB,g7,g8,gD,gH,gF,eI,eK,eJ,bX,bZ,bY,d9,dG,dH,fS,fT,fU,dR,dS,iD,iE,eZ,fA,fB,fD,fE,fF,bW,gI,gM,gJ,gK,bB,bA,aX,bE,bD,bC,bI,aZ,aA,aB,aR,aP,aF,aH,aJ,aM,bJ,bK,iN,iO,iP,Z.W.own,start0,deq,flatE,lf,lfL,noR,frzL,List.length_cons,List.length_nil,List.map_cons,List.map_nil,List.replicate,List.nil_append,List.cons_append,List.getElem?_cons_zero,List.getElem?_cons_succ,List.set_cons_zero,List.set_cons_succ,Option.map_some,if_true,if_false,Bool.false_eq_true,Nat.zero_add,Nat.reduceAdd,Nat.reduceSub,Nat.sub_self,Nat.add_one_sub_one,and_self,Bool.and_self,ite_self,Nat.reduceLeDiff,beq_self_eq_true] | simp only [r1])
 ·rw [len_rng];unfold lim;(first|lia|omega)
 ·rfl
 ·rintro d _ _ ⟨_,_,_,rfl,_⟩;rfl
 ·exact ⟨none,m,[],rfl,rfl,rfl,fun _ h=>nomatch h⟩
 ·rintro d x _ _ hx ⟨o,m,ps,rfl,rfl,hb,hps⟩ hl
  obtain ⟨i,rfl,_⟩:=mem_rng hx
  obtain ⟨m',q,hq,eq⟩:=e__law_ratio m
  rw [List.length_map] at hl
  unfold lim at hl
  refine ⟨[some (.v (.int i)),some (.l (.lst [.int m']))],(ps ++ [q]).map ratD,?_,⟨some _,m',ps ++ [q],rfl,rfl,?_,fun x hx=>?_⟩,?_⟩
  ·repeat (first | simp only [lim,aI,fV,fW,gX,gY,gZ,g5,bU,bV,iI,iL,iK,iJ,cE,dF,dE,dD,dX,dU,dW,dJ,dL,dI,b0,cA,cB,cC,iM,g6,iB,fG,cO,cP,cQ,gU,gW,gT,eY,cW,cX,cF,cG,cH,eX,cR,cS,cU,cV,cY,cZ,dA,dB,g7,g8,gD,gH,gF,eI,eK,eJ,bX,bZ,bY,d9,dG,dH,fS,fT,fU,dR,dS,iD,iE,eZ,fA,fB,fD,fE,fF,bW,gI,gM,gJ,gK,bB,bA,aX,bE,bD,bC,bI,aZ,aA,aB,aR,aP,aF,aH,aJ,aM,bJ,bK,iN,iO,iP,Z.W.own,start0,deq,flatE,lf,lfL,noR,frzL,List.length_cons,List.length_nil,List.map_cons,List.map_nil,List.replicate,List.nil_append,List.cons_append,List.getElem?_cons_zero,List.getElem?_cons_succ,List.set_cons_zero,List.set_cons_succ,Option.map_some,if_true,if_false,Bool.false_eq_true,Nat.zero_add,Nat.reduceAdd,Nat.reduceSub,Nat.sub_self,Nat.add_one_sub_one,and_self,Bool.and_self,ite_self,Nat.reduceLeDiff,beq_self_eq_true] | simp only [eq,List.length_map,hl,List.map_append])
  ·rw [List.length_append,List.length_append,hb];rfl
  ·rcases List.mem_append.mp hx with hx | hx
   ·exact hps x hx
   ·rw [List.mem_singleton.mp hx];exact hq
  ·rw [List.length_map,List.length_map,List.length_append];exact Nat.le_refl _
 ·rintro _ _ ⟨o,m,ps,rfl,rfl,_⟩
  exact ⟨lf_rats ps,_,rfl,rfl⟩
 ·rintro _ _ c ⟨o,m,ps,rfl,rfl,hb,hps⟩ hc rfl
  cases hc
  rw [len_rng] at hb
  repeat (first | simp only [lim,aI,fV,fW,gX,gY,gZ,g5,bU,bV,iI,iL,iK,iJ,cE,dF,dE,dD,dX,dU,dW,dJ,dL,dI,b0,cA,cB,cC,iM,g6,iB,fG,cO,cP,cQ,gU,gW,gT,eY,cW,cX,cF,cG,cH,eX,cR,cS,cU,cV,cY,cZ,dA,dB,g7,g8,gD,gH,gF,eI,eK,eJ,bX,bZ,bY,d9,dG,dH,fS,fT,fU,dR,dS,iD,iE,eZ,fA,fB,fD,fE,fF,bW,gI,gM,gJ,gK,bB,bA,aX,bE,bD,bC,bI,aZ,aA,aB,aR,aP,aF,aH,aJ,aM,bJ,bK,iN,iO,iP,Z.W.own,start0,deq,flatE,lf,lfL,noR,frzL,List.length_cons,List.length_nil,List.map_cons,List.map_nil,List.replicate,List.nil_append,List.cons_append,List.getElem?_cons_zero,List.getElem?_cons_succ,List.set_cons_zero,List.set_cons_succ,Option.map_some,if_true,if_false,Bool.false_eq_true,Nat.zero_add,Nat.reduceAdd,Nat.reduceSub,Nat.sub_self,Nat.add_one_sub_one,and_self,Bool.and_self,ite_self,Nat.reduceLeDiff,beq_self_eq_true] | simp only [r1])
  generalize el:loopF _ _ _=r
  refine loop_elim el (fun d ρ=>∃(m:Int) (o1:Option D) (qs:List Rat),ρ=[some (.l (.lst [.int m])),some (.v (.int n)),some (.v (.tup (ps.map ratD))),some (.o (.lst (qs.map ratD))),o1.map .v]∧qs.length=d.length∧∀q∈qs,Sz 300 q) ⟨m,none,[],rfl,rfl,fun _ h=>nomatch h⟩ ?_ ?_
  ·rintro d x _ hx hd ⟨m,o1,qs,rfl,hl,hqs⟩
   rw [len_rng] at hd
   obtain ⟨i,rfl,hi,hi'⟩:=mem_rng hx
   obtain ⟨j,m',hj,hj',ej⟩:=e__law_next m 3 (dOk_lit (by decide) (by decide))
   have hlt:qs.length < 1000000:=by (first|lia|omega)
   have x1:=at_rat (ss:=ps) (i:=i) (by (first|lia|omega)) (by (first|lia|omega))
   by_cases hz:j=0
   ·subst hz
    have hp:Sz 300 (ps.getD i.toNat 0):=by
     rw [List.getD_eq_getElem?_getD,List.getElem?_eq_getElem (by (first|lia|omega))]
     exact hps _ (List.getElem_mem _)
    refine ⟨_,?_,m',some (.int i),qs ++ [ps.getD i.toNat 0],rfl,by rw [List.length_append,List.length_append,hl];rfl,fun x hx=>?_⟩
    ·repeat (first | simp only [lim,aI,fV,fW,gX,gY,gZ,g5,bU,bV,iI,iL,iK,iJ,cE,dF,dE,dD,dX,dU,dW,dJ,dL,dI,b0,cA,cB,cC,iM,g6,iB,fG,cO,cP,cQ,gU,gW,gT,eY,cW,cX,cF,cG,cH,eX,cR,cS,cU,cV,cY,cZ,dA,dB,g7,g8,gD,gH,gF,eI,eK,eJ,bX,bZ,bY,d9,dG,dH,fS,fT,fU,dR,dS,iD,iE,eZ,fA,fB,fD,fE,fF,bW,gI,gM,gJ,gK,bB,bA,aX,bE,bD,bC,bI,aZ,aA,aB,aR,aP,aF,aH,aJ,aM,bJ,bK,iN,iO,iP,Z.W.own,start0,deq,flatE,lf,lfL,noR,frzL,List.length_cons,List.length_nil,List.map_cons,List.map_nil,List.replicate,List.nil_append,List.cons_append,List.getElem?_cons_zero,List.getElem?_cons_succ,List.set_cons_zero,List.set_cons_succ,Option.map_some,if_true,if_false,Bool.false_eq_true,Nat.zero_add,Nat.reduceAdd,Nat.reduceSub,Nat.sub_self,Nat.add_one_sub_one,and_self,Bool.and_self,ite_self,Nat.reduceLeDiff,beq_self_eq_true] | simp only [ej,x1,hlt,lf_rat,List.length_map,List.map_append])
    ·rcases List.mem_append.mp hx with hx | hx
     ·exact hqs x hx
     ·rw [List.mem_singleton.mp hx];exact hp
   ·have hz':(j == 0)=false:=by simpa using hz
    obtain ⟨m'',q,hq,eq⟩:=e__law_ratio m'
    refine ⟨_,?_,m'',some (.int i),qs ++ [q],rfl,by rw [List.length_append,List.length_append,hl];rfl,fun x hx=>?_⟩
    ·repeat (first | simp only [lim,aI,fV,fW,gX,gY,gZ,g5,bU,bV,iI,iL,iK,iJ,cE,dF,dE,dD,dX,dU,dW,dJ,dL,dI,b0,cA,cB,cC,iM,g6,iB,fG,cO,cP,cQ,gU,gW,gT,eY,cW,cX,cF,cG,cH,eX,cR,cS,cU,cV,cY,cZ,dA,dB,g7,g8,gD,gH,gF,eI,eK,eJ,bX,bZ,bY,d9,dG,dH,fS,fT,fU,dR,dS,iD,iE,eZ,fA,fB,fD,fE,fF,bW,gI,gM,gJ,gK,bB,bA,aX,bE,bD,bC,bI,aZ,aA,aB,aR,aP,aF,aH,aJ,aM,bJ,bK,iN,iO,iP,Z.W.own,start0,deq,flatE,lf,lfL,noR,frzL,List.length_cons,List.length_nil,List.map_cons,List.map_nil,List.replicate,List.nil_append,List.cons_append,List.getElem?_cons_zero,List.getElem?_cons_succ,List.set_cons_zero,List.set_cons_succ,Option.map_some,if_true,if_false,Bool.false_eq_true,Nat.zero_add,Nat.reduceAdd,Nat.reduceSub,Nat.sub_self,Nat.add_one_sub_one,and_self,Bool.and_self,ite_self,Nat.reduceLeDiff,beq_self_eq_true] | simp only [ej,hz',eq,hlt,lf_rat,List.length_map,List.map_append])
    ·rcases List.mem_append.mp hx with hx | hx
     ·exact hqs x hx
     ·rw [List.mem_singleton.mp hx];exact hq
  ·rintro _ rfl ⟨m,o1,qs,rfl,hl,hqs⟩
   rw [len_rng] at hl
   refine ⟨m,ps,qs,⟨hb,hl,hps,hqs⟩,?_⟩
   repeat (first | simp only [lim,aI,fV,fW,gX,gY,gZ,g5,bU,bV,iI,iL,iK,iJ,cE,dF,dE,dD,dX,dU,dW,dJ,dL,dI,b0,cA,cB,cC,iM,g6,iB,fG,cO,cP,cQ,gU,gW,gT,eY,cW,cX,cF,cG,cH,eX,cR,cS,cU,cV,cY,cZ,dA,dB,g7,g8,gD,gH,gF,eI,eK,eJ,bX,bZ,bY,d9,dG,dH,fS,fT,fU,dR,dS,iD,iE,eZ,fA,fB,fD,fE,fF,bW,gI,gM,gJ,gK,bB,bA,aX,bE,bD,bC,bI,aZ,aA,aB,aR,aP,aF,aH,aJ,aM,bJ,bK,iN,iO,iP,Z.W.own,start0,deq,flatE,lf,lfL,noR,frzL,List.length_cons,List.length_nil,List.map_cons,List.map_nil,List.replicate,List.nil_append,List.cons_append,List.getElem?_cons_zero,List.getElem?_cons_succ,List.set_cons_zero,List.set_cons_succ,Option.map_some,if_true,if_false,Bool.false_eq_true,Nat.zero_add,Nat.reduceAdd,Nat.reduceSub,Nat.sub_self,Nat.add_one_sub_one,and_self,Bool.and_self,ite_self,Nat.reduceLeDiff,beq_self_eq_true])
   try rfl
noncomputable def dueL (side:List Int) (ps qs:List Rat) (n:Nat):List Rat:=(List.range n).map fun (i:Nat)=>pickD (decide ((i:Int)∈side)) (ps.getD i 0) (qs.getD i 0)
theorem due_join {side:List Int}{ps qs:List Rat}(h:ps.length=qs.length):dueL side ps qs ps.length=joinL side 0 ps qs:=by
 apply List.ext_getElem?
 intro i
 unfold dueL
 rw [List.getElem?_map]
 by_cases hi:i < ps.length
 ·rw [List.getElem?_range hi,joinL_get side 0 i ps qs ps[i] (qs[i]'(by (first|lia|omega))) (by simp [hi]) (by simp [h▸hi])]
  rw [Nat.zero_add,pick_eq,Option.map_some,List.getD_eq_getElem?_getD,List.getD_eq_getElem?_getD,List.getElem?_eq_getElem hi,List.getElem?_eq_getElem (show i < qs.length by (first|lia|omega))]
  rfl
 ·rw [List.getElem?_eq_none (by simp;(first|lia|omega)),List.getElem?_eq_none (by rw [joinL_len side 0 ps qs h];(first|lia|omega))];rfl
noncomputable abbrev s__law_due:Stmt:=top 36
theorem sc__law_due:FnScope ["many","side","one","other","found","person","a","b","first"] ["many","side","one","other"] (defScope s__law_due):=⟨rfl,rfl,rfl,by decide +kernel,rfl,by decide +kernel,by decide +kernel⟩
noncomputable def S__law_due (g:List D→Option W):Prop:=∀(n:Int) (side:List Int) (ps qs:List Rat),1≤n∧n≤8→RowsOk n ps qs→g [.int n,.tup (side.map .int),.tup (ps.map ratD),.tup (qs.map ratD)]=some (.v (.tup ((joinL side 0 ps qs).map ratD)))
theorem rngD_get {n i:Nat}{x:D}(h:(rngD 0 n)[i]? =some x):x= .int i∧i < n:=by
 unfold rngD at h
 rw [List.getElem?_map] at h
 by_cases hi:i < n
 ·rw [List.getElem?_range hi] at h;cases h;exact ⟨by show D.int (0 + (i:Int))=_;rw [Int.zero_add],hi⟩
 ·rw [List.getElem?_eq_none (by simp;(first|lia|omega))] at h;cases h
theorem fn__law_due (m_range:mg "range"=none)(m_tuple:mg "tuple"=none)(m_int:mg "int"=none)(F:Fun K "_law_due" "_law_due" s__law_due f fd)(B:Binds K fd ["many","side","one","other"] [])(hm:mg "_law_due"=some (.ref f)):∃g,Fn P w K mg base "_law_due" (k + 1) g∧S__law_due g:=by
 have nd:=sc__law_due.nd
 refine ⟨_,fn_mk F sc__law_due B hm rfl rfl (fun cdv A outer s H E hr=>(qss_cons (qs_set 4 nd (qx_lst qa_nil))
  (qss_cons (qs_for PySem.PassesOwn.never rfl (qi_r1 m_range (qa_cons (qx_name 0) qa_nil)) (qg_name 5 nd) (qss_cons (qs_par 6 7 rfl nd (qa_cons (qx_ix (qx_name 2) (qx_name 5)) (qa_cons (qx_ix (qx_name 3) (qx_name 5)) qa_nil)) rfl)
  (qss_cons (qs_set 8 nd (qx_gt (qx_mul (qx_ix (qx_name 6) qx_int) (qx_ix (qx_name 7) qx_int)) (qx_mul (qx_ix (qx_name 7) qx_int) (qx_ix (qx_name 6) qx_int))))
  (qss_one (qs_expr (qx_append (qx_name 4) (qa_cons (qx_ix (qx_lst (qa_cons (qx_name 7) (qa_cons (qx_name 6) qa_nil))) (qx_t call_intB pr_int m_int (qa_cons (qx_eq hr (qx_name 8) (qx_in hr (qx_name 5) (qx_name 1))) qa_nil))) qa_nil)))))))
  (qss_one (qs_ret (qx_t call_tuple_of pr_tuple m_tuple (qa_cons (qx_name 4) qa_nil))))))),?_⟩
 intro n side ps qs hn hr
 have r1:(-(2 ^ 62:Int)≤n∧n < 2 ^ 62):=by (first|lia|omega)
 have l1:=hr.l1
 have l2:=hr.l2
 rw [←due_join (by (first|lia|omega)),l1]
 repeat (first | simp only [lim,aI,fV,fW,gX,gY,gZ,g5,bU,bV,iI,iL,iK,iJ,cE,dF,dE,dD,dX,dU,dW,dJ,dL,dI,b0,cA,cB,cC,iM,g6,iB,fG,cO,cP,cQ,gU,gW,gT,eY,cW,cX,cF,cG,cH,eX,cR,cS,cU,cV,cY,cZ,dA,dB,g7,g8,gD,gH,gF,eI,eK,eJ,bX,bZ,bY,d9,dG,dH,fS,fT,fU,dR,dS,iD,iE,eZ,fA,fB,fD,fE,fF,bW,gI,gM,gJ,gK,bB,bA,aX,bE,bD,bC,bI,aZ,aA,aB,aR,aP,aF,aH,aJ,aM,bJ,bK,iN,iO,iP,Z.W.own,start0,deq,flatE,lf,lfL,noR,frzL,List.length_cons,List.length_nil,List.map_cons,List.map_nil,List.replicate,List.nil_append,List.cons_append,List.getElem?_cons_zero,List.getElem?_cons_succ,List.set_cons_zero,List.set_cons_succ,Option.map_some,if_true,if_false,Bool.false_eq_true,Nat.zero_add,Nat.reduceAdd,Nat.reduceSub,Nat.sub_self,Nat.add_one_sub_one,and_self,Bool.and_self,ite_self,Nat.reduceLeDiff,beq_self_eq_true] | simp only [r1])
 generalize el:loopF _ _ _=r
 refine loop_at el (fun i ρ=>∃o1 o2 o3 o4:Option D,ρ=[some (.v (.int n)),some (.v (.tup (side.map .int))),some (.v (.tup (ps.map ratD))),some (.v (.tup (qs.map ratD))),some (.o (.lst ((dueL side ps qs i).map ratD))),o1.map .v,o2.map .v,o3.map .v,o4.map .v]) ⟨none,none,none,none,rfl⟩ ?_ ?_
 ·rintro i x _ hx ⟨o1,o2,o3,o4,rfl⟩
  obtain ⟨rfl,hi⟩:=rngD_get hx
  have x1:=at_rat (ss:=ps) (i:=(i:Int)) (by (first|lia|omega)) (by (first|lia|omega))
  have x2:=at_rat (ss:=qs) (i:=(i:Int)) (by (first|lia|omega)) (by (first|lia|omega))
  rw [Int.toNat_natCast] at x1 x2
  have tk:dueL side ps qs (i + 1)=dueL side ps qs i ++ [pickD (decide ((i:Int)∈side)) (ps.getD i 0) (qs.getD i 0)]:=by
   unfold dueL
   rw [List.range_succ,List.map_append];rfl
  have hp:Sz 300 (ps.getD i 0):=by
   rw [List.getD_eq_getElem?_getD,List.getElem?_eq_getElem (by (first|lia|omega))]
   exact hr.s1 _ (List.getElem_mem _)
  have hq:Sz 300 (qs.getD i 0):=by
   rw [List.getD_eq_getElem?_getD,List.getElem?_eq_getElem (by (first|lia|omega))]
   exact hr.s2 _ (List.getElem_mem _)
  generalize ps.getD i 0=p at x1 tk hp
  generalize qs.getD i 0=q at x2 tk hq
  obtain ⟨m1,m2,m3,_,_⟩:=sz_mul hp hq (by decide)
  have i1:=o_in_t (b:=false) (n:=(i:Int)) (intsOf_map side)
  have hlt:(dueL side ps qs i).length < 1000000:=by unfold dueL;rw [List.length_map,List.length_range];(first|lia|omega)
  rw [tk,List.map_append]
  rw [show ratD p= .tup [.int p.num,.int p.den] from rfl] at x1
  rw [show ratD q= .tup [.int q.num,.int q.den] from rfl] at x2
  cases hb:(decide (q.num * p.den < p.num * q.den) == decide ((i:Int)∈side)) with
  | true=>
   have pj:pickD (decide ((i:Int)∈side)) p q=p:=by unfold pickD;rw [hb];rfl
   rw [pj]
   refine ⟨_,?_,some (.int i),some (ratD p),some (ratD q),some (.bl (decide (q.num * p.den < p.num * q.den))),rfl⟩
   rw [show ratD p= .tup [.int p.num,.int p.den] from rfl,show ratD q= .tup [.int q.num,.int q.den] from rfl]
   repeat (first | simp only [lim,aI,fV,fW,gX,gY,gZ,g5,bU,bV,iI,iL,iK,iJ,cE,dF,dE,dD,dX,dU,dW,dJ,dL,dI,b0,cA,cB,cC,iM,g6,iB,fG,cO,cP,cQ,gU,gW,gT,eY,cW,cX,cF,cG,cH,eX,cR,cS,cU,cV,cY,cZ,dA,dB,g7,g8,gD,gH,gF,eI,eK,eJ,bX,bZ,bY,d9,dG,dH,fS,fT,fU,dR,dS,iD,iE,eZ,fA,fB,fD,fE,fF,bW,gI,gM,gJ,gK,bB,bA,aX,bE,bD,bC,bI,aZ,aA,aB,aR,aP,aF,aH,aJ,aM,bJ,bK,iN,iO,iP,Z.W.own,start0,deq,flatE,lf,lfL,noR,frzL,List.length_cons,List.length_nil,List.map_cons,List.map_nil,List.replicate,List.nil_append,List.cons_append,List.getElem?_cons_zero,List.getElem?_cons_succ,List.set_cons_zero,List.set_cons_succ,Option.map_some,if_true,if_false,Bool.false_eq_true,Nat.zero_add,Nat.reduceAdd,Nat.reduceSub,Nat.sub_self,Nat.add_one_sub_one,and_self,Bool.and_self,ite_self,Nat.reduceLeDiff,beq_self_eq_true] | simp only [x1,x2,m1,m2,m3,i1,hb,hlt,List.length_map])
   rfl
  | false=>
   have pj:pickD (decide ((i:Int)∈side)) p q=q:=by unfold pickD;rw [hb];rfl
   rw [pj]
   refine ⟨_,?_,some (.int i),some (ratD p),some (ratD q),some (.bl (decide (q.num * p.den < p.num * q.den))),rfl⟩
   rw [show ratD p= .tup [.int p.num,.int p.den] from rfl,show ratD q= .tup [.int q.num,.int q.den] from rfl]
   repeat (first | simp only [lim,aI,fV,fW,gX,gY,gZ,g5,bU,bV,iI,iL,iK,iJ,cE,dF,dE,dD,dX,dU,dW,dJ,dL,dI,b0,cA,cB,cC,iM,g6,iB,fG,cO,cP,cQ,gU,gW,gT,eY,cW,cX,cF,cG,cH,eX,cR,cS,cU,cV,cY,cZ,dA,dB,g7,g8,gD,gH,gF,eI,eK,eJ,bX,bZ,bY,d9,dG,dH,fS,fT,fU,dR,dS,iD,iE,eZ,fA,fB,fD,fE,fF,bW,gI,gM,gJ,gK,bB,bA,aX,bE,bD,bC,bI,aZ,aA,aB,aR,aP,aF,aH,aJ,aM,bJ,bK,iN,iO,iP,Z.W.own,start0,deq,flatE,lf,lfL,noR,frzL,List.length_cons,List.length_nil,List.map_cons,List.map_nil,List.replicate,List.nil_append,List.cons_append,List.getElem?_cons_zero,List.getElem?_cons_succ,List.set_cons_zero,List.set_cons_succ,Option.map_some,if_true,if_false,Bool.false_eq_true,Nat.zero_add,Nat.reduceAdd,Nat.reduceSub,Nat.sub_self,Nat.add_one_sub_one,and_self,Bool.and_self,ite_self,Nat.reduceLeDiff,beq_self_eq_true] | simp only [x1,x2,m1,m2,m3,i1,hb,hlt,List.length_map])
   rfl
 ·rintro _ rfl ⟨o1,o2,o3,o4,rfl⟩
  rw [len_rng]
  repeat (first | simp only [lim,aI,fV,fW,gX,gY,gZ,g5,bU,bV,iI,iL,iK,iJ,cE,dF,dE,dD,dX,dU,dW,dJ,dL,dI,b0,cA,cB,cC,iM,g6,iB,fG,cO,cP,cQ,gU,gW,gT,eY,cW,cX,cF,cG,cH,eX,cR,cS,cU,cV,cY,cZ,dA,dB,g7,g8,gD,gH,gF,eI,eK,eJ,bX,bZ,bY,d9,dG,dH,fS,fT,fU,dR,dS,iD,iE,eZ,fA,fB,fD,fE,fF,bW,gI,gM,gJ,gK,bB,bA,aX,bE,bD,bC,bI,aZ,aA,aB,aR,aP,aF,aH,aJ,aM,bJ,bK,iN,iO,iP,Z.W.own,start0,deq,flatE,lf,lfL,noR,frzL,List.length_cons,List.length_nil,List.map_cons,List.map_nil,List.replicate,List.nil_append,List.cons_append,List.getElem?_cons_zero,List.getElem?_cons_succ,List.set_cons_zero,List.set_cons_succ,Option.map_some,if_true,if_false,Bool.false_eq_true,Nat.zero_add,Nat.reduceAdd,Nat.reduceSub,Nat.sub_self,Nat.add_one_sub_one,and_self,Bool.and_self,ite_self,Nat.reduceLeDiff,beq_self_eq_true])
end
end Q67
set_option maxHeartbeats 1500000
namespace Q67
open PySem L2 Z
section
variable {P:Program}{w:World}{K:PySem.W.Frag}{mg:Str→Option Value}{base:Heap}{f:Addr}{fd:FuncData}{k:Nat}
noncomputable abbrev s__law_whole:Stmt:=top 37
theorem sc__law_whole:FnScope ["found"] ["found"] (defScope s__law_whole):=⟨rfl,rfl,rfl,by decide +kernel,rfl,by decide +kernel,by decide +kernel⟩
noncomputable def S__law_whole (g:List D→Option W):Prop:=∀i:Int,g [.int i]=some (.v (.bl true))
theorem fn__law_whole (m_isinstance:mg "isinstance"=none)(m_int:mg "int"=none)(m_bool:mg "bool"=none)(F:Fun K "_law_whole" "_law_whole" s__law_whole f fd)(B:Binds K fd ["found"] [])(hm:mg "_law_whole"=some (.ref f)):∃g,Fn P w K mg base "_law_whole" (k + 1) g∧S__law_whole g:=by
 have nd:=sc__law_whole.nd
 refine ⟨_,fn_mk F sc__law_whole B hm rfl rfl (fun cdv A outer s H E hr=>(qss_one (qs_ret (qx_and (qx_isi (T:="int") (kit_mk (by decide)) m_isinstance m_int (qx_name 0)) (qx_one (qx_notT (qx_isi (T:="bool") (kit_mk (by decide)) m_isinstance m_bool (qx_name 0)))))))),?_⟩
 intro i
 have i1:=oi_int (d:=.int i) rfl
 have i2:=oi_bool (d:=.int i) rfl
 repeat (first | simp only [fJ,fK,dO,dQ,dP,aI,aN,hX,hZ,iA,aT,aU,aS,eR,eS,fZ,gA,gB,gC,iI,iL,cE,dF,dX,dU,dJ,dL,dI,b0,cA,cB,cC,iM,iF,iG,iH,g6,iB,hJ,hV,hW,fH,fI,fP,fQ,bP,bR,fG,cO,cP,cQ,cF,cG,cH,eX,cR,cS,cU,cV,g7,g8,gD,gH,eI,eJ,bX,bZ,d9,gI,gM,bE,bD,aZ,aA,aB,aR,aF,aG,aH,aJ,start0,deq,lf,frzL,List.length_cons,List.length_nil,List.map_cons,List.map_nil,List.replicate,List.append_nil,List.nil_append,List.cons_append,List.getElem?_cons_zero,List.getElem?_cons_succ,List.set_cons_zero,List.set_cons_succ,Option.map_some,if_true,Nat.zero_add,Nat.reduceAdd,Nat.reduceSub,Nat.sub_self,and_self,true_and,Bool.not_true,Bool.not_false,ite_self] | simp only [i1,i2,isI,isB])
noncomputable def ratK (qs:List Rat):List (List Int):=qs.map fun q=>[q.num,(q.den:Int)]
theorem ratK_eq (qs:List Rat):qs.map ratD=(ratK qs).map tupI:=by unfold ratK;rw [List.map_map];rfl
noncomputable abbrev s__law_alike:Stmt:=top 38
theorem sc__law_alike:FnScope ["found","due"] ["found","due"] (defScope s__law_alike):=⟨rfl,rfl,rfl,by decide +kernel,rfl,by decide +kernel,by decide +kernel⟩
noncomputable def S__law_alike (g:List D→Option W):Prop:=∀qs:List Rat,qs.length≤8→g [.tup (qs.map ratD),.tup (qs.map ratD)]=some (.v (.bl true))
theorem fn__law_alike {g__law_whole:List D→Option W}(h__law_whole:Fn P w K mg base "_law_whole" k g__law_whole)(e__law_whole:S__law_whole g__law_whole)(m_all:mg "all"=none)(m_isinstance:mg "isinstance"=none)(m_tuple:mg "tuple"=none)(F:Fun K "_law_alike" "_law_alike" s__law_alike f fd)(B:Binds K fd ["found","due"] [])(hm:mg "_law_alike"=some (.ref f)):∃g,Fn P w K mg base "_law_alike" (k + 1) g∧S__law_alike g:=by
 have nd:=sc__law_alike.nd
 refine ⟨_,fn_mk F sc__law_alike B hm rfl rfl (fun cdv A outer s H E hr=>(qss_cons (qs_if (qt_of (qw_or (qt_not (qt_tru (qx_isi (T:="tuple") (kit_mk (by decide)) m_isinstance m_tuple (qx_name 0)))) (qw_or1 (qt_ne hr (qx_name 0) (qx_name 1))))) (qss_one (qs_ret qx_bl)) qss_nil)
  (qss_one (qs_ret (qx_b (call_allL rfl) pr_bools m_all (qa_cons (qx_comp (N:=["one"]) (js:=[none]) (li:=none) rfl (blk_mk (by exact (.own .nil)) rfl (by exact trivial) (by rfl)) (qib_name 0) (fun _ _ _ _=>(qg_name 0 (show ((["one"]:List Str) ++ [accN]).Nodup by decide +kernel))) (fun _ _ _ _=>tst_nil) (fun _ _ _ _=>(qx_and (qx_isi (T:="tuple") (kit_mk (by decide)) m_isinstance m_tuple (qx_name 0)) (qx_and (qx_def h__law_whole hr (qa_cons (qx_ix (qx_name 0) qx_int) qa_nil)) (qx_one (qx_def h__law_whole hr (qa_cons (qx_ix (qx_name 0) qx_int) qa_nil))))))) qa_nil)))))),?_⟩
 intro qs hl
 have it:=oi_tuple (d:=.tup (qs.map ratD)) rfl
 have dq:deqL (deq 19) (qs.map ratD) (qs.map ratD)=some true:=by rw [ratK_eq];exact deqL_same _
 repeat (first | simp only [fJ,fK,dO,dQ,dP,aI,aN,hX,hZ,iA,aT,aU,aS,eR,eS,fZ,gA,gB,gC,iI,iL,cE,dF,dX,dU,dJ,dL,dI,b0,cA,cB,cC,iM,iF,iG,iH,g6,iB,hJ,hV,hW,fH,fI,fP,fQ,bP,bR,fG,cO,cP,cQ,cF,cG,cH,eX,cR,cS,cU,cV,g7,g8,gD,gH,eI,eJ,bX,bZ,d9,gI,gM,bE,bD,aZ,aA,aB,aR,aF,aG,aH,aJ,start0,deq,lf,frzL,List.length_cons,List.length_nil,List.map_cons,List.map_nil,List.replicate,List.append_nil,List.nil_append,List.cons_append,List.getElem?_cons_zero,List.getElem?_cons_succ,List.set_cons_zero,List.set_cons_succ,Option.map_some,if_true,Nat.zero_add,Nat.reduceAdd,Nat.reduceSub,Nat.sub_self,and_self,true_and,Bool.not_true,Bool.not_false,ite_self] | simp only [it,isT,dq])
 rw [comp_map (ρ1:=[some (.v (.tup (qs.map ratD))),some (.v (.tup (qs.map ratD)))]) (xs:=qs.map ratD) (fun B=>∃o1:Option D,B=[o1.map .v]) (fun _=>true) (fun _=>.bl true)]
 ·rw [filter_tt]
  have gb:=gB_lst (r:=fun bs=>bs.all id) (boolsOf_fun (fun _=>true) (qs.map ratD))
  rw [all_map_id,show ((qs.map ratD).all fun _=>true)=true by simp] at gb
  repeat (first | simp only [fJ,fK,dO,dQ,dP,aI,aN,hX,hZ,iA,aT,aU,aS,eR,eS,fZ,gA,gB,gC,iI,iL,cE,dF,dX,dU,dJ,dL,dI,b0,cA,cB,cC,iM,iF,iG,iH,g6,iB,hJ,hV,hW,fH,fI,fP,fQ,bP,bR,fG,cO,cP,cQ,cF,cG,cH,eX,cR,cS,cU,cV,g7,g8,gD,gH,eI,eJ,bX,bZ,d9,gI,gM,bE,bD,aZ,aA,aB,aR,aF,aG,aH,aJ,start0,deq,lf,frzL,List.length_cons,List.length_nil,List.map_cons,List.map_nil,List.replicate,List.append_nil,List.nil_append,List.cons_append,List.getElem?_cons_zero,List.getElem?_cons_succ,List.set_cons_zero,List.set_cons_succ,Option.map_some,if_true,Nat.zero_add,Nat.reduceAdd,Nat.reduceSub,Nat.sub_self,and_self,true_and,Bool.not_true,Bool.not_false,ite_self] | simp only [gb])
 ·repeat (simp only [fJ,fK,dO,dQ,dP,aI,aN,hX,hZ,iA,aT,aU,aS,eR,eS,fZ,gA,gB,gC,iI,iL,cE,dF,dX,dU,dJ,dL,dI,b0,cA,cB,cC,iM,iF,iG,iH,g6,iB,hJ,hV,hW,fH,fI,fP,fQ,bP,bR,fG,cO,cP,cQ,cF,cG,cH,eX,cR,cS,cU,cV,g7,g8,gD,gH,eI,eJ,bX,bZ,d9,gI,gM,bE,bD,aZ,aA,aB,aR,aF,aG,aH,aJ,start0,deq,lf,frzL,List.length_cons,List.length_nil,List.map_cons,List.map_nil,List.replicate,List.append_nil,List.nil_append,List.cons_append,List.getElem?_cons_zero,List.getElem?_cons_succ,List.set_cons_zero,List.set_cons_succ,Option.map_some,if_true,Nat.zero_add,Nat.reduceAdd,Nat.reduceSub,Nat.sub_self,and_self,true_and,Bool.not_true,Bool.not_false,ite_self])
 ·rintro _ ⟨_,rfl⟩;rfl
 ·exact ⟨none,rfl⟩
 ·rw [List.length_map];unfold lim;(first|lia|omega)
 ·exact lfL_bl _ _
 ·rintro x hx _ zs ⟨o1,rfl⟩
  obtain ⟨q,_,rfl⟩:=List.mem_map.mp hx
  have it:=oi_tuple (d:=.tup [.int q.num,.int q.den]) rfl
  have w1:=e__law_whole q.num
  have w2:=e__law_whole q.den
  refine ⟨[some (.v (ratD q))],.v (.bl true),⟨some _,rfl⟩,?_,rfl,fun _=>⟨?_,.inl rfl⟩⟩
  ·repeat (simp only [fJ,fK,dO,dQ,dP,aI,aN,hX,hZ,iA,aT,aU,aS,eR,eS,fZ,gA,gB,gC,iI,iL,cE,dF,dX,dU,dJ,dL,dI,b0,cA,cB,cC,iM,iF,iG,iH,g6,iB,hJ,hV,hW,fH,fI,fP,fQ,bP,bR,fG,cO,cP,cQ,cF,cG,cH,eX,cR,cS,cU,cV,g7,g8,gD,gH,eI,eJ,bX,bZ,d9,gI,gM,bE,bD,aZ,aA,aB,aR,aF,aG,aH,aJ,start0,deq,lf,frzL,List.length_cons,List.length_nil,List.map_cons,List.map_nil,List.replicate,List.append_nil,List.nil_append,List.cons_append,List.getElem?_cons_zero,List.getElem?_cons_succ,List.set_cons_zero,List.set_cons_succ,Option.map_some,if_true,Nat.zero_add,Nat.reduceAdd,Nat.reduceSub,Nat.sub_self,and_self,true_and,Bool.not_true,Bool.not_false,ite_self])
  ·rw [show ratD q= .tup [.int q.num,.int q.den] from rfl]
   repeat (first | simp only [fJ,fK,dO,dQ,dP,aI,aN,hX,hZ,iA,aT,aU,aS,eR,eS,fZ,gA,gB,gC,iI,iL,cE,dF,dX,dU,dJ,dL,dI,b0,cA,cB,cC,iM,iF,iG,iH,g6,iB,hJ,hV,hW,fH,fI,fP,fQ,bP,bR,fG,cO,cP,cQ,cF,cG,cH,eX,cR,cS,cU,cV,g7,g8,gD,gH,eI,eJ,bX,bZ,d9,gI,gM,bE,bD,aZ,aA,aB,aR,aF,aG,aH,aJ,start0,deq,lf,frzL,List.length_cons,List.length_nil,List.map_cons,List.map_nil,List.replicate,List.append_nil,List.nil_append,List.cons_append,List.getElem?_cons_zero,List.getElem?_cons_succ,List.set_cons_zero,List.set_cons_succ,Option.map_some,if_true,Nat.zero_add,Nat.reduceAdd,Nat.reduceSub,Nat.sub_self,and_self,true_and,Bool.not_true,Bool.not_false,ite_self] | simp only [it,isT,w1,w2])
theorem kc_ex {c:Addr}{b:Bool}{p:Addr→Bool→Prop}(h:p c b):∃kc:Addr→Option Bool,kc c=some b∧∀C b',kc C=some b'→p C b':=⟨kcF c b,kcF_eq,kcF_of h⟩
theorem kc_ex2 {c:Addr}{b:Bool}{p:Addr→Bool→Prop}(h:p c b)(hx:ExcC K c):∃kc:Addr→Option Bool,kc c=some b∧(∀C b',kc C=some b'→p C b')∧∀C b',kc C=some b'→ExcC K C:=⟨kcF c b,kcF_eq,kcF_of h,kcF_of (p:=fun C _=>ExcC K C) hx⟩
noncomputable abbrev s__law_refused:Stmt:=top 39
theorem sc__law_refused:FnScope ["web","thing","rows","kind","e"] ["web","thing","rows"] (defScope s__law_refused):=⟨rfl,rfl,rfl,by decide +kernel,rfl,by decide +kernel,by decide +kernel⟩
noncomputable def S__law_refused (g:List D→Option W):Prop:=∀(n:Int) (ts:List Tie) (d a b:D),Cl d→ts.length≤1000→sideB n ts d=false→g [webD n ts,d,.lst [a,b]]=some (.v (.bl true))
theorem fn__law_refused {g_joined:List D→Option W}{gx:List D→Option Addr}{c cT cAlone cBarred cLoose cNoDeed cNoParty cNoPerson cNoRatio cNoRow cNoText cNoWeb cNothingDone cTwice:Addr}(h_joined:Fn P w K mg base "joined" k g_joined)(r_joined:FnR P w K mg base "joined" k gx)(er_joined:R_joined c gx)
  (m_isinstance:mg "isinstance"=none) (m_ValueError:mg "ValueError"=none) (x_TwainError:mg "TwainError"=some (.ref cT)) (x_NoSides:mg "NoSides"=some (.ref c)) (x_Alone:mg "Alone"=some (.ref cAlone)) (x_Barred:mg "Barred"=some (.ref cBarred)) (x_Loose:mg "Loose"=some (.ref cLoose)) (x_NoDeed:mg "NoDeed"=some (.ref cNoDeed)) (x_NoParty:mg "NoParty"=some (.ref cNoParty)) (x_NoPerson:mg "NoPerson"=some (.ref cNoPerson))
  (x_NoRatio:mg "NoRatio"=some (.ref cNoRatio)) (x_NoRow:mg "NoRow"=some (.ref cNoRow)) (x_NoText:mg "NoText"=some (.ref cNoText)) (x_NoWeb:mg "NoWeb"=some (.ref cNoWeb)) (x_NothingDone:mg "NothingDone"=some (.ref cNothingDone)) (x_Twice:mg "Twice"=some (.ref cTwice))
  (k1:PySem.W.kitAny K (.ref c) [.ref cAlone,.ref cBarred,.ref cLoose,.ref cNoDeed,.ref cNoParty,.ref cNoPerson]=some false) (k2:PySem.W.kitAny K (.ref c) [.ref cNoRatio,.ref cNoRow,.ref cNoText,.ref cNoWeb,.ref cNothingDone,.ref cTwice]=some false)
  (k3:PySem.W.kitOne K (.ref c) (.ref c)=some true) (k4:PySem.W.kitOne K (.ref c) (.type "ValueError")=some true) (k5:PySem.W.exmOne K (.ref c) (.ref cT)=some true) (hx:ExcC K c)
  (F:Fun K "_law_refused" "_law_refused" s__law_refused f fd) (B:Binds K fd ["web","thing","rows"] []) (hm:mg "_law_refused"=some (.ref f)):∃g,Fn P w K mg base "_law_refused" (k + 1) g∧S__law_refused g:=by
 have nd:=sc__law_refused.nd
 obtain ⟨kc_t,ek_t,hk_t⟩:=kc_ex (p:=fun C b=>PySem.W.exmOne K (.ref C) (.ref cT)=some b) k5
 obtain ⟨kc_Alone,ek_1,hk_Alone,ht_Alone⟩:=kc_ex2 (K:=K) (p:=fun C b=>PySem.W.kitAny K (.ref C) ([cAlone,cBarred,cLoose,cNoDeed,cNoParty,cNoPerson].map Value.ref)=some b) k1 hx
 obtain ⟨kc_NoRatio,ek_2,hk_NoRatio,ht_NoRatio⟩:=kc_ex2 (K:=K) (p:=fun C b=>PySem.W.kitAny K (.ref C) ([cNoRatio,cNoRow,cNoText,cNoWeb,cNothingDone,cTwice].map Value.ref)=some b) k2 hx
 obtain ⟨kc_NoSides,ek_3,hk_NoSides,ht_NoSides⟩:=kc_ex2 (K:=K) (p:=fun C b=>PySem.W.kitOne K (.ref C) (.ref c)=some b) k3 hx
 obtain ⟨kc_ValueError,ek_4,hk_ValueError,ht_ValueError⟩:=kc_ex2 (K:=K) (p:=fun C b=>PySem.W.kitOne K (.ref C) (.type "ValueError")=some b) k4 hx
 refine ⟨_,fn_mk F sc__law_refused B hm rfl rfl (fun cdv A outer s H E hr=>(qss_cons (qs_set 3 nd qx_non)
  (qss_cons (qs_try 4 (kc:=kc_t) nd x_TwainError hk_t (qx_def h_joined hr (qa_cons (qx_name 0) (qa_cons (qx_name 1) (qa_cons (qx_ix (qx_name 2) qx_int) (qa_cons (qx_ix (qx_name 2) qx_int) qa_nil))))) (pre_call r_joined hr (qa_cons (qx_name 0) (qa_cons (qx_name 1) (qa_cons (qx_ix (qx_name 2) qx_int) (qa_cons (qx_ix (qx_name 2) qx_int) qa_nil))))) (fun _=>(qss_one (qs_set 3 nd (qx_name 4)))))
  (qss_cons (qs_if (qt_tru (qx_isTup (kc:=kc_Alone) m_isinstance (.cons x_Alone rfl (by decide) (.cons x_Barred rfl (by decide) (.cons x_Loose rfl (by decide) (.cons x_NoDeed rfl (by decide) (.cons x_NoParty rfl (by decide) (.cons x_NoPerson rfl (by decide) .nil rfl) rfl) rfl) rfl) rfl) rfl) hk_Alone ht_Alone (qx_name 3) (show (6:Nat)≤sizeLine by decide))) (qss_one (qs_ret qx_bl)) qss_nil)
  (qss_cons (qs_if (qt_tru (qx_isTup (kc:=kc_NoRatio) m_isinstance (.cons x_NoRatio rfl (by decide) (.cons x_NoRow rfl (by decide) (.cons x_NoText rfl (by decide) (.cons x_NoWeb rfl (by decide) (.cons x_NothingDone rfl (by decide) (.cons x_Twice rfl (by decide) .nil rfl) rfl) rfl) rfl) rfl) rfl) hk_NoRatio ht_NoRatio (qx_name 3) (show (6:Nat)≤sizeLine by decide))) (qss_one (qs_ret qx_bl)) qss_nil)
  (qss_one (qs_ret (qx_and (qx_isC (kc:=kc_NoSides) m_isinstance x_NoSides hk_NoSides ht_NoSides (qx_name 3)) (qx_one (qx_isT (kc:=kc_ValueError) m_isinstance m_ValueError hk_ValueError ht_ValueError (qx_name 3))))))))))),?_⟩
 intro n ts d a b hd hl hs
 have er:=er_joined n ts d a b hd hl hs
 repeat (first | simp only [fJ,fK,dO,dQ,dP,aI,aN,hX,hZ,iA,aT,aU,aS,eR,eS,fZ,gA,gB,gC,iI,iL,cE,dF,dX,dU,dJ,dL,dI,b0,cA,cB,cC,iM,iF,iG,iH,g6,iB,hJ,hV,hW,fH,fI,fP,fQ,bP,bR,fG,cO,cP,cQ,cF,cG,cH,eX,cR,cS,cU,cV,g7,g8,gD,gH,eI,eJ,bX,bZ,d9,gI,gM,bE,bD,aZ,aA,aB,aR,aF,aG,aH,aJ,start0,deq,lf,frzL,List.length_cons,List.length_nil,List.map_cons,List.map_nil,List.replicate,List.append_nil,List.nil_append,List.cons_append,List.getElem?_cons_zero,List.getElem?_cons_succ,List.set_cons_zero,List.set_cons_succ,Option.map_some,if_true,Nat.zero_add,Nat.reduceAdd,Nat.reduceSub,Nat.sub_self,and_self,true_and,Bool.not_true,Bool.not_false,ite_self] | simp only [er,ek_t,ek_1,ek_2,ek_3,ek_4])
end
end Q67
set_option maxHeartbeats 1500000
namespace Q67
open PySem L2 Z
section
variable {P:Program}{w:World}{K:PySem.W.Frag}{mg:Str→Option Value}{base:Heap}{f:Addr}{fd:FuncData}{k:Nat}
theorem mem_cut {xs:List D}{lo hi:Option Int}{x:D}(h:x∈cutD xs lo hi):x∈xs:=by
 unfold cutD at h
 exact List.mem_of_mem_drop (List.mem_of_mem_take h)
theorem len_cut (xs:List D)(lo hi:Option Int):(cutD xs lo hi).length≤xs.length:=by
 unfold cutD
 rw [List.length_take,List.length_drop]
 (first|lia|omega)
noncomputable def NoSd (n:Int) (ts:List Tie) (d:D):Prop:=Cl d∧sideB n ts d=false
theorem noSd_pers {n:Int}{ts:List Tie}{xs:List D}{x:D}(hx:x∈xs)(hp:pers n x=false)(hi:∀y∈xs,isX y=false)(hl:xs.length≤1000):NoSd n ts (.tup xs):=by
 refine ⟨⟨hi,hl⟩,?_⟩
 have:xs.all (pers n)=false:=by
  cases h:xs.all (pers n) with
  | false=>rfl
  | true=>rw [List.all_eq_true] at h;rw [h x hx] at hp;cases hp
 simp only [Q67.sideB,this,Bool.false_and]
theorem isX_ints {ns:List Int}:∀y∈ns.map D.int,isX y=false:=fun x hx=>by obtain ⟨i,_,rfl⟩:=mem_ints hx;rfl
theorem noSd_tie {n:Int}{ts:List Tie}{ns:List Int}{t:Tie}(ht:t∈ts)(hb:decide (t.1∈ns)=decide (t.2.1∈ns))(hl:ns.length≤1000):NoSd n ts (.tup (ns.map .int)):=by
 refine ⟨⟨isX_ints,by rw [List.length_map];exact hl⟩,?_⟩
 have:(ts.all fun t=>decide (t.1∈ns) != decide (t.2.1∈ns))=false:=by
  cases h:ts.all fun t=>decide (t.1∈ns) != decide (t.2.1∈ns) with
  | false=>rfl
  | true=>rw [List.all_eq_true] at h;have:=h t ht;rw [hb] at this;simp at this
 simp only [Q67.sideB,intsOf_map,this,Bool.and_false]
noncomputable def setL (ns:List Int):List Int:=intsN (lm (mAll (ns.map Int.toNat)))
theorem mem_setL {ns:List Int}{x:Int}(h8:0≤x∧x < 8)(h:x∈ns):x∈setL ns:=by
 unfold setL intsN
 refine List.mem_map.mpr ⟨x.toNat,mem_lm.mpr ⟨by (first|lia|omega),?_⟩,by (first|lia|omega)⟩
 rw [mAll_bit]
 exact decide_eq_true (List.mem_map.mpr ⟨x,h,rfl⟩)
theorem gSS_ints {ns:List Int}(h:∀n∈ns,0≤n∧n < 8):gSS (.tup (ns.map .int))=some (.o (.lst ((setL ns).map .int))):=by
 unfold gSS setL
 dsimp only
 rw [intsOf_map,Option.bind_some,if_pos h]
theorem lfL_no:∀{xs:List D} {x:D},x∈xs→lf x=false→lfL xs=false
 | y :: ys,x,h,hx=>by
  rw [lfL]
  rcases List.mem_cons.mp h with rfl | h
  ·rw [hx,Bool.false_and]
  ·rw [lfL_no h hx,Bool.and_false]
noncomputable abbrev s__law_no_sides:Stmt:=top 40
theorem sc__law_no_sides:FnScope ["left","web","side","some","a","b","gain"] ["left","web","side"] (defScope s__law_no_sides):=⟨rfl,rfl,rfl,by decide +kernel,rfl,by decide +kernel,by decide +kernel⟩
noncomputable def S__law_no_sides (g:List D→Option W):Prop:=∀(m n:Int) (ts:List Tie) (side:List Int),Part n ts side→∃ds:List D,(∀d∈ds,NoSd n ts d)∧ds.length≤1000∧lfL ds=false∧g [.lst [.int m],webD n ts,.tup (side.map .int)]=some (.o (.lst ds))
theorem fn__law_no_sides (m_list:mg "list"=none)(m_tuple:mg "tuple"=none)(m_sorted:mg "sorted"=none)(m_set:mg "set"=none)(F:Fun K "_law_no_sides" "_law_no_sides" s__law_no_sides f fd)(B:Binds K fd ["left","web","side"] [])(hm:mg "_law_no_sides"=some (.ref f)):∃g,Fn P w K mg base "_law_no_sides" (k + 1) g∧S__law_no_sides g:=by
 have nd:=sc__law_no_sides.nd
 refine ⟨_,fn_mk F sc__law_no_sides B hm rfl rfl (fun cdv A outer s H E hr=>(qss_cons (qs_set 3 nd (qx_lst (qa_cons (qx_t call_list_of pr_list m_list (qa_cons (qx_name 2) qa_nil)) (qa_cons qx_non (qa_cons qx_str (qa_cons (qx_tup (qa_cons (qx_ix (qx_name 1) qx_int) qa_nil)) (qa_cons (qx_addT (qx_tup (qa_cons (qx_neg qx_int) qa_nil)) (qx_name 2)) (qa_cons (qx_addT (qx_name 2) (qx_tup (qa_cons qx_bl qa_nil))) (qa_cons qx_int qa_nil)))))))))
  (qss_cons (qs_for PySem.PassesOwn.never rfl (qi_seq (qx_slice (qx_ix (qx_name 1) qx_int) qo_none (qo_some qx_int))) (qg_tup rfl (qgs_cons (qg_name 4 nd) (qgs_cons (qg_name 5 nd) (qgs_cons (qg_name 6 nd) qgs_nil)))) (qss_cons (qs_expr (qx_append (qx_name 3) (qa_cons (qx_t call_tuple_of pr_tuple m_tuple (qa_cons (qx_comp (N:=["person","a","b"]) (js:=[none,some 4,some 5]) (li:=none) rfl (blk_mk (by exact (.own (.cap rfl rfl rfl rfl (.cap rfl rfl rfl rfl .nil)))) rfl (by exact ⟨rfl,⟨rfl,trivial⟩⟩) (by rfl)) (qib_name 2) (fun _ _ _ _=>(qg_name 0 (show ((["person","a","b"]:List Str) ++ [accN]).Nodup by decide +kernel))) (fun _ _ _ _=>(tst_one rfl (qt_of (qw_and (qt_ne hr (qx_name 0) (qx_name 1)) (qw_and1 (qt_ne hr (qx_name 0) (qx_name 2))))))) (fun _ _ _ _=>(qx_name 0))) qa_nil)) qa_nil)))
  (qss_one (qs_expr (qx_append (qx_name 3) (qa_cons (qx_t call_tuple_of pr_tuple m_tuple (qa_cons (qx_sortedSet rfl m_sorted m_set (qa_cons (qx_addT (qx_name 2) (qx_tup (qa_cons (qx_name 4) (qa_cons (qx_name 5) qa_nil)))) qa_nil)) qa_nil)) qa_nil))))))
  (qss_one (qs_ret (qx_name 3)))))),?_⟩
 intro m n ts side hp
 have hn:=hp.n1
 have htl:=hp.tl
 have hsl:=hp.sl
 have l1:([D.int (-1)] ++ side.map D.int).length≤1000:=by rw [List.length_append,List.length_map,List.length_singleton];(first|lia|omega)
 have base:∀d∈[D.lst (side.map .int),.non,.str "side",.tup [.int n],.tup (.int (-1) :: side.map .int),.tup (side.map .int ++ [.bl true]),.int 0],NoSd n ts d:=by
  intro d hd
  simp only [List.mem_cons,List.not_mem_nil,or_false] at hd
  rcases hd with rfl | rfl | rfl | rfl | rfl | rfl | rfl
  ·exact ⟨rfl,rfl⟩
  ·exact ⟨rfl,rfl⟩
  ·exact ⟨rfl,rfl⟩
  ·refine noSd_pers (x:=.int n) List.mem_cons_self ?_ (fun y hy=>by rw [List.mem_singleton.mp hy];rfl) (by simp)
   simp only [pers,Bool.and_eq_false_iff,decide_eq_false_iff_not];(first|lia|omega)
  ·refine noSd_pers (x:=.int (-1)) List.mem_cons_self ?_ (fun y hy=>?_) l1
   ·simp only [pers,Bool.and_eq_false_iff,decide_eq_false_iff_not];(first|lia|omega)
   ·rcases List.mem_cons.mp hy with rfl | hy
    ·rfl
    ·exact isX_ints y hy
  ·refine noSd_pers (x:=.bl true) (List.mem_append_right _ List.mem_cons_self) rfl (fun y hy=>?_) (by rw [List.length_append,List.length_map,List.length_singleton];(first|lia|omega))
   rcases List.mem_append.mp hy with hy | hy
   ·exact isX_ints y hy
   ·rw [List.mem_singleton.mp hy];rfl
  ·exact ⟨rfl,rfl⟩
 have q1:1 + (side.map D.int).length≤1000000:=by rw [List.length_map];(first|lia|omega)
 have q2:(side.map D.int).length≤999999:=by rw [List.length_map];(first|lia|omega)
 have q3:(side.map D.int).length + 1≤1000000:=by rw [List.length_map];(first|lia|omega)
 unfold webD
 repeat (first | simp only [lim,dO,dQ,dP,aI,aN,iI,iL,iK,cE,dF,dX,dU,dJ,dL,dI,b0,cA,cB,cC,iM,iF,iG,iH,g6,iB,bO,bT,bS,fG,cO,cP,cQ,gU,gW,gT,iC,eY,cW,cX,cF,cG,cH,eX,gN,gO,gP,gQ,gR,gS,fM,fN,fO,g7,g8,gD,gG,gE,bX,bY,d9,eA,dZ,dY,eF,dG,dH,eN,eO,eQ,dR,dS,iD,iE,eZ,fA,fB,fD,fE,fF,bW,gI,gM,aW,bH,bE,bI,bF,aZ,aA,aB,aF,aH,aJ,aM,bJ,bK,iO,iP,Z.W.own,start0,deq,flatE,List.length_cons,List.length_nil,List.map_cons,List.map_nil,List.replicate,List.nil_append,List.cons_append,List.getElem?_cons_zero,List.getElem?_cons_succ,List.set_cons_zero,List.set_cons_succ,Option.map_some,if_true,Bool.false_eq_true,Nat.zero_add,Nat.reduceAdd,Nat.reduceSub,Nat.sub_self,Nat.add_zero,and_self,Bool.and_self,Bool.true_and,Bool.not_true,Bool.not_false,Bool.and_false,Bool.false_and,ite_self,Nat.reduceLeDiff,beq_self_eq_true] | simp only [q1,q2,q3])
 generalize el:loopF _ _ _=r
 refine loop_elim el (fun d ρ=>∃(o1 o2 o3:Option D) (ds:List D),ρ=[some (.v (.lst [.int m])),some (.v (.tup [.int n,.tup (ts.map tieD)])),some (.v (.tup (side.map .int))),some (.o (.lst ds)),o1.map .v,o2.map .v,o3.map .v]∧(∀d∈ds,NoSd n ts d)∧ds.length≤7 + 2 * d.length∧D.lst (side.map .int)∈ds) ⟨none,none,none,_,rfl,base,by simp,List.mem_cons_self⟩ ?_ ?_
 ·rintro d x _ hx hd ⟨o1,o2,o3,ds,rfl,hds,hl,hm⟩
  have hcl:=len_cut (ts.map tieD) none (some 3)
  rw [List.length_map] at hcl
  obtain ⟨⟨a,b,c⟩,ht,rfl⟩:=List.mem_map.mp (mem_cut hx)
  obtain ⟨t1,t2,t3,_⟩:=hp.tb _ ht
  simp only at t1 t2 t3
  obtain ⟨sd,es,ls,hsd⟩:=ints_of (Q:=fun i=>i≠a∧i≠b) (xs:=((side.map D.int).filter (onI fun i=>!(i == a) && !(i == b))).map id) (fun x hx=>by
   obtain ⟨y,hy,rfl⟩:=List.mem_map.mp hx
   obtain ⟨h1,h2⟩:=List.mem_filter.mp hy
   obtain ⟨i,_,rfl⟩:=mem_ints h1
   simp only [onI,Bool.and_eq_true,Bool.not_eq_true',beq_eq_false_iff_ne] at h2
   exact ⟨i,rfl,h2⟩)
  have lsd:sd.length≤8:=by
   rw [ls,List.length_map]
   refine Nat.le_trans (List.length_filter_le _ _) ?_
   rw [List.length_map];exact hsl
  have n1:NoSd n ts (.tup (sd.map .int)):=noSd_tie ht (by
   rw [decide_eq_false (fun z=>(hsd a z).1 rfl),decide_eq_false (fun z=>(hsd b z).2 rfl)]) (by (first|lia|omega))
  have h8:∀x∈side ++ [a,b],0≤x∧x < 8:=fun x hx=>by
   rcases List.mem_append.mp hx with hx | hx
   ·have:=hp.sp x hx;(first|lia|omega)
   ·simp only [List.mem_cons,List.not_mem_nil,or_false] at hx
    rcases hx with rfl | rfl <;> (first|lia|omega)
  have gs:=gSS_ints h8
  rw [List.map_append] at gs
  have gs:gSS (.tup (side.map .int ++ [.int a,.int b]))=some (.o (.lst ((setL (side ++ [a,b])).map .int))):=gs
  have n2:NoSd n ts (.tup ((setL (side ++ [a,b])).map .int)):=noSd_tie ht (by
   rw [decide_eq_true (mem_setL (h8 a (by simp)) (by simp)),decide_eq_true (mem_setL (h8 b (by simp)) (by simp))]) (by
   unfold setL intsN;rw [List.length_map];have:=lm_len (mAll ((side ++ [a,b]).map Int.toNat));(first|lia|omega))
  have hlt:ds.length < 1000000:=by (first|lia|omega)
  have hlt2:(ds ++ [D.tup (sd.map .int)]).length < 1000000:=by rw [List.length_append,List.length_singleton];(first|lia|omega)
  have q4:(side.map D.int).length≤999998:=by rw [List.length_map];(first|lia|omega)
  have lf1:=lfL_ints sd
  have lf2:=lfL_ints (setL (side ++ [a,b]))
  refine ⟨_,?_,some (.int a),some (.int b),some (.int c),(ds ++ [.tup (sd.map .int)]) ++ [.tup ((setL (side ++ [a,b])).map .int)],rfl,fun y hy=>?_,?_,List.mem_append_left _ (List.mem_append_left _ hm)⟩
  ·rw [show tieD (a,b,c)= .tup [.int a,.int b,.int c] from rfl]
   repeat (first | simp only [lim,dO,dQ,dP,aI,aN,iI,iL,iK,cE,dF,dX,dU,dJ,dL,dI,b0,cA,cB,cC,iM,iF,iG,iH,g6,iB,bO,bT,bS,fG,cO,cP,cQ,gU,gW,gT,iC,eY,cW,cX,cF,cG,cH,eX,gN,gO,gP,gQ,gR,gS,fM,fN,fO,g7,g8,gD,gG,gE,bX,bY,d9,eA,dZ,dY,eF,dG,dH,eN,eO,eQ,dR,dS,iD,iE,eZ,fA,fB,fD,fE,fF,bW,gI,gM,aW,bH,bE,bI,bF,aZ,aA,aB,aF,aH,aJ,aM,bJ,bK,iO,iP,Z.W.own,start0,deq,flatE,List.length_cons,List.length_nil,List.map_cons,List.map_nil,List.replicate,List.nil_append,List.cons_append,List.getElem?_cons_zero,List.getElem?_cons_succ,List.set_cons_zero,List.set_cons_succ,Option.map_some,if_true,Bool.false_eq_true,Nat.zero_add,Nat.reduceAdd,Nat.reduceSub,Nat.sub_self,Nat.add_zero,and_self,Bool.and_self,Bool.true_and,Bool.not_true,Bool.not_false,Bool.and_false,Bool.false_and,ite_self,Nat.reduceLeDiff,beq_self_eq_true])
   rw [comp_map (ρ1:=[some (.v (.lst [.int m])),some (.v (.tup [.int n,.tup (ts.map tieD)])),some (.v (.tup (side.map .int))),some (.o (.lst ds)),some (.v (.int a)),some (.v (.int b)),some (.v (.int c))]) (xs:=side.map .int) (fun B=>∃o1:Option D,B=[o1.map .v,some (.v (.int a)),some (.v (.int b))]) (onI fun i=>!(i == a) && !(i == b)) id]
   ·rw [es]
    repeat (first | simp only [lim,dO,dQ,dP,aI,aN,iI,iL,iK,cE,dF,dX,dU,dJ,dL,dI,b0,cA,cB,cC,iM,iF,iG,iH,g6,iB,bO,bT,bS,fG,cO,cP,cQ,gU,gW,gT,iC,eY,cW,cX,cF,cG,cH,eX,gN,gO,gP,gQ,gR,gS,fM,fN,fO,g7,g8,gD,gG,gE,bX,bY,d9,eA,dZ,dY,eF,dG,dH,eN,eO,eQ,dR,dS,iD,iE,eZ,fA,fB,fD,fE,fF,bW,gI,gM,aW,bH,bE,bI,bF,aZ,aA,aB,aF,aH,aJ,aM,bJ,bK,iO,iP,Z.W.own,start0,deq,flatE,List.length_cons,List.length_nil,List.map_cons,List.map_nil,List.replicate,List.nil_append,List.cons_append,List.getElem?_cons_zero,List.getElem?_cons_succ,List.set_cons_zero,List.set_cons_succ,Option.map_some,if_true,Bool.false_eq_true,Nat.zero_add,Nat.reduceAdd,Nat.reduceSub,Nat.sub_self,Nat.add_zero,and_self,Bool.and_self,Bool.true_and,Bool.not_true,Bool.not_false,Bool.and_false,Bool.false_and,ite_self,Nat.reduceLeDiff,beq_self_eq_true] | simp only [hlt,hlt2,q4,gs,lf1,lf2,lf])
   ·repeat (simp only [lim,dO,dQ,dP,aI,aN,iI,iL,iK,cE,dF,dX,dU,dJ,dL,dI,b0,cA,cB,cC,iM,iF,iG,iH,g6,iB,bO,bT,bS,fG,cO,cP,cQ,gU,gW,gT,iC,eY,cW,cX,cF,cG,cH,eX,gN,gO,gP,gQ,gR,gS,fM,fN,fO,g7,g8,gD,gG,gE,bX,bY,d9,eA,dZ,dY,eF,dG,dH,eN,eO,eQ,dR,dS,iD,iE,eZ,fA,fB,fD,fE,fF,bW,gI,gM,aW,bH,bE,bI,bF,aZ,aA,aB,aF,aH,aJ,aM,bJ,bK,iO,iP,Z.W.own,start0,deq,flatE,List.length_cons,List.length_nil,List.map_cons,List.map_nil,List.replicate,List.nil_append,List.cons_append,List.getElem?_cons_zero,List.getElem?_cons_succ,List.set_cons_zero,List.set_cons_succ,Option.map_some,if_true,Bool.false_eq_true,Nat.zero_add,Nat.reduceAdd,Nat.reduceSub,Nat.sub_self,Nat.add_zero,and_self,Bool.and_self,Bool.true_and,Bool.not_true,Bool.not_false,Bool.and_false,Bool.false_and,ite_self,Nat.reduceLeDiff,beq_self_eq_true])
   ·rintro _ ⟨_,rfl⟩;rfl
   ·exact ⟨none,rfl⟩
   ·rw [List.length_map];unfold lim;(first|lia|omega)
   ·rw [es];exact lfL_ints _
   ·rintro x hx _ zs ⟨o1,rfl⟩
    obtain ⟨i,_,rfl⟩:=mem_ints hx
    refine ⟨[some (.v (.int i)),some (.v (.int a)),some (.v (.int b))],.v (.int i),⟨some _,rfl⟩,?_,?_,fun _=>⟨?_,.inl rfl⟩⟩
    ·repeat (simp only [lim,dO,dQ,dP,aI,aN,iI,iL,iK,cE,dF,dX,dU,dJ,dL,dI,b0,cA,cB,cC,iM,iF,iG,iH,g6,iB,bO,bT,bS,fG,cO,cP,cQ,gU,gW,gT,iC,eY,cW,cX,cF,cG,cH,eX,gN,gO,gP,gQ,gR,gS,fM,fN,fO,g7,g8,gD,gG,gE,bX,bY,d9,eA,dZ,dY,eF,dG,dH,eN,eO,eQ,dR,dS,iD,iE,eZ,fA,fB,fD,fE,fF,bW,gI,gM,aW,bH,bE,bI,bF,aZ,aA,aB,aF,aH,aJ,aM,bJ,bK,iO,iP,Z.W.own,start0,deq,flatE,List.length_cons,List.length_nil,List.map_cons,List.map_nil,List.replicate,List.nil_append,List.cons_append,List.getElem?_cons_zero,List.getElem?_cons_succ,List.set_cons_zero,List.set_cons_succ,Option.map_some,if_true,Bool.false_eq_true,Nat.zero_add,Nat.reduceAdd,Nat.reduceSub,Nat.sub_self,Nat.add_zero,and_self,Bool.and_self,Bool.true_and,Bool.not_true,Bool.not_false,Bool.and_false,Bool.false_and,ite_self,Nat.reduceLeDiff,beq_self_eq_true])
    ·cases ha:(i == a) with
     | true=>repeat (first | simp only [lim,dO,dQ,dP,aI,aN,iI,iL,iK,cE,dF,dX,dU,dJ,dL,dI,b0,cA,cB,cC,iM,iF,iG,iH,g6,iB,bO,bT,bS,fG,cO,cP,cQ,gU,gW,gT,iC,eY,cW,cX,cF,cG,cH,eX,gN,gO,gP,gQ,gR,gS,fM,fN,fO,g7,g8,gD,gG,gE,bX,bY,d9,eA,dZ,dY,eF,dG,dH,eN,eO,eQ,dR,dS,iD,iE,eZ,fA,fB,fD,fE,fF,bW,gI,gM,aW,bH,bE,bI,bF,aZ,aA,aB,aF,aH,aJ,aM,bJ,bK,iO,iP,Z.W.own,start0,deq,flatE,List.length_cons,List.length_nil,List.map_cons,List.map_nil,List.replicate,List.nil_append,List.cons_append,List.getElem?_cons_zero,List.getElem?_cons_succ,List.set_cons_zero,List.set_cons_succ,Option.map_some,if_true,Bool.false_eq_true,Nat.zero_add,Nat.reduceAdd,Nat.reduceSub,Nat.sub_self,Nat.add_zero,and_self,Bool.and_self,Bool.true_and,Bool.not_true,Bool.not_false,Bool.and_false,Bool.false_and,ite_self,Nat.reduceLeDiff,beq_self_eq_true] | simp only [ha,onI])
     | false=>repeat (first | simp only [lim,dO,dQ,dP,aI,aN,iI,iL,iK,cE,dF,dX,dU,dJ,dL,dI,b0,cA,cB,cC,iM,iF,iG,iH,g6,iB,bO,bT,bS,fG,cO,cP,cQ,gU,gW,gT,iC,eY,cW,cX,cF,cG,cH,eX,gN,gO,gP,gQ,gR,gS,fM,fN,fO,g7,g8,gD,gG,gE,bX,bY,d9,eA,dZ,dY,eF,dG,dH,eN,eO,eQ,dR,dS,iD,iE,eZ,fA,fB,fD,fE,fF,bW,gI,gM,aW,bH,bE,bI,bF,aZ,aA,aB,aF,aH,aJ,aM,bJ,bK,iO,iP,Z.W.own,start0,deq,flatE,List.length_cons,List.length_nil,List.map_cons,List.map_nil,List.replicate,List.nil_append,List.cons_append,List.getElem?_cons_zero,List.getElem?_cons_succ,List.set_cons_zero,List.set_cons_succ,Option.map_some,if_true,Bool.false_eq_true,Nat.zero_add,Nat.reduceAdd,Nat.reduceSub,Nat.sub_self,Nat.add_zero,and_self,Bool.and_self,Bool.true_and,Bool.not_true,Bool.not_false,Bool.and_false,Bool.false_and,ite_self,Nat.reduceLeDiff,beq_self_eq_true] | simp only [ha,onI])
    ·repeat (simp only [lim,dO,dQ,dP,aI,aN,iI,iL,iK,cE,dF,dX,dU,dJ,dL,dI,b0,cA,cB,cC,iM,iF,iG,iH,g6,iB,bO,bT,bS,fG,cO,cP,cQ,gU,gW,gT,iC,eY,cW,cX,cF,cG,cH,eX,gN,gO,gP,gQ,gR,gS,fM,fN,fO,g7,g8,gD,gG,gE,bX,bY,d9,eA,dZ,dY,eF,dG,dH,eN,eO,eQ,dR,dS,iD,iE,eZ,fA,fB,fD,fE,fF,bW,gI,gM,aW,bH,bE,bI,bF,aZ,aA,aB,aF,aH,aJ,aM,bJ,bK,iO,iP,Z.W.own,start0,deq,flatE,List.length_cons,List.length_nil,List.map_cons,List.map_nil,List.replicate,List.nil_append,List.cons_append,List.getElem?_cons_zero,List.getElem?_cons_succ,List.set_cons_zero,List.set_cons_succ,Option.map_some,if_true,Bool.false_eq_true,Nat.zero_add,Nat.reduceAdd,Nat.reduceSub,Nat.sub_self,Nat.add_zero,and_self,Bool.and_self,Bool.true_and,Bool.not_true,Bool.not_false,Bool.and_false,Bool.false_and,ite_self,Nat.reduceLeDiff,beq_self_eq_true])
  ·rcases List.mem_append.mp hy with hy | hy
   ·rcases List.mem_append.mp hy with hy | hy
    ·exact hds y hy
    ·rw [List.mem_singleton.mp hy];exact n1
   ·rw [List.mem_singleton.mp hy];exact n2
  ·rw [List.length_append,List.length_append,List.length_append,List.length_singleton,List.length_singleton,List.length_singleton];(first|lia|omega)
 ·rintro _ rfl ⟨o1,o2,o3,ds,rfl,hds,hl,hm⟩
  have hcl:=len_cut (ts.map tieD) none (some 3)
  rw [List.length_map] at hcl
  refine ⟨ds,hds,by (first|lia|omega),lfL_no hm rfl,?_⟩
  repeat (first | simp only [lim,dO,dQ,dP,aI,aN,iI,iL,iK,cE,dF,dX,dU,dJ,dL,dI,b0,cA,cB,cC,iM,iF,iG,iH,g6,iB,bO,bT,bS,fG,cO,cP,cQ,gU,gW,gT,iC,eY,cW,cX,cF,cG,cH,eX,gN,gO,gP,gQ,gR,gS,fM,fN,fO,g7,g8,gD,gG,gE,bX,bY,d9,eA,dZ,dY,eF,dG,dH,eN,eO,eQ,dR,dS,iD,iE,eZ,fA,fB,fD,fE,fF,bW,gI,gM,aW,bH,bE,bI,bF,aZ,aA,aB,aF,aH,aJ,aM,bJ,bK,iO,iP,Z.W.own,start0,deq,flatE,List.length_cons,List.length_nil,List.map_cons,List.map_nil,List.replicate,List.nil_append,List.cons_append,List.getElem?_cons_zero,List.getElem?_cons_succ,List.set_cons_zero,List.set_cons_succ,Option.map_some,if_true,Bool.false_eq_true,Nat.zero_add,Nat.reduceAdd,Nat.reduceSub,Nat.sub_self,Nat.add_zero,and_self,Bool.and_self,Bool.true_and,Bool.not_true,Bool.not_false,Bool.and_false,Bool.false_and,ite_self,Nat.reduceLeDiff,beq_self_eq_true])
  try rfl
end
end Q67
set_option maxHeartbeats 1500000
namespace Q67
open PySem L2 Z
section
variable {P:Program}{w:World}{K:PySem.W.Frag}{mg:Str→Option Value}{base:Heap}{f:Addr}{fd:FuncData}{k:Nat}
theorem cl_ints {ns:List Int}(h:ns.length≤8):Cl (.tup (ns.map .int)):=⟨fun x hx=>by obtain ⟨i,_,rfl⟩:=mem_ints hx;rfl,by rw [List.length_map];(first|lia|omega)⟩
noncomputable def notS (side:List Int):Int→Bool:=fun i=>!decide (i∈side)
theorem in_co {n:Int}{side:List Int}{i:Int}(a:0≤i)(b:i < n):decide (i∈ridx n.toNat (notS side))= !decide (i∈side):=by
 by_cases hi:i∈side
 ·rw [decide_eq_true hi,decide_eq_false]
  ·rfl
  ·intro z
   have:=(mem_ridx.mp z).2
   unfold notS at this
   rw [decide_eq_true hi] at this;cases this
 ·rw [decide_eq_false hi,decide_eq_true]
  ·rfl
  ·exact mem_ridx.mpr ⟨by (first|lia|omega),by unfold notS;rw [decide_eq_false hi];rfl⟩
theorem Part.co {n:Int}{ts:List Tie}{side:List Int}(h:Part n ts side):Part n ts (ridx n.toNat (notS side)):=by
 have hn:=h.n1
 refine ⟨hn,h.tl,fun t ht=>?_,fun i hi=>?_,rise_ridx _ _,Nat.le_trans (len_ridx _ _) (by (first|lia|omega))⟩
 ·obtain ⟨h1,h2,h3,h4⟩:=h.tb t ht
  refine ⟨h1,h2,h3,?_⟩
  rw [in_co h1 (by (first|lia|omega)),in_co (by (first|lia|omega)) h3]
  revert h4
  generalize decide (t.1∈side)=x
  generalize decide (t.2.1∈side)=y
  revert x y;decide
 ·have:=(mem_ridx.mp hi).1;(first|lia|omega)
noncomputable abbrev s_law:Stmt:=top 41
theorem sc_law:FnScope ["script","cell","left","web","side","rows","others","some"] ["script"] (defScope s_law):=⟨rfl,rfl,rfl,by decide +kernel,rfl,by decide +kernel,by decide +kernel⟩
theorem fn_law {g__law_deal:List D→Option W}{g__law_parted:D→List D→Option (W×D)}{g__law_rows:D→List D→Option (W×D)}{g__law_alike:List D→Option W}{g_joined:List D→Option W}{g__law_due:List D→Option W}{g__law_refused:List D→Option W}{g__law_no_sides:List D→Option W}(h__law_deal:Fn P w K mg base "_law_deal" k g__law_deal)(e__law_deal:S__law_deal g__law_deal)(h__law_parted:FnL P w K mg base "_law_parted" k g__law_parted)(e__law_parted:S__law_parted g__law_parted)(h__law_rows:FnL P w K mg base "_law_rows" k g__law_rows)(e__law_rows:S__law_rows g__law_rows)(h__law_alike:Fn P w K mg base "_law_alike" k g__law_alike)(e__law_alike:S__law_alike g__law_alike)(h_joined:Fn P w K mg base "joined" k g_joined)(e_joined:S_joined g_joined)(h__law_due:Fn P w K mg base "_law_due" k g__law_due)(e__law_due:S__law_due g__law_due)(h__law_refused:Fn P w K mg base "_law_refused" k g__law_refused)(e__law_refused:S__law_refused g__law_refused)(h__law_no_sides:Fn P w K mg base "_law_no_sides" k g__law_no_sides)(e__law_no_sides:S__law_no_sides g__law_no_sides)(m_tuple:mg "tuple"=none)(m_all:mg "all"=none)(m_range:mg "range"=none)(F:Fun K "law" "law" s_law f fd):FnOk P w K mg base CX0 (k + 1) f fd ["script"] (spLaw K):=by
 have nd:=sc_law.nd
 refine law_ok F sc_law rfl rfl (fun cdv A outer s H E hr=>(qss_cons (qs_for PySem.PassesOwn.never rfl (qi_seq (qx_add (qx_lst (qa_cons qx_int qa_nil)) (qx_name 0))) (qg_name 1 nd) (qss_cons (qs_set 2 nd (qx_def h__law_deal hr (qa_cons (qx_name 1) qa_nil)))
  (qss_cons (qs_asg (qx_defL h__law_parted hr (qa_cons (qx_name 2) qa_nil)) (qg_tup rfl (qgs_cons (qg_name 3 nd) (qgs_cons (qg_name 4 nd) qgs_nil))))
  (qss_cons (qs_set 5 nd (qx_defL h__law_rows hr (qa_cons (qx_name 2) (qa_cons (qx_ix (qx_name 3) qx_int) qa_nil))))
  (qss_cons (qs_set 6 nd (qx_t call_tuple_of pr_tuple m_tuple (qa_cons (qx_comp (N:=["person","side"]) (js:=[none,some 4]) (li:=none) rfl (blk_mk (by exact (.own (.cap rfl rfl rfl rfl .nil))) rfl (by exact ⟨rfl,trivial⟩) (by rfl)) (qib_of (qi_r1 m_range (qa_cons (qx_ix (qx_name 3) qx_int) qa_nil))) (fun _ _ _ _=>(qg_name 0 (show ((["person","side"]:List Str) ++ [accN]).Nodup by decide +kernel))) (fun _ _ _ _=>(tst_one rfl (qt_notIn hr (qx_name 0) (qx_name 1)))) (fun _ _ _ _=>(qx_name 0))) qa_nil)))
  (qss_cons (qs_for PySem.PassesOwn.never rfl (qi_seq (qx_lst (qa_cons (qx_name 4) (qa_cons (qx_name 6) qa_nil)))) (qg_name 7 nd) (qss_one (qs_if (qt_not (qt_tru (qx_def h__law_alike hr (qa_cons (qx_def h_joined hr (qa_cons (qx_name 3) (qa_cons (qx_name 7) (qa_cons (qx_ix (qx_name 5) qx_int) (qa_cons (qx_ix (qx_name 5) qx_int) qa_nil))))) (qa_cons (qx_def h__law_due hr (qa_cons (qx_ix (qx_name 3) qx_int) (qa_cons (qx_name 7) (qa_cons (qx_ix (qx_name 5) qx_int) (qa_cons (qx_ix (qx_name 5) qx_int) qa_nil))))) qa_nil))))) (qss_one (qs_ret qx_bl)) qss_nil)))
  (qss_one (qs_if (qt_not (qt_tru (qx_b (call_allL rfl) pr_bools m_all (qa_cons (qx_comp (N:=["thing","web","rows"]) (js:=[none,some 3,some 5]) (li:=none) rfl (blk_mk (by exact (.own (.cap rfl rfl rfl rfl (.cap rfl rfl rfl rfl .nil)))) rfl (by exact ⟨rfl,⟨rfl,trivial⟩⟩) (by rfl)) (qib_of (qi_seq (qx_def h__law_no_sides hr (qa_cons (qx_name 2) (qa_cons (qx_name 3) (qa_cons (qx_name 4) qa_nil)))))) (fun _ _ _ _=>(qg_name 0 (show ((["thing","web","rows"]:List Str) ++ [accN]).Nodup by decide +kernel))) (fun _ _ _ _=>tst_nil) (fun _ _ _ _=>(qx_def h__law_refused hr (qa_cons (qx_name 1) (qa_cons (qx_name 0) (qa_cons (qx_name 2) qa_nil)))))) qa_nil)))) (qss_one (qs_ret qx_bl)) qss_nil))))))))
  (qss_one (qs_ret qx_bl)))) ?_
 intro ns hl
 have hlen:1 + (ns.map D.int).length≤1000000:=by rw [List.length_map];(first|lia|omega)
 repeat (first | simp only [lim,aI,fV,fW,iI,iL,iK,cE,dF,dE,dD,dX,dU,dW,dJ,dL,dI,b0,cA,cB,cC,iM,g6,iB,hJ,hV,hW,fH,fI,fG,cO,cP,cQ,gU,gW,gT,eY,cW,cX,cF,cG,cH,eX,cR,cS,cU,cV,cY,cZ,dA,dB,g7,g8,gD,gH,eI,eJ,bX,bZ,bY,bL,bM,bN,fL,d9,eA,dZ,dY,eF,eN,eO,eP,dR,dS,iD,iE,gI,gM,aY,bE,bD,bI,aA,aB,aR,aQ,aP,aH,aJ,bJ,bK,iO,iP,aK,aL,Z.W.own,start0,lf,lfL,noR,frzL,List.length_cons,List.length_nil,List.map_cons,List.map_nil,List.replicate,List.nil_append,List.cons_append,List.getElem?_cons_zero,List.getElem?_cons_succ,List.set_cons_zero,List.set_cons_succ,Option.bind_some,Option.map_some,if_true,if_false,Bool.false_eq_true,Nat.zero_add,Nat.reduceAdd,Nat.sub_self,Nat.add_one_sub_one,and_self,Bool.and_self,Bool.and_true,Bool.true_and,Bool.not_true,ite_self,Nat.reduceLeDiff] | simp only [hlen])
 generalize el:loopF _ _ _=r
 refine loop_elim el (fun _ ρ=>∃x1 x2 x3 x4 x5 x6 x7:Option W,ρ=[some (.v (.lst (ns.map .int))),x1,x2,x3,x4,x5,x6,x7]∧(freeO x1=true∧freeO x2=true∧freeO x3=true∧freeO x4=true∧freeO x5=true∧freeO x6=true∧freeO x7=true)) ⟨none,none,none,none,none,none,none,rfl,rfl,rfl,rfl,rfl,rfl,rfl,rfl⟩ ?_ ?_
 ·rintro d x _ hx _ ⟨x1,x2,x3,x4,x5,x6,x7,rfl,f1,f2,f3,f4,f5,f6,f7⟩
  have hx':∃c:Int,x= .int c:=by
   rcases List.mem_cons.mp hx with rfl | hx
   ·exact ⟨0,rfl⟩
   ·obtain ⟨c,_,rfl⟩:=mem_ints hx;exact ⟨c,rfl⟩
  obtain ⟨c,rfl⟩:=hx'
  obtain ⟨m,ed⟩:=e__law_deal c
  obtain ⟨m1,n,ts,side,hp,ep⟩:=e__law_parted m
  obtain ⟨m2,ps,qs,hr,er⟩:=e__law_rows m1 n hp.n1
  obtain ⟨ds,hds,hdl,hlf,en⟩:=e__law_no_sides m2 n ts side hp
  have hn:=hp.n1
  have htl:=hp.tl
  have ho:=hp.co
  have es:=ridx_eq n.toNat (notS side)
  have ez:=lfL_ints (ridx n.toNat (notS side))
  have l1:=lf_web n ts
  have l3:=lfL_ints side
  have l4:=lf_rats ps
  have l5:=lf_rats qs
  have i1:∀i:Int,_:=fun i=>o_in_t (b:=true) (n:=i) (intsOf_map side)
  have r1:(-(2 ^ 62:Int)≤n∧n < 2 ^ 62):=by (first|lia|omega)
  generalize ridx n.toNat (notS side)=others at ho es ez
  have ok:∀x∈[D.tup (side.map .int),.tup (others.map .int)],∃so:List Int,x= .tup (so.map .int)∧Part n ts so:=by
   intro x hx
   simp only [List.mem_cons,List.not_mem_nil,or_false] at hx
   rcases hx with rfl | rfl
   ·exact ⟨side,rfl,hp⟩
   ·exact ⟨others,rfl,ho⟩
  unfold webD at ep en l1
  repeat (first | simp only [lim,aI,fV,fW,iI,iL,iK,cE,dF,dE,dD,dX,dU,dW,dJ,dL,dI,b0,cA,cB,cC,iM,g6,iB,hJ,hV,hW,fH,fI,fG,cO,cP,cQ,gU,gW,gT,eY,cW,cX,cF,cG,cH,eX,cR,cS,cU,cV,cY,cZ,dA,dB,g7,g8,gD,gH,eI,eJ,bX,bZ,bY,bL,bM,bN,fL,d9,eA,dZ,dY,eF,eN,eO,eP,dR,dS,iD,iE,gI,gM,aY,bE,bD,bI,aA,aB,aR,aQ,aP,aH,aJ,bJ,bK,iO,iP,aK,aL,Z.W.own,start0,lf,lfL,noR,frzL,List.length_cons,List.length_nil,List.map_cons,List.map_nil,List.replicate,List.nil_append,List.cons_append,List.getElem?_cons_zero,List.getElem?_cons_succ,List.set_cons_zero,List.set_cons_succ,Option.bind_some,Option.map_some,if_true,if_false,Bool.false_eq_true,Nat.zero_add,Nat.reduceAdd,Nat.sub_self,Nat.add_one_sub_one,and_self,Bool.and_self,Bool.and_true,Bool.true_and,Bool.not_true,ite_self,Nat.reduceLeDiff] | simp only [f1,f2,f3,f4,f5,f6,f7,ed,ep,er,l1,l3,l4,l5])
  rw [comp_map (ρ1:=[some (.v (.lst (ns.map .int))),some (.v (.int c)),some (.o (.lst [.int m2])),some (.v (.tup [.int n,.tup (ts.map tieD)])),some (.v (.tup (side.map .int))),some (.o (.lst [.tup (ps.map ratD),.tup (qs.map ratD)])),x6,x7]) (xs:=rngD 0 n.toNat) (fun B=>∃o1:Option D,B=[o1.map .v,some (.v (.tup (side.map .int)))]) (onI (notS side)) id]
  ·rw [es]
   repeat (first | simp only [lim,aI,fV,fW,iI,iL,iK,cE,dF,dE,dD,dX,dU,dW,dJ,dL,dI,b0,cA,cB,cC,iM,g6,iB,hJ,hV,hW,fH,fI,fG,cO,cP,cQ,gU,gW,gT,eY,cW,cX,cF,cG,cH,eX,cR,cS,cU,cV,cY,cZ,dA,dB,g7,g8,gD,gH,eI,eJ,bX,bZ,bY,bL,bM,bN,fL,d9,eA,dZ,dY,eF,eN,eO,eP,dR,dS,iD,iE,gI,gM,aY,bE,bD,bI,aA,aB,aR,aQ,aP,aH,aJ,bJ,bK,iO,iP,aK,aL,Z.W.own,start0,lf,lfL,noR,frzL,List.length_cons,List.length_nil,List.map_cons,List.map_nil,List.replicate,List.nil_append,List.cons_append,List.getElem?_cons_zero,List.getElem?_cons_succ,List.set_cons_zero,List.set_cons_succ,Option.bind_some,Option.map_some,if_true,if_false,Bool.false_eq_true,Nat.zero_add,Nat.reduceAdd,Nat.sub_self,Nat.add_one_sub_one,and_self,Bool.and_self,Bool.and_true,Bool.true_and,Bool.not_true,ite_self,Nat.reduceLeDiff] | simp only [f6])
   generalize el1:loopF _ _ _=r1
   refine loop_elim el1 (fun _ ρ=>∃x7:Option W,ρ=[some (.v (.lst (ns.map .int))),some (.v (.int c)),some (.o (.lst [.int m2])),some (.v (.tup [.int n,.tup (ts.map tieD)])),some (.v (.tup (side.map .int))),some (.o (.lst [.tup (ps.map ratD),.tup (qs.map ratD)])),some (.v (.tup (others.map .int))),x7]∧freeO x7=true) ⟨x7,rfl,f7⟩ ?_ ?_
   ·rintro _ th _ hth _ ⟨x7,rfl,f7⟩
    obtain ⟨so,rfl,hs⟩:=ok th hth
    have q1:=e_joined n ts so ps qs (cl_ints hs.sl) (by (first|lia|omega)) hs.sideB (by rw [hr.l1,hr.l2]) (by rw [hr.l1];(first|lia|omega)) hr.s1 hr.s2
    have q2:=e__law_due n so ps qs hn hr
    have q3:=e__law_alike (joinL so 0 ps qs) (by rw [joinL_len so 0 ps qs (by rw [hr.l1,hr.l2]),hr.l1];(first|lia|omega))
    unfold webD at q1
    have l6:=lf_rats (joinL so 0 ps qs)
    refine ⟨_,?_,some (.v (.tup (so.map .int))),rfl,rfl⟩
    repeat (first | simp only [lim,aI,fV,fW,iI,iL,iK,cE,dF,dE,dD,dX,dU,dW,dJ,dL,dI,b0,cA,cB,cC,iM,g6,iB,hJ,hV,hW,fH,fI,fG,cO,cP,cQ,gU,gW,gT,eY,cW,cX,cF,cG,cH,eX,cR,cS,cU,cV,cY,cZ,dA,dB,g7,g8,gD,gH,eI,eJ,bX,bZ,bY,bL,bM,bN,fL,d9,eA,dZ,dY,eF,eN,eO,eP,dR,dS,iD,iE,gI,gM,aY,bE,bD,bI,aA,aB,aR,aQ,aP,aH,aJ,bJ,bK,iO,iP,aK,aL,Z.W.own,start0,lf,lfL,noR,frzL,List.length_cons,List.length_nil,List.map_cons,List.map_nil,List.replicate,List.nil_append,List.cons_append,List.getElem?_cons_zero,List.getElem?_cons_succ,List.set_cons_zero,List.set_cons_succ,Option.bind_some,Option.map_some,if_true,if_false,Bool.false_eq_true,Nat.zero_add,Nat.reduceAdd,Nat.sub_self,Nat.add_one_sub_one,and_self,Bool.and_self,Bool.and_true,Bool.true_and,Bool.not_true,ite_self,Nat.reduceLeDiff] | simp only [f7,q1,q2,q3,l6])
   ·rintro _ rfl ⟨x7,rfl,f7⟩
    repeat (first | simp only [lim,aI,fV,fW,iI,iL,iK,cE,dF,dE,dD,dX,dU,dW,dJ,dL,dI,b0,cA,cB,cC,iM,g6,iB,hJ,hV,hW,fH,fI,fG,cO,cP,cQ,gU,gW,gT,eY,cW,cX,cF,cG,cH,eX,cR,cS,cU,cV,cY,cZ,dA,dB,g7,g8,gD,gH,eI,eJ,bX,bZ,bY,bL,bM,bN,fL,d9,eA,dZ,dY,eF,eN,eO,eP,dR,dS,iD,iE,gI,gM,aY,bE,bD,bI,aA,aB,aR,aQ,aP,aH,aJ,bJ,bK,iO,iP,aK,aL,Z.W.own,start0,lf,lfL,noR,frzL,List.length_cons,List.length_nil,List.map_cons,List.map_nil,List.replicate,List.nil_append,List.cons_append,List.getElem?_cons_zero,List.getElem?_cons_succ,List.set_cons_zero,List.set_cons_succ,Option.bind_some,Option.map_some,if_true,if_false,Bool.false_eq_true,Nat.zero_add,Nat.reduceAdd,Nat.sub_self,Nat.add_one_sub_one,and_self,Bool.and_self,Bool.and_true,Bool.true_and,Bool.not_true,ite_self,Nat.reduceLeDiff] | simp only [en,hlf])
    rw [comp_map (ρ1:=[some (.v (.lst (ns.map .int))),some (.v (.int c)),some (.v (.lst [.int m2])),some (.v (.tup [.int n,.tup (ts.map tieD)])),some (.v (.tup (side.map .int))),some (.o (.lst [.tup (ps.map ratD),.tup (qs.map ratD)])),some (.v (.tup (others.map .int))),x7]) (xs:=ds) (fun B=>∃o1:Option D,B=[o1.map .v,some (.v (.tup [.int n,.tup (ts.map tieD)])),some (.v (.lst [.tup (ps.map ratD),.tup (qs.map ratD)]))]) (fun _=>true) (fun _=>.bl true)]
    ·rw [filter_tt]
     have gb:=gB_lst (r:=fun bs=>bs.all id) (boolsOf_fun (fun _=>true) ds)
     rw [all_map_id,show (ds.all fun _=>true)=true by simp] at gb
     repeat (first | simp only [lim,aI,fV,fW,iI,iL,iK,cE,dF,dE,dD,dX,dU,dW,dJ,dL,dI,b0,cA,cB,cC,iM,g6,iB,hJ,hV,hW,fH,fI,fG,cO,cP,cQ,gU,gW,gT,eY,cW,cX,cF,cG,cH,eX,cR,cS,cU,cV,cY,cZ,dA,dB,g7,g8,gD,gH,eI,eJ,bX,bZ,bY,bL,bM,bN,fL,d9,eA,dZ,dY,eF,eN,eO,eP,dR,dS,iD,iE,gI,gM,aY,bE,bD,bI,aA,aB,aR,aQ,aP,aH,aJ,bJ,bK,iO,iP,aK,aL,Z.W.own,start0,lf,lfL,noR,frzL,List.length_cons,List.length_nil,List.map_cons,List.map_nil,List.replicate,List.nil_append,List.cons_append,List.getElem?_cons_zero,List.getElem?_cons_succ,List.set_cons_zero,List.set_cons_succ,Option.bind_some,Option.map_some,if_true,if_false,Bool.false_eq_true,Nat.zero_add,Nat.reduceAdd,Nat.sub_self,Nat.add_one_sub_one,and_self,Bool.and_self,Bool.and_true,Bool.true_and,Bool.not_true,ite_self,Nat.reduceLeDiff] | simp only [gb])
     exact ⟨_,rfl,_,_,_,_,_,_,_,rfl,rfl,rfl,rfl,rfl,rfl,rfl,f7⟩
    ·repeat (first | simp only [lim,aI,fV,fW,iI,iL,iK,cE,dF,dE,dD,dX,dU,dW,dJ,dL,dI,b0,cA,cB,cC,iM,g6,iB,hJ,hV,hW,fH,fI,fG,cO,cP,cQ,gU,gW,gT,eY,cW,cX,cF,cG,cH,eX,cR,cS,cU,cV,cY,cZ,dA,dB,g7,g8,gD,gH,eI,eJ,bX,bZ,bY,bL,bM,bN,fL,d9,eA,dZ,dY,eF,eN,eO,eP,dR,dS,iD,iE,gI,gM,aY,bE,bD,bI,aA,aB,aR,aQ,aP,aH,aJ,bJ,bK,iO,iP,aK,aL,Z.W.own,start0,lf,lfL,noR,frzL,List.length_cons,List.length_nil,List.map_cons,List.map_nil,List.replicate,List.nil_append,List.cons_append,List.getElem?_cons_zero,List.getElem?_cons_succ,List.set_cons_zero,List.set_cons_succ,Option.bind_some,Option.map_some,if_true,if_false,Bool.false_eq_true,Nat.zero_add,Nat.reduceAdd,Nat.sub_self,Nat.add_one_sub_one,and_self,Bool.and_self,Bool.and_true,Bool.true_and,Bool.not_true,ite_self,Nat.reduceLeDiff] | simp only [en,hlf])
    ·rintro _ ⟨_,rfl⟩;rfl
    ·exact ⟨none,rfl⟩
    ·unfold lim;(first|lia|omega)
    ·exact lfL_bl _ _
    ·rintro x hx _ zs ⟨o1,rfl⟩
     have q:=e__law_refused n ts x (.tup (ps.map ratD)) (.tup (qs.map ratD)) (hds x hx).1 (by (first|lia|omega)) (hds x hx).2
     unfold webD at q
     refine ⟨[some (.v x),some (.v (.tup [.int n,.tup (ts.map tieD)])),some (.v (.lst [.tup (ps.map ratD),.tup (qs.map ratD)]))],.v (.bl true),⟨some _,rfl⟩,?_,rfl,fun _=>⟨?_,.inl rfl⟩⟩
     ·repeat (simp only [lim,aI,fV,fW,iI,iL,iK,cE,dF,dE,dD,dX,dU,dW,dJ,dL,dI,b0,cA,cB,cC,iM,g6,iB,hJ,hV,hW,fH,fI,fG,cO,cP,cQ,gU,gW,gT,eY,cW,cX,cF,cG,cH,eX,cR,cS,cU,cV,cY,cZ,dA,dB,g7,g8,gD,gH,eI,eJ,bX,bZ,bY,bL,bM,bN,fL,d9,eA,dZ,dY,eF,eN,eO,eP,dR,dS,iD,iE,gI,gM,aY,bE,bD,bI,aA,aB,aR,aQ,aP,aH,aJ,bJ,bK,iO,iP,aK,aL,Z.W.own,start0,lf,lfL,noR,frzL,List.length_cons,List.length_nil,List.map_cons,List.map_nil,List.replicate,List.nil_append,List.cons_append,List.getElem?_cons_zero,List.getElem?_cons_succ,List.set_cons_zero,List.set_cons_succ,Option.bind_some,Option.map_some,if_true,if_false,Bool.false_eq_true,Nat.zero_add,Nat.reduceAdd,Nat.sub_self,Nat.add_one_sub_one,and_self,Bool.and_self,Bool.and_true,Bool.true_and,Bool.not_true,ite_self,Nat.reduceLeDiff])
     ·repeat (first | simp only [lim,aI,fV,fW,iI,iL,iK,cE,dF,dE,dD,dX,dU,dW,dJ,dL,dI,b0,cA,cB,cC,iM,g6,iB,hJ,hV,hW,fH,fI,fG,cO,cP,cQ,gU,gW,gT,eY,cW,cX,cF,cG,cH,eX,cR,cS,cU,cV,cY,cZ,dA,dB,g7,g8,gD,gH,eI,eJ,bX,bZ,bY,bL,bM,bN,fL,d9,eA,dZ,dY,eF,eN,eO,eP,dR,dS,iD,iE,gI,gM,aY,bE,bD,bI,aA,aB,aR,aQ,aP,aH,aJ,bJ,bK,iO,iP,aK,aL,Z.W.own,start0,lf,lfL,noR,frzL,List.length_cons,List.length_nil,List.map_cons,List.map_nil,List.replicate,List.nil_append,List.cons_append,List.getElem?_cons_zero,List.getElem?_cons_succ,List.set_cons_zero,List.set_cons_succ,Option.bind_some,Option.map_some,if_true,if_false,Bool.false_eq_true,Nat.zero_add,Nat.reduceAdd,Nat.sub_self,Nat.add_one_sub_one,and_self,Bool.and_self,Bool.and_true,Bool.true_and,Bool.not_true,ite_self,Nat.reduceLeDiff] | simp only [q])
  ·repeat (first | simp only [lim,aI,fV,fW,iI,iL,iK,cE,dF,dE,dD,dX,dU,dW,dJ,dL,dI,b0,cA,cB,cC,iM,g6,iB,hJ,hV,hW,fH,fI,fG,cO,cP,cQ,gU,gW,gT,eY,cW,cX,cF,cG,cH,eX,cR,cS,cU,cV,cY,cZ,dA,dB,g7,g8,gD,gH,eI,eJ,bX,bZ,bY,bL,bM,bN,fL,d9,eA,dZ,dY,eF,eN,eO,eP,dR,dS,iD,iE,gI,gM,aY,bE,bD,bI,aA,aB,aR,aQ,aP,aH,aJ,bJ,bK,iO,iP,aK,aL,Z.W.own,start0,lf,lfL,noR,frzL,List.length_cons,List.length_nil,List.map_cons,List.map_nil,List.replicate,List.nil_append,List.cons_append,List.getElem?_cons_zero,List.getElem?_cons_succ,List.set_cons_zero,List.set_cons_succ,Option.bind_some,Option.map_some,if_true,if_false,Bool.false_eq_true,Nat.zero_add,Nat.reduceAdd,Nat.sub_self,Nat.add_one_sub_one,and_self,Bool.and_self,Bool.and_true,Bool.true_and,Bool.not_true,ite_self,Nat.reduceLeDiff] | simp only [r1])
  ·rintro _ ⟨_,rfl⟩;rfl
  ·exact ⟨none,rfl⟩
  ·rw [len_rng];unfold lim;(first|lia|omega)
  ·rw [es];exact ez
  ·rintro x hx _ zs ⟨o1,rfl⟩
   obtain ⟨i,rfl,q1,q2⟩:=mem_rng hx
   have j1:=i1 i
   refine ⟨[some (.v (.int i)),some (.v (.tup (side.map .int)))],.v (.int i),⟨some _,rfl⟩,?_,?_,fun _=>⟨?_,.inl rfl⟩⟩
   ·repeat (simp only [lim,aI,fV,fW,iI,iL,iK,cE,dF,dE,dD,dX,dU,dW,dJ,dL,dI,b0,cA,cB,cC,iM,g6,iB,hJ,hV,hW,fH,fI,fG,cO,cP,cQ,gU,gW,gT,eY,cW,cX,cF,cG,cH,eX,cR,cS,cU,cV,cY,cZ,dA,dB,g7,g8,gD,gH,eI,eJ,bX,bZ,bY,bL,bM,bN,fL,d9,eA,dZ,dY,eF,eN,eO,eP,dR,dS,iD,iE,gI,gM,aY,bE,bD,bI,aA,aB,aR,aQ,aP,aH,aJ,bJ,bK,iO,iP,aK,aL,Z.W.own,start0,lf,lfL,noR,frzL,List.length_cons,List.length_nil,List.map_cons,List.map_nil,List.replicate,List.nil_append,List.cons_append,List.getElem?_cons_zero,List.getElem?_cons_succ,List.set_cons_zero,List.set_cons_succ,Option.bind_some,Option.map_some,if_true,if_false,Bool.false_eq_true,Nat.zero_add,Nat.reduceAdd,Nat.sub_self,Nat.add_one_sub_one,and_self,Bool.and_self,Bool.and_true,Bool.true_and,Bool.not_true,ite_self,Nat.reduceLeDiff])
   ·repeat (first | simp only [lim,aI,fV,fW,iI,iL,iK,cE,dF,dE,dD,dX,dU,dW,dJ,dL,dI,b0,cA,cB,cC,iM,g6,iB,hJ,hV,hW,fH,fI,fG,cO,cP,cQ,gU,gW,gT,eY,cW,cX,cF,cG,cH,eX,cR,cS,cU,cV,cY,cZ,dA,dB,g7,g8,gD,gH,eI,eJ,bX,bZ,bY,bL,bM,bN,fL,d9,eA,dZ,dY,eF,eN,eO,eP,dR,dS,iD,iE,gI,gM,aY,bE,bD,bI,aA,aB,aR,aQ,aP,aH,aJ,bJ,bK,iO,iP,aK,aL,Z.W.own,start0,lf,lfL,noR,frzL,List.length_cons,List.length_nil,List.map_cons,List.map_nil,List.replicate,List.nil_append,List.cons_append,List.getElem?_cons_zero,List.getElem?_cons_succ,List.set_cons_zero,List.set_cons_succ,Option.bind_some,Option.map_some,if_true,if_false,Bool.false_eq_true,Nat.zero_add,Nat.reduceAdd,Nat.sub_self,Nat.add_one_sub_one,and_self,Bool.and_self,Bool.and_true,Bool.true_and,Bool.not_true,ite_self,Nat.reduceLeDiff] | simp only [j1,onI,notS])
   ·repeat (simp only [lim,aI,fV,fW,iI,iL,iK,cE,dF,dE,dD,dX,dU,dW,dJ,dL,dI,b0,cA,cB,cC,iM,g6,iB,hJ,hV,hW,fH,fI,fG,cO,cP,cQ,gU,gW,gT,eY,cW,cX,cF,cG,cH,eX,cR,cS,cU,cV,cY,cZ,dA,dB,g7,g8,gD,gH,eI,eJ,bX,bZ,bY,bL,bM,bN,fL,d9,eA,dZ,dY,eF,eN,eO,eP,dR,dS,iD,iE,gI,gM,aY,bE,bD,bI,aA,aB,aR,aQ,aP,aH,aJ,bJ,bK,iO,iP,aK,aL,Z.W.own,start0,lf,lfL,noR,frzL,List.length_cons,List.length_nil,List.map_cons,List.map_nil,List.replicate,List.nil_append,List.cons_append,List.getElem?_cons_zero,List.getElem?_cons_succ,List.set_cons_zero,List.set_cons_succ,Option.bind_some,Option.map_some,if_true,if_false,Bool.false_eq_true,Nat.zero_add,Nat.reduceAdd,Nat.sub_self,Nat.add_one_sub_one,and_self,Bool.and_self,Bool.and_true,Bool.true_and,Bool.not_true,ite_self,Nat.reduceLeDiff])
 ·rintro _ rfl ⟨x1,x2,x3,x4,x5,x6,x7,rfl,_⟩
  repeat (first | simp only [lim,aI,fV,fW,iI,iL,iK,cE,dF,dE,dD,dX,dU,dW,dJ,dL,dI,b0,cA,cB,cC,iM,g6,iB,hJ,hV,hW,fH,fI,fG,cO,cP,cQ,gU,gW,gT,eY,cW,cX,cF,cG,cH,eX,cR,cS,cU,cV,cY,cZ,dA,dB,g7,g8,gD,gH,eI,eJ,bX,bZ,bY,bL,bM,bN,fL,d9,eA,dZ,dY,eF,eN,eO,eP,dR,dS,iD,iE,gI,gM,aY,bE,bD,bI,aA,aB,aR,aQ,aP,aH,aJ,bJ,bK,iO,iP,aK,aL,Z.W.own,start0,lf,lfL,noR,frzL,List.length_cons,List.length_nil,List.map_cons,List.map_nil,List.replicate,List.nil_append,List.cons_append,List.getElem?_cons_zero,List.getElem?_cons_succ,List.set_cons_zero,List.set_cons_succ,Option.bind_some,Option.map_some,if_true,if_false,Bool.false_eq_true,Nat.zero_add,Nat.reduceAdd,Nat.sub_self,Nat.add_one_sub_one,and_self,Bool.and_self,Bool.and_true,Bool.true_and,Bool.not_true,ite_self,Nat.reduceLeDiff])
end
end Q67
namespace Q67
open PySem PySem.Spec PyProof.Rows L2 Z
theorem all_mk {l:PySem.W.OpenLaw}{w:World}{K:PySem.W.Frag}{h:Heap}{mg:Str→Option Value}{fa f1 f2 f3 f4 f5 f6 f7 f8 f9 f10 f11 f12 f13 f14 f15 f16 f17 f18 f19 f20 f21 f22:Addr}(X:K.In h)(G:h.Ns mainGlobals mg)(hfa:mg "law"=some (.ref fa))
  {od1 an1 od2 an2 od3 an3 od4 an4 od5 an5 od6 an6 od7 an7 od8 an8 od9 an9 od10 an10 od11 an11 od12 an12 od13 an13 od14 an14 od15 an15 od16 an16 od17 an17 od18 an18 od19 an19 od20 an20 od21 an21 od22 an22:Option Addr} {sl1 sl2 sl3 sl4 sl5 sl6 sl7 sl8 sl9 sl10 sl11 sl12 sl13 sl14 sl15 sl16 sl17 sl18 sl19 sl20 sl21 sl22:Array (Option Value)} {oc1 kV1 dc1 pm1 cd1 ct1 oc2 kV2 dc2 pm2 cd2 ct2 oc3 kV3 dc3 pm3 cd3 ct3 oc4 kV4 dc4 pm4 cd4 ct4 oc5 kV5 dc5 pm5 cd5 ct5 oc6 kV6 dc6 pm6 cd6 ct6 oc7 kV7 dc7 pm7 cd7 ct7 oc8 kV8 dc8 pm8 cd8 ct8 oc9 kV9 dc9 pm9 cd9 ct9 oc10 kV10 dc10 pm10 cd10 ct10 oc11 kV11 dc11 pm11 cd11 ct11 oc12 kV12 dc12 pm12 cd12 ct12 oc13 kV13 dc13 pm13 cd13 ct13 oc14 kV14 dc14 pm14 cd14 ct14 oc15 kV15 dc15 pm15 cd15 ct15 oc16 kV16 dc16 pm16 cd16 ct16 oc17 kV17 dc17 pm17 cd17 ct17 oc18 kV18 dc18 pm18 cd18 ct18 oc19 kV19 dc19 pm19 cd19 ct19 oc20 kV20 dc20 pm20 cd20 ct20 oc21 kV21 dc21 pm21 cd21 ct21 oc22 kV22 dc22 pm22 cd22 ct22:Value}
  (a1:PySem.W.nsIn K mainGlobals "_law_mixed"=some (some (.ref f1))) (l1:K.lookup f1=some ⟨oc1,od1,.func (PySem.W.fnOf "_law_mixed" "_law_mixed" (defArgs s__law_mixed) (defBody s__law_mixed) (defScope s__law_mixed) .none kV1 dc1 pm1 an1 cd1 ct1),sl1⟩) (c1:PySem.W.codeIn K cd1 "_law_mixed"=true) (k1:PySem.W.keepIn K (.ref f1)=true)
  (a2:PySem.W.nsIn K mainGlobals "_law_deal"=some (some (.ref f2))) (l2:K.lookup f2=some ⟨oc2,od2,.func (PySem.W.fnOf "_law_deal" "_law_deal" (defArgs s__law_deal) (defBody s__law_deal) (defScope s__law_deal) .none kV2 dc2 pm2 an2 cd2 ct2),sl2⟩) (c2:PySem.W.codeIn K cd2 "_law_deal"=true) (k2:PySem.W.keepIn K (.ref f2)=true)
  (a3:PySem.W.nsIn K mainGlobals "_law_next"=some (some (.ref f3))) (l3:K.lookup f3=some ⟨oc3,od3,.func (PySem.W.fnOf "_law_next" "_law_next" (defArgs s__law_next) (defBody s__law_next) (defScope s__law_next) .none kV3 dc3 pm3 an3 cd3 ct3),sl3⟩) (c3:PySem.W.codeIn K cd3 "_law_next"=true) (k3:PySem.W.keepIn K (.ref f3)=true)
  (a4:PySem.W.nsIn K mainGlobals "_law_tie"=some (some (.ref f4))) (l4:K.lookup f4=some ⟨oc4,od4,.func (PySem.W.fnOf "_law_tie" "_law_tie" (defArgs s__law_tie) (defBody s__law_tie) (defScope s__law_tie) .none kV4 dc4 pm4 an4 cd4 ct4),sl4⟩) (c4:PySem.W.codeIn K cd4 "_law_tie"=true) (k4:PySem.W.keepIn K (.ref f4)=true)
  (a5:PySem.W.nsIn K mainGlobals "_law_parted"=some (some (.ref f5))) (l5:K.lookup f5=some ⟨oc5,od5,.func (PySem.W.fnOf "_law_parted" "_law_parted" (defArgs s__law_parted) (defBody s__law_parted) (defScope s__law_parted) .none kV5 dc5 pm5 an5 cd5 ct5),sl5⟩) (c5:PySem.W.codeIn K cd5 "_law_parted"=true) (k5:PySem.W.keepIn K (.ref f5)=true)
  (a6:PySem.W.nsIn K mainGlobals "common_divisor"=some (some (.ref f6))) (l6:K.lookup f6=some ⟨oc6,od6,.func (PySem.W.fnOf "common_divisor" "common_divisor" (defArgs s_common_divisor) (defBody s_common_divisor) (defScope s_common_divisor) .none kV6 dc6 pm6 an6 cd6 ct6),sl6⟩) (c6:PySem.W.codeIn K cd6 "common_divisor"=true) (k6:PySem.W.keepIn K (.ref f6)=true)
  (a7:PySem.W.nsIn K mainGlobals "ratio"=some (some (.ref f7))) (l7:K.lookup f7=some ⟨oc7,od7,.func (PySem.W.fnOf "ratio" "ratio" (defArgs s_ratio) (defBody s_ratio) (defScope s_ratio) .none kV7 dc7 pm7 an7 cd7 ct7),sl7⟩) (c7:PySem.W.codeIn K cd7 "ratio"=true) (k7:PySem.W.keepIn K (.ref f7)=true)
  (a8:PySem.W.nsIn K mainGlobals "_law_ratio"=some (some (.ref f8))) (l8:K.lookup f8=some ⟨oc8,od8,.func (PySem.W.fnOf "_law_ratio" "_law_ratio" (defArgs s__law_ratio) (defBody s__law_ratio) (defScope s__law_ratio) .none kV8 dc8 pm8 an8 cd8 ct8),sl8⟩) (c8:PySem.W.codeIn K cd8 "_law_ratio"=true) (k8:PySem.W.keepIn K (.ref f8)=true)
  (a9:PySem.W.nsIn K mainGlobals "_law_rows"=some (some (.ref f9))) (l9:K.lookup f9=some ⟨oc9,od9,.func (PySem.W.fnOf "_law_rows" "_law_rows" (defArgs s__law_rows) (defBody s__law_rows) (defScope s__law_rows) .none kV9 dc9 pm9 an9 cd9 ct9),sl9⟩) (c9:PySem.W.codeIn K cd9 "_law_rows"=true) (k9:PySem.W.keepIn K (.ref f9)=true)
  (a10:PySem.W.nsIn K mainGlobals "_law_whole"=some (some (.ref f10))) (l10:K.lookup f10=some ⟨oc10,od10,.func (PySem.W.fnOf "_law_whole" "_law_whole" (defArgs s__law_whole) (defBody s__law_whole) (defScope s__law_whole) .none kV10 dc10 pm10 an10 cd10 ct10),sl10⟩) (c10:PySem.W.codeIn K cd10 "_law_whole"=true) (k10:PySem.W.keepIn K (.ref f10)=true)
  (a11:PySem.W.nsIn K mainGlobals "_law_alike"=some (some (.ref f11))) (l11:K.lookup f11=some ⟨oc11,od11,.func (PySem.W.fnOf "_law_alike" "_law_alike" (defArgs s__law_alike) (defBody s__law_alike) (defScope s__law_alike) .none kV11 dc11 pm11 an11 cd11 ct11),sl11⟩) (c11:PySem.W.codeIn K cd11 "_law_alike"=true) (k11:PySem.W.keepIn K (.ref f11)=true)
  (a12:PySem.W.nsIn K mainGlobals "is_rising"=some (some (.ref f12))) (l12:K.lookup f12=some ⟨oc12,od12,.func (PySem.W.fnOf "is_rising" "is_rising" (defArgs s_is_rising) (defBody s_is_rising) (defScope s_is_rising) .none kV12 dc12 pm12 an12 cd12 ct12),sl12⟩) (c12:PySem.W.codeIn K cd12 "is_rising"=true) (k12:PySem.W.keepIn K (.ref f12)=true)
  (a13:PySem.W.nsIn K mainGlobals "is_whole"=some (some (.ref f13))) (l13:K.lookup f13=some ⟨oc13,od13,.func (PySem.W.fnOf "is_whole" "is_whole" (defArgs s_is_whole) (defBody s_is_whole) (defScope s_is_whole) .none kV13 dc13 pm13 an13 cd13 ct13),sl13⟩) (c13:PySem.W.codeIn K cd13 "is_whole"=true) (k13:PySem.W.keepIn K (.ref f13)=true)
  (a14:PySem.W.nsIn K mainGlobals "is_person"=some (some (.ref f14))) (l14:K.lookup f14=some ⟨oc14,od14,.func (PySem.W.fnOf "is_person" "is_person" (defArgs s_is_person) (defBody s_is_person) (defScope s_is_person) .none kV14 dc14 pm14 an14 cd14 ct14),sl14⟩) (c14:PySem.W.codeIn K cd14 "is_person"=true) (k14:PySem.W.keepIn K (.ref f14)=true)
  (a15:PySem.W.nsIn K mainGlobals "is_side"=some (some (.ref f15))) (l15:K.lookup f15=some ⟨oc15,od15,.func (PySem.W.fnOf "is_side" "is_side" (defArgs s_is_side) (defBody s_is_side) (defScope s_is_side) .none kV15 dc15 pm15 an15 cd15 ct15),sl15⟩) (c15:PySem.W.codeIn K cd15 "is_side"=true) (k15:PySem.W.keepIn K (.ref f15)=true)
  (a16:PySem.W.nsIn K mainGlobals "must_be_side"=some (some (.ref f16))) (l16:K.lookup f16=some ⟨oc16,od16,.func (PySem.W.fnOf "must_be_side" "must_be_side" (defArgs s_must_be_side) (defBody s_must_be_side) (defScope s_must_be_side) .none kV16 dc16 pm16 an16 cd16 ct16),sl16⟩) (c16:PySem.W.codeIn K cd16 "must_be_side"=true) (k16:PySem.W.keepIn K (.ref f16)=true)
  (a17:PySem.W.nsIn K mainGlobals "less"=some (some (.ref f17))) (l17:K.lookup f17=some ⟨oc17,od17,.func (PySem.W.fnOf "less" "less" (defArgs s_less) (defBody s_less) (defScope s_less) .none kV17 dc17 pm17 an17 cd17 ct17),sl17⟩) (c17:PySem.W.codeIn K cd17 "less"=true) (k17:PySem.W.keepIn K (.ref f17)=true)
  (a18:PySem.W.nsIn K mainGlobals "joined"=some (some (.ref f18))) (l18:K.lookup f18=some ⟨oc18,od18,.func (PySem.W.fnOf "joined" "joined" (defArgs s_joined) (defBody s_joined) (defScope s_joined) .none kV18 dc18 pm18 an18 cd18 ct18),sl18⟩) (c18:PySem.W.codeIn K cd18 "joined"=true) (k18:PySem.W.keepIn K (.ref f18)=true)
  (a19:PySem.W.nsIn K mainGlobals "_law_due"=some (some (.ref f19))) (l19:K.lookup f19=some ⟨oc19,od19,.func (PySem.W.fnOf "_law_due" "_law_due" (defArgs s__law_due) (defBody s__law_due) (defScope s__law_due) .none kV19 dc19 pm19 an19 cd19 ct19),sl19⟩) (c19:PySem.W.codeIn K cd19 "_law_due"=true) (k19:PySem.W.keepIn K (.ref f19)=true)
  (a20:PySem.W.nsIn K mainGlobals "_law_refused"=some (some (.ref f20))) (l20:K.lookup f20=some ⟨oc20,od20,.func (PySem.W.fnOf "_law_refused" "_law_refused" (defArgs s__law_refused) (defBody s__law_refused) (defScope s__law_refused) .none kV20 dc20 pm20 an20 cd20 ct20),sl20⟩) (c20:PySem.W.codeIn K cd20 "_law_refused"=true) (k20:PySem.W.keepIn K (.ref f20)=true)
  (a21:PySem.W.nsIn K mainGlobals "_law_no_sides"=some (some (.ref f21))) (l21:K.lookup f21=some ⟨oc21,od21,.func (PySem.W.fnOf "_law_no_sides" "_law_no_sides" (defArgs s__law_no_sides) (defBody s__law_no_sides) (defScope s__law_no_sides) .none kV21 dc21 pm21 an21 cd21 ct21),sl21⟩) (c21:PySem.W.codeIn K cd21 "_law_no_sides"=true) (k21:PySem.W.keepIn K (.ref f21)=true)
  (a22:PySem.W.nsIn K mainGlobals "law"=some (some (.ref f22))) (l22:K.lookup f22=some ⟨oc22,od22,.func (PySem.W.fnOf "law" "law" (defArgs s_law) (defBody s_law) (defScope s_law) .none kV22 dc22 pm22 an22 cd22 ct22),sl22⟩) (c22:PySem.W.codeIn K cd22 "law"=true) (k22:PySem.W.keepIn K (.ref f22)=true)
   {uTwainError uAlone uBarred uLoose uNoDeed uNoParty uNoPerson uNoRatio uNoRow uNoText uNoWeb uNothingDone uTwice uNoSides:Addr}(y1:PySem.W.nsIn K mainGlobals "range"=some none) (y2:PySem.W.nsIn K mainGlobals "divmod"=some none) (y3:PySem.W.nsIn K mainGlobals "tuple"=some none) (y4:PySem.W.nsIn K mainGlobals "abs"=some none) (y5:PySem.W.nsIn K mainGlobals "int"=some none) (y6:PySem.W.nsIn K mainGlobals "isinstance"=some none) (y7:PySem.W.nsIn K mainGlobals "bool"=some none) (y8:PySem.W.nsIn K mainGlobals "all"=some none) (y9:PySem.W.nsIn K mainGlobals "zip"=some none) (y10:PySem.W.nsIn K mainGlobals "enumerate"=some none) (y11:PySem.W.nsIn K mainGlobals "ValueError"=some none) (y12:PySem.W.nsIn K mainGlobals "list"=some none) (y13:PySem.W.nsIn K mainGlobals "sorted"=some none) (y14:PySem.W.nsIn K mainGlobals "set"=some none) (x1:PySem.W.nsIn K mainGlobals "TwainError"=some (some (.ref uTwainError))) (x2:PySem.W.nsIn K mainGlobals "Alone"=some (some (.ref uAlone))) (x3:PySem.W.nsIn K mainGlobals "Barred"=some (some (.ref uBarred))) (x4:PySem.W.nsIn K mainGlobals "Loose"=some (some (.ref uLoose))) (x5:PySem.W.nsIn K mainGlobals "NoDeed"=some (some (.ref uNoDeed))) (x6:PySem.W.nsIn K mainGlobals "NoParty"=some (some (.ref uNoParty))) (x7:PySem.W.nsIn K mainGlobals "NoPerson"=some (some (.ref uNoPerson))) (x8:PySem.W.nsIn K mainGlobals "NoRatio"=some (some (.ref uNoRatio))) (x9:PySem.W.nsIn K mainGlobals "NoRow"=some (some (.ref uNoRow))) (x10:PySem.W.nsIn K mainGlobals "NoText"=some (some (.ref uNoText))) (x11:PySem.W.nsIn K mainGlobals "NoWeb"=some (some (.ref uNoWeb))) (x12:PySem.W.nsIn K mainGlobals "NothingDone"=some (some (.ref uNothingDone))) (x13:PySem.W.nsIn K mainGlobals "Twice"=some (some (.ref uTwice))) (x14:PySem.W.nsIn K mainGlobals "NoSides"=some (some (.ref uNoSides))) (x15:PySem.W.excIn K uNoSides bmV nwV=true) (x16:PySem.W.kitAny K (.ref uNoSides) [.ref uAlone,.ref uBarred,.ref uLoose,.ref uNoDeed,.ref uNoParty,.ref uNoPerson]=some false) (x17:PySem.W.kitAny K (.ref uNoSides) [.ref uNoRatio,.ref uNoRow,.ref uNoText,.ref uNoWeb,.ref uNothingDone,.ref uTwice]=some false) (x18:PySem.W.kitOne K (.ref uNoSides) (.ref uNoSides)=some true) (x19:PySem.W.kitOne K (.ref uNoSides) (.type "ValueError")=some true) (x20:PySem.W.exmOne K (.ref uNoSides) (.ref uTwainError)=some true) (x21:PySem.W.mroIn K uNoSides (.type "object")=some true) (x22:PySem.W.mroIn K uNoSides (.type "BaseException")=some true) (x23:PySem.W.findIn K (.ref uNoSides) "__class__"=some (some (.builtin "object.__class__"))) (x24:PySem.W.findIn K (.ref uNoSides) "__getattribute__"=some (some (.builtin "BaseException.__getattribute__"))) (x25:PySem.W.findIn K (.ref uNoSides) "__getattr__"=some none):
  ∃fd:FuncData,(∀(s:Shared) (v:Value),BindsTo s fd ⟨[v],[]⟩ [("script",v)])∧∀base:Heap,K.In base→base.Ns mainGlobals mg→FnOk l.prog w K mg base CX0 60 fa fd ["script"] (spLaw K):=by
 cases hfa.symm.trans (PySem.W.mg_of X G a22)
 have F1:=fun_mk (st:=s__law_mixed) l1 c1 k1
 have b1:=F1.binds (ps:=["cell","k"]) fun _ _ _ _ _ _ us hl=>us2 hl fun _ _=>rfl
 have m1:=PySem.W.mg_of X G a1
 have F2:=fun_mk (st:=s__law_deal) l2 c2 k2
 have b2:=F2.binds (ps:=["cell"]) fun _ _ _ _ _ _ us hl=>us1 hl fun _=>rfl
 have m2:=PySem.W.mg_of X G a2
 have F3:=fun_mk (st:=s__law_next) l3 c3 k3
 have b3:=F3.binds (ps:=["left","many"]) fun _ _ _ _ _ _ us hl=>us2 hl fun _ _=>rfl
 have m3:=PySem.W.mg_of X G a3
 have F4:=fun_mk (st:=s__law_tie) l4 c4 k4
 have b4:=F4.binds (ps:=["left","a","b","kind"]) fun _ _ _ _ _ _ us hl=>us4 hl fun _ _ _ _=>rfl
 have m4:=PySem.W.mg_of X G a4
 have F5:=fun_mk (st:=s__law_parted) l5 c5 k5
 have b5:=F5.binds (ps:=["left"]) fun _ _ _ _ _ _ us hl=>us1 hl fun _=>rfl
 have m5:=PySem.W.mg_of X G a5
 have F6:=fun_mk (st:=s_common_divisor) l6 c6 k6
 have b6:=F6.binds (ps:=["one","other"]) fun _ _ _ _ _ _ us hl=>us2 hl fun _ _=>rfl
 have m6:=PySem.W.mg_of X G a6
 have F7:=fun_mk (st:=s_ratio) l7 c7 k7
 have b7:=F7.binds (ps:=["top","bottom"]) fun _ _ _ _ _ _ us hl=>us2 hl fun _ _=>rfl
 have m7:=PySem.W.mg_of X G a7
 have F8:=fun_mk (st:=s__law_ratio) l8 c8 k8
 have b8:=F8.binds (ps:=["left"]) fun _ _ _ _ _ _ us hl=>us1 hl fun _=>rfl
 have m8:=PySem.W.mg_of X G a8
 have F9:=fun_mk (st:=s__law_rows) l9 c9 k9
 have b9:=F9.binds (ps:=["left","many"]) fun _ _ _ _ _ _ us hl=>us2 hl fun _ _=>rfl
 have m9:=PySem.W.mg_of X G a9
 have F10:=fun_mk (st:=s__law_whole) l10 c10 k10
 have b10:=F10.binds (ps:=["found"]) fun _ _ _ _ _ _ us hl=>us1 hl fun _=>rfl
 have m10:=PySem.W.mg_of X G a10
 have F11:=fun_mk (st:=s__law_alike) l11 c11 k11
 have b11:=F11.binds (ps:=["found","due"]) fun _ _ _ _ _ _ us hl=>us2 hl fun _ _=>rfl
 have m11:=PySem.W.mg_of X G a11
 have F12:=fun_mk (st:=s_is_rising) l12 c12 k12
 have b12:=F12.binds (ps:=["row"]) fun _ _ _ _ _ _ us hl=>us1 hl fun _=>rfl
 have m12:=PySem.W.mg_of X G a12
 have F13:=fun_mk (st:=s_is_whole) l13 c13 k13
 have b13:=F13.binds (ps:=["thing"]) fun _ _ _ _ _ _ us hl=>us1 hl fun _=>rfl
 have m13:=PySem.W.mg_of X G a13
 have F14:=fun_mk (st:=s_is_person) l14 c14 k14
 have b14:=F14.binds (ps:=["people","thing"]) fun _ _ _ _ _ _ us hl=>us2 hl fun _ _=>rfl
 have m14:=PySem.W.mg_of X G a14
 have F15:=fun_mk (st:=s_is_side) l15 c15 k15
 have b15:=F15.binds (ps:=["web","thing"]) fun _ _ _ _ _ _ us hl=>us2 hl fun _ _=>rfl
 have m15:=PySem.W.mg_of X G a15
 have F16:=fun_mk (st:=s_must_be_side) l16 c16 k16
 have b16:=F16.binds (ps:=["web","thing"]) fun _ _ _ _ _ _ us hl=>us2 hl fun _ _=>rfl
 have m16:=PySem.W.mg_of X G a16
 have F17:=fun_mk (st:=s_less) l17 c17 k17
 have b17:=F17.binds (ps:=["one","other"]) fun _ _ _ _ _ _ us hl=>us2 hl fun _ _=>rfl
 have m17:=PySem.W.mg_of X G a17
 have F18:=fun_mk (st:=s_joined) l18 c18 k18
 have b18:=F18.binds (ps:=["web","side","one","other"]) fun _ _ _ _ _ _ us hl=>us4 hl fun _ _ _ _=>rfl
 have m18:=PySem.W.mg_of X G a18
 have F19:=fun_mk (st:=s__law_due) l19 c19 k19
 have b19:=F19.binds (ps:=["many","side","one","other"]) fun _ _ _ _ _ _ us hl=>us4 hl fun _ _ _ _=>rfl
 have m19:=PySem.W.mg_of X G a19
 have F20:=fun_mk (st:=s__law_refused) l20 c20 k20
 have b20:=F20.binds (ps:=["web","thing","rows"]) fun _ _ _ _ _ _ us hl=>us3 hl fun _ _ _=>rfl
 have m20:=PySem.W.mg_of X G a20
 have F21:=fun_mk (st:=s__law_no_sides) l21 c21 k21
 have b21:=F21.binds (ps:=["left","web","side"]) fun _ _ _ _ _ _ us hl=>us3 hl fun _ _ _=>rfl
 have m21:=PySem.W.mg_of X G a21
 have F22:=fun_mk (st:=s_law) l22 c22 k22
 have m_range:=PySem.W.mg_none_of X G y1
 have m_divmod:=PySem.W.mg_none_of X G y2
 have m_tuple:=PySem.W.mg_none_of X G y3
 have m_abs:=PySem.W.mg_none_of X G y4
 have m_int:=PySem.W.mg_none_of X G y5
 have m_isinstance:=PySem.W.mg_none_of X G y6
 have m_bool:=PySem.W.mg_none_of X G y7
 have m_all:=PySem.W.mg_none_of X G y8
 have m_zip:=PySem.W.mg_none_of X G y9
 have m_enumerate:=PySem.W.mg_none_of X G y10
 have m_ValueError:=PySem.W.mg_none_of X G y11
 have m_list:=PySem.W.mg_none_of X G y12
 have m_sorted:=PySem.W.mg_none_of X G y13
 have m_set:=PySem.W.mg_none_of X G y14
 have x_TwainError:=PySem.W.mg_of X G x1
 have x_Alone:=PySem.W.mg_of X G x2
 have x_Barred:=PySem.W.mg_of X G x3
 have x_Loose:=PySem.W.mg_of X G x4
 have x_NoDeed:=PySem.W.mg_of X G x5
 have x_NoParty:=PySem.W.mg_of X G x6
 have x_NoPerson:=PySem.W.mg_of X G x7
 have x_NoRatio:=PySem.W.mg_of X G x8
 have x_NoRow:=PySem.W.mg_of X G x9
 have x_NoText:=PySem.W.mg_of X G x10
 have x_NoWeb:=PySem.W.mg_of X G x11
 have x_NothingDone:=PySem.W.mg_of X G x12
 have x_Twice:=PySem.W.mg_of X G x13
 have x_NoSides:=PySem.W.mg_of X G x14
 have hxc:ExcC K uNoSides:=⟨x21,x22,x23,x24,x25⟩
 refine ⟨PySem.W.fnOf "law" "law" (defArgs s_law) (defBody s_law) (defScope s_law) .none kV22 dc22 pm22 an22 cd22 ct22,fun s v=>.of_eq rfl,fun base _ _=>?_⟩
 obtain ⟨g__law_mixed,h__law_mixed,e__law_mixed⟩:=fn__law_mixed (P:=l.prog) (w:=w) (base:=base) (k:=0) F1 b1 m1
 obtain ⟨g__law_deal,h__law_deal,e__law_deal⟩:=fn__law_deal (P:=l.prog) (w:=w) (base:=base) (k:=1) (h__law_mixed.mono (k:=1) (by decide)) e__law_mixed m_range F2 b2 m2
 obtain ⟨g__law_next,h__law_next,e__law_next⟩:=fn__law_next (P:=l.prog) (w:=w) (base:=base) (k:=0) m_divmod F3 b3 m3
 obtain ⟨g__law_tie,h__law_tie,e__law_tie⟩:=fn__law_tie (P:=l.prog) (w:=w) (base:=base) (k:=1) (h__law_next.mono (k:=1) (by decide)) e__law_next F4 b4 m4
 obtain ⟨g__law_parted,h__law_parted,e__law_parted⟩:=fn__law_parted (P:=l.prog) (w:=w) (base:=base) (k:=2) (h__law_next.mono (k:=2) (by decide)) e__law_next (h__law_tie.mono (k:=2) (by decide)) e__law_tie m_range m_tuple F5 b5 m5
 obtain ⟨g_common_divisor,h_common_divisor,e_common_divisor⟩:=fn_common_divisor (P:=l.prog) (w:=w) (base:=base) (k:=0) F6 b6 m6
 obtain ⟨g_ratio,h_ratio,e_ratio⟩:=fn_ratio (P:=l.prog) (w:=w) (base:=base) (k:=1) (h_common_divisor.mono (k:=1) (by decide)) e_common_divisor m_abs F7 b7 m7
 obtain ⟨g__law_ratio,h__law_ratio,e__law_ratio⟩:=fn__law_ratio (P:=l.prog) (w:=w) (base:=base) (k:=2) (h_ratio.mono (k:=2) (by decide)) e_ratio (h__law_next.mono (k:=2) (by decide)) e__law_next m_int F8 b8 m8
 obtain ⟨g__law_rows,h__law_rows,e__law_rows⟩:=fn__law_rows (P:=l.prog) (w:=w) (base:=base) (k:=3) (h__law_ratio.mono (k:=3) (by decide)) e__law_ratio (h__law_next.mono (k:=3) (by decide)) e__law_next m_tuple m_range F9 b9 m9
 obtain ⟨g__law_whole,h__law_whole,e__law_whole⟩:=fn__law_whole (P:=l.prog) (w:=w) (base:=base) (k:=0) m_isinstance m_int m_bool F10 b10 m10
 obtain ⟨g__law_alike,h__law_alike,e__law_alike⟩:=fn__law_alike (P:=l.prog) (w:=w) (base:=base) (k:=1) (h__law_whole.mono (k:=1) (by decide)) e__law_whole m_all m_isinstance m_tuple F11 b11 m11
 obtain ⟨g_is_rising,h_is_rising,e_is_rising⟩:=fn_is_rising (P:=l.prog) (w:=w) (base:=base) (k:=0) m_all m_zip F12 b12 m12
 obtain ⟨g_is_whole,h_is_whole,e_is_whole⟩:=fn_is_whole (P:=l.prog) (w:=w) (base:=base) (k:=0) m_isinstance m_int m_bool F13 b13 m13
 obtain ⟨g_is_person,h_is_person,e_is_person⟩:=fn_is_person (P:=l.prog) (w:=w) (base:=base) (k:=1) (h_is_whole.mono (k:=1) (by decide)) e_is_whole F14 b14 m14
 obtain ⟨g_is_side,h_is_side,e_is_side⟩:=fn_is_side (P:=l.prog) (w:=w) (base:=base) (k:=2) (h_is_rising.mono (k:=2) (by decide)) e_is_rising (h_is_person.mono (k:=2) (by decide)) e_is_person m_all m_isinstance m_tuple F15 b15 m15
 obtain ⟨g_must_be_side,h_must_be_side,e_must_be_side⟩:=fn_must_be_side (P:=l.prog) (w:=w) (base:=base) (k:=3) (h_is_side.mono (k:=3) (by decide)) e_is_side F16 b16 m16
 obtain ⟨gx_must_be_side,r_must_be_side,er_must_be_side⟩:=fnR_must_be_side (P:=l.prog) (w:=w) (base:=base) (k:=3) (h_is_side.mono (k:=3) (by decide)) e_is_side x_NoSides x15 F16 b16 m16
 obtain ⟨g_less,h_less,e_less⟩:=fn_less (P:=l.prog) (w:=w) (base:=base) (k:=0) F17 b17 m17
 obtain ⟨g_joined,h_joined,e_joined⟩:=fn_joined (P:=l.prog) (w:=w) (base:=base) (k:=4) (h_must_be_side.mono (k:=4) (by decide)) e_must_be_side (h_less.mono (k:=4) (by decide)) e_less m_enumerate m_tuple m_zip F18 b18 m18
 obtain ⟨gx_joined,r_joined,er_joined⟩:=fnR_joined (P:=l.prog) (w:=w) (base:=base) (k:=4) r_must_be_side er_must_be_side F18 b18 m18
 obtain ⟨g__law_due,h__law_due,e__law_due⟩:=fn__law_due (P:=l.prog) (w:=w) (base:=base) (k:=0) m_range m_tuple m_int F19 b19 m19
 obtain ⟨g__law_refused,h__law_refused,e__law_refused⟩:=fn__law_refused (P:=l.prog) (w:=w) (base:=base) (k:=5) h_joined r_joined er_joined m_isinstance m_ValueError x_TwainError x_NoSides x_Alone x_Barred x_Loose x_NoDeed x_NoParty x_NoPerson x_NoRatio x_NoRow x_NoText x_NoWeb x_NothingDone x_Twice x16 x17 x18 x19 x20 hxc F20 b20 m20
 obtain ⟨g__law_no_sides,h__law_no_sides,e__law_no_sides⟩:=fn__law_no_sides (P:=l.prog) (w:=w) (base:=base) (k:=0) m_list m_tuple m_sorted m_set F21 b21 m21
 exact fn_law (P:=l.prog) (w:=w) (base:=base) (k:=59) (h__law_deal.mono (k:=59) (by decide)) e__law_deal (h__law_parted.mono (k:=59) (by decide)) e__law_parted (h__law_rows.mono (k:=59) (by decide)) e__law_rows (h__law_alike.mono (k:=59) (by decide)) e__law_alike (h_joined.mono (k:=59) (by decide)) e_joined (h__law_due.mono (k:=59) (by decide)) e__law_due (h__law_refused.mono (k:=59) (by decide)) e__law_refused (h__law_no_sides.mono (k:=59) (by decide)) e__law_no_sides m_tuple m_all m_range F22
end Q67
open PySem PySem.W PyProof.Rows
def PySem.W.Fast.tw12887445935180503540 : Unit := ()
def PySem.W.Fast.tw15942899736119079538 : Unit := ()
def PySem.W.Fast.tw176909528097898311 : Unit := ()
set_option maxRecDepth 100000 in
set_option maxHeartbeats 0 in
theorem PySem.Challenge.cw_twainhoard_k67_shares_joined_holds : PySem.Challenge.rw_twainhoard_k67_shares_joined.Holds := by
 w_on;o_law;k_head;(case hw=>w_witness2)
 k_fill
 refine Z.walk (l:=PySem.Challenge.rw_twainhoard_k67_shares_joined) rfl rfl (fun w h Y=>PySem.W.kIn_of Y) ?F
 case F=>
  intro w mg fa h KX G hmg
  refine' Q67.all_mk KX G hmg ?a1 ?l1 ?c1 ?k1 ?a2 ?l2 ?c2 ?k2 ?a3 ?l3 ?c3 ?k3 ?a4 ?l4 ?c4 ?k4 ?a5 ?l5 ?c5 ?k5 ?a6 ?l6 ?c6 ?k6 ?a7 ?l7 ?c7 ?k7 ?a8 ?l8 ?c8 ?k8 ?a9 ?l9 ?c9 ?k9 ?a10 ?l10 ?c10 ?k10 ?a11 ?l11 ?c11 ?k11 ?a12 ?l12 ?c12 ?k12 ?a13 ?l13 ?c13 ?k13 ?a14 ?l14 ?c14 ?k14 ?a15 ?l15 ?c15 ?k15 ?a16 ?l16 ?c16 ?k16 ?a17 ?l17 ?c17 ?k17 ?a18 ?l18 ?c18 ?k18 ?a19 ?l19 ?c19 ?k19 ?a20 ?l20 ?c20 ?k20 ?a21 ?l21 ?c21 ?k21 ?a22 ?l22 ?c22 ?k22 ?y1 ?y2 ?y3 ?y4 ?y5 ?y6 ?y7 ?y8 ?y9 ?y10 ?y11 ?y12 ?y13 ?y14 ?x1 ?x2 ?x3 ?x4 ?x5 ?x6 ?x7 ?x8 ?x9 ?x10 ?x11 ?x12 ?x13 ?x14 ?x15 ?x16 ?x17 ?x18 ?x19 ?x20 ?x21 ?x22 ?x23 ?x24 ?x25
  (case a1=>k_is);(case l1=>k_is);(case c1=>k_is);(case k1=>k_is)
  (case a2=>k_is);(case l2=>k_is);(case c2=>k_is);(case k2=>k_is)
  (case a3=>k_is);(case l3=>k_is);(case c3=>k_is);(case k3=>k_is)
  (case a4=>k_is);(case l4=>k_is);(case c4=>k_is);(case k4=>k_is)
  (case a5=>k_is);(case l5=>k_is);(case c5=>k_is);(case k5=>k_is)
  (case a6=>k_is);(case l6=>k_is);(case c6=>k_is);(case k6=>k_is)
  (case a7=>k_is);(case l7=>k_is);(case c7=>k_is);(case k7=>k_is)
  (case a8=>k_is);(case l8=>k_is);(case c8=>k_is);(case k8=>k_is)
  (case a9=>k_is);(case l9=>k_is);(case c9=>k_is);(case k9=>k_is)
  (case a10=>k_is);(case l10=>k_is);(case c10=>k_is);(case k10=>k_is)
  (case a11=>k_is);(case l11=>k_is);(case c11=>k_is);(case k11=>k_is)
  (case a12=>k_is);(case l12=>k_is);(case c12=>k_is);(case k12=>k_is)
  (case a13=>k_is);(case l13=>k_is);(case c13=>k_is);(case k13=>k_is)
  (case a14=>k_is);(case l14=>k_is);(case c14=>k_is);(case k14=>k_is)
  (case a15=>k_is);(case l15=>k_is);(case c15=>k_is);(case k15=>k_is)
  (case a16=>k_is);(case l16=>k_is);(case c16=>k_is);(case k16=>k_is)
  (case a17=>k_is);(case l17=>k_is);(case c17=>k_is);(case k17=>k_is)
  (case a18=>k_is);(case l18=>k_is);(case c18=>k_is);(case k18=>k_is)
  (case a19=>k_is);(case l19=>k_is);(case c19=>k_is);(case k19=>k_is)
  (case a20=>k_is);(case l20=>k_is);(case c20=>k_is);(case k20=>k_is)
  (case a21=>k_is);(case l21=>k_is);(case c21=>k_is);(case k21=>k_is)
  (case a22=>k_is);(case l22=>k_is);(case c22=>k_is);(case k22=>k_is)
  (case y1=>k_is)
  (case y2=>k_is)
  (case y3=>k_is)
  (case y4=>k_is)
  (case y5=>k_is)
  (case y6=>k_is)
  (case y7=>k_is)
  (case y8=>k_is)
  (case y9=>k_is)
  (case y10=>k_is)
  (case y11=>k_is)
  (case y12=>k_is)
  (case y13=>k_is)
  (case y14=>k_is)
  (case x1=>k_is)
  (case x2=>k_is)
  (case x3=>k_is)
  (case x4=>k_is)
  (case x5=>k_is)
  (case x6=>k_is)
  (case x7=>k_is)
  (case x8=>k_is)
  (case x9=>k_is)
  (case x10=>k_is)
  (case x11=>k_is)
  (case x12=>k_is)
  (case x13=>k_is)
  (case x14=>k_is)
  (case x15=>first | k_is | k_exc | kit_is | kts_exm)
  (case x16=>first | k_is | k_exc | kit_is | kts_exm)
  (case x17=>first | k_is | k_exc | kit_is | kts_exm)
  (case x18=>first | k_is | k_exc | kit_is | kts_exm)
  (case x19=>first | k_is | k_exc | kit_is | kts_exm)
  (case x20=>first | k_is | k_exc | kit_is | kts_exm)
  (case x21=>first | k_is | k_exc | kit_is | kts_exm)
  (case x22=>first | k_is | k_exc | kit_is | kts_exm)
  (case x23=>first | k_is | k_exc | kit_is | kts_exm)
  (case x24=>first | k_is | k_exc | kit_is | kts_exm)
  (case x25=>first | k_is | k_exc | kit_is | kts_exm)
