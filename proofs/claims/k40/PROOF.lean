import PyProof.Rows.All
import Wide.All
import OpenK.AllK
import Wide.FinOn
import Lean
import PyProof.EqAt
import PyProof.EqKinds
import PyProof.TupleCall
import PyProof.NeKinds
import PyProof.ZipIter
import KE.KIntText
import PyProof.StrLawsIn
import PyProof.DictItems
import PyProof.NsDelKeeps
import PyProof.StrWalks
import PyProof.StrCalls6
import PyProof.MeetsStr3
import PyProof.Draws
import PyProof.EnumStmt
import PyProof.Rows.SortShellK
import PyProof.Rows.CallKwBuiltin
import PyProof.Rows.TupIn
import PyProof.DictIter
import PyProof.WalksMore
import PySem.Challenge.RW_ledtowish_k40_far_wishes_of_signs
set_option Elab.async false
set_option linter.all false
set_option maxRecDepth 100000
namespace L2
open PySem PySem.Spec PyProof.Rows
noncomputable abbrev Key:=Sum Int Str
noncomputable def keyIs:Key→Value→Bool
 | .inl k,v=>Value.isInt k v
 | .inr x,v=>Value.isStrOf x v
noncomputable def keyH (w:World):Key→Int
 | .inl k=>hashInt k
 | .inr x=>hashStr w x
theorem zk:∀ {k:Key} {v:Value},keyIs k v=true→(∃ i t,k=Sum.inl i∧v=Value.int i t)∨(∃ x t,k=Sum.inr x∧v=Value.str x t)
 | .inl i,v,h=>by
  obtain ⟨t,e⟩:=Value.isInt_shape (k:=i) (v:=v) h
  exact .inl ⟨i,t,rfl,e⟩
 | .inr x,v,h=>by
  obtain ⟨t,e⟩:=Value.isStrOf_shape (x:=x) (v:=v) h
  exact .inr ⟨x,t,rfl,e⟩
theorem aFO (i:Int) (t:Tok):keyIs (.inl i) (.int i t)=true:=by simp [keyIs,Value.isInt]
theorem aFP (x:Str) (t:Tok):keyIs (.inr x) (.str x t)=true:=by simp [keyIs,Value.isStrOf]
theorem aIt (a b:Int):decide ((Sum.inl a:Key)=Sum.inl b)=(a == b):=by
 by_cases e:a=b
 ·subst e; simp
 ·have h:¬ (Sum.inl a:Key)=Sum.inl b:=fun q=>e (Sum.inl.inj q)
  rw [decide_eq_false h]
  exact (beq_eq_false_iff_ne.mpr e).symm
theorem aIu (a b:Str):decide ((Sum.inr a:Key)=Sum.inr b)=decide (a=b):=by
 by_cases e:a=b
 ·subst e; simp
 ·have h:¬ (Sum.inr a:Key)=Sum.inr b:=fun q=>e (Sum.inr.inj q)
  rw [decide_eq_false h,decide_eq_false e]
theorem aIv (a:Int) (b:Str):decide ((Sum.inl a:Key)=Sum.inr b)=false:=decide_eq_false (fun q=>nomatch q)
theorem aIw (a:Str) (b:Int):decide ((Sum.inr a:Key)=Sum.inl b)=false:=decide_eq_false (fun q=>nomatch q)
noncomputable def zV (prog:Program) (w:World):PySem.KeyKind prog w Key where
 is:=keyIs
 hash:=keyH w
 inj:=fun v a b ha hb=>by
  rcases zk ha with ⟨i,t,rfl,rfl⟩ | ⟨x,t,rfl,rfl⟩
  ·rcases zk hb with ⟨j,u,rfl,e⟩ | ⟨y,u,rfl,e⟩
   ·injection e with e1 _; rw [e1]
   ·exact nomatch e
  ·rcases zk hb with ⟨j,u,rfl,e⟩ | ⟨y,u,rfl,e⟩
   ·exact nomatch e
   ·injection e with e1 _; rw [e1]
 byValue:=fun k v h=>by
  rcases zk h with ⟨i,t,rfl,rfl⟩ | ⟨x,t,rfl,rfl⟩ <;> rfl
 pyHash:=fun hv h=>by
  rcases zk hv with ⟨i,t,rfl,rfl⟩ | ⟨x,t,rfl,rfl⟩
  ·exact wpAny_pyHash_int h
  ·exact wpAny_pyHash_str h
 eqBool:=fun hu hv h=>by
  rcases zk hu with ⟨i,t,rfl,rfl⟩ | ⟨x,t,rfl,rfl⟩
  ·rcases zk hv with ⟨j,u,rfl,rfl⟩ | ⟨y,u,rfl,rfl⟩
   ·rw [aIt] at h; exact wpAny_eqBool_int h
   ·rw [aIv] at h; exact SeqAt.EqAt.int_str i t y u _ _ _ _ h
  ·rcases zk hv with ⟨j,u,rfl,rfl⟩ | ⟨y,u,rfl,rfl⟩
   ·rw [aIw] at h; exact SeqAt.EqAt.str_int x t j u _ _ _ _ h
   ·rw [aIu] at h; exact wpAny_eqBool_str h
 «strs»:=fun k x t v h=>by
  rcases zk h with ⟨i,u,rfl,e⟩ | ⟨y,u,rfl,e⟩
  ·exact nomatch e
  ·injection e with e1 _
   subst e1
   cases v <;> rfl
theorem aDt (prog:Program) (w:World) (i:Int) (t:Tok):(zV prog w).is (.inl i) (.int i t)=true:=aFO i t
theorem aDu (prog:Program) (w:World) (x:Str) (t:Tok):(zV prog w).is (.inr x) (.str x t)=true:=aFP x t
end L2
namespace L2
open PySem PySem.Spec PyProof.Rows
inductive V where
 | non | bl (b:Bool) | int (i:Int) | str (x:Str) | byt (b:Array UInt8) | flt (b:UInt64) | ref (a:Addr) | ty (n:String)
 deriving DecidableEq
noncomputable def RelV:V→Value→Prop
 | .non,u=>u=Value.none
 | .bl b,u=>u=Value.bool b
 | .int i,u=>∃ t,u=Value.int i t
 | .str x,u=>∃ t,u=Value.str x t
 | .byt b,u=>∃ t,u=Value.bytes b t
 | .flt b,u=>∃ t,u=Value.float b t
 | .ref a,u=>u=Value.ref a
 | .ty n,u=>u=Value.type n
noncomputable abbrev Vals:List V→List Value→Prop:=Paired RelV
theorem Vals.length {xs:List V} {us:List Value} (r:Vals xs us):xs.length=us.length:=Paired.length r
theorem Vals.get:∀ {xs:List V} {us:List Value} {i:Nat} {x:V},Vals xs us→xs[i]?=some x→∃ u,us[i]?=some u∧RelV x u
 | _,_,_,_,.nil,e=>by simp at e
 | _,_,0,_,.cons r _,e=>by simp at e; subst e; exact ⟨_,rfl,r⟩
 | _,_,i + 1,x,.cons _ t,e=>by
  obtain ⟨u,h1,h2⟩:=Vals.get (i:=i) (x:=x) t (by simpa using e)
  exact ⟨u,by simpa using h1,h2⟩
theorem Vals.append:∀ {xs ys:List V} {us ws:List Value},Vals xs us→Vals ys ws→Vals (xs++ys) (us++ws)
 | _,_,_,_,.nil,s=>s
 | _,_,_,_,.cons r t,s=>.cons r (Vals.append t s)
theorem Vals.take:∀ {xs:List V} {us:List Value} (n:Nat),Vals xs us→Vals (xs.take n) (us.take n)
 | _,_,0,_=>.nil
 | _,_,_ + 1,.nil=>.nil
 | _,_,n + 1,.cons r t=>.cons r (Vals.take n t)
theorem Vals.drop:∀ {xs:List V} {us:List Value} (n:Nat),Vals xs us→Vals (xs.drop n) (us.drop n)
 | _,_,0,r=>r
 | _,_,_ + 1,.nil=>.nil
 | _,_,n + 1,.cons _ t=>Vals.drop n t
noncomputable def RelO:Option V→Option Value→Prop
 | some v,some u=>RelV v u
 | none,none=>True
 | _,_=>False
noncomputable def KV {κ:Type}:List (κ×V)→List (κ×Value)→Prop:=Paired fun (p:κ×V) (q:κ×Value)=>p.1=q.1∧RelV p.2 q.2
noncomputable def kV:Key→V
 | .inl i=>.int i
 | .inr x=>.str x
inductive HO where
 | lst (xs:List V)
 | tup (xs:List V)
 | dK (kvs:List (Key×V)) | dT (kvs:List (List Key×V))
 | set (S:Int→Bool) (n:Nat)
 | ins (C dx:Addr) (fs:List (Str×V))
 | own (x:Addr)
 | xd (fs:List (Str×V))
 | met (f x:Addr)
 | rng (lo hi:Int)
 | frz (o:Obj) (u:HO)
 | tbl (ps:Array Value)
 | ext (φ:Heap→Prop)
noncomputable abbrev Hp:=Addr→Option HO
noncomputable def upd (H:Hp) (a:Addr) (o:HO):Hp:=fun b=>if b=a then some o else H b
theorem zB {H:Hp} {a:Addr} {o:HO}:upd H a o a=some o:=by unfold upd; rw [if_pos rfl]
theorem zH {H:Hp} {a b:Addr} {o:HO} (h:b≠a):upd H a o b=H b:=by unfold upd; rw [if_neg h]
theorem aI5 {H:Hp} {a:Addr} {o u:HO}:upd (upd H a o) a u=upd H a u:=by
 funext b; unfold upd; split <;> rfl
theorem ne_of {H:Hp} {a b:Addr} {o u:HO} (h:H a=some o) (h':H b=some u) (d:o≠u):a≠b:=by
 intro e; subst e; rw [h] at h'; exact d (Option.some.inj h')
theorem zC {H:Hp} {a b:Addr} {o:HO} (h:H a=some o) (h':H b=none):a≠b:=by
 intro e; subst e; rw [h] at h'; cases h'
section
variable (P:Program) (w:World)
noncomputable def ObjOk (H:Hp) (h:Heap) (a:Addr):HO→Prop
 | .lst xs=>xs.length≤sizeLine∧∃ (its:List Value) (n:Nat),Vals xs its∧h.get? a=some { cls:=.type "list",data:=.seq its.toArray n }
 | .tup xs=>xs.length≤sizeLine∧∃ its:List Value,Vals xs its∧IsTup h a its.toArray
 | .dK kvs=>kvs.length≤sizeLine∧(a == sysModules)=false∧∃ vs,KV kvs vs∧h.DictOf (zV P w) a vs
 | .dT kvs=>kvs.length≤sizeLine∧(a == sysModules)=false∧∃ xs:List (List Key×Addr×Value),
   Paired (fun (p:List Key×V) (q:List Key×Addr×Value)=>p.1=q.1∧H q.2.1=some (.tup (p.1.map kV))∧RelV p.2 q.2.2) kvs xs ∧
   ∃ o es ep,h.get? a=some o∧o.ExactDict∧o.data=.dict es ep∧es.toList=xs.map (entryOfKey (tupleKind (zV P w)))∧(xs.map (·.1)).Nodup
 | .set S n=>h.SetOf (intKind P w) a S n
 | .ins C dx fs=>H dx=some (.own a)∧fs.length≤1000∧dx≠a∧h.get? a=some (PySem.W.instObj C dx) ∧
   ∃ mA,h.Ns1 dx mA∧(∀ f,RelO (fs.lookup f) (mA f))∧PySem.Within mA (fs.map (·.1))
 | .own _=>∃ o,h.get? a=some o
 | .xd fs=>∃ mA,h.Ns1 a mA∧∀ f,RelO (fs.lookup f) (mA f)
 | .rng lo hi=>∃ t u v,h.get? a=some { cls:=.type "range",data:=.fields #[.int lo t,.int hi u,.int 1 v] }
 | .frz o u=>h.get? a=some o∧ObjOk H h a u
 | .tbl ps=>h.get? a=some { cls:=.none,data:=.fields ps }
 | .met f x=>h.get? a=some (PySem.W.methodObj (.ref f) (.ref x))
 | .ext φ=>φ h∧(∃ o,h.get? a=some o)∧∀ h1 h2:Heap,φ h1→(∀ o,h1.get? a=some o→h2.get? a=some o)→φ h2
noncomputable def HOk (H:Hp) (h:Heap):Prop:=∀ a o,H a=some o→ObjOk P w H h a o
end
section
variable {P:Program} {w:World} {H H':Hp} {h h':Heap} {a:Addr} {o:HO}
theorem ObjOk.lt (x:ObjOk P w H h a o):a < h.objs.size:=by
 cases o with
 | lst xs=>obtain ⟨_,_,_,_,e⟩:=x; exact Heap.lt_size e
 | tup xs=>obtain ⟨_,_,_,p⟩:=x; exact p.lt
 | dK kvs=>obtain ⟨_,_,_,_,o,_,_,e,_⟩:=x; exact Heap.lt_size e
 | dT kvs=>obtain ⟨_,_,_,_,o,_,_,e,_⟩:=x; exact Heap.lt_size e
 | set S n=>obtain ⟨o,_,_,_,e,_⟩:=x; exact Heap.lt_size e
 | ins C dx fs=>obtain ⟨_,_,_,e,_⟩:=x; exact Heap.lt_size e
 | own y=>obtain ⟨_,e⟩:=x; exact Heap.lt_size e
 | xd fs=>obtain ⟨_,⟨_,_,_,e,_⟩,_⟩:=x; exact Heap.lt_size e
 | rng lo hi=>obtain ⟨_,_,_,e⟩:=x; exact Heap.lt_size e
 | frz ob u=>obtain ⟨e,_⟩:=x; exact Heap.lt_size e
 | tbl ps=>exact Heap.lt_size (show h.get? a=some _ from x)
 | met f y=>exact Heap.lt_size (show h.get? a=some _ from x)
 | ext φ=>obtain ⟨_,⟨_,e⟩,_⟩:=x; exact Heap.lt_size e
theorem Paired.mapP {α β:Type} {F G:α→β→Prop}:∀ {l₁:List α} {l₂:List β},Paired F l₁ l₂→(∀ a b,F a b→G a b)→Paired G l₁ l₂
 | _,_,.nil,_=>.nil
 | _,_,.cons r t,f=>.cons (f _ _ r) (Paired.mapP t f)
theorem ObjOk.stay (x:ObjOk P w H h a o) (k:∀ b u,(b=a∨H b=some (.own a))→h.get? b=some u→h'.get? b=some u)
  (ho:∀ b,H b=some (.own a)→H' b=some (.own a)) (ht:∀ b xs,H b=some (.tup xs)→H' b=some (.tup xs)):ObjOk P w H' h' a o:=by
 induction o with
 | lst xs=>obtain ⟨z,its,n,r,e⟩:=x; exact ⟨z,its,n,r,k _ _ (.inl rfl) e⟩
 | tup xs=>obtain ⟨z,its,r,ob,e,c⟩:=x; exact ⟨z,its,r,ob,k _ _ (.inl rfl) e,c⟩
 | dK kvs=>obtain ⟨z,y,vs,r,ob,es,ep,e,c⟩:=x; exact ⟨z,y,vs,r,ob,es,ep,k _ _ (.inl rfl) e,c⟩
 | dT kvs =>
  obtain ⟨z,y,xs,r,ob,es,ep,e,c⟩:=x
  exact ⟨z,y,xs,Paired.mapP r fun p q z=>⟨z.1,ht _ _ z.2.1,z.2.2⟩,ob,es,ep,k _ _ (.inl rfl) e,c⟩
 | set S n=>obtain ⟨ob,es,ep,t,e,c⟩:=x; exact ⟨ob,es,ep,t,k _ _ (.inl rfl) e,c⟩
 | ins C dx fs =>
  obtain ⟨d,z,ne,e,mA,⟨od,es,ep,e2,c⟩,r⟩:=x
  exact ⟨ho _ d,z,ne,k _ _ (.inl rfl) e,mA,⟨od,es,ep,k _ _ (.inr d) e2,c⟩,r⟩
 | own y=>obtain ⟨ob,e⟩:=x; exact ⟨ob,k _ _ (.inl rfl) e⟩
 | xd fs=>obtain ⟨mA,⟨od,es,ep,e,c⟩,r⟩:=x; exact ⟨mA,⟨od,es,ep,k _ _ (.inl rfl) e,c⟩,r⟩
 | rng lo hi=>obtain ⟨t,u,v,e⟩:=x; exact ⟨t,u,v,k _ _ (.inl rfl) e⟩
 | frz ob u ih=>obtain ⟨e,q⟩:=x; exact ⟨k _ _ (.inl rfl) e,ih q⟩
 | tbl ps =>
  have e:h.get? a=some { cls:=.none,data:=.fields ps }:=x
  show h'.get? a=some { cls:=.none,data:=.fields ps }
  exact k a _ (.inl rfl) e
 | met f y =>
  have e:h.get? a=some (PySem.W.methodObj (.ref f) (.ref y)):=x
  show h'.get? a=some (PySem.W.methodObj (.ref f) (.ref y))
  exact k a _ (.inl rfl) e
 | ext φ=>obtain ⟨p,⟨o,e⟩,st⟩:=x; exact ⟨st _ _ p fun o q=>k _ _ (.inl rfl) q,⟨o,k _ _ (.inl rfl) e⟩,st⟩
theorem HOk.lt (x:HOk P w H h) (e:H a=some o):a < h.objs.size:=(x a o e).lt
theorem HOk.fresh (x:HOk P w H h) (e:h.objs.size≤a):H a=none:=by
 cases q:H a with
 | none=>rfl
 | some u=>exact absurd (Nat.lt_of_lt_of_le (x.lt q) e) (Nat.lt_irrefl _)
theorem HOk.kept (x:HOk P w H h) (k:∀ b u,h.get? b=some u→h'.get? b=some u):HOk P w H h':=fun a o e =>
 (x a o e).stay (fun b u _ q=>k b u q) (fun _ q=>q) fun _ _ q=>q
theorem HOk.laid (x:HOk P w H h) (k:∀ b u,h.get? b=some u→h'.get? b=some u) (hp:h.objs.size≤a) (new:ObjOk P w (upd H a o) h' a o):HOk P w (upd H a o) h':=fun b u e=>by
 have hn:=x.fresh hp
 by_cases hb:b=a
 ·subst hb; rw [zB] at e; cases e; exact new
 ·rw [zH hb] at e
  exact (x b u e).stay (fun c v _ q=>k c v q) (fun c q=>by rw [zH (zC q hn)]; exact q) fun c xs q=>by rw [zH (zC q hn)]; exact q
end
noncomputable def Rd (H:Hp) (a:Addr) (u:HO):Prop:=H a=some u∨∃ o,H a=some (.frz o u)
theorem Rd.ok {P:Program} {w:World} {H:Hp} {h:Heap} {a:Addr} {u:HO} (r:Rd H a u) (x:HOk P w H h):ObjOk P w H h a u:=by
 rcases r with r | ⟨o,r⟩
 ·exact x a u r
 ·obtain ⟨_,q⟩:=x a _ r
  exact q
noncomputable def Mut:Option HO→Prop
 | some (.lst _)=>True
 | some (.dK _)=>True
 | some (.dT _)=>True
 | some (.set _ _)=>True
 | some (.ins _ _ _)=>True
 | some (.ext _)=>True
 | _=>False
section
variable {P:Program} {w:World} {H:Hp} {h h':Heap} {x e:Addr} {o':HO}
theorem HOk.write (ok:HOk P w H h) (mu:Mut (H x)) (he:e=x∨H e=some (.own x)) (k:∀ b u,b≠e→h.get? b=some u→h'.get? b=some u) (heo:∃ u,h'.get? e=some u)
  (new:ObjOk P w (upd H x o') h' x o'):HOk P w (upd H x o') h':=fun b u q=>by
 have nown:∀ c y,H c=some (.own y)→c≠x:=fun c y r z=>by subst z; rw [r] at mu; exact mu
 have ntup:∀ c xs,H c=some (.tup xs)→c≠x:=fun c xs r z=>by subst z; rw [r] at mu; exact mu
 by_cases hb:b=x
 ·subst hb; rw [zB] at q; cases q; exact new
 ·rw [zH hb] at q
  by_cases hbe:b=e
  ·have q':H b=some (.own x):=by
    rcases he with z | z
    ·exact absurd (hbe.trans z) hb
    ·rw [hbe]; exact z
   rw [q] at q'; cases q'
   obtain ⟨v,hv⟩:=heo
   exact ⟨v,by rw [hbe]; exact hv⟩
  ·refine (ok b u q).stay (fun c v hc r=>k c v ?_ r) (fun c r=>by rw [zH (nown c b r)]; exact r) fun c xs r=>by rw [zH (ntup c xs r)]; exact r
   rcases hc with rfl | hc
   ·exact hbe
   ·rintro rfl
    rcases he with z | z
    ·exact nown c b hc z
    ·rw [hc] at z; cases z; exact hb rfl
end
structure Un (fs ex:List Addr) (H H':Hp) (h h':Heap):Prop where
 keep:∀ b o,h.get? b=some o→H b=none→b ∉ fs→b ∉ ex→h'.get? b=some o
 slot:∀ b o,h.get? b=some o→H b=none→b∈fs→b ∉ ex→∃ sl,h'.get? b=some { o with slots:=sl }
 free:∀ b o,h.get? b=some o→H b=none→b ∉ ex→H' b=none
 there:∀ b o,h.get? b=some o→b ∉ ex→∃ o',h'.get? b=some o'
 tups:∀ b xs,H b=some (.tup xs)→H' b=some (.tup xs)
 frzs:∀ b o u,H b=some (.frz o u)→H' b=some (.frz o u)
 tbls:∀ b ps,H b=some (.tbl ps)→∃ more,H' b=some (.tbl (ps++more))
section
variable {fs fs' ex ex':List Addr} {H H1 H2:Hp} {h h1 h2 h':Heap} {a x e:Addr} {o:HO}
theorem Un.any (u:Un fs ex H H1 h h1) {b:Addr} {ob:Obj} (q:h.get? b=some ob) (n:H b=none) (hx:b ∉ ex):∃ sl,h1.get? b=some { ob with slots:=sl }:=by
 by_cases hb:b∈fs
 ·exact u.slot b ob q n hb hx
 ·exact ⟨ob.slots,u.keep b ob q n hb hx⟩
theorem Un.kept (k:∀ b u,h.get? b=some u→h'.get? b=some u):Un fs ex H H h h' :=
 ⟨fun b ob q _ _ _=>k b ob q,fun b ob q _ _ _=>⟨ob.slots,k b ob q⟩,fun _ _ _ n _=>n,fun b ob q _=>⟨ob,k b ob q⟩,fun _ _ q=>q,fun _ _ _ q=>q,fun _ ps q=>⟨#[],by rw [q]; simp⟩⟩
theorem Un.refl:Un fs ex H H h h:=Un.kept fun _ _ q=>q
theorem Un.laid (k:∀ b u,h.get? b=some u→h'.get? b=some u) (hp:h.objs.size≤a) (hn:H a=none):Un fs ex H (upd H a o) h h' where
 keep:=fun b u q _ _ _=>k b u q
 slot:=fun b u q _ _ _=>⟨u.slots,k b u q⟩
 free:=fun b u q n _=>by rw [zH (Nat.ne_of_lt (Nat.lt_of_lt_of_le (Heap.lt_size q) hp))]; exact n
 there:=fun b u q _=>⟨u,k b u q⟩
 tups:=fun b xs q=>by rw [zH (zC q hn)]; exact q
 frzs:=fun b u xs q=>by rw [zH (zC q hn)]; exact q
 tbls:=fun b ps q=>⟨#[],by rw [zH (zC q hn),q]; simp⟩
theorem Un.write (mu:Mut (H x)) (he:e=x∨H e=some (.own x)) (k:∀ b u,b≠e→h.get? b=some u→h'.get? b=some u) (heo:∃ u,h'.get? e=some u):Un fs ex H (upd H x o) h h':=by
 have hx:∀ b,H b=none→b≠x:=fun b n z=>by subst z; rw [n] at mu; exact mu
 have hb:∀ b,H b=none→b≠e:=fun b n z=>by
  subst z
  rcases he with r | r
  ·exact hx b n r
  ·rw [n] at r; cases r
 have hm:∀ b u,H b=some u→¬ Mut (some u)→b≠x:=fun b u q nm z=>by subst z; rw [q] at mu; exact nm mu
 refine ⟨fun b u q n _ _=>k b u (hb b n) q,fun b u q n _ _=>⟨u.slots,k b u (hb b n) q⟩,fun b u q n _=>by rw [zH (hx b n)]; exact n,fun b u q _=>?_,
  fun b xs q=>by rw [zH (hm b _ q fun z=>z)]; exact q,fun b u xs q=>by rw [zH (hm b _ q fun z=>z)]; exact q,fun b ps q=>⟨#[],by rw [zH (hm b _ q fun z=>z),q]; simp⟩⟩
 by_cases hbe:b=e
 ·subst hbe; exact heo
 ·exact ⟨u,k b u hbe q⟩
end
noncomputable def trk (h:Heap) (H:Hp):List Addr:=(List.range h.objs.size).filter fun a=>(H a).isSome
noncomputable def hidT (h:Heap) (H:Hp):Heap:=PySem.W.hideAll h (trk h H)
theorem aFQ (h:Heap) (H:Hp):(hidT h H).objs.size=h.objs.size:=PySem.W.hideAll_size _ _
theorem aH8 {h:Heap} {H:Hp} {b:Addr} {o:Obj} (e:h.get? b=some o) (n:H b=none):(hidT h H).get? b=some o :=
 PySem.W.hideAll_get _ e fun hm=>by
  have q:(H b).isSome=true:=(List.mem_filter.mp hm).2
  rw [n] at q; simp at q
theorem aI6 {h:Heap} {H:Hp} {b:Addr} {o:Obj} (e:(hidT h H).get? b=some o):h.get? b=some o∧H b=none:=by
 have e':h.get? b=some o:=PySem.W.of_hideAll (trk h H) e
 refine ⟨e',?_⟩
 cases q:H b with
 | none=>rfl
 | some x =>
  have hm:b∈trk h H:=List.mem_filter.mpr ⟨List.mem_range.mpr (Heap.lt_size e'),by simp [q]⟩
  have z:(hidT h H).get? b=none:=PySem.W.hideAll_none (trk h H) hm
  rw [z] at e; cases e
end L2
namespace L2
open PySem PySem.Spec PyProof.Rows
structure Mod (K:PySem.W.Frag) (mg:Str→Option Value) (base:Heap):Prop where
 kin:K.In base
 glob:base.Ns mainGlobals mg
 blt:∃ mb,base.Ns builtinsNs mb∧∀ x:Str,x≠"__name__"→mb x=bootBuiltins x
 nolimit:base.NoLimit
structure Cx where
 prog:Program
 w:World
 K:PySem.W.Frag
 mg:Str→Option Value
 base:Heap
 A:Around
 N:List Str
 s₀:Shared
 H₀:Hp
 env:Env
 outer:List Env
 stack:List Env
 ex:List Addr
 fn:Str→Bool
 calm:Bool
 pn:List (Addr×Obj)
 xe:Value→Shared→Prop
noncomputable def frs (l:List Env):List Addr:=l.filterMap (·.frame)
noncomputable abbrev Cx.fs (X:Cx):List Addr:=frs X.outer
noncomputable def Vis (sc:Scope) (x:Str):Prop:=sc.names.lookup x=some .local∨sc.names.lookup x=some .cell∨sc.names.lookup x=some .free
noncomputable def Loc (sc:Scope) (x:Str):Prop:=sc.names.lookup x=some .local∨sc.names.lookup x=some .cell
noncomputable def Look (env:Env) (h:Heap) (m:Str→Option Value) (x:Str) (u:Value):Prop :=
 (env.kindOf x=some .local∧m x=some u)∨((env.kindOf x=some .cell∨env.kindOf x=some .free)∧∃ c,env.cells.lookup x=some c∧h.IsCell c (some u))
structure Cx.Ok (X:Cx):Prop where
 mod:Mod X.K X.mg X.base
 kind:X.env.scope.kind=.function
 glob:X.env.globals=mainGlobals
 blt:X.env.builtins=builtinsNs
 above:X.s₀.heap.objs.size≤X.env.locals
 inj:∀ x y c,X.env.cells.lookup x=some c→X.env.cells.lookup y=some c→x=y
 has:∀ x,(X.env.kindOf x=some .cell∨X.env.kindOf x=some .free)→∃ c,X.env.cells.lookup x=some c
 cab:∀ x c,X.fn x=true→X.env.cells.lookup x=some c→X.s₀.heap.objs.size≤c
 hd:X.calm=true→X.A.handled=none
 frames:X.A.frames=some X.stack
 stk:X.stack=X.outer∨(X.stack=X.env :: X.outer∧X.env.frame=some X.env.locals)
 exf:∀ b∈X.ex,b≠X.env.locals∧∀ x c,X.env.cells.lookup x=some c→c≠b
 bs:∀ b o,X.base.get? b=some o→X.s₀.heap.get? b=some o∧X.H₀ b=none
 bsz:X.base.objs.size≤X.s₀.heap.objs.size
 noex:∀ b o,X.base.get? b=some o→b ∉ X.ex
 exfs:∀ b∈X.ex,b ∉ X.fs
 funs:X.s₀.heap.FunFrames X.base X.outer
 frf:∀ b∈X.fs,X.H₀ b=none
structure Inv (X:Cx) (pins:List (Addr×Obj)) (σ:List (Option V)) (H:Hp) (s:Shared):Prop where
 ok:X.Ok
 os:s.os=X.s₀.os
 bare:AllBare s.gens
 base:Un X.fs X.ex X.H₀ H X.s₀.heap s.heap
 loc:∃ m,s.heap.Ns X.env.locals m∧∀ (i:Nat) (x:Str) (v:V),X.N[i]?=some x→σ[i]?=some (some v)→Vis X.env.scope x→∃ u,RelV v u∧Look X.env s.heap m x u
 cell:∀ x c,X.env.cells.lookup x=some c→∃ v,s.heap.IsCell c v
 free:H X.env.locals=none
 freeC:∀ x c,X.env.cells.lookup x=some c→H c=none
 pin:∀ p∈X.pn++pins,s.heap.get? p.1=some p.2∧H p.1=none∧p.1≠X.env.locals∧p.1 ∉ X.fs∧∀ v,p.2.data≠.cell v
 hok:HOk X.prog X.w H s.heap
 len:σ.length=X.N.length
section
variable {X:Cx} {pins:List (Addr×Obj)} {σ:List (Option V)} {H H':Hp} {s:Shared} {h':Heap}
theorem Cx.Ok.nofr (ok:X.Ok) {b:Addr} {o:Obj} (e:X.base.get? b=some o):b ∉ X.fs:=fun hb=>by
 have:=(ok.funs.mem hb).1
 rw [e] at this; cases this
theorem Inv.bs (I:Inv X pins σ H s):∀ b o,X.base.get? b=some o→s.heap.get? b=some o∧H b=none:=fun b o e =>
 ⟨I.base.keep b o (I.ok.bs b o e).1 (I.ok.bs b o e).2 (I.ok.nofr e) (I.ok.noex b o e),I.base.free b o (I.ok.bs b o e).1 (I.ok.bs b o e).2 (I.ok.noex b o e)⟩
theorem Inv.bk (I:Inv X pins σ H s):∀ b o,X.base.get? b=some o→s.heap.get? b=some o:=fun b o e=>(I.bs b o e).1
theorem Inv.mod (I:Inv X pins σ H s):Mod X.K X.mg X.base:=I.ok.mod
theorem Inv.kIn (I:Inv X pins σ H s):X.K.In s.heap:=I.ok.mod.kin.keeps I.bk
theorem Inv.fr (I:Inv X pins σ H s):∃ m,Fr X.base X.env.locals s.heap m :=
 let ⟨m,hn,_⟩:=I.loc
 ⟨m,hn,I.bk,Nat.le_trans I.ok.bsz I.ok.above⟩
theorem Inv.lt (I:Inv X pins σ H s):X.env.locals < s.heap.objs.size:=let ⟨_,hn,_⟩:=I.loc; hn.lt
theorem Inv.sz (I:Inv X pins σ H s):X.s₀.heap.objs.size≤s.heap.objs.size:=Nat.le_trans I.ok.above (Nat.le_of_lt I.lt)
theorem Inv.nofs (I:Inv X pins σ H s) {a:Addr} (h:s.heap.objs.size≤a):a ∉ X.fs:=fun hb=>by
 obtain ⟨_,o,ho,_⟩:=I.ok.funs.mem hb
 exact absurd (Nat.lt_of_lt_of_le (Heap.lt_size ho) (Nat.le_trans I.sz h)) (Nat.lt_irrefl _)
theorem Inv.cne (I:Inv X pins σ H s):∀ x c,X.env.cells.lookup x=some c→c≠X.env.locals:=fun x c e z=>by
 obtain ⟨v,o,ho,hd⟩:=I.cell x c e
 obtain ⟨m,⟨o',es,ep,ho',hd',_⟩,_⟩:=I.loc
 rw [z,ho'] at ho; cases ho; rw [hd'] at hd; cases hd
theorem Inv.funs (I:Inv X pins σ H s):s.heap.FunFrames X.base X.outer:=by
 have all:∀ (l:List Env),(∀ b∈frs l,b∈X.fs)→X.s₀.heap.FunFrames X.base l→s.heap.FunFrames X.base l:=by
  intro l
  induction l with
  | nil=>intro _ _; trivial
  | cons env r ih =>
   intro hs hl
   obtain ⟨hk,⟨L,o,hf,hn,ho,hd⟩,hr⟩:=hl
   have hL:L∈X.fs:=hs L (by unfold frs; rw [List.filterMap_cons,hf]; exact List.mem_cons_self)
   obtain ⟨sl,e⟩:=I.base.slot L o ho (I.ok.frf L hL) hL fun z=>I.ok.exfs L z hL
   exact ⟨hk,⟨L,_,hf,hn,e,hd⟩,ih (fun b hb=>hs b (by unfold frs; rw [List.filterMap_cons,hf]; exact List.mem_cons_of_mem _ hb)) hr⟩
 exact all X.outer (fun _ hb=>hb) I.ok.funs
theorem Inv.stack (I:Inv X pins σ H s):s.heap.FunFrames X.base X.stack:=by
 rcases I.ok.stk with e | ⟨e,hf⟩
 ·rw [e]; exact I.funs
 ·rw [e]
  obtain ⟨m,hn,_⟩:=I.loc
  refine .cons (by rw [I.ok.kind]; decide) hf hn ?_ I.funs
  exact Heap.get?_none_of_le (Nat.le_trans I.ok.bsz I.ok.above)
theorem Inv.stkSub (I:Inv X pins σ H s):∀ b∈frs X.stack,b∈X.env.locals :: X.fs:=fun b hb=>by
 rcases I.ok.stk with e | ⟨e,hf⟩
 ·rw [e] at hb; exact List.mem_cons_of_mem _ hb
 ·rw [e] at hb
  unfold frs at hb
  rw [List.filterMap_cons,hf] at hb
  exact hb
theorem Inv.stkFree (I:Inv X pins σ H s):∀ b∈frs X.stack,H b=none:=fun b hb=>by
 rcases List.mem_cons.mp (I.stkSub b hb) with e | hb
 ·rw [e]; exact I.free
 ·obtain ⟨_,o,ho,_⟩:=I.ok.funs.mem hb
  exact I.base.free b o ho (I.ok.frf b hb) fun z=>I.ok.exfs b z hb
theorem Inv.step {g':Array GenState} {t':Nat} {d':Drawn} {ch:List Addr} (I:Inv X pins σ H s)
  (hch:∀ b∈ch,(b∈X.ex∨X.s₀.heap.objs.size≤b)∧b≠X.env.locals∧(∀ x c,X.env.cells.lookup x=some c→c≠b)∧∀ p∈X.pn++pins,p.1≠b)
  (keep:∀ b o,b≠X.env.locals→b ∉ X.fs→b ∉ ch→s.heap.get? b=some o→H b=none→h'.get? b=some o)
  (slot:∀ b o,b≠X.env.locals→b∈X.fs→b ∉ ch→s.heap.get? b=some o→H b=none→∃ sl,h'.get? b=some { o with slots:=sl }) (free:∀ b o,b ∉ ch→s.heap.get? b=some o→H b=none→H' b=none)
  (there:∀ b o,b ∉ ch→s.heap.get? b=some o→∃ o',h'.get? b=some o')
  (tups:∀ b xs,H b=some (.tup xs)→H' b=some (.tup xs)) (frzs:∀ b o u,H b=some (.frz o u)→H' b=some (.frz o u)) (tbls:∀ b ps,H b=some (.tbl ps)→∃ more,H' b=some (.tbl (ps++more)))
  (ns:∀ m,s.heap.Ns X.env.locals m→h'.Ns X.env.locals m) (hok:HOk X.prog X.w H' h') (hg:AllBare g') :
  Inv X pins σ H' { s with heap:=h',gens:=g',drawn:=d',toks:=t' }:=by
 have neL:∀ b o,X.s₀.heap.get? b=some o→b≠X.env.locals:=fun b o e=>Nat.ne_of_lt (Nat.lt_of_lt_of_le (Heap.lt_size e) I.ok.above)
 have neC:∀ b o,X.s₀.heap.get? b=some o→b ∉ X.ex→b ∉ ch:=fun b o e hx hb=>by
  rcases (hch b hb).1 with z | z
  ·exact hx z
  ·exact absurd (Nat.lt_of_lt_of_le (Heap.lt_size e) z) (Nat.lt_irrefl _)
 have cellK:∀ x c,X.env.cells.lookup x=some c→∀ v,s.heap.IsCell c v→h'.IsCell c v:=fun x c e v ⟨o,ho,hd⟩=>by
  have nch:c ∉ ch:=fun z=>(hch c z).2.2.1 x c e rfl
  by_cases hc:c∈X.fs
  ·obtain ⟨sl,q⟩:=slot c o (I.cne x c e) hc nch ho (I.freeC x c e)
   exact ⟨_,q,hd⟩
  ·exact ⟨o,keep c o (I.cne x c e) hc nch ho (I.freeC x c e),hd⟩
 refine ⟨I.ok,I.os,hg,⟨fun b o e n hb hx=>?_,fun b o e n hb hx=>?_,fun b o e n hx=>?_,fun b o e hx=>?_,fun b xs e=>tups b xs (I.base.tups b xs e),fun b o xs e=>frzs b o xs (I.base.frzs b o xs e),fun b ps e=>?_⟩,?_,fun x c e=>?_,?_,fun x c e=>?_,fun p hp=>?_,hok,I.len⟩
 ·exact keep b o (neL b o e) hb (neC b o e hx) (I.base.keep b o e n hb hx) (I.base.free b o e n hx)
 ·obtain ⟨sl,e1⟩:=I.base.slot b o e n hb hx
  obtain ⟨sl',e2⟩:=slot b _ (neL b o e) hb (neC b o e hx) e1 (I.base.free b o e n hx)
  exact ⟨sl',e2⟩
 ·obtain ⟨o',e1⟩:=I.base.there b o e hx
  exact free b o' (neC b o e hx) e1 (I.base.free b o e n hx)
 ·obtain ⟨o',e1⟩:=I.base.there b o e hx
  exact there b o' (neC b o e hx) e1
 ·obtain ⟨m1,e1⟩:=I.base.tbls b ps e
  obtain ⟨m2,e2⟩:=tbls b _ e1
  exact ⟨m1++m2,by rw [e2,Array.append_assoc]⟩
 ·obtain ⟨m,hn,hl⟩:=I.loc
  refine ⟨m,ns m hn,fun i x v e1 e2 e3=>?_⟩
  obtain ⟨u,r,l⟩:=hl i x v e1 e2 e3
  refine ⟨u,r,?_⟩
  rcases l with l | ⟨k,c,e,z⟩
  ·exact .inl l
  ·exact .inr ⟨k,c,e,cellK x c e _ z⟩
 ·obtain ⟨v,z⟩:=I.cell x c e
  exact ⟨v,cellK x c e v z⟩
 ·obtain ⟨m,⟨o,_,_,ho,_⟩,_⟩:=I.loc
  exact free _ o (fun z=>(hch _ z).2.1 rfl) ho I.free
 ·obtain ⟨v,o,ho,hd⟩:=I.cell x c e
  exact free c o (fun z=>(hch c z).2.2.1 x c e rfl) ho (I.freeC x c e)
 ·obtain ⟨e,n,ne,nf,d⟩:=I.pin p hp
  have nch:p.1 ∉ ch:=fun z=>(hch p.1 z).2.2.2 p hp rfl
  exact ⟨keep p.1 p.2 ne nf nch e n,free p.1 p.2 nch e n,ne,nf,d⟩
theorem Inv.un {t':Nat} (I:Inv X pins σ H s) (u:Un X.fs [] H H' s.heap h') (hok:HOk X.prog X.w H' h'):Inv X pins σ H' { s with heap:=h',toks:=t' }:=by
 obtain ⟨m,⟨o,es,ep,ho,r⟩,_⟩:=id I.loc
 obtain ⟨sl,hL⟩:=u.any ho I.free (by simp)
 exact I.step (g':=s.gens) (d':=s.drawn) (ch:=[]) (fun _ z=>nomatch z) (fun b o _ hb _ e n=>u.keep b o e n hb (by simp)) (fun b o _ hb _ e n=>u.slot b o e n hb (by simp)) (fun b o _ e n=>u.free b o e n (by simp)) (fun b o _ e=>u.there b o e (by simp)) u.tups u.frzs u.tbls (fun m' hm=>by
  obtain ⟨o',es',ep',ho',r'⟩:=hm
  rw [ho] at ho'; cases ho'
  exact ⟨_,es',ep',hL,r'⟩) hok I.bare
theorem Inv.call {g':Array GenState} {t':Nat} {d':Drawn} {ch:List Addr} (I:Inv X pins σ H s) (u:Un (frs X.stack) ch H H' s.heap h') (hok:HOk X.prog X.w H' h') (hg:AllBare g')
  (hch:∀ b∈ch,(b∈X.ex∨X.s₀.heap.objs.size≤b)∧b≠X.env.locals∧(∀ x c,X.env.cells.lookup x=some c→c≠b)∧∀ p∈X.pn++pins,p.1≠b) :
  Inv X pins σ H' { s with heap:=h',gens:=g',drawn:=d',toks:=t' }:=by
 obtain ⟨m,⟨o,es,ep,ho,r⟩,_⟩:=id I.loc
 obtain ⟨sl,hL⟩:=u.any ho I.free fun z=>(hch _ z).2.1 rfl
 exact I.step (ch:=ch) hch (fun b o hL hb hc e n=>u.keep b o e n (fun z=>(List.mem_cons.mp (I.stkSub b z)).elim hL hb) hc) (fun b o _ _ hc e n=>u.any e n hc) (fun b o hc e n=>u.free b o e n hc) (fun b o hc e=>u.there b o e hc) u.tups u.frzs u.tbls (fun m' hm=>by
  obtain ⟨o',es',ep',ho',r'⟩:=hm
  rw [ho] at ho'; cases ho'
  exact ⟨_,es',ep',hL,r'⟩) hok hg
theorem Inv.turned {t':Nat} {it:Addr} (I:Inv X pins σ H s) (k:∀ b o,b≠it→s.heap.get? b=some o→h'.get? b=some o) (hn:H it=none) (hL:it≠X.env.locals)
  (h1:it∈X.ex∨X.s₀.heap.objs.size≤it) (h2:∀ x c,X.env.cells.lookup x=some c→c≠it) (h3:∀ p∈X.pn++pins,p.1≠it):Inv X pins σ H { s with heap:=h',toks:=t' }:=by
 have nit:∀ b u,H b=some u→b≠it:=fun b u e z=>by rw [z,hn] at e; cases e
 refine I.step (g':=s.gens) (d':=s.drawn) (ch:=[it]) (fun b hb=>?_) (fun b o _ _ hc e _=>k b o (fun z=>hc (by simp [z])) e) (fun b o _ _ hc e _=>⟨o.slots,k b o (fun z=>hc (by simp [z])) e⟩) (fun _ _ _ _ n=>n)
  (fun b o hc e=>⟨o,k b o (fun z=>hc (by simp [z])) e⟩) (fun _ _ e=>e) (fun _ _ _ e=>e) (fun b ps e=>⟨#[],by rw [e]; simp⟩) (fun m hm=>?_) (fun b u e=>?_) I.bare
 ·have e:b=it:=by simpa using hb
  subst e
  exact ⟨h1,hL,h2,h3⟩
 ·obtain ⟨o,es,ep,ho,r⟩:=hm
  exact ⟨o,es,ep,k _ o (Ne.symm hL) ho,r⟩
 ·refine (I.hok b u e).stay (fun c v hc q=>k c v ?_ q) (fun _ q=>q) fun _ _ q=>q
  rcases hc with z | z
  ·rw [z]; exact nit b u e
  ·exact nit c _ z
theorem Inv.tok (I:Inv X pins σ H s) (t:Nat):Inv X pins σ H { s with toks:=t }:=I.un (h':=s.heap) (t':=t) Un.refl I.hok
theorem Inv.kept {t':Nat} (I:Inv X pins σ H s) (k:∀ b u,s.heap.get? b=some u→h'.get? b=some u):Inv X pins σ H { s with heap:=h',toks:=t' }:=I.un (Un.kept k) (I.hok.kept k)
theorem Inv.laid {a:Addr} {o:HO} {t':Nat} (I:Inv X pins σ H s) (k:∀ b u,s.heap.get? b=some u→h'.get? b=some u) (hp:s.heap.objs.size≤a) (new:ObjOk X.prog X.w (upd H a o) h' a o) :
  Inv X pins σ (upd H a o) { s with heap:=h',toks:=t' }:=I.un (Un.laid k hp (I.hok.fresh hp)) (I.hok.laid k hp new)
theorem Inv.write {x e:Addr} {o:HO} {t':Nat} (I:Inv X pins σ H s) (mu:Mut (H x)) (he:e=x∨H e=some (.own x)) (k:∀ b u,b≠e→s.heap.get? b=some u→h'.get? b=some u) (heo:∃ u,h'.get? e=some u)
  (new:ObjOk X.prog X.w (upd H x o) h' x o):Inv X pins σ (upd H x o) { s with heap:=h',toks:=t' }:=I.un (Un.write mu he k heo) (I.hok.write mu he k heo new)
theorem Inv.pins_of {pins':List (Addr×Obj)} (I:Inv X pins σ H s) (h:∀ p∈pins',s.heap.get? p.1=some p.2∧H p.1=none∧p.1≠X.env.locals∧p.1 ∉ X.fs∧∀ v,p.2.data≠.cell v):Inv X pins' σ H s :=
 ⟨I.ok,I.os,I.bare,I.base,I.loc,I.cell,I.free,I.freeC,fun p hp=>(List.mem_append.mp hp).elim (fun z=>I.pin p (List.mem_append_left _ z)) (h p),I.hok,I.len⟩
theorem aAV {N:List Str} (hN:N.Nodup) {i j:Nat} {x:Str} (a:N[i]?=some x) (b:N[j]?=some x):i=j:=by
 obtain ⟨h1,e1⟩:=List.getElem?_eq_some_iff.mp a
 obtain ⟨h2,e2⟩:=List.getElem?_eq_some_iff.mp b
 exact (List.getElem_inj hN).mp (e1.trans e2.symm)
theorem aFR {M:Model} {A:Around} {E:Value→Shared→Prop} {i:Nat} {x:Str} {v:V} {u:Value} {Q:Unit→Shared→Prop} (I:Inv X pins σ H s) (hN:X.N.Nodup) (hi:X.N[i]?=some x) (hx:Loc X.env.scope x) (r:RelV v u)
  (h:∀ s',Inv X pins (σ.set i (some v)) H s'→(∃ a,Heap.SameBut a s.heap s'.heap∧(a=X.env.locals∨X.env.cells.lookup x=some a))→Q () s') (hf:X.fn x=true∨X.env.scope.names.lookup x=some .local:=by first | exact .inl rfl | exact .inr rfl | assumption):wpAny M A (storeName X.env x u) Q E s:=by
 obtain ⟨m,hn,hl⟩:=id I.loc
 have hcls:(X.env.scope.kind == .class || (X.env.scope.kind == .module && X.env.locals != X.env.globals))=false:=by rw [I.ok.kind]; rfl
 have hiσ:i < σ.length:=by rw [I.len]; exact (List.getElem?_eq_some_iff.mp hi).1
 have cne:=I.cne
 have tracked:∀ {a:Addr} {h':Heap},(∃ o,s.heap.get? a=some o∧H a=none)→Heap.SameBut a s.heap h'→HOk X.prog X.w H h':=fun {a h'} ha hs b ob e=>by
  obtain ⟨_,_,hfree⟩:=ha
  refine (I.hok b ob e).stay (fun c w' hc q=>(hs.2 c ?_).trans q) (fun _ q=>q) fun _ _ q=>q
  rintro rfl
  rcases hc with rfl | hc
  ·rw [hfree] at e; cases e
  ·rw [hfree] at hc; cases hc
 rcases hx with hk | hk
 ·refine wpAny_storeName_local hk hn (fun h' hn' hs=>?_) hcls
  obtain ⟨oL,_,_,hoL,_⟩:=id hn
  refine h _ ⟨I.ok,I.os,I.bare,⟨fun b o e n hb hx=>?_,fun b o e n hb hx=>?_,I.base.free,fun b o e hx=>?_,I.base.tups,I.base.frzs,I.base.tbls⟩,⟨_,hn',fun j y v' e1 e2 e3=>?_⟩,fun y c e=>?_,I.free,I.freeC,fun p hp=>?_,tracked ⟨oL,hoL,I.free⟩ hs,by simpa using I.len⟩ ⟨_,hs,.inl rfl⟩
  ·exact (hs.2 b (Nat.ne_of_lt (Nat.lt_of_lt_of_le (Heap.lt_size e) I.ok.above))).trans (I.base.keep b o e n hb hx)
  ·obtain ⟨sl,e1⟩:=I.base.slot b o e n hb hx
   exact ⟨sl,(hs.2 b (Nat.ne_of_lt (Nat.lt_of_lt_of_le (Heap.lt_size e) I.ok.above))).trans e1⟩
  ·obtain ⟨o',e1⟩:=I.base.there b o e hx
   exact ⟨o',(hs.2 b (Nat.ne_of_lt (Nat.lt_of_lt_of_le (Heap.lt_size e) I.ok.above))).trans e1⟩
  ·by_cases hj:j=i
   ·subst hj
    rw [hi] at e1; cases e1
    rw [List.getElem?_set_self hiσ] at e2
    cases e2
    exact ⟨u,r,.inl ⟨hk,by simp⟩⟩
   ·rw [List.getElem?_set_ne (Ne.symm hj)] at e2
    obtain ⟨u',r',q⟩:=hl j y v' e1 e2 e3
    refine ⟨u',r',?_⟩
    rcases q with ⟨k,e⟩ | ⟨k,c,e,z⟩
    ·refine .inl ⟨k,?_⟩
     have:y≠x:=fun e=>hj (aAV hN e1 (e ▸ hi))
     simp [this,e]
    ·exact .inr ⟨k,c,e,z.sameBut hs (cne y c e)⟩
  ·obtain ⟨w',z⟩:=I.cell y c e
   exact ⟨w',z.sameBut hs (cne y c e)⟩
  ·obtain ⟨e,n,ne,nf,d⟩:=I.pin p hp
   exact ⟨(hs.2 p.1 ne).trans e,n,ne,nf,d⟩
 ·have hfn:X.fn x=true:=by
   rcases hf with z | z
   ·exact z
   ·rw [z] at hk; cases hk
  obtain ⟨c,hc⟩:=I.ok.has x (.inl hk)
  obtain ⟨w',z⟩:=I.cell x c hc
  refine wpAny_storeName_cell I.ok.kind hk hc z (fun h' hc' hs=>?_)
  obtain ⟨oc,hoc,hocd⟩:=id z
  refine h { s with heap:=h' } ⟨I.ok,I.os,I.bare,⟨fun b o e n hb hx=>?_,fun b o e n hb hx=>?_,I.base.free,fun b o e hx=>?_,I.base.tups,I.base.frzs,I.base.tbls⟩,⟨m,hn.sameBut hs (Ne.symm (cne x c hc)),fun j y v' e1 e2 e3=>?_⟩,fun y c' e=>?_,I.free,I.freeC,fun p hp=>?_,tracked ⟨oc,hoc,I.freeC x c hc⟩ hs,by simpa using I.len⟩ ⟨c,hs,.inr hc⟩
  ·exact (hs.2 b (Nat.ne_of_lt (Nat.lt_of_lt_of_le (Heap.lt_size e) (I.ok.cab x c hfn hc)))).trans (I.base.keep b o e n hb hx)
  ·obtain ⟨sl,e1⟩:=I.base.slot b o e n hb hx
   exact ⟨sl,(hs.2 b (Nat.ne_of_lt (Nat.lt_of_lt_of_le (Heap.lt_size e) (I.ok.cab x c hfn hc)))).trans e1⟩
  ·obtain ⟨o',e1⟩:=I.base.there b o e hx
   exact ⟨o',(hs.2 b (Nat.ne_of_lt (Nat.lt_of_lt_of_le (Heap.lt_size e) (I.ok.cab x c hfn hc)))).trans e1⟩
  ·by_cases hj:j=i
   ·subst hj
    rw [hi] at e1; cases e1
    rw [List.getElem?_set_self hiσ] at e2
    cases e2
    exact ⟨u,r,.inr ⟨.inl hk,c,hc,hc'⟩⟩
   ·rw [List.getElem?_set_ne (Ne.symm hj)] at e2
    obtain ⟨u',r',q⟩:=hl j y v' e1 e2 e3
    refine ⟨u',r',?_⟩
    rcases q with q | ⟨k,c',e,z'⟩
    ·exact .inl q
    ·refine .inr ⟨k,c',e,z'.sameBut hs ?_⟩
     rintro rfl
     exact hj (aAV hN e1 (I.ok.inj _ _ _ e hc ▸ hi))
  ·by_cases hcc:c'=c
   ·subst hcc; exact ⟨_,hc'⟩
   ·obtain ⟨w2,z2⟩:=I.cell y c' e
    exact ⟨w2,z2.sameBut hs hcc⟩
  ·obtain ⟨e,n,ne,nf,d⟩:=I.pin p hp
   refine ⟨(hs.2 p.1 ?_).trans e,n,ne,nf,d⟩
   intro q
   rw [q,hoc] at e
   have q':oc=p.2:=Option.some.inj e
   exact d w' (by rw [← q']; exact hocd)
theorem yj {M:Model} {A:Around} {E:Value→Shared→Prop} {i:Nat} {x:Str} {v:V} {u:Value} {Q:Unit→Shared→Prop} (I:Inv X pins σ H s) (hN:X.N.Nodup) (hi:X.N[i]?=some x) (hx:Loc X.env.scope x) (r:RelV v u)
  (h:∀ s',Inv X pins (σ.set i (some v)) H s'→Q () s') (hf:X.fn x=true∨X.env.scope.names.lookup x=some .local:=by first | exact .inl rfl | exact .inr rfl | assumption):wpAny M A (storeName X.env x u) Q E s :=
 aFR I hN hi hx r (fun s' I' _=>h s' I') hf
theorem Inv.call' {s':Shared} {ch:List Addr} (I:Inv X pins σ H s) (ho:s'.os=s.os) (u:Un (frs X.stack) ch H H' s.heap s'.heap) (hok:HOk X.prog X.w H' s'.heap) (hg:AllBare s'.gens)
  (hch:∀ b∈ch,(b∈X.ex∨X.s₀.heap.objs.size≤b)∧b≠X.env.locals∧(∀ x c,X.env.cells.lookup x=some c→c≠b)∧∀ p∈X.pn++pins,p.1≠b):Inv X pins σ H' s':=by
 obtain ⟨h',g',d',t',o'⟩:=s'
 have e:o'=s.os:=ho
 subst e
 exact I.call (g':=g') (t':=t') (d':=d') u hok hg hch
end
noncomputable abbrev XK:=Value→Option Addr→Hp→Prop
noncomputable abbrev St:=List (Option V)
noncomputable abbrev VK:=V→Hp→Prop
noncomputable abbrev TE:=St→Hp→VK→Prop
noncomputable abbrev TT:=St→Hp→(Bool→Hp→Prop)→Prop
noncomputable abbrev TA:=St→Hp→(List V→Hp→Prop)→Prop
structure Ends where
 nx:St→Hp→Prop
 rt:VK
 bk:St→Hp→Prop:=fun _ _=>False
 ct:St→Hp→Prop:=fun _ _=>False
noncomputable abbrev TS:=Ends→St→Hp→Prop
noncomputable def EP (X:Cx) (pins:List (Addr×Obj)) (σ:St) (Q:VK) (u:Value) (s':Shared):Prop:=∃ v H',Inv X pins σ H' s'∧RelV v u∧Q v H'
noncomputable def TP (X:Cx) (pins:List (Addr×Obj)) (σ:St) (Q:Bool→Hp→Prop) (b:Bool) (s':Shared):Prop:=∃ H',Inv X pins σ H' s'∧Q b H'
noncomputable def AP (X:Cx) (pins:List (Addr×Obj)) (σ:St) (Q:List V→Hp→Prop) (us:List Value) (s':Shared):Prop:=∃ vs H',Inv X pins σ H' s'∧Vals vs us∧Q vs H'
noncomputable def SP (X:Cx) (pins:List (Addr×Obj)) (D:Ends) (f:Flow) (s':Shared):Prop :=
 match f with
 | .next=>∃ σ' H',Inv X pins σ' H' s'∧D.nx σ' H'
 | .brk=>∃ σ' H',Inv X pins σ' H' s'∧D.bk σ' H'
 | .cont=>∃ σ' H',Inv X pins σ' H' s'∧D.ct σ' H'
 | .ret u=>∃ v σ' H',Inv X pins σ' H' s'∧RelV v u∧D.rt v H'
noncomputable def PE (X:Cx) (e:Expr) (t:TE):Prop :=
 ∀ (pins:List (Addr×Obj)) (s:Shared) (σ:St) (H:Hp) (Q:VK),Inv X pins σ H s→t σ H Q→wpAny (model X.prog X.w) X.A (eval e X.env) (EP X pins σ Q) X.xe s
noncomputable def PT (X:Cx) (e:Expr) (t:TT):Prop :=
 ∀ (pins:List (Addr×Obj)) (s:Shared) (σ:St) (H:Hp) (Q:Bool→Hp→Prop),Inv X pins σ H s→t σ H Q→wpAny (model X.prog X.w) X.A (isTrue e X.env (eval e X.env)) (TP X pins σ Q) X.xe s
noncomputable def PW (X:Cx) (e:Expr) (t:TT):Prop :=
 ∀ (whole:Sem Value) (pins:List (Addr×Obj)) (s:Shared) (σ:St) (H:Hp) (Q:Bool→Hp→Prop),Inv X pins σ H s→t σ H Q→wpAny (model X.prog X.w) X.A (isTrue e X.env whole) (TP X pins σ Q) X.xe s
theorem PW.pt {X:Cx} {e:Expr} {t:TT} (h:PW X e t):PT X e t:=h _
noncomputable def PA (X:Cx) (es:List Expr) (t:TA):Prop :=
 ∀ (pos:Pos) (pins:List (Addr×Obj)) (s:Shared) (σ:St) (H:Hp) (Q:List V→Hp→Prop),Inv X pins σ H s→t σ H Q→wpAny (model X.prog X.w) X.A (spliced (backTo pos (starEach es X.env))) (AP X pins σ Q) X.xe s
noncomputable def PS (X:Cx) (st:Stmt) (t:TS):Prop :=
 ∀ (pins:List (Addr×Obj)) (s:Shared) (σ:St) (H:Hp) (D:Ends),Inv X pins σ H s→t D σ H→wpAny (model X.prog X.w) X.A (exec st X.env) (SP X pins D) X.xe s
noncomputable def PSs (X:Cx) (st:List Stmt) (t:TS):Prop :=
 ∀ (pins:List (Addr×Obj)) (s:Shared) (σ:St) (H:Hp) (D:Ends),Inv X pins σ H s→t D σ H→wpAny (model X.prog X.w) X.A (execs st X.env) (SP X pins D) X.xe s
theorem thn {α:Type} {t:Sem α} {Q Q':α→Shared→Prop} {M:Model} {A:Around} {E:Value→Shared→Prop} {s:Shared} (h:wpAny M A t Q E s) (hQ:∀ a s,Q a s→Q' a s):wpAny M A t Q' E s:=wpAny_mono h hQ fun _ _ x=>x
end L2
namespace L2
open PySem PySem.Spec PyProof.Rows
section
variable {X:Cx}
noncomputable def tVar (i:Nat):TE:=fun σ H Q=>∃ v,σ[i]?=some (some v)∧Q v H
noncomputable def tC (v:V):TE:=fun _ H Q=>Q v H
theorem aIx {i:Nat} {x:Str} {pos:Pos} (hN:X.N[i]?=some x) (hv:Vis X.env.scope x) (hd:(x == ("__debug__":Str))=false:=by decide) (hcd:(x == ("__classdict__":Str))=false:=by decide):PE X (.Name x pos) (tVar i):=by
 intro pins s σ H Q I h
 obtain ⟨v,e,h⟩:=h
 obtain ⟨m,hn,hl⟩:=I.loc
 obtain ⟨u,r,l⟩:=hl i x v hN e hv
 have fin:EP X pins σ Q u s:=⟨v,H,I,r,h⟩
 rcases l with ⟨hk,hm⟩ | ⟨hk,c,hc,hcell⟩
 ·exact wpAny_Name (wpAny_loadName_local I.ok.kind hk hn hm fin) hd
 ·rcases hk with hk | hk
  ·exact wpAny_Name (wpAny_loadName_cell I.ok.kind hk hc hcell fin) hd
  ·exact wpAny_Name (wpAny_loadName_free I.ok.kind hk hc hcell fin hcd) hd
theorem zD {i j pos}:PE X (.Constant (.int i) j pos) (tC (.int i)):=fun _ _ _ H _ I h=>wpAny_Constant_int ⟨.int i,H,I.tok _,⟨_,rfl⟩,h⟩
theorem pe_bl {b j pos}:PE X (.Constant (.bool b) j pos) (tC (.bl b)):=fun _ _ _ H _ I h=>Constant_bool ⟨.bl b,H,I,rfl,h⟩
theorem aIy {j pos}:PE X (.Constant .none j pos) (tC .non):=fun _ _ _ H _ I h=>Constant_none ⟨.non,H,I,rfl,h⟩
theorem jZ {x j pos}:PE X (.Constant (.str x) j pos) (tC (.str x)):=fun _ _ _ H _ I h=>Calls.Constant_str ⟨.str x,H,I.tok _,⟨_,rfl⟩,h⟩
noncomputable def Gl (X:Cx) (x:Str):Prop:=X.env.kindOf x=some .globalImplicit
theorem jo {E:Value→Shared→Prop} {pins:List (Addr×Obj)} {s:Shared} {σ:St} {H:Hp} {x:Str} {u:Value} {pos:Pos} {Q:Value→Shared→Prop} (I:Inv X pins σ H s) (hg:Gl X x) (hm:X.mg x=some u) (h:Q u s)
  (hd:(x == ("__debug__":Str))=false:=by decide):wpAny (model X.prog X.w) X.A (eval (.Name x pos) X.env) Q E s :=
 Calls.Name_function_global I.ok.kind hg (Calls.loadGlobal_global (by rw [I.ok.glob]; exact I.mod.glob.keeps I.bk) hm h) hd
theorem qj {E:Value→Shared→Prop} {pins:List (Addr×Obj)} {s:Shared} {σ:St} {H:Hp} {x:Str} {u:Value} {pos:Pos} {Q:Value→Shared→Prop} (I:Inv X pins σ H s) (hg:Gl X x) (hm:X.mg x=none) (hv:bootBuiltins x=some u) (h:Q u s)
  (hn:x≠"__name__":=by decide) (hd:(x == ("__debug__":Str))=false:=by decide):wpAny (model X.prog X.w) X.A (eval (.Name x pos) X.env) Q E s:=by
 obtain ⟨mb,h1,h2⟩:=I.mod.blt
 exact Calls.Name_function_global I.ok.kind hg (Calls.loadGlobal_builtin (by rw [I.ok.glob]; exact I.mod.glob.keeps I.bk) hm (by rw [I.ok.blt]; exact h1.keeps I.bk) ((h2 x hn).trans hv) h) hd
theorem jM {x:Str} {v:V} {u:Value} {pos:Pos} (hg:Gl X x) (hm:X.mg x=some u) (r:RelV v u) (hd:(x == ("__debug__":Str))=false:=by decide):PE X (.Name x pos) (tC v) :=
 fun _ _ _ H _ I h=>jo I hg hm ⟨v,H,I,r,h⟩ hd
theorem aFS {x:Str} {v:V} {u:Value} {pos:Pos} (hg:Gl X x) (hm:X.mg x=none) (hv:bootBuiltins x=some u) (r:RelV v u) (hn:x≠"__name__":=by decide) (hd:(x == ("__debug__":Str))=false:=by decide):PE X (.Name x pos) (tC v) :=
 fun _ _ _ H _ I h=>qj I hg hm hv ⟨v,H,I,r,h⟩ hn hd
variable {a b:Expr} {ta tb:TE} {pos:Pos}
noncomputable def tB (t:TE):TT:=fun σ H Q=>t σ H fun x H1=>∃ c,x=.bl c∧Q c H1
theorem qY {e:Expr} {t:TE} (h:PE X e t) (he:∀ whole,isTrue e X.env whole=(do let v ← whole; standAt e.pos; holding [v] (truthy v)):=by intro _; rfl):PT X e (tB t):=by
 intro pins s σ H Q I hw
 refine isTrue_plain (thn (h pins s σ H _ I hw) fun v s1 ⟨x,H1,I1,r1,q1⟩=>?_) (he _)
 obtain ⟨d,rfl,q⟩:=q1
 cases r1
 exact wpAny_truthy_bool ⟨H1,I1,q⟩
variable {tA tB':TT} {rest:List Expr}
noncomputable def tAnd (t u:TT):TT:=fun σ H Q=>t σ H fun c H1=>if c=true then u σ H1 Q else Q false H1
noncomputable def tOr (t u:TT):TT:=fun σ H Q=>t σ H fun c H1=>if c=true then Q true H1 else u σ H1 Q
noncomputable def tNot (t:TT):TT:=fun σ H Q=>t σ H fun c H1=>Q (!c) H1
theorem qb (ha:PT X a tA):PW X (.BoolOp .And [a] pos) tA:=by
 intro wh pins s σ H Q I h
 refine isTrue_and (thn (ha pins s σ H Q I h) fun c s1 e=>?_)
 cases c with
 | true=>exact isTrue_and_nil e
 | false=>exact e
theorem aFT (ha:PT X a tA):PW X (.BoolOp .Or [a] pos) tA:=by
 intro wh pins s σ H Q I h
 refine isTrue_or (thn (ha pins s σ H Q I h) fun c s1 e=>?_)
 cases c with
 | false=>exact isTrue_or_nil e
 | true=>exact e
theorem ja (ha:PT X a tA) (hb:PW X (.BoolOp .And (b :: rest) pos) tB'):PW X (.BoolOp .And (a :: b :: rest) pos) (tAnd tA tB'):=by
 intro wh pins s σ H Q I h
 refine isTrue_and (thn (ha pins s σ H _ I h) fun c s1 ⟨H1,I1,q1⟩=>?_)
 cases c with
 | true=>exact hb wh pins s1 σ H1 Q I1 q1
 | false=>exact ⟨H1,I1,q1⟩
theorem pw_or (ha:PT X a tA) (hb:PW X (.BoolOp .Or (b :: rest) pos) tB'):PW X (.BoolOp .Or (a :: b :: rest) pos) (tOr tA tB'):=by
 intro wh pins s σ H Q I h
 refine isTrue_or (thn (ha pins s σ H _ I h) fun c s1 ⟨H1,I1,q1⟩=>?_)
 cases c with
 | true=>exact ⟨H1,I1,q1⟩
 | false=>exact hb wh pins s1 σ H1 Q I1 q1
theorem qk (ha:PT X a tA):PT X (.UnaryOp .Not a pos) (tNot tA):=by
 intro pins s σ H Q I h
 exact isTrue_not (ha pins s σ H (fun c H1=>Q (!c) H1) I h)
noncomputable def tAndV (ta tb:TE):TE:=fun σ H Q=>ta σ H fun x H1=>∃ c,x=.bl c∧if c=true then tb σ H1 Q else Q (.bl false) H1
noncomputable def tOrV (ta tb:TE):TE:=fun σ H Q=>ta σ H fun x H1=>∃ c,x=.bl c∧if c=true then Q (.bl true) H1 else tb σ H1 Q
noncomputable def tNotV (ta:TE):TE:=fun σ H Q=>ta σ H fun x H1=>∃ c,x=.bl c∧Q (.bl (!c)) H1
theorem aFU {op} {t:TE} (h:PE X a t):PE X (.BoolOp op [a] pos) t:=fun pins s σ H Q I hw=>BoolOp_one (h pins s σ H Q I hw)
theorem aFV (ha:PE X a ta) (hb:PE X (.BoolOp .And (b :: rest) pos) tb):PE X (.BoolOp .And (a :: b :: rest) pos) (tAndV ta tb):=by
 intro pins s σ H Q I h
 refine BoolOp_and (thn (ha pins s σ H _ I h) fun v s1 ⟨x,H1,I1,r1,q1⟩=>?_)
 obtain ⟨c,rfl,q1⟩:=q1
 cases r1
 refine wpAny_truthy_bool ?_
 cases c with
 | true=>exact hb pins s1 σ H1 Q I1 q1
 | false=>exact ⟨.bl false,H1,I1,rfl,q1⟩
theorem pe_or (ha:PE X a ta) (hb:PE X (.BoolOp .Or (b :: rest) pos) tb):PE X (.BoolOp .Or (a :: b :: rest) pos) (tOrV ta tb):=by
 intro pins s σ H Q I h
 refine BoolOp_or (thn (ha pins s σ H _ I h) fun v s1 ⟨x,H1,I1,r1,q1⟩=>?_)
 obtain ⟨c,rfl,q1⟩:=q1
 cases r1
 refine wpAny_truthy_bool ?_
 cases c with
 | false=>exact hb pins s1 σ H1 Q I1 q1
 | true=>exact ⟨.bl true,H1,I1,rfl,q1⟩
theorem aIz (ha:PE X a ta):PE X (.UnaryOp .Not a pos) (tNotV ta):=by
 intro pins s σ H Q I h
 refine UnaryOp_ (thn (ha pins s σ H _ I h) fun v s1 ⟨x,H1,I1,r1,q1⟩=>?_)
 obtain ⟨c,rfl,q1⟩:=q1
 cases r1
 exact not_of (wpAny_truthy_bool ⟨.bl (!c),H1,I1,rfl,q1⟩)
end
end L2
namespace L2
open PySem PySem.Spec PyProof.Rows
noncomputable def SqL (K:PySem.W.Frag) (H:Hp) (a:Addr) (xs:List V):Prop :=
 Rd H a (.lst xs) ∨
  ∃ (o:Obj) (its:Array Value) (n:Nat),K.lookup a=some o∧o.cls=.type "list"∧o.dict=none∧o.data=.seq its n∧its.size≤sizeLine∧Vals xs its.toList
noncomputable def SqT (K:PySem.W.Frag) (H:Hp) (a:Addr) (xs:List V):Prop :=
 Rd H a (.tup xs) ∨
  ∃ (o:Obj) (its:Array Value) (n:Nat),K.lookup a=some o∧o.cls=.type "tuple"∧o.data=.seq its n∧its.size≤sizeLine∧Vals xs its.toList
noncomputable def absV:Value→Option V
 | .none=>some .non
 | .bool b=>some (.bl b)
 | .int i _=>some (.int i)
 | .str x _=>some (.str x)
 | .bytes b _=>some (.byt b)
 | .float b _=>some (.flt b)
 | .ref a=>some (.ref a)
 | .type n=>some (.ty n)
 | _=>none
theorem RelV.abs {x:V} {u:Value} (r:RelV x u):absV u=some x:=by
 cases x with
 | non=>cases r; rfl
 | bl _=>cases r; rfl
 | int _=>obtain ⟨t,rfl⟩:=r; rfl
 | str _=>obtain ⟨t,rfl⟩:=r; rfl
 | byt _=>obtain ⟨t,rfl⟩:=r; rfl
 | flt _=>obtain ⟨t,rfl⟩:=r; rfl
 | ref _=>cases r; rfl
 | ty _=>cases r; rfl
theorem RelV.inj {x y:V} {u:Value} (r:RelV x u) (q:RelV y u):x=y:=Option.some.inj (r.abs.symm.trans q.abs)
theorem Vals.inj:∀ {xs ys:List V} {us:List Value},Vals xs us→Vals ys us→xs=ys
 | _,_,_,.nil,.nil=>rfl
 | _,_,_,.cons r t,.cons r' t'=>by rw [r.inj r',Vals.inj t t']
section
variable {X:Cx} {pins:List (Addr×Obj)} {σ:St} {H:Hp} {s:Shared} {a:Addr} {xs ys:List V}
theorem SqL.of {K:PySem.W.Frag} (h:H a=some (.lst xs)):SqL K H a xs:=.inl (.inl h)
theorem SqT.of {K:PySem.W.Frag} (h:H a=some (.tup xs)):SqT K H a xs:=.inl (.inl h)
theorem Inv.list (I:Inv X pins σ H s) (h:SqL X.K H a xs):∃ its:List Value,Vals xs its∧PlainL s.heap a its.toArray∧xs.length≤sizeLine:=by
 rcases h with h | ⟨o,its,n,hk,hc,hd,hs,hz,r⟩
 ·obtain ⟨z,its,n,r,e⟩:=h.ok I.hok
  exact ⟨its,r,⟨_,n,e,rfl,rfl,rfl⟩,z⟩
 ·refine ⟨its.toList,r,⟨o,n,I.kIn a o hk,hc,hd,by simpa using hs⟩,?_⟩
  have e:=r.length
  simp only [Array.length_toList] at e
  lia
theorem Inv.tuple (I:Inv X pins σ H s) (h:SqT X.K H a xs):∃ its:List Value,Vals xs its∧IsTup s.heap a its.toArray∧xs.length≤sizeLine:=by
 rcases h with h | ⟨o,its,n,hk,hc,hs,hz,r⟩
 ·obtain ⟨z,its,r,p⟩:=h.ok I.hok
  exact ⟨its,r,p,z⟩
 ·refine ⟨its.toList,r,⟨o,I.kIn a o hk,hc,n,by simpa using hs⟩,?_⟩
  have e:=r.length
  simp only [Array.length_toList] at e
  lia
theorem Inv.list_inj (I:Inv X pins σ H s) (h:SqL X.K H a xs) (h':SqL X.K H a ys):xs=ys:=by
 obtain ⟨its,r,⟨o,n,e,_,_,d⟩,_⟩:=I.list h
 obtain ⟨its',r',⟨o',n',e',_,_,d'⟩,_⟩:=I.list h'
 rw [e] at e'; cases e'
 rw [d] at d'
 injection d' with d1 _
 have:its=its':=by simpa using congrArg Array.toList d1
 subst this
 exact r.inj r'
theorem Inv.tuple_inj (I:Inv X pins σ H s) (h:SqT X.K H a xs) (h':SqT X.K H a ys):xs=ys:=by
 obtain ⟨its,r,⟨o,e,_,n,d⟩,_⟩:=I.tuple h
 obtain ⟨its',r',⟨o',e',_,n',d'⟩,_⟩:=I.tuple h'
 rw [e] at e'; cases e'
 rw [d] at d'
 injection d' with d1 _
 have:its=its':=by simpa using congrArg Array.toList d1
 subst this
 exact r.inj r'
end
noncomputable abbrev Cx.wish (X:Cx) (E:Value→Shared→Prop):Cx:={ X with xe:=E }
noncomputable abbrev Cx.nox (X:Cx):Cx:=X.wish fun _ _=>False
theorem Cx.Ok.wish {X:Cx} (ok:X.Ok) (E:Value→Shared→Prop):(X.wish E).Ok :=
 ⟨ok.mod,ok.kind,ok.glob,ok.blt,ok.above,ok.inj,ok.has,ok.cab,ok.hd,ok.frames,ok.stk,ok.exf,ok.bs,ok.bsz,ok.noex,ok.exfs,ok.funs,ok.frf⟩
theorem Cx.Ok.unwish {X:Cx} {E:Value→Shared→Prop} (ok:(X.wish E).Ok):X.Ok :=
 ⟨ok.mod,ok.kind,ok.glob,ok.blt,ok.above,ok.inj,ok.has,ok.cab,ok.hd,ok.frames,ok.stk,ok.exf,ok.bs,ok.bsz,ok.noex,ok.exfs,ok.funs,ok.frf⟩
section
variable {X:Cx} {pins:List (Addr×Obj)} {σ:St} {H:Hp} {s:Shared} {E:Value→Shared→Prop}
theorem Inv.wish (I:Inv X pins σ H s) (E:Value→Shared→Prop):Inv (X.wish E) pins σ H s:=⟨I.ok.wish E,I.os,I.bare,I.base,I.loc,I.cell,I.free,I.freeC,I.pin,I.hok,I.len⟩
theorem Inv.unwish (I:Inv (X.wish E) pins σ H s):Inv X pins σ H s:=⟨I.ok.unwish,I.os,I.bare,I.base,I.loc,I.cell,I.free,I.freeC,I.pin,I.hok,I.len⟩
theorem SP.unwish {D:Ends} {f:Flow} {s':Shared} (h:SP (X.wish E) pins D f s'):SP X pins D f s':=by
 cases f with
 | next=>obtain ⟨σ',H',I,q⟩:=h; exact ⟨σ',H',I.unwish,q⟩
 | brk=>obtain ⟨σ',H',I,q⟩:=h; exact ⟨σ',H',I.unwish,q⟩
 | cont=>obtain ⟨σ',H',I,q⟩:=h; exact ⟨σ',H',I.unwish,q⟩
 | ret u=>obtain ⟨v,σ',H',I,r,q⟩:=h; exact ⟨v,σ',H',I.unwish,r,q⟩
theorem PSs.nox {st:List Stmt} {t:TS} (h:PSs X.nox st t):PSs X st t:=fun pins s σ H D I hw =>
 wpAny_mono (h pins s σ H D (I.wish _) hw) (fun _ _ q=>q.unwish) fun _ _ z=>False.elim z
end
section
variable {X:Cx} {st:Stmt} {rest:List Stmt} {t u:TS} {e:Expr} {te:TE} {pos:Pos}
noncomputable def tNext:TS:=fun D σ H=>D.nx σ H
noncomputable def tSeq (t u:TS):TS:=fun D σ H=>t { D with nx:=u D } σ H
theorem yJ:PSs X [] tNext:=fun _ _ σ H _ I h=>wpAny_execs_nil ⟨σ,H,I,h⟩
theorem zG (h1:PS X st t) (h2:PSs X rest u):PSs X (st :: rest) (tSeq t u):=by
 intro pins s σ H D I h
 refine wpAny_execs_cons (thn (h1 pins s σ H { D with nx:=u D } I h) fun f s1 q=>?_)
 cases f with
 | next =>
  obtain ⟨σ',H',I',q⟩:=q
  exact h2 pins s1 σ' H' D I' q
 | ret v=>exact q
 | brk=>exact q
 | cont=>exact q
theorem zI (h1:PS X st t):PSs X [st] t:=by
 intro pins s σ H D I h
 refine wpAny_execs_cons (thn (h1 pins s σ H D I h) fun f s1 q=>?_)
 cases f with
 | next=>exact wpAny_execs_nil q
 | ret v=>exact q
 | brk=>exact q
 | cont=>exact q
theorem Inv.quiet {pins:List (Addr×Obj)} {σ:St} {H:Hp} {s:Shared} (I:Inv X pins σ H s):interactive X.env=false:=by simp [interactive,I.ok.kind]
noncomputable def tDrop (te:TE):TS:=fun D σ H=>te σ H fun _ H1=>D.nx σ H1
theorem qG (he:PE X e te) (hs:swapsWith e none pos.line X.env=pure false:=by rfl):PS X (.Expr e pos) (tDrop te):=by
 intro pins s σ H D I h
 exact wpAny_Expr_any (thn (he pins s σ H _ I h) fun v s1 ⟨x,H1,I1,r1,q1⟩=>⟨σ,H1,I1,q1⟩) I.quiet hs
noncomputable def tRet (te:TE):TS:=fun D σ H=>te σ H D.rt
theorem zT (he:PE X e te):PS X (.Return (some e) pos) (tRet te):=by
 intro pins s σ H D I h
 exact wpAny_Return_some (thn (he pins s σ H _ I h) fun v s1 ⟨x,H1,I1,r1,q1⟩=>⟨x,σ,H1,I1,r1,q1⟩)
noncomputable def tIfS (c:TT) (t u:TS):TS:=fun D σ H=>c σ H fun b H1=>if b=true then t D σ H1 else u D σ H1
theorem ps_if {c:Expr} {a b:List Stmt} {tc:TT} (hc:PT X c tc) (ha:PSs X a t) (hb:PSs X b u):PS X (.If c a b pos) (tIfS tc t u):=by
 intro pins s σ H D I h
 refine wpAny_If (thn (hc pins s σ H _ I h) fun d s1 ⟨H1,I1,q1⟩=>?_)
 cases d with
 | true=>exact ha pins s1 σ H1 D I1 q1
 | false=>exact hb pins s1 σ H1 D I1 q1
end
noncomputable abbrev TG:=V→St→Hp→(St→Hp→Prop)→Prop
noncomputable abbrev TGs:=List V→St→Hp→(St→Hp→Prop)→Prop
noncomputable def PG (X:Cx) (target:Expr) (t:TG):Prop :=
 ∀ (pins:List (Addr×Obj)) (s:Shared) (σ:St) (H:Hp) (v:V) (u:Value) (Q:St→Hp→Prop),Inv X pins σ H s→RelV v u→t v σ H Q →
  wpAny (model X.prog X.w) X.A (assign target X.env u) (fun _ s'=>∃ σ' H',Inv X pins σ' H' s'∧Q σ' H') X.xe s
noncomputable def PGs (X:Cx) (ts:List Expr) (t:TGs):Prop :=
 ∀ (pins:List (Addr×Obj)) (s:Shared) (σ:St) (H:Hp) (vs:List V) (us:List Value) (Q:St→Hp→Prop),Inv X pins σ H s→Vals vs us→t vs σ H Q →
  wpAny (model X.prog X.w) X.A (assignInOrder ((assignEach ts X.env).map (·.2)) us) (fun _ s'=>∃ σ' H',Inv X pins σ' H' s'∧Q σ' H') X.xe s
noncomputable abbrev TIp:=V→V→Hp→VK→Prop
noncomputable def PIp (X:Cx) (op:Operator) (t:TIp):Prop :=
 ∀ (pins:List (Addr×Obj)) (s:Shared) (σ:St) (H:Hp) (x y:V) (v u:Value) (Q:VK),Inv X pins σ H s→RelV x v→RelV y u→t x y H Q →
  wpAny (model X.prog X.w) X.A (inplaceOp op v u) (EP X pins σ Q) X.xe s
section
variable {X:Cx} {pos:Pos}
noncomputable def gName (i:Nat):TG:=fun v σ H Q=>Q (σ.set i (some v)) H
theorem zM {i:Nat} {x:Str} (hN:X.N.Nodup) (hi:X.N[i]?=some x) (hx:Loc X.env.scope x) (hf:X.fn x=true∨X.env.scope.names.lookup x=some .local:=by first | exact .inl rfl | exact .inr rfl | assumption):PG X (.Name x pos) (gName i):=by
 intro pins s σ H v u Q I r h
 exact wpAny_assign_Name (yj I hN hi hx r (fun s' I'=>⟨_,H,I',h⟩) hf)
noncomputable def gNil:TGs:=fun vs σ H Q=>vs=[]∧Q σ H
noncomputable def gCons (t:TG) (u:TGs):TGs:=fun vs σ H Q=>∃ v r,vs=v :: r∧t v σ H fun σ' H'=>u r σ' H' Q
theorem qH:PGs X [] gNil:=by
 intro pins s σ H vs us Q I r h
 obtain ⟨e,h⟩:=h
 subst e
 cases r
 exact assignInOrder_nil ⟨σ,H,I,h⟩
theorem zd {e:Expr} {es:List Expr} {t:TG} {u:TGs} (h1:PG X e t) (h2:PGs X es u)
  (hs:(assignEach (e :: es) X.env).map (·.2)=assign e X.env :: (assignEach es X.env).map (·.2):=by rfl):PGs X (e :: es) (gCons t u):=by
 intro pins s σ H vs us Q I r h
 obtain ⟨v,vr,e1,h⟩:=h
 subst e1
 cases r with
 | cons r rr =>
  rw [hs]
  refine assignInOrder_cons (thn (h1 pins s σ H _ _ _ I r h) fun _ s1 ⟨σ1,H1,I1,q1⟩=>?_)
  exact h2 pins s1 σ1 H1 _ _ Q I1 rr q1
noncomputable def gTup (K:PySem.W.Frag) (n:Nat) (t:TGs):TG:=fun v σ H Q=>∃ a xs,v=.ref a∧SqT K H a xs∧xs.length=n∧t xs σ H Q
theorem jc {es:List Expr} {k:Nat} {t:TGs} {n:Nat} (hc:X.calm=true) (h:PGs X es t)
  (hn:(assignEach es X.env).length=n:=by rfl) (hst:(assignEach es X.env).findIdx? (·.1)=none:=by rfl):PG X (.Tuple es k pos) (gTup X.K n t):=by
 intro pins s σ H v u Q I r hw
 obtain ⟨a,xs,e1,hq,hl,hw⟩:=hw
 subst e1
 cases r
 obtain ⟨its,rv,ht,hz⟩:=I.tuple hq
 refine assign_Tuple_tuple (I.ok.hd hc) ht (by simp [hn,← hl,rv.length]) hst fun h' hx=>?_
 have I1:Inv X pins σ H { s with heap:=h' }:=I.kept (t':=s.toks) fun b o e=>hx b o (Nat.ne_of_lt (Heap.lt_size e)) e
 exact h pins _ σ H xs _ Q I1 (by simpa using rv) hw
noncomputable def tAsg (te:TE) (g:TG):TS:=fun D σ H=>te σ H fun x H1=>g x σ H1 D.nx
theorem aJ0 {tg e:Expr} {te:TE} {g:TG} (he:PE X e te) (hg:PG X tg g) (hs:swapsWithSole [tg] e pos.line X.env=pure false:=by rfl) (hw:swappedStores [tg] e X.env=pure none:=by rfl)
  (h1:(assignEach [tg] X.env).map (·.2)=[assign tg X.env]:=by rfl):PS X (.Assign [tg] e pos) (tAsg te g):=by
 intro pins s σ H D I h
 refine wpAny_Assign_stores (thn (he pins s σ H _ I h) fun v s1 ⟨x,H1,I1,r1,q1⟩=>?_) hs hw
 rw [h1]
 exact thn (hg pins s1 σ H1 x v _ I1 r1 q1) fun _ s2 q=>q
theorem zP {i:Nat} {x:Str} {e:Expr} {te:TE} {pos':Pos} (hN:X.N.Nodup) (hi:X.N[i]?=some x) (hx:Loc X.env.scope x) (he:PE X e te) (hs:swapsWith e (some (.Name x pos')) pos.line X.env=pure false:=by rfl) (hf:X.fn x=true∨X.env.scope.names.lookup x=some .local:=by first | exact .inl rfl | exact .inr rfl | assumption) :
  PS X (.Assign [.Name x pos'] e pos) (tAsg te (gName i)):=by
 intro pins s σ H D I h
 refine wpAny_Assign_Name (thn (he pins s σ H _ I h) fun v s1 ⟨y,H1,I1,r1,q1⟩=>?_) hs
 exact yj I1 hN hi hx r1 (fun s2 I2=>⟨_,H1,I2,q1⟩) hf
noncomputable def tPar (i j:Nat) (ta:TA):TS:=fun D σ H=>ta σ H fun vs H1=>∃ v w,vs=[v,w]∧D.nx ((σ.set i (some v)).set j (some w)) H1
theorem aJ1 {i j:Nat} {x y:Str} {a b:Expr} {ta:TA} {px py pt:Pos} {kt k2 pt2} (hc:X.calm=true) (hN:X.N.Nodup) (hi:X.N[i]?=some x) (hj:X.N[j]?=some y) (hij:i≠j)
  (hx:X.env.scope.names.lookup x=some .local) (hy:X.env.scope.names.lookup y=some .local) (ha:PA X [a,b] ta)
  (hw:swappedStores [.Tuple [.Name x px,.Name y py] kt pt] (.Tuple [a,b] k2 pt2) X.env=pure (some [x,y]))
  (hs:swapsWithSole [.Tuple [.Name x px,.Name y py] kt pt] (.Tuple [a,b] k2 pt2) pos.line X.env=pure false:=by rfl) :
  PS X (.Assign [.Tuple [.Name x px,.Name y py] kt pt] (.Tuple [a,b] k2 pt2) pos) (tPar i j ta):=by
 intro pins s σ H D I h
 rw [exec_Assign_arm]
 refine wpAny_bind (wpAny_standAt ?_)
 rw [hs]
 refine wpAny_bind (wpAny_pure ?_)
 rw [if_neg (by decide)]
 refine wpAny_bind (Tuple_ (thn (ha _ pins s σ H _ I h) fun us s1 ⟨vs,H1,I1,r1,q1⟩=>?_))
 obtain ⟨v,w,e1,q1⟩:=q1
 subst e1
 obtain ⟨u1,u2,rfl,rv,rw'⟩:∃ u1 u2,us=[u1,u2]∧RelV v u1∧RelV w u2:=by
  cases r1 with
  | cons p q =>
   cases q with
   | cons p' q' =>
    cases q'
    exact ⟨_,_,rfl,p,p'⟩
 refine wpAny_newObj_type ?_ (by show 2≤sizeLine; decide)
 have I2:Inv X pins σ H1 { s1 with heap:=s1.heap.push { cls:=.type "tuple",data:=.seq [u1,u2].toArray } }:=I1.kept (t':=s1.toks) fun b o e=>Heap.get?_push_of_some _ e
 rw [hw]
 refine wpAny_bind (wpAny_pure ?_)
 show wpAny (model X.prog X.w) X.A (do rule "assign.swapped-stores"; let items ← unpackItems (.ref s1.heap.objs.size) 2 none; assignInOrder [fun v=>bindName X.env y v,fun v=>bindName X.env x v] items.reverse; pure Flow.next) _ _ _
 refine wpAny_bind (wpAny_rule (wpAny_bind (unpackItems_tuple (items:=#[u1,u2]) (I.ok.hd hc) (IsTup.new s1.heap _) fun h' hx'=>?_)))
 have I3:=I2.kept (h':=h') (t':=s1.toks) fun b o e=>hx' b o (Nat.ne_of_lt (Heap.lt_size e)) e
 show wpAny _ _ (assignInOrder [fun v=>bindName X.env y v,fun v=>bindName X.env x v] [u2,u1] >>= fun _=>pure Flow.next) _ _ _
 refine wpAny_bind (assignInOrder_cons (wpAny_bindName (yj I3 hN hj (.inl hy) rw' (fun s2 I4=>?_) (.inr hy))))
 refine assignInOrder_cons (wpAny_bindName (yj I4 hN hi (.inl hx) rv (fun s3 I5=>assignInOrder_nil (wpAny_pure ?_)) (.inr hx)))
 rw [List.set_comm _ _ (Ne.symm hij)] at I5
 exact ⟨_,H1,I5,q1⟩
noncomputable def tAug (i:Nat) (te:TE) (ti:TIp):TS:=fun D σ H=>∃ x,σ[i]?=some (some x)∧te σ H fun y H1=>ti x y H1 fun z H2=>D.nx (σ.set i (some z)) H2
theorem aFW {i:Nat} {x:Str} {e:Expr} {te:TE} {op:Operator} {ti:TIp} {pos':Pos} (hN:X.N.Nodup) (hi:X.N[i]?=some x) (hx:Loc X.env.scope x) (he:PE X e te) (ho:PIp X op ti) (hf:X.fn x=true∨X.env.scope.names.lookup x=some .local:=by first | exact .inl rfl | exact .inr rfl | assumption) :
  PS X (.AugAssign (.Name x pos') op e pos) (tAug i te ti):=by
 intro pins s σ H D I h
 obtain ⟨v,e1,h⟩:=h
 obtain ⟨m,hn,hl⟩:=I.loc
 have vis:Vis X.env.scope x:=by rcases hx with k | k; exact .inl k; exact .inr (.inl k)
 obtain ⟨u,r,l⟩:=hl i x v hi e1 vis
 refine wpAny_AugAssign_Name ?_
 have go:wpAny (model X.prog X.w) X.A (eval e X.env) (fun w s₂=>wpAny (model X.prog X.w) X.A (inplaceOp op u w) (fun r s₃=>wpAny (model X.prog X.w) X.A (storeName X.env x r) (fun _=>SP X pins D .next) X.xe s₃) X.xe s₂) X.xe s:=by
  refine thn (he pins s σ H _ I h) fun w s1 ⟨y,H1,I1,r1,q1⟩=>?_
  refine thn (ho pins s1 σ H1 v y u w _ I1 r r1 q1) fun z s2 ⟨zv,H2,I2,r2,q2⟩=>?_
  exact yj I2 hN hi hx r2 (fun s3 I3=>⟨_,H2,I3,q2⟩) hf
 rcases l with ⟨hk,hm⟩ | ⟨hk,c,hc,hcell⟩
 ·exact wpAny_loadName_local I.ok.kind hk hn hm go
 ·rcases hk with hk | hk
  ·exact wpAny_loadName_cell I.ok.kind hk hc hcell go
  ·rcases hx with k | k
   ·have:X.env.scope.names.lookup x=some .free:=hk
    rw [k] at this; cases this
   ·have:X.env.scope.names.lookup x=some .free:=hk
    rw [k] at this; cases this
noncomputable def ipI (f:Int→Int→Int):TIp:=fun x y H Q=>∃ i j,x=.int i∧y=.int j∧Q (.int (f i j)) H
theorem aJ2:PIp X .Add (ipI fun i j=>i + j):=by
 intro pins s σ H x y v u Q I r1 r2 h
 obtain ⟨i,j,e1,e2,q⟩:=h
 subst e1; subst e2
 obtain ⟨t,rfl⟩:=r1
 obtain ⟨t',rfl⟩:=r2
 exact iadd_int ⟨.int _,H,I.tok _,⟨_,rfl⟩,q⟩
theorem aHm:PIp X .Sub (ipI fun i j=>i - j):=by
 intro pins s σ H x y v u Q I r1 r2 h
 obtain ⟨i,j,e1,e2,q⟩:=h
 subst e1; subst e2
 obtain ⟨t,rfl⟩:=r1
 obtain ⟨t',rfl⟩:=r2
 exact isub_int ⟨.int _,H,I.tok _,⟨_,rfl⟩,q⟩
end
section
variable {X:Cx} {pos:Pos}
end
structure It where
 go:Nat→Hp→Prop
 yld:Nat→Hp→V→Hp→Prop
 stop:Nat→Hp→Prop
noncomputable def FpOk (X:Cx) (pins:List (Addr×Obj)) (H:Hp) (b:Addr):Prop :=
 H b=none∧b≠X.env.locals∧b ∉ X.fs∧(b∈X.ex∨X.s₀.heap.objs.size≤b)∧(∀ x c,X.env.cells.lookup x=some c→c≠b)∧∀ p∈X.pn++pins,p.1≠b
theorem Inv.fpOk {X:Cx} {pins:List (Addr×Obj)} {σ:St} {H H':Hp} {s:Shared} {b:Addr} (I:Inv X pins σ H s) (hb:s.heap.objs.size≤b) (hn:H' b=none):FpOk X pins H' b:=by
 refine ⟨hn,Nat.ne_of_gt (Nat.lt_of_lt_of_le I.lt hb),I.nofs hb,.inr (Nat.le_trans I.sz hb),fun x c e z=>?_,fun p hp z=>?_⟩
 ·obtain ⟨v,q⟩:=I.cell x c e
  exact absurd (Nat.lt_of_lt_of_le q.lt (by rw [z]; exact hb)) (Nat.lt_irrefl _)
 ·exact absurd (Nat.lt_of_lt_of_le (Heap.lt_size (I.pin p hp).1) (by rw [z]; exact hb)) (Nat.lt_irrefl _)
structure Turn (P:Program) (w:World) (K:PySem.W.Frag) (tg:Expr) (J:It) (fp:List Addr) (it:Addr) (tn:Nat→Heap→Prop):Prop where
 mem:it∈fp
 obj:∀ i h,tn i h→∀ b∈fp,∃ o,h.get? b=some o∧∀ v,o.data≠.cell v
 keep:∀ i h h',tn i h→(∀ b∈fp,∀ o,h.get? b=some o→h'.get? b=some o)→tn i h'
 item:∀ (X:Cx),X.prog=P→X.w=w→X.K=K→X.calm=true→∀ (i:Nat) (pins:List (Addr×Obj)) (s:Shared) (σ:St) (H:Hp) (E:Value→Shared→Prop),Inv X pins σ H s→(∀ b∈fp,FpOk X pins H b)→tn i s.heap→J.go i H →
  wpAny (model P w) X.A (pyNext (.ref it)) (fun r s1=>∃ u,r=some u ∧
   wpAny (model P w) X.A (letOwnedTupleGo tg (.ref it) u) (fun _ s2=>∃ x H',Inv X pins σ H' s2∧RelV x u∧J.yld i H x H'∧tn (i + 1) s2.heap∧∀ b∈fp,H' b=none) E s1) E s
 done:∀ (X:Cx),X.prog=P→X.w=w→X.K=K→X.calm=true→∀ (i:Nat) (pins:List (Addr×Obj)) (s:Shared) (σ:St) (H:Hp) (E:Value→Shared→Prop),Inv X pins σ H s→(∀ b∈fp,FpOk X pins H b)→tn i s.heap→J.stop i H →
  wpAny (model P w) X.A (pyNext (.ref it)) (fun r s1=>r=none∧Inv X pins σ H s1) E s
 self:∀ (A:Around) (i:Nat) (s:Shared) (Q:Value→Shared→Prop) (E:Value→Shared→Prop),tn i s.heap→Q (.ref it) s→wpAny (model P w) A (pyIter (.ref it)) Q E s
noncomputable abbrev TI:=St→Hp→(It→Hp→Prop)→Prop
noncomputable def PIE (X:Cx) (pins:List (Addr×Obj)) (σ:St) (tg:Expr) (R:It→Hp→Prop) (itv:Value) (s2:Shared):Prop :=
 ∃ (it:Addr) (fp:List Addr) (tn:Nat→Heap→Prop) (J:It) (H':Hp),itv=.ref it∧Inv X pins σ H' s2∧Turn X.prog X.w X.K tg J fp it tn∧tn 0 s2.heap∧(∀ b∈fp,FpOk X pins H' b)∧R J H'
noncomputable def PI (X:Cx) (tg iter:Expr) (wi:TI):Prop :=
 ∀ (pins:List (Addr×Obj)) (s:Shared) (σ:St) (H:Hp) (R:It→Hp→Prop),Inv X pins σ H s→wi σ H R →
  wpAny (model X.prog X.w) X.A (eval iter X.env) (fun v s1=>wpAny (model X.prog X.w) X.A (pyIter v) (PIE X pins σ tg R) X.xe s1) X.xe s
theorem go_of {M:Model} {A:Around} {E:Value→Shared→Prop} {s:Shared} {tg:Expr} {it:Addr} {u:Value} {o:Obj} {n:String} {vs:Array Value} {Q:Unit→Shared→Prop} (ho:s.heap.get? it=some o) (hc:o.cls=.type n) (hd:o.data=.fields vs)
    (hn:["enumerate","zip","dict_itemiterator","dict_reverseitemiterator","odict_iterator","itertools.zip_longest","itertools.pairwise"].contains n=false) (hQ:Q () s):wpAny M A (letOwnedTupleGo tg (.ref it) u) Q E s:=by
  unfold letOwnedTupleGo
  cases tg <;> first
    | exact wpAny_pure hQ
    | (cases u <;> first
        | exact wpAny_pure hQ
        | (refine wpAny_bind (wpAny_load ho ?_)
           rw [hc,hd]
           show wpAny M A (if (["enumerate","zip","dict_itemiterator","dict_reverseitemiterator","odict_iterator","itertools.zip_longest","itertools.pairwise"].contains n && vs[0]? == some (rawInt _))=true then _ else _) Q E s
           rw [if_neg (by intro h; rw [hn,Bool.false_and] at h; cases h)]
           exact wpAny_pure hQ))
noncomputable def Itl (K:PySem.W.Frag) (a:Addr):It :=
 ⟨fun i H=>∃ xs x,SqL K H a xs∧xs[i]?=some x,fun i H x H'=>H'=H∧∀ xs,SqL K H a xs→xs[i]?=some x,fun i H=>∃ xs,SqL K H a xs∧xs.length≤i⟩
noncomputable def Itt (K:PySem.W.Frag) (a:Addr):It :=
 ⟨fun i H=>∃ xs x,SqT K H a xs∧xs[i]?=some x,fun i H x H'=>H'=H∧∀ xs,SqT K H a xs→xs[i]?=some x,fun i H=>∃ xs,SqT K H a xs∧xs.length≤i⟩
noncomputable def Itr (lo:Int) (n:Nat):It:=⟨fun i _=>i < n,fun i H x H'=>H'=H∧x=.int (lo + i),fun i _=>n≤i⟩
theorem aFX {P:Program} {w:World} {K:PySem.W.Frag} {tg:Expr} (a it:Addr):Turn P w K tg (Itl K a) [it] it (fun i h=>h.IsListIter it a i) where
 mem:=by simp
 obj:=fun i h st b hb=>by
  have e:b=it:=by simpa using hb
  subst e
  obtain ⟨o,e,c,d⟩:=st
  exact ⟨o,e,fun v z=>by rw [d] at z; cases z⟩
 keep:=fun i h h' st k=>st.at fun o e=>k it (by simp) o e
 item:=by
  intro X hP hw hK hc i pins s σ H E I hf st hg
  subst hP hw hK
  obtain ⟨xs,x,hq,hx⟩:=hg
  obtain ⟨its,rv,p,hz⟩:=I.list hq
  obtain ⟨u,hu,ru⟩:=rv.get hx
  obtain ⟨f0,f1,f2,f3,f4,f5⟩:=hf it (by simp)
  refine wpAny_pyNext_list_item st p.isList (x:=u) (by simpa using hu) fun h' st' sb=>?_
  have I1:Inv X pins σ H { s with heap:=h' }:=I.turned (t':=s.toks) (fun b o hb e=>(sb.2 b hb).trans e) f0 f1 f3 f4 f5
  obtain ⟨o,e,c,d⟩:=id st'
  exact ⟨u,rfl,go_of (s:={ s with heap:=h' }) e c d (by decide) ⟨x,H,I1,ru,⟨rfl,fun ys hy=>by rw [I.list_inj hy hq]; exact hx⟩,st',fun b hb=>(hf b hb).1⟩⟩
 done:=by
  intro X hP hw hK hc i pins s σ H E I hf st hg
  subst hP hw hK
  obtain ⟨xs,hq,hx⟩:=hg
  obtain ⟨its,rv,p,hz⟩:=I.list hq
  obtain ⟨f0,f1,f2,f3,f4,f5⟩:=hf it (by simp)
  have hl:=rv.length
  exact wpAny_pyNext_list_end (I.ok.hd hc) st p.isList (by simp; lia) fun h' eb=>⟨rfl,I.turned (t':=s.toks) (fun b o hb e=>eb b o hb e) f0 f1 f3 f4 f5⟩
 self:=fun _ _ _ _ _ st h=>wpAny_pyIter_listiter st h
theorem aEt {P:Program} {w:World} {K:PySem.W.Frag} {tg:Expr} (a it:Addr):Turn P w K tg (Itt K a) [it] it (fun i h=>h.IsTupleIter it a i) where
 mem:=by simp
 obj:=fun i h st b hb=>by
  have e:b=it:=by simpa using hb
  subst e
  obtain ⟨o,e,c,d⟩:=st
  exact ⟨o,e,fun v z=>by rw [d] at z; cases z⟩
 keep:=fun i h h' st k=>st.at fun o e=>k it (by simp) o e
 item:=by
  intro X hP hw hK hc i pins s σ H E I hf st hg
  subst hP hw hK
  obtain ⟨xs,x,hq,hx⟩:=hg
  obtain ⟨its,rv,p,hz⟩:=I.tuple hq
  obtain ⟨u,hu,ru⟩:=rv.get hx
  obtain ⟨f0,f1,f2,f3,f4,f5⟩:=hf it (by simp)
  refine wpAny_pyNext_tuple_item st (show s.heap.IsTuple a its.toArray from p) (x:=u) (by simpa using hu) fun h' st' sb=>?_
  have I1:Inv X pins σ H { s with heap:=h' }:=I.turned (t':=s.toks) (fun b o hb e=>(sb.2 b hb).trans e) f0 f1 f3 f4 f5
  obtain ⟨o,e,c,d⟩:=id st'
  exact ⟨u,rfl,go_of (s:={ s with heap:=h' }) e c d (by decide) ⟨x,H,I1,ru,⟨rfl,fun ys hy=>by rw [I.tuple_inj hy hq]; exact hx⟩,st',fun b hb=>(hf b hb).1⟩⟩
 done:=by
  intro X hP hw hK hc i pins s σ H E I hf st hg
  subst hP hw hK
  obtain ⟨xs,hq,hx⟩:=hg
  obtain ⟨its,rv,p,hz⟩:=I.tuple hq
  obtain ⟨f0,f1,f2,f3,f4,f5⟩:=hf it (by simp)
  have hl:=rv.length
  exact wpAny_pyNext_tuple_end (I.ok.hd hc) st (show s.heap.IsTuple a its.toArray from p) (by simp; lia) fun h' eb=>⟨rfl,I.turned (t':=s.toks) (fun b o hb e=>eb b o hb e) f0 f1 f3 f4 f5⟩
 self:=fun _ _ _ _ _ st h=>wpAny_pyIter_tupleiter st h
theorem aEu {P:Program} {w:World} {K:PySem.W.Frag} {tg:Expr} (it:Addr) (lo:Int) (n:Nat):Turn P w K tg (Itr lo n) [it] it (fun i h=>IsRangeIter h it (lo + (i:Nat) * 1) ((n:Int) - (i:Nat)) 1) where
 mem:=by simp
 obj:=fun i h st b hb=>by
  have e:b=it:=by simpa using hb
  subst e
  exact ⟨_,st,fun v z=>by
   have z':Data.fields _=Data.cell v:=z
   cases z'⟩
 keep:=fun i h h' st k=>k it (by simp) _ st
 item:=by
  intro X hP hw hK hc i pins s σ H E I hf st hg
  subst hP hw hK
  obtain ⟨f0,f1,f2,f3,f4,f5⟩:=hf it (by simp)
  have W:=Walks.range (prog:=X.prog) (w:=X.w) (I.ok.hd hc) it lo 1 n
  refine W.item i s _ _ hg st fun v h' tk hv st' kk=>?_
  obtain ⟨t,rfl⟩:=hv
  have I1:Inv X pins σ H { s with heap:=h',toks:=tk }:=I.turned (fun b o hb e=>kk b o (by simpa using hb) e) f0 f1 f3 f4 f5
  refine ⟨_,rfl,go_of (s:={ s with heap:=h',toks:=tk }) (n:="range_iterator") st' rfl rfl (by decide) ⟨.int (lo + i),H,I1,⟨t,?_⟩,⟨rfl,rfl⟩,st',fun b hb=>(hf b hb).1⟩⟩
  rw [Int.mul_one]
 done:=by
  intro X hP hw hK hc i pins s σ H E I hf st hg
  subst hP hw hK
  obtain ⟨f0,f1,f2,f3,f4,f5⟩:=hf it (by simp)
  exact wpAny_pyNext_range_end (I.ok.hd hc) st (by have:n≤i:=hg; lia) fun h' eb=>⟨rfl,I.turned (t':=s.toks) (fun b o hb e=>eb b o hb e) f0 f1 f3 f4 f5⟩
 self:=fun _ _ _ _ _ st h=>wpAny_pyIter_rangeiter st h
end L2
namespace L2
open PySem PySem.Spec PyProof.Rows
section
variable {X:Cx} {tg:Expr}
noncomputable def iList (K:PySem.W.Frag) (tl:TE):TI:=fun σ H R=>tl σ H fun x H1=>∃ a,x=.ref a∧(∃ xs,SqL K H1 a xs)∧R (Itl K a) H1
noncomputable def iTup (K:PySem.W.Frag) (tl:TE):TI:=fun σ H R=>tl σ H fun x H1=>∃ a,x=.ref a∧(∃ xs,SqT K H1 a xs)∧R (Itt K a) H1
theorem yt {l:Expr} {tl:TE} (hl:PE X l tl):PI X tg l (iList X.K tl):=by
 intro pins s σ H R I h
 refine thn (hl pins s σ H _ I h) fun v s1 ⟨x,H1,I1,r1,q1⟩=>?_
 obtain ⟨a,e,⟨xs,hq⟩,q⟩:=q1
 subst e
 cases r1
 obtain ⟨its,rv,p,hz⟩:=I1.list hq
 refine wpAny_pyIter_list p.isList ?_
 refine ⟨s1.heap.objs.size,[s1.heap.objs.size],_,_,H1,rfl,I1.kept (t':=s1.toks) fun b o e=>Heap.get?_push_of_some _ e,aFX a _,⟨_,Heap.get?_push_size _ rfl,rfl,rfl⟩,fun b hb=>?_,q⟩
 have e:b=s1.heap.objs.size:=by simpa using hb
 subst e
 exact I1.fpOk (Nat.le_refl _) (I1.hok.fresh (Nat.le_refl _))
theorem jd {l:Expr} {tl:TE} (hl:PE X l tl):PI X tg l (iTup X.K tl):=by
 intro pins s σ H R I h
 refine thn (hl pins s σ H _ I h) fun v s1 ⟨x,H1,I1,r1,q1⟩=>?_
 obtain ⟨a,e,⟨xs,hq⟩,q⟩:=q1
 subst e
 cases r1
 obtain ⟨its,rv,p,hz⟩:=I1.tuple hq
 refine wpAny_pyIter_tuple (show s1.heap.IsTuple a its.toArray from p) ?_
 refine ⟨s1.heap.objs.size,[s1.heap.objs.size],_,_,H1,rfl,I1.kept (t':=s1.toks) fun b o e=>Heap.get?_push_of_some _ e,aEt a _,⟨_,Heap.get?_push_size _ rfl,rfl,rfl⟩,fun b hb=>?_,q⟩
 have e:b=s1.heap.objs.size:=by simpa using hb
 subst e
 exact I1.fpOk (Nat.le_refl _) (I1.hok.fresh (Nat.le_refl _))
theorem aH9 {pins:List (Addr×Obj)} {σ:St} {H:Hp} {s:Shared} {R:It→Hp→Prop} {E:Value→Shared→Prop} {lo hi:Int} {t u v:Tok} {tk:Nat} (I:Inv X pins σ H s) (h1:-(2 ^ 62)≤lo) (h2:lo < 2 ^ 62) (h3:-(2 ^ 62)≤hi) (h4:hi < 2 ^ 62)
  (q:R (Itr lo (hi - lo).toNat) H):wpAny (model X.prog X.w) X.A (pyIter (.ref s.heap.objs.size)) (PIE X pins σ tg R) E { s with heap:=s.heap.push { cls:=.type "range",data:=.fields #[.int lo t,.int hi u,.int 1 v] },toks:=tk }:=by
 refine wpAny_pyIter_range (IsRange.new ..) (small_one h1 h2 h3 h4) ?_
 have I1:Inv X pins σ H { s with heap:=s.heap.push { cls:=.type "range",data:=.fields #[.int lo t,.int hi u,.int 1 v] },toks:=tk }:=I.kept fun b o e=>Heap.get?_push_of_some _ e
 refine ⟨(s.heap.push { cls:=.type "range",data:=.fields #[.int lo t,.int hi u,.int 1 v] }).objs.size,[(s.heap.push { cls:=.type "range",data:=.fields #[.int lo t,.int hi u,.int 1 v] }).objs.size],_,_,H,rfl,
  I1.kept (t':=tk) fun b o e=>Heap.get?_push_of_some _ e,aEu _ lo (hi - lo).toNat,?_,fun b hb=>?_,q⟩
 ·have e1:lo + ((0:Nat):Int) * 1=lo:=by simp
  have e2:(((hi - lo).toNat:Nat):Int) - ((0:Nat):Int)=Builtin.Range.rangeSize lo hi 1:=by rw [rangeSize_one]; split <;> lia
  show IsRangeIter _ _ (lo + ((0:Nat):Int) * 1) ((((hi - lo).toNat:Nat):Int) - ((0:Nat):Int)) 1
  rw [e1,e2]
  exact Heap.get?_push_size _ rfl
 ·have e:b=(s.heap.push { cls:=.type "range",data:=.fields #[.int lo t,.int hi u,.int 1 v] }).objs.size:=by simpa using hb
  subst e
  exact I1.fpOk (Nat.le_refl _) (I1.hok.fresh (Nat.le_refl _))
noncomputable def iRng1 (ta:TA):TI:=fun σ H R=>ta σ H fun vs H1=>∃ j:Int,vs=[.int j]∧-(2 ^ 62)≤j∧j < 2 ^ 62∧R (Itr 0 j.toNat) H1
theorem ql {a:Expr} {ta:TA} {p pos:Pos} (hg:Gl X "range") (hm:X.mg "range"=none) (ha:PA X [a] ta) (hs:starEach [a] X.env=[(false,eval a X.env)]:=by rfl):PI X tg (.Call (.Name "range" p) [a] [] pos) (iRng1 ta):=by
 intro pins s σ H R I h
 refine Call_ (qj I hg hm boot_range (PyProof.Rows.callWith_type1 (thn (ha pos pins s σ H _ I h) fun us s1 ⟨vs,H1,I1,r1,q1⟩=>?_) hs rfl))
 obtain ⟨j,e,q1,q2,q⟩:=q1
 subst e
 cases r1 with
 | cons r rr =>
  cases rr
  obtain ⟨t,rfl⟩:=r
  exact call_range_1 (aH9 I1 (by lia) (by lia) q1 q2 (by simpa using q))
noncomputable def tFor (wi:TI) (g:TG) (tb:TS):TS:=fun D σ H=>wi σ H fun J H1=>∃ W:Nat→Nat→St→Hp→Prop,(∃ m,W 0 m σ H1)∧∀ i m σ H,W i m σ H →
 (J.stop i H∧D.nx σ H)∨(J.go i H∧∃ N:St→Hp→Prop,(∀ σ' H',N σ' H'→∃ m',m' < m∧W (i + 1) m' σ' H')∧∀ x H',J.yld i H x H'→g x σ H' fun σ2 H2=>tb { D with nx:=N,ct:=N,bk:=D.nx } σ2 H2)
noncomputable def jp (fp:List Addr) (h:Heap):List (Addr×Obj):=fp.filterMap fun b=>(h.get? b).map fun o=>(b,o)
theorem zr {fp:List Addr} {h:Heap} {b:Addr} {o:Obj} (hb:b∈fp) (e:h.get? b=some o):(b,o)∈jp fp h:=List.mem_filterMap.mpr ⟨b,hb,by rw [e]; rfl⟩
theorem aFY {fp:List Addr} {h:Heap} {p:Addr×Obj} (hp:p∈jp fp h):p.1∈fp∧h.get? p.1=some p.2:=by
 obtain ⟨b,hb,e⟩:=List.mem_filterMap.mp hp
 cases q:h.get? b with
 | none=>rw [q] at e; cases e
 | some o =>
  rw [q] at e
  have e':(b,o)=p:=Option.some.inj e
  subst e'
  exact ⟨hb,q⟩
theorem Inv.pinned {pins:List (Addr×Obj)} {σ:St} {H:Hp} {s:Shared} {fp:List Addr} (I:Inv X pins σ H s) (hf:∀ b∈fp,FpOk X pins H b) (ho:∀ b∈fp,∃ o,s.heap.get? b=some o∧∀ v,o.data≠.cell v):Inv X (pins++jp fp s.heap) σ H s :=
 I.pins_of fun p hp=>(List.mem_append.mp hp).elim (fun z=>I.pin p (List.mem_append_right _ z)) fun z=>by
  obtain ⟨hb,e⟩:=aFY z
  obtain ⟨f0,f1,f2,_⟩:=hf p.1 hb
  obtain ⟨o,e',d⟩:=ho p.1 hb
  rw [e] at e'; cases e'
  exact ⟨e,f0,f1,f2,d⟩
theorem Inv.unpinned {pins pl:List (Addr×Obj)} {σ:St} {H:Hp} {s:Shared} (I:Inv X (pins++pl) σ H s):Inv X pins σ H s:=I.pins_of fun p hp=>I.pin p (List.mem_append_right _ (List.mem_append_left _ hp))
theorem yW {iter:Expr} {body:List Stmt} {wi:TI} {g:TG} {tb:TS} {pos:Pos} (hp:PassesOwn (model X.prog X.w) X.A X.env X.xe) (hc:X.calm=true) (hi:PI X tg iter wi) (hg:PG X tg g) (hb:PSs X body tb)
  (hs:∀ x,foldedSetIterable iter X.env x=pure x:=by intro _; rfl):PS X (.For tg iter body [] pos) (tFor wi g tb):=by
 intro pins s σ H D I h
 refine wpAny_For (thn (hi pins s σ H _ I h) fun v s1 h1=>thn h1 fun itv s2 h2=>?_) hs
 obtain ⟨it,fp,tn,J,H2,e,I2,T,st2,f2,W,⟨m0,w0⟩,turn⟩:=h2
 subst e
 have stat:∀ {H':Hp},(∀ b∈fp,H' b=none)→∀ b∈fp,FpOk X pins H' b:=fun hn b hb=>⟨hn b hb,(f2 b hb).2⟩
 refine codeAny_forLoop_any (fun n s'=>∃ i σ' H',Inv X pins σ' H' s'∧tn i s'.heap∧(∀ b∈fp,H' b=none)∧W i n σ' H') ?_ m0 ⟨0,σ,H2,I2,st2,fun b hb=>(f2 b hb).1,w0⟩
 rintro n s3 ⟨i,σ3,H3,I3,st3,fr3,w3⟩
 rcases turn i n σ3 H3 w3 with ⟨stop,qn⟩ | ⟨go,N,hN,step⟩
 ·refine wpAny_passesOwn hp (thn (T.done X rfl rfl rfl hc i pins s3 σ3 H3 X.xe I3 (stat fr3) st3 stop) fun r s4 ⟨hr,I4⟩=>?_)
  subst hr
  exact wpAny_execs_nil ⟨σ3,H3,I4,qn⟩
 ·refine wpAny_passesOwn hp (thn (T.item X rfl rfl rfl hc i pins s3 σ3 H3 X.xe I3 (stat fr3) st3 go) fun r s4 ⟨u,hr,h4⟩=>?_)
  subst hr
  refine wpAny_passesOwn hp (thn h4 fun _ s5 ⟨x,H5,I5,r5,y5,st5,fr5⟩=>?_)
  have I5':=I5.pinned (stat fr5) (T.obj _ _ st5)
  refine wpAny_passesOwn hp (thn (hg _ s5 σ3 H5 x u _ I5' r5 (step x H5 y5)) fun _ s6 ⟨σ6,H6,I6,q6⟩=>?_)
  refine wpAny_passesOwn hp (thn (hb _ s6 σ6 H6 _ I6 q6) fun f s7 q7=>?_)
  have again:∀ {σ7:St} {H7:Hp},Inv X (pins++jp fp s5.heap) σ7 H7 s7→N σ7 H7→∃ m,m < n∧∃ i σ' H',Inv X pins σ' H' s7∧tn i s7.heap∧(∀ b∈fp,H' b=none)∧W i m σ' H':=fun {σ7 H7} I7 n7=>by
   obtain ⟨m',hm,w7⟩:=hN σ7 H7 n7
   refine ⟨m',hm,i + 1,σ7,H7,I7.unpinned,T.keep _ _ _ st5 fun b hb o e=>(I7.pin (b,o) (List.mem_append_right _ (List.mem_append_right _ (zr hb e)))).1,fun b hb=>?_,w7⟩
   obtain ⟨o,e,d⟩:=T.obj _ _ st5 b hb
   exact (I7.pin (b,o) (List.mem_append_right _ (List.mem_append_right _ (zr hb e)))).2.1
  cases f with
  | next=>obtain ⟨σ7,H7,I7,n7⟩:=q7; exact again I7 n7
  | cont=>obtain ⟨σ7,H7,I7,n7⟩:=q7; exact again I7 n7
  | brk=>obtain ⟨σ7,H7,I7,q7⟩:=q7; exact ⟨σ7,H7,I7.unpinned,q7⟩
  | ret v=>obtain ⟨x7,σ7,H7,I7,r7,q7⟩:=q7; exact ⟨x7,σ7,H7,I7.unpinned,r7,q7⟩
end
theorem qm {K:PySem.W.Frag} {a:Addr} {xs:List V} {g:TG} {tb:TS} {D:Ends} {σ:St} {H:Hp} (Pv:Nat→St→Hp→Prop) (h0:Pv 0 σ H) (hl:∀ i σ H,i≤xs.length→Pv i σ H→SqL K H a xs)
  (hs:∀ i x σ H,xs[i]?=some x→Pv i σ H→g x σ H fun σ2 H2=>tb { D with nx:=Pv (i + 1),ct:=Pv (i + 1),bk:=D.nx } σ2 H2) (hd:∀ σ H,Pv xs.length σ H→D.nx σ H) :
  ∃ W:Nat→Nat→St→Hp→Prop,(∃ m,W 0 m σ H)∧∀ i m σ H,W i m σ H →
   ((Itl K a).stop i H∧D.nx σ H)∨((Itl K a).go i H∧∃ N:St→Hp→Prop,(∀ σ' H',N σ' H'→∃ m',m' < m∧W (i + 1) m' σ' H')∧∀ x H',(Itl K a).yld i H x H'→g x σ H' fun σ2 H2=>tb { D with nx:=N,ct:=N,bk:=D.nx } σ2 H2):=by
 refine ⟨fun i m σ H=>m=xs.length - i∧i≤xs.length∧Pv i σ H,⟨xs.length,by simp,Nat.zero_le _,h0⟩,?_⟩
 rintro i m σ H ⟨rfl,hi,p⟩
 have q:=hl i σ H hi p
 by_cases hlt:i < xs.length
 ·refine .inr ⟨⟨xs,xs[i],q,by simp [hlt]⟩,Pv (i + 1),fun σ' H' p'=>⟨xs.length - (i + 1),by lia,rfl,hlt,p'⟩,fun x H' y=>?_⟩
  obtain ⟨e,y⟩:=y
  subst e
  exact hs i x σ _ (y xs q) p
 ·have e:i=xs.length:=by lia
  subst e
  exact .inl ⟨⟨xs,q,Nat.le_refl _⟩,hd σ H p⟩
theorem jq {K:PySem.W.Frag} {a:Addr} {xs:List V} {g:TG} {tb:TS} {D:Ends} {σ:St} {H:Hp} (Pv:Nat→St→Hp→Prop) (h0:Pv 0 σ H) (hl:∀ i σ H,i≤xs.length→Pv i σ H→SqT K H a xs)
  (hs:∀ i x σ H,xs[i]?=some x→Pv i σ H→g x σ H fun σ2 H2=>tb { D with nx:=Pv (i + 1),ct:=Pv (i + 1),bk:=D.nx } σ2 H2) (hd:∀ σ H,Pv xs.length σ H→D.nx σ H) :
  ∃ W:Nat→Nat→St→Hp→Prop,(∃ m,W 0 m σ H)∧∀ i m σ H,W i m σ H →
   ((Itt K a).stop i H∧D.nx σ H)∨((Itt K a).go i H∧∃ N:St→Hp→Prop,(∀ σ' H',N σ' H'→∃ m',m' < m∧W (i + 1) m' σ' H')∧∀ x H',(Itt K a).yld i H x H'→g x σ H' fun σ2 H2=>tb { D with nx:=N,ct:=N,bk:=D.nx } σ2 H2):=by
 refine ⟨fun i m σ H=>m=xs.length - i∧i≤xs.length∧Pv i σ H,⟨xs.length,by simp,Nat.zero_le _,h0⟩,?_⟩
 rintro i m σ H ⟨rfl,hi,p⟩
 have q:=hl i σ H hi p
 by_cases hlt:i < xs.length
 ·refine .inr ⟨⟨xs,xs[i],q,by simp [hlt]⟩,Pv (i + 1),fun σ' H' p'=>⟨xs.length - (i + 1),by lia,rfl,hlt,p'⟩,fun x H' y=>?_⟩
  obtain ⟨e,y⟩:=y
  subst e
  exact hs i x σ _ (y xs q) p
 ·have e:i=xs.length:=by lia
  subst e
  exact .inl ⟨⟨xs,q,Nat.le_refl _⟩,hd σ H p⟩
theorem jr {lo:Int} {n:Nat} {g:TG} {tb:TS} {D:Ends} {σ:St} {H:Hp} (Pv:Nat→St→Hp→Prop) (h0:Pv 0 σ H)
  (hs:∀ i σ H,i < n→Pv i σ H→g (.int (lo + i)) σ H fun σ2 H2=>tb { D with nx:=Pv (i + 1),ct:=Pv (i + 1),bk:=D.nx } σ2 H2) (hd:∀ σ H,Pv n σ H→D.nx σ H) :
  ∃ W:Nat→Nat→St→Hp→Prop,(∃ m,W 0 m σ H)∧∀ i m σ H,W i m σ H →
   ((Itr lo n).stop i H∧D.nx σ H)∨((Itr lo n).go i H∧∃ N:St→Hp→Prop,(∀ σ' H',N σ' H'→∃ m',m' < m∧W (i + 1) m' σ' H')∧∀ x H',(Itr lo n).yld i H x H'→g x σ H' fun σ2 H2=>tb { D with nx:=N,ct:=N,bk:=D.nx } σ2 H2):=by
 refine ⟨fun i m σ H=>m=n - i∧i≤n∧Pv i σ H,⟨n,by simp,Nat.zero_le _,h0⟩,?_⟩
 rintro i m σ H ⟨rfl,hi,p⟩
 by_cases hlt:i < n
 ·refine .inr ⟨hlt,Pv (i + 1),fun σ' H' p'=>⟨n - (i + 1),by lia,rfl,hlt,p'⟩,fun x H' y=>?_⟩
  obtain ⟨e,y⟩:=y
  subst e y
  exact hs i σ _ hlt p
 ·have e:i=n:=by lia
  subst e
  exact .inl ⟨Nat.le_refl _,hd σ H p⟩
end L2
namespace L2
open PySem PySem.Spec PyProof.Rows
noncomputable abbrev R2:=V→V→Hp→VK→Prop
noncomputable def OpR (X:Cx) (f:Value→Value→Sem Value) (r:R2):Prop :=
 ∀ (pins:List (Addr×Obj)) (s:Shared) (σ:St) (H:Hp) (x y:V) (v u:Value) (Q:VK),Inv X pins σ H s→RelV x v→RelV y u→r x y H Q →
  wpAny (model X.prog X.w) X.A (f v u) (EP X pins σ Q) X.xe s
noncomputable def UnR (X:Cx) (f:Value→Sem Value) (r:V→Hp→VK→Prop):Prop :=
 ∀ (pins:List (Addr×Obj)) (s:Shared) (σ:St) (H:Hp) (x:V) (v:Value) (Q:VK),Inv X pins σ H s→RelV x v→r x H Q →
  wpAny (model X.prog X.w) X.A (f v) (EP X pins σ Q) X.xe s
noncomputable def CallR (X:Cx) (f:Value) (r:List V→Hp→VK→Prop):Prop :=
 ∀ (pins:List (Addr×Obj)) (s:Shared) (σ:St) (H:Hp) (xs:List V) (us:List Value) (Q:VK),Inv X pins σ H s→Vals xs us→r xs H Q →
  wpAny (model X.prog X.w) X.A (call f us) (EP X pins σ Q) X.xe s
noncomputable def tOp (r:R2) (ta tb:TE):TE:=fun σ H Q=>ta σ H fun x H1=>tb σ H1 fun y H2=>r x y H2 Q
noncomputable def tUn (r:V→Hp→VK→Prop) (ta:TE):TE:=fun σ H Q=>ta σ H fun x H1=>r x H1 Q
noncomputable def rI (C:Int→Int→Prop) (g:Int→Int→V):R2:=fun x y H Q=>∃ i j,x=.int i∧y=.int j∧C i j∧Q (g i j) H
noncomputable def rI0 (g:Int→Int→V):R2:=fun x y H Q=>∃ i j,x=.int i∧y=.int j∧Q (g i j) H
noncomputable def rU (g:Int→V):V→Hp→VK→Prop:=fun x H Q=>∃ i,x=.int i∧Q (g i) H
section
variable {X:Cx} {a b c:Expr} {ta tb tc:TE} {pos:Pos}
theorem binT (ha:PE X a ta) (hb:PE X b tb) {pins:List (Addr×Obj)} {s:Shared} {σ:St} {H:Hp} {R:V→V→Hp→Prop} (I:Inv X pins σ H s)
  (h:ta σ H fun x H1=>tb σ H1 fun y H2=>R x y H2) {Q:Value→Shared→Prop} {f:Value→Value→Sem Value}
  (hf:∀ v u s2 x y H2,Inv X pins σ H2 s2→RelV x v→RelV y u→R x y H2→wpAny (model X.prog X.w) X.A (f v u) Q X.xe s2) :
  wpAny (model X.prog X.w) X.A (eval a X.env) (fun v s₁=>wpAny (model X.prog X.w) X.A (eval b X.env) (fun u s₂=>wpAny (model X.prog X.w) X.A (f v u) Q X.xe s₂) X.xe s₁) X.xe s:=by
 refine thn (ha pins s σ H _ I h) fun v s1 ⟨x,H1,I1,r1,q1⟩=>?_
 refine thn (hb pins s1 σ H1 _ I1 q1) fun u s2 ⟨y,H2,I2,r2,q2⟩=>?_
 exact hf v u s2 x y H2 I2 r1 r2 q2
theorem pe_op {op:Operator} {r:R2} (ho:OpR X (binaryOp op) r) (ha:PE X a ta) (hb:PE X b tb):PE X (.BinOp a op b pos) (tOp r ta tb):=by
 intro pins s σ H Q I h
 exact wpAny_BinOp (binT ha hb I h fun v u s2 x y H2 I2 rx ry q=>ho pins s2 σ H2 x y v u Q I2 rx ry q)
theorem pe_un {op:UnaryOp} {r:V→Hp→VK→Prop} (ho:UnR X (unaryOp op) r) (ha:PE X a ta):PE X (.UnaryOp op a pos) (tUn r ta):=by
 intro pins s σ H Q I h
 exact UnaryOp_ (thn (ha pins s σ H _ I h) fun v s1 ⟨x,H1,I1,r1,q1⟩=>ho pins s1 σ H1 x v Q I1 r1 q1)
theorem opI {f:Value→Value→Sem Value} {C:Int→Int→Prop} {g:Int→Int→Int}
  (rule:∀ (i j:Int) (t u:Tok) (s:Shared) (Q:Value→Shared→Prop) (E:Value→Shared→Prop),C i j→Q (.int (g i j) s.toks) { s with toks:=s.toks + 1 }→wpAny (model X.prog X.w) X.A (f (.int i t) (.int j u)) Q E s) :
  OpR X f (rI C fun i j=>.int (g i j)):=by
 intro pins s σ H x y v u Q I rx ry h
 obtain ⟨i,j,rfl,rfl,hc,q⟩:=h
 obtain ⟨t,rfl⟩:=rx
 obtain ⟨t',rfl⟩:=ry
 exact rule i j t t' s _ _ hc ⟨.int (g i j),H,I.tok _,⟨_,rfl⟩,q⟩
theorem opI0 {f:Value→Value→Sem Value} {g:Int→Int→Int}
  (rule:∀ (i j:Int) (t u:Tok) (s:Shared) (Q:Value→Shared→Prop) (E:Value→Shared→Prop),Q (.int (g i j) s.toks) { s with toks:=s.toks + 1 }→wpAny (model X.prog X.w) X.A (f (.int i t) (.int j u)) Q E s) :
  OpR X f (rI0 fun i j=>.int (g i j)):=by
 intro pins s σ H x y v u Q I rx ry h
 obtain ⟨i,j,rfl,rfl,q⟩:=h
 obtain ⟨t,rfl⟩:=rx
 obtain ⟨t',rfl⟩:=ry
 exact rule i j t t' s _ _ ⟨.int (g i j),H,I.tok _,⟨_,rfl⟩,q⟩
theorem opB0 {f:Value→Value→Sem Value} {g:Int→Int→Bool}
  (rule:∀ (i j:Int) (t u:Tok) (s:Shared) (Q:Value→Shared→Prop) (E:Value→Shared→Prop),Q (.bool (g i j)) s→wpAny (model X.prog X.w) X.A (f (.int i t) (.int j u)) Q E s) :
  OpR X f (rI0 fun i j=>.bl (g i j)):=by
 intro pins s σ H x y v u Q I rx ry h
 obtain ⟨i,j,rfl,rfl,q⟩:=h
 obtain ⟨t,rfl⟩:=rx
 obtain ⟨t',rfl⟩:=ry
 exact rule i j t t' s _ _ ⟨.bl (g i j),H,I,rfl,q⟩
noncomputable def CDiv (i j:Int):Prop:=0 < j∧j < 1073741824
noncomputable def CPow (i j:Int):Prop:=0≤j∧j≤1000000∧i.natAbs < 2 ^ 64
noncomputable def CMul (i j:Int):Prop:=(-(2 ^ 64) < i∧i < 2 ^ 64)∨(-(2 ^ 64) < j∧j < 2 ^ 64)
theorem CMul.ok {i j:Int} (h:CMul i j):IntMulOk i j:=by
 rcases h with ⟨h1,h2⟩ | ⟨h1,h2⟩
 ·exact .of_left (intBits_le_64 h1 h2)
 ·exact .of_right (intBits_le_64 h1 h2)
theorem zW:OpR X (binaryOp .Add) (rI0 fun i j=>.int (i + j)):=opI0 fun _ _ _ _ _ _ _ q=>add_int q
theorem yk:OpR X (binaryOp .Sub) (rI0 fun i j=>.int (i - j)):=opI0 fun _ _ _ _ _ _ _ q=>sub_int q
theorem yQ:OpR X (binaryOp .Mult) (rI CMul fun i j=>.int (i * j)):=opI fun _ _ _ _ _ _ _ hc q=>mul_int q hc.ok
theorem jN:OpR X (binaryOp .FloorDiv) (rI CDiv fun i j=>.int (i / j)):=opI fun i j _ _ _ _ _ hc q=>by
 have h1:(0:Int) < j:=hc.1
 have h2:j < 1073741824:=hc.2
 exact floordiv_int (by lia) (by rw [Int.fdiv_eq_ediv_of_nonneg i (by lia)]; exact q) (.inl (PyProof.noPylong_small (by lia)))
theorem yI:OpR X (binaryOp .Mod) (rI (fun _ j=>0 < j) fun i j=>.int (i % j)):=opI fun i j _ _ _ _ _ hc q=>by
 have h1:(0:Int) < j:=hc
 exact mod_int' (by lia) (by rw [Int.fmod_eq_emod_of_nonneg i (by lia)]; exact q)
theorem js:OpR X (binaryOp .Pow) (rI CPow fun i j=>.int (i ^ j.toNat)):=opI fun _ _ _ _ _ _ _ hc q=>pow_int_small hc.1 hc.2.1 hc.2.2 q
theorem unI {f:Value→Sem Value} {g:Int→Int}
  (rule:∀ (i:Int) (t:Tok) (s:Shared) (Q:Value→Shared→Prop) (E:Value→Shared→Prop),Q (.int (g i) s.toks) { s with toks:=s.toks + 1 }→wpAny (model X.prog X.w) X.A (f (.int i t)) Q E s) :
  UnR X f (rU fun i=>.int (g i)):=by
 intro pins s σ H x v Q I rx h
 obtain ⟨i,rfl,q⟩:=h
 obtain ⟨t,rfl⟩:=rx
 exact rule i t s _ _ ⟨.int (g i),H,I.tok _,⟨_,rfl⟩,q⟩
theorem qo:UnR X (unaryOp .USub) (rU fun i=>.int (-i)):=unI fun _ _ _ _ _ q=>neg_int q
end
noncomputable def scal:V→V→Bool
 | .non,.non=>true | .non,.int _=>true | .int _,.non=>true | .non,.bl _=>true | .bl _,.non=>true | .non,.str _=>true | .str _,.non=>true
 | .int _,.int _=>true | .bl _,.bl _=>true | .str _,.str _=>true | .byt _,.byt _=>true
 | .int _,.str _=>true | .str _,.int _=>true | .bl _,.str _=>true | .str _,.bl _=>true
 | _,_=>false
noncomputable def rEq:R2:=fun x y H Q=>scal x y=true∧Q (.bl (decide (x=y))) H
noncomputable def rNe:R2:=fun x y H Q=>scal x y=true∧Q (.bl (!decide (x=y))) H
theorem dec_int {i j:Int}:decide (V.int i=V.int j)=(i == j):=by
 rw [Bool.eq_iff_iff]
 simp
theorem aHn {i j:Bool}:decide (V.bl i=V.bl j)=(i == j):=by
 rw [Bool.eq_iff_iff]
 simp
theorem dec_str {i j:Str}:decide (V.str i=V.str j)=(i == j):=by
 rw [Bool.eq_iff_iff]
 simp
theorem aFZ {i j:Array UInt8}:decide (V.byt i=V.byt j)=(i.toList == j.toList):=by
 rw [Bool.eq_iff_iff]
 cases i
 cases j
 simp
section
variable {X:Cx} {a b c:Expr} {ta tb tc:TE} {pos:Pos}
theorem ze {pins:List (Addr×Obj)} {σ:St} {H:Hp} {s:Shared} {Q:VK} {k k':Bool} (I:Inv X pins σ H s) (q:Q (.bl k) H) (e:k=k'):EP X pins σ Q (.bool k') s:=by
 subst e
 exact ⟨.bl k,H,I,rfl,q⟩
theorem op_eq:OpR X (compareOp .Eq) rEq:=by
 intro pins s σ H x y v u Q I rx ry h
 obtain ⟨hs,q⟩:=h
 cases x with
 | non =>
  cases rx
  cases y with
  | non=>cases ry; exact PySem.EqNone.eq_none_none (ze I q (by simp))
  | bl j=>cases ry; exact PySem.EqNone.eq_none_bool (ze I q (by simp))
  | int j=>obtain ⟨t',rfl⟩:=ry; exact PySem.EqNone.eq_none_int (ze I q (by simp))
  | str j=>obtain ⟨t',rfl⟩:=ry; exact PySem.EqNone.eq_none_str (ze I q (by simp))
  | _=>exact absurd (show false=true from hs) Bool.false_ne_true
 | bl i =>
  cases rx
  cases y with
  | non=>cases ry; exact PySem.EqNone.eq_bool_none (ze I q (by simp))
  | bl j=>cases ry; exact eq_bool (ze I q aHn)
  | str j=>obtain ⟨t',rfl⟩:=ry; exact PySem.EqMixed.eq_bool_str (ze I q (by simp))
  | _=>exact absurd (show false=true from hs) Bool.false_ne_true
 | int i =>
  obtain ⟨t,rfl⟩:=rx
  cases y with
  | non=>cases ry; exact PySem.EqNone.eq_int_none (ze I q (by simp))
  | int j=>obtain ⟨t',rfl⟩:=ry; exact eq_int (ze I q dec_int)
  | str j=>obtain ⟨t',rfl⟩:=ry; exact PySem.EqMixed.eq_int_str (ze I q (by simp))
  | _=>exact absurd (show false=true from hs) Bool.false_ne_true
 | str i =>
  obtain ⟨t,rfl⟩:=rx
  cases y with
  | non=>cases ry; exact PySem.EqNone.eq_str_none (ze I q (by simp))
  | bl j=>cases ry; exact PySem.EqMixed.eq_str_bool (ze I q (by simp))
  | int j=>obtain ⟨t',rfl⟩:=ry; exact PySem.EqMixed.eq_str_int (ze I q (by simp))
  | str j=>obtain ⟨t',rfl⟩:=ry; exact eq_str (ze I q dec_str)
  | _=>exact absurd (show false=true from hs) Bool.false_ne_true
 | byt i =>
  obtain ⟨t,rfl⟩:=rx
  cases y with
  | byt j=>obtain ⟨t',rfl⟩:=ry; exact PySem.W.eq_bytes (ze I q aFZ)
  | _=>exact absurd (show false=true from hs) Bool.false_ne_true
 | _=>cases y <;> exact absurd (show false=true from hs) Bool.false_ne_true
theorem op_ne:OpR X (compareOp .NotEq) rNe:=by
 intro pins s σ H x y v u Q I rx ry h
 obtain ⟨hs,q⟩:=h
 cases x with
 | non =>
  cases rx
  cases y with
  | non=>cases ry; exact PySem.EqNone.ne_none_none (ze I q (by simp))
  | bl j=>cases ry; exact PySem.EqNone.ne_none_bool (ze I q (by simp))
  | int j=>obtain ⟨t',rfl⟩:=ry; exact PySem.EqNone.ne_none_int (ze I q (by simp))
  | str j=>obtain ⟨t',rfl⟩:=ry; exact PySem.EqNone.ne_none_str (ze I q (by simp))
  | _=>exact absurd (show false=true from hs) Bool.false_ne_true
 | bl i =>
  cases rx
  cases y with
  | non=>cases ry; exact PySem.EqNone.ne_bool_none (ze I q (by simp))
  | bl j=>cases ry; exact ne_bool (ze I q (congrArg not aHn))
  | str j=>obtain ⟨t',rfl⟩:=ry; exact PySem.EqMixed.ne_bool_str (ze I q (by simp))
  | _=>exact absurd (show false=true from hs) Bool.false_ne_true
 | int i =>
  obtain ⟨t,rfl⟩:=rx
  cases y with
  | non=>cases ry; exact PySem.EqNone.ne_int_none (ze I q (by simp))
  | int j=>obtain ⟨t',rfl⟩:=ry; exact ne_int (ze I q (congrArg not dec_int))
  | str j=>obtain ⟨t',rfl⟩:=ry; exact PySem.EqMixed.ne_int_str (ze I q (by simp))
  | _=>exact absurd (show false=true from hs) Bool.false_ne_true
 | str i =>
  obtain ⟨t,rfl⟩:=rx
  cases y with
  | non=>cases ry; exact PySem.EqNone.ne_str_none (ze I q (by simp))
  | bl j=>cases ry; exact PySem.EqMixed.ne_str_bool (ze I q (by simp))
  | int j=>obtain ⟨t',rfl⟩:=ry; exact PySem.EqMixed.ne_str_int (ze I q (by simp))
  | str j=>obtain ⟨t',rfl⟩:=ry; exact ne_str (ze I q (congrArg not dec_str))
  | _=>exact absurd (show false=true from hs) Bool.false_ne_true
 | byt i =>
  obtain ⟨t,rfl⟩:=rx
  cases y with
  | byt j=>obtain ⟨t',rfl⟩:=ry; exact PySem.W.ne_bytes (ze I q (congrArg not aFZ))
  | _=>exact absurd (show false=true from hs) Bool.false_ne_true
 | _=>cases y <;> exact absurd (show false=true from hs) Bool.false_ne_true
theorem op_lt:OpR X (compareOp .Lt) (rI0 fun i j=>.bl (decide (i < j))):=opB0 fun _ _ _ _ _ _ _ q=>lt_int q
theorem op_le:OpR X (compareOp .LtE) (rI0 fun i j=>.bl (decide (i≤j))):=opB0 fun _ _ _ _ _ _ _ q=>le_int q
theorem op_gt:OpR X (compareOp .Gt) (rI0 fun i j=>.bl (decide (j < i))):=opB0 fun _ _ _ _ _ _ _ q=>gt_int q
theorem op_ge:OpR X (compareOp .GtE) (rI0 fun i j=>.bl (decide (j≤i))):=opB0 fun _ _ _ _ _ _ _ q=>ge_int q
theorem zf (b:Expr) {op:CmpOp} (h:op≠.In:=by decide) (h2:op≠.NotIn:=by decide):behindInMarks op b=false:=by
 have e1:(op == CmpOp.In)=false:=by cases op <;> first | rfl | exact absurd rfl h
 have e2:(op == CmpOp.NotIn)=false:=by cases op <;> first | rfl | exact absurd rfl h2
 cases b <;> simp [behindInMarks,e1,e2]
theorem yu {op:CmpOp} {r:R2} (ho:OpR X (compareOp op) r) (ha:PE X a ta) (hb:PE X b tb) (hm:behindInMarks op b=false):PE X (.Compare a [op] [b] pos) (tOp r ta tb):=by
 intro pins s σ H Q I h
 exact wpAny_Compare1 (binT ha hb I h fun v u s2 x y H2 I2 rx ry q=>ho pins s2 σ H2 x y v u Q I2 rx ry q) hm
noncomputable def tTest (t:TE):TT:=fun σ H Q=>t σ H fun x H'=>∃ k,x=.bl k∧Q k H'
theorem zm {op:CmpOp} {r:R2} (ho:OpR X (compareOp op) r) (ha:PE X a ta) (hb:PE X b tb) (hm:behindInMarks op b=false):PT X (.Compare a [op] [b] pos) (tTest (tOp r ta tb)):=by
 intro pins s σ H Q I h
 refine wpAny_isTrue_Compare1 (thn (ha pins s σ H _ I h) fun v s1 ⟨x,H1,I1,r1,q1⟩=>thn (hb pins s1 σ H1 _ I1 q1) fun u s2 ⟨y,H2,I2,r2,q2⟩ =>
  thn (ho pins s2 σ H2 x y v u _ I2 r1 r2 q2) fun c s3 ⟨z,H3,I3,r3,k,e,q3⟩=>?_) hm
 subst e
 cases r3
 exact wpAny_truthy_bool ⟨H3,I3,q3⟩
noncomputable def aJ3 (r r':R2) (ta tb tc:TE):TE:=fun σ H Q=>ta σ H fun x H1=>tb σ H1 fun y H2=>r x y H2 fun z H3=>∃ k,z=.bl k ∧
 (if k=true then tc σ H3 fun w' H4=>r' y w' H4 Q else Q (.bl false) H3)
theorem aHA {op op':CmpOp} {r r':R2} (ho:OpR X (compareOp op) r) (ho':OpR X (compareOp op') r') (ha:PE X a ta) (hb:PE X b tb) (hc:PE X c tc)
  (hm:lastMarks [op,op'] [b,c]=false:=by with_unfolding_all rfl):PT X (.Compare a [op,op'] [b,c] pos) (tTest (aJ3 r r' ta tb tc)):=by
 intro pins s σ H Q I h
 refine isTrue_chain (thn (ha pins s σ H _ I h) fun v s1 ⟨x,H1,I1,r1,q1⟩=>test_link (thn (hb pins s1 σ H1 _ I1 q1) fun u s2 ⟨y,H2,I2,r2,q2⟩ =>
  thn (ho pins s2 σ H2 x y v u _ I2 r1 r2 q2) fun d s3 ⟨z,H3,I3,r3,k,e,q3⟩=>?_)) hm
 subst e
 cases r3
 refine wpAny_truthy_bool ?_
 cases k with
 | false =>
  obtain ⟨k',e',q'⟩:=q3
  cases e'
  exact ite_ff ⟨H3,I3,q'⟩
 | true =>
  refine ite_tt (test_last (thn (hc pins s3 σ H3 _ I3 q3) fun w' s4 ⟨z',H4,I4,r4,q4⟩=>thn (ho' pins s4 σ H4 y z' u w' _ I4 r2 r4 q4) fun d' s5 ⟨z2,H5,I5,r5,k2,e2,q5⟩=>?_))
  subst e2
  cases r5
  exact wpAny_truthy_bool ⟨H5,I5,q5⟩
theorem aFa:(sizeLine:Nat) < 2 ^ 63:=by rw [sizeLine_eq]; decide
theorem aEv:OpR X (binaryOp .Add) (fun x y H Q=>∃ i j,x=.str i∧y=.str j∧i.length + j.length≤sizeLine∧Q (.str (i++j)) H):=by
 intro pins s σ H x y v u Q I rx ry h
 obtain ⟨i,j,rfl,rfl,hz,q⟩:=h
 obtain ⟨t,rfl⟩:=rx
 obtain ⟨t',rfl⟩:=ry
 exact add_str (fun t' tk=>⟨.str (i++j),H,I.tok _,⟨_,rfl⟩,q⟩) hz
theorem vals1 {x:V} {us:List Value} (r:Vals [x] us):∃ u,us=[u]∧RelV x u:=by
 cases r with
 | cons r1 r2=>cases r2; exact ⟨_,rfl,r1⟩
theorem vals2 {x y:V} {us:List Value} (r:Vals [x,y] us):∃ u w',us=[u,w']∧RelV x u∧RelV y w':=by
 cases r with
 | cons r1 r2 =>
  cases r2 with
  | cons r3 r4=>cases r4; exact ⟨_,_,rfl,r1,r3⟩
theorem aCE (hc:X.calm=true):CallR X (.builtin "max") (fun xs H Q=>∃ i j,xs=[.int i,.int j]∧Q (.int (if j > i then j else i)) H):=by
 intro pins s σ H xs us Q I r h
 obtain ⟨i,j,rfl,q⟩:=h
 obtain ⟨u,w',rfl,⟨t,rfl⟩,⟨t',rfl⟩⟩:=vals2 r
 refine max_two_ints (I.ok.hd hc) fun h' tk k=>⟨_,H,I.kept k,?_,q⟩
 by_cases hj:j > i
 ·rw [if_pos hj,if_pos hj]; exact ⟨_,rfl⟩
 ·rw [if_neg hj,if_neg hj]; exact ⟨_,rfl⟩
theorem aFb (hc:X.calm=true):CallR X (.builtin "min") (fun xs H Q=>∃ i j,xs=[.int i,.int j]∧Q (.int (if j < i then j else i)) H):=by
 intro pins s σ H xs us Q I r h
 obtain ⟨i,j,rfl,q⟩:=h
 obtain ⟨u,w',rfl,⟨t,rfl⟩,⟨t',rfl⟩⟩:=vals2 r
 refine min_two_ints (I.ok.hd hc) fun h' tk k=>⟨_,H,I.kept k,?_,q⟩
 by_cases hj:j < i
 ·rw [if_pos hj,if_pos hj]; exact ⟨_,rfl⟩
 ·rw [if_neg hj,if_neg hj]; exact ⟨_,rfl⟩
theorem qp:CallR X (.type "int") (fun xs H Q=>(∃ i,xs=[.int i]∧Q (.int i) H)∨∃ k,xs=[.bl k]∧Q (.int (if k then 1 else 0)) H):=by
 intro pins s σ H xs us Q I r h
 rcases h with ⟨i,rfl,q⟩ | ⟨k,rfl,q⟩
 ·obtain ⟨u,rfl,t,rfl⟩:=vals1 r
  exact call_int_int ⟨.int i,H,I,⟨_,rfl⟩,q⟩
 ·obtain ⟨u,rfl,r1⟩:=vals1 r
  cases r1
  exact call_int_bool ⟨.int (if k then 1 else 0),H,I.tok _,⟨_,rfl⟩,q⟩
theorem je:CallR X (.type "str") (fun xs H Q=>∃ i,xs=[.int i]∧i.natAbs.log2 < 1920∧Q (.str (toString i)) H):=by
 intro pins s σ H xs us Q I r h
 obtain ⟨i,rfl,hz,q⟩:=h
 obtain ⟨u,rfl,t,rfl⟩:=vals1 r
 exact PySem.P.str_of_int hz ⟨.str _,H,I.tok _,⟨_,rfl⟩,q⟩
end
end L2
namespace L2
open PySem PySem.Spec PyProof.Rows
structure ObjM (h:Heap) (x dx C:Addr) (mA:Str→Option Value):Prop where
 obj:h.get? x=some (PySem.W.instObj C dx)
 ns:h.Ns1 dx mA
 ne:dx≠x
theorem aFc {h:Heap} {dx:Addr} {mA:Str→Option Value} (n:h.Ns1 dx mA):∃ od,h.get? dx=some od∧∀ name,PySem.W.lookIn name od=some (mA name):=by
 obtain ⟨o,es,ep,ho,hd,hk,_,hm⟩:=n
 refine ⟨o,ho,fun name=>?_⟩
 have e:=hm name
 unfold nsFind findBy at e
 rw [← Array.find?_toList] at e
 unfold PySem.W.lookIn
 rw [hd]
 dsimp only
 split
 ·rename_i y q
  rw [q] at e
  exact congrArg some e
 ·rename_i q
  rw [q] at e
  have a:es.toList.any (·.refKey)=false:=by
   rw [List.any_eq_false]
   intro y hy
   obtain ⟨z,t,hkey⟩:=hk y (Array.mem_toList_iff.mp hy)
   simp [DictEntry.refKey,hkey]
  have a':¬ es.toList.any (·.refKey)=true:=by rw [a]; exact Bool.false_ne_true
  rw [if_neg a']
  exact congrArg some e
theorem ObjM.look {h:Heap} {x dx C:Addr} {mA:Str→Option Value} (I:ObjM h x dx C mA):∃ od,PySem.W.InstAt h x (PySem.W.instObj C dx) C (some od)∧∀ name,PySem.W.lookIn name od=some (mA name) :=
 let ⟨od,ho,hl⟩:=aFc I.ns
 ⟨od,⟨I.obj,rfl,rfl,ho⟩,hl⟩
section
variable {prog:Program} {w:World} {A:Around} {E:Value→Shared→Prop} {s:Shared} {K:PySem.W.Frag} {x dx C f:Addr} {mA:Str→Option Value} {name:Str} {v:Value}
end
theorem RelO.some_of {v:V} {o:Option Value} (r:RelO (some v) o):∃ u,o=some u∧RelV v u:=by
 cases o with
 | none=>exact (show False from r).elim
 | some u=>exact ⟨u,rfl,r⟩
theorem aFd {v:V} {u:Value} (r:RelV v u):PySem.W.handedIn u=true:=by
 cases v with
 | non=>cases (show u=Value.none from r); rfl
 | bl b=>cases (show u=Value.bool b from r); rfl
 | int i=>obtain ⟨t,e⟩:=(show ∃ t,u=Value.int i t from r); cases e; rfl
 | str x=>obtain ⟨t,e⟩:=(show ∃ t,u=Value.str x t from r); cases e; rfl
 | byt b=>obtain ⟨t,e⟩:=(show ∃ t,u=Value.bytes b t from r); cases e; rfl
 | flt b=>obtain ⟨t,e⟩:=(show ∃ t,u=Value.float b t from r); cases e; rfl
 | ref a=>cases (show u=Value.ref a from r); rfl
 | ty n=>cases (show u=Value.type n from r); rfl
section
variable {P:Program} {w:World} {H H':Hp} {h h':Heap} {a C dx:Addr} {fs fs':List (Str×V)}
theorem aI7 (hok:HOk P w H h) (e:H a=some (.ins C dx fs)):∃ mA,ObjM h a dx C mA∧(∀ f,RelO (fs.lookup f) (mA f))∧PySem.Within mA (fs.map (·.1))∧fs.length≤1000∧H dx=some (.own a):=by
 obtain ⟨d,z,ne,ob,mA,n,r,q⟩:=(show ObjOk P w H h a (.ins C dx fs) from hok a _ e)
 exact ⟨mA,⟨ob,n,ne⟩,r,q,z,d⟩
end
structure Cls (K:PySem.W.Frag) (C:Addr):Prop where
 pg:PySem.W.plainGet K C Str.empty=true
 hd:PySem.W.hasDictIn K C=true
 po:PySem.W.plainOver K C=true
 sa:PySem.W.findIn K (.ref C) "__setattr__"=some (some (.builtin "object.__setattr__"))
theorem Cls.get {K:PySem.W.Frag} {C:Addr} (c:Cls K C) (f:Str):PySem.W.plainGet K C f=true:=c.pg
noncomputable def aEM (K:PySem.W.Frag) (C:Addr) (f:Str):Prop:=PySem.W.findIn K (.ref C) f=some none
section
variable {X:Cx} {pins:List (Addr×Obj)} {σ:St} {H:Hp} {s:Shared} {a C dx:Addr} {fs:List (Str×V)} {f:Str} {v:V} {A:Around} {E:Value→Shared→Prop}
theorem aI8 {prog:Program} {w:World} {env:Env} {e:Expr} {f:Str} {pos:Pos} {s:Shared} {Q:Value→Shared→Prop} (hb:attributeBase e f env (eval e env)=eval e env)
  (h:wpAny (model prog w) A (eval e env) (fun o s₁=>wpAny (model prog w) A (getAttr o f true) Q E s₁) E s):wpAny (model prog w) A (eval (.Attribute e f pos) env) Q E s :=
 Attribute_any_ h (by rw [arm_eval_Attribute,hb])
end
section
variable {X:Cx} {o e value:Expr} {f:Str} {pos pos' tpos:Pos} {ta tv:TE}
end
section
variable {X:Cx} {pins:List (Addr×Obj)} {σ:St} {H:Hp} {s:Shared} {A:Around} {E:Value→Shared→Prop} {Q:Value→Shared→Prop} {c:Value} {b:Bool}
inductive TyOf (K:PySem.W.Frag) (H:Hp):V→Value→Prop where
 | non:TyOf K H .non (.type "NoneType")
 | bl (x:Bool):TyOf K H (.bl x) (.type "bool")
 | int (i:Int):TyOf K H (.int i) (.type "int")
 | str (x:Str):TyOf K H (.str x) (.type "str")
 | flt (x:UInt64):TyOf K H (.flt x) (.type "float")
 | lst {a:Addr} {xs:List V} (e:H a=some (.lst xs)):TyOf K H (.ref a) (.type "list")
 | frz {a:Addr} {o:Obj} {xs:List V} (e:H a=some (.frz o (.lst xs))):TyOf K H (.ref a) (.type "list")
 | tup {a:Addr} {xs:List V} (e:H a=some (.tup xs)):TyOf K H (.ref a) (.type "tuple")
 | dK {a:Addr} {kvs:List (Key×V)} (e:H a=some (.dK kvs)):TyOf K H (.ref a) (.type "dict")
 | dT {a:Addr} {kvs:List (List Key×V)} (e:H a=some (.dT kvs)):TyOf K H (.ref a) (.type "dict")
 | ins {a C dx:Addr} {fs:List (Str×V)} (e:H a=some (.ins C dx fs)) (cl:Cls K C) (ha:PySem.W.findIn K (.ref C) "__class__"=some (some (.builtin "object.__class__")))
   (hn:PySem.W.specialIn K (.builtin "object.__class__") "__get__"=some (some (.builtin "getset_descriptor.__get__"))) (htk:PySem.W.takesIn K (.builtin "object.__class__")=some true)
   (hm:PySem.W.mroIn K C (.type "object")=some true):TyOf K H (.ref a) (.ref C)
theorem aFe {x:V} {u t:Value} (I:Inv X pins σ H s) (rx:RelV x u) (ty:TyOf X.K H x t) (e:PySem.W.kitOne X.K t c=some b) (h:∀ tk,Q (.bool b) { s with toks:=tk }) :
  wpAny (model X.prog X.w) A (call (.builtin "isinstance") [u,c]) Q E s:=by
 cases ty with
 | non=>cases (show u=Value.none from rx); exact PySem.W.kia_one PySem.W.kitx_none I.kIn True.intro e (fun z=>nomatch z) h
 | bl y=>cases (show u=Value.bool y from rx); exact PySem.W.kia_one PySem.W.kitx_bool I.kIn True.intro e (fun z=>nomatch z) h
 | int i=>obtain ⟨t,q⟩:=(show ∃ t,u=Value.int i t from rx); cases q; exact PySem.W.kia_one PySem.W.kitx_int I.kIn True.intro e (fun z=>nomatch z) h
 | str y=>obtain ⟨t,q⟩:=(show ∃ t,u=Value.str y t from rx); cases q; exact PySem.W.kia_one PySem.W.kitx_str I.kIn True.intro e (fun z=>nomatch z) h
 | flt y=>obtain ⟨t,q⟩:=(show ∃ t,u=Value.float y t from rx); cases q; exact PySem.W.kia_one PySem.W.kitx_float I.kIn True.intro e (fun z=>nomatch z) h
 | @lst a xs ea =>
  cases (show u=Value.ref a from rx)
  obtain ⟨_,_,n,_,h1⟩:=(show ObjOk X.prog X.w H s.heap a (.lst xs) from I.hok a _ ea)
  exact PySem.W.kia_one PySem.W.kitx_list I.kIn ⟨_,h1,rfl⟩ e (fun z=>nomatch z) h
 | @frz a ob xs ea =>
  cases (show u=Value.ref a from rx)
  obtain ⟨_,_,_,n,_,h1⟩:=(show ObjOk X.prog X.w H s.heap a (.frz ob (.lst xs)) from I.hok a _ ea)
  exact PySem.W.kia_one PySem.W.kitx_list I.kIn ⟨_,h1,rfl⟩ e (fun z=>nomatch z) h
 | @tup a xs ea =>
  cases (show u=Value.ref a from rx)
  obtain ⟨_,_,_,p⟩:=(show ObjOk X.prog X.w H s.heap a (.tup xs) from I.hok a _ ea)
  obtain ⟨o,h1,h2,_⟩:=p
  exact PySem.W.kia_one PySem.W.kitx_tuple I.kIn ⟨o,h1,h2⟩ e (fun z=>nomatch z) h
 | @dK a kvs ea =>
  cases (show u=Value.ref a from rx)
  obtain ⟨_,_,vs,_,p⟩:=(show ObjOk X.prog X.w H s.heap a (.dK kvs) from I.hok a _ ea)
  obtain ⟨o,es,ep,h1,h2,_⟩:=p
  exact PySem.W.kia_one PySem.W.kitx_dict I.kIn ⟨o,h1,h2.1⟩ e (fun z=>nomatch z) h
 | @dT a kvs ea =>
  cases (show u=Value.ref a from rx)
  obtain ⟨_,_,xs,_,o,es,ep,h1,h2,_⟩:=(show ObjOk X.prog X.w H s.heap a (.dT kvs) from I.hok a _ ea)
  exact PySem.W.kia_one PySem.W.kitx_dict I.kIn ⟨o,h1,h2.1⟩ e (fun z=>nomatch z) h
 | @ins a C dx fs ea cl ha hn htk hm =>
  cases (show u=Value.ref a from rx)
  obtain ⟨mA,O,_⟩:=aI7 I.hok ea
  obtain ⟨od,J,_⟩:=O.look
  exact PySem.W.kia_one (PySem.W.kitx_own (cl.get _) cl.hd ha hn htk hm) I.kIn J e (fun z=>nomatch z) h
end
end L2
namespace L2
open PySem PySem.Spec PyProof.Rows
structure Room (k:Nat) (A:Around):Prop where
 hd:A.handled=none
 dp:A.depth + 3 * k + 5 < recursionLimit
 un:A.units + 16 * k + 200 < cLine
theorem Room.mono {j k:Nat} {A:Around} (r:Room k A) (h:j≤k):Room j A:=⟨r.hd,by have:=r.dp; lia,by have:=r.un; lia⟩
theorem Room.deeper {k:Nat} {A:Around} (r:Room (k + 1) A) (env:Env):Room k (A.deeper env) :=
 ⟨r.hd,by have:=r.dp; show A.depth + 1 + 3 * k + 5 < _; lia,by have:=r.un; show A.units + 3 + 16 * k + 200 < _; lia⟩
theorem aEw {A:Around} {C:Addr} {us:List Value} {kw:List (Str×Value)}:(A.under (.builtin "type.__call__" ⟨.ref C :: us,kw⟩)).depth=A.depth + 1:=by
 first | rfl | simp [Around.under,Code.weight,Code.isCreation,Code.isGuard,Code.isCaller,Code.frames,Code.isFrame,guardIds]
theorem aEx {A:Around} {C:Addr} {us:List Value} {kw:List (Str×Value)}:(A.under (.builtin "type.__call__" ⟨.ref C :: us,kw⟩)).units=A.units + 1:=by
 first | rfl | simp [Around.under,Code.cUnits,Code.frames,Code.isFrame]
theorem Room.make {k:Nat} {A:Around} (r:Room (k + 1) A) (C:Addr) (us:List Value) (kw:List (Str×Value)):Room k (A.under (.builtin "type.__call__" ⟨.ref C :: us,kw⟩)) :=
 ⟨r.hd,by have:=r.dp; rw [aEw]; lia,by have:=r.un; rw [aEx]; lia⟩
theorem Room.depth {k:Nat} {A:Around} (r:Room k A):A.depth < recursionLimit:=by have:=r.dp; lia
theorem Room.units {k:Nat} {A:Around} (r:Room k A):A.units + 64 < cLine:=by have:=r.un; lia
noncomputable def tNil:TA:=fun _ H Q=>Q [] H
noncomputable def tCons (ta:TE) (tr:TA):TA:=fun σ H Q=>ta σ H fun x H1=>tr σ H1 fun xs H2=>Q (x :: xs) H2
section
variable {X:Cx} {e:Expr} {es:List Expr} {te:TE} {t:TA} {pos:Pos}
theorem zE:PA X [] tNil:=fun _ _ _ _ H Q I h=>Calls.spliced_nil ⟨[],H,I,.nil,h⟩
theorem zA (ha:PE X e te) (hr:PA X es t) (hs:starEach (e :: es) X.env=(false,eval e X.env) :: starEach es X.env:=by rfl):PA X (e :: es) (tCons te t):=by
 intro pos pins s σ H Q I h
 rw [hs]
 show wpAny _ _ (spliced ((false,eval e X.env) :: backTo pos (starEach es X.env))) _ _ s
 refine Calls.spliced_cons (thn (ha pins s σ H _ I h) fun u s1 ⟨x,H1,I1,r1,q1⟩=>?_)
 exact thn (hr pos pins s1 σ H1 _ I1 q1) fun us s2 ⟨xs,H2,I2,r2,q2⟩=>⟨x :: xs,H2,I2,.cons r1 r2,q2⟩
noncomputable def tTup (t:TA):TE:=fun σ H Q=>t σ H fun xs H1=>xs.length≤sizeLine∧∀ p,H1 p=none→Q (.ref p) (upd H1 p (.tup xs))
noncomputable def tLst (t:TA):TE:=fun σ H Q=>t σ H fun xs H1=>xs.length≤sizeLine∧∀ p,H1 p=none→Q (.ref p) (upd H1 p (.lst xs))
theorem yo {x1} (h:PA X es t):PE X (.Tuple es x1 pos) (tTup t):=by
 intro pins s σ H Q I hq
 refine wpAny_Tuple_spliced (thn (h pos pins s σ H _ I hq) fun us s1 ⟨xs,H1,I1,r,z,q⟩=>⟨by rw [← r.length]; exact z,?_⟩)
 have hf:H1 s1.heap.objs.size=none:=I1.hok.fresh (Nat.le_refl _)
 refine ⟨.ref s1.heap.objs.size,upd H1 s1.heap.objs.size (.tup xs),I1.laid (t':=s1.toks) (fun b u e=>Heap.get?_push_of_some _ e) (Nat.le_refl _) ?_,rfl,q _ hf⟩
 exact ⟨z,us,r,⟨_,Heap.get?_push_size _ rfl,rfl,_,rfl⟩⟩
theorem yR (h:PA X es t):PE X (.List es pos) (tLst t):=by
 intro pins s σ H Q I hq
 refine wpAny_List_spliced (thn (h pos pins s σ H _ I hq) fun us s1 ⟨xs,H1,I1,r,z,q⟩=>⟨by rw [← r.length]; exact z,?_⟩)
 have hf:H1 s1.heap.objs.size=none:=I1.hok.fresh (Nat.le_refl _)
 refine ⟨.ref s1.heap.objs.size,upd H1 s1.heap.objs.size (.lst xs),I1.laid (t':=s1.toks) (fun b u e=>Heap.get?_push_of_some _ e) (Nat.le_refl _) ?_,rfl,q _ hf⟩
 exact ⟨z,us,0,r,Heap.get?_push_size _ rfl⟩
end
noncomputable abbrev Sp:=List V→Hp→VK→XK→Prop
noncomputable abbrev CXT:=List Env→Hp→Shared→XK→Value→Shared→Prop
structure Env0 (P:Program) (w:World) (K:PySem.W.Frag) (mg:Str→Option Value) (base:Heap) (A:Around) (outer:List Env) (s:Shared) (H:Hp):Prop where
 frames:A.frames=some outer
 mod:Mod K mg base
 bs:∀ b o,base.get? b=some o→s.heap.get? b=some o∧H b=none
 bsz:base.objs.size≤s.heap.objs.size
 funs:s.heap.FunFrames base outer
 frf:∀ b∈frs outer,H b=none
 hok:HOk P w H s.heap
 bare:AllBare s.gens
noncomputable def CE (outer:List Env) (P:Program) (w:World) (H:Hp) (s:Shared) (Q:VK) (u:Value) (s':Shared):Prop :=
 ∃ v H',s'.os=s.os∧AllBare s'.gens∧Un (frs outer) [] H H' s.heap s'.heap∧HOk P w H' s'.heap∧RelV v u∧Q v H'
noncomputable def CR (CX:CXT) (outer:List Env) (P:Program) (w:World) (H:Hp) (s:Shared) (Q:VK) (E:XK) (r:Result) (s':Shared):Prop :=
 match r with
 | .ok (.ret u)=>CE outer P w H s Q u s'
 | .ok _=>False
 | .error e=>CX outer H s E e s'
structure FnOk (P:Program) (w:World) (K:PySem.W.Frag) (mg:Str→Option Value) (base:Heap) (CX:CXT) (k:Nat) (f:Addr) (fd:FuncData) (ps:List Str) (sp:Sp):Prop where
 len:∀ vs H Q E,sp vs H Q E→vs.length=ps.length
 run:∀ (A:Around) (outer:List Env) (s:Shared) (H:Hp) (args:Args) (us:List Value) (vs:List V) (Q:VK) (E:XK),Room k A→Env0 P w K mg base A outer s H→BindsTo s fd args (ps.zip us)→Vals vs us→sp vs H Q E →
  codeAny (model P w) A (.call (.ref f) args) (CR CX outer P w H s Q E) s
theorem Env0.make {P:Program} {w:World} {K:PySem.W.Frag} {mg:Str→Option Value} {base:Heap} {A:Around} {outer:List Env} {s:Shared} {H:Hp} (e:Env0 P w K mg base A outer s H) (C:Addr) (us:List Value) (kw:List (Str×Value)) :
  Env0 P w K mg base (A.under (.builtin "type.__call__" ⟨.ref C :: us,kw⟩)) outer s H:=⟨by first | exact e.frames | (simpa [Around.under,Code.envs,Code.isFrame,pushEnvs] using e.frames),e.mod,e.bs,e.bsz,e.funs,e.frf,e.hok,e.bare⟩
section
variable {X:Cx} {pins:List (Addr×Obj)} {σ:St} {H:Hp} {s s':Shared}
theorem Inv.env0 (I:Inv X pins σ H s):Env0 X.prog X.w X.K X.mg X.base X.A X.stack s H :=
 ⟨I.ok.frames,I.ok.mod,I.bs,Nat.le_trans I.ok.bsz I.sz,I.stack,I.stkFree,I.hok,I.bare⟩
theorem Inv.after {Q:VK} {u:Value} (I:Inv X pins σ H s) (h:CE X.stack X.prog X.w H s Q u s'):EP X pins σ Q u s':=by
 obtain ⟨v,H',os,bare,un,hok,r,q⟩:=h
 obtain ⟨hh,g,d,t,os'⟩:=s'
 obtain rfl:os'=s.os:=os
 exact ⟨v,H',I.call (h':=hh) (g':=g) (d':=d) (t':=t) (ch:=[]) un hok bare (fun b z=>absurd z (by simp)),r,q⟩
end
noncomputable def tCall (sp:Sp) (dvs:List V) (E:XK) (t:TA):TE:=fun σ H Q=>t σ H fun vs H1=>sp (vs++dvs) H1 Q E
noncomputable def Binds (K:PySem.W.Frag) (fd:FuncData) (ps:List Str) (ds:List Value):Prop :=
 ∀ (s:Shared) (us:List Value),K.In s.heap→(us++ds).length=ps.length→BindsTo s fd ⟨us,[]⟩ (ps.zip (us++ds))
theorem Binds.all {K:PySem.W.Frag} {fd:FuncData} {ps:List Str} (h:∀ us:List Value,us.length=ps.length→bindArgs fd ⟨us,[]⟩=pure (ps.zip us)):Binds K fd ps []:=fun s us _ hl=>by
 rw [List.append_nil] at hl ⊢
 exact .of_eq (h us hl)
noncomputable def aEN (CX:CXT) (X:Cx) (E:XK):Prop:=∀ (pins:List (Addr×Obj)) (σ:St) (H:Hp) (s:Shared) (e:Value) (s':Shared),Inv X pins σ H s→CX X.stack H s E e s'→X.xe e s'
section
variable {X:Cx} {CX:CXT} {k:Nat} {f C:Addr} {fd:FuncData} {ps:List Str} {sp:Sp} {dvs:List V} {ds:List Value} {E:XK} {x m:Str} {p pos apos:Pos} {e o:Expr} {es:List Expr} {ta:TE} {t:TA}
theorem aHo {pins:List (Addr×Obj)} {σ:St} {H:Hp} {s:Shared} {Q:VK} {us:List Value} {vs:List V} (F:FnOk X.prog X.w X.K X.mg X.base CX k f fd ps sp) (hr:Room k X.A) (hb:Binds X.K fd ps ds) (hd:Vals dvs ds) (hx:aEN CX X E)
  (I:Inv X pins σ H s) (r:Vals vs us) (h:sp (vs++dvs) H Q E):wpAny (model X.prog X.w) X.A (call (.ref f) us) (EP X pins σ Q) X.xe s:=by
 have r2:Vals (vs++dvs) (us++ds):=r.append hd
 have hl:(us++ds).length=ps.length:=by rw [← r2.length]; exact F.len _ _ _ _ h
 refine wpAny_call (codeAny_mono (F.run X.A X.stack s H ⟨us,[]⟩ (us++ds) (vs++dvs) Q E hr I.env0 (hb s us I.kIn hl) r2 h) fun r s' hq=>?_)
 cases r with
 | error e=>exact hx pins σ H s e s' I hq
 | ok fl =>
  cases fl with
  | ret u=>exact I.after hq
  | next=>exact False.elim hq
  | brk=>exact False.elim hq
  | cont=>exact False.elim hq
theorem aI9 (F:FnOk X.prog X.w X.K X.mg X.base CX k f fd ps sp) (hr:Room k X.A) (hg:Gl X x) (hm:X.mg x=some (.ref f)) (hk:PySem.W.keepIn X.K (.ref f)=true) (hb:Binds X.K fd ps ds) (hd:Vals dvs ds) (hx:aEN CX X E)
  (ha:PA X (e :: es) t) (hdb:(x == ("__debug__":Str))=false:=by decide) (he:starEach (e :: es) X.env=(false,eval e X.env) :: starEach es X.env:=by rfl) (hpl:(backTo pos (starEach es X.env)).any (·.1)=false:=by rfl) :
  PE X (.Call (.Name x p) (e :: es) [] pos) (tCall sp dvs E t):=by
 intro pins s σ H Q I h
 refine wpAny_Call_Name_kw (jo I hg hm ?_ hdb)
 refine PySem.W.callWith_K (h₀:=X.base) I.ok.mod.kin hk (thn (ha pos pins s σ H _ I h) fun us s1 ⟨vs,H1,I1,r,q⟩=>⟨I1.kIn,?_⟩) he hpl
 exact aHo F hr hb hd hx I1 r q
end
section
variable {X:Cx} {CX:CXT} {k:Nat} {f C:Addr} {fd:FuncData} {ps ks:List Str} {sp:Sp} {E:XK} {x m:Str} {p pos apos kpos:Pos} {e o:Expr} {es:List Expr} {kws:List Keyword} {te ta:TE} {t tk:TA} {nm:Option Str}
variable {g:List Value→List Value→List Value} {gV:List V→List V→List V}
end
structure FnScope (N P:List Str) (sc:Scope):Prop where
 kind:sc.kind=.function
 co:sc.isCoroutine=false
 gen:sc.isGenerator=false
 nd:N.Nodup
 pre:N.take P.length=P
 par:∀ x∈P,sc.names.lookup x=some .local∨sc.names.lookup x=some .cell
 nofree:∀ y∈sc.names,y.2≠.free
theorem aCF {kindOf:Str→Option NameKind} {x:Str}:∀ {binds:List (Str×Value)} {m:Str→Option Value},(∀ v,(x,v) ∉ binds)→bindL kindOf binds m x=m x
 | [],_,_=>rfl
 | (n,v) :: r,m,h=>by
  unfold bindL
  rw [aCF fun w hw=>h w (List.mem_cons_of_mem _ hw)]
  split
  ·have:x≠n:=by rintro rfl; exact h v List.mem_cons_self
   simp [this]
  ·rfl
theorem aCG {kindOf:Str→Option NameKind} {x:Str}:∀ {binds:List (Str×Value)} {m:Str→Option Value},(∀ v,(x,v) ∉ binds)→bindC kindOf binds m x=m x
 | [],_,_=>rfl
 | (n,v) :: r,m,h=>by
  unfold bindC
  rw [aCG fun w hw=>h w (List.mem_cons_of_mem _ hw)]
  split
  ·rfl
  ·have:x≠n:=by rintro rfl; exact h v List.mem_cons_self
   simp [this]
theorem aCH {kindOf:Str→Option NameKind} {x:Str} {v:Value}:∀ {P:List Str} {vs:List Value} {i:Nat} {m:Str→Option Value},P.Nodup→P[i]?=some x→vs[i]?=some v→kindOf x=some .local →
  bindL kindOf (P.zip vs) m x=some v
 | [],_,_,_,_,h,_,_=>by simp at h
 | _ :: _,[],_,_,_,_,h,_=>by simp at h
 | p :: P,w :: vs,0,m,nd,h1,h2,hk=>by
  simp at h1 h2; subst h1; subst h2
  show bindL kindOf ((p,w) :: P.zip vs) m p=_
  unfold bindL
  rw [aCF fun v hv=>(List.nodup_cons.mp nd).1 (List.of_mem_zip hv).1,if_pos hk]
  simp
 | p :: P,w :: vs,i + 1,m,nd,h1,h2,hk=>by
  show bindL kindOf ((p,w) :: P.zip vs) m x=_
  unfold bindL
  exact aCH (i:=i) (List.nodup_cons.mp nd).2 (by simpa using h1) (by simpa using h2) hk
theorem aCI {kindOf:Str→Option NameKind} {x:Str} {v:Value}:∀ {P:List Str} {vs:List Value} {i:Nat} {m:Str→Option Value},P.Nodup→P[i]?=some x→vs[i]?=some v→kindOf x≠some .local →
  bindC kindOf (P.zip vs) m x=some v
 | [],_,_,_,_,h,_,_=>by simp at h
 | _ :: _,[],_,_,_,_,h,_=>by simp at h
 | p :: P,w :: vs,0,m,nd,h1,h2,hk=>by
  simp at h1 h2; subst h1; subst h2
  show bindC kindOf ((p,w) :: P.zip vs) m p=_
  unfold bindC
  rw [aCG fun v hv=>(List.nodup_cons.mp nd).1 (List.of_mem_zip hv).1,if_neg hk]
  simp
 | p :: P,w :: vs,i + 1,m,nd,h1,h2,hk=>by
  show bindC kindOf ((p,w) :: P.zip vs) m x=_
  unfold bindC
  exact aCI (i:=i) (List.nodup_cons.mp nd).2 (by simpa using h1) (by simpa using h2) hk
noncomputable def start (N:List Str) (vs:List V):St:=vs.map some++List.replicate (N.length - vs.length) none
noncomputable def cxOf (CX:CXT) (P:Program) (w:World) (K:PySem.W.Frag) (mg:Str→Option Value) (base:Heap) (N:List Str) (qual:Str) (scope:Scope) (f:Addr) (cd:Value) (A:Around) (outer:List Env) (s:Shared) (H:Hp) (E:XK):Cx where
 prog:=P
 w:=w
 K:=K
 mg:=mg
 base:=base
 A:=A.deeper (envOfC qual scope s.heap.objs.size f cd)
 N:=N
 s₀:=s
 H₀:=H
 env:=envOfC qual scope s.heap.objs.size f cd
 outer:=outer
 stack:=envOfC qual scope s.heap.objs.size f cd :: outer
 ex:=[]
 calm:=true
 fn:=fun _=>true
 pn:=[]
 xe:=fun e s'=>wpAny (model P w) (A.deeper (envOfC qual scope s.heap.objs.size f cd)) (leaving (envOfC qual scope s.heap.objs.size f cd) e) (fun _ s''=>CX outer H s E e s'') (fun e' s''=>CX outer H s E e' s'') s'
theorem aEO {sc:Scope} {n:Nat} {x:Str} (h:sc.names.lookup x=some .cell):∃ c,(cellsFrom n sc.names []).lookup x=some c:=by
 have q:=PySem.W.cellsFrom_some sc.names n [] (.inl h)
 exact Option.isSome_iff_exists.mp q
theorem aFf {CX:CXT} {P:Program} {w:World} {K:PySem.W.Frag} {mg:Str→Option Value} {base:Heap} {N ps:List Str} {qual:Str} {scope:Scope} {f:Addr} {cd:Value} {A:Around} {outer:List Env} {s s1:Shared} {H:Hp} {E:XK} {us:List Value} {vs:List V}
  (S:FnScope N ps scope) (hd:A.handled=none) (e0:Env0 P w K mg base A outer s H) (hl:vs.length=ps.length) (r:Vals vs us)
  (x:InCallC s s.heap.objs.size (bindL (envOfC qual scope s.heap.objs.size f cd).kindOf (ps.zip us) fun _=>none) (cellsFrom (s.heap.objs.size + 1) scope.names []) (bindC (envOfC qual scope s.heap.objs.size f cd).kindOf (ps.zip us) fun _=>none) s1) :
  Inv (cxOf CX P w K mg base N qual scope f cd A outer s H E) [] (start N vs) H s1:=by
 have hpl:ps.length≤N.length:=by have:=congrArg List.length S.pre; rw [List.length_take] at this; lia
 obtain ⟨h1,tk,rfl,hk⟩:=x.done
 have noA:∀ b:Addr,b ∉ (cxOf CX P w K mg base N qual scope f cd A outer s H E).ex:=fun b z=>absurd (show b∈([]:List Addr) from z) (by simp)
 refine ⟨⟨e0.mod,S.kind,rfl,rfl,Nat.le_refl _,fun y z c h1 h2=>?_,fun y hy=>?_,fun y c _ h=>?_,fun _=>hd,Around.frames_deeper e0.frames,.inr ⟨rfl,rfl⟩,fun b z=>absurd z (noA b),e0.bs,e0.bsz,fun b _ _=>noA b,fun b z=>absurd z (noA b),e0.funs,e0.frf⟩,
  rfl,e0.bare,Un.kept hk,⟨_,x.toInCall.ns,fun i y v h1 h2 h3=>?_⟩,fun y c h=>⟨_,x.cell y c h⟩,e0.hok.fresh (Nat.le_refl _),fun y c h=>?_,fun p hp=>absurd (show p∈([]:List (Addr×Obj)) from hp) (by simp),e0.hok.kept hk,?_⟩
 ·exact name_of_addr x.apart (PySem.mem_of_lookup h1) (PySem.mem_of_lookup h2)
 ·have hy:scope.names.lookup y=some .cell∨scope.names.lookup y=some .free:=hy
  rcases hy with hy | hy
  ·exact aEO hy
  ·exact absurd rfl (S.nofree _ (PySem.mem_of_lookup hy))
 ·exact Nat.le_of_lt (x.above y c (PySem.mem_of_lookup h))
 ·have hi:i < vs.length:=by
   unfold start at h2
   by_cases hi:i < vs.length
   ·exact hi
   ·rw [List.getElem?_append_right (by simpa using hi)] at h2
    rw [List.getElem?_replicate] at h2
    split at h2 <;> cases h2
  have ha:vs[i]?=some v:=by
   unfold start at h2
   rw [List.getElem?_append_left (by simpa using hi),List.getElem?_map] at h2
   cases e:vs[i]? with
   | none=>rw [e] at h2; cases h2
   | some a=>rw [e] at h2; cases h2; rfl
  obtain ⟨u,hu,rv⟩:=r.get ha
  have hp:ps[i]?=some y:=by
   rw [← S.pre,List.getElem?_take_of_lt (by lia)]; exact h1
  have ndP:ps.Nodup:=by rw [← S.pre]; exact S.nd.sublist (List.take_sublist _ _)
  refine ⟨u,rv,?_⟩
  rcases S.par y (List.mem_of_getElem? hp) with k | k
  ·exact .inl ⟨k,aCH ndP hp hu k⟩
  ·obtain ⟨c,e⟩:=aEO (n:=s.heap.objs.size + 1) k
   refine .inr ⟨.inl k,c,e,?_⟩
   have q:=x.cell y c e
   rw [aCI ndP hp hu (by show scope.names.lookup y≠_; rw [k]; decide)] at q
   exact q
 ·exact e0.hok.fresh (Nat.le_of_lt (x.above y c (PySem.mem_of_lookup h)))
 ·unfold start
  show _=N.length
  rw [List.length_append,List.length_map,List.length_replicate]
  lia
theorem fn_of {CX:CXT} {P:Program} {w:World} {K:PySem.W.Frag} {mg:Str→Option Value} {base:Heap} {k:Nat} {f:Addr} {name qual:Str} {params:Arguments} {body:List Stmt} {scope:Scope} {dV kV doc pm cdv ct oc:Value} {an od:Option Addr}
  {osl:Array (Option Value)} {N ps:List Str} {sp:Sp} (lk:K.lookup f=some ⟨oc,od,.func (PySem.W.fnOf name qual params body scope dV kV doc pm an cdv ct),osl⟩) (hcd:PySem.W.codeIn K cdv qual=true) (S:FnScope N ps scope)
  (len:∀ vs H Q E,sp vs H Q E→vs.length=ps.length)
  (hbody:∀ (A:Around) (outer:List Env) (s:Shared) (H:Hp) (vs:List V) (Q:VK) (E:XK),Room k (A.deeper (envOfC qual scope s.heap.objs.size f cdv))→sp vs H Q E →
   ∃ t,PSs (cxOf CX P w K mg base N qual scope f cdv A outer s H E) body t∧t { nx:=fun _ H'=>Q .non H',rt:=Q } (start N vs) H) :
  FnOk P w K mg base CX (k + 1) f (PySem.W.fnOf name qual params body scope dV kV doc pm an cdv ct) ps sp:=by
 refine ⟨len,fun A outer s H args us vs Q E hr e0 hb r hsp=>?_⟩
 have hl:=len _ _ _ _ hsp
 have KX:K.In s.heap:=e0.mod.kin.keeps fun b o e=>(e0.bs b o e).1
 have lim:s.heap.NoLimit:=e0.mod.nolimit.keeps fun b o e=>(e0.bs b o e).1
 have hkind:∀ y∈ps.zip us,scope.names.lookup y.1=some .local∨(scope.names.lookup y.1=some .cell∧((cellsFrom (s.heap.objs.size + 1) scope.names []).lookup y.1).isSome=true):=fun ⟨n,v⟩ hy=>by
  rcases S.par n (List.of_mem_zip hy).1 with q | q
  ·exact .inl q
  ·exact .inr ⟨q,PySem.W.cellsFrom_some _ _ _ (.inl q)⟩
 refine codeAny_call_function hr.depth (KX _ _ lk) rfl S.co S.gen rfl (PySem.W.codeRec_of KX hcd) (hb _ _ _ _ ?_)
 refine wpAny_newFunctionEnv_cells S.kind hkind fun env he s1 x=>?_
 subst he
 refine ⟨lim.keeps x.toInCall.keep,codeAny_func ?_⟩
 obtain ⟨t,ht,hq⟩:=hbody A outer s H vs Q E (hr.deeper _) hsp
 have I:Inv (cxOf CX P w K mg base N qual scope f cdv A outer s H E) [] (start N vs) H s1:=aFf S hr.hd e0 hl r x
 refine wpAny_mono (ht [] s1 (start N vs) H _ I hq) (fun fl s' hs=>?_) fun e s' hs=>hs
 have fin:∀ {σ':St} {H':Hp} {v:V} {u:Value},Inv (cxOf CX P w K mg base N qual scope f cdv A outer s H E) [] σ' H' s'→RelV v u→Q v H'→CE outer P w H s Q u s' :=
  fun {σ' H' v u} J rv q=>⟨v,H',J.os,J.bare,J.base,J.hok,rv,q⟩
 cases fl with
 | ret u =>
  obtain ⟨v,σ',H',J,rv,q⟩:=hs
  exact fin J rv q
 | next =>
  obtain ⟨σ',H',J,q⟩:=hs
  exact fin (v:=V.non) (u:=Value.none) J rfl q
 | brk =>
  obtain ⟨_,_,_,q⟩:=hs
  exact False.elim q
 | cont =>
  obtain ⟨_,_,_,q⟩:=hs
  exact False.elim q
end L2
namespace L2
open PySem PySem.Spec PyProof.Rows
section
variable {X:Cx} {x:Str} {p pos:Pos} {e:Expr} {es:List Expr} {t:TA} {id T:String} {r:List V→Hp→VK→Prop}
noncomputable def tCB (r:List V→Hp→VK→Prop) (t:TA):TE:=fun σ H Q=>t σ H fun vs H1=>r vs H1 Q
theorem zS (hc:CallR X (.builtin id) r) (hg:Gl X x) (hm:X.mg x=none) (hv:bootBuiltins x=some (.builtin id)) (ha:PA X (e :: es) t) (hn:x≠"__name__":=by decide) (hdb:(x == ("__debug__":Str))=false:=by decide)
  (he:starEach (e :: es) X.env=(false,eval e X.env) :: starEach es X.env:=by rfl) (hpl:(backTo pos (starEach es X.env)).any (·.1)=false:=by rfl):PE X (.Call (.Name x p) (e :: es) [] pos) (tCB r t):=by
 intro pins s σ H Q I h
 refine wpAny_Call_Name_kw (qj I hg hm hv ?_ hn hdb)
 exact PyProof.Rows.callWith_builtin1 (thn (ha pos pins s σ H _ I h) fun us s1 ⟨vs,H1,I1,r1,q1⟩=>hc pins s1 σ H1 vs us Q I1 r1 q1) he hpl
theorem zi (hc:CallR X (.type T) r) (hg:Gl X x) (hm:X.mg x=none) (hv:bootBuiltins x=some (.type T)) (ha:PA X (e :: es) t) (hn:x≠"__name__":=by decide) (hdb:(x == ("__debug__":Str))=false:=by decide)
  (he:starEach (e :: es) X.env=(false,eval e X.env) :: starEach es X.env:=by rfl) (hpl:(backTo pos (starEach es X.env)).any (·.1)=false:=by rfl):PE X (.Call (.Name x p) (e :: es) [] pos) (tCB r t):=by
 intro pins s σ H Q I h
 refine wpAny_Call_Name_kw (qj I hg hm hv ?_ hn hdb)
 exact PyProof.Rows.callWith_type1 (thn (ha pos pins s σ H _ I h) fun us s1 ⟨vs,H1,I1,r1,q1⟩=>hc pins s1 σ H1 vs us Q I1 r1 q1) he hpl
end
end L2
namespace HT
open PySem PyProof.Rows
section
open PySem.SeqAt
open PySem.AutoSeq1 (wpAny_loadPart')
open PySem.MeetsSeq PySem.MeetsSeq2 PySem.MeetsSeq3
end
section
variable {prog:Program} {w:World} {A:Around} {E:Value→Shared→Prop} {s:Shared}
theorem cat_tup {t b:Addr} {vs ws:List Value} {Q:Value→Shared→Prop} (ht:IsTup s.heap t vs.toArray) (hb:IsTup s.heap b ws.toArray) (hv:vs≠[])
  (h1:ws=[]→Q (.ref t) s) (h2:ws≠[]→Q (.ref s.heap.objs.size) { s with heap:=s.heap.push { cls:=.type "tuple",data:=.seq (vs++ws).toArray } })
  (hsz:vs.length + ws.length≤sizeLine):wpAny (model prog w) A (binaryOp .Add (.ref t) (.ref b)) Q E s:=by
 obtain ⟨⟨cls,dd,data,sl⟩,ho,hc,n,hd⟩:=id ht
 obtain ⟨⟨cls2,dd2,data2,sl2⟩,ho2,hc2,n2,hd2⟩:=id hb
 simp only at hc hd hc2 hd2
 subst hc hd hc2 hd2
 have e:vs.toArray++ws.toArray=(vs++ws).toArray:=by simp
 by_cases hw:ws=[]
 ·exact concat_meets ⟨_,ho,rfl⟩ ⟨_,ho2,rfl⟩ noFill_tuple_add seq_tuple_add PySem.F.slot_tuple_add PySem.F.entry_tuple_add (PySem.F.args_tuple_add_2 _ _)
   (tuple_addW1 t b vs.toArray ws.toArray n n2 dd dd2 sl sl2 (by simpa using hv) (by simp [hw])) ⟨ho,ho2,h1 hw⟩
 ·refine concat_meets ⟨_,ho,rfl⟩ ⟨_,ho2,rfl⟩ noFill_tuple_add seq_tuple_add PySem.F.slot_tuple_add PySem.F.entry_tuple_add (PySem.F.args_tuple_add_2 _ _)
   (tuple_addW2 t b vs.toArray ws.toArray n n2 dd dd2 sl sl2 (by simpa using hv) (by simpa using hw) (by rw [List.size_toArray,List.size_toArray]; exact hsz)) ⟨ho,ho2,?_⟩
  rw [e]
  exact h2 hw
noncomputable def sIx (n d:Nat):Option Int→Nat
 | none=>d
 | some v=>if v < 0 then (v + (n:Int)).toNat else min v.toNat n
theorem aJ4 (n d:Nat) (hd:d≤n) (o:Option Int):sIx n d o≤n:=by
 cases o with
 | none=>exact hd
 | some v =>
  show (if v < 0 then (v + (n:Int)).toNat else min v.toNat n)≤n
  by_cases hv:v < 0
  ·rw [if_pos hv]; lia
  ·rw [if_neg hv]; exact Nat.min_le_right _ _
theorem aFg (v:Int) (n d:Nat):(if v < 0 then max (v + (n:Int)) 0 else min v (n:Int))=((sIx n d (some v):Nat):Int):=by
 show (if v < 0 then max (v + (n:Int)) 0 else min v (n:Int))=(((if v < 0 then (v + (n:Int)).toNat else min v.toNat n):Nat):Int)
 by_cases hv:v < 0
 ·simp only [if_pos hv]; lia
 ·simp only [if_neg hv]; lia
theorem aEy (lo hi:Option Int) (n:Nat):Builtin.Slice.sliceAdjust lo hi 1 (n:Int)=(((sIx n 0 lo:Nat):Int),((sIx n n hi:Nat):Int)):=by
 have h1:¬ ((1:Int) < 0):=by lia
 unfold Builtin.Slice.sliceAdjust
 simp only [h1,if_false]
 refine Prod.ext ?_ ?_
 ·cases lo with
  | none=>rfl
  | some v=>exact aFg v n 0
 ·cases hi with
  | none=>rfl
  | some v=>exact aFg v n n
theorem aEz (i j:Nat):Builtin.Slice.slicePlaces (i:Int) (j:Int) 1=j - i:=by
 unfold Builtin.Slice.slicePlaces
 have h1:(1:Int) > 0:=by lia
 simp only [h1,if_true,Int.ediv_one]
 split <;> lia
theorem qQ {v:Value} {o:Option Int} {Q:Option Int→Shared→Prop} (p:IsPart v o) (h:Q o s):wpAny (model prog w) A (Builtin.Slice.slicePartIndex v) Q E s:=by
 cases p with
 | none=>exact slicePart_none h
 | int i t=>exact slicePart_int h
theorem qF {sl:Addr} {vl vu:Value} {lo hi:Option Int} {n:Nat} {Q:Int×Int×Nat→Shared→Prop} (hs:s.heap.IsSliceOf sl vl vu .none) (pl:IsPart vl lo) (pu:IsPart vu hi)
  (h:Q (((sIx n 0 lo:Nat):Int),1,sIx n n hi - sIx n 0 lo) s):wpAny (model prog w) A (Builtin.Slice.sliceApplied (.ref sl) (pure (n:Int))) Q E s:=by
 obtain ⟨os,hos,hcs,hds⟩:=id hs
 unfold Builtin.Slice.sliceApplied Builtin.Slice.sliceFields
 refine wpAny_bind (wpAny_bind (wpAny_field hos hds (x:=vl) rfl (wpAny_bind (wpAny_field hos hds (x:=vu) rfl (wpAny_bind (wpAny_field hos hds (x:=.none) rfl (wpAny_pure ?_)))))))
 refine wpAny_bind (slicePart_none ?_)
 show wpAny _ _ (if ((1:Int) == 0)=true then _ else _) _ _ s
 rw [if_neg (by decide)]
 refine wpAny_bind (qQ pl (wpAny_bind (qQ pu (wpAny_bind (wpAny_pure ?_)))))
 show wpAny _ _ (match Builtin.Slice.sliceAdjust lo hi 1 (n:Int) with | (lo,hi)=>pure (lo,(1:Int),Builtin.Slice.slicePlaces lo hi 1)) _ _ s
 rw [aEy lo hi n]
 show wpAny _ _ (pure (((sIx n 0 lo:Nat):Int),(1:Int),Builtin.Slice.slicePlaces ((sIx n 0 lo:Nat):Int) ((sIx n n hi:Nat):Int) 1)) _ _ s
 rw [aEz]
 exact wpAny_pure h
theorem aEP (xs:Array Value) (i k:Nat):((List.range k).filterMap fun (m:Nat)=>xs[((i:Int) + (m:Int) * 1).toNat]?).toArray=((xs.toList.drop i).take k).toArray:=by
 have e:(fun (m:Nat)=>xs[((i:Int) + (m:Int) * 1).toNat]?)=fun m=>xs[i + m]?:=by
  funext m
  have:((i:Int) + (m:Int) * 1).toNat=i + m:=by lia
  rw [this]
 rw [e]
 have:=pick_run xs i k
 rw [List.filterMap_map] at this
 have e2:((fun x=>xs[x]?) ∘ fun x=>i + x)=fun m=>xs[i + m]?:=rfl
 rw [e2] at this
 rw [this]
theorem getItem_tuple_cut {t sl:Addr} {items:Array Value} {vl vu:Value} {lo hi:Option Int} {Q:Value→Shared→Prop} (ht:IsTup s.heap t items) (hs:s.heap.IsSliceOf sl vl vu .none) (pl:IsPart vl lo) (pu:IsPart vu hi)
    (hw:¬ (sIx items.size 0 lo=0∧sIx items.size items.size hi=items.size))
    (h:Q (.ref s.heap.objs.size) { s with heap:=s.heap.push { cls:=.type "tuple",data:=.seq ((items.toList.drop (sIx items.size 0 lo)).take (sIx items.size items.size hi - sIx items.size 0 lo)).toArray } })
    (hsz:items.size≤sizeLine):wpAny (model prog w) A (getItem (.ref t) (.ref sl)) Q E s:=by
  have htake:sizeOk (.seq ((items.toList.drop (sIx items.size 0 lo)).take (sIx items.size items.size hi - sIx items.size 0 lo)).toArray):=by
    show ((items.toList.drop (sIx items.size 0 lo)).take (sIx items.size items.size hi - sIx items.size 0 lo)).toArray.size≤sizeLine
    rw [List.size_toArray,List.length_take,List.length_drop,Array.length_toList]
    lia
  have hj:sIx items.size items.size hi≤items.size:=aJ4 _ _ (Nat.le_refl _) hi
  obtain ⟨os,hos,hcs,hds⟩:=id hs
  have hTs:s.TypeIs (.ref sl) "slice":=⟨os,hos,hcs⟩
  unfold getItem
  try with_reducible refine wpAny_holding ?_
  first | refine wpAny_bind (wpAny_pure ?_) | skip
  refine wpAny_bind (wpAny_sequenceKey ht.typeIs (by decide) ?_)
  refine wpAny_bind (wpAny_callSpecial?_slot (name:=Str.ofString "__getitem__") ht.typeIs PyProof.Rows.slot_tuple_getitem
    (wpAny_call_entry PyProof.Rows.slot_tuple_getitem ht.typeIs entry_tuple_getitem ?_ (args_tuple_getitem _ _)))
  show wpAny _ _ (Builtin.Tuple.tupleItemsOf (.ref t) >>= _) _ _ s
  refine wpAny_bind (tupleItemsOf_ ht ?_)
  refine wpAny_bind (wpAny_typeOf hTs ?_)
  rw [if_pos (by decide)]
  refine wpAny_bind (qF hs pl pu ?_)
  have hno:¬ ((((sIx items.size 0 lo:Nat):Int) == 0 && (1:Int) == 1 && (sIx items.size items.size hi - sIx items.size 0 lo) == items.size)=true):=by
    intro q
    rw [Bool.and_eq_true,Bool.and_eq_true] at q
    have q1:((sIx items.size 0 lo:Nat):Int)=0:=eq_of_beq q.1.1
    have q2:sIx items.size items.size hi - sIx items.size 0 lo=items.size:=eq_of_beq q.2
    exact hw ⟨by lia,by lia⟩
  show wpAny _ _ (if (((sIx items.size 0 lo:Nat):Int) == 0 && (1:Int) == 1 && (sIx items.size items.size hi - sIx items.size 0 lo) == items.size)=true then _ else _) _ _ s
  rw [if_neg hno,aEP]
  first
    | exact wpAny_bind (m:=Builtin.Tuple.tupleExact _) (wpAny_newObj_type (wpAny_pure ⟨_,rfl,wpAny_pure h⟩) htake)
    | exact wpAny_bind (m:=Builtin.Tuple.tupleExact _) (wpAny_newObj_type (wpAny_bind (wpAny_pure (wpAny_pure ⟨_,rfl,wpAny_pure h⟩))) htake)
    | exact wpAny_bind (wpAny_bind (m:=Builtin.Tuple.tupleExact _) (wpAny_newObj_type (wpAny_pure (wpAny_pure ⟨_,rfl,wpAny_pure h⟩)) htake))
    | exact wpAny_bind (wpAny_bind (m:=Builtin.Tuple.tupleExact _) (wpAny_newObj_type (wpAny_pure ⟨_,rfl,wpAny_pure h⟩) htake))
end
end HT
namespace L2
open PySem PySem.Spec PyProof.Rows
noncomputable abbrev TO:=St→Hp→(Option Int→Hp→Prop)→Prop
noncomputable def PO (X:Cx) (e:Option Expr) (t:TO):Prop :=
 ∀ (pins:List (Addr×Obj)) (s:Shared) (σ:St) (H:Hp) (Q:Option Int→Hp→Prop),Inv X pins σ H s→t σ H Q →
  wpAny (model X.prog X.w) X.A (evalPart e X.env) (fun u s'=>∃ o H',Inv X pins σ H' s'∧IsPart u o∧Q o H') X.xe s
noncomputable def aIA:TO:=fun _ H Q=>Q none H
noncomputable def tPart (t:TE):TO:=fun σ H Q=>t σ H fun x H1=>∃ i,x=.int i∧Q (some i) H1
theorem aAN {ns:List Int}:∀ {us:List Value},Vals (ns.map V.int) us→IntsAre us ns:=by
 induction ns with
 | nil=>intro us r; rw [List.map_nil] at r; cases r; exact .nil
 | cons n ns ih =>
  intro us r
  rw [List.map_cons] at r
  cases r with
  | cons r1 r2 =>
   obtain ⟨t,e⟩:=r1
   subst e
   exact .cons n t (ih r2)
section
variable {X:Cx} {e:Expr} {te:TE} {lo hi:Option Expr} {tl th:TO} {pos p2:Pos}
theorem yi:PO X none aIA:=by
 intro pins s σ H Q I h
 rw [evalPart_none]
 exact wpAny_pure ⟨none,H,I,.none,h⟩
theorem yN (h:PE X e te):PO X (some e) (tPart te):=by
 intro pins s σ H Q I hw
 rw [evalPart_some]
 refine thn (h pins s σ H _ I hw) fun u s1 ⟨x,H1,I1,r1,q1⟩=>?_
 obtain ⟨i,rfl,q⟩:=q1
 obtain ⟨t,rfl⟩:=r1
 exact ⟨some i,H1,I1,.int i t,q⟩
noncomputable def SlR (X:Cx) (r:V→Option Int→Option Int→Hp→VK→Prop):Prop :=
 ∀ (pins:List (Addr×Obj)) (s:Shared) (σ:St) (H:Hp) (x:V) (v vl vu:Value) (lo hi:Option Int) (sl:Addr) (Q:VK),Inv X pins σ H s→RelV x v→s.heap.IsSliceOf sl vl vu .none→IsPart vl lo→IsPart vu hi→r x lo hi H Q →
  ∃ T id,typeLookup (.type T) "__getitem__"=pure (some (.builtin id))∧s.TypeIs v T∧wpAny (model X.prog X.w) X.A (getItem v (.ref sl)) (EP X pins σ Q) X.xe s
noncomputable def tSl (r:V→Option Int→Option Int→Hp→VK→Prop) (te:TE) (tl th:TO):TE:=fun σ H Q=>te σ H fun x H1=>tl σ H1 fun l H2=>th σ H2 fun u H3=>r x l u H3 Q
theorem yO {r:V→Option Int→Option Int→Hp→VK→Prop} (hr:SlR X r) (he:PE X e te) (hl:PO X lo tl) (hu:PO X hi th):PE X (.Subscript e (.Slice lo hi none p2) pos) (tSl r te tl th):=by
 intro pins s σ H Q I h
 refine Subscript_ (thn (he pins s σ H _ I h) fun v s1 ⟨x,H1,I1,r1,q1⟩=>?_)
 refine wpAny_Slice (thn (hl pins s1 σ H1 _ I1 q1) fun vl s2 ⟨l,H2,I2,pl,q2⟩=>thn (hu pins s2 σ H2 _ I2 q2) fun vu s3 ⟨u,H3,I3,pu,q3⟩=>?_)
 rw [evalPart_none]
 refine wpAny_pure ?_
 have I4:Inv X pins σ H3 { s3 with heap:=s3.heap.push { cls:=.type "slice",data:=.fields #[vl,vu,.none] } }:=I3.kept (t':=s3.toks) fun b ob q=>Heap.get?_push_of_some _ q
 obtain ⟨T,id,hT,ht,hg⟩:=hr pins { s3 with heap:=s3.heap.push { cls:=.type "slice",data:=.fields #[vl,vu,.none] } } σ H3 x v vl vu l u s3.heap.objs.size Q I4 r1 (Heap.IsSliceOf.new ..) pl pu q3
 show wpAny (model X.prog X.w) X.A (subscriptTail e (.Slice lo hi none p2) v (.ref s3.heap.objs.size)) (EP X pins σ Q) X.xe { s3 with heap:=s3.heap.push { cls:=.type "slice",data:=.fields #[vl,vu,.none] } }
 exact tail_any (ops:=[.ref s3.heap.objs.size,v]) ht hT hg (by with_unfolding_all rfl)
noncomputable def cutV (xs:List V) (lo hi:Option Int):List V:=(xs.drop (HT.sIx xs.length 0 lo)).take (HT.sIx xs.length xs.length hi - HT.sIx xs.length 0 lo)
theorem jt (xs:List V) (lo hi:Option Int):(cutV xs lo hi).length≤xs.length:=by
 unfold cutV
 rw [List.length_take,List.length_drop]
 lia
noncomputable def rSlT (K:PySem.W.Frag):V→Option Int→Option Int→Hp→VK→Prop:=fun x lo hi H Q=>∃ a xs,x=.ref a∧SqT K H a xs ∧
 ¬ (HT.sIx xs.length 0 lo=0∧HT.sIx xs.length xs.length hi=xs.length)∧∀ p,H p=none→Q (.ref p) (upd H p (.tup (cutV xs lo hi)))
theorem aJ5:SlR X (rSlT X.K):=by
 intro pins s σ H x v vl vu lo hi sl Q I rx hs pl pu h
 obtain ⟨a,xs,rfl,hx,hw,q⟩:=h
 cases rx
 obtain ⟨its,r,ht,hz⟩:=I.tuple hx
 have hlen:its.toArray.size=xs.length:=by rw [List.size_toArray]; exact r.length.symm
 refine ⟨"tuple",_,PyProof.Rows.slot_tuple_getitem.lookup,ht.typeIs,?_⟩
 refine HT.getItem_tuple_cut ht hs pl pu (by rw [hlen]; exact hw) ?_ (by rw [hlen]; exact hz)
 rw [hlen]
 refine ⟨.ref s.heap.objs.size,_,I.laid (t':=s.toks) (o:=.tup (cutV xs lo hi)) (fun b ob q=>Heap.get?_push_of_some _ q) (Nat.le_refl _) ?_,rfl,q _ (I.hok.fresh (Nat.le_refl _))⟩
 exact ⟨Nat.le_trans (jt xs lo hi) hz,_,(r.drop (HT.sIx xs.length 0 lo)).take (HT.sIx xs.length xs.length hi - HT.sIx xs.length 0 lo),IsTup.new _ _⟩
noncomputable def rCatT (K:PySem.W.Frag):R2:=fun x y H Q=>∃ a b xs ys,x=.ref a∧y=.ref b∧SqT K H a xs∧SqT K H b ys∧xs≠[]∧xs.length + ys.length≤sizeLine ∧
 (ys=[]→Q (.ref a) H)∧(ys≠[]→∀ p,H p=none→Q (.ref p) (upd H p (.tup (xs++ys))))
theorem Vals.nil_iff {xs:List V} {us:List Value} (r:Vals xs us):us=[]↔xs=[]:=by
 cases r with
 | nil=>simp
 | cons _ _=>simp
theorem aIB:OpR X (binaryOp .Add) (rCatT X.K):=by
 intro pins s σ H x y v u Q I rx ry h
 obtain ⟨a,b,xs,ys,rfl,rfl,ha,hb,hx,hz,q1,q2⟩:=h
 cases rx
 cases ry
 obtain ⟨its,r1,p1,_⟩:=I.tuple ha
 obtain ⟨its2,r2,p2,_⟩:=I.tuple hb
 refine HT.cat_tup p1 p2 (fun z=>hx (r1.nil_iff.mp z)) (fun z=>⟨.ref a,H,I,rfl,q1 (r2.nil_iff.mp z)⟩) (fun z=>?_) (by rw [← r1.length,← r2.length]; exact hz)
 refine ⟨.ref s.heap.objs.size,_,I.laid (t':=s.toks) (o:=.tup (xs++ys)) (fun b ob q=>Heap.get?_push_of_some _ q) (Nat.le_refl _) ?_,rfl,q2 (fun w=>z (r2.nil_iff.mpr w)) _ (I.hok.fresh (Nat.le_refl _))⟩
 exact ⟨by rw [List.length_append]; exact hz,_,r1.append r2,IsTup.new _ _⟩
end
end L2
namespace L2
open PySem PySem.Spec PyProof.Rows
noncomputable def ixN (n:Nat) (i:Int):Option Nat:=if 0≤i then (if i < n then some i.toNat else none) else if -(n:Int)≤i then some (i + n).toNat else none
noncomputable def atI {α:Type} (xs:List α) (i:Int):Option α:=(ixN xs.length i).bind fun j=>xs[j]?
theorem aIC {n:Nat} {i:Int} {j:Nat} (h:ixN n i=some j):seqIndex? i n=some j∧j < n∧-(n:Int)≤i∧i < n:=by
 unfold ixN at h
 by_cases h0:0≤i
 ·rw [if_pos h0] at h
  by_cases h1:i < n
  ·rw [if_pos h1] at h
   have e:i.toNat=j:=Option.some.inj h
   exact ⟨by rw [seqIndex_of h0 h1,e],by lia,by lia,h1⟩
  ·rw [if_neg h1] at h; cases h
 ·rw [if_neg h0] at h
  by_cases h1:-(n:Int)≤i
  ·rw [if_pos h1] at h
   have e:(i + n).toNat=j:=Option.some.inj h
   exact ⟨by rw [seqIndex_neg (by lia) h1,e],by lia,h1,by lia⟩
  ·rw [if_neg h1] at h; cases h
theorem aFh {α:Type} {xs:List α} {i:Int} {v:α} (h:atI xs i=some v):∃ j,seqIndex? i xs.length=some j∧xs[j]?=some v∧j < xs.length∧-(xs.length:Int)≤i∧i < xs.length:=by
 unfold atI at h
 cases e:ixN xs.length i with
 | none=>rw [e] at h; cases h
 | some j =>
  rw [e] at h
  obtain ⟨h1,h2,h3,h4⟩:=aIC e
  exact ⟨j,h1,h,h2,h3,h4⟩
theorem jO {α:Type} {xs:List α} {j:Nat} {v:α} (h:xs[j]?=some v):atI xs (j:Int)=some v:=by
 have hj:j < xs.length:=(List.getElem?_eq_some_iff.mp h).1
 have e:ixN xs.length (j:Int)=some j:=by
  unfold ixN
  rw [if_pos (by lia),if_pos (by lia)]; simp
 unfold atI; rw [e]; exact h
noncomputable def aFi (b:Expr):Prop:=∀ o i,subscripted b false o i=operate [o,i] (getItem o i)
noncomputable def IxR (X:Cx) (r:R2):Prop :=
 ∀ (value slice:Expr) (pins:List (Addr×Obj)) (s:Shared) (σ:St) (H:Hp) (x y:V) (v u:Value) (Q:VK),Inv X pins σ H s→RelV x v→RelV y u→r x y H Q →
  subscripted slice false v u=operate [v,u] (getItem v u)→wpAny (model X.prog X.w) X.A (subscriptTail value slice v u) (EP X pins σ Q) X.xe s
noncomputable def MtR (X:Cx) (id:String) (r:V→List V→Hp→VK→Prop):Prop :=
 ∀ (pins:List (Addr×Obj)) (s:Shared) (σ:St) (H:Hp) (x:V) (xs:List V) (v:Value) (us:List Value) (Q:VK),Inv X pins σ H s→RelV x v→Vals xs us→r x xs H Q →
  wpAny (model X.prog X.w) X.A (call (.builtin id) (v :: us)) (EP X pins σ Q) X.xe s
section
variable {X:Cx} {a b:Expr} {ta tb:TE} {pos:Pos}
theorem pe_ix {r:R2} (hr:IxR X r) (ha:PE X a ta) (hb:PE X b tb) (hs:aFi b):PE X (.Subscript a b pos) (tOp r ta tb):=by
 intro pins s σ H Q I h
 exact Subscript_ (binT ha hb I h fun v u s2 x y H2 I2 rx ry q=>hr a b pins s2 σ H2 x y v u Q I2 rx ry q (hs _ _))
noncomputable def rIxL (K:PySem.W.Frag):R2:=fun x y H Q=>∃ p xs i v,x=.ref p∧y=.int i∧SqL K H p xs∧atI xs i=some v∧Q v H
noncomputable def rIxT (K:PySem.W.Frag):R2:=fun x y H Q=>∃ p xs i v,x=.ref p∧y=.int i∧SqT K H p xs∧atI xs i=some v∧Q v H
theorem zn:IxR X (rIxL X.K):=by
 intro value slice pins s σ H x y v u Q I rx ry h hs
 obtain ⟨p,xs,i,z,rfl,rfl,hq,he,q⟩:=h
 cases rx
 obtain ⟨t,rfl⟩:=ry
 obtain ⟨its,r,pl,hz⟩:=I.list hq
 obtain ⟨j,h1,h2,h3,h4,h5⟩:=aFh he
 obtain ⟨w,ew,rw'⟩:=r.get h2
 have hl:=r.length
 have hn:=aFa
 have fin:EP X pins σ Q w s:=⟨z,H,I,rw',q⟩
 by_cases h0:0≤i
 ·have hj:i.toNat=j:=by
   rw [seqIndex_of h0 h5] at h1
   exact Option.some.inj h1
  exact item_listR pl.isList h0 (by lia) (by rw [hj]; simpa using ew) fin hs
 ·have hj:(i + (its.toArray.size:Int)).toNat=j:=by
   rw [seqIndex_neg (by lia) h4] at h1
   rw [List.size_toArray,← hl]
   exact Option.some.inj h1
  exact subscriptTail_builtinR (x:=w) pl.isList.typeIs slot_list_getitem.lookup
   (wpAny_getItem_list_neg (Q:=fun r s'=>r=w∧EP X pins σ Q r s') pl.isList (by lia) (by rw [List.size_toArray] <;> lia) (by lia) (by rw [hj]; simpa using ew) ⟨rfl,fin⟩) hs
theorem aFj:IxR X (rIxT X.K):=by
 intro value slice pins s σ H x y v u Q I rx ry h hs
 obtain ⟨p,xs,i,z,rfl,rfl,hq,he,q⟩:=h
 cases rx
 obtain ⟨t,rfl⟩:=ry
 obtain ⟨its,r,pl,hz⟩:=I.tuple hq
 obtain ⟨j,h1,h2,h3,h4,h5⟩:=aFh he
 obtain ⟨w,ew,rw'⟩:=r.get h2
 have hl:=r.length
 have hn:=aFa
 have fin:EP X pins σ Q w s:=⟨z,H,I,rw',q⟩
 exact subscriptTail_builtinR (x:=w) pl.typeIs slot_tuple_getitem.lookup
  (getItem_tuple (j:=j) (Q:=fun r s'=>r=w∧EP X pins σ Q r s') pl (by lia) (by lia) (by rw [List.size_toArray,← hl]; exact h1) (by simpa using ew) ⟨rfl,fin⟩) hs
theorem aCJ (lo hi:Option Int) (n:Nat):(sliceBounds lo hi none n).1=((HT.sIx n 0 lo:Nat):Int)∧(sliceBounds lo hi none n).2.1=((HT.sIx n n hi:Nat):Int)∧(sliceBounds lo hi none n).2.2=1:=by
 refine ⟨?_,?_,rfl⟩
 ·cases lo with
  | none=>simp [sliceBounds,HT.sIx]
  | some i =>
   simp only [sliceBounds,HT.sIx,Option.getD_none,show (1:Int) > 0 by decide,if_true]
   by_cases h:i < 0
   ·simp only [h,if_true] <;> lia
   ·simp only [h,if_false] <;> lia
 ·cases hi with
  | none=>simp [sliceBounds,HT.sIx]
  | some i =>
   simp only [sliceBounds,HT.sIx,Option.getD_none,show (1:Int) > 0 by decide,if_true]
   by_cases h:i < 0
   ·simp only [h,if_true] <;> lia
   ·simp only [h,if_false] <;> lia
theorem aAW (its:List Value) (lo hi:Option Int):slicePick its.toArray lo hi none=((its.drop (HT.sIx its.length 0 lo)).take (HT.sIx its.length its.length hi - HT.sIx its.length 0 lo)).toArray:=by
 obtain ⟨h1,h2,h3⟩:=aCJ lo hi its.toArray.size
 unfold slicePick
 rw [h1,h2,h3]
 simp only [sliceRange_one,pick_run,List.size_toArray] <;> rfl
noncomputable def rSlL (K:PySem.W.Frag):V→Option Int→Option Int→Hp→VK→Prop:=fun x lo hi H Q=>∃ a xs,x=.ref a∧SqL K H a xs∧∀ p,H p=none→Q (.ref p) (upd H p (.lst (cutV xs lo hi)))
theorem aDv:SlR X (rSlL X.K):=by
 intro pins s σ H x v vl vu lo hi sl Q I rx hs pl pu h
 obtain ⟨a,xs,rfl,hx,q⟩:=h
 cases rx
 obtain ⟨its,r,ht,hz⟩:=I.list hx
 have hlen:=r.length
 refine ⟨"list",_,slot_list_getitem.lookup,ht.isList.typeIs,?_⟩
 refine wpAny_getItem_list_slice ht.isList hs pl pu .none (by simp) ?_ (by rw [List.size_toArray] <;> lia)
 rw [aAW,← hlen]
 refine ⟨.ref s.heap.objs.size,_,I.laid (t':=s.toks) (o:=.lst (cutV xs lo hi)) (fun b ob q=>Heap.get?_push_of_some _ q) (Nat.le_refl _) ?_,rfl,q _ (I.hok.fresh (Nat.le_refl _))⟩
 exact ⟨Nat.le_trans (jt xs lo hi) hz,_,0,(r.drop (HT.sIx xs.length 0 lo)).take (HT.sIx xs.length xs.length hi - HT.sIx xs.length 0 lo),Heap.get?_push_size _ rfl⟩
theorem za:CallR X (.builtin "len") (fun xs H Q=>∃ p ys,xs=[.ref p]∧(SqL X.K H p ys∨SqT X.K H p ys)∧Q (.int ys.length) H):=by
 intro pins s σ H xs us Q I r h
 obtain ⟨p,ys,rfl,hq,q⟩:=h
 obtain ⟨u,rfl,rx⟩:=vals1 r
 cases rx
 have hn:=aFa
 rcases hq with hq | hq
 ·obtain ⟨its,r',pl,hz⟩:=I.list hq
  have hlen:=r'.length
  exact Calls.call_len_list pl.isList (by simp only [List.size_toArray] <;> lia) ⟨.int ys.length,H,I.tok _,⟨s.toks + 1,by rw [List.size_toArray,hlen]⟩,q⟩
 ·obtain ⟨its,r',pl,hz⟩:=I.tuple hq
  have hlen:=r'.length
  exact len_tuple pl (by simp only [List.size_toArray] <;> lia) ⟨.int ys.length,H,I.tok _,⟨s.toks + 1,by rw [List.size_toArray,hlen]⟩,q⟩
theorem aCK:CallR X (.type "list") (fun xs H Q=>∃ p ys,xs=[.ref p]∧(SqL X.K H p ys∨SqT X.K H p ys)∧∀ l,H l=none→Q (.ref l) (upd H l (.lst ys))):=by
 intro pins s σ H xs us Q I r h
 obtain ⟨p,ys,rfl,hq,q⟩:=h
 obtain ⟨u,rfl,rx⟩:=vals1 r
 cases rx
 have fin:∀ (its:List Value),Vals ys its→ys.length≤sizeLine→∀ (h':Heap) (c':Nat),(∀ b o',s.heap.get? b=some o'→h'.get? b=some o') →
   h'.get? s.heap.objs.size=some { cls:=.type "list",dict:=none,data:=.seq its.toArray c',slots:=#[] }→EP X pins σ Q (.ref s.heap.objs.size) { s with heap:=h' }:=fun its r' hz h' c' kp e =>
  ⟨.ref s.heap.objs.size,_,I.laid (t':=s.toks) kp (Nat.le_refl _) (show ObjOk X.prog X.w _ h' _ (.lst ys) from ⟨hz,its,c',r',e⟩),rfl,q _ (I.hok.fresh (Nat.le_refl _))⟩
 rcases hq with hq | hq
 ·obtain ⟨its,r',pl,hz⟩:=I.list hq
  have hlen:=r'.length
  obtain ⟨o,ho,hc,n,hd⟩:=pl.isList
  exact call_list_seq p (.inl rfl) ho hc hd (fun h' c' kp e=>fin its r' hz h' c' kp e) (by simp only [List.size_toArray] <;> lia)
 ·obtain ⟨its,r',pl,hz⟩:=I.tuple hq
  have hlen:=r'.length
  obtain ⟨o,ho,hc,n,hd⟩:=pl
  exact call_list_seq p (.inr rfl) ho hc hd (fun h' c' kp e=>fin its r' hz h' c' kp e) (by simp only [List.size_toArray] <;> lia)
theorem zx:CallR X (.type "tuple") (fun xs H Q=>∃ p ys,xs=[.ref p]∧((SqL X.K H p ys∧∀ l,H l=none→Q (.ref l) (upd H l (.tup ys)))∨(SqT X.K H p ys∧Q (.ref p) H))):=by
 intro pins s σ H xs us Q I r h
 obtain ⟨p,ys,rfl,h⟩:=h
 obtain ⟨u,rfl,rx⟩:=vals1 r
 cases rx
 rcases h with ⟨hq,q⟩ | ⟨hq,q⟩
 ·obtain ⟨its,r',pl,hz⟩:=I.list hq
  have hlen:=r'.length
  refine call_tuple_list pl.isList (fun h' kp=>?_) (by simp only [List.size_toArray] <;> lia)
  have I1:Inv X pins σ H { s with heap:=h' }:=I.kept (t':=s.toks) kp
  have I2:Inv X pins σ (upd H h'.objs.size (.tup ys)) { s with heap:=h'.push { cls:=.type "tuple",data:=.seq its.toArray } } :=
   I1.laid (t':=s.toks) (fun b o e=>Heap.get?_push_of_some _ e) (Nat.le_refl _) (show ObjOk X.prog X.w _ _ _ (.tup ys) from ⟨hz,its,r',IsTup.new _ _⟩)
  exact ⟨.ref h'.objs.size,_,I2,rfl,q _ (I1.hok.fresh (Nat.le_refl _))⟩
 ·obtain ⟨its,r',pl,hz⟩:=I.tuple hq
  exact call_tuple_same pl ⟨.ref p,H,I,rfl,q⟩
noncomputable def tyV (K:PySem.W.Frag) (T:String) (x:V) (H:Hp):Prop:=match x with
 | .str _=>T="str"
 | .int _=>T="int"
 | .ref p=>(T="list"∧∃ xs,SqL K H p xs)∨(T="tuple"∧∃ o,K.lookup p=some o∧o.cls=.type "tuple"∧o.dict=none) ∨
   (T="dict"∧((∃ kvs,H p=some (.dK kvs))∨∃ kvs,H p=some (.dT kvs)))∨(T="set"∧∃ S n,H p=some (.set S n))
 | _=>False
theorem aJ6 {pins:List (Addr×Obj)} {σ:St} {H:Hp} {s:Shared} {T:String} {x:V} {v:Value} (I:Inv X pins σ H s) (r:RelV x v) (ty:tyV X.K T x H) :
  s.TypeIs v T∧∀ a,v=.ref a→∃ ob,s.heap.get? a=some ob∧ob.dict=none:=by
 cases x with
 | str z =>
  obtain ⟨t,rfl⟩:=r
  cases (show T="str" from ty)
  exact ⟨typeIs_str s z t,fun _ e=>nomatch e⟩
 | int i =>
  obtain ⟨t,rfl⟩:=r
  cases (show T="int" from ty)
  exact ⟨typeIs_int s i t,fun _ e=>nomatch e⟩
 | ref p =>
  cases r
  rcases ty with ⟨rfl,xs,hq⟩ | ⟨rfl,o,hk,hc,hd⟩ | ⟨rfl,hk⟩ | ⟨rfl,S,n,hk⟩
  ·obtain ⟨its,_,pl,_⟩:=I.list hq
   refine ⟨pl.isList.typeIs,fun a e=>?_⟩
   cases e
   obtain ⟨o,n,e,c,hd,_⟩:=pl
   exact ⟨o,e,hd⟩
  ·refine ⟨⟨o,I.kIn p o hk,hc⟩,fun a e=>?_⟩
   cases e
   exact ⟨o,I.kIn _ o hk,hd⟩
  ·have z:∃ o,s.heap.get? p=some o∧o.ExactDict:=by
    rcases hk with ⟨kvs,hk⟩ | ⟨kvs,hk⟩
    ·obtain ⟨_,_,_,_,o,_,_,e,ex,_⟩:=I.hok p _ hk
     exact ⟨o,e,ex⟩
    ·obtain ⟨_,_,_,_,o,_,_,e,ex,_⟩:=I.hok p _ hk
     exact ⟨o,e,ex⟩
   obtain ⟨o,e,ex⟩:=z
   refine ⟨⟨o,e,ex.1⟩,fun a e2=>?_⟩
   cases e2
   exact ⟨o,e,ex.2.1⟩
  ·obtain ⟨o,_,_,_,e,ex,_⟩:=I.hok p _ hk
   refine ⟨⟨o,e,ex.1⟩,fun a e2=>?_⟩
   cases e2
   exact ⟨o,e,ex.2.1⟩
 | _=>exact False.elim ty
noncomputable def tBM (K:PySem.W.Frag) (T:String) (r:V→List V→Hp→VK→Prop) (to:TE) (t:TA):TE:=fun σ H Q=>to σ H fun x H1=>tyV K T x H1∧t σ H1 fun xs H2=>r x xs H2 Q
variable {o e:Expr} {es:List Expr} {to:TE} {t:TA} {name:Str} {apos cpos:Pos} {T id:String} {r:V→List V→Hp→VK→Prop}
theorem pe_bm (pa:PlainAttrs T) (slot:Slot T name id) (hty:typeOf (.builtin id)=pure (.type "method_descriptor")) (hm:MtR X id r) (ho:PE X o to) (ha:PA X (e :: es) t)
  (hbase:attributeBase o name X.env (eval o X.env)=eval o X.env:=by rfl)
  (hfew:((backTo cpos (starEach (e :: es) X.env)).all (fun x=>!x.1) && (backToKw cpos (keywordEach [] X.env)).all (fun x=>x.1.isSome)
   && decide ((e :: es).length + ([]:List Keyword).length + (if ([]:List Keyword).isEmpty then 0 else 1) < 30))=true:=by rfl)
  (hline:(apos.endLine == cpos.line)=true:=by rfl) (hs:starEach (e :: es) X.env=(false,eval e X.env) :: starEach es X.env:=by rfl) (hplain:(backTo cpos (starEach es X.env)).any (·.1)=false:=by rfl) :
  PE X (.Call (.Attribute o name apos) (e :: es) [] cpos) (tBM X.K T r to t):=by
 intro pins s σ H Q I h
 refine wpAny_Call_method_late hbase hfew hline rfl (thn (ho pins s σ H _ I h) fun v s1 ⟨x,H1,I1,r1,ty,q1⟩=>?_)
 obtain ⟨h1,h2⟩:=aJ6 I1 r1 ty
 refine ⟨T,id,pa,slot,hty,h1,h2,?_⟩
 have hA:=ha cpos pins s1 σ H1 _ I1 q1
 rw [hs] at hA ⊢
 refine Calls.callWith_builtin (by show (false || (backTo cpos (starEach es X.env)).any (·.1))=false; rw [hplain] <;> rfl) (Calls.evalArgs_plain ?_)
 exact thn hA fun us s2 ⟨vs,H2,I2,r2,q2⟩=>hm pins s2 σ H2 x vs v us Q I2 r1 r2 q2
end
end L2
namespace L2
open PySem PySem.Spec PyProof.Rows
noncomputable def MtM (X:Cx) (id:String) (r:V→List V→Hp→VK→Prop):Prop :=
 ∀ (pins:List (Addr×Obj)) (s:Shared) (σ:St) (H:Hp) (x:V) (xs:List V) (v:Value) (us:List Value) (Q:VK),Inv X pins σ H s→RelV x v→Vals xs us→r x xs H Q →
  wpAny (model X.prog X.w) X.A (call (.builtin id) (v :: us)) (EP X pins σ Q) X.xe s
theorem Vals.one:∀ {x:V} {us:List Value},Vals [x] us→∃ u,us=[u]∧RelV x u
 | _,_,.cons r .nil=>⟨_,rfl,r⟩
theorem Vals.two:∀ {x y:V} {us:List Value},Vals [x,y] us→∃ u v,us=[u,v]∧RelV x u∧RelV y v
 | _,_,_,.cons r (.cons q .nil)=>⟨_,_,rfl,r,q⟩
theorem Vals.reverse {xs:List V} {us:List Value} (h:Vals xs us):Vals xs.reverse us.reverse:=by
 induction h with
 | nil=>exact .nil
 | cons r t ih=>rw [List.reverse_cons,List.reverse_cons]; exact Vals.append ih (.cons r .nil)
section
variable {X:Cx} {pins:List (Addr×Obj)} {σ:St} {H:Hp} {s:Shared} {l b:Addr} {xs ys zs:List V}
theorem Inv.lset {its its':List Value} {n:Nat} {f:Array Value→Array Value} {t':Nat} (I:Inv X pins σ H s) (hH:H l=some (.lst xs))
  (e:s.heap.get? l=some { cls:=.type "list",data:=.seq its.toArray n }) (hf:f its.toArray=its'.toArray) (hv:Vals ys its') (hz:ys.length≤sizeLine) :
  Inv X pins σ (upd H l (.lst ys)) { s with heap:=s.heap.update l (Obj.mapSeq f),toks:=t' }:=by
 have q:=PySem.IsL.update e f
 rw [hf] at q
 refine I.write (x:=l) (e:=l) (by rw [hH]; exact trivial) (.inl rfl) (fun b' u hb hu=>(Heap.get?_update_other s.heap (Obj.mapSeq f) (Ne.symm hb)).trans hu) ⟨_,q⟩ ?_
 exact ⟨hz,its',_,hv,q⟩
theorem Inv.lnew {its:List Value} {t':Nat} (I:Inv X pins σ H s) (hv:Vals ys its) (hz:ys.length≤sizeLine) :
  Inv X pins σ (upd H s.heap.objs.size (.lst ys)) { s with heap:=s.heap.push { cls:=.type "list",data:=.seq its.toArray },toks:=t' } :=
 I.laid (fun _ _ q=>Heap.get?_push_of_some _ q) (Nat.le_refl _) ⟨hz,its,0,hv,Heap.get?_push_size _ rfl⟩
theorem Inv.fresh (I:Inv X pins σ H s):H s.heap.objs.size=none:=I.hok.fresh (Nat.le_refl _)
theorem Inv.lstM (I:Inv X pins σ H s) (hH:H l=some (.lst xs)):xs.length≤sizeLine∧∃ (its:List Value) (n:Nat),Vals xs its∧xs.length=its.length∧s.heap.get? l=some { cls:=.type "list",data:=.seq its.toArray n }:=by
 obtain ⟨z,its,n,r,e⟩:=I.hok l _ hH
 exact ⟨z,its,n,r,r.length,e⟩
theorem aHB {n:Nat} (h:n≤sizeLine):Builtin.List.listTooLong n=false:=by
 unfold Builtin.List.listTooLong
 exact decide_eq_false (by lia)
end
section
variable {X:Cx}
noncomputable def aID:V→List V→Hp→VK→Prop:=fun x vs H Q=>∃ l xs y,x=.ref l∧vs=[y]∧H l=some (.lst xs)∧xs.length < sizeLine∧Q .non (upd H l (.lst (xs++[y])))
theorem yp:MtM X "list.append" aID:=by
 intro pins s σ H x vs v us Q I rx rv h
 obtain ⟨l,xs,y,rfl,rfl,hH,hz,q⟩:=h
 cases rx
 obtain ⟨u,rfl,ru⟩:=rv.one
 obtain ⟨z,its,n,r,hl,e⟩:=I.lstM hH
 refine call_meets F.slot_list_append ⟨_,e,rfl⟩ F.entry_list_append (F.args_list_append_2 _ _) (PySem.list_append l its.toArray n u (by rw [List.size_toArray]; lia)) ⟨e,?_⟩
 refine ⟨.non,_,I.lset (its':=its++[u]) hH e (by simp) (r.append (.cons ru .nil)) ?_,rfl,q⟩
 rw [List.length_append,List.length_singleton]
 lia
noncomputable def aIE:V→List V→Hp→VK→Prop:=fun x vs H Q=>∃ l b xs zs,x=.ref l∧vs=[.ref b]∧H l=some (.lst xs)∧H b=some (.lst zs)∧xs.length + zs.length≤sizeLine∧Q .non (upd H l (.lst (xs++zs)))
theorem aFk:MtM X "list.extend" aIE:=by
 intro pins s σ H x vs v us Q I rx rv h
 obtain ⟨l,b,xs,zs,rfl,rfl,hH,hB,hz,q⟩:=h
 cases rx
 obtain ⟨u,rfl,ru⟩:=rv.one
 cases ru
 obtain ⟨z,its,n,r,hl,e⟩:=I.lstM hH
 obtain ⟨z2,its2,n2,r2,hl2,e2⟩:=I.lstM hB
 have hsz:its.toArray.size + its2.toArray.size≤sizeLine:=by rw [List.size_toArray,List.size_toArray]; lia
 have hlong:¬ (!its.toArray.isEmpty && Builtin.List.listTooLong (its.toArray.size + its2.toArray.size))=true:=by
  rw [aHB hsz,Bool.and_false]
  exact Bool.false_ne_true
 refine call_meets F.slot_list_extend ⟨_,e,rfl⟩ F.entry_list_extend (F.args_list_extend_2 _ _)
  (AutoSeq1.list_extend_list_list_0 l its.toArray n b its2.toArray n2 hlong (by rw [List.size_toArray]; lia) (by lia)) ⟨e,e2,?_⟩
 refine ⟨.non,_,I.lset (its':=its++its2) hH e (by simp) (r.append r2) ?_,rfl,q⟩
 rw [List.length_append]
 lia
noncomputable def rCat:R2:=fun x y H Q=>∃ l b xs zs,x=.ref l∧y=.ref b∧H l=some (.lst xs)∧H b=some (.lst zs)∧xs.length + zs.length≤sizeLine∧∀ p,H p=none→Q (.ref p) (upd H p (.lst (xs++zs)))
theorem aHp:OpR X (binaryOp .Add) rCat:=by
 intro pins s σ H x y v u Q I rx ry h
 obtain ⟨l,b,xs,zs,rfl,rfl,hH,hB,hz,q⟩:=h
 cases rx
 cases ry
 obtain ⟨z,its,n,r,hl,e⟩:=I.lstM hH
 obtain ⟨z2,its2,n2,r2,hl2,e2⟩:=I.lstM hB
 refine PySem.P.add_list e e2 ?_ (by rw [List.size_toArray,List.size_toArray]; lia)
 have ea:its.toArray++its2.toArray=(its++its2).toArray:=by simp
 rw [ea]
 exact ⟨.ref _,_,I.lnew (t':=s.toks) (r.append r2) (by rw [List.length_append]; lia),rfl,q _ I.fresh⟩
end
section
variable {prog:Program} {w:World} {A:Around} {E:Value→Shared→Prop} {s:Shared}
set_option maxRecDepth 100000 in
end
section
variable {X:Cx}
end
end L2
namespace Att
open PySem PySem.W PySem.Calls PyProof.Rows
theorem ju {P:Params} {h:Heap}:∀ (ns:List Int) (vs:List Value),WellAll P h vs (ns.map WData.int)→IntsAre vs ns:=by
 intro ns
 induction ns with
 | nil =>
  intro vs w
  rw [List.map_nil] at w
  cases w
  exact .nil
 | cons n ns ih =>
  intro vs w
  rw [List.map_cons] at w
  cases w with
  | cons a b =>
   cases a
   exact .cons _ _ (ih _ b)
theorem aFl {l:OpenLaw} {n:Nat} (hn:l.most=some n) {P:Params} {h:Heap} {args:List WData} {vals:List Value}
    (hpre:l.row.toRowW.claim.pre args=true) (hwl:WellAll P h vals args) :
    ∃ a vs ns,vals=[Value.ref a]∧args=[WData.list (ns.map WData.int)]∧h.get? a=some { cls:=.type "list",data:=.seq vs.toArray }∧IntsAre vs ns∧ns.length≤n:=by
  have hsh:WShape.hasAll [] args [.list .int]=true:=(pre_splitW hpre).1
  have hc:l.pre.holds [] { args:=args }=true:=(pre_splitW hpre).2
  obtain ⟨d,r,rfl,h1,h2⟩:=hasAllW_cons hsh
  obtain rfl:=hasAllW_nil h2
  obtain ⟨xs,rfl,h3⟩:=hasW_list h1
  obtain ⟨ns,rfl⟩:=items_int h3
  have hlen:ns.length≤n:=by
    unfold OpenLaw.pre at hc
    have h4:(WTm.not (.lt (.lit (.int (n:Int))) (.len (.arg 0)))).holds [] { args:=[.list (ns.map .int)] }=true:=by
      have h4:=(holds_andW hc).1
      rw [hn] at h4
      exact h4
    have h5:=condW_of h4 (w_not (w_lt w_lit (w_len_list (w_arg rfl))))
    rw [List.length_map] at h5
    refine Nat.le_of_not_lt fun q=>?_
    have q':(n:Int) < ((ns.length:Nat):Int):=by lia
    first
      | (rw [decide_eq_true q'] at h5; exact absurd h5 (by decide))
      | (simp at h5; lia)
  cases hwl with
  | cons w1 w2 =>
    cases w2
    cases w1 with
    | list ho hall=>exact ⟨_,_,ns,rfl,rfl,ho,ju ns _ hall,hlen⟩
theorem aFm (l:OpenLaw) (args:List WData):l.row.toRowW.claim.post args (.bool true) args=true :=
 postW_of (r:=l.row.toRowW) (X:=(true == true))
  (show WShape.has [] (.bool true) .bool=true by first | rfl | decide | simp [WShape.has,WShape.arms,WShape.armsAll])
  (show (WTm.eq .res (.lit (.bool true))).value [] { args:=args,res:=some (.bool true),after:=args }=some (.bool (true == true)) from w_eq_bool (w_res rfl) w_lit) rfl
theorem attach_call {l:OpenLaw} {n:Nat} {q:Program} {loose:List Str} {XP:(Str→Option Value)→Heap→Prop} {YP:World→Heap→Prop} {d:DefRec}
  (hn:l.most=some n) (hdf:d.params.defaults=[])
  (call:∀ (w:World) (s₀ s₁:Shared) (mg mb:Str→Option Value) (fa:Addr) (o:Obj) (pm cd doc:Value) (a:Addr) (vs:List Value) (ns:List Int),
   Ground q loose [] XP w s₀ mg mb s₁.heap→YP w s₁.heap →
   s₁.heap.get? fa=some o→o.data=.func (docDef d.name d.params d.body d.scope pm cd doc)→s₁.heap.CodeRec cd d.name→mg d.name=some (.ref fa) →
   s₁.heap.get? a=some { cls:=.type "list",data:=.seq vs.toArray }→IntsAre vs ns→ns.length≤n→s₁.gens=#[] →
   codeAny (model l.prog w) callerA (.call (.ref fa) ⟨[.ref a],[]⟩) (fun r s'=>r=.ok (.ret (.bool true))∧OldK s₁.heap s'.heap∧s'.os=s₁.os∧AllBare s'.gens) s₁) :
  WalkO q loose XP YP l.row.toRowW d [] (fun f vs=>PySem.call f vs):=by
 intro w s₀ s₁ mg mb G Y fa o pm cd doc dV kV ho hd hcd hD hmg hg args vals as hpre hlay hrd hwl hlo
 obtain rfl:dV=.none:=Dflts.none hD hdf
 obtain rfl:kV=.none:=Dflts.noKw hD
 obtain ⟨a,vs,ns,rfl,rfl,hobj,hints,hlen⟩:=aFl hn hpre hwl
 refine enter_call (codeAny_mono (call w s₀ s₁ mg mb fa o pm cd doc a vs ns G Y ho (fd_plain hd) hcd hmg hobj hints hlen hg) fun r s' hq=>?_)
 obtain ⟨rfl,h2,h3,h4⟩:=hq
 exact ⟨.inl ⟨.bool true,.bool true,[],rfl,fun _=>rfl,.bool true,aFm l _,fun _=>⟨List.Pairwise.nil,fun _ hm=>(nomatch hm)⟩⟩,h2,h3,h4⟩
section
variable {prog:Program} {w:World} {A:Around} {E:Value→Shared→Prop} {s:Shared} {K:Frag}
end
end Att
namespace L2
open PySem PySem.Spec PyProof.Rows
theorem qI:∀ {vs:List Value} {ns:List Int},IntsAre vs ns→Vals (ns.map V.int) vs
 | _,_,.nil=>.nil
 | _,_,.cons n t h=>.cons ⟨t,rfl⟩ (qI h)
noncomputable def Only (H:Hp):Prop:=∀ b,H b=none∨∃ o xs,H b=some (.frz o (.lst xs))
theorem aHC {P:Program} {w:World} {K:PySem.W.Frag} {mg mb:Str→Option Value} {CX:CXT} {k:Nat} {fa a:Addr} {fd:FuncData} {x:Str} {sp:Sp} {s₁:Shared} {vs:List Value} {ns:List Int}
  (KX:K.In s₁.heap) (hns:s₁.heap.Ns mainGlobals mg) (hb:s₁.heap.Ns builtinsNs mb) (hbb:∀ x:Str,x≠"__name__"→mb x=bootBuiltins x) (hlim:s₁.heap.NoLimit) (hg:s₁.gens=#[])
  (ha:s₁.heap.get? a=some { cls:=.type "list",data:=.seq vs.toArray }) (hi:IntsAre vs ns) (hl:ns.length≤sizeLine) (hr:Room k callerA)
  (F:∀ base:Heap,K.In base→base.Ns mainGlobals mg→FnOk P w K mg base CX k fa fd [x] sp) (hbind:∀ (s:Shared) (u:Value),BindsTo s fd ⟨[u],[]⟩ [(x,u)])
  (hsp:∀ H:Hp,Only H→SqL K H a (ns.map V.int)→sp [.ref a] H (fun v _=>v=.bl true) fun _ _ _=>False)
  (hCX:∀ H e s',CX [] H s₁ (fun _ _ _=>False) e s'→False) :
  codeAny (model P w) callerA (.call (.ref fa) ⟨[.ref a],[]⟩) (fun r s'=>r=.ok (.ret (.bool true))∧OldK s₁.heap s'.heap∧s'.os=s₁.os∧AllBare s'.gens) s₁:=by
 have rv:=qI hi
 have lenV:=hi.length
 have core:∀ H:Hp,Only H→SqL K H a (ns.map V.int)→HOk P w H s₁.heap→(∀ b,H b≠none→b=a)→(H a≠none→K.lookup a=none) →
   codeAny (model P w) callerA (.call (.ref fa) ⟨[.ref a],[]⟩) (fun r s'=>r=.ok (.ret (.bool true))∧OldK s₁.heap s'.heap∧s'.os=s₁.os∧AllBare s'.gens) s₁:=by
  intro H hO hS hok hA hK
  have base_of:∀ {b:Addr} {o:Obj},s₁.heap.get? b=some o→H b=none→(hidT s₁.heap H).get? b=some o:=fun e n=>aH8 e n
  have noA:∀ {b:Addr} {o:Obj} {es:Array DictEntry} {ep:Nat},s₁.heap.get? b=some o→o.data=.dict es ep→H b=none:=fun {b o es ep} e d=>by
   cases q:H b with
   | none=>rfl
   | some u =>
    have e':b=a:=hA b (by rw [q]; simp)
    subst e'
    rw [ha] at e; cases e
    have d':Data.seq vs.toArray _=Data.dict es ep:=d
    cases d'
  have nsK:∀ {b:Addr} {m:Str→Option Value},s₁.heap.Ns b m→(hidT s₁.heap H).Ns b m:=fun {b m} ⟨o,es,ep,e,d,r⟩=>⟨o,es,ep,base_of e (noA e d),d,r⟩
  have hKb:K.In (hidT s₁.heap H):=fun b o e=>base_of (KX b o e) (by
   cases q:H b with
   | none=>rfl
   | some u =>
    have e':b=a:=hA b (by rw [q]; simp)
    subst e'
    rw [hK (by rw [q]; simp)] at e; cases e)
  have hM:Mod K mg (hidT s₁.heap H):=⟨hKb,nsK hns,⟨mb,nsK hb,hbb⟩,let ⟨mc,h1,h2⟩:=hlim; ⟨mc,nsK h1,h2⟩⟩
  have e0:Env0 P w K mg (hidT s₁.heap H) callerA [] s₁ H:=⟨rfl,hM,fun b o e=>aI6 e,Nat.le_of_eq (aFQ _ _),trivial,fun b hb=>absurd (show b∈([]:List Addr) from hb) (by simp),hok,.of_eq hg⟩
  refine codeAny_mono ((F _ hKb (nsK hns)).run callerA [] s₁ H ⟨[.ref a],[]⟩ [.ref a] [.ref a] _ _ hr e0 (hbind s₁ (.ref a)) (.cons rfl .nil) (hsp H hO hS)) fun r s' h=>?_
  cases r with
  | error e=>exact (hCX H e s' h).elim
  | ok fl =>
   cases fl with
   | next=>exact False.elim h
   | brk=>exact False.elim h
   | cont=>exact False.elim h
   | ret u =>
    obtain ⟨v,H',os,bare,un,hok',r',q⟩:=h
    have q':v=.bl true:=q
    subst q'
    obtain rfl:u=Value.bool true:=r'
    refine ⟨rfl,OldK.of_keep fun b o e=>?_,os,bare⟩
    cases q:H b with
    | none=>exact un.keep b o e q (by intro z; exact absurd (show b∈([]:List Addr) from z) (by simp)) (by simp)
    | some u =>
     rcases hO b with z | ⟨ob,xs,z⟩
     ·rw [q] at z; cases z
     ·have z2:=un.frzs b ob _ z
      obtain ⟨e1,_⟩:=hok b _ z
      obtain ⟨e2,_⟩:=hok' b _ z2
      rw [e] at e1; cases e1
      exact e2
 cases hk:K.lookup a with
 | some o =>
  have e:=KX a o hk
  rw [ha] at e
  cases e
  refine core (fun _=>none) (fun _=>.inl rfl) (.inr ⟨_,vs.toArray,_,hk,rfl,rfl,rfl,by rw [List.size_toArray,lenV]; exact hl,by simpa using rv⟩) (fun b u z=>by have z':(none:Option HO)=some u:=z; cases z') (fun b z=>absurd rfl z) fun z=>absurd rfl z
 | none =>
  refine core (fun b=>if b=a then some (.frz { cls:=.type "list",data:=.seq vs.toArray } (.lst (ns.map V.int))) else none) (fun b=>?_) (.inl (.inr ⟨{ cls:=.type "list",data:=.seq vs.toArray },if_pos rfl⟩)) (fun b u z=>?_) (fun b z=>?_) fun _=>hk
  ·by_cases hb:b=a
   ·exact .inr ⟨_,_,if_pos hb⟩
   ·exact .inl (if_neg hb)
  ·by_cases hb:b=a
   ·have z':=(if_pos hb).symm.trans z
    cases z'
    subst hb
    exact ⟨ha,by rw [List.length_map]; exact hl,vs,_,rv,ha⟩
   ·have z':=(if_neg hb).symm.trans z
    cases z'
  ·by_cases hb:b=a
   ·exact hb
   ·exact absurd (if_neg hb) z
end L2
namespace L2
open PySem PySem.Spec PyProof.Rows
theorem walk_of {l:PySem.W.OpenLaw} {n k:Nat} {q:Program} {loose:List Str} {XP:(Str→Option Value)→Heap→Prop} {YP:World→Heap→Prop} {d:DefRec} {K:Params→PySem.W.Frag} {CX:World→CXT} {sp:World→Sp} {x:Str}
  (hn:l.most=some n) (hn2:n≤sizeLine) (hdf:d.params.defaults=[]) (hr:Room k callerA)
  (hY:∀ (w:World) (h:Heap),YP w h→(K w.params).In h)
  (F:∀ (w:World) (mg:Str→Option Value) (fa:Addr) (h:Heap),(K w.params).In h→h.Ns mainGlobals mg→mg d.name=some (.ref fa) →
   ∃ fd:FuncData,(∀ (s:Shared) (u:Value),BindsTo s fd ⟨[u],[]⟩ [(x,u)]) ∧
    ∀ base:Heap,(K w.params).In base→base.Ns mainGlobals mg→FnOk l.prog w (K w.params) mg base (CX w) k fa fd [x] (sp w))
  (hsp:∀ (w:World) (H:Hp) (a:Addr) (ns:List Int),ns.length≤n→Only H→SqL (K w.params) H a (ns.map V.int)→sp w [.ref a] H (fun v _=>v=.bl true) fun _ _ _=>False)
  (hCX:∀ (w:World) (H:Hp) (s:Shared) (e:Value) (s':Shared),CX w [] H s (fun _ _ _=>False) e s'→False) :
  PySem.W.WalkO q loose XP YP l.row.toRowW d [] (fun f vs=>PySem.call f vs):=by
 refine Att.attach_call hn hdf fun w s₀ s₁ mg mb fa o pm cd doc a vs ns G Y ho hd hcd hmg hobj hints hlen hg=>?_
 have KX:=hY w _ Y
 obtain ⟨fd,hb,hF⟩:=F w mg fa _ KX G.T.g hmg
 exact aHC KX G.T.g G.T.b G.T.builtins G.T.nolimit hg hobj hints (Nat.le_trans hlen hn2) hr hF hb (fun H hO hS=>hsp w H a ns hlen hO hS) fun H e s'=>hCX w H s₁ e s'
end L2
namespace L2
open PySem PySem.Spec PyProof.Rows
noncomputable def aIF (s:Stmt) (j:Nat):Stmt:=match s with
 | .ClassDef _ _ _ body _ _ _ _ _ _ _=>body.getD j (.Pass ⟨0,0,0,0⟩)
 | _=>.Pass ⟨0,0,0,0⟩
noncomputable def zQ (s:Stmt):Arguments:=match s with
 | .FunctionDef _ a _ _ _ _ _ _ _ _=>a
 | _=>{ posonlyargs:=[],args:=[],vararg:=none,kwonlyargs:=[],kw_defaults:=[],kwarg:=none,defaults:=[] }
noncomputable def zO (s:Stmt):List Stmt:=match s with
 | .FunctionDef _ _ b _ _ _ _ _ _ _=>b
 | _=>[]
noncomputable def zF (s:Stmt):Scope:=match s with
 | .FunctionDef _ _ _ _ _ _ sc _ _ _=>sc
 | _=>{ kind:=.function,names:=[],isGenerator:=false,isCoroutine:=false }
noncomputable abbrev CX0:CXT:=fun _ _ _ _ _ _=>False
noncomputable abbrev E0:XK:=fun _ _ _=>False
theorem pass0 {X:Cx}:aEN CX0 X E0:=fun _ _ _ _ _ _ _ h=>h.elim
structure Fun (K:PySem.W.Frag) (x qual:Str) (st:Stmt) (f:Addr) (fd:FuncData):Prop where
 ex:∃ (oc:Value) (od:Option Addr) (kV doc pm:Value) (an:Option Addr) (cdv ct:Value) (osl:Array (Option Value)),
  fd=PySem.W.fnOf x qual (zQ st) (zO st) (zF st) .none kV doc pm an cdv ct∧K.lookup f=some ⟨oc,od,.func fd,osl⟩∧PySem.W.codeIn K cdv qual=true
 kp:PySem.W.keepIn K (.ref f)=true
section
variable {P:Program} {w:World} {K:PySem.W.Frag} {mg:Str→Option Value} {base:Heap}
theorem Fun.ok {x qual:Str} {st:Stmt} {f:Addr} {fd:FuncData} {N ps:List Str} {k:Nat} {sp:Sp} (F:Fun K x qual st f fd) (S:FnScope N ps (zF st)) (len:∀ vs H Q E,sp vs H Q E→vs.length=ps.length)
  (hbody:∀ (cdv:Value) (A:Around) (outer:List Env) (s:Shared) (H:Hp) (vs:List V) (Q:VK) (E:XK),Room k (A.deeper (envOfC qual (zF st) s.heap.objs.size f cdv))→sp vs H Q E →
   ∃ t,PSs (cxOf CX0 P w K mg base N qual (zF st) f cdv A outer s H E).nox (zO st) t∧t { nx:=fun _ H'=>Q .non H',rt:=Q } (start N vs) H):FnOk P w K mg base CX0 (k + 1) f fd ps sp:=by
 obtain ⟨oc,od,kV,doc,pm,an,cdv,ct,osl,rfl,lk,hcd⟩:=F.ex
 refine fn_of lk hcd S len fun A outer s H vs Q E hr hsp=>?_
 obtain ⟨t,h,q⟩:=hbody cdv A outer s H vs Q E hr hsp
 exact ⟨t,h.nox,q⟩
theorem Fun.binds {x qual:Str} {st:Stmt} {f:Addr} {fd:FuncData} {ps:List Str} (F:Fun K x qual st f fd)
  (h:∀ (kV doc pm:Value) (an:Option Addr) (cdv ct:Value) (us:List Value),us.length=ps.length→bindArgs (PySem.W.fnOf x qual (zQ st) (zO st) (zF st) .none kV doc pm an cdv ct) ⟨us,[]⟩=pure (ps.zip us)):Binds K fd ps []:=by
 obtain ⟨oc,od,kV,doc,pm,an,cdv,ct,osl,rfl,lk,hcd⟩:=F.ex
 exact .all (h kV doc pm an cdv ct)
theorem zj {x qual:Str} {st:Stmt} {f:Addr} {oc:Value} {od an:Option Addr} {osl:Array (Option Value)} {kV doc pm cdv ct:Value} (l:K.lookup f=some ⟨oc,od,.func (PySem.W.fnOf x qual (zQ st) (zO st) (zF st) .none kV doc pm an cdv ct),osl⟩)
  (c:PySem.W.codeIn K cdv qual=true) (k:PySem.W.keepIn K (.ref f)=true):Fun K x qual st f (PySem.W.fnOf x qual (zQ st) (zO st) (zF st) .none kV doc pm an cdv ct):=⟨⟨oc,od,kV,doc,pm,an,cdv,ct,osl,rfl,l,c⟩,k⟩
end
theorem hu_of {A:Around} {k:Nat} (hr:Room k A):A.units + 1 < cLine:=Nat.lt_of_le_of_lt (Nat.add_le_add_left (by decide:1≤64) _) hr.units
section
variable {X:Cx}
theorem pv (i:Nat) {x:Str} {pos:Pos} (hN:X.N[i]?=some x:=by rfl) (hv:Vis X.env.scope x:=by first | exact Or.inl rfl | exact Or.inr (Or.inl rfl) | exact Or.inr (Or.inr rfl)) (hd:(x == ("__debug__":Str))=false:=by decide)
  (hcd:(x == ("__classdict__":Str))=false:=by decide):PE X (.Name x pos) (tVar i):=aIx hN hv hd hcd
end
theorem iteF {A B:Prop} (h:B):if false=true then A else B:=by
 rw [if_neg Bool.false_ne_true]
 exact h
theorem iteT {A B:Prop} (h:A):if true=true then A else B:=by
 rw [if_pos rfl]
 exact h
theorem ite2 {c A B:Prop} [Decidable c] (h1:c→A) (h2:¬ c→B):if c then A else B:=by
 by_cases h:c
 ·rw [if_pos h]
  exact h1 h
 ·rw [if_neg h]
  exact h2 h
noncomputable def Same (H H':Hp):Prop:=∀ b o,H b=some o→H' b=some o
theorem Same.refl (H:Hp):Same H H:=fun _ _ h=>h
theorem Same.trans {H H1 H2:Hp} (a:Same H H1) (b:Same H1 H2):Same H H2:=fun c o h=>b c o (a c o h)
theorem Same.free {H H':Hp} (e:Same H H') {l:Addr} (h:H' l=Option.none):H l=Option.none:=by
 cases q:H l with
 | none=>rfl
 | some o =>
  rw [e l o q] at h
  cases h
end L2
namespace L2
open PySem PySem.Spec PyProof.Rows
section
variable {X:Cx}
theorem aAO {n k:Nat} (hk:0 < k) (h:n < 2 ^ k):n.log2 < k:=by
 rcases Nat.eq_zero_or_pos n with h0 | hp
 ·rw [h0]; simpa using hk
 ·exact (Nat.log2_lt (Nat.ne_of_gt hp)).mpr h
noncomputable def CDivB (i j:Int):Prop:=0 < j∧j.natAbs < 2 ^ 4000
theorem aHD:OpR X (binaryOp .FloorDiv) (rI CDivB fun i j=>.int (i / j)):=opI fun i j _ _ _ _ _ hc q=>by
 have h1:(0:Int) < j:=hc.1
 have h2:=aAO (by decide:0 < 4000) hc.2
 exact floordiv_int (by lia) (by rw [Int.fdiv_eq_ediv_of_nonneg i (by lia)]; exact q) (.inl (PyProof.noPylong_of_log2 (by lia)))
theorem aDw:CallR X (.builtin "isinstance") (fun xs H Q=>∃ x T t b,xs=[x,.ty T]∧TyOf X.K H x t∧PySem.W.kitOne X.K t (.type T)=some b∧Q (.bl b) H):=by
 intro pins s σ H xs us Q I r h
 obtain ⟨x,T,t,b,rfl,ty,e,q⟩:=h
 obtain ⟨u,u2,rfl,rx,r2⟩:=vals2 r
 obtain rfl:u2=Value.type T:=r2
 exact aFe I rx ty e fun tk=>⟨.bl b,H,I.tok tk,rfl,q⟩
theorem aDx (K:PySem.W.Frag):PySem.W.kitOne K (.type "int") (.type "int")=some true:=by with_unfolding_all rfl
noncomputable def tRev (K:PySem.W.Frag) (te:TE):TE:=fun σ H Q=>te σ H fun x H1=>∃ a xs,x=.ref a∧SqL K H1 a xs∧∀ p,H1 p=none→Q (.ref p) (upd H1 p (.lst xs.reverse))
theorem aJ7 {e:Expr} {te:TE} {j} {p2 p3 p4 pos:Pos} (he:PE X e te):PE X (.Subscript e (.Slice none none (some (.UnaryOp .USub (.Constant (.int 1) j p3) p4)) p2) pos) (tRev X.K te):=by
 intro pins s σ H Q I h
 refine Subscript_ (thn (he pins s σ H _ I h) fun v s1 ⟨x,H1,I1,r1,q1⟩=>?_)
 obtain ⟨a,xs,rfl,hx,q⟩:=q1
 obtain rfl:v=Value.ref a:=r1
 refine wpAny_Slice ?_
 rw [evalPart_none]
 refine wpAny_pure ?_
 refine wpAny_pure ?_
 refine thn (yN (X:=X) (pe_un qo zD) pins s1 σ H1 (fun o H'=>o=some (-1)∧H'=H1) I1 ⟨1,rfl,-1,rfl,rfl,rfl⟩) fun vs s2 ⟨o,H2,I2,ip,eo,eH⟩=>?_
 subst eo eH
 obtain ⟨its,r,ht,hz⟩:=I2.list hx
 have hlen:=r.length
 have I4:Inv X pins σ H2 { s2 with heap:=s2.heap.push { cls:=.type "slice",data:=.fields #[.none,.none,vs] } }:=I2.kept (t':=s2.toks) fun b ob q=>Heap.get?_push_of_some _ q
 have ht4:PlainL (s2.heap.push { cls:=.type "slice",data:=.fields #[.none,.none,vs] }) a its.toArray:=by
  obtain ⟨o,n,e1,e2⟩:=ht
  exact ⟨o,n,Heap.get?_push_of_some _ e1,e2⟩
 refine tail_any (ops:=[.ref a,.ref s2.heap.objs.size]) ht4.isList.typeIs slot_list_getitem.lookup ?_ (by with_unfolding_all rfl)
 refine wpAny_getItem_list_slice ht4.isList (Heap.IsSliceOf.new ..) .none .none ip (by simp) ?_ (by rw [List.size_toArray] <;> lia)
 rw [PySem.W.krv_pick]
 refine ⟨.ref _,_,I4.laid (t':=s2.toks) (o:=.lst xs.reverse) (fun b ob q=>Heap.get?_push_of_some _ q) (Nat.le_refl _) ?_,rfl,q _ (I4.hok.fresh (Nat.le_refl _))⟩
 exact ⟨by rw [List.length_reverse]; exact hz,its.reverse,0,r.reverse,Heap.get?_push_size _ rfl⟩
noncomputable def aFn (w:World) (K:PySem.W.Frag) (a:Addr):Prop:=∃ es n,K.lookup a=some ⟨.type "dict",none,.dict es n,#[]⟩∧PySem.W.KeysLit w.params es.toList
noncomputable def rIxD (w:World) (K:PySem.W.Frag):R2:=fun x y H Q=>∃ a z v u,x=.ref a∧y=.str z∧aFn w K a∧PySem.W.nsIn K a z=some (some u)∧RelV v u∧Q v H
theorem aJ8:IxR X (rIxD X.w X.K):=by
 intro value slice pins s σ H x y v u Q I rx ry h hs
 obtain ⟨a,z,v',u',rfl,rfl,⟨es,n,hl,hk⟩,e,r,q⟩:=h
 obtain rfl:v=Value.ref a:=rx
 obtain ⟨t,rfl⟩:=ry
 obtain ⟨m,F⟩:=I.fr
 exact PySem.W.topItem_K F I.mod.kin hl hk e ⟨v',H,I.tok _,r,q⟩ hs
structure Callee (P:Program) (w:World) (K:PySem.W.Frag) (mg:Str→Option Value) (base:Heap) (CX:CXT) (k:Nat) (f:Addr) (sp:Sp):Prop where
 ok:∃ fd ps,FnOk P w K mg base CX k f fd ps sp∧Binds K fd ps []
 kp:PySem.W.keepIn K (.ref f)=true
noncomputable def aJ9 (Fam:Addr→Sp→Prop) (E:XK) (tf:TE) (t:TA):TE:=fun σ H Q=>tf σ H fun x H1=>∃ f sp,x=.ref f∧Fam f sp∧t σ H1 fun vs H2=>sp vs H2 Q E
theorem aHE {CX:CXT} {k:Nat} {Fam:Addr→Sp→Prop} {E:XK} {x:Str} {p pos:Pos} {e:Expr} {es:List Expr} {tf:TE} {t:TA} (hF:∀ f sp,Fam f sp→Callee X.prog X.w X.K X.mg X.base CX k f sp) (hr:Room k X.A) (hx:aEN CX X E) (hf:PE X (.Name x p) tf) (ha:PA X (e :: es) t)
  (he:starEach (e :: es) X.env=(false,eval e X.env) :: starEach es X.env:=by rfl) (hpl:(backTo pos (starEach es X.env)).any (·.1)=false:=by rfl) :
  PE X (.Call (.Name x p) (e :: es) [] pos) (aJ9 Fam E tf t):=by
 intro pins s σ H Q I h
 refine wpAny_Call_Name_kw (thn (hf pins s σ H _ I h) fun u s1 ⟨y,H1,I1,r1,f,sp,ey,fam,q⟩=>?_)
 subst ey
 obtain rfl:u=Value.ref f:=r1
 obtain ⟨⟨fd,ps,F,hb⟩,hk⟩:=hF f sp fam
 refine PySem.W.callWith_K (h₀:=X.base) I.ok.mod.kin hk (thn (ha pos pins s1 σ H1 _ I1 q) fun us s2 ⟨vs,H2,I2,r,q2⟩=>⟨I2.kIn,?_⟩) he hpl
 exact aHo (dvs:=[]) (ds:=[]) F hr hb .nil hx I2 r (by rw [List.append_nil]; exact q2)
end
end L2
namespace L2
open PySem PySem.Spec PyProof.Rows
theorem qZ:bootBuiltins "len"=some (.builtin "len"):=by decide +kernel
theorem aEQ:bootBuiltins "sum"=some (.builtin "sum"):=by decide +kernel
theorem qr:bootBuiltins "isinstance"=some (.builtin "isinstance"):=by decide +kernel
theorem aAP:bootBuiltins "int"=some (.type "int"):=by decide +kernel
theorem aHq:bootBuiltins "str"=some (.type "str"):=by decide +kernel
theorem aIG:bootBuiltins "bool"=some (.type "bool"):=by decide +kernel
theorem qR:bootBuiltins "tuple"=some (.type "tuple"):=by decide +kernel
theorem aIH:bootBuiltins "list"=some (.type "list"):=by decide +kernel
structure Def (P:Program) (w:World) (K:PySem.W.Frag) (mg:Str→Option Value) (base:Heap) (CX:CXT) (k:Nat) (x:Str) (sp:Sp):Prop where
 ex:∃ f fd ps,FnOk P w K mg base CX k f fd ps sp∧Binds K fd ps []∧mg x=some (.ref f)∧PySem.W.keepIn K (.ref f)=true
section
variable {X:Cx} {CX:CXT} {k:Nat} {sp:Sp} {x:Str} {p pos:Pos} {e:Expr} {es:List Expr} {t:TA}
theorem zR (G:Def X.prog X.w X.K X.mg X.base CX0 k x sp) (hr:Room k X.A) (ha:PA X (e :: es) t) (hg:Gl X x:=by rfl) (hdb:(x == ("__debug__":Str))=false:=by decide)
  (he:starEach (e :: es) X.env=(false,eval e X.env) :: starEach es X.env:=by rfl) (hpl:(backTo pos (starEach es X.env)).any (·.1)=false:=by rfl) :
  PE X (.Call (.Name x p) (e :: es) [] pos) (tCall sp [] E0 t):=by
 obtain ⟨f,fd,ps,a,b,c,d⟩:=G.ex
 exact aI9 a hr hg c d b .nil pass0 ha hdb he hpl
noncomputable def rIsin (K:PySem.W.Frag):List V→Hp→VK→Prop:=fun xs H Q=>match xs with
 | [x,.ty T]=>∃ t b,TyOf K H x t∧PySem.W.kitOne K t (.type T)=some b∧Q (.bl b) H
 | _=>False
theorem aFo:CallR X (.builtin "isinstance") (rIsin X.K):=by
 intro pins s σ H xs us Q I r h
 unfold rIsin at h
 split at h
 ·obtain ⟨t,b,ty,e,q⟩:=h
  exact aDw pins s σ H _ us Q I r ⟨_,_,t,b,rfl,ty,e,q⟩
 ·exact h.elim
theorem aFp {T:Str} {TT:String} {a:Expr} {ta:TE} {p2:Pos} (hm:X.mg "isinstance"=none) (hT:X.mg T=none) (hv:bootBuiltins T=some (.type TT)) (ha:PE X a ta) (hg:Gl X "isinstance":=by rfl) (hg2:Gl X T:=by rfl) (hn:T≠"__name__":=by decide) (hd:(T == ("__debug__":Str))=false:=by decide)
  (he:starEach [a,.Name T p2] X.env=(false,eval a X.env) :: starEach [.Name T p2] X.env:=by rfl) (hpl:(backTo pos (starEach [.Name T p2] X.env)).any (·.1)=false:=by rfl) (he2:starEach [.Name T p2] X.env=[(false,eval (.Name T p2) X.env)]:=by rfl) :
  PE X (.Call (.Name "isinstance" p) [a,.Name T p2] [] pos) (fun σ H Q=>ta σ H fun x H1=>∃ t b,TyOf X.K H1 x t∧PySem.W.kitOne X.K t (.type TT)=some b∧Q (.bl b) H1) :=
 zS aFo hg hm qr (zA ha (zA (aFS (v:=.ty TT) hg2 hT hv rfl hn hd) zE he2) he) (by decide) (by decide) he hpl
end
end L2
set_option maxHeartbeats 4000000
namespace L2
open PySem PySem.Spec PyProof.Rows
noncomputable def yX (cells:List (Str×Addr)):List (Str×NameKind)→List (Str×Addr)→Option (List (Str×Addr))
 | [],acc=>some acc
 | (n,k) :: r,acc=>if (k == .free)=true then (match cells.lookup n with
  | some a=>yX cells r ((n,a) :: acc)
  | none=>none) else yX cells r acc
theorem yw {scope:Scope} {env:Env} {cl:List (Str×Addr)} (h:yX env.cells scope.names []=some cl):closureFor scope env=pure cl:=by
 have gen:∀ (l:List (Str×NameKind)) (acc cl:List (Str×Addr)),yX env.cells l acc=some cl →
   (forIn (m:=Sem) l acc fun (x:Str×NameKind) (cs:List (Str×Addr))=>if (x.2 == .free)=true then (do let c ← cellOf env x.1; pure (ForInStep.yield ((x.1,c) :: cs))) else pure (ForInStep.yield cs))=pure cl:=by
  intro l
  induction l with
  | nil=>intro acc cl h; cases h; rfl
  | cons y r ih =>
   intro acc cl h
   obtain ⟨n,k⟩:=y
   unfold yX at h
   rw [List.forIn_cons]
   by_cases hk:(k == .free)=true
   ·rw [if_pos hk] at h
    dsimp only
    rw [if_pos hk]
    cases e:env.cells.lookup n with
    | none=>rw [e] at h; cases h
    | some a =>
     rw [e] at h
     have ec:cellOf env n=pure a:=by unfold cellOf; rw [e]
     rw [ec,pure_bind,pure_bind]
     exact ih _ _ h
   ·rw [if_neg hk] at h
    dsimp only
    rw [if_neg hk,pure_bind]
    exact ih _ _ h
 unfold closureFor
 exact (bind_pure _).trans (gen scope.names [] cl h)
theorem qS {cells:List (Str×Addr)}:∀ {l:List (Str×NameKind)} {acc cl:List (Str×Addr)},yX cells l acc=some cl→(∀ p∈acc,cells.lookup p.1=some p.2)→∀ p∈cl,cells.lookup p.1=some p.2
 | [],acc,cl,h,ha=>by cases h; exact ha
 | (n,k) :: r,acc,cl,h,ha=>by
  unfold yX at h
  split at h
  ·cases e:cells.lookup n with
   | none=>rw [e] at h; cases h
   | some a =>
    rw [e] at h
    refine qS h fun p hp=>?_
    rcases List.mem_cons.mp hp with q | q
    ·subst q; exact e
    ·exact ha p q
  ·exact qS h ha
theorem yc {cells:List (Str×Addr)} {x:Str}:∀ {l:List (Str×NameKind)} {acc cl:List (Str×Addr)},yX cells l acc=some cl→((x,NameKind.free)∈l∨∃ c,(x,c)∈acc)→∃ c,(x,c)∈cl
 | [],acc,cl,h,hx=>by
  cases h
  rcases hx with q | q
  ·cases q
  ·exact q
 | (n,k) :: r,acc,cl,h,hx=>by
  unfold yX at h
  split at h
  ·cases e:cells.lookup n with
   | none=>rw [e] at h; cases h
   | some a =>
    rw [e] at h
    refine yc h ?_
    rcases hx with q | ⟨c,q⟩
    ·rcases List.mem_cons.mp q with z | z
     ·cases z; exact .inr ⟨a,List.mem_cons_self⟩
     ·exact .inl z
    ·exact .inr ⟨c,List.mem_cons_of_mem _ q⟩
  ·rename_i hk
   refine yc h ?_
   rcases hx with q | q
   ·rcases List.mem_cons.mp q with z | z
    ·cases z; exact absurd rfl hk
    ·exact .inl z
   ·exact .inr q
theorem zy {α:Type} {x:Str} {c:α}:∀ {l:List (Str×α)},(x,c)∈l→∃ d,l.lookup x=some d∧(x,d)∈l
 | (n,a) :: r,h=>by
  rw [List.lookup_cons]
  by_cases e:(x == n)=true
  ·rw [e]
   have e':x=n:=by simpa using e
   exact ⟨a,rfl,by rw [e']; exact List.mem_cons_self⟩
  ·have e2:(x == n)=false:=by simpa using e
   rw [e2]
   rcases List.mem_cons.mp h with z | z
   ·cases z; simp at e
   ·obtain ⟨d,h1,h2⟩:=zy z
    exact ⟨d,h1,List.mem_cons_of_mem _ h2⟩
noncomputable def cxC (X:Cx) (N:List Str) (scope:Scope) (cl:List (Str×Addr)) (C:Addr) (s2:Shared) (H2:Hp) (fp:List Addr):Cx where
 prog:=X.prog
 w:=X.w
 K:=X.K
 mg:=X.mg
 base:=X.base
 A:=X.A
 N:=N
 s₀:=s2
 H₀:=H2
 env:=compEnvC scope cl C X.env
 outer:=X.stack
 stack:=X.stack
 ex:=fp
 fn:=fun _=>false
 calm:=X.calm
 pn:=[]
 xe:=fun _ _=>False
noncomputable def zp (mp:List (Option Nat)) (σ:St):St:=mp.map fun o=>match o with
 | some j=>(σ[j]?).bind id
 | none=>none
structure CompScope (X:Cx) (N:List Str) (mp:List (Option Nat)) (scope:Scope):Prop where
 kind:scope.kind=.function
 nocell:∀ y∈scope.names,y.2≠.cell
 names:∀ y∈scope.names,y.2=.local→scope.names.lookup y.1=some .local
 len:mp.length=N.length
 out:∀ (i j:Nat),mp[i]?=some (some j)→∃ x,N[i]?=some x∧X.N[j]?=some x∧(X.env.scope.names.lookup x=some .cell∨X.env.scope.names.lookup x=some .free)∧scope.names.lookup x=some .free
noncomputable def PTL (X:Cx) (ifs:List Expr) (t:TT):Prop :=
 ∀ (pins:List (Addr×Obj)) (s:Shared) (σ:St) (H:Hp) (Q:Bool→Hp→Prop),Inv X pins σ H s→t σ H Q →
  wpAny (model X.prog X.w) X.A (forIn ifs true fun c r=>if r=true then do let ok ← isTrue c X.env (eval c X.env); pure (ForInStep.yield ok) else pure (ForInStep.yield r)) (TP X pins σ Q) X.xe s
section
variable {prog:Program} {w:World} {A:Around} {R:Result→Shared→Prop} {s:Shared}
theorem jv {elt target iter:Expr} {ifs:List Expr} {scope:Scope} {pos:Pos} {it acc:Value} {env:Env} (I:Nat→Shared→Prop)
  (turn:∀ n s,I n s→wpAny (model prog w) A (pyNext it) (fun r s₁=>match r with
   | none=>R (.ok .next) s₁
   | some v=>wpAny (model prog w) A (letOwnedTupleGo target it v) (fun _ s1=>wpAny (model prog w) A (assign target env v) (fun _ s₂ =>
     wpAny (model prog w) A (forIn ifs true fun c r=>if r=true then do let ok ← isTrue c env (eval c env); pure (ForInStep.yield ok) else pure (ForInStep.yield r)) (fun ok s₃ =>
      if ok=true then wpAny (model prog w) A (eval elt env) (fun x s₄ =>
       wpAny (model prog w) A (call (.builtin "list.append") [acc,x]) (fun _ s₅=>∃ m,m < n∧I m s₅) (fun _ _=>False) s₄) (fun _ _=>False) s₃
      else ∃ m,m < n∧I m s₃) (fun _ _=>False) s₂) (fun _ _=>False) s1) (fun _ _=>False) s₁) (fun _ _=>False) s)
  (n:Nat) (h:I n s) :
  codeAny (model prog w) A (.compLoop (.ListComp elt [⟨target,iter,ifs,0⟩] scope pos) 0 it acc env) R s:=by
 refine codeAny_loop rfl I (fun n s hI=>?_) n h
 show wpAny _ A ((compTurn (.ListComp elt [⟨target,iter,ifs,0⟩] scope pos) 0 it acc env).onRaise (fun x=>do noteFrame x env; theTreesLotGoes x)) _ _ s
 refine wpAny_noted ?_
 rw [compTurn_list]
 refine wpAny_bind (wpAny_standAt (wpAny_bind (wpAny_mono (turn n s hI) (fun r s₁ h₁=>?_) fun _ _ h'=>h'.elim)))
 cases r with
 | none=>exact wpAny_pure h₁
 | some v =>
  refine wpAny_bind (wpAny_mono h₁ (fun _ s1 h1=>wpAny_bind (wpAny_mono h1 (fun _ s₂ h₂=>wpAny_bind (wpAny_mono h₂ (fun ok s₃ h₃=>?_) fun _ _ h'=>h'.elim)) fun _ _ h'=>h'.elim)) fun _ _ h'=>h'.elim)
  cases ok with
  | false=>exact wpAny_pure ⟨rfl,h₃⟩
  | true =>
   exact wpAny_bind (wpAny_bind (wpAny_mono h₃ (fun x s₄ h₄=>wpAny_bind (wpAny_mono h₄ (fun _ s₅ h₅=>wpAny_pure (wpAny_pure ⟨rfl,h₅⟩)) fun _ _ h'=>h'.elim)) fun _ _ h'=>h'.elim))
end
section
variable {X:Cx}
theorem jw:PTL X [] (fun _ H Q=>Q true H):=fun pins s σ H Q I h=>wpAny_tests_nil ⟨H,I,h⟩
theorem aFq {c:Expr} {t:TT} (h:PT X c t):PTL X [c] t:=fun pins s σ H Q I hq=>wpAny_tests_one (h pins s σ H Q I hq)
theorem aHF {pins:List (Addr×Obj)} {σ:St} {H:Hp} {s2:Shared} {N:List Str} {mp:List (Option Nat)} {scope:Scope} {cl:List (Str×Addr)} {fp:List Addr} {h1:Heap} {tk:Nat} (I:Inv X pins σ H s2) (S:CompScope X N mp scope)
  (hcl:yX X.env.cells scope.names []=some cl) (hfp:∀ b∈fp,FpOk X pins H b) (hfo:∀ b∈fp,∃ o,s2.heap.get? b=some o)
  (old:∀ b o,s2.heap.get? b=some o→h1.get? b=some o) (hD:h1.get? s2.heap.objs.size=some { cls:=.type "list",data:=.seq ([]:List Value).toArray }) {m:Str→Option Value} (hC:h1.Ns (s2.heap.objs.size + 1) m) :
  Inv (cxC X N scope cl (s2.heap.objs.size + 1) s2 H fp) [] (zp mp σ) (upd H s2.heap.objs.size (.lst [])) { s2 with heap:=h1,toks:=tk }:=by
 have clm:∀ {x:Str} {c:Addr},cl.lookup x=some c→X.env.cells.lookup x=some c:=fun {x c} e=>qS hcl (fun p z=>absurd z (by simp)) (x,c) (PySem.mem_of_lookup e)
 have hn:H s2.heap.objs.size=none:=I.hok.fresh (Nat.le_refl _)
 have hnC:H (s2.heap.objs.size + 1)=none:=I.hok.fresh (Nat.le_succ _)
 have cellLt:∀ {x:Str} {c:Addr},X.env.cells.lookup x=some c→c < s2.heap.objs.size:=fun {x c} e=>by
  obtain ⟨v,q⟩:=I.cell x c e
  exact q.lt
 have freeOf:∀ x,((relabel scope X.env).names.lookup x=some .cell∨(relabel scope X.env).names.lookup x=some .free)→(x,NameKind.free)∈scope.names:=fun x hx=>by
  have hm:(x,NameKind.cell)∈(relabel scope X.env).names∨(x,NameKind.free)∈(relabel scope X.env).names:=hx.elim (fun z=>.inl (PySem.mem_of_lookup z)) fun z=>.inr (PySem.mem_of_lookup z)
  have conv:∀ k,(x,k)∈(relabel scope X.env).names→(k=.cell∨k=.free)→(x,NameKind.free)∈scope.names:=fun k hm hk=>by
   obtain ⟨⟨n,k'⟩,hy,e⟩:=List.mem_map.mp hm
   dsimp only at e
   split at e
   ·rename_i hc
    simp only [Bool.and_eq_true,beq_iff_eq] at hc
    cases e
    rw [hc.1.1] at hy
    exact hy
   ·cases e
    rcases hk with z | z
    ·subst z; exact absurd rfl (S.nocell _ hy)
    ·subst z; exact hy
  exact hm.elim (fun z=>conv _ z (.inl rfl)) fun z=>conv _ z (.inr rfl)
 have ok:(cxC X N scope cl (s2.heap.objs.size + 1) s2 H fp).Ok:=by
  refine ⟨I.ok.mod,S.kind,I.ok.glob,I.ok.blt,Nat.le_succ _,fun x y c e1 e2=>I.ok.inj x y c (clm e1) (clm e2),fun x hx=>?_,(fun x c z=>nomatch z),I.ok.hd,I.ok.frames,.inl rfl,fun b hb=>⟨?_,fun x c e=>(hfp b hb).2.2.2.2.1 x c (clm e)⟩,I.bs,Nat.le_trans I.ok.bsz I.sz,fun b o e hb=>?_,fun b hb z=>?_,I.stack,I.stkFree⟩
  ·obtain ⟨c,hc⟩:=yc hcl (.inl (freeOf x hx))
   obtain ⟨d,hd,_⟩:=zy hc
   exact ⟨d,hd⟩
  ·obtain ⟨o,e⟩:=hfo b hb
   exact Nat.ne_of_lt (Nat.lt_succ_of_lt (Heap.lt_size e))
  ·rcases (hfp b hb).2.2.2.1 with z | z
   ·exact I.ok.noex b o e z
   ·exact absurd (Nat.lt_of_lt_of_le (Heap.lt_size e) (Nat.le_trans I.ok.bsz z)) (Nat.lt_irrefl _)
  ·rcases List.mem_cons.mp (I.stkSub b z) with q | q
   ·exact (hfp b hb).2.1 q
   ·exact (hfp b hb).2.2.1 q
 refine ⟨ok,rfl,I.bare,Un.laid old (Nat.le_refl _) hn,⟨m,hC,fun i x v e1 e2 e3=>?_⟩,fun x c e=>?_,?_,fun x c e=>?_,(fun p hp=>nomatch hp),?_,?_⟩
 ·
  unfold zp at e2
  rw [List.getElem?_map] at e2
  cases em:mp[i]? with
  | none=>rw [em] at e2; cases e2
  | some o =>
   rw [em] at e2
   cases o with
   | none=>cases e2
   | some j =>
    have e2':(σ[j]?).bind id=some v:=Option.some.inj e2
    obtain ⟨x',n1,n2,n3,n4⟩:=S.out i j em
    rw [show (cxC X N scope cl (s2.heap.objs.size + 1) s2 H fp).N[i]?=N[i]? from rfl,n1] at e1
    cases e1
    have sj:σ[j]?=some (some v):=by
     cases ej:σ[j]? with
     | none=>rw [ej] at e2'; cases e2'
     | some o=>rw [ej] at e2'; exact congrArg some e2'
    obtain ⟨m0,hm0,hl⟩:=I.loc
    obtain ⟨u,ru,lk⟩:=hl j x v n2 sj (.inr n3)
    refine ⟨u,ru,.inr ⟨?_,?_⟩⟩
    ·have hf:(x,NameKind.free)∈scope.names:=PySem.mem_of_lookup n4
     have key:∀ l:List (Str×NameKind),l.lookup x=some .free→((l.map fun (n,k)=>if (k == NameKind.free && X.env.scope.kind == .function && X.env.kindOf n == some .cell) then (n,NameKind.cell) else (n,k)).lookup x=some .cell ∨
       (l.map fun (n,k)=>if (k == NameKind.free && X.env.scope.kind == .function && X.env.kindOf n == some .cell) then (n,NameKind.cell) else (n,k)).lookup x=some .free):=by
      intro l
      induction l with
      | nil=>intro z; cases z
      | cons y r ih =>
       obtain ⟨n,k⟩:=y
       intro z
       rw [List.lookup_cons] at z
       rw [List.map_cons]
       dsimp only
       by_cases en:(x == n)=true
       ·rw [en] at z
        dsimp only at z
        cases z
        split
        ·exact .inl (by rw [List.lookup_cons,en])
        ·exact .inr (by rw [List.lookup_cons,en])
       ·have en2:(x == n)=false:=by simpa using en
        rw [en2] at z
        dsimp only at z
        split
        ·rw [List.lookup_cons,en2]; exact ih z
        ·rw [List.lookup_cons,en2]; exact ih z
     exact key scope.names n4
    ·have hf:(x,NameKind.free)∈scope.names:=PySem.mem_of_lookup n4
     obtain ⟨c,hc⟩:=yc hcl (.inl hf)
     obtain ⟨d,hd,_⟩:=zy hc
     rcases lk with ⟨k1,_⟩ | ⟨_,c',hc',z⟩
     ·have k1':X.env.scope.names.lookup x=some .local:=k1
      rcases n3 with z | z <;> (rw [k1'] at z; cases z)
     ·have e:=clm hd
      rw [hc'] at e
      have e3:c'=d:=Option.some.inj e
      obtain ⟨o,ho,hdt⟩:=z
      rw [e3] at ho
      exact ⟨d,hd,o,old _ _ ho,hdt⟩
 ·obtain ⟨v,o,ho,hdt⟩:=I.cell x c (clm e)
  exact ⟨v,o,old _ _ ho,hdt⟩
 ·show upd H s2.heap.objs.size (.lst []) (s2.heap.objs.size + 1)=none
  rw [zH (Nat.ne_of_gt (Nat.lt_succ_self _))]; exact hnC
 ·show upd H s2.heap.objs.size (.lst []) c=none
  rw [zH (Nat.ne_of_lt (cellLt (clm e)))]
  exact I.freeC x c (clm e)
 ·exact I.hok.laid old (Nat.le_refl _) ⟨by show 0≤sizeLine; exact Nat.zero_le _,[],0,.nil,hD⟩
 ·show (zp mp σ).length=N.length
  unfold zp
  rw [List.length_map]; exact S.len
noncomputable def tComp (mp:List (Option Nat)) (wi:TI) (g:Addr→Shared→Hp→List Addr→TG) (tt:Addr→Shared→Hp→List Addr→TT) (te:Addr→Shared→Hp→List Addr→TE):TE:=fun σ H Q=>wi σ H fun J H1=>∀ (D:Addr),H1 D=none→∀ (C:Addr) (s2:Shared) (fp:List Addr),
 ∃ W:Nat→Nat→St→Hp→Prop,(∃ m,W 0 m (zp mp σ) (upd H1 D (.lst [])))∧∀ i m σ2 H2,W i m σ2 H2 →
  (J.stop i H2∧Q (.ref D) H2)∨(J.go i H2∧∃ N:St→Hp→Prop,(∀ σ' H',N σ' H'→∃ m',m' < m∧W (i + 1) m' σ' H')∧∀ x H',J.yld i H2 x H'→g C s2 H1 fp x σ2 H' fun σ3 H3=>tt C s2 H1 fp σ3 H3 fun b H4 =>
   if b=true then te C s2 H1 fp σ3 H4 fun y H5=>∃ xs,H5 D=some (.lst xs)∧xs.length < sizeLine∧N σ3 (upd H5 D (.lst (xs++[y]))) else N σ3 H4)
theorem jx {elt iter tg:Expr} {ifs:List Expr} {scope:Scope} {pos:Pos} {N:List Str} {mp:List (Option Nat)} {cl:List (Str×Addr)} {wi:TI} {g:Addr→Shared→Hp→List Addr→TG} {tt:Addr→Shared→Hp→List Addr→TT} {te:Addr→Shared→Hp→List Addr→TE}
  (hc:X.calm=true) (S:CompScope X N mp scope) (hcl:yX X.env.cells scope.names []=some cl) (hi:PI X tg iter wi)
  (hg:∀ C s2 H2 fp,PG (cxC X N scope cl C s2 H2 fp) tg (g C s2 H2 fp)) (ht:∀ C s2 H2 fp,PTL (cxC X N scope cl C s2 H2 fp) ifs (tt C s2 H2 fp)) (he:∀ C s2 H2 fp,PE (cxC X N scope cl C s2 H2 fp) elt (te C s2 H2 fp))
  (hs:∀ x,foldedSetIterable iter X.env x=pure x:=by intro _; rfl) :
  PE X (.ListComp elt [⟨tg,iter,ifs,0⟩] scope pos) (tComp mp wi g tt te):=by
 intro pins s σ H Q I h
 rw [eval_ListComp]
 refine wpAny_comprehension_free (use:=none) rfl hs (yw hcl) S.kind S.names (thn (hi pins s σ H _ I h) fun v s1 h1=>thn h1 fun itv s2 h2=>?_)
 obtain ⟨it,fp,tn,J,H2,e,I2,T,st2,f2,h3⟩:=h2
 subst e
 refine wpAny_newObj_type (wpAny_newFunctionEnv S.nocell (by intro y hy; simp at hy) (fun h₁ hns₁ hsb₁=>?_) S.kind)
 dsimp only at hns₁ hsb₁ ⊢
 have hn2:H2 s2.heap.objs.size=none:=I2.hok.fresh (Nat.le_refl _)
 generalize hH2:s2.heap.push { cls:=.type "list",dict:=none,data:=.seq ([]:List Value).toArray }=G2 at hns₁ hsb₁ ⊢
 have hC:G2.objs.size=s2.heap.objs.size + 1:=by rw [← hH2,Heap.size_push]
 have old:∀ b o,s2.heap.get? b=some o→h₁.get? b=some o:=fun b o e=>hsb₁.extBut b o (by rw [hC]; exact Nat.ne_of_lt (Nat.lt_succ_of_lt (Heap.lt_size e))) (Heap.get?_push_of_some _ (hH2 ▸ Heap.get?_push_of_some _ e))
 have hD1:h₁.get? s2.heap.objs.size=some { cls:=.type "list",data:=.seq ([]:List Value).toArray }:=hsb₁.extBut _ _ (by rw [hC]; exact Nat.ne_of_lt (Nat.lt_succ_self _)) (Heap.get?_push_of_some _ (hH2 ▸ Heap.get?_push_size _ rfl))
 rw [hC] at hns₁
 obtain ⟨W,⟨m0,w0⟩,turn⟩:=h3 s2.heap.objs.size hn2 (s2.heap.objs.size + 1) s2 fp
 have I4:=aHF (tk:=s2.toks + ([]:List (Str×Value)).length) I2 S hcl f2 (fun b hb=>let ⟨o,e,_⟩:=T.obj _ _ st2 b hb; ⟨o,e⟩) old hD1 hns₁
 have st4:tn 0 h₁:=T.keep _ _ _ st2 fun b hb o e=>old b o e
 have stat:∀ {pl:List (Addr×Obj)} {H':Hp},(∀ b∈fp,H' b=none)→(∀ p∈pl,p.1 ∉ fp)→∀ b∈fp,FpOk (cxC X N scope cl (s2.heap.objs.size + 1) s2 H2 fp) pl H' b:=fun {pl H'} hn hp b hb =>
  ⟨hn b hb,(I4.ok.exf b hb).1,I4.ok.exfs b hb,.inl hb,(I4.ok.exf b hb).2,fun p z q=>hp p (by simpa [cxC] using z) (by rw [q]; exact hb)⟩
 have fr0:∀ b∈fp,(upd H2 s2.heap.objs.size (.lst [])) b=none:=fun b hb=>by
  obtain ⟨o,e,_⟩:=T.obj _ _ st2 b hb
  rw [zH (Nat.ne_of_lt (Heap.lt_size e))]
  exact (f2 b hb).1
 have envEq:(newEnv scope G2.objs.size X.env.globals cl X.env.qual none .none (some X.env) X.env.builtins)=(newEnv scope (s2.heap.objs.size + 1) X.env.globals cl X.env.qual none .none (some X.env) X.env.builtins):=by rw [hC]
 have fin:∀ {σ':St} {H':Hp} {s':Shared},Inv (cxC X N scope cl (s2.heap.objs.size + 1) s2 H2 fp) [] σ' H' s'→Q (.ref s2.heap.objs.size) H'→compPost (model X.prog X.w) X.A X.xe none (EP X pins σ Q) (.ref s2.heap.objs.size) (s2.heap.objs.size + 1) (.ok .next) s':=by
  intro σ' H' s' J' q
  obtain ⟨m,hm,_⟩:=id J'.loc
  refine ⟨m,hm,fun h'' sb=>?_⟩
  have keepC:∀ b o,b≠s2.heap.objs.size + 1→s'.heap.get? b=some o→h''.get? b=some o:=fun b o hb e=>sb.extBut b o hb e
  have u0:=J'.base
  have neC:∀ b o,s2.heap.get? b=some o→b≠s2.heap.objs.size + 1:=fun b o e=>Nat.ne_of_lt (Nat.lt_succ_of_lt (Heap.lt_size e))
  have u:Un (frs X.stack) fp H2 H' s2.heap h'':=⟨fun b o e n hb hx=>keepC b o (neC b o e) (u0.keep b o e n hb hx),fun b o e n hb hx=>by
    obtain ⟨sl,e1⟩:=u0.slot b o e n hb hx
    exact ⟨sl,keepC b _ (neC b o e) e1⟩,u0.free,fun b o e hx=>by
    obtain ⟨o',e1⟩:=u0.there b o e hx
    exact ⟨o',keepC b o' (neC b o e) e1⟩,u0.tups,u0.frzs,u0.tbls⟩
  have freeC:H' (s2.heap.objs.size + 1)=none:=J'.free
  have hok:HOk X.prog X.w H' h'':=fun b o e=>(J'.hok b o e).stay (fun c v hcc r=>keepC c v (by
    intro z
    rcases hcc with q1 | q1
    ·rw [← q1,z,freeC] at e; cases e
    ·rw [z,freeC] at q1; cases q1) r) (fun _ z=>z) fun _ _ z=>z
  exact ⟨.ref s2.heap.objs.size,H',I2.call' (s':={ s' with heap:=h'' }) J'.os u hok J'.bare fun b hb=>⟨(f2 b hb).2.2.2.1,(f2 b hb).2.1,(f2 b hb).2.2.2.2.1,(f2 b hb).2.2.2.2.2⟩,rfl,q⟩
 have loop:codeAny (model X.prog X.w) X.A (.compLoop (.ListComp elt [⟨tg,iter,ifs,0⟩] scope pos) 0 (.ref it) (.ref s2.heap.objs.size) (compEnvC scope cl (s2.heap.objs.size + 1) X.env))
   (compPost (model X.prog X.w) X.A X.xe none (EP X pins σ Q) (.ref s2.heap.objs.size) (s2.heap.objs.size + 1)) { s2 with heap:=h₁,toks:=s2.toks + ([]:List (Str×Value)).length }:=by
  refine jv (fun n s'=>∃ i σ' H',Inv (cxC X N scope cl (s2.heap.objs.size + 1) s2 H2 fp) [] σ' H' s'∧tn i s'.heap∧(∀ b∈fp,H' b=none)∧W i n σ' H') ?_ m0 ⟨0,_,_,I4,st4,fr0,w0⟩
  rintro n s3 ⟨i,σ3,H3,I3,st3,fr3,w3⟩
  rcases turn i n σ3 H3 w3 with ⟨stop,qn⟩ | ⟨go,N',hN,step⟩
  ·refine (thn (T.done (cxC X N scope cl (s2.heap.objs.size + 1) s2 H2 fp) rfl rfl rfl hc i [] s3 σ3 H3 (fun _ _=>False) I3 (stat fr3 (fun _ z=>nomatch z)) st3 stop) fun r s4 ⟨hr,I4'⟩=>?_)
   subst hr
   exact fin I4' qn
  ·refine (thn (T.item (cxC X N scope cl (s2.heap.objs.size + 1) s2 H2 fp) rfl rfl rfl hc i [] s3 σ3 H3 (fun _ _=>False) I3 (stat fr3 (fun _ z=>nomatch z)) st3 go) fun r s4 ⟨u,hr,h4⟩=>?_)
   subst hr
   refine thn h4 fun _ s5 ⟨x,H5,I5,r5,y5,st5,fr5⟩=>?_
   have I5':=I5.pinned (pins:=[]) (stat fr5 (fun _ z=>nomatch z)) (T.obj _ _ st5)
   refine (thn (hg (s2.heap.objs.size + 1) s2 H2 fp _ s5 σ3 H5 x u _ I5' r5 (step x H5 y5)) fun _ s6 ⟨σ6,H6,I6,q6⟩=>?_)
   refine (thn (ht (s2.heap.objs.size + 1) s2 H2 fp _ s6 σ6 H6 _ I6 q6) fun b s7 ⟨H7,I7,q7⟩=>?_)
   have again:∀ {σ7:St} {H7:Hp} {s7:Shared},Inv (cxC X N scope cl (s2.heap.objs.size + 1) s2 H2 fp) ([]++jp fp s5.heap) σ7 H7 s7→N' σ7 H7→∃ m,m < n∧∃ i σ' H',Inv (cxC X N scope cl (s2.heap.objs.size + 1) s2 H2 fp) [] σ' H' s7∧tn i s7.heap∧(∀ b∈fp,H' b=none)∧W i m σ' H':=fun {σ7 H7 s7} I7 n7=>by
    obtain ⟨m',hm,w7⟩:=hN σ7 H7 n7
    refine ⟨m',hm,i + 1,σ7,H7,I7.unpinned,T.keep _ _ _ st5 fun b hb o e=>(I7.pin (b,o) (List.mem_append_right _ (List.mem_append_right _ (zr hb e)))).1,fun b hb=>?_,w7⟩
    obtain ⟨o,e,d⟩:=T.obj _ _ st5 b hb
    exact (I7.pin (b,o) (List.mem_append_right _ (List.mem_append_right _ (zr hb e)))).2.1
   cases b with
   | false =>
    rw [if_neg Bool.false_ne_true] at q7 ⊢
    exact again I7 q7
   | true =>
    rw [if_pos rfl] at q7 ⊢
    refine (thn (he (s2.heap.objs.size + 1) s2 H2 fp _ s7 σ6 H7 _ I7 q7) fun y s8 ⟨yv,H8,I8,ry,xs,hx,hz,n8⟩=>?_)
    refine (thn (yp (X:=cxC X N scope cl (s2.heap.objs.size + 1) s2 H2 fp) _ s8 σ6 H8 (.ref s2.heap.objs.size) [yv] (.ref s2.heap.objs.size) [y] (fun _ H'=>N' σ6 H') I8 rfl (.cons ry .nil) ⟨_,xs,yv,rfl,rfl,hx,hz,n8⟩) fun _ s9 ⟨_,H9,I9,_,n9⟩=>?_)
    exact again I9 n9
 have goal:=codeAny_compStart_list loop (T.self X.A 0 { s2 with heap:=h₁,toks:=s2.toks + ([]:List (Str×Value)).length } _ _ st4 loop)
 rw [hC]
 exact goal
end
end L2
namespace L2
open PySem PySem.Spec PyProof.Rows
inductive D where
 | non
 | bl (b:Bool)
 | int (i:Int)
 | str (x:Str)
 | tup (l:List D)
 | lst (l:List D)
mutual
noncomputable def Rep (K:PySem.W.Frag) (H:Hp):D→V→Prop
 | .non,v=>v=.non
 | .bl b,v=>v=.bl b
 | .int i,v=>v=.int i
 | .str x,v=>v=.str x
 | .tup ds,v=>∃ p xs,v=.ref p∧SqT K H p xs∧Reps K H ds xs
 | .lst ds,v=>∃ p xs,v=.ref p∧SqL K H p xs∧Reps K H ds xs
noncomputable def Reps (K:PySem.W.Frag) (H:Hp):List D→List V→Prop
 | [],xs=>xs=[]
 | d :: ds,xs=>∃ x r,xs=x :: r∧Rep K H d x∧Reps K H ds r
end
mutual
noncomputable def eqD:D→D→Bool
 | .non,.non=>true
 | .bl a,.bl b=>a == b
 | .bl a,.int b=>(if a then 1 else 0) == b
 | .int a,.bl b=>a == (if b then 1 else 0)
 | .int a,.int b=>a == b
 | .str a,.str b=>a == b
 | .tup a,.tup b=>eqDs a b
 | .lst a,.lst b=>eqDs a b
 | _,_=>false
noncomputable def eqDs:List D→List D→Bool
 | [],[]=>true
 | a :: r,b :: t=>eqD a b && eqDs r t
 | _,_=>false
end
mutual
noncomputable def D.dep:D→Nat
 | .tup l=>deps l + 1
 | .lst l=>deps l + 1
 | _=>0
noncomputable def deps:List D→Nat
 | []=>0
 | d :: r=>max d.dep (deps r)
end
theorem Reps.len {K:PySem.W.Frag} {H:Hp}:∀ {ds:List D} {xs:List V},Reps K H ds xs→ds.length=xs.length
 | [],xs,h=>by
  unfold Reps at h; subst h; rfl
 | d :: ds,xs,h=>by
  unfold Reps at h
  obtain ⟨x,r,rfl,_,h⟩:=h
  rw [List.length_cons,List.length_cons,Reps.len h]
theorem Reps.get {K:PySem.W.Frag} {H:Hp}:∀ {ds:List D} {xs:List V} {j:Nat} {d:D},Reps K H ds xs→ds[j]?=some d→∃ x,xs[j]?=some x∧Rep K H d x
 | [],xs,j,d,h,e=>by cases e
 | a :: ds,xs,j,d,h,e=>by
  unfold Reps at h
  obtain ⟨x,r,rfl,h1,h2⟩:=h
  match j,e with
  | 0,e=>cases e; exact ⟨x,rfl,h1⟩
  | j + 1,e=>exact Reps.get (ds:=ds) (j:=j) h2 (by simpa using e)
mutual
theorem aAX:∀ d:D,eqD d d=true
 | .non=>rfl
 | .bl b=>by unfold eqD; simp
 | .int i=>by unfold eqD; simp
 | .str x=>by unfold eqD; simp
 | .tup l=>by unfold eqD; exact eqDs_refl l
 | .lst l=>by unfold eqD; exact eqDs_refl l
theorem eqDs_refl:∀ l:List D,eqDs l l=true
 | []=>by unfold eqDs; rfl
 | d :: r=>by unfold eqDs; rw [aAX d,eqDs_refl r]; rfl
end
section
variable {X:Cx} {pins:List (Addr×Obj)} {σ:St} {H:Hp} {s:Shared}
theorem Inv.list_tup (I:Inv X pins σ H s) {a:Addr} {xs ys:List V} (h1:SqL X.K H a xs) (h2:SqT X.K H a ys):False:=by
 obtain ⟨its,_,⟨o,n,e1,c1,_⟩,_⟩:=I.list h1
 obtain ⟨its2,_,⟨o2,e2,c2,_⟩,_⟩:=I.tuple h2
 rw [e1] at e2; cases e2
 rw [c1] at c2
 injection c2 with c3
 exact absurd c3 (by decide)
mutual
theorem aDy (I:Inv X pins σ H s):∀ (d e:D) (v:V),Rep X.K H d v→Rep X.K H e v→d=e
  | .non,e,v,h1,h2=>by
    unfold Rep at h1; subst h1
    cases e <;> (unfold Rep at h2; first | rfl | (obtain ⟨_,_,z,_⟩:=h2; cases z; done) | cases h2)
  | .bl b,e,v,h1,h2=>by
    unfold Rep at h1; subst h1
    cases e <;> (unfold Rep at h2; first | (obtain ⟨_,_,z,_⟩:=h2; cases z; done) | (cases h2; rfl) | cases h2)
  | .int b,e,v,h1,h2=>by
    unfold Rep at h1; subst h1
    cases e <;> (unfold Rep at h2; first | (obtain ⟨_,_,z,_⟩:=h2; cases z; done) | (cases h2; rfl) | cases h2)
  | .str b,e,v,h1,h2=>by
    unfold Rep at h1; subst h1
    cases e <;> (unfold Rep at h2; first | (obtain ⟨_,_,z,_⟩:=h2; cases z; done) | (cases h2; rfl) | cases h2)
  | .tup l,e,v,h1,h2=>by
    unfold Rep at h1
    obtain ⟨p,xs,rfl,q,r⟩:=h1
    cases e with
    | tup l2 =>
      unfold Rep at h2
      obtain ⟨p2,xs2,z,q2,r2⟩:=h2
      cases z
      rw [I.tuple_inj q2 q] at r2
      rw [reps_inj I l l2 xs r r2]
    | lst l2 =>
      unfold Rep at h2
      obtain ⟨p2,xs2,z,q2,r2⟩:=h2
      cases z
      exact (I.list_tup q2 q).elim
    | _=>unfold Rep at h2; cases h2
  | .lst l,e,v,h1,h2=>by
    unfold Rep at h1
    obtain ⟨p,xs,rfl,q,r⟩:=h1
    cases e with
    | lst l2 =>
      unfold Rep at h2
      obtain ⟨p2,xs2,z,q2,r2⟩:=h2
      cases z
      rw [I.list_inj q2 q] at r2
      rw [reps_inj I l l2 xs r r2]
    | tup l2 =>
      unfold Rep at h2
      obtain ⟨p2,xs2,z,q2,r2⟩:=h2
      cases z
      exact (I.list_tup q q2).elim
    | _=>unfold Rep at h2; cases h2
theorem reps_inj (I:Inv X pins σ H s):∀ (ds es:List D) (xs:List V),Reps X.K H ds xs→Reps X.K H es xs→ds=es
 | [],es,xs,h1,h2=>by
  unfold Reps at h1; subst h1
  cases es with
  | nil=>rfl
  | cons e es=>unfold Reps at h2; obtain ⟨_,_,z,_⟩:=h2; cases z
 | d :: ds,es,xs,h1,h2=>by
  unfold Reps at h1
  obtain ⟨x,r,rfl,a,b⟩:=h1
  cases es with
  | nil=>unfold Reps at h2; cases h2
  | cons e es =>
   unfold Reps at h2
   obtain ⟨x2,r2,z,a2,b2⟩:=h2
   cases z
   rw [aDy I d e x a a2,reps_inj I ds es r b b2]
end
theorem aER:∀ (ds es:List D),ds.length=es.length→(List.range ds.length).all (fun j=>match ds[j]?,es[j]? with
  | some d,some e=>eqD d e
  | _,_=>false)=eqDs ds es
 | [],[],_=>by unfold eqDs; rfl
 | d :: ds,e :: es,h=>by
  rw [List.length_cons,List.range_succ_eq_map,List.all_cons,List.all_map]
  unfold eqDs
  rw [← aER ds es (by simpa using h)]
  rfl
theorem aAY:∀ (ds es:List D),ds.length≠es.length→eqDs ds es=false
 | [],[],h=>absurd rfl h
 | [],_ :: _,_=>by unfold eqDs; rfl
 | _ :: _,[],_=>by unfold eqDs; rfl
 | d :: ds,e :: es,h=>by
  unfold eqDs
  rw [aAY ds es (by simpa using h),Bool.and_false]
noncomputable def eAt (ds es:List D) (j:Nat):Bool:=match ds[j]?,es[j]? with
  | some d,some e=>eqD d e
  | _,_=>false
theorem aES {A:Around} {ds es:List D} {xs ys:List V} {us vs:List Value} (r1:Reps X.K H ds xs) (r2:Reps X.K H es ys) (v1:Vals xs us) (v2:Vals ys vs)
  (ih:∀ (j:Nat) (d e:D) (x y:V) (u v:Value),ds[j]?=some d→es[j]?=some e→Rep X.K H d x→Rep X.K H e y→RelV x u→RelV y v→SeqAt.EqAt A s u v (eqD d e)) :
  ∀ j (h1:j < us.toArray.size) (h2:j < vs.toArray.size),SeqAt.EqAt A s us.toArray[j] vs.toArray[j] (eAt ds es j):=by
 intro j h1 h2
 rw [List.size_toArray] at h1 h2
 have l1:=r1.len
 have l2:=r2.len
 have l3:=v1.length
 have l4:=v2.length
 have e1:ds[j]?=some (ds[j]'(by lia)):=List.getElem?_eq_getElem _
 have e2:es[j]?=some (es[j]'(by lia)):=List.getElem?_eq_getElem _
 obtain ⟨x,hx,px⟩:=r1.get e1
 obtain ⟨y,hy,py⟩:=r2.get e2
 obtain ⟨u,hu,ru⟩:=v1.get hx
 obtain ⟨v,hv,rv⟩:=v2.get hy
 have q:=ih j _ _ x y u v e1 e2 px py ru rv
 have hu':us.toArray[j]'(by simpa using h1)=u:=by
  have:=List.getElem?_eq_getElem h1
  rw [hu] at this
  simpa using (Option.some.inj this).symm
 have hv':vs.toArray[j]'(by simpa using h2)=v:=by
  have:=List.getElem?_eq_getElem h2
  rw [hv] at this
  simpa using (Option.some.inj this).symm
 rw [hu',hv']
 unfold eAt
 rw [e1,e2]
 exact q
theorem aCL {ds es:List D} {n:Nat} (h:ds.length=n) (h2:es.length=n):(List.range n).all (eAt ds es)=eqDs ds es:=by
 rw [← h,← aER ds es (h.trans h2.symm)]
 rfl
theorem aFr {ds es:List D} {n m:Nat} (h:ds.length=n) (h2:es.length=m):((List.range (min n m)).all (eAt ds es) && (n == m))=eqDs ds es:=by
 by_cases e:n=m
 ·subst e
  rw [Nat.min_self,aCL h h2]
  simp
 ·have e2:(n == m)=false:=by simpa using e
  rw [e2,Bool.and_false,aAY ds es (by rw [h,h2]; exact e)]
theorem aET {A:Around} {l b:Addr} {ds es:List D} {xs ys:List V} (I:Inv X pins σ H s) (h1:SqL X.K H l xs) (h2:SqL X.K H b ys) (r1:Reps X.K H ds xs) (r2:Reps X.K H es ys) (hu:A.units < cLine)
  (ih:∀ (j:Nat) (d e:D) (x y:V) (u v:Value),ds[j]?=some d→es[j]?=some e→Rep X.K H d x→Rep X.K H e y→RelV x u→RelV y v→SeqAt.EqAt A.in1 s u v (eqD d e)) :
  SeqAt.RcAt A s (.ref l) (.ref b) (eqDs ds es)∧SeqAt.RcNeAt A s (.ref l) (.ref b) (!eqDs ds es):=by
 obtain ⟨us,v1,p1,z1⟩:=I.list h1
 obtain ⟨vs,v2,p2,z2⟩:=I.list h2
 have l1:=r1.len
 have l2:=r2.len
 have l3:=v1.length
 have l4:=v2.length
 by_cases e:us.length=vs.length
 ·have it:=aES r1 r2 v1 v2 ih
  have a1:=SeqAt.RcAt.lists (A:=A) p1.isList p2.isList (by simpa using e) hu it
  have a2:=SeqAt.RcNeAt.lists (A:=A) p1.isList p2.isList (by simpa using e) hu it
  rw [aCL (ds:=ds) (es:=es) (by simp; lia) (by simp; lia)] at a1 a2
  exact ⟨a1,a2⟩
 ·have ne:(us.toArray.size != vs.toArray.size)=true:=by simpa using e
  rw [aAY ds es (by lia)]
  exact ⟨SeqAt.RcAt.lists_lengths p1.isList p2.isList ne hu,SeqAt.RcNeAt.lists_lengths p1.isList p2.isList ne hu⟩
theorem aFs {A:Around} {l b:Addr} {ds es:List D} {xs ys:List V} (I:Inv X pins σ H s) (h1:SqT X.K H l xs) (h2:SqT X.K H b ys) (r1:Reps X.K H ds xs) (r2:Reps X.K H es ys) (hu:A.units < cLine)
  (ih:∀ (j:Nat) (d e:D) (x y:V) (u v:Value),ds[j]?=some d→es[j]?=some e→Rep X.K H d x→Rep X.K H e y→RelV x u→RelV y v→SeqAt.EqAt A.in1 s u v (eqD d e)) :
  SeqAt.RcAt A s (.ref l) (.ref b) (eqDs ds es)∧SeqAt.RcNeAt A s (.ref l) (.ref b) (!eqDs ds es):=by
 obtain ⟨us,v1,p1,z1⟩:=I.tuple h1
 obtain ⟨vs,v2,p2,z2⟩:=I.tuple h2
 have l1:=r1.len
 have l2:=r2.len
 have l3:=v1.length
 have l4:=v2.length
 have it:=aES r1 r2 v1 v2 ih
 have a1:=SeqAt.RcAt.tuples (A:=A) (show s.heap.IsTuple l us.toArray from p1) (show s.heap.IsTuple b vs.toArray from p2) hu it
 have a2:=SeqAt.RcNeAt.tuples (A:=A) (show s.heap.IsTuple l us.toArray from p1) (show s.heap.IsTuple b vs.toArray from p2) hu it
 rw [aFr (ds:=ds) (es:=es) (by simp; lia) (by simp; lia)] at a1 a2
 exact ⟨a1,a2⟩
theorem ji:∀ {l:List D} {j:Nat} {d:D},l[j]?=some d→d.dep≤deps l
 | a :: l,0,d,e=>by cases e; unfold deps; lia
 | a :: l,j + 1,d,e=>by
  have:=ji (l:=l) (j:=j) (d:=d) (by simpa using e)
  unfold deps; lia
theorem aJA (I:Inv X pins σ H s):∀ (n:Nat) (A:Around) (d e:D) (x y:V) (u v:Value),d.dep≤n→A.units + n < cLine→Rep X.K H d x→Rep X.K H e y→RelV x u→RelV y v→SeqAt.EqAt A s u v (eqD d e):=by
 intro n
 induction n with
 | zero =>
  intro A d e x y u v hd hu r1 r2 ru rv
  have hu0:A.units < cLine:=by lia
  cases d with
  | tup l=>unfold D.dep at hd; lia
  | lst l=>unfold D.dep at hd; lia
  | non =>
   unfold Rep at r1; subst r1; cases ru
   cases e with
   | non=>unfold Rep at r2; subst r2; cases rv; exact SeqAt.EqAt.same _
   | bl b=>unfold Rep at r2; subst r2; cases rv; exact SeqAt.EqAt.none_bool b
   | int b=>unfold Rep at r2; subst r2; obtain ⟨t,rfl⟩:=rv; exact SeqAt.EqAt.none_int b t
   | str b=>unfold Rep at r2; subst r2; obtain ⟨t,rfl⟩:=rv; exact SeqAt.EqAt.none_str b t
   | tup l=>unfold Rep at r2; obtain ⟨p,xs,rfl,q,_⟩:=r2; cases rv; obtain ⟨us,_,pt,_⟩:=I.tuple q; exact SeqAt.EqAt.none_tuple (show s.heap.IsTuple p us.toArray from pt) hu0
   | lst l=>unfold Rep at r2; obtain ⟨p,xs,rfl,q,_⟩:=r2; cases rv; obtain ⟨us,_,pt,_⟩:=I.list q; exact SeqAt.EqAt.none_list pt.isList hu0
  | bl a =>
   unfold Rep at r1; subst r1; cases ru
   cases e with
   | non=>unfold Rep at r2; subst r2; cases rv; exact SeqAt.EqAt.bool_none a
   | bl b=>unfold Rep at r2; subst r2; cases rv; exact SeqAt.EqAt.bool_bool a b
   | int b=>unfold Rep at r2; subst r2; obtain ⟨t,rfl⟩:=rv; exact SeqAt.EqAt.bool_int a b t
   | str b=>unfold Rep at r2; subst r2; obtain ⟨t,rfl⟩:=rv; exact SeqAt.EqAt.bool_str a b t
   | tup l=>unfold Rep at r2; obtain ⟨p,xs,rfl,q,_⟩:=r2; cases rv; obtain ⟨us,_,pt,_⟩:=I.tuple q; exact SeqAt.EqAt.bool_tuple a (show s.heap.IsTuple p us.toArray from pt) hu0
   | lst l=>unfold Rep at r2; obtain ⟨p,xs,rfl,q,_⟩:=r2; cases rv; obtain ⟨us,_,pt,_⟩:=I.list q; exact SeqAt.EqAt.bool_list a pt.isList hu0
  | int a =>
   unfold Rep at r1; subst r1; obtain ⟨t1,rfl⟩:=ru
   cases e with
   | non=>unfold Rep at r2; subst r2; cases rv; exact SeqAt.EqAt.int_none a t1
   | bl b=>unfold Rep at r2; subst r2; cases rv; exact SeqAt.EqAt.int_bool a t1 b
   | int b=>unfold Rep at r2; subst r2; obtain ⟨t,rfl⟩:=rv; exact SeqAt.EqAt.int_int a t1 b t
   | str b=>unfold Rep at r2; subst r2; obtain ⟨t,rfl⟩:=rv; exact SeqAt.EqAt.int_str a t1 b t
   | tup l=>unfold Rep at r2; obtain ⟨p,xs,rfl,q,_⟩:=r2; cases rv; obtain ⟨us,_,pt,_⟩:=I.tuple q; exact SeqAt.EqAt.int_tuple a t1 (show s.heap.IsTuple p us.toArray from pt) hu0
   | lst l=>unfold Rep at r2; obtain ⟨p,xs,rfl,q,_⟩:=r2; cases rv; obtain ⟨us,_,pt,_⟩:=I.list q; exact SeqAt.EqAt.int_list a t1 pt.isList hu0
  | str a =>
   unfold Rep at r1; subst r1; obtain ⟨t1,rfl⟩:=ru
   cases e with
   | non=>unfold Rep at r2; subst r2; cases rv; exact SeqAt.EqAt.str_none a t1
   | bl b=>unfold Rep at r2; subst r2; cases rv; exact SeqAt.EqAt.str_bool a t1 b
   | int b=>unfold Rep at r2; subst r2; obtain ⟨t,rfl⟩:=rv; exact SeqAt.EqAt.str_int a t1 b t
   | str b=>unfold Rep at r2; subst r2; obtain ⟨t,rfl⟩:=rv; exact SeqAt.EqAt.str_str a t1 b t
   | tup l=>unfold Rep at r2; obtain ⟨p,xs,rfl,q,_⟩:=r2; cases rv; obtain ⟨us,_,pt,_⟩:=I.tuple q; exact SeqAt.EqAt.str_tuple a t1 (show s.heap.IsTuple p us.toArray from pt) hu0
   | lst l=>unfold Rep at r2; obtain ⟨p,xs,rfl,q,_⟩:=r2; cases rv; obtain ⟨us,_,pt,_⟩:=I.list q; exact SeqAt.EqAt.str_list a t1 pt.isList hu0
 | succ n ihn =>
  intro A d e x y u v hd hu r1 r2 ru rv
  have hu0:A.units < cLine:=by lia
  have hu1:A.in1.units + n < cLine:=by show A.units + 1 + n < cLine; lia
  cases d with
  | tup l =>
   have r1':=r1
   unfold Rep at r1
   obtain ⟨p,xs,rfl,q,rs⟩:=r1
   cases ru
   have hd':deps l≤n:=by unfold D.dep at hd; lia
   obtain ⟨us,_,pt,_⟩:=id (I.tuple q)
   cases e with
   | non=>unfold Rep at r2; subst r2; cases rv; exact SeqAt.EqAt.tuple_none (show s.heap.IsTuple p us.toArray from pt) hu0
   | bl b=>unfold Rep at r2; subst r2; cases rv; exact SeqAt.EqAt.tuple_bool b (show s.heap.IsTuple p us.toArray from pt) hu0
   | int b=>unfold Rep at r2; subst r2; obtain ⟨t,rfl⟩:=rv; exact SeqAt.EqAt.tuple_int b t (show s.heap.IsTuple p us.toArray from pt) hu0
   | str b=>unfold Rep at r2; subst r2; obtain ⟨t,rfl⟩:=rv; exact SeqAt.EqAt.tuple_str b t (show s.heap.IsTuple p us.toArray from pt) hu0
   | tup l2 =>
    have r2':=r2
    unfold Rep at r2
    obtain ⟨p2,xs2,rfl,q2,rs2⟩:=r2
    cases rv
    by_cases hp:p=p2
    ·subst hp
     rw [aDy I _ _ _ r1' r2',aAX]
     exact SeqAt.EqAt.same _
    ·unfold eqD
     exact SeqAt.EqAt.of_refs hp (aFs I q q2 rs rs2 hu0 fun j d e x y u v e1 e2 a b c f=>ihn A.in1 d e x y u v (Nat.le_trans (ji e1) hd') hu1 a b c f).1
   | lst l2 =>
    unfold Rep at r2
    obtain ⟨p2,xs2,rfl,q2,rs2⟩:=r2
    cases rv
    obtain ⟨us2,_,pt2,_⟩:=I.list q2
    exact SeqAt.EqAt.tuple_list (show s.heap.IsTuple p us.toArray from pt) pt2.isList hu0
  | lst l =>
   have r1':=r1
   unfold Rep at r1
   obtain ⟨p,xs,rfl,q,rs⟩:=r1
   cases ru
   have hd':deps l≤n:=by unfold D.dep at hd; lia
   obtain ⟨us,_,pt,_⟩:=id (I.list q)
   cases e with
   | non=>unfold Rep at r2; subst r2; cases rv; exact SeqAt.EqAt.list_none pt.isList hu0
   | bl b=>unfold Rep at r2; subst r2; cases rv; exact SeqAt.EqAt.list_bool b pt.isList hu0
   | int b=>unfold Rep at r2; subst r2; obtain ⟨t,rfl⟩:=rv; exact SeqAt.EqAt.list_int b t pt.isList hu0
   | str b=>unfold Rep at r2; subst r2; obtain ⟨t,rfl⟩:=rv; exact SeqAt.EqAt.list_str b t pt.isList hu0
   | lst l2 =>
    have r2':=r2
    unfold Rep at r2
    obtain ⟨p2,xs2,rfl,q2,rs2⟩:=r2
    cases rv
    by_cases hp:p=p2
    ·subst hp
     rw [aDy I _ _ _ r1' r2',aAX]
     exact SeqAt.EqAt.same _
    ·unfold eqD
     exact SeqAt.EqAt.of_refs hp (aET I q q2 rs rs2 hu0 fun j d e x y u v e1 e2 a b c f=>ihn A.in1 d e x y u v (Nat.le_trans (ji e1) hd') hu1 a b c f).1
   | tup l2 =>
    unfold Rep at r2
    obtain ⟨p2,xs2,rfl,q2,rs2⟩:=r2
    cases rv
    obtain ⟨us2,_,pt2,_⟩:=I.tuple q2
    exact SeqAt.EqAt.list_tuple pt.isList (show s.heap.IsTuple p2 us2.toArray from pt2) hu0
  | _=>exact ihn A _ e x y u v (by unfold D.dep; exact Nat.zero_le _) (by lia) r1 r2 ru rv
noncomputable def rEqS (K:PySem.W.Frag) (neg:Bool):R2:=fun x y H Q=>∃ ds es,((Rep K H (.lst ds) x∧Rep K H (.lst es) y)∨(Rep K H (.tup ds) x∧Rep K H (.tup es) y))∧deps ds≤50∧Q (.bl (if neg then !eqDs ds es else eqDs ds es)) H
theorem aFt (I:Inv X pins σ H s) {x y:V} {u v:Value} {ds es:List D} (hA:X.A.units + 60 < cLine) (ru:RelV x u) (rv:RelV y v) (h:(Rep X.K H (.lst ds) x∧Rep X.K H (.lst es) y)∨(Rep X.K H (.tup ds) x∧Rep X.K H (.tup es) y)) (hd:deps ds≤50) :
  SeqAt.RcAt X.A s u v (eqDs ds es)∧SeqAt.RcNeAt X.A s u v (!eqDs ds es):=by
 have ih:∀ (j:Nat) (d e:D) (x y:V) (u v:Value),ds[j]?=some d→es[j]?=some e→Rep X.K H d x→Rep X.K H e y→RelV x u→RelV y v→SeqAt.EqAt X.A.in1 s u v (eqD d e) :=
  fun j d e x y u v e1 e2 a b c f=>aJA I 50 X.A.in1 d e x y u v (Nat.le_trans (ji e1) hd) (by show X.A.units + 1 + 50 < cLine; lia) a b c f
 rcases h with ⟨h1,h2⟩ | ⟨h1,h2⟩
 ·unfold Rep at h1 h2
  obtain ⟨p,xs,rfl,q,rs⟩:=h1
  obtain ⟨p2,xs2,rfl,q2,rs2⟩:=h2
  cases ru; cases rv
  exact aET I q q2 rs rs2 (by lia) ih
 ·unfold Rep at h1 h2
  obtain ⟨p,xs,rfl,q,rs⟩:=h1
  obtain ⟨p2,xs2,rfl,q2,rs2⟩:=h2
  cases ru; cases rv
  exact aFs I q q2 rs rs2 (by lia) ih
theorem aHr (hA:X.A.units + 60 < cLine):OpR X (compareOp .Eq) (rEqS X.K false):=by
 intro pins s σ H x y u v Q I ru rv h
 obtain ⟨ds,es,h,hd,q⟩:=h
 exact (aFt I hA ru rv h hd).1 X.prog X.w X.xe _ ⟨.bl (eqDs ds es),H,I,rfl,q⟩
theorem aFu (hA:X.A.units + 60 < cLine):OpR X (compareOp .NotEq) (rEqS X.K true):=by
 intro pins s σ H x y u v Q I ru rv h
 obtain ⟨ds,es,h,hd,q⟩:=h
 exact (aFt I hA ru rv h hd).2 X.prog X.w X.xe _ ⟨.bl (!eqDs ds es),H,I,rfl,q⟩
end
end L2
namespace L2
open PySem PySem.Spec PyProof.Rows
section
variable {X:Cx} {pos:Pos}
theorem hu60 {k:Nat} {A:Around} (hr:Room k A):A.units + 60 < cLine:=by have:=hr.units; lia
noncomputable def jy (XN:List Str) (xn:List (Str×NameKind)) (N:List Str) (cn:List (Str×NameKind)):List (Option Nat)→Nat→Bool
 | [],_=>true
 | none :: r,i=>jy XN xn N cn r (i + 1)
 | some j :: r,i=>(match N[i]? with
  | some x=>XN[j]? == some x && (xn.lookup x == some .cell || xn.lookup x == some .free) && cn.lookup x == some .free
  | none=>false) && jy XN xn N cn r (i + 1)
theorem qt {XN:List Str} {xn:List (Str×NameKind)} {N:List Str} {cn:List (Str×NameKind)}:∀ {mp:List (Option Nat)} {k:Nat},jy XN xn N cn mp k=true→∀ (i j:Nat),mp[i]?=some (some j)→∃ x,N[k + i]?=some x∧XN[j]?=some x∧(xn.lookup x=some .cell∨xn.lookup x=some .free)∧cn.lookup x=some .free
 | [],k,h,i,j,e=>by cases e
 | none :: r,k,h,0,j,e=>by cases e
 | none :: r,k,h,i + 1,j,e=>by
  have:=qt (mp:=r) (k:=k + 1) h i j (by simpa using e)
  rw [show k + (i + 1)=k + 1 + i by lia]; exact this
 | some m :: r,k,h,0,j,e=>by
  cases e
  unfold jy at h
  rw [Bool.and_eq_true] at h
  have h1:=h.1
  cases en:N[k]? with
  | none=>rw [en] at h1; cases h1
  | some x =>
   rw [en] at h1
   simp only [Bool.and_eq_true,Bool.or_eq_true,beq_iff_eq] at h1
   exact ⟨x,rfl,h1.1.1,h1.1.2,h1.2⟩
 | some m :: r,k,h,i + 1,j,e=>by
  unfold jy at h
  rw [Bool.and_eq_true] at h
  have:=qt (mp:=r) (k:=k + 1) h.2 i j (by simpa using e)
  rw [show k + (i + 1)=k + 1 + i by lia]; exact this
theorem cs_of {N:List Str} {scope:Scope} (mp:List (Option Nat)) (h1:scope.kind=.function) (h2:∀ y∈scope.names,y.2≠.cell) (h3:∀ y∈scope.names,y.2=.local→scope.names.lookup y.1=some .local) (h4:mp.length=N.length)
  (h5:jy X.N X.env.scope.names N scope.names mp 0=true):CompScope X N mp scope :=
 ⟨h1,h2,h3,h4,fun i j e=>by
  obtain ⟨x,a,b,c,d⟩:=qt h5 i j e
  exact ⟨x,by simpa using a,b,c,d⟩⟩
noncomputable def NextC (Pv:Nat→List V→St→Hp→Prop) (D:Addr) (i:Nat):St→Hp→Prop:=fun σ' H'=>∃ ys,ys.length≤i + 1∧Pv (i + 1) ys σ' H'∧H' D=some (.lst ys)
theorem jz {K:PySem.W.Frag} {a:Addr} {xs:List V} {H1:Hp} {D:Addr} {σ0:St} {g:TG} {tt:TT} {te:TE} {R:Hp→Prop}
  (Pv:Nat→List V→St→Hp→Prop) (hl:∀ i ys σ H2,Pv i ys σ H2→SqL K H2 a xs) (h0:Pv 0 [] σ0 (upd H1 D (.lst [])))
  (hs:∀ i x ys σ H2,xs[i]?=some x→ys.length≤i→Pv i ys σ H2→H2 D=some (.lst ys)→g x σ H2 fun σ3 H3=>tt σ3 H3 fun b H4=>if b=true then te σ3 H4 fun y H5=>∃ zs,H5 D=some (.lst zs)∧zs.length < sizeLine∧NextC Pv D i σ3 (upd H5 D (.lst (zs++[y]))) else NextC Pv D i σ3 H4)
  (hd:∀ ys σ H2,Pv xs.length ys σ H2→H2 D=some (.lst ys)→R H2) :
  ∃ W:Nat→Nat→St→Hp→Prop,(∃ m,W 0 m σ0 (upd H1 D (.lst [])))∧∀ i m σ2 H2,W i m σ2 H2 →
  ((Itl K a).stop i H2∧R H2)∨((Itl K a).go i H2∧∃ N:St→Hp→Prop,(∀ σ' H',N σ' H'→∃ m',m' < m∧W (i + 1) m' σ' H')∧∀ x H',(Itl K a).yld i H2 x H'→g x σ2 H' fun σ3 H3=>tt σ3 H3 fun b H4 =>
   if b=true then te σ3 H4 fun y H5=>∃ xs,H5 D=some (.lst xs)∧xs.length < sizeLine∧N σ3 (upd H5 D (.lst (xs++[y]))) else N σ3 H4):=by
 refine ⟨fun i m σ H'=>m=xs.length - i∧i≤xs.length∧∃ ys,ys.length≤i∧Pv i ys σ H'∧H' D=some (.lst ys),⟨xs.length,by simp,Nat.zero_le _,[],Nat.le_refl _,h0,zB⟩,?_⟩
 rintro i m σ2 H2 ⟨rfl,hi,ys,hy,p,e⟩
 have q:=hl i ys σ2 H2 p
 by_cases hlt:i < xs.length
 ·refine .inr ⟨⟨xs,xs[i],q,by simp [hlt]⟩,NextC Pv D i,fun σ' H' ⟨ys',l',p',e'⟩=>⟨xs.length - (i + 1),by lia,rfl,hlt,ys',l',p',e'⟩,fun x' H' y=>?_⟩
  obtain ⟨e1,y⟩:=y
  subst e1
  exact hs i x' ys σ2 _ (y xs q) hy p e
 ·have ei:i=xs.length:=by lia
  subst ei
  exact .inl ⟨⟨xs,q,Nat.le_refl _⟩,hd ys σ2 H2 p e⟩
theorem aEU {K:PySem.W.Frag} {a:Addr} {xs:List V} {H1:Hp} {D:Addr} {σ0:St} {g:TG} {tt:TT} {te:TE} {R:Hp→Prop}
  (Pv:Nat→List V→St→Hp→Prop) (hl:∀ i ys σ H2,Pv i ys σ H2→SqT K H2 a xs) (h0:Pv 0 [] σ0 (upd H1 D (.lst [])))
  (hs:∀ i x ys σ H2,xs[i]?=some x→ys.length≤i→Pv i ys σ H2→H2 D=some (.lst ys)→g x σ H2 fun σ3 H3=>tt σ3 H3 fun b H4=>if b=true then te σ3 H4 fun y H5=>∃ zs,H5 D=some (.lst zs)∧zs.length < sizeLine∧NextC Pv D i σ3 (upd H5 D (.lst (zs++[y]))) else NextC Pv D i σ3 H4)
  (hd:∀ ys σ H2,Pv xs.length ys σ H2→H2 D=some (.lst ys)→R H2) :
  ∃ W:Nat→Nat→St→Hp→Prop,(∃ m,W 0 m σ0 (upd H1 D (.lst [])))∧∀ i m σ2 H2,W i m σ2 H2 →
  ((Itt K a).stop i H2∧R H2)∨((Itt K a).go i H2∧∃ N:St→Hp→Prop,(∀ σ' H',N σ' H'→∃ m',m' < m∧W (i + 1) m' σ' H')∧∀ x H',(Itt K a).yld i H2 x H'→g x σ2 H' fun σ3 H3=>tt σ3 H3 fun b H4 =>
   if b=true then te σ3 H4 fun y H5=>∃ xs,H5 D=some (.lst xs)∧xs.length < sizeLine∧N σ3 (upd H5 D (.lst (xs++[y]))) else N σ3 H4):=by
 refine ⟨fun i m σ H'=>m=xs.length - i∧i≤xs.length∧∃ ys,ys.length≤i∧Pv i ys σ H'∧H' D=some (.lst ys),⟨xs.length,by simp,Nat.zero_le _,[],Nat.le_refl _,h0,zB⟩,?_⟩
 rintro i m σ2 H2 ⟨rfl,hi,ys,hy,p,e⟩
 have q:=hl i ys σ2 H2 p
 by_cases hlt:i < xs.length
 ·refine .inr ⟨⟨xs,xs[i],q,by simp [hlt]⟩,NextC Pv D i,fun σ' H' ⟨ys',l',p',e'⟩=>⟨xs.length - (i + 1),by lia,rfl,hlt,ys',l',p',e'⟩,fun x' H' y=>?_⟩
  obtain ⟨e1,y⟩:=y
  subst e1
  exact hs i x' ys σ2 _ (y xs q) hy p e
 ·have ei:i=xs.length:=by lia
  subst ei
  exact .inl ⟨⟨xs,q,Nat.le_refl _⟩,hd ys σ2 H2 p e⟩
theorem aF0 {lo:Int} {n:Nat} {H1:Hp} {D:Addr} {σ0:St} {g:TG} {tt:TT} {te:TE} {R:Hp→Prop}
  (Pv:Nat→List V→St→Hp→Prop) (h0:Pv 0 [] σ0 (upd H1 D (.lst [])))
  (hs:∀ i ys σ H2,i < n→ys.length≤i→Pv i ys σ H2→H2 D=some (.lst ys)→g (.int (lo + i)) σ H2 fun σ3 H3=>tt σ3 H3 fun b H4=>if b=true then te σ3 H4 fun y H5=>∃ zs,H5 D=some (.lst zs)∧zs.length < sizeLine∧NextC Pv D i σ3 (upd H5 D (.lst (zs++[y]))) else NextC Pv D i σ3 H4)
  (hd:∀ ys σ H2,Pv n ys σ H2→H2 D=some (.lst ys)→R H2) :
  ∃ W:Nat→Nat→St→Hp→Prop,(∃ m,W 0 m σ0 (upd H1 D (.lst [])))∧∀ i m σ2 H2,W i m σ2 H2 →
  ((Itr lo n).stop i H2∧R H2)∨((Itr lo n).go i H2∧∃ N:St→Hp→Prop,(∀ σ' H',N σ' H'→∃ m',m' < m∧W (i + 1) m' σ' H')∧∀ x H',(Itr lo n).yld i H2 x H'→g x σ2 H' fun σ3 H3=>tt σ3 H3 fun b H4 =>
   if b=true then te σ3 H4 fun y H5=>∃ xs,H5 D=some (.lst xs)∧xs.length < sizeLine∧N σ3 (upd H5 D (.lst (xs++[y]))) else N σ3 H4):=by
 refine ⟨fun i m σ H'=>m=n - i∧i≤n∧∃ ys,ys.length≤i∧Pv i ys σ H'∧H' D=some (.lst ys),⟨n,by simp,Nat.zero_le _,[],Nat.le_refl _,h0,zB⟩,?_⟩
 rintro i m σ2 H2 ⟨rfl,hi,ys,hy,p,e⟩
 by_cases hlt:i < n
 ·refine .inr ⟨hlt,NextC Pv D i,fun σ' H' ⟨ys',l',p',e'⟩=>⟨n - (i + 1),by lia,rfl,hlt,ys',l',p',e'⟩,fun x' H' y=>?_⟩
  obtain ⟨e1,y⟩:=y
  subst e1 y
  exact hs i ys σ2 _ hlt hy p e
 ·have ei:i=n:=by lia
  subst ei
  exact .inl ⟨Nat.le_refl _,hd ys σ2 H2 p e⟩
end
end L2
namespace L2
open PySem PySem.Spec PyProof.Rows
section
variable {prog:Program} {w:World} {A:Around} {E:Value→Shared→Prop} {s:Shared}
theorem yq {ti tt:Addr} {k:Nat} {vs:Array Value} {v:Value} {Q:Value→Shared→Prop} (hp:s.heap.IsTupleIter ti tt k) (hc:s.heap.IsTuple tt vs) (hv:vs[k]?=some v)
  (hq:∀ g,g.IsTupleIter ti tt (k + 1)→Heap.SameBut ti s.heap g→Q v { s with heap:=g }):wpAny (model prog w) A (Builtin.SmallTypes.nextOf (.ref ti)) Q E s:=by
 obtain ⟨ob,e0,e1,e2⟩:=id hp
 obtain ⟨oc,c0,_,nc,c2⟩:=hc
 unfold Builtin.SmallTypes.nextOf
 refine wpAny_bind (wpAny_callSpecial?_slot (name:=Str.ofString "__next__") hp.typeIs F.slot_tuple_iterator_next (wpAny_call_entry F.slot_tuple_iterator_next hp.typeIs F.entry_tuple_iterator_next ?_ (F.args_tuple_iterator_next_1 _)))
 show wpAny _ _ (field (.ref ti) 0 >>= _) _ _ s
 refine wpAny_bind (wpAny_field e0 e2 (x:=.ref tt) rfl ?_)
 show wpAny _ _ (if (Value.ref tt == Value.none)=true then _ else _) _ _ s
 rw [if_neg (show ¬ ((Value.ref tt == Value.none)=true) from Bool.false_ne_true)]
 show wpAny _ _ (field (.ref ti) 1 >>= _) _ _ s
 refine wpAny_bind (wpAny_field e0 e2 (x:=.int k 0) rfl ?_)
 show wpAny _ _ (seqItems? (.ref tt) >>= _) _ _ s
 refine wpAny_bind (wpAny_seqItems c0 c2 ?_)
 simp only [Int.toNat_natCast,hv]
 refine wpAny_bind (wpAny_setField e0 e2 (by simp) (wpAny_pure ⟨v,rfl,wpAny_pure (hq _ ?_ (Heap.SameBut.update ..))⟩))
 exact ⟨_,Heap.get?_update_self _ e0 (Obj.isFreed_of_fields (Obj.data_mapFields e2 _)),(Obj.cls_mapFields ..).trans e1,by rw [Obj.data_mapFields e2]; simp [rawInt]⟩
theorem jP {ti tt:Addr} {k:Nat} {vs:Array Value} {Q:Value→Shared→Prop} (hh:A.handled=none) (hp:s.heap.IsTupleIter ti tt k) (hc:s.heap.IsTuple tt vs) (hv:vs[k]?=none)
  (hE:∀ g e,Heap.ExtBut ti s.heap g→(∃ o,g.get? e=some o∧o.cls=.type "StopIteration")→E (.ref e) { s with heap:=g }):wpAny (model prog w) A (Builtin.SmallTypes.nextOf (.ref ti)) Q E s:=by
 obtain ⟨ob,e0,e1,e2⟩:=id hp
 obtain ⟨oc,c0,_,nc,c2⟩:=hc
 unfold Builtin.SmallTypes.nextOf
 refine wpAny_bind (wpAny_callSpecial?_slot (name:=Str.ofString "__next__") hp.typeIs F.slot_tuple_iterator_next (wpAny_call_entry F.slot_tuple_iterator_next hp.typeIs F.entry_tuple_iterator_next ?_ (F.args_tuple_iterator_next_1 _)))
 show wpAny _ _ (field (.ref ti) 0 >>= _) _ _ s
 refine wpAny_bind (wpAny_field e0 e2 (x:=.ref tt) rfl ?_)
 show wpAny _ _ (if (Value.ref tt == Value.none)=true then _ else _) _ _ s
 rw [if_neg (show ¬ ((Value.ref tt == Value.none)=true) from Bool.false_ne_true)]
 show wpAny _ _ (field (.ref ti) 1 >>= _) _ _ s
 refine wpAny_bind (wpAny_field e0 e2 (x:=.int k 0) rfl ?_)
 show wpAny _ _ (seqItems? (.ref tt) >>= _) _ _ s
 refine wpAny_bind (wpAny_seqItems c0 c2 ?_)
 simp only [Int.toNat_natCast,hv]
 refine wpAny_bind (wpAny_rule (wpAny_bind (wpAny_setField e0 e2 (by simp) ?_)))
 show wpAny _ _ (newExc (.type "StopIteration") [] >>= _) _ _ _
 refine wpAny_bind ?_
 simp only [newExc,newTuple]
 refine wpAny_bind (wpAny_newObj_type ?_ (by size_fits))
 refine wpAny_bind (m:=firstArgMember _ _) (wpAny_of_eq (a:=Value.none) (by first | rfl | (simp only [firstArgMember]; done)) ?_)
 refine wpAny_newObj_type ?_ (by size_fits)
 simp only [raiseNew]
 refine wpAny_bind (wpAny_handled ?_)
 first | rw [show A.in1.handled=none from hh] | rw [hh]
 refine wpAny_bind (wpAny_pure (wpAny_throw ?_))
 exact hE _ _ (((Heap.SameBut.update ..).extBut.push _).push _) ⟨_,Heap.get?_push_size _ rfl,rfl⟩
structure ZT (h:Heap) (z ti to i j a b:Addr) (f0:Value) (k:Nat):Prop where
 zz:IsZip h z ti to f0
 pi:IsPair h ti (.ref i) (.ref j)
 po:∃ x y,IsPair h to x y
 ia:h.IsTupleIter i a k
 jb:h.IsTupleIter j b k
theorem aFv {z ti to i j a b:Addr} {k:Nat} {xs ys:Array Value} {x y:Value} {Q:Value→Shared→Prop} (D:ZipApart z ti to i j a b) (Z:ZT s.heap z ti to i j a b .none k)
  (ha:s.heap.IsTuple a xs) (hb:s.heap.IsTuple b ys) (hx:xs[k]?=some x) (hy:ys[k]?=some y)
  (hq:∀ g,ZT g z ti to i j a b (rawInt s.heap.objs.size) (k + 1)→IsPair g s.heap.objs.size x y→g.objs.size=s.heap.objs.size + 1 →
   (∀ c o,c≠z→c≠to→c≠i→c≠j→s.heap.get? c=some o→g.get? c=some o)→Q (.ref s.heap.objs.size) { s with heap:=g }) :
  wpAny (model prog w) A (Builtin.«zip.__next__» ⟨[.ref z],[]⟩) (fun fin s'=>∃ v,fin=.done (.ret v)∧Q v s') E s:=by
 obtain ⟨Zz,Zi,⟨u,v,Zo⟩,Za,Zb⟩:=Z
 show wpAny _ _ (field (.ref z) 2 >>= _) _ _ _
 refine wpAny_bind (wpAny_field Zz rfl (x:=.bool false) rfl ?_)
 show wpAny _ _ (field (.ref z) 3 >>= _) _ _ _
 refine wpAny_bind (wpAny_field Zz rfl (x:=.ref ti) rfl (wpAny_bind (wpAny_seqItems Zi rfl ?_)))
 show wpAny _ _ (Builtin.SmallTypes.ownedTupleIsFree (.ref z) >>= _) _ _ _
 refine wpAny_bind ?_
 unfold Builtin.SmallTypes.ownedTupleIsFree
 refine wpAny_bind (wpAny_field Zz rfl (x:=.none) rfl (wpAny_pure ?_))
 simp only [if_true]
 refine wpAny_bind (wpAny_rule (wpAny_bind (wpAny_field Zz rfl (x:=.ref to) rfl (wpAny_bind (wpAny_setField_rec Zz (by simp) fun g1 z1 b1=>?_)))))
 replace z1:IsZip g1 z ti to .ellipsis:=z1
 refine wpAny_bind ?_
 simp only [List.zipIdx_cons,List.zipIdx_nil,List.forIn_cons,List.forIn_nil]
 refine wpAny_bind (wpAny_bind (wpAny_onRaise ?_))
 show wpAny _ _ (Builtin.SmallTypes.nextOf (.ref i) >>= _) _ _ _
 refine wpAny_bind (yq (Za.extBut b1.extBut D.i1z) (ha.extBut b1.extBut D.l1z) hx fun g2 p2 b2=>wpAny_pure ?_)
 have o2:IsPair g2 to u v:=b2.extBut _ _ D.TOi1 (b1.extBut _ _ D.TOz Zo)
 refine wpAny_bind (wpAny_seqItems o2 rfl (wpAny_bind (wpAny_updateSeq_pair o2 fun g3 o3 b3=>?_)))
 replace o3:IsPair g3 to x v:=o3
 refine wpAny_bind (wpAny_letGo (wpAny_pure (wpAny_bind (wpAny_bind (wpAny_onRaise ?_)))))
 show wpAny _ _ (Builtin.SmallTypes.nextOf (.ref j) >>= _) _ _ _
 refine wpAny_bind (yq (((Zb.extBut b1.extBut D.i2z).extBut b2.extBut D.i12.symm).extBut b3.extBut D.TOi2.symm) (((hb.extBut b1.extBut D.l2z).extBut b2.extBut D.l2i1).extBut b3.extBut D.l2TO) hy fun g4 p4 b4=>wpAny_pure ?_)
 have o4:IsPair g4 to x v:=b4.extBut _ _ D.TOi2 o3
 refine wpAny_bind (wpAny_seqItems o4 rfl (wpAny_bind (wpAny_updateSeq_pair o4 fun g5 o5 b5=>?_)))
 replace o5:IsPair g5 to x y:=o5
 refine wpAny_bind (wpAny_letGo (wpAny_pure (wpAny_pure (wpAny_bind (wpAny_seqItems o5 rfl (wpAny_bind (wpAny_newTuple ?_)))))))
 have sz:g5.objs.size=s.heap.objs.size:=by rw [b5.1,b4.1,b3.1,b2.1,b1.1]
 have z5:IsZip g5 z ti to .ellipsis:=b5.extBut _ _ D.TOz.symm (b4.extBut _ _ D.i2z.symm (b3.extBut _ _ D.TOz.symm (b2.extBut _ _ D.i1z.symm z1)))
 have keep5:∀ c o,c≠z→c≠to→c≠i→c≠j→s.heap.get? c=some o→g5.get? c=some o:=fun c o n1 n2 n3 n4 e=>b5.extBut _ _ n2 (b4.extBut _ _ n4 (b3.extBut _ _ n2 (b2.extBut _ _ n3 (b1.extBut _ _ n1 e))))
 have pa5:g5.IsTupleIter i a (k + 1):=((p2.extBut b3.extBut D.TOi1.symm).extBut b4.extBut D.i12).extBut b5.extBut D.TOi1.symm
 have pb5:g5.IsTupleIter j b (k + 1):=p4.extBut b5.extBut D.TOi2.symm
 have zlt:z < g5.objs.size:=Heap.lt_size z5
 show wpAny _ _ (Builtin.SmallTypes.ownedTupleHandOut (.ref z) (.ref g5.objs.size) >>= _) _ _ _
 refine wpAny_bind ?_
 unfold Builtin.SmallTypes.ownedTupleHandOut
 have z6:IsZip (g5.push { cls:=.type "tuple",data:=.seq #[x,y] }) z ti to .ellipsis:=Heap.get?_push_of_some _ z5
 refine wpAny_bind (wpAny_setField_rec z6 (by simp) fun g7 z7 b7=>?_)
 replace z7:IsZip g7 z ti to (rawInt g5.objs.size):=z7
 refine wpAny_setField_rec z7 (by simp) fun g8 z8 b8=>?_
 replace z8:IsZip g8 z ti to (rawInt g5.objs.size):=z8
 have keep8:∀ c o,c≠z→g5.get? c=some o→g8.get? c=some o:=fun c o n e=>b8.extBut _ _ n (b7.extBut _ _ n (Heap.get?_push_of_some _ e))
 have new8:IsPair g8 g5.objs.size x y:=b8.extBut _ _ (Nat.ne_of_gt zlt) (b7.extBut _ _ (Nat.ne_of_gt zlt) (Heap.get?_push_size _ rfl))
 have sz8:g8.objs.size=g5.objs.size + 1:=by rw [b8.1,b7.1,Heap.size_push]
 rw [sz] at z8 new8 sz8
 refine wpAny_pure ⟨_,rfl,?_⟩
 show Q (.ref g5.objs.size) _
 rw [sz]
 exact hq g8 ⟨z8,keep8 _ _ D.TIz (keep5 _ _ D.TIz D.TITO D.TIi1 D.TIi2 Zi),⟨x,y,keep8 _ _ D.TOz o5⟩,pa5.at fun o e=>keep8 _ o D.i1z e,pb5.at fun o e=>keep8 _ o D.i2z e⟩ new8 sz8 fun c o n1 n2 n3 n4 e=>keep8 c o n1 (keep5 c o n1 n2 n3 n4 e)
theorem aFw {z ti to i j a b:Addr} {k:Nat} {xs ys:Array Value} {Q:PySem.Fin→Shared→Prop} (hh:A.handled=none) (D:ZipApart z ti to i j a b) (Z:ZT s.heap z ti to i j a b .none k)
  (ha:s.heap.IsTuple a xs) (hb:s.heap.IsTuple b ys) (hend:xs[k]?=none∨ys[k]?=none)
  (hE:∀ g e,(∀ c o,c≠z→c≠to→c≠i→c≠j→s.heap.get? c=some o→g.get? c=some o)→(∃ o,g.get? e=some o∧o.cls=.type "StopIteration")→E (.ref e) { s with heap:=g }) :
  wpAny (model prog w) A (Builtin.«zip.__next__» ⟨[.ref z],[]⟩) Q E s:=by
 obtain ⟨Zz,Zi,⟨u,v,Zo⟩,Za,Zb⟩:=Z
 show wpAny _ _ (field (.ref z) 2 >>= _) _ _ _
 refine wpAny_bind (wpAny_field Zz rfl (x:=.bool false) rfl ?_)
 show wpAny _ _ (field (.ref z) 3 >>= _) _ _ _
 refine wpAny_bind (wpAny_field Zz rfl (x:=.ref ti) rfl (wpAny_bind (wpAny_seqItems Zi rfl ?_)))
 show wpAny _ _ (Builtin.SmallTypes.ownedTupleIsFree (.ref z) >>= _) _ _ _
 refine wpAny_bind ?_
 unfold Builtin.SmallTypes.ownedTupleIsFree
 refine wpAny_bind (wpAny_field Zz rfl (x:=.none) rfl (wpAny_pure ?_))
 simp only [if_true]
 refine wpAny_bind (wpAny_rule (wpAny_bind (wpAny_field Zz rfl (x:=.ref to) rfl (wpAny_bind (wpAny_setField_rec Zz (by simp) fun g1 z1 b1=>?_)))))
 replace z1:IsZip g1 z ti to .ellipsis:=z1
 refine wpAny_bind ?_
 simp only [List.zipIdx_cons,List.zipIdx_nil,List.forIn_cons,List.forIn_nil]
 refine wpAny_bind (wpAny_bind (wpAny_onRaise ?_))
 show wpAny _ _ (Builtin.SmallTypes.nextOf (.ref i) >>= _) _ _ _
 cases hx:xs[k]? with
 | none =>
  refine wpAny_bind (jP hh (Za.extBut b1.extBut D.i1z) (ha.extBut b1.extBut D.l1z) hx fun g2 e b2 ⟨oe,q1,q2⟩=>?_)
  have z2:IsZip g2 z ti to .ellipsis:=b2 _ _ D.i1z.symm z1
  have ez:e≠z:=fun x=>by
   subst x
   rw [z2] at q1
   cases q1
   simp at q2
  exact wpAny_setField_rec z2 (by simp) fun g3 _ b3=>hE g3 e (fun c o n1 _ n3 _ x=>b3.extBut _ _ n1 (b2 _ _ n3 (b1.extBut _ _ n1 x))) ⟨oe,b3.extBut _ _ ez q1,q2⟩
 | some x =>
  have hy:ys[k]?=none:=hend.elim (fun h=>by rw [hx] at h; cases h) id
  refine wpAny_bind (yq (Za.extBut b1.extBut D.i1z) (ha.extBut b1.extBut D.l1z) hx fun g2 p2 b2=>wpAny_pure ?_)
  have o2:IsPair g2 to u v:=b2.extBut _ _ D.TOi1 (b1.extBut _ _ D.TOz Zo)
  refine wpAny_bind (wpAny_seqItems o2 rfl (wpAny_bind (wpAny_updateSeq_pair o2 fun g3 o3 b3=>wpAny_bind (wpAny_letGo (wpAny_pure (wpAny_bind (wpAny_bind (wpAny_onRaise ?_))))))))
  show wpAny _ _ (Builtin.SmallTypes.nextOf (.ref j) >>= _) _ _ _
  refine wpAny_bind (jP hh (((Zb.extBut b1.extBut D.i2z).extBut b2.extBut D.i12.symm).extBut b3.extBut D.TOi2.symm) (((hb.extBut b1.extBut D.l2z).extBut b2.extBut D.l2i1).extBut b3.extBut D.l2TO) hy fun g4 e b4 ⟨oe,q1,q2⟩=>?_)
  have z4:IsZip g4 z ti to .ellipsis:=b4 _ _ D.i2z.symm (b3.extBut _ _ D.TOz.symm (b2.extBut _ _ D.i1z.symm z1))
  have ez:e≠z:=fun x=>by
   subst x
   rw [z4] at q1
   cases q1
   simp at q2
  exact wpAny_setField_rec z4 (by simp) fun g5 _ b5=>hE g5 e (fun c o n1 n2 n3 n4 x=>b5.extBut _ _ n1 (b4 _ _ n4 (b3.extBut _ _ n2 (b2.extBut _ _ n3 (b1.extBut _ _ n1 x))))) ⟨oe,b5.extBut _ _ ez q1,q2⟩
end
section
variable {prog:Program} {w:World} {A:Around} {E:Value→Shared→Prop} {s:Shared}
noncomputable abbrev zt1 (h:Heap) (a:Addr):Heap:=h.push { cls:=.type "tuple_iterator",data:=.fields #[.ref a,.int 0 0] }
noncomputable abbrev zt2 (h:Heap) (a b:Addr):Heap:=(zt1 h a).push { cls:=.type "tuple_iterator",data:=.fields #[.ref b,.int 0 0] }
noncomputable abbrev zt3 (h:Heap) (a b:Addr):Heap:=(zt2 h a b).push { cls:=.type "tuple",data:=.seq #[.ref h.objs.size,.ref (zt1 h a).objs.size] }
noncomputable abbrev zt4 (h:Heap) (a b:Addr):Heap:=(zt3 h a b).push { cls:=.type "tuple",data:=.seq #[.none,.none] }
noncomputable abbrev zt5 (h:Heap) (a b:Addr):Heap:=(zt4 h a b).push { cls:=.type "zip",data:=.fields #[.none,.bool false,.bool false,.ref (zt2 h a b).objs.size,.ref (zt3 h a b).objs.size] }
theorem aF1 (a b:Addr) (xs ys:Array Value):Meets (Builtin.«zip.__new__» ⟨[.type "zip",.ref a,.ref b],[]⟩)
  (fun _ R s=>s.heap.IsTuple a xs∧s.heap.IsTuple b ys∧R (.ok (.ret (.ref (zt4 s.heap a b).objs.size))) { s with heap:=zt5 s.heap a b }) :=
 .of_wp fun prog w A R s h=>by
  obtain ⟨hp,g,d,tk,os⟩:=s
  obtain ⟨h1,h2,h⟩:=h
  have hsub:=sub_zip
  have t1:Heap.IsTuple (Shared.heap ⟨hp,g,d,tk,os⟩) a xs:=h1
  have t2:Heap.IsTuple (Shared.heap ⟨hp.push { cls:=.type "tuple_iterator",data:=.fields #[.ref a,.int 0 0] },g,d,tk,os⟩) b ys:=Heap.IsTuple.push h2 _
  wp_walk using wpAny_pyIter_tuple t1,wpAny_pyIter_tuple t2
  exact ⟨_,rfl,h⟩
theorem aFx {a b:Addr} {xs ys:Array Value} {Q:Value→Shared→Prop} (ha:s.heap.IsTuple a xs) (hb:s.heap.IsTuple b ys)
  (h:∀ g,ZT g (s.heap.objs.size + 4) (s.heap.objs.size + 2) (s.heap.objs.size + 3) s.heap.objs.size (s.heap.objs.size + 1) a b .none 0→g.objs.size=s.heap.objs.size + 5→(∀ c o,s.heap.get? c=some o→g.get? c=some o) →
   Q (.ref (s.heap.objs.size + 4)) { s with heap:=g }):wpAny (model prog w) A (call (.type "zip") [.ref a,.ref b]) Q E s:=by
 refine callType_new F.called_zip (by decide) (F.typeCall_zip_2 _ _) (F.newCall_zip_2 _ _) (fun obj=>F.args_object_init_3 obj _ _) F.entry_zip_new (aF1 a b xs ys) ⟨ha,hb,?_⟩
 have z1:(zt1 s.heap a).objs.size=s.heap.objs.size + 1:=Heap.size_push ..
 have z2:(zt2 s.heap a b).objs.size=s.heap.objs.size + 2:=by rw [Heap.size_push,z1]
 have z3:(zt3 s.heap a b).objs.size=s.heap.objs.size + 3:=by rw [Heap.size_push,z2]
 have z4:(zt4 s.heap a b).objs.size=s.heap.objs.size + 4:=by rw [Heap.size_push,z3]
 have z5:(zt5 s.heap a b).objs.size=s.heap.objs.size + 5:=by rw [Heap.size_push,z4]
 have g5:(zt5 s.heap a b).get? (zt4 s.heap a b).objs.size=some _:=Heap.get?_push_size _ rfl
 have g4:(zt5 s.heap a b).get? (zt3 s.heap a b).objs.size=some _:=Heap.get?_push_of_some _ (Heap.get?_push_size _ rfl)
 have g3:(zt5 s.heap a b).get? (zt2 s.heap a b).objs.size=some _:=Heap.get?_push_of_some _ (Heap.get?_push_of_some _ (Heap.get?_push_size _ rfl))
 have g2:(zt5 s.heap a b).get? (zt1 s.heap a).objs.size=some _:=Heap.get?_push_of_some _ (Heap.get?_push_of_some _ (Heap.get?_push_of_some _ (Heap.get?_push_size _ rfl)))
 have g1:(zt5 s.heap a b).get? s.heap.objs.size=some _:=Heap.get?_push_of_some _ (Heap.get?_push_of_some _ (Heap.get?_push_of_some _ (Heap.get?_push_of_some _ (Heap.get?_push_size _ rfl))))
 show _∧_
 rw [z2,z3,z4] at g5
 rw [z1,z2] at g3
 rw [z3] at g4
 rw [z1] at g2
 rw [z4]
 exact ⟨⟨_,g5,rfl⟩,h _ ⟨g5,g3,⟨_,_,g4⟩,⟨_,g1,rfl,rfl⟩,⟨_,g2,rfl,rfl⟩⟩ z5 fun c o x=>Heap.get?_push_of_some _ (Heap.get?_push_of_some _ (Heap.get?_push_of_some _ (Heap.get?_push_of_some _ (Heap.get?_push_of_some _ x))))⟩
end
noncomputable def Itz (K:PySem.W.Frag) (p q:Addr):It :=
  ⟨fun i H=>∃ xs ys x y,SqT K H p xs∧SqT K H q ys∧xs[i]?=some x∧ys[i]?=some y,
   fun i H v H'=>∃ T x y,v=.ref T∧H T=none∧H'=upd H T (.tup [x,y])∧∀ xs ys,SqT K H p xs→SqT K H q ys→xs[i]?=some x∧ys[i]?=some y,
   fun i H=>∃ xs ys,SqT K H p xs∧SqT K H q ys∧(xs.length≤i∨ys.length≤i)⟩
theorem aHG {P:Program} {w:World} {K:PySem.W.Frag} {es:List Expr} {kk:Nat} {pos:Pos} (p q z ti to i j:Addr) (D:ZipApart z ti to i j p q) :
  Turn P w K (.Tuple es kk pos) (Itz K p q) [z,ti,to,i,j] z (fun k h=>ZT h z ti to i j p q .none k) where
 mem:=by simp
 obj:=fun k h st b hb=>by
  obtain ⟨a1,a2,⟨u,v,a3⟩,⟨o4,a4,c4,d4⟩,⟨o5,a5,c5,d5⟩⟩:=st
  simp only [List.mem_cons,List.not_mem_nil,or_false] at hb
  rcases hb with rfl | rfl | rfl | rfl | rfl
  ·exact ⟨_,a1,fun v e=>by cases e⟩
  ·exact ⟨_,a2,fun v e=>by cases e⟩
  ·exact ⟨_,a3,fun v e=>by cases e⟩
  ·exact ⟨_,a4,fun v e=>by rw [d4] at e; cases e⟩
  ·exact ⟨_,a5,fun v e=>by rw [d5] at e; cases e⟩
 keep:=fun k h h' st kp=>by
  obtain ⟨a1,a2,⟨u,v,a3⟩,a4,a5⟩:=st
  exact ⟨kp z (by simp) _ a1,kp ti (by simp) _ a2,⟨u,v,kp to (by simp) _ a3⟩,a4.at fun o e=>kp i (by simp) o e,a5.at fun o e=>kp j (by simp) o e⟩
 item:=by
  intro X hP hw hK hc k pins s σ H E I hf st hg
  subst hP hw hK
  obtain ⟨xs,ys,x,y,hp,hq,hx,hy⟩:=hg
  obtain ⟨us,ru,pu,_⟩:=I.tuple hp
  obtain ⟨vs,rv,pv,_⟩:=I.tuple hq
  obtain ⟨u,eu,r1⟩:=ru.get hx
  obtain ⟨v,ev,r2⟩:=rv.get hy
  have hT:s.TypeIs (.ref z) "zip":=⟨_,st.zz,rfl⟩
  unfold pyNext
  refine wpAny_bind (wpAny_attempt (wpAny_callSpecial?_slot (name:=Str.ofString "__next__") hT F.slot_zip_next (wpAny_call_entry F.slot_zip_next hT F.entry_zip_next (aFv D st (show s.heap.IsTuple p us.toArray from pu) (show s.heap.IsTuple q vs.toArray from pv) (by simpa using eu) (by simpa using ev) fun g Zg new sz kp=>wpAny_pure ?_) (F.args_zip_next_1 _))))
  refine ⟨_,rfl,?_⟩
  refine wpAny_letOwnedTupleGo_zip Zg.zz fun g' z' b'=>?_
  have fz:=hf z (by simp)
  have fo:=hf to (by simp)
  have fi:=hf i (by simp)
  have fj:=hf j (by simp)
  have nT:H s.heap.objs.size=none:=I.hok.fresh (Nat.le_refl _)
  have kp':∀ c o,c≠z→c≠to→c≠i→c≠j→s.heap.get? c=some o→g'.get? c=some o:=fun c o n1 n2 n3 n4 e=>b'.extBut _ _ n1 (kp c o n1 n2 n3 n4 e)
  have zne:s.heap.objs.size≠z:=Nat.ne_of_gt (Heap.lt_size st.zz)
  have new':IsPair g' s.heap.objs.size u v:=b'.extBut _ _ zne new
  have notch:∀ b,b ∉ [z,to,i,j]→b≠z∧b≠to∧b≠i∧b≠j:=fun b hb=>by simpa using hb
  have trk:∀ b o,H b=some o→b≠z∧b≠to∧b≠i∧b≠j:=fun b o e=>⟨zC e fz.1,zC e fo.1,zC e fi.1,zC e fj.1⟩
  have I1:Inv X pins σ (upd H s.heap.objs.size (.tup [x,y])) { s with heap:=g' }:=by
   refine I.step (g':=s.gens) (d':=s.drawn) (t':=s.toks) (ch:=[z,to,i,j]) (fun b hb=>?_) (fun b o _ _ hc e _=>?_) (fun b o _ _ hc e _=>?_) (fun b o hc e n=>?_) (fun b o hc e=>?_) (fun b xs e=>?_) (fun b o u e=>?_) (fun b ps e=>⟨#[],?_⟩) (fun m hm=>?_) (fun b o e=>?_) I.bare
   ·simp only [List.mem_cons,List.not_mem_nil,or_false] at hb
    rcases hb with rfl | rfl | rfl | rfl
    ·exact ⟨fz.2.2.2.1,fz.2.1,fz.2.2.2.2.1,fz.2.2.2.2.2⟩
    ·exact ⟨fo.2.2.2.1,fo.2.1,fo.2.2.2.2.1,fo.2.2.2.2.2⟩
    ·exact ⟨fi.2.2.2.1,fi.2.1,fi.2.2.2.2.1,fi.2.2.2.2.2⟩
    ·exact ⟨fj.2.2.2.1,fj.2.1,fj.2.2.2.2.1,fj.2.2.2.2.2⟩
   ·obtain ⟨n1,n2,n3,n4⟩:=notch b hc
    exact kp' b o n1 n2 n3 n4 e
   ·obtain ⟨n1,n2,n3,n4⟩:=notch b hc
    exact ⟨o.slots,kp' b o n1 n2 n3 n4 e⟩
   ·rw [zH (Nat.ne_of_lt (Heap.lt_size e))]; exact n
   ·obtain ⟨n1,n2,n3,n4⟩:=notch b hc
    exact ⟨o,kp' b o n1 n2 n3 n4 e⟩
   ·rw [zH (zC e nT)]; exact e
   ·rw [zH (zC e nT)]; exact e
   ·rw [zH (zC e nT),e]; simp
   ·obtain ⟨o,es,ep,ho,r⟩:=hm
    exact ⟨o,es,ep,kp' _ o (Ne.symm fz.2.1) (Ne.symm fo.2.1) (Ne.symm fi.2.1) (Ne.symm fj.2.1) ho,r⟩
   ·by_cases hb:b=s.heap.objs.size
    ·subst hb
     rw [zB] at e
     cases e
     exact ⟨by show 2≤sizeLine; rw [sizeLine_eq]; decide,[u,v],.cons r1 (.cons r2 .nil),⟨_,new',rfl,0,rfl⟩⟩
    ·rw [zH hb] at e
     refine (I.hok b o e).stay (fun c v' hcc r=>?_) (fun c r=>by rw [zH (zC r nT)]; exact r) fun c xs r=>by rw [zH (zC r nT)]; exact r
     rcases hcc with rfl | hcc
     ·obtain ⟨n1,n2,n3,n4⟩:=trk c o e
      exact kp' c v' n1 n2 n3 n4 r
     ·obtain ⟨n1,n2,n3,n4⟩:=trk c _ hcc
      exact kp' c v' n1 n2 n3 n4 r
  refine ⟨.ref s.heap.objs.size,_,I1,rfl,⟨_,x,y,rfl,nT,rfl,fun xs' ys' h1 h2=>?_⟩,?_,fun b hb=>?_⟩
  ·rw [I.tuple_inj h1 hp,I.tuple_inj h2 hq]
   exact ⟨hx,hy⟩
  ·obtain ⟨a1,a2,⟨c1,c2,a3⟩,a4,a5⟩:=Zg
   exact ⟨z',b'.extBut _ _ D.TIz a2,⟨c1,c2,b'.extBut _ _ D.TOz a3⟩,a4.extBut b'.extBut D.i1z,a5.extBut b'.extBut D.i2z⟩
  ·have hb':∃ o,s.heap.get? b=some o:=by
    obtain ⟨a1,a2,⟨c1,c2,a3⟩,⟨o4,a4,_⟩,⟨o5,a5,_⟩⟩:=st
    simp only [List.mem_cons,List.not_mem_nil,or_false] at hb
    rcases hb with rfl | rfl | rfl | rfl | rfl
    ·exact ⟨_,a1⟩
    ·exact ⟨_,a2⟩
    ·exact ⟨_,a3⟩
    ·exact ⟨_,a4⟩
    ·exact ⟨_,a5⟩
   obtain ⟨o,e⟩:=hb'
   rw [zH (Nat.ne_of_lt (Heap.lt_size e))]
   exact (hf b hb).1
 done:=by
  intro X hP hw hK hc k pins s σ H E I hf st hg
  subst hP hw hK
  obtain ⟨xs,ys,hp,hq,hend⟩:=hg
  obtain ⟨us,ru,pu,_⟩:=I.tuple hp
  obtain ⟨vs,rv,pv,_⟩:=I.tuple hq
  have l1:=ru.length
  have l2:=rv.length
  have hT:s.TypeIs (.ref z) "zip":=⟨_,st.zz,rfl⟩
  unfold pyNext
  refine wpAny_bind (wpAny_attempt (wpAny_callSpecial?_slot (name:=Str.ofString "__next__") hT F.slot_zip_next (wpAny_call_entry F.slot_zip_next hT F.entry_zip_next (aFw (I.ok.hd hc) D st (show s.heap.IsTuple p us.toArray from pu) (show s.heap.IsTuple q vs.toArray from pv) ?_ fun g e kp ⟨o,ho,hcl⟩=>?_) (F.args_zip_next_1 _))))
  ·rcases hend with h | h
   ·exact .inl (by simp; lia)
   ·exact .inr (by simp; lia)
  ·refine wpAny_bind (wpAny_isInstance (T:="StopIteration") (b:=true) ⟨o,ho,hcl⟩ isSubtype_stop ?_)
   refine wpAny_pure ⟨rfl,?_⟩
   have fz:=hf z (by simp)
   have fo:=hf to (by simp)
   have fi:=hf i (by simp)
   have fj:=hf j (by simp)
   have notch:∀ b,b ∉ [z,to,i,j]→b≠z∧b≠to∧b≠i∧b≠j:=fun b hb=>by simpa using hb
   have trk:∀ b o,H b=some o→b≠z∧b≠to∧b≠i∧b≠j:=fun b o e=>⟨zC e fz.1,zC e fo.1,zC e fi.1,zC e fj.1⟩
   refine I.step (g':=s.gens) (d':=s.drawn) (t':=s.toks) (ch:=[z,to,i,j]) (fun b hb=>?_) (fun b o _ _ hc e _=>?_) (fun b o _ _ hc e _=>?_) (fun b o hc e n=>n) (fun b o hc e=>?_) (fun b xs e=>e) (fun b o u e=>e) (fun b ps e=>⟨#[],by rw [e]; simp⟩) (fun m hm=>?_) (fun b o e=>?_) I.bare
   ·simp only [List.mem_cons,List.not_mem_nil,or_false] at hb
    rcases hb with rfl | rfl | rfl | rfl
    ·exact ⟨fz.2.2.2.1,fz.2.1,fz.2.2.2.2.1,fz.2.2.2.2.2⟩
    ·exact ⟨fo.2.2.2.1,fo.2.1,fo.2.2.2.2.1,fo.2.2.2.2.2⟩
    ·exact ⟨fi.2.2.2.1,fi.2.1,fi.2.2.2.2.1,fi.2.2.2.2.2⟩
    ·exact ⟨fj.2.2.2.1,fj.2.1,fj.2.2.2.2.1,fj.2.2.2.2.2⟩
   ·obtain ⟨n1,n2,n3,n4⟩:=notch b hc
    exact kp b o n1 n2 n3 n4 e
   ·obtain ⟨n1,n2,n3,n4⟩:=notch b hc
    exact ⟨o.slots,kp b o n1 n2 n3 n4 e⟩
   ·obtain ⟨n1,n2,n3,n4⟩:=notch b hc
    exact ⟨o,kp b o n1 n2 n3 n4 e⟩
   ·obtain ⟨o,es,ep,ho,r⟩:=hm
    exact ⟨o,es,ep,kp _ o (Ne.symm fz.2.1) (Ne.symm fo.2.1) (Ne.symm fi.2.1) (Ne.symm fj.2.1) ho,r⟩
   ·refine (I.hok b o e).stay (fun c v' hcc r=>?_) (fun _ r=>r) fun _ _ r=>r
    rcases hcc with rfl | hcc
    ·obtain ⟨n1,n2,n3,n4⟩:=trk c o e
     exact kp c v' n1 n2 n3 n4 r
    ·obtain ⟨n1,n2,n3,n4⟩:=trk c _ hcc
     exact kp c v' n1 n2 n3 n4 r
 self:=fun _ _ _ _ _ st h=>wpAny_pyIter_zip st.zz h
theorem aFy:bootBuiltins "zip"=some (.type "zip"):=by decide +kernel
section
variable {X:Cx} {es:List Expr} {kk:Nat} {tpos:Pos}
noncomputable def iZip (K:PySem.W.Frag) (ta:TA):TI:=fun σ H R=>ta σ H fun vs H1=>∃ p q,vs=[.ref p,.ref q]∧(∃ xs,SqT K H1 p xs)∧(∃ ys,SqT K H1 q ys)∧R (Itz K p q) H1
theorem aJB {a b:Expr} {ta:TA} {p pos:Pos} (hm:X.mg "zip"=none) (ha:PA X [a,b] ta) (hg:Gl X "zip":=by rfl) (hs:starEach [a,b] X.env=[(false,eval a X.env),(false,eval b X.env)]:=by rfl) (hs2:starEach [b] X.env=[(false,eval b X.env)]:=by rfl) :
  PI X (.Tuple es kk tpos) (.Call (.Name "zip" p) [a,b] [] pos) (iZip X.K ta):=by
 intro pins s σ H R I h
 refine Call_ (qj I hg hm aFy (PyProof.Rows.callWith_type1 (thn (ha pos pins s σ H _ I h) fun us s1 ⟨vs,H1,I1,r1,q1⟩=>?_) (by rw [hs,hs2]) (by rw [hs2]; rfl)))
 obtain ⟨x,y,e,⟨xs,hx⟩,⟨ys,hy⟩,q⟩:=q1
 subst e
 obtain ⟨u,v,rfl,ru,rv⟩:=vals2 r1
 cases ru; cases rv
 obtain ⟨us,_,px,_⟩:=I1.tuple hx
 obtain ⟨vs,_,py,_⟩:=I1.tuple hy
 have lx:x < s1.heap.objs.size:=px.lt
 have ly:y < s1.heap.objs.size:=py.lt
 refine aFx (show s1.heap.IsTuple x us.toArray from px) (show s1.heap.IsTuple y vs.toArray from py) fun g Zg sz kp=>?_
 refine wpAny_pyIter_zip Zg.zz ?_
 refine ⟨_,_,_,_,H1,rfl,I1.kept (t':=s1.toks) kp,aHG x y _ _ _ _ _ (zipApart_new lx ly),Zg,fun b hb=>?_,q⟩
 have hge:s1.heap.objs.size≤b:=by
  simp only [List.mem_cons,List.not_mem_nil,or_false] at hb
  rcases hb with rfl | rfl | rfl | rfl | rfl <;> lia
 exact I1.fpOk hge (I1.hok.fresh hge)
end
end L2
namespace L2
open PySem PySem.Spec PyProof.Rows PySem.Builtin.Str
noncomputable abbrev cs (x:Str):List Nat:=x.cps.toList
theorem aFz (x:Str):(cs x).length=x.length:=by show x.cps.toList.length=x.cps.size; simp
theorem aJC (x y:Str):cs (x++y)=cs x++cs y:=by
 show (x.cps++y.cps).toList=_
 simp
section
variable {X:Cx}
theorem aAZ:CallR X (.type "int") (fun xs H Q=>∃ (x:Str) (n:Int),xs=[.str x]∧PySem.intText? x=some n∧x.length≤640∧Q (.int n) H):=by
 intro pins s σ H xs us Q I r h
 obtain ⟨x,n,rfl,hn,hl,q⟩:=h
 obtain ⟨u,rfl,t,rfl⟩:=vals1 r
 exact PySem.W.KIN.call_text hn hl ⟨.int n,H,I.tok _,⟨_,rfl⟩,q⟩
end
end L2
namespace L2
open PySem PySem.Spec PyProof.Rows PySem.Builtin.Str
section
variable {prog:Program} {w:World} {A:Around} {E:Value→Shared→Prop} {s:Shared}
end
section
variable {X:Cx} {pos p2:Pos}
end
end L2
namespace L2
open PySem PySem.Spec PyProof.Rows
theorem qv:∀ (l:List (Str×NameKind)) (n:Nat) (acc:List (Str×Addr)),cellsFrom n l acc=cellsFrom n l []++acc
 | [],_,_=>rfl
 | (y,k) :: r,n,acc=>by
  unfold cellsFrom
  split
  ·rw [qv r (n + 1) ((y,n) :: acc),qv r (n + 1) [(y,n)],List.append_assoc]; rfl
  ·exact qv r n acc
theorem aDz {x:Str} {c:Addr}:∀ {l:List (Str×NameKind)} {n:Nat} {acc:List (Str×Addr)},(x,c)∈cellsFrom n l acc→(x,NameKind.cell)∈l∨(x,c)∈acc
 | [],_,_,h=>.inr h
 | (y,k) :: r,n,acc,h=>by
  unfold cellsFrom at h
  split at h
  ·rename_i hk
   have hk':k=.cell:=by simpa using hk
   rcases aDz h with q | q
   ·exact .inl (List.mem_cons_of_mem _ q)
   ·rcases List.mem_cons.mp q with z | z
    ·cases z; subst hk'; exact .inl List.mem_cons_self
    ·exact .inr z
  ·rcases aDz h with q | q
   ·exact .inl (List.mem_cons_of_mem _ q)
   ·exact .inr q
theorem aE0 {x:Str}:∀ {l:List (Str×NameKind)} {n:Nat} {acc:List (Str×Addr)},((x,NameKind.cell)∈l∨∃ c,(x,c)∈acc)→∃ c,(x,c)∈cellsFrom n l acc
 | [],_,_,h=>by
  rcases h with h | h
  ·cases h
  ·exact h
 | (y,k) :: r,n,acc,h=>by
  unfold cellsFrom
  split
  ·rename_i hk
   refine aE0 ?_
   rcases h with h | ⟨c,h⟩
   ·rcases List.mem_cons.mp h with z | z
    ·cases z; exact .inr ⟨n,List.mem_cons_self⟩
    ·exact .inl z
   ·exact .inr ⟨c,List.mem_cons_of_mem _ h⟩
  ·rename_i hk
   refine aE0 ?_
   rcases h with h | h
   ·rcases List.mem_cons.mp h with z | z
    ·cases z; exact absurd rfl hk
    ·exact .inl z
   ·exact .inr h
noncomputable abbrev ownCs (scope:Scope) (C:Addr):List (Str×Addr):=cellsFrom (C + 1) scope.names []
noncomputable def cxCC (X:Cx) (N:List Str) (scope:Scope) (cl:List (Str×Addr)) (C:Addr) (s2:Shared) (H2:Hp) (fp:List Addr):Cx:={ cxC X N scope (cellsFrom (C + 1) scope.names cl) C s2 H2 fp with fn:=fun x=>scope.names.lookup x == some .cell }
structure CompScopeC (X:Cx) (N:List Str) (mp:List (Option Nat)) (scope:Scope):Prop where
 kind:scope.kind=.function
 cells:∀ y∈scope.names,y.2=.cell→scope.names.lookup y.1=some .cell
 names:∀ y∈scope.names,y.2=.local→scope.names.lookup y.1=some .local
 len:mp.length=N.length
 out:∀ (i j:Nat),mp[i]?=some (some j)→∃ x,N[i]?=some x∧X.N[j]?=some x∧(X.env.scope.names.lookup x=some .cell∨X.env.scope.names.lookup x=some .free)∧scope.names.lookup x=some .free
section
variable {M:Model} {A:Around} {E:Value→Shared→Prop} {s:Shared}
theorem jf {scope:Scope} {globals builtins:Addr} {cl:List (Str×Addr)} {qual:Str} {env:Env} {Q:Env→Shared→Prop}
  (h:Q (newEnv scope s.heap.objs.size globals (cellsFrom (s.heap.objs.size + 1) scope.names cl) qual none .none (some env) builtins) { s with heap:=pushCells (s.heap.push PySem.W.emptyDict) scope.names }) :
  wpAny M A (newFunctionEnv scope globals cl [] qual none .none (some env) builtins) Q E s:=by
 simp only [newFunctionEnv,Option.isSome_some,if_true]
 refine wpAny_bind (wpAny_alloc ?_)
 refine wpAny_bind (wpAny_layCells _ (fun name kind cells=>by cases hkc:kind == NameKind.cell <;> simp [hkc]) _ _ _ _ ?_)
 rw [show ({ s with heap:=s.heap.push { cls:=.type "dict",data:=.dict #[] } }:Shared).heap.objs.size=s.heap.objs.size + 1 from Heap.size_push ..]
 refine wpAny_bind (wpAny_pure ?_)
 exact wpAny_pure h
end
section
variable {X:Cx}
theorem aG0 {pins:List (Addr×Obj)} {σ:St} {H:Hp} {s2:Shared} {N:List Str} {mp:List (Option Nat)} {scope:Scope} {cl:List (Str×Addr)} {fp:List Addr} {h1:Heap} {tk:Nat} (I:Inv X pins σ H s2) (S:CompScopeC X N mp scope)
  (hcl:yX X.env.cells scope.names []=some cl) (hfp:∀ b∈fp,FpOk X pins H b) (hfo:∀ b∈fp,∃ o,s2.heap.get? b=some o)
  (old:∀ b o,s2.heap.get? b=some o→h1.get? b=some o) {oo:HO} (hD:ObjOk X.prog X.w (upd H s2.heap.objs.size oo) h1 s2.heap.objs.size oo) {m:Str→Option Value} (hC:h1.Ns (s2.heap.objs.size + 1) m) (cok:CellsOk h1 (s2.heap.objs.size + 2) (ownCs scope (s2.heap.objs.size + 1))) :
  Inv (cxCC X N scope cl (s2.heap.objs.size + 1) s2 H fp) [] (zp mp σ) (upd H s2.heap.objs.size oo) { s2 with heap:=h1,toks:=tk }:=by
 have clm:∀ {x:Str} {c:Addr},cl.lookup x=some c→X.env.cells.lookup x=some c:=fun {x c} e=>qS hcl (fun p z=>absurd z (by simp)) (x,c) (PySem.mem_of_lookup e)
 have hn:H s2.heap.objs.size=none:=I.hok.fresh (Nat.le_refl _)
 have hnC:H (s2.heap.objs.size + 1)=none:=I.hok.fresh (Nat.le_succ _)
 have cellLt:∀ {x:Str} {c:Addr},X.env.cells.lookup x=some c→c < s2.heap.objs.size:=fun {x c} e=>by
  obtain ⟨v,q⟩:=I.cell x c e
  exact q.lt
 have freeOf:∀ x,((relabel scope X.env).names.lookup x=some .cell∨(relabel scope X.env).names.lookup x=some .free)→(x,NameKind.free)∈scope.names∨(x,NameKind.cell)∈scope.names:=fun x hx=>by
  have hm:(x,NameKind.cell)∈(relabel scope X.env).names∨(x,NameKind.free)∈(relabel scope X.env).names:=hx.elim (fun z=>.inl (PySem.mem_of_lookup z)) fun z=>.inr (PySem.mem_of_lookup z)
  have conv:∀ k,(x,k)∈(relabel scope X.env).names→(k=.cell∨k=.free)→(x,NameKind.free)∈scope.names∨(x,NameKind.cell)∈scope.names:=fun k hm hk=>by
   obtain ⟨⟨n,k'⟩,hy,e⟩:=List.mem_map.mp hm
   dsimp only at e
   split at e
   ·rename_i hc
    simp only [Bool.and_eq_true,beq_iff_eq] at hc
    cases e
    rw [hc.1.1] at hy
    exact .inl hy
   ·cases e
    rcases hk with z | z
    ·subst z; exact .inr hy
    ·subst z; exact .inl hy
  exact hm.elim (fun z=>conv _ z (.inl rfl)) fun z=>conv _ z (.inr rfl)
 have app:∀ x,(cellsFrom (s2.heap.objs.size + 1 + 1) scope.names cl).lookup x=((ownCs scope (s2.heap.objs.size + 1)).lookup x).or (cl.lookup x):=fun x=>by rw [qv,List.lookup_append]
 have two:∀ {x:Str} {c:Addr},(cellsFrom (s2.heap.objs.size + 1 + 1) scope.names cl).lookup x=some c→((ownCs scope (s2.heap.objs.size + 1)).lookup x=some c∧(h1.IsCell c none∧s2.heap.objs.size + 2≤c))∨X.env.cells.lookup x=some c:=fun {x c} e=>by
  rw [app] at e
  cases eo:(ownCs scope (s2.heap.objs.size + 1)).lookup x with
  | some d =>
   rw [eo] at e
   cases e
   exact .inl ⟨rfl,cok.empty _ _ (PySem.mem_of_lookup eo)⟩
  | none =>
   rw [eo] at e
   exact .inr (clm e)
 have ownHas:∀ {x:Str},(x,NameKind.cell)∈scope.names→∃ c,(ownCs scope (s2.heap.objs.size + 1)).lookup x=some c:=fun {x} hx=>by
  obtain ⟨c,hc⟩:=aE0 (n:=s2.heap.objs.size + 1 + 1) (acc:=[]) (.inl hx)
  obtain ⟨d,hd,_⟩:=zy hc
  exact ⟨d,hd⟩
 have ok:(cxCC X N scope cl (s2.heap.objs.size + 1) s2 H fp).Ok:=by
  refine ⟨I.ok.mod,S.kind,I.ok.glob,I.ok.blt,Nat.le_succ _,fun x y c e1 e2=>?_,fun x hx=>?_,fun x c z e=>?_,I.ok.hd,I.ok.frames,.inl rfl,fun b hb=>⟨?_,fun x c e=>?_⟩,I.bs,Nat.le_trans I.ok.bsz I.sz,fun b o e hb=>?_,fun b hb z=>?_,I.stack,I.stkFree⟩
  ·rcases two e1 with ⟨o1,_,l1⟩ | o1 <;> rcases two e2 with ⟨o2,_,l2⟩ | o2
   ·exact name_of_addr cok.apart (PySem.mem_of_lookup o1) (PySem.mem_of_lookup o2)
   ·exact absurd (Nat.lt_of_lt_of_le (cellLt o2) (Nat.le_trans (Nat.le_add_right _ 2) l1)) (Nat.lt_irrefl _)
   ·exact absurd (Nat.lt_of_lt_of_le (cellLt o1) (Nat.le_trans (Nat.le_add_right _ 2) l2)) (Nat.lt_irrefl _)
   ·exact I.ok.inj x y c o1 o2
  ·show ∃ c,(cellsFrom (s2.heap.objs.size + 1 + 1) scope.names cl).lookup x=some c
   rcases freeOf x hx with q | q
   ·obtain ⟨c,hc⟩:=yc hcl (.inl q)
    obtain ⟨d,hd,_⟩:=zy hc
    rw [app,hd]
    cases (ownCs scope (s2.heap.objs.size + 1)).lookup x with
    | none=>exact ⟨d,rfl⟩
    | some c'=>exact ⟨c',rfl⟩
   ·obtain ⟨c,hc⟩:=ownHas q
    exact ⟨c,by rw [app,hc]; rfl⟩
  ·have z':scope.names.lookup x=some .cell:=beq_iff_eq.mp z
   obtain ⟨c',hc'⟩:=ownHas (PySem.mem_of_lookup z')
   have e':(cellsFrom (s2.heap.objs.size + 1 + 1) scope.names cl).lookup x=some c:=e
   rw [app,hc'] at e'
   cases e'
   exact Nat.le_trans (Nat.le_add_right _ 2) (cok.empty _ _ (PySem.mem_of_lookup hc')).2
  ·obtain ⟨o,e⟩:=hfo b hb
   exact Nat.ne_of_lt (Nat.lt_succ_of_lt (Heap.lt_size e))
  ·rcases two e with ⟨_,_,l⟩ | o
   ·obtain ⟨ob,eb⟩:=hfo b hb
    exact Ne.symm (Nat.ne_of_lt (Nat.lt_of_lt_of_le (Heap.lt_size eb) (Nat.le_trans (Nat.le_add_right _ 2) l)))
   ·exact (hfp b hb).2.2.2.2.1 x c o
  ·rcases (hfp b hb).2.2.2.1 with z | z
   ·exact I.ok.noex b o e z
   ·exact absurd (Nat.lt_of_lt_of_le (Heap.lt_size e) (Nat.le_trans I.ok.bsz z)) (Nat.lt_irrefl _)
  ·rcases List.mem_cons.mp (I.stkSub b z) with q | q
   ·exact (hfp b hb).2.1 q
   ·exact (hfp b hb).2.2.1 q
 refine ⟨ok,rfl,I.bare,Un.laid old (Nat.le_refl _) hn,⟨m,hC,fun i x v e1 e2 e3=>?_⟩,fun x c e=>?_,?_,fun x c e=>?_,(fun p hp=>nomatch hp),?_,?_⟩
 ·
  unfold zp at e2
  rw [List.getElem?_map] at e2
  cases em:mp[i]? with
  | none=>rw [em] at e2; cases e2
  | some o =>
   rw [em] at e2
   cases o with
   | none=>cases e2
   | some j =>
    have e2':(σ[j]?).bind id=some v:=Option.some.inj e2
    obtain ⟨x',n1,n2,n3,n4⟩:=S.out i j em
    rw [show (cxCC X N scope cl (s2.heap.objs.size + 1) s2 H fp).N[i]?=N[i]? from rfl,n1] at e1
    cases e1
    have sj:σ[j]?=some (some v):=by
     cases ej:σ[j]? with
     | none=>rw [ej] at e2'; cases e2'
     | some o=>rw [ej] at e2'; exact congrArg some e2'
    obtain ⟨m0,hm0,hl⟩:=I.loc
    obtain ⟨u,ru,lk⟩:=hl j x v n2 sj (.inr n3)
    refine ⟨u,ru,.inr ⟨?_,?_⟩⟩
    ·have hf:(x,NameKind.free)∈scope.names:=PySem.mem_of_lookup n4
     have key:∀ l:List (Str×NameKind),l.lookup x=some .free→((l.map fun (n,k)=>if (k == NameKind.free && X.env.scope.kind == .function && X.env.kindOf n == some .cell) then (n,NameKind.cell) else (n,k)).lookup x=some .cell ∨
       (l.map fun (n,k)=>if (k == NameKind.free && X.env.scope.kind == .function && X.env.kindOf n == some .cell) then (n,NameKind.cell) else (n,k)).lookup x=some .free):=by
      intro l
      induction l with
      | nil=>intro z; cases z
      | cons y r ih =>
       obtain ⟨n,k⟩:=y
       intro z
       rw [List.lookup_cons] at z
       rw [List.map_cons]
       dsimp only
       by_cases en:(x == n)=true
       ·rw [en] at z
        dsimp only at z
        cases z
        split
        ·exact .inl (by rw [List.lookup_cons,en])
        ·exact .inr (by rw [List.lookup_cons,en])
       ·have en2:(x == n)=false:=by simpa using en
        rw [en2] at z
        dsimp only at z
        split
        ·rw [List.lookup_cons,en2]; exact ih z
        ·rw [List.lookup_cons,en2]; exact ih z
     exact key scope.names n4
    ·have hf:(x,NameKind.free)∈scope.names:=PySem.mem_of_lookup n4
     obtain ⟨c,hc⟩:=yc hcl (.inl hf)
     obtain ⟨d,hd,_⟩:=zy hc
     rcases lk with ⟨k1,_⟩ | ⟨_,c',hc',z⟩
     ·have k1':X.env.scope.names.lookup x=some .local:=k1
      rcases n3 with z | z <;> (rw [k1'] at z; cases z)
     ·have e:=clm hd
      rw [hc'] at e
      have e3:c'=d:=Option.some.inj e
      obtain ⟨o,ho,hdt⟩:=z
      rw [e3] at ho
      have no:(ownCs scope (s2.heap.objs.size + 1)).lookup x=none:=by
       cases eo:(ownCs scope (s2.heap.objs.size + 1)).lookup x with
       | none=>rfl
       | some c0 =>
        rcases aDz (PySem.mem_of_lookup eo) with q | q
        ·have:=S.cells _ q rfl
         rw [n4] at this
         cases this
        ·cases q
      exact ⟨d,by show (cellsFrom (s2.heap.objs.size + 1 + 1) scope.names cl).lookup x=some d; rw [app,no]; exact hd,o,old _ _ ho,hdt⟩
 ·rcases two e with ⟨_,ic,_⟩ | q
  ·exact ⟨_,ic⟩
  ·obtain ⟨v,o,ho,hdt⟩:=I.cell x c q
   exact ⟨v,o,old _ _ ho,hdt⟩
 ·show upd H s2.heap.objs.size oo (s2.heap.objs.size + 1)=none
  rw [zH (Nat.ne_of_gt (Nat.lt_succ_self _))]; exact hnC
 ·show upd H s2.heap.objs.size oo c=none
  rcases two e with ⟨_,_,l⟩ | q
  ·rw [zH (Nat.ne_of_gt (Nat.lt_of_lt_of_le (Nat.lt_add_of_pos_right (by decide)) l))]
   exact I.hok.fresh (Nat.le_trans (Nat.le_add_right _ 2) l)
  ·rw [zH (Nat.ne_of_lt (cellLt q))]
   exact I.freeC x c q
 ·exact I.hok.laid old (Nat.le_refl _) hD
 ·show (zp mp σ).length=N.length
  unfold zp
  rw [List.length_map]; exact S.len
theorem aCM {pins:List (Addr×Obj)} {σ:St} {H:Hp} {s2:Shared} {N:List Str} {mp:List (Option Nat)} {scope:Scope} {cl:List (Str×Addr)} {fp:List Addr} {h1:Heap} {tk:Nat} (I:Inv X pins σ H s2) (S:CompScopeC X N mp scope)
  (hcl:yX X.env.cells scope.names []=some cl) (hfp:∀ b∈fp,FpOk X pins H b) (hfo:∀ b∈fp,∃ o,s2.heap.get? b=some o)
  (old:∀ b o,s2.heap.get? b=some o→h1.get? b=some o) (hD:h1.get? s2.heap.objs.size=some { cls:=.type "list",data:=.seq ([]:List Value).toArray }) {m:Str→Option Value} (hC:h1.Ns (s2.heap.objs.size + 1) m) (cok:CellsOk h1 (s2.heap.objs.size + 2) (ownCs scope (s2.heap.objs.size + 1))) :
  Inv (cxCC X N scope cl (s2.heap.objs.size + 1) s2 H fp) [] (zp mp σ) (upd H s2.heap.objs.size (.lst [])) { s2 with heap:=h1,toks:=tk } :=
 aG0 I S hcl hfp hfo old ⟨by show 0≤sizeLine; exact Nat.zero_le _,[],0,.nil,hD⟩ hC cok
theorem aHH {elt iter tg:Expr} {ifs:List Expr} {scope:Scope} {pos:Pos} {N:List Str} {mp:List (Option Nat)} {cl:List (Str×Addr)} {wi:TI} {g:Addr→Shared→Hp→List Addr→TG} {tt:Addr→Shared→Hp→List Addr→TT} {te:Addr→Shared→Hp→List Addr→TE}
  (hc:X.calm=true) (S:CompScopeC X N mp scope) (hcl:yX X.env.cells scope.names []=some cl) (hi:PI X tg iter wi)
  (hg:∀ C s2 H2 fp,PG (cxCC X N scope cl C s2 H2 fp) tg (g C s2 H2 fp)) (ht:∀ C s2 H2 fp,PTL (cxCC X N scope cl C s2 H2 fp) ifs (tt C s2 H2 fp)) (he:∀ C s2 H2 fp,PE (cxCC X N scope cl C s2 H2 fp) elt (te C s2 H2 fp))
  (hs:∀ x,foldedSetIterable iter X.env x=pure x)
  {use:Option (Value→Sem Unit)} {PQ:Value→Shared→Prop} {pins:List (Addr×Obj)} {s:Shared} {σ:St} {H:Hp} {Q:VK} (I:Inv X pins σ H s) (h:tComp mp wi g tt te σ H Q)
  (fin:∀ (H2:Hp) (s2:Shared) (fp:List Addr) (σ':St) (H':Hp) (s':Shared),Inv X pins σ H2 s2→(∀ b∈fp,FpOk X pins H2 b)→Inv (cxCC X N scope cl (s2.heap.objs.size + 1) s2 H2 fp) [] σ' H' s'→Q (.ref s2.heap.objs.size) H' →
   compPost (model X.prog X.w) X.A X.xe use PQ (.ref s2.heap.objs.size) (s2.heap.objs.size + 1) (.ok .next) s') :
  wpAny (model X.prog X.w) X.A (comprehension (.ListComp elt [⟨tg,iter,ifs,0⟩] scope pos) scope X.env (firstIterPos [⟨tg,iter,ifs,0⟩] pos) (newList []) (firstAsync [⟨tg,iter,ifs,0⟩]) (firstIter [⟨tg,iter,ifs,0⟩] X.env) use) PQ X.xe s:=by
 refine wpAny_comprehension_free (use:=use) rfl hs (yw hcl) S.kind S.names (thn (hi pins s σ H _ I h) fun v s1 h1=>thn h1 fun itv s2 h2=>?_)
 obtain ⟨it,fp,tn,J,H2,e,I2,T,st2,f2,h3⟩:=h2
 subst e
 refine wpAny_newObj_type (jf ?_)
 dsimp only
 have hn2:H2 s2.heap.objs.size=none:=I2.hok.fresh (Nat.le_refl _)
 generalize hH2:s2.heap.push { cls:=.type "list",dict:=none,data:=.seq ([]:List Value).toArray }=G2
 have hC:G2.objs.size=s2.heap.objs.size + 1:=by rw [← hH2,Heap.size_push]
 generalize hh1:pushCells (G2.push PySem.W.emptyDict) scope.names=h₁
 have old1:∀ b o,G2.get? b=some o→h₁.get? b=some o:=fun b o e=>by rw [← hh1]; exact pushCells_keeps _ _ b o (Heap.get?_push_of_some _ e)
 have old:∀ b o,s2.heap.get? b=some o→h₁.get? b=some o:=fun b o e=>old1 b o (hH2 ▸ Heap.get?_push_of_some _ e)
 have hD1:h₁.get? s2.heap.objs.size=some { cls:=.type "list",data:=.seq ([]:List Value).toArray }:=old1 _ _ (hH2 ▸ Heap.get?_push_size _ rfl)
 have hns₁:h₁.Ns (s2.heap.objs.size + 1) (fun _=>none):=by
  have e1:h₁.get? G2.objs.size=some PySem.W.emptyDict:=by rw [← hh1]; exact pushCells_keeps _ _ _ _ (Heap.get?_push_size _ rfl)
  rw [hC] at e1
  exact ⟨_,#[],_,e1,rfl,fun e he=>absurd he (by simp),fun _=>rfl⟩
 have cok:CellsOk h₁ (s2.heap.objs.size + 2) (ownCs scope (s2.heap.objs.size + 1)):=by
  have:=cellsFrom_ok scope.names (G2.push PySem.W.emptyDict) (s2.heap.objs.size + 2) [] ⟨fun _ _ hm=>(nomatch hm),List.Pairwise.nil⟩ (by rw [Heap.size_push,hC]; exact Nat.le_refl _)
  rw [Heap.size_push,hC,hh1] at this
  exact this
 obtain ⟨W,⟨m0,w0⟩,turn⟩:=h3 s2.heap.objs.size hn2 (s2.heap.objs.size + 1) s2 fp
 have I4:=aCM (tk:=s2.toks) I2 S hcl f2 (fun b hb=>let ⟨o,e,_⟩:=T.obj _ _ st2 b hb; ⟨o,e⟩) old hD1 hns₁ cok
 have st4:tn 0 h₁:=T.keep _ _ _ st2 fun b hb o e=>old b o e
 have stat:∀ {pl:List (Addr×Obj)} {H':Hp},(∀ b∈fp,H' b=none)→(∀ p∈pl,p.1 ∉ fp)→∀ b∈fp,FpOk (cxCC X N scope cl (s2.heap.objs.size + 1) s2 H2 fp) pl H' b:=fun {pl H'} hn hp b hb =>
  ⟨hn b hb,(I4.ok.exf b hb).1,I4.ok.exfs b hb,.inl hb,(I4.ok.exf b hb).2,fun p z q=>hp p (by simpa [cxC,cxCC] using z) (by rw [q]; exact hb)⟩
 have fr0:∀ b∈fp,(upd H2 s2.heap.objs.size (.lst [])) b=none:=fun b hb=>by
  obtain ⟨o,e,_⟩:=T.obj _ _ st2 b hb
  rw [zH (Nat.ne_of_lt (Heap.lt_size e))]
  exact (f2 b hb).1
 have loop:codeAny (model X.prog X.w) X.A (.compLoop (.ListComp elt [⟨tg,iter,ifs,0⟩] scope pos) 0 (.ref it) (.ref s2.heap.objs.size) (compEnvC scope (cellsFrom (s2.heap.objs.size + 1 + 1) scope.names cl) (s2.heap.objs.size + 1) X.env))
   (compPost (model X.prog X.w) X.A X.xe use PQ (.ref s2.heap.objs.size) (s2.heap.objs.size + 1)) { s2 with heap:=h₁,toks:=s2.toks }:=by
  refine jv (fun n s'=>∃ i σ' H',Inv (cxCC X N scope cl (s2.heap.objs.size + 1) s2 H2 fp) [] σ' H' s'∧tn i s'.heap∧(∀ b∈fp,H' b=none)∧W i n σ' H') ?_ m0 ⟨0,_,_,I4,st4,fr0,w0⟩
  rintro n s3 ⟨i,σ3,H3,I3,st3,fr3,w3⟩
  rcases turn i n σ3 H3 w3 with ⟨stop,qn⟩ | ⟨go,N',hN,step⟩
  ·refine (thn (T.done (cxCC X N scope cl (s2.heap.objs.size + 1) s2 H2 fp) rfl rfl rfl hc i [] s3 σ3 H3 (fun _ _=>False) I3 (stat fr3 (fun _ z=>nomatch z)) st3 stop) fun r s4 ⟨hr,I4'⟩=>?_)
   subst hr
   exact fin H2 s2 fp _ _ _ I2 f2 I4' qn
  ·refine (thn (T.item (cxCC X N scope cl (s2.heap.objs.size + 1) s2 H2 fp) rfl rfl rfl hc i [] s3 σ3 H3 (fun _ _=>False) I3 (stat fr3 (fun _ z=>nomatch z)) st3 go) fun r s4 ⟨u,hr,h4⟩=>?_)
   subst hr
   refine thn h4 fun _ s5 ⟨x,H5,I5,r5,y5,st5,fr5⟩=>?_
   have I5':=I5.pinned (pins:=[]) (stat fr5 (fun _ z=>nomatch z)) (T.obj _ _ st5)
   refine (thn (hg (s2.heap.objs.size + 1) s2 H2 fp _ s5 σ3 H5 x u _ I5' r5 (step x H5 y5)) fun _ s6 ⟨σ6,H6,I6,q6⟩=>?_)
   refine (thn (ht (s2.heap.objs.size + 1) s2 H2 fp _ s6 σ6 H6 _ I6 q6) fun b s7 ⟨H7,I7,q7⟩=>?_)
   have again:∀ {σ7:St} {H7:Hp} {s7:Shared},Inv (cxCC X N scope cl (s2.heap.objs.size + 1) s2 H2 fp) ([]++jp fp s5.heap) σ7 H7 s7→N' σ7 H7→∃ m,m < n∧∃ i σ' H',Inv (cxCC X N scope cl (s2.heap.objs.size + 1) s2 H2 fp) [] σ' H' s7∧tn i s7.heap∧(∀ b∈fp,H' b=none)∧W i m σ' H':=fun {σ7 H7 s7} I7 n7=>by
    obtain ⟨m',hm,w7⟩:=hN σ7 H7 n7
    refine ⟨m',hm,i + 1,σ7,H7,I7.unpinned,T.keep _ _ _ st5 fun b hb o e=>(I7.pin (b,o) (List.mem_append_right _ (List.mem_append_right _ (zr hb e)))).1,fun b hb=>?_,w7⟩
    obtain ⟨o,e,d⟩:=T.obj _ _ st5 b hb
    exact (I7.pin (b,o) (List.mem_append_right _ (List.mem_append_right _ (zr hb e)))).2.1
   cases b with
   | false =>
    rw [if_neg Bool.false_ne_true] at q7 ⊢
    exact again I7 q7
   | true =>
    rw [if_pos rfl] at q7 ⊢
    refine (thn (he (s2.heap.objs.size + 1) s2 H2 fp _ s7 σ6 H7 _ I7 q7) fun y s8 ⟨yv,H8,I8,ry,xs,hx,hz,n8⟩=>?_)
    refine (thn (yp (X:=cxCC X N scope cl (s2.heap.objs.size + 1) s2 H2 fp) _ s8 σ6 H8 (.ref s2.heap.objs.size) [yv] (.ref s2.heap.objs.size) [y] (fun _ H'=>N' σ6 H') I8 rfl (.cons ry .nil) ⟨_,xs,yv,rfl,rfl,hx,hz,n8⟩) fun _ s9 ⟨_,H9,I9,_,n9⟩=>?_)
    exact again I9 n9
 have goal:=codeAny_compStart_list loop (T.self X.A 0 { s2 with heap:=h₁,toks:=s2.toks } _ _ st4 loop)
 rw [hC]
 exact goal
theorem aCN {N:List Str} {scope:Scope} {cl:List (Str×Addr)} {pins:List (Addr×Obj)} {σ σ':St} {H2 H':Hp} {s2 s':Shared} {fp:List Addr} {h'':Heap} (I2:Inv X pins σ H2 s2) (f2:∀ b∈fp,FpOk X pins H2 b) (J':Inv (cxCC X N scope cl (s2.heap.objs.size + 1) s2 H2 fp) [] σ' H' s')
  (keepC:∀ b o,b≠s2.heap.objs.size + 1→s'.heap.get? b=some o→h''.get? b=some o):Inv X pins σ H' { s' with heap:=h'' }:=by
 have u0:=J'.base
 have neC:∀ b o,s2.heap.get? b=some o→b≠s2.heap.objs.size + 1:=fun b o e=>Nat.ne_of_lt (Nat.lt_succ_of_lt (Heap.lt_size e))
 have u:Un (frs X.stack) fp H2 H' s2.heap h'':=⟨fun b o e n hb hx=>keepC b o (neC b o e) (u0.keep b o e n hb hx),fun b o e n hb hx=>by
   obtain ⟨sl,e1⟩:=u0.slot b o e n hb hx
   exact ⟨sl,keepC b _ (neC b o e) e1⟩,u0.free,fun b o e hx=>by
   obtain ⟨o',e1⟩:=u0.there b o e hx
   exact ⟨o',keepC b o' (neC b o e) e1⟩,u0.tups,u0.frzs,u0.tbls⟩
 have freeC:H' (s2.heap.objs.size + 1)=none:=J'.free
 have hok:HOk X.prog X.w H' h'':=fun b o e=>(J'.hok b o e).stay (fun c v hcc r=>keepC c v (by
   intro z
   rcases hcc with q1 | q1
   ·rw [← q1,z,freeC] at e; cases e
   ·rw [z,freeC] at q1; cases q1) r) (fun _ z=>z) fun _ _ z=>z
 exact I2.call' (s':={ s' with heap:=h'' }) J'.os u hok J'.bare fun b hb=>⟨(f2 b hb).2.2.2.1,(f2 b hb).2.1,(f2 b hb).2.2.2.2.1,(f2 b hb).2.2.2.2.2⟩
theorem aG1 {i:Nat} {x:Str} {pos' spos:Pos} {elt iter tg:Expr} {ifs:List Expr} {scope:Scope} {pos:Pos} {N:List Str} {mp:List (Option Nat)} {cl:List (Str×Addr)} {wi:TI} {g:Addr→Shared→Hp→List Addr→TG} {tt:Addr→Shared→Hp→List Addr→TT} {te:Addr→Shared→Hp→List Addr→TE}
  (hN:X.N.Nodup) (hx:X.N[i]?=some x) (hl:Loc X.env.scope x) (hc:X.calm=true) (S:CompScopeC X N mp scope) (hcl:yX X.env.cells scope.names []=some cl) (hi:PI X tg iter wi)
  (hg:∀ C s2 H2 fp,PG (cxCC X N scope cl C s2 H2 fp) tg (g C s2 H2 fp)) (ht:∀ C s2 H2 fp,PTL (cxCC X N scope cl C s2 H2 fp) ifs (tt C s2 H2 fp)) (he:∀ C s2 H2 fp,PE (cxCC X N scope cl C s2 H2 fp) elt (te C s2 H2 fp))
  (hs:∀ x,foldedSetIterable iter X.env x=pure x:=by intro _; rfl)
  (hsw:swapsWith (.ListComp elt [⟨tg,iter,ifs,0⟩] scope pos) (some (.Name x pos')) spos.line X.env=pure true:=by rfl)
  (hf:X.fn x=true∨X.env.scope.names.lookup x=some .local:=by first | exact .inl rfl | exact .inr rfl | assumption) :
  PS X (.Assign [.Name x pos'] (.ListComp elt [⟨tg,iter,ifs,0⟩] scope pos) spos) (fun D σ H=>tComp mp wi g tt te σ H fun v H1=>D.nx (σ.set i (some v)) H1):=by
 intro pins s σ H D I h
 rw [exec_Assign_Name_used _ _ _ _ hsw]
 refine wpAny_bind (wpAny_standAt ?_)
 rw [arm_evalThenUse_ListComp]
 refine wpAny_bind (wpAny_bind (thn (aHH hc S hcl hi hg ht he hs (PQ:=fun _ s'=>SP X pins D .next s') I h fun H2 s2 fp σ' H' s' I2 f2 J' q=>?_) fun _ _ z=>wpAny_pure (wpAny_pure z)))
 ·obtain ⟨m,⟨oC,es,ep,ho,r⟩,_⟩:=id J'.loc
  have I3:Inv X pins σ H' s':=aCN (h'':=s'.heap) I2 f2 J' fun b o _ e=>e
  have nL:s2.heap.objs.size + 1≠X.env.locals:=Nat.ne_of_gt (Nat.lt_of_lt_of_le I2.lt (Nat.le_succ _))
  have nf:s2.heap.objs.size + 1 ∉ X.fs:=I2.nofs (Nat.le_succ _)
  have fp:=Inv.fpOk (H':=H') I2 (Nat.le_succ _) (b:=s2.heap.objs.size + 1) J'.free
  have I4:Inv X (pins++[(s2.heap.objs.size + 1,oC)]) σ H' s':=I3.pins_of fun p hp=>by
   rcases List.mem_append.mp hp with z | z
   ·exact I3.pin p (List.mem_append_right _ z)
   ·have e:p=(s2.heap.objs.size + 1,oC):=by simpa using z
    subst e
    exact ⟨ho,J'.free,nL,nf,fun v z=>by rw [r.1] at z; cases z⟩
  show wpAny _ _ (assign (.Name x pos') X.env _) _ _ _
  refine wpAny_bind (wpAny_standAt (wpAny_bindName (yj I4 hN hx hl (show RelV (.ref s2.heap.objs.size) (.ref s2.heap.objs.size) from rfl) (fun s5 I5=>?_) hf)))
  obtain ⟨hC,_⟩:=I5.pin (s2.heap.objs.size + 1,oC) (List.mem_append_right _ (List.mem_append_right _ (by simp)))
  refine ⟨m,⟨oC,es,ep,hC,r⟩,fun h' sb=>⟨_,H',?_,q⟩⟩
  have I6:Inv X pins (σ.set i (some (.ref s2.heap.objs.size))) H' s5:=I5.pins_of fun p hp=>I5.pin p (List.mem_append_right _ (List.mem_append_left _ hp))
  exact I6.turned (t':=s5.toks) (it:=s2.heap.objs.size + 1) (fun b o hb e=>sb.extBut b o hb e) fp.1 fp.2.1 fp.2.2.2.1 fp.2.2.2.2.1 fp.2.2.2.2.2
theorem aG2 {N:List Str} {scope:Scope} (mp:List (Option Nat)) (h1:scope.kind=.function) (h2:∀ y∈scope.names,y.2=.cell→scope.names.lookup y.1=some .cell) (h3:∀ y∈scope.names,y.2=.local→scope.names.lookup y.1=some .local) (h4:mp.length=N.length)
  (h5:jy X.N X.env.scope.names N scope.names mp 0=true):CompScopeC X N mp scope :=
 ⟨h1,h2,h3,h4,fun i j e=>by
  obtain ⟨x,a,b,c,d⟩:=qt h5 i j e
  exact ⟨x,by simpa using a,b,c,d⟩⟩
end
end L2
namespace L2
open PySem PySem.Spec PyProof.Rows
theorem aAa (elt t1 i1 t2 i2:Expr) (scope:Scope) (pos:Pos) (it acc:Value) (env:Env) :
  compTurn (.ListComp elt [⟨t1,i1,[],0⟩,⟨t2,i2,[],0⟩] scope pos) 0 it acc env=(do
   standAt i1.pos
   match ← pyNext it with
   | none=>pure (.done .next)
   | some v =>
    letOwnedTupleGo t1 it v
    assign t1 env v
    let x ← eval i2 env
    standAt i2.pos
    let x ← foldedSetIterable i2 env x
    let _ ← runOwn (.compStart (.ListComp elt [⟨t1,i1,[],0⟩,⟨t2,i2,[],0⟩] scope pos) 1 (← holding [x] (pyIter x)) acc env) env
    again (.compLoop (.ListComp elt [⟨t1,i1,[],0⟩,⟨t2,i2,[],0⟩] scope pos) 0 it acc env)):=by rfl
theorem aAb (elt t1 i1 t2 i2:Expr) (scope:Scope) (pos:Pos) (it acc:Value) (env:Env) :
  compTurn (.ListComp elt [⟨t1,i1,[],0⟩,⟨t2,i2,[],0⟩] scope pos) 1 it acc env=(do
   standAt i2.pos
   match ← pyNext it with
   | none=>pure (.done .next)
   | some v =>
    letOwnedTupleGo t2 it v
    assign t2 env v
    (do let _ ← call (.builtin "list.append") [acc,← eval elt env])
    again (.compLoop (.ListComp elt [⟨t1,i1,[],0⟩,⟨t2,i2,[],0⟩] scope pos) 1 it acc env)):=by rfl
section
variable {prog:Program} {w:World} {A:Around} {R:Result→Shared→Prop} {s:Shared}
theorem aAJ {elt t1 i1 t2 i2 scope pos it acc env}
    (h0:codeAny (model prog w) A (.compLoop (.ListComp elt [⟨t1,i1,[],0⟩,⟨t2,i2,[],0⟩] scope pos) 1 it acc env) R s)
    (h:wpAny (model prog w) A (pyIter it) (fun it' s'=>codeAny (model prog w) A (.compLoop (.ListComp elt [⟨t1,i1,[],0⟩,⟨t2,i2,[],0⟩] scope pos) 1 it' acc env) R s')
      (notedBy (model prog w) A env fun x s'=>R (.error x) s') s) :
    codeAny (model prog w) A (.compStart (.ListComp elt [⟨t1,i1,[],0⟩,⟨t2,i2,[],0⟩] scope pos) 1 it acc env) R s:=by
  refine codeAny_of_tree ?_
  show wpAny _ _ ((compStart (.ListComp elt [⟨t1,i1,[],0⟩,⟨t2,i2,[],0⟩] scope pos) 1 it acc env).onRaise (fun x=>do noteFrame x env; standAt theWindowsPlace)) _ _ s
  refine wpAny_notedAt ?_
  unfold compStart
  show wpAny _ _ (ask >>= _) _ _ s
  refine wpAny_bind (wpAny_askSetting (wpAny_ite ?_))
  split
  · first
      | exact wpAny_bind (wpAny_pure (wpAny_pure (And.intro rfl h0)))
      | exact wpAny_pure (And.intro rfl h0)
  · first
      | exact wpAny_bind (wpAny_rule (wpAny_bind (wpAny_standAt (wpAny_bind (wpAny_mono h (fun it' s' h'=>wpAny_pure (And.intro rfl h')) fun _ _ x=>x)))))
      | (refine wpAny_bind (wpAny_rule ?_); show wpAny _ _ (standAt i2.pos >>= _) _ _ s; exact wpAny_bind (wpAny_standAt (wpAny_bind (wpAny_mono h (fun it' s' h'=>wpAny_pure (And.intro rfl h')) fun _ _ x=>x))))
theorem aAc {elt t1 i1 t2 i2:Expr} {scope:Scope} {pos:Pos} {it acc:Value} {env:Env} (I:Nat→Shared→Prop) (hs:∀ x,foldedSetIterable i2 env x=pure x)
  (turn:∀ n s,I n s→wpAny (model prog w) A (pyNext it) (fun r s₁=>match r with
   | none=>R (.ok .next) s₁
   | some v=>wpAny (model prog w) A (letOwnedTupleGo t1 it v) (fun _ s1=>wpAny (model prog w) A (assign t1 env v) (fun _ s₂ =>
     wpAny (model prog w) A (eval i2 env) (fun x s₃=>wpAny (model prog w) A (pyIter x) (fun it2 s₄ =>
      codeAny (model prog w) A (.compStart (.ListComp elt [⟨t1,i1,[],0⟩,⟨t2,i2,[],0⟩] scope pos) 1 it2 acc env) (fun r s₅=>r=.ok .next∧∃ m,m < n∧I m s₅) s₄) (fun _ _=>False) s₃) (fun _ _=>False) s₂) (fun _ _=>False) s1) (fun _ _=>False) s₁) (fun _ _=>False) s)
  (n:Nat) (h:I n s) :
  codeAny (model prog w) A (.compLoop (.ListComp elt [⟨t1,i1,[],0⟩,⟨t2,i2,[],0⟩] scope pos) 0 it acc env) R s:=by
 refine codeAny_loop rfl I (fun n s hI=>?_) n h
 show wpAny _ A ((compTurn (.ListComp elt [⟨t1,i1,[],0⟩,⟨t2,i2,[],0⟩] scope pos) 0 it acc env).onRaise (fun x=>do noteFrame x env; theTreesLotGoes x)) _ _ s
 refine wpAny_noted ?_
 rw [aAa]
 refine wpAny_bind (wpAny_standAt (wpAny_bind (wpAny_mono (turn n s hI) (fun r s₁ h₁=>?_) fun _ _ h'=>h'.elim)))
 cases r with
 | none=>exact wpAny_pure h₁
 | some v =>
  refine wpAny_bind (wpAny_mono h₁ (fun _ s1 h1=>wpAny_bind (wpAny_mono h1 (fun _ s₂ h₂=>wpAny_bind (wpAny_mono h₂ (fun x s₃ h₃=>?_) fun _ _ h'=>h'.elim)) fun _ _ h'=>h'.elim)) fun _ _ h'=>h'.elim)
  refine wpAny_bind (wpAny_standAt (wpAny_bind (wpAny_of_eq (hs x) (wpAny_bind (wpAny_holding (wpAny_mono h₃ (fun it2 s₄ h₄=>?_) fun _ _ h'=>h'.elim))))))
  refine wpAny_bind (wpAny_runOwn (codeAny_mono h₄ fun r s₅ hr=>?_))
  obtain ⟨rfl,hm⟩:=hr
  exact wpAny_pure ⟨rfl,hm⟩
theorem aAd {elt t1 i1 t2 i2:Expr} {scope:Scope} {pos:Pos} {it acc:Value} {env:Env} (I:Nat→Shared→Prop)
  (turn:∀ n s,I n s→wpAny (model prog w) A (pyNext it) (fun r s₁=>match r with
   | none=>R (.ok .next) s₁
   | some v=>wpAny (model prog w) A (letOwnedTupleGo t2 it v) (fun _ s1=>wpAny (model prog w) A (assign t2 env v) (fun _ s₂ =>
     wpAny (model prog w) A (eval elt env) (fun x s₄ =>
       wpAny (model prog w) A (call (.builtin "list.append") [acc,x]) (fun _ s₅=>∃ m,m < n∧I m s₅) (fun _ _=>False) s₄) (fun _ _=>False) s₂) (fun _ _=>False) s1) (fun _ _=>False) s₁) (fun _ _=>False) s)
  (n:Nat) (h:I n s) :
  codeAny (model prog w) A (.compLoop (.ListComp elt [⟨t1,i1,[],0⟩,⟨t2,i2,[],0⟩] scope pos) 1 it acc env) R s:=by
 refine codeAny_loop rfl I (fun n s hI=>?_) n h
 show wpAny _ A ((compTurn (.ListComp elt [⟨t1,i1,[],0⟩,⟨t2,i2,[],0⟩] scope pos) 1 it acc env).onRaise (fun x=>do noteFrame x env; theTreesLotGoes x)) _ _ s
 refine wpAny_noted ?_
 rw [aAb]
 refine wpAny_bind (wpAny_standAt (wpAny_bind (wpAny_mono (turn n s hI) (fun r s₁ h₁=>?_) fun _ _ h'=>h'.elim)))
 cases r with
 | none=>exact wpAny_pure h₁
 | some v =>
  refine wpAny_bind (wpAny_mono h₁ (fun _ s1 h1=>wpAny_bind (wpAny_mono h1 (fun _ s₂ h₂=>?_) fun _ _ h'=>h'.elim)) fun _ _ h'=>h'.elim)
  exact wpAny_bind (wpAny_bind (wpAny_mono h₂ (fun x s₄ h₄=>wpAny_bind (wpAny_mono h₄ (fun _ s₅ h₅=>wpAny_pure (wpAny_pure ⟨rfl,h₅⟩)) fun _ _ h'=>h'.elim)) fun _ _ h'=>h'.elim))
end
noncomputable def tIn (D:Addr) (wi:TI) (g:TG) (te:TE) (NX:St→Hp→Prop) (σ:St) (H:Hp):Prop:=wi σ H fun J H1=>∃ W:Nat→Nat→St→Hp→Prop,(∃ m,W 0 m σ H1)∧∀ i m σ H,W i m σ H →
 (J.stop i H∧NX σ H)∨(J.go i H∧∃ N:St→Hp→Prop,(∀ σ' H',N σ' H'→∃ m',m' < m∧W (i + 1) m' σ' H')∧∀ x H',J.yld i H x H'→g x σ H' fun σ2 H2=>te σ2 H2 fun y H5=>∃ xs,H5 D=some (.lst xs)∧xs.length < sizeLine∧N σ2 (upd H5 D (.lst (xs++[y]))))
noncomputable def aHs (mp:List (Option Nat)) (wi:TI) (g:Addr→Shared→Hp→List Addr→TG) (wi2:Addr→Shared→Hp→List Addr→TI) (g2:Addr→Shared→Hp→List Addr→TG) (te:Addr→Shared→Hp→List Addr→TE):TE:=fun σ H Q=>wi σ H fun J H1=>∀ (D:Addr),H1 D=none→∀ (C:Addr) (s2:Shared) (fp:List Addr),
 ∃ W:Nat→Nat→St→Hp→Prop,(∃ m,W 0 m (zp mp σ) (upd H1 D (.lst [])))∧∀ i m σ2 H2,W i m σ2 H2 →
  (J.stop i H2∧Q (.ref D) H2)∨(J.go i H2∧∃ N:St→Hp→Prop,(∀ σ' H',N σ' H'→∃ m',m' < m∧W (i + 1) m' σ' H')∧∀ x H',J.yld i H2 x H'→g C s2 H1 fp x σ2 H' fun σ3 H3=>tIn D (wi2 C s2 H1 fp) (g2 C s2 H1 fp) (te C s2 H1 fp) N σ3 H3)
noncomputable def tSet2 (i:Nat) (t:TE):TS:=fun D σ H=>t σ H fun v H1=>D.nx (σ.set i (some v)) H1
section
variable {X:Cx}
theorem aJD {elt t1 i1 t2 i2:Expr} {scope:Scope} {pos:Pos} {wi:TI} {g:TG} {te:TE} {D:Addr} {NX:St→Hp→Prop} (hc:X.calm=true) (hx:X.xe=fun _ _=>False) (hi:PI X t2 i2 wi) (hg:PG X t2 g) (he:PE X elt te)
  {pins:List (Addr×Obj)} {s:Shared} {σ:St} {H:Hp} {R:Shared→Prop} (I:Inv X pins σ H s) (h:tIn D wi g te NX σ H) (fin:∀ σ' H' s',Inv X pins σ' H' s'→NX σ' H'→R s') :
  wpAny (model X.prog X.w) X.A (eval i2 X.env) (fun x s₃=>wpAny (model X.prog X.w) X.A (pyIter x) (fun it2 s₄ =>
   codeAny (model X.prog X.w) X.A (.compStart (.ListComp elt [⟨t1,i1,[],0⟩,⟨t2,i2,[],0⟩] scope pos) 1 it2 (.ref D) X.env) (fun r s₅=>r=.ok .next∧R s₅) s₄) (fun _ _=>False) s₃) (fun _ _=>False) s:=by
 have h0:=hi pins s σ H _ I h
 rw [hx] at h0
 refine thn h0 fun v s1 h1=>thn h1 fun itv s2 h2=>?_
 obtain ⟨it,fp,tn,J,H2,e,I2,T,st2,f2,W,⟨m0,w0⟩,turn⟩:=h2
 subst e
 have stat:∀ {H':Hp},(∀ b∈fp,H' b=none)→∀ b∈fp,FpOk X pins H' b:=fun hn b hb=>⟨hn b hb,(f2 b hb).2⟩
 have loop:codeAny (model X.prog X.w) X.A (.compLoop (.ListComp elt [⟨t1,i1,[],0⟩,⟨t2,i2,[],0⟩] scope pos) 1 (.ref it) (.ref D) X.env) (fun r s₅=>r=.ok .next∧R s₅) s2:=by
  refine aAd (fun n s'=>∃ i σ' H',Inv X pins σ' H' s'∧tn i s'.heap∧(∀ b∈fp,H' b=none)∧W i n σ' H') ?_ m0 ⟨0,σ,H2,I2,st2,fun b hb=>(f2 b hb).1,w0⟩
  rintro n s3 ⟨i,σ3,H3,I3,st3,fr3,w3⟩
  rcases turn i n σ3 H3 w3 with ⟨stop,qn⟩ | ⟨go,N',hN,step⟩
  ·refine (thn (T.done X rfl rfl rfl hc i pins s3 σ3 H3 (fun _ _=>False) I3 (stat fr3) st3 stop) fun r s4 ⟨hr,I4'⟩=>?_)
   subst hr
   exact ⟨rfl,fin _ _ _ I4' qn⟩
  ·refine (thn (T.item X rfl rfl rfl hc i pins s3 σ3 H3 (fun _ _=>False) I3 (stat fr3) st3 go) fun r s4 ⟨u,hr,h4⟩=>?_)
   subst hr
   refine thn h4 fun _ s5 ⟨x,H5,I5,r5,y5,st5,fr5⟩=>?_
   have I5':=I5.pinned (stat fr5) (T.obj _ _ st5)
   have hg':=hg _ s5 σ3 H5 x u _ I5' r5 (step x H5 y5)
   rw [hx] at hg'
   refine (thn hg' fun _ s6 ⟨σ6,H6,I6,q6⟩=>?_)
   have again:∀ {σ7:St} {H7:Hp} {s7:Shared},Inv X (pins++jp fp s5.heap) σ7 H7 s7→N' σ7 H7→∃ m,m < n∧∃ i σ' H',Inv X pins σ' H' s7∧tn i s7.heap∧(∀ b∈fp,H' b=none)∧W i m σ' H':=fun {σ7 H7 s7} I7 n7=>by
    obtain ⟨m',hm,w7⟩:=hN σ7 H7 n7
    refine ⟨m',hm,i + 1,σ7,H7,I7.unpinned,T.keep _ _ _ st5 fun b hb o e=>(I7.pin (b,o) (List.mem_append_right _ (List.mem_append_right _ (zr hb e)))).1,fun b hb=>?_,w7⟩
    obtain ⟨o,e,d⟩:=T.obj _ _ st5 b hb
    exact (I7.pin (b,o) (List.mem_append_right _ (List.mem_append_right _ (zr hb e)))).2.1
   have he':=he _ s6 σ6 H6 _ I6 q6
   rw [hx] at he'
   refine (thn he' fun y s8 ⟨yv,H8,I8,ry,xs,hx8,hz,n8⟩=>?_)
   have ha:=yp (X:=X) _ s8 σ6 H8 (.ref D) [yv] (.ref D) [y] (fun _ H'=>N' σ6 H') I8 rfl (.cons ry .nil) ⟨_,xs,yv,rfl,rfl,hx8,hz,n8⟩
   rw [hx] at ha
   refine (thn ha fun _ s9 ⟨_,H9,I9,_,n9⟩=>?_)
   exact again I9 n9
 exact aAJ loop (T.self X.A 0 s2 _ _ st2 loop)
theorem aG3 {elt t1 i1 t2 i2:Expr} {scope:Scope} {pos:Pos} {N:List Str} {mp:List (Option Nat)} {cl:List (Str×Addr)} {wi:TI} {g:Addr→Shared→Hp→List Addr→TG} {wi2:Addr→Shared→Hp→List Addr→TI} {g2:Addr→Shared→Hp→List Addr→TG} {te:Addr→Shared→Hp→List Addr→TE}
  (hc:X.calm=true) (S:CompScopeC X N mp scope) (hcl:yX X.env.cells scope.names []=some cl) (hi:PI X t1 i1 wi)
  (hg:∀ C s2 H2 fp,PG (cxCC X N scope cl C s2 H2 fp) t1 (g C s2 H2 fp)) (hi2:∀ C s2 H2 fp,PI (cxCC X N scope cl C s2 H2 fp) t2 i2 (wi2 C s2 H2 fp)) (hg2:∀ C s2 H2 fp,PG (cxCC X N scope cl C s2 H2 fp) t2 (g2 C s2 H2 fp)) (he:∀ C s2 H2 fp,PE (cxCC X N scope cl C s2 H2 fp) elt (te C s2 H2 fp))
  (hs:∀ x,foldedSetIterable i1 X.env x=pure x) (hs2:∀ C x,foldedSetIterable i2 (compEnvC scope (cellsFrom (C + 1) scope.names cl) C X.env) x=pure x)
  {use:Option (Value→Sem Unit)} {PQ:Value→Shared→Prop} {pins:List (Addr×Obj)} {s:Shared} {σ:St} {H:Hp} {Q:VK} (I:Inv X pins σ H s) (h:aHs mp wi g wi2 g2 te σ H Q)
  (fin:∀ (H2:Hp) (s2:Shared) (fp:List Addr) (σ':St) (H':Hp) (s':Shared),Inv X pins σ H2 s2→(∀ b∈fp,FpOk X pins H2 b)→Inv (cxCC X N scope cl (s2.heap.objs.size + 1) s2 H2 fp) [] σ' H' s'→Q (.ref s2.heap.objs.size) H' →
   compPost (model X.prog X.w) X.A X.xe use PQ (.ref s2.heap.objs.size) (s2.heap.objs.size + 1) (.ok .next) s') :
  wpAny (model X.prog X.w) X.A (comprehension (.ListComp elt [⟨t1,i1,[],0⟩,⟨t2,i2,[],0⟩] scope pos) scope X.env (firstIterPos [⟨t1,i1,[],0⟩,⟨t2,i2,[],0⟩] pos) (newList []) (firstAsync [⟨t1,i1,[],0⟩,⟨t2,i2,[],0⟩]) (firstIter [⟨t1,i1,[],0⟩,⟨t2,i2,[],0⟩] X.env) use) PQ X.xe s:=by
 refine wpAny_comprehension_free (use:=use) rfl hs (yw hcl) S.kind S.names (thn (hi pins s σ H _ I h) fun v s1 h1=>thn h1 fun itv s2 h2=>?_)
 obtain ⟨it,fp,tn,J,H2,e,I2,T,st2,f2,h3⟩:=h2
 subst e
 refine wpAny_newObj_type (jf ?_)
 dsimp only
 have hn2:H2 s2.heap.objs.size=none:=I2.hok.fresh (Nat.le_refl _)
 generalize hH2:s2.heap.push { cls:=.type "list",dict:=none,data:=.seq ([]:List Value).toArray }=G2
 have hC:G2.objs.size=s2.heap.objs.size + 1:=by rw [← hH2,Heap.size_push]
 generalize hh1:pushCells (G2.push PySem.W.emptyDict) scope.names=h₁
 have old1:∀ b o,G2.get? b=some o→h₁.get? b=some o:=fun b o e=>by rw [← hh1]; exact pushCells_keeps _ _ b o (Heap.get?_push_of_some _ e)
 have old:∀ b o,s2.heap.get? b=some o→h₁.get? b=some o:=fun b o e=>old1 b o (hH2 ▸ Heap.get?_push_of_some _ e)
 have hD1:h₁.get? s2.heap.objs.size=some { cls:=.type "list",data:=.seq ([]:List Value).toArray }:=old1 _ _ (hH2 ▸ Heap.get?_push_size _ rfl)
 have hns₁:h₁.Ns (s2.heap.objs.size + 1) (fun _=>none):=by
  have e1:h₁.get? G2.objs.size=some PySem.W.emptyDict:=by rw [← hh1]; exact pushCells_keeps _ _ _ _ (Heap.get?_push_size _ rfl)
  rw [hC] at e1
  exact ⟨_,#[],_,e1,rfl,fun e he=>absurd he (by simp),fun _=>rfl⟩
 have cok:CellsOk h₁ (s2.heap.objs.size + 2) (ownCs scope (s2.heap.objs.size + 1)):=by
  have:=cellsFrom_ok scope.names (G2.push PySem.W.emptyDict) (s2.heap.objs.size + 2) [] ⟨fun _ _ hm=>(nomatch hm),List.Pairwise.nil⟩ (by rw [Heap.size_push,hC]; exact Nat.le_refl _)
  rw [Heap.size_push,hC,hh1] at this
  exact this
 obtain ⟨W,⟨m0,w0⟩,turn⟩:=h3 s2.heap.objs.size hn2 (s2.heap.objs.size + 1) s2 fp
 have I4:=aCM (tk:=s2.toks) I2 S hcl f2 (fun b hb=>let ⟨o,e,_⟩:=T.obj _ _ st2 b hb; ⟨o,e⟩) old hD1 hns₁ cok
 have st4:tn 0 h₁:=T.keep _ _ _ st2 fun b hb o e=>old b o e
 have stat:∀ {pl:List (Addr×Obj)} {H':Hp},(∀ b∈fp,H' b=none)→(∀ p∈pl,p.1 ∉ fp)→∀ b∈fp,FpOk (cxCC X N scope cl (s2.heap.objs.size + 1) s2 H2 fp) pl H' b:=fun {pl H'} hn hp b hb =>
  ⟨hn b hb,(I4.ok.exf b hb).1,I4.ok.exfs b hb,.inl hb,(I4.ok.exf b hb).2,fun p z q=>hp p (by simpa [cxC,cxCC] using z) (by rw [q]; exact hb)⟩
 have fr0:∀ b∈fp,(upd H2 s2.heap.objs.size (.lst [])) b=none:=fun b hb=>by
  obtain ⟨o,e,_⟩:=T.obj _ _ st2 b hb
  rw [zH (Nat.ne_of_lt (Heap.lt_size e))]
  exact (f2 b hb).1
 have loop:codeAny (model X.prog X.w) X.A (.compLoop (.ListComp elt [⟨t1,i1,[],0⟩,⟨t2,i2,[],0⟩] scope pos) 0 (.ref it) (.ref s2.heap.objs.size) (compEnvC scope (cellsFrom (s2.heap.objs.size + 1 + 1) scope.names cl) (s2.heap.objs.size + 1) X.env))
   (compPost (model X.prog X.w) X.A X.xe use PQ (.ref s2.heap.objs.size) (s2.heap.objs.size + 1)) { s2 with heap:=h₁,toks:=s2.toks }:=by
  refine aAc (fun n s'=>∃ i σ' H',Inv (cxCC X N scope cl (s2.heap.objs.size + 1) s2 H2 fp) [] σ' H' s'∧tn i s'.heap∧(∀ b∈fp,H' b=none)∧W i n σ' H') (hs2 _) ?_ m0 ⟨0,_,_,I4,st4,fr0,w0⟩
  rintro n s3 ⟨i,σ3,H3,I3,st3,fr3,w3⟩
  rcases turn i n σ3 H3 w3 with ⟨stop,qn⟩ | ⟨go,N',hN,step⟩
  ·refine (thn (T.done (cxCC X N scope cl (s2.heap.objs.size + 1) s2 H2 fp) rfl rfl rfl hc i [] s3 σ3 H3 (fun _ _=>False) I3 (stat fr3 (fun _ z=>nomatch z)) st3 stop) fun r s4 ⟨hr,I4'⟩=>?_)
   subst hr
   exact fin H2 s2 fp _ _ _ I2 f2 I4' qn
  ·refine (thn (T.item (cxCC X N scope cl (s2.heap.objs.size + 1) s2 H2 fp) rfl rfl rfl hc i [] s3 σ3 H3 (fun _ _=>False) I3 (stat fr3 (fun _ z=>nomatch z)) st3 go) fun r s4 ⟨u,hr,h4⟩=>?_)
   subst hr
   refine thn h4 fun _ s5 ⟨x,H5,I5,r5,y5,st5,fr5⟩=>?_
   have I5':=I5.pinned (pins:=[]) (stat fr5 (fun _ z=>nomatch z)) (T.obj _ _ st5)
   refine (thn (hg (s2.heap.objs.size + 1) s2 H2 fp _ s5 σ3 H5 x u _ I5' r5 (step x H5 y5)) fun _ s6 ⟨σ6,H6,I6,q6⟩=>?_)
   exact aJD (X:=cxCC X N scope cl (s2.heap.objs.size + 1) s2 H2 fp) hc rfl (hi2 (s2.heap.objs.size + 1) s2 H2 fp) (hg2 (s2.heap.objs.size + 1) s2 H2 fp) (he (s2.heap.objs.size + 1) s2 H2 fp) I6 q6 fun σ7 H7 s7 I7 n7=>by
    obtain ⟨m',hm,w7⟩:=hN σ7 H7 n7
    refine ⟨m',hm,i + 1,σ7,H7,I7.unpinned,T.keep _ _ _ st5 fun b hb o e=>(I7.pin (b,o) (List.mem_append_right _ (List.mem_append_right _ (zr hb e)))).1,fun b hb=>?_,w7⟩
    obtain ⟨o,e,d⟩:=T.obj _ _ st5 b hb
    exact (I7.pin (b,o) (List.mem_append_right _ (List.mem_append_right _ (zr hb e)))).2.1
 have goal:=codeAny_compStart_list loop (T.self X.A 0 { s2 with heap:=h₁,toks:=s2.toks } _ _ st4 loop)
 rw [hC]
 exact goal
theorem aII {i:Nat} {x:Str} {pos' spos:Pos} {elt t1 i1 t2 i2:Expr} {scope:Scope} {pos:Pos} {N:List Str} {mp:List (Option Nat)} {cl:List (Str×Addr)} {wi:TI} {g:Addr→Shared→Hp→List Addr→TG} {wi2:Addr→Shared→Hp→List Addr→TI} {g2:Addr→Shared→Hp→List Addr→TG} {te:Addr→Shared→Hp→List Addr→TE}
  (hN:X.N.Nodup) (hx:X.N[i]?=some x) (hl:Loc X.env.scope x) (hc:X.calm=true) (S:CompScopeC X N mp scope) (hcl:yX X.env.cells scope.names []=some cl) (hi:PI X t1 i1 wi)
  (hg:∀ C s2 H2 fp,PG (cxCC X N scope cl C s2 H2 fp) t1 (g C s2 H2 fp)) (hi2:∀ C s2 H2 fp,PI (cxCC X N scope cl C s2 H2 fp) t2 i2 (wi2 C s2 H2 fp)) (hg2:∀ C s2 H2 fp,PG (cxCC X N scope cl C s2 H2 fp) t2 (g2 C s2 H2 fp)) (he:∀ C s2 H2 fp,PE (cxCC X N scope cl C s2 H2 fp) elt (te C s2 H2 fp))
  (hs:∀ x,foldedSetIterable i1 X.env x=pure x:=by intro _; rfl) (hs2:∀ C x,foldedSetIterable i2 (compEnvC scope (cellsFrom (C + 1) scope.names cl) C X.env) x=pure x:=by intro _ _; rfl)
  (hsw:swapsWith (.ListComp elt [⟨t1,i1,[],0⟩,⟨t2,i2,[],0⟩] scope pos) (some (.Name x pos')) spos.line X.env=pure true:=by rfl)
  (hf:X.fn x=true∨X.env.scope.names.lookup x=some .local:=by first | exact .inl rfl | exact .inr rfl | assumption) :
  PS X (.Assign [.Name x pos'] (.ListComp elt [⟨t1,i1,[],0⟩,⟨t2,i2,[],0⟩] scope pos) spos) (tSet2 i (aHs mp wi g wi2 g2 te)):=by
 intro pins s σ H D I h
 rw [exec_Assign_Name_used _ _ _ _ hsw]
 refine wpAny_bind (wpAny_standAt ?_)
 rw [arm_evalThenUse_ListComp]
 refine wpAny_bind (wpAny_bind (thn (aG3 hc S hcl hi hg hi2 hg2 he hs hs2 (PQ:=fun _ s'=>SP X pins D .next s') I h fun H2 s2 fp σ' H' s' I2 f2 J' q=>?_) fun _ _ z=>wpAny_pure (wpAny_pure z)))
 ·obtain ⟨m,⟨oC,es,ep,ho,r⟩,_⟩:=id J'.loc
  have I3:Inv X pins σ H' s':=aCN (h'':=s'.heap) I2 f2 J' fun b o _ e=>e
  have nL:s2.heap.objs.size + 1≠X.env.locals:=Nat.ne_of_gt (Nat.lt_of_lt_of_le I2.lt (Nat.le_succ _))
  have nf:s2.heap.objs.size + 1 ∉ X.fs:=I2.nofs (Nat.le_succ _)
  have fp:=Inv.fpOk (H':=H') I2 (Nat.le_succ _) (b:=s2.heap.objs.size + 1) J'.free
  have I4:Inv X (pins++[(s2.heap.objs.size + 1,oC)]) σ H' s':=I3.pins_of fun p hp=>by
   rcases List.mem_append.mp hp with z | z
   ·exact I3.pin p (List.mem_append_right _ z)
   ·have e:p=(s2.heap.objs.size + 1,oC):=by simpa using z
    subst e
    exact ⟨ho,J'.free,nL,nf,fun v z=>by rw [r.1] at z; cases z⟩
  show wpAny _ _ (assign (.Name x pos') X.env _) _ _ _
  refine wpAny_bind (wpAny_standAt (wpAny_bindName (yj I4 hN hx hl (show RelV (.ref s2.heap.objs.size) (.ref s2.heap.objs.size) from rfl) (fun s5 I5=>?_) hf)))
  obtain ⟨hC,_⟩:=I5.pin (s2.heap.objs.size + 1,oC) (List.mem_append_right _ (List.mem_append_right _ (by simp)))
  refine ⟨m,⟨oC,es,ep,hC,r⟩,fun h' sb=>⟨_,H',?_,q⟩⟩
  have I6:Inv X pins (σ.set i (some (.ref s2.heap.objs.size))) H' s5:=I5.pins_of fun p hp=>I5.pin p (List.mem_append_right _ (List.mem_append_left _ hp))
  exact I6.turned (t':=s5.toks) (it:=s2.heap.objs.size + 1) (fun b o hb e=>sb.extBut b o hb e) fp.1 fp.2.1 fp.2.2.2.1 fp.2.2.2.2.1 fp.2.2.2.2.2
end
theorem aJE {K:PySem.W.Frag} {a D:Addr} {zs:List V} {g:TG} {te:TE} {NX:St→Hp→Prop} {σ:St} {H:Hp} (Pv:Nat→St→Hp→Prop) (h0:Pv 0 σ H) (hl:∀ i σ H,Pv i σ H→SqT K H a zs)
  (hs:∀ i x σ H,zs[i]?=some x→Pv i σ H→g x σ H fun σ2 H2=>te σ2 H2 fun y H5=>∃ xs,H5 D=some (.lst xs)∧xs.length < sizeLine∧Pv (i + 1) σ2 (upd H5 D (.lst (xs++[y])))) (hd:∀ σ H,Pv zs.length σ H→NX σ H) :
  ∃ W:Nat→Nat→St→Hp→Prop,(∃ m,W 0 m σ H)∧∀ i m σ H,W i m σ H →
   ((Itt K a).stop i H∧NX σ H)∨((Itt K a).go i H∧∃ N:St→Hp→Prop,(∀ σ' H',N σ' H'→∃ m',m' < m∧W (i + 1) m' σ' H')∧∀ x H',(Itt K a).yld i H x H'→g x σ H' fun σ2 H2=>te σ2 H2 fun y H5=>∃ xs,H5 D=some (.lst xs)∧xs.length < sizeLine∧N σ2 (upd H5 D (.lst (xs++[y])))):=by
 refine ⟨fun i m σ H=>m=zs.length - i∧i≤zs.length∧Pv i σ H,⟨zs.length,by simp,Nat.zero_le _,h0⟩,?_⟩
 rintro i m σ H ⟨rfl,hi,p⟩
 have q:=hl i σ H p
 by_cases hlt:i < zs.length
 ·refine .inr ⟨⟨zs,zs[i],q,by simp [hlt]⟩,Pv (i + 1),fun σ' H' p'=>⟨zs.length - (i + 1),by lia,rfl,hlt,p'⟩,fun x H' y=>?_⟩
  obtain ⟨e,y⟩:=y
  subst e
  exact hs i x σ _ (y zs q) p
 ·have e:i=zs.length:=by lia
  subst e
  exact .inl ⟨⟨zs,q,Nat.le_refl _⟩,hd σ H p⟩
theorem aHI {K:PySem.W.Frag} {a D:Addr} {xs:List V} {g:TG} {wi:TI} {g2:TG} {te:TE} {R:Hp→Prop} {σ:St} {H:Hp} (Pv:Nat→St→Hp→Prop) (h0:Pv 0 σ H) (hl:∀ i σ H,Pv i σ H→SqL K H a xs)
  (hs:∀ i x σ H,xs[i]?=some x→Pv i σ H→g x σ H fun σ3 H3=>tIn D wi g2 te (Pv (i + 1)) σ3 H3) (hd:∀ σ H,Pv xs.length σ H→R H) :
  ∃ W:Nat→Nat→St→Hp→Prop,(∃ m,W 0 m σ H)∧∀ i m σ2 H2,W i m σ2 H2 →
   ((Itl K a).stop i H2∧R H2)∨((Itl K a).go i H2∧∃ N:St→Hp→Prop,(∀ σ' H',N σ' H'→∃ m',m' < m∧W (i + 1) m' σ' H')∧∀ x H',(Itl K a).yld i H2 x H'→g x σ2 H' fun σ3 H3=>tIn D wi g2 te N σ3 H3):=by
 refine ⟨fun i m σ H=>m=xs.length - i∧i≤xs.length∧Pv i σ H,⟨xs.length,by simp,Nat.zero_le _,h0⟩,?_⟩
 rintro i m σ H ⟨rfl,hi,p⟩
 have q:=hl i σ H p
 by_cases hlt:i < xs.length
 ·refine .inr ⟨⟨xs,xs[i],q,by simp [hlt]⟩,Pv (i + 1),fun σ' H' p'=>⟨xs.length - (i + 1),by lia,rfl,hlt,p'⟩,fun x H' y=>?_⟩
  obtain ⟨e,y⟩:=y
  subst e
  exact hs i x σ _ (y xs q) p
 ·have e:i=xs.length:=by lia
  subst e
  exact .inl ⟨⟨xs,q,Nat.le_refl _⟩,hd σ H p⟩
end L2
namespace L2
open PySem PySem.Spec PyProof.Rows
noncomputable def XAt (h:Heap) (e:Addr) (cls:Value) (dx:Option Addr) (tb:Value):Prop:=∃ oe vs,h.get? e=some oe∧oe.cls=cls∧oe.dict=dx∧oe.data=.fields vs∧vs[1]?=some tb
noncomputable def TbAt (h:Heap) (T:Addr) (fl:Value):Prop:=∃ oT ts,h.get? T=some oT∧oT.data=.fields ts∧ts[3]?=some fl
section
variable {M:Model} {A:Around} {E:Value→Shared→Prop} {s:Shared}
theorem aAe {h base:Heap} {l:List Env} (hl:h.FunFrames base l) {b:Addr} (hb:b∈frs l) {o:Obj} (ho:h.get? b=some o) (vs:Array Value):o.data≠.fields vs:=by
 obtain ⟨_,o2,h2,hn⟩:=hl.mem hb
 rw [ho] at h2
 cases h2
 exact hn vs
theorem aG4 {base:Heap} {env:Env} {outer:List Env} {L e:Addr} {oe:Obj} {vs:Array Value} {hd:Value} {hn:Bool} {Q:Unit→Shared→Prop} (hfr:A.frames=some (env :: outer)) (hl:s.heap.FunFrames base (env :: outer)) (hf:env.frame=some L)
  (he:s.heap.get? e=some oe) (hdat:oe.data=.fields vs) (hsz:1 < vs.size)
  (h:∀ h' T,(∀ b o,s.heap.get? b=some o→b ∉ frs (env :: outer)→b≠e→h'.get? b=some o)→(∀ b o,s.heap.get? b=some o→b≠e→∃ sl,h'.get? b=some { o with slots:=sl })→s.heap.objs.size≤T→T≠e→XAt h' e oe.cls oe.dict (.ref T)→TbAt h' T (rawInt L) →
   Q () { s with heap:=h' }) :
  wpAny M A (frameOf env >>= fun a=>entryPlaceOf L hn >>= fun pl=>EntryCells.newEntry hd a .none (rawInt L) .none pl >>= fun b=>setField (.ref e) 1 b) Q E s:=by
 have ne:e ∉ frs (env :: outer):=fun z=>aAe hl z he vs hdat
 refine wpAny_bind (wpAny_frameOf_fun hfr hl hf fun h1 so=>wpAny_bind (wpAny_entryPlaceOf fun pl isP=>?_))
 unfold EntryCells.newEntry newFields
 refine wpAny_bind (wpAny_newObj_type ?_ (isP.sizeOk5 _ _ _ _ _))
 generalize hts:([hd,.ref L,.none,rawInt L,.none]++(if pl.isEmpty then List.replicate 6 Value.none else pl)).toArray=ts
 have h3:ts[3]?=some (rawInt L):=by rw [← hts]; simp
 have ge:h1.get? e=some oe:=(so.2.1 e ne).trans he
 have lt:e < h1.objs.size:=Heap.lt_size ge
 refine wpAny_setField (Heap.get?_push_of_some _ ge) hdat hsz ?_
 refine h _ h1.objs.size (fun b o hb nb nbe=>?_) (fun b o hb nbe=>?_) (Nat.le_of_eq so.1.symm) (Nat.ne_of_gt lt) ?_ ?_
 ·rw [Heap.get?_update_other _ _ (Ne.symm nbe)]
  exact Heap.get?_push_of_some _ ((so.2.1 b nb).trans hb)
 ·obtain ⟨sl,q⟩:=so.2.2 b o hb
  exact ⟨sl,by rw [Heap.get?_update_other _ _ (Ne.symm nbe)]; exact Heap.get?_push_of_some _ q⟩
 ·have dm:=Obj.data_mapFields hdat (·.setIfInBounds 1 (Value.ref h1.objs.size))
  refine ⟨_,_,Heap.get?_update_self _ (Heap.get?_push_of_some _ ge) (Obj.isFreed_of_fields dm),Obj.cls_mapFields _ _,?_,dm,by simp [hsz]⟩
  obtain ⟨c,d,dt,sl⟩:=oe
  cases dt <;> first | rfl | cases hdat
 ·exact ⟨_,ts,by rw [Heap.get?_update_other _ _ (Nat.ne_of_lt lt)]; exact Heap.get?_push_size _ rfl,rfl,h3⟩
end
structure Chg (fs ch:List Addr) (h h':Heap):Prop where
 keep:∀ b o,h.get? b=some o→b ∉ fs→b ∉ ch→h'.get? b=some o
 slot:∀ b o,h.get? b=some o→b ∉ ch→∃ sl,h'.get? b=some { o with slots:=sl }
structure Own (X:Cx) (H:Hp) (b:Addr):Prop where
 free:H b=none
 new:X.s₀.heap.objs.size≤b
 loc:b≠X.env.locals
 cel:∀ x c,X.env.cells.lookup x=some c→c≠b
 pin:∀ p∈X.pn,p.1≠b
section
variable {X:Cx} {σ:St} {H:Hp} {s:Shared}
theorem Inv.chg {ch:List Addr} {h':Heap} (I:Inv X [] σ H s) (c:Chg (frs X.stack) ch s.heap h') (hc:∀ b∈ch,Own X H b):Inv X [] σ H { s with heap:=h' }:=by
 refine I.call (g':=s.gens) (t':=s.toks) (d':=s.drawn) (ch:=ch) (H':=H) ⟨fun b o e _ nf nc=>c.keep b o e nf nc,fun b o e _ _ nc=>c.slot b o e nc,fun _ _ _ n _=>n,fun b o e nc=>let ⟨sl,q⟩:=c.slot b o e nc; ⟨_,q⟩,fun _ _ e=>e,fun _ _ _ e=>e,fun b ps e=>⟨#[],by rw [e]; simp⟩⟩ (fun b u e=>?_) I.bare fun b hb=>⟨.inr (hc b hb).new,(hc b hb).loc,(hc b hb).cel,fun p hp=>(hc b hb).pin p (by simpa using hp)⟩
 refine (I.hok b u e).stay (fun c' v hh q=>c.keep c' v q (fun z=>?_) fun z=>?_) (fun _ q=>q) fun _ _ q=>q
 ·have:=I.stkFree c' z
  rcases hh with rfl | hh
  ·rw [this] at e; cases e
  ·rw [this] at hh; cases hh
 ·have:=(hc c' z).free
  rcases hh with rfl | hh
  ·rw [this] at e; cases e
  ·rw [this] at hh; cases hh
theorem Inv.own_new (I:Inv X [] σ H s) {b:Addr} (hb:s.heap.objs.size≤b):Own X H b where
 free:=I.hok.fresh hb
 new:=Nat.le_trans I.sz hb
 loc:=Nat.ne_of_gt (Nat.lt_of_lt_of_le I.lt hb)
 cel:=fun x c e z=>by
  obtain ⟨v,q⟩:=I.cell x c e
  exact absurd (Nat.lt_of_lt_of_le q.lt (by rw [z]; exact hb)) (Nat.lt_irrefl _)
 pin:=fun p hp z=>absurd (Nat.lt_of_lt_of_le (Heap.lt_size (I.pin p (by simpa using hp)).1) (by rw [z]; exact hb)) (Nat.lt_irrefl _)
end
noncomputable abbrev XS:=Value→Option Addr→St→Hp→Prop
noncomputable def FlOk (mk:Option Bool) (fl:Value) (L:Addr):Prop:=match mk with
 | none=>fl=.none∨fl=rawInt L
 | some true=>fl=rawInt L
 | some false=>fl=.none
theorem FlOk.any {mk:Option Bool} {fl:Value} {L:Addr} (h:FlOk mk fl L):fl=.none∨fl=rawInt L:=by
 match mk,h with
 | none,h=>exact h
 | some true,h=>exact .inr h
 | some false,h=>exact .inl h
noncomputable def XBe (X:Cx) (E:XS) (tb:Bool) (mk:Option Bool) (ev:Value) (s:Shared):Prop:=∃ e cls dx σ H,ev=.ref e∧Inv X [] σ H s∧Own X H e ∧
 ((tb=false∧XAt s.heap e cls dx .none)∨∃ T fl,XAt s.heap e cls dx (.ref T)∧Own X H T∧T≠e∧TbAt s.heap T fl∧FlOk mk fl X.env.locals)∧E cls dx σ H
noncomputable abbrev XIn (X:Cx) (E:XS):Value→Shared→Prop:=XBe X E false none
theorem XBe.weak {X:Cx} {E:XS} {tb:Bool} {mk:Option Bool} {ev:Value} {s:Shared} (h:XBe X E tb mk ev s):XIn X E ev s:=by
 obtain ⟨e,cls,dx,σ,H,h1,h2,h3,h4,h5⟩:=h
 refine ⟨e,cls,dx,σ,H,h1,h2,h3,?_,h5⟩
 rcases h4 with ⟨_,h4⟩ | ⟨T,fl,a,b,c,d,f⟩
 ·exact .inl ⟨rfl,h4⟩
 ·exact .inr ⟨T,fl,a,b,c,d,f.any⟩
section
variable {X:Cx} {E:XS} {M:Model} {A:Around} {F:Value→Shared→Prop} {s:Shared} {ev:Value} {tb:Bool} {mk:Option Bool}
theorem aG5 {Q:Unit→Shared→Prop} (hA:A.frames=some X.stack) (hst:X.stack=X.env :: X.outer) (hf:X.env.frame=some X.env.locals) (h:XBe X E tb mk ev s) (hQ:∀ s',XBe X E true (some true) ev s'→Q () s'):wpAny M A (noteFrame ev X.env) Q F s:=by
 obtain ⟨e,cls,dx,σ,H,rfl,I,oe,ht,hE⟩:=h
 have fin:∀ {s1:Shared} {hd:Value} {ob:Obj} {vs:Array Value},Inv X [] σ H s1→s1.heap.get? e=some ob→ob.cls=cls→ob.dict=dx→ob.data=.fields vs→1 < vs.size →
   wpAny M A (frameOf X.env >>= fun a=>entryPlaceOf X.env.locals (hd != .none) >>= fun pl=>EntryCells.newEntry hd a .none (rawInt X.env.locals) .none pl >>= fun b=>setField (.ref e) 1 b) Q F s1:=by
  intro s1 hd ob vs I1 ge hcls hdx hdat hsz
  have fr:=I1.stack
  rw [hst] at fr
  refine aG4 (hA.trans (by rw [hst])) fr hf ge hdat hsz fun h' T k1 k2 hT ne xa ta=>?_
  rw [hcls,hdx] at xa
  have J:=I1.chg (ch:=[e]) (h':=h') ⟨fun b o q nf nc=>k1 b o q (by rw [← hst]; exact nf) (by simpa using nc),fun b o q nc=>k2 b o q (by simpa using nc)⟩ fun b hb=>by
   have:b=e:=by simpa using hb
   subst this; exact oe
  exact hQ _ ⟨e,cls,dx,σ,H,rfl,J,oe,.inr ⟨T,_,xa,I1.own_new hT,ne,ta,rfl⟩,hE⟩
 unfold noteFrame
 simp only [hf]
 rcases ht with ⟨_,ob,vs,ge,hcls,hdx,hdat,h1⟩ | ⟨T,fl,⟨ob,vs,ge,hcls,hdx,hdat,h1⟩,oT,ne,⟨ot,ts,gT,dT,h3⟩,hfl⟩
 ·refine wpAny_bind (wpAny_field ge hdat h1 ?_)
  rw [if_neg (by decide)]
  exact fin I ge hcls hdx hdat (Array.getElem?_eq_some_iff.mp h1).1
 ·refine wpAny_bind (wpAny_field ge hdat h1 ?_)
  rw [if_pos (show (Value.ref T != Value.none)=true by simp)]
  refine wpAny_bind (wpAny_field gT dT h3 ?_)
  rcases hfl.any with rfl | rfl
  ·rw [if_neg (show ¬ ((Value.none == rawInt X.env.locals)=true) by simp [rawInt])]
   refine wpAny_bind (wpAny_setField gT dT (Array.getElem?_eq_some_iff.mp h3).1 ?_)
   have J:=I.chg (ch:=[T]) (h':=s.heap.update T (Obj.mapFields (·.setIfInBounds 3 Value.none))) ⟨fun b o q _ nc=>(Heap.get?_update_other _ _ (fun z=>nc (by simp [z]))).trans q,fun b o q nc=>⟨o.slots,(Heap.get?_update_other _ _ (fun z=>nc (by simp [z]))).trans q⟩⟩ fun b hb=>by
    have:b=T:=by simpa using hb
    subst this; exact oT
   exact fin J ((Heap.get?_update_other _ _ ne).trans ge) hcls hdx hdat (Array.getElem?_eq_some_iff.mp h1).1
  ·rw [if_pos (show (rawInt X.env.locals == rawInt X.env.locals)=true by first | exact beq_self_eq_true _ | simp)]
   exact wpAny_pure (hQ s ⟨e,cls,dx,σ,H,rfl,I,oe,.inr ⟨T,_,⟨ob,vs,ge,hcls,hdx,hdat,h1⟩,oT,ne,⟨ot,ts,gT,dT,h3⟩,rfl⟩,hE⟩)
theorem qw {Q:Unit→Shared→Prop} {fr:Option Addr} (hfr:fr=none∨fr=some X.env.locals) (h:XBe X E true mk ev s) (hQ:∀ s',XBe X E true (some fr.isSome) ev s'→Q () s'):wpAny M A (setFlight ev fr) Q F s:=by
 obtain ⟨e,cls,dx,σ,H,rfl,I,oe,ht,hE⟩:=h
 rcases ht with ⟨z,_⟩ | ⟨T,fl,⟨ob,vs,ge,hcls,hdx,hdat,h1⟩,oT,ne,⟨ot,ts,gT,dT,h3⟩,hfl⟩
 ·cases z
 ·have h3s:=(Array.getElem?_eq_some_iff.mp h3).1
  unfold setFlight
  refine wpAny_bind (wpAny_field ge hdat h1 ?_)
  rw [if_pos (show (Value.ref T != Value.none)=true by simp)]
  refine wpAny_setField gT dT h3s (hQ _ ?_)
  generalize hx:(fr.elim Value.none fun f=>rawInt f)=x
  have J:=I.chg (ch:=[T]) (h':=s.heap.update T (Obj.mapFields (·.setIfInBounds 3 x))) ⟨fun b o q _ nc=>(Heap.get?_update_other _ _ (fun z=>nc (by simp [z]))).trans q,fun b o q nc=>⟨o.slots,(Heap.get?_update_other _ _ (fun z=>nc (by simp [z]))).trans q⟩⟩ fun b hb=>by
   have:b=T:=by simpa using hb
   subst this; exact oT
  have dm:=Obj.data_mapFields dT (·.setIfInBounds 3 x)
  refine ⟨e,cls,dx,σ,H,rfl,J,oe,.inr ⟨T,x,⟨ob,vs,(Heap.get?_update_other _ _ ne).trans ge,hcls,hdx,hdat,h1⟩,oT,ne,⟨_,_,Heap.get?_update_self _ gT (Obj.isFreed_of_fields dm),dm,by simp [h3s]⟩,?_⟩,hE⟩
  rcases hfr with rfl | rfl
  ·exact hx.symm
  ·exact hx.symm
theorem aJF {Q:Unit→Shared→Prop} (hf:X.env.frame=some X.env.locals) (h:XBe X E true mk ev s) (hQ:∀ s',XIn X E ev s'→Q () s') :
    wpAny M A (do if (← field ev 1) == .none then unsupported "frame.own-activation:exception-without-traceback"
                  setFlight ev X.env.frame) Q F s:=by
  obtain ⟨e,cls,dx,σ,H,rfl,I,oe,ht,hE⟩:=id h
  rcases ht with ⟨z,_⟩ | ⟨T,fl,⟨ob,vs,ge,hcls,hdx,hdat,h1⟩,r⟩
  · cases z
  · refine wpAny_bind (wpAny_field ge hdat h1 ?_)
    rw [if_neg (show ¬ ((Value.ref T == Value.none)=true) by simp)]
    first
      | exact qw (fr:=X.env.frame) (.inr hf) h fun s' q=>hQ s' q.weak
      | exact wpAny_bind (wpAny_pure (qw (fr:=X.env.frame) (.inr hf) h fun s' q=>hQ s' q.weak))
theorem XBe.frames (h:XBe X E tb mk ev s):X.A.frames=some X.stack:=by
 obtain ⟨_,_,_,_,_,_,I,_⟩:=h
 exact I.ok.frames
theorem aHJ (hst:X.stack=X.env :: X.outer) (hf:X.env.frame=some X.env.locals):PassesOwn M X.A X.env (XIn X E):=fun ev s h =>
 aG5 h.frames hst hf h fun s' q=>aJF hf q fun s'' z=>z
end
noncomputable def CXF (P:Program) (w:World):CXT:=fun l H s E ev s'=>∃ e cls dx H' T,ev=.ref e∧s'.os=s.os∧AllBare s'.gens∧Un (frs l) [] H H' s.heap s'.heap∧HOk P w H' s'.heap∧H' e=none∧s.heap.objs.size≤e ∧
 XAt s'.heap e cls dx (.ref T)∧T≠e∧H' T=none∧s.heap.objs.size≤T∧TbAt s'.heap T .none∧E cls dx H'
section
variable {X:Cx} {E:XS}
theorem aIJ {EK:XK} {M:Model} {A:Around} {F:Value→Shared→Prop} {s:Shared} {ev:Value} {tb:Bool} {mk:Option Bool} (hA:A.frames=some X.stack) (hst:X.stack=X.env :: X.outer) (hf:X.env.frame=some X.env.locals) (hex:X.ex=[])
  (h:XBe X (fun cls dx _ H=>EK cls dx H) tb mk ev s):wpAny M A (leaving X.env ev) (fun _ s''=>CXF X.prog X.w X.outer X.H₀ X.s₀ EK ev s'') F s:=by
 unfold leaving
 refine wpAny_bind (aG5 hA hst hf h fun s1 q=>qw (.inl rfl) q fun s2 q2=>?_)
 obtain ⟨e,cls,dx,σ,H,rfl,I,oe,ht,hE⟩:=q2
 rcases ht with ⟨z,_⟩ | ⟨T,fl,xa,oT,ne,ta,hfl⟩
 ·cases z
 ·have e1:fl=.none:=hfl
  subst e1
  have b:=I.base
  rw [hex] at b
  exact ⟨e,cls,dx,H,T,rfl,I.os,I.bare,b,I.hok,oe.free,oe.new,xa,ne,oT.free,oT.new,ta,hE⟩
theorem aJG {EK:XK} {pins:List (Addr×Obj)} {σ:St} {H:Hp} {s s':Shared} {ev:Value} (I:Inv X pins σ H s) (h:CXF X.prog X.w X.stack H s EK ev s') (hE:∀ cls dx H',EK cls dx H'→E cls dx σ H'):XIn X E ev s':=by
 obtain ⟨e,cls,dx,H',T,rfl,os,ba,un,hok,he,le,xa,ne,hT,lT,ta,q⟩:=h
 have J:=I.call' os un hok ba (fun b z=>absurd z (by simp))
 have J0:Inv X [] σ H' s':=J.pins_of fun p hp=>absurd hp (by simp)
 have own:∀ b,H' b=none→s.heap.objs.size≤b→Own X H' b:=fun b hb lb=>⟨hb,Nat.le_trans I.sz lb,Nat.ne_of_gt (Nat.lt_of_lt_of_le I.lt lb),fun x c e z=>by
  obtain ⟨v,q⟩:=I.cell x c e
  exact absurd (Nat.lt_of_lt_of_le q.lt (by rw [z]; exact lb)) (Nat.lt_irrefl _),fun p hp z=>absurd (Nat.lt_of_lt_of_le (Heap.lt_size (I.pin p (List.mem_append_left _ hp)).1) (by rw [z]; exact lb)) (Nat.lt_irrefl _)⟩
 exact ⟨e,cls,dx,σ,H',rfl,J0,own e he le,.inr ⟨T,.none,xa,own T hT lT,ne,ta,.inl rfl⟩,hE _ _ _ q⟩
end
noncomputable abbrev Cx.raises (X:Cx) (E:XS):Cx:=X.wish (XIn X E)
theorem PSs.wish {X:Cx} {f:Value→Shared→Prop} {st:List Stmt} {t:TS} (h:PSs (X.wish f) st t) (hf:∀ e s,f e s→X.xe e s):PSs X st t:=fun pins s σ H D I hw =>
 wpAny_mono (h pins s σ H D (I.wish _) hw) (fun _ _ q=>q.unwish) hf
section
variable {X:Cx} {E:XS} {k:Nat} {sp:Sp} {x:Str} {p pos:Pos} {e:Expr} {es:List Expr} {t:TA}
noncomputable def aJH (sp:Sp) (E:XS) (t:TA):TE:=fun σ H Q=>t σ H fun vs H1=>sp vs H1 Q fun cls dx H'=>E cls dx σ H'
theorem aAf (G:Def X.prog X.w X.K X.mg X.base (CXF X.prog X.w) k x sp) (hr:Room k X.A) (ha:PA (X.raises E) (e :: es) t) (hg:Gl (X.raises E) x:=by rfl) (hdb:(x == ("__debug__":Str))=false:=by decide)
  (he:starEach (e :: es) X.env=(false,eval e X.env) :: starEach es X.env:=by rfl) (hpl:(backTo pos (starEach es X.env)).any (·.1)=false:=by rfl) :
  PE (X.raises E) (.Call (.Name x p) (e :: es) [] pos) (aJH sp E t):=by
 obtain ⟨f,fd,ps,F,b,c,d⟩:=G.ex
 intro pins s σ H Q I h
 refine wpAny_Call_Name_kw (jo I hg c (PySem.W.callWith_K (h₀:=X.base) I.ok.mod.kin d
  (thn (ha pos pins s σ H _ I h) fun us s1 ⟨vs,H1,I1,r,q⟩=>⟨I1.kIn,?_⟩) he hpl) hdb)
 have hl:us.length=ps.length:=by rw [← r.length]; exact F.len _ _ _ _ q
 have bd:=b s1 us I1.kIn (by simpa using hl)
 rw [List.append_nil] at bd
 refine wpAny_call (codeAny_mono (F.run X.A X.stack s1 H1 ⟨us,[]⟩ us vs Q (fun cls dx H'=>E cls dx σ H') hr I1.unwish.env0 bd r q) fun r s' hq=>?_)
 cases r with
 | error ev=>exact aJG I1.unwish hq fun _ _ _ z=>z
 | ok fl =>
  cases fl with
  | ret u=>exact (I1.after hq:EP (X.raises E) pins σ Q u s')
  | _=>exact False.elim hq
end
section
variable {P:Program} {w:World} {K:PySem.W.Frag} {mg:Str→Option Value} {base:Heap}
theorem Fun.okX {x qual:Str} {st:Stmt} {f:Addr} {fd:FuncData} {N ps:List Str} {k:Nat} {sp:Sp} (F:Fun K x qual st f fd) (S:FnScope N ps (zF st)) (len:∀ vs H Q E,sp vs H Q E→vs.length=ps.length)
  (hbody:∀ (cdv:Value) (A:Around) (outer:List Env) (s:Shared) (H:Hp) (vs:List V) (Q:VK) (E:XK),Room k (A.deeper (envOfC qual (zF st) s.heap.objs.size f cdv))→sp vs H Q E →
   ∃ t,PSs ((cxOf (CXF P w) P w K mg base N qual (zF st) f cdv A outer s H E).raises fun cls dx _ H'=>E cls dx H') (zO st) t∧t { nx:=fun _ H'=>Q .non H',rt:=Q } (start N vs) H):FnOk P w K mg base (CXF P w) (k + 1) f fd ps sp:=by
 obtain ⟨oc,od,kV,doc,pm,an,cdv,ct,osl,rfl,lk,hcd⟩:=F.ex
 refine fn_of lk hcd S len fun A outer s H vs Q E hr hsp=>?_
 obtain ⟨t,ht,q⟩:=hbody cdv A outer s H vs Q E hr hsp
 exact ⟨t,ht.wish fun ev s' z=>aIJ z.frames rfl rfl rfl z,q⟩
end
section
variable {X:Cx} {pins:List (Addr×Obj)} {σ:St} {H:Hp} {s:Shared}
noncomputable abbrev Cx.pinTo (X:Cx) (ps:List (Addr×Obj)):Cx:={ X with pn:=X.pn++ps }
noncomputable abbrev Cx.suite (X:Cx) (ev:Value) (ps:List (Addr×Obj)):Cx:={ X with pn:=X.pn++ps,A:=X.A.mark (some ev),calm:=false,xe:=fun _ _=>False }
theorem Inv.pinTo (I:Inv X pins σ H s):Inv (X.pinTo pins) [] σ H s:=by
 obtain ⟨ok,a1,a2,a3,a4,a5,a6,a7,a8,a9,a10⟩:=I
 exact ⟨⟨ok.mod,ok.kind,ok.glob,ok.blt,ok.above,ok.inj,ok.has,ok.cab,ok.hd,ok.frames,ok.stk,ok.exf,ok.bs,ok.bsz,ok.noex,ok.exfs,ok.funs,ok.frf⟩,a1,a2,a3,a4,a5,a6,a7,fun p hp=>a8 p (by simpa using hp),a9,a10⟩
theorem Inv.unpinTo (I:Inv (X.pinTo pins) [] σ H s):Inv X pins σ H s:=by
 obtain ⟨ok,a1,a2,a3,a4,a5,a6,a7,a8,a9,a10⟩:=I
 exact ⟨⟨ok.mod,ok.kind,ok.glob,ok.blt,ok.above,ok.inj,ok.has,ok.cab,ok.hd,ok.frames,ok.stk,ok.exf,ok.bs,ok.bsz,ok.noex,ok.exfs,ok.funs,ok.frf⟩,a1,a2,a3,a4,a5,a6,a7,fun p hp=>a8 p (by simpa using hp),a9,a10⟩
theorem Inv.insuite {ev:Value} {ps:List (Addr×Obj)} (I:Inv (X.pinTo pins) ps σ H s):Inv (X.suite ev pins) ps σ H s:=by
 obtain ⟨ok,a1,a2,a3,a4,a5,a6,a7,a8,a9,a10⟩:=I
 exact ⟨⟨ok.mod,ok.kind,ok.glob,ok.blt,ok.above,ok.inj,ok.has,ok.cab,(fun z=>by cases z),ok.frames,ok.stk,ok.exf,ok.bs,ok.bsz,ok.noex,ok.exfs,ok.funs,ok.frf⟩,a1,a2,a3,a4,a5,a6,a7,a8,a9,a10⟩
theorem Inv.outsuite {ev:Value} {ps:List (Addr×Obj)} (I:Inv (X.suite ev pins) ps σ H s) (h0:X.Ok):Inv (X.pinTo pins) ps σ H s:=by
 obtain ⟨ok,a1,a2,a3,a4,a5,a6,a7,a8,a9,a10⟩:=I
 exact ⟨⟨ok.mod,ok.kind,ok.glob,ok.blt,ok.above,ok.inj,ok.has,ok.cab,h0.hd,ok.frames,ok.stk,ok.exf,ok.bs,ok.bsz,ok.noex,ok.exfs,ok.funs,ok.frf⟩,a1,a2,a3,a4,a5,a6,a7,a8,a9,a10⟩
theorem Inv.track {e:Addr} {o:HO} (I:Inv X [] σ H s) (oe:Own X H e) (new:ObjOk X.prog X.w (upd H e o) s.heap e o):Inv X [] σ (upd H e o) s:=by
 have st:Inv X [] σ (upd H e o) { s with heap:=s.heap,gens:=s.gens,drawn:=s.drawn,toks:=s.toks }:=by
  refine I.step (ch:=[e]) (fun b hb=>?_) (fun b o' _ _ _ q _=>q) (fun b o' _ _ _ q _=>⟨o'.slots,q⟩) (fun b o' hb _ n=>?_) (fun b o' _ q=>⟨o',q⟩) (fun b xs q=>?_) (fun b ob u q=>?_) (fun b ps q=>⟨#[],?_⟩) (fun m q=>q) (fun b u q=>?_) I.bare
  ·have:b=e:=by simpa using hb
   subst this
   exact ⟨.inr oe.new,oe.loc,oe.cel,fun p hp=>oe.pin p (by simpa using hp)⟩
  ·rw [zH (fun z=>hb (by simp [z]))]; exact n
  ·rw [zH (zC q oe.free)]; exact q
  ·rw [zH (zC q oe.free)]; exact q
  ·rw [zH (zC q oe.free),q]; simp
  ·by_cases hb:b=e
   ·subst hb
    rw [zB] at q
    cases q
    exact new
   ·rw [zH hb] at q
    exact (I.hok b u q).stay (fun _ _ _ r=>r) (fun c r=>by rw [zH (zC r oe.free)]; exact r) fun c xs r=>by rw [zH (zC r oe.free)]; exact r
 exact st
end
end L2
namespace L2
open PySem PySem.Spec PyProof.Rows
noncomputable def xO (fr:Bool) (cls:Value) (dx:Option Addr) (e:Addr):HO:=.ext fun h=>∃ oe vs,h.get? e=some oe∧oe.cls=cls∧oe.dict=dx∧oe.data=.fields vs∧(fr=true→∃ a0,vs=#[a0,.none,.none,.none,.bool false,.none])
theorem xO_ok {P:Program} {w:World} {H:Hp} {h:Heap} {fr:Bool} {cls:Value} {dx:Option Addr} {e:Addr} {oe:Obj} {vs:Array Value} (h1:h.get? e=some oe) (h2:oe.cls=cls) (h3:oe.dict=dx) (h4:oe.data=.fields vs)
  (h5:fr=true→∃ a0,vs=#[a0,.none,.none,.none,.bool false,.none]):ObjOk P w H h e (xO fr cls dx e):=⟨⟨oe,vs,h1,h2,h3,h4,h5⟩,⟨oe,h1⟩,fun _ _ ⟨o,vs,y1,y2⟩ k=>⟨o,vs,k o y1,y2⟩⟩
noncomputable def XCls (K:PySem.W.Frag) (C:Addr) (bm:List Value):Prop:=bm.contains (.type "BaseException")=true∧∃ nm q N bs hdct sn sub ab col dd k0 k1 k2 k3 k5 newId,K.lookup C=some (excClassObj nm q C N bs bm hdct sn sub ab col dd k0 k1 k2 k3 k5 newId)
section
variable {X:Cx} {pins:List (Addr×Obj)} {σ:St} {H:Hp} {s:Shared}
theorem aG6 {M:Model} {A:Around} {E:Value→Shared→Prop} {i:Nat} {n:Str} {pos:Pos} {Q:Unit→Shared→Prop} (I:Inv X pins σ H s) (hN:X.N.Nodup) (hi:X.N[i]?=some n) (hk:X.env.scope.names.lookup n=some .local)
  (h:∀ s',Inv X pins (σ.set i none) H s'→Q () s'):wpAny M A (do bindName X.env n .none; unbindBehindTheSuite X.env n pos) Q E s:=by
 obtain ⟨m,hn,hl⟩:=id I.loc
 have hc:(X.env.scope.kind == .class || (X.env.scope.kind == .module && X.env.locals != X.env.globals))=false:=by rw [I.ok.kind]; rfl
 have old:∀ b o,X.s₀.heap.get? b=some o→b≠X.env.locals:=fun b o q z=>by
  have:=Nat.lt_of_lt_of_le (Heap.lt_size q) I.ok.above
  rw [z] at this
  exact Nat.lt_irrefl _ this
 have hiσ:i < σ.length:=by rw [I.len]; exact (List.getElem?_eq_some_iff.mp hi).1
 refine wpAny_nameGoes_keeps hk hn hc fun h' v hn' hs=>h _ ?_
 refine ⟨I.ok,I.os,I.bare,⟨fun b o q n1 n2 n3=>?_,fun b o q n1 n2 n3=>?_,I.base.free,fun b o q n3=>?_,I.base.tups,I.base.frzs,I.base.tbls⟩,⟨_,hn',fun j y v' e1 e2 e3=>?_⟩,fun y c q=>?_,I.free,I.freeC,fun p hp=>?_,fun b ob q=>?_,by simpa using I.len⟩
 ·rw [← I.base.keep b o q n1 n2 n3]; exact hs.2 b (old b o q)
 ·obtain ⟨sl,q1⟩:=I.base.slot b o q n1 n2 n3
  exact ⟨sl,by rw [← q1]; exact hs.2 b (old b o q)⟩
 ·obtain ⟨o',q1⟩:=I.base.there b o q n3
  exact ⟨o',by rw [← q1]; exact hs.2 b (old b o q)⟩
 ·by_cases hj:j=i
  ·subst hj
   rw [List.getElem?_set_self hiσ] at e2
   cases e2
  ·rw [List.getElem?_set_ne (Ne.symm hj)] at e2
   obtain ⟨u,r,q⟩:=hl j y v' e1 e2 e3
   have hy:y≠n:=fun z=>hj (aAV hN e1 (z ▸ hi))
   refine ⟨u,r,?_⟩
   rcases q with ⟨k,q⟩ | ⟨k,c,q,z⟩
   ·exact .inl ⟨k,by simp only [hy,if_false]; exact q⟩
   ·exact .inr ⟨k,c,q,z.sameBut hs (I.cne y c q)⟩
 ·obtain ⟨w',z⟩:=I.cell y c q
  exact ⟨w',z.sameBut hs (I.cne y c q)⟩
 ·obtain ⟨q,n1,n2,n3,d⟩:=I.pin p hp
  exact ⟨(hs.2 p.1 n2).trans q,n1,n2,n3,d⟩
 ·refine (I.hok b ob q).stay (fun c w' hh r=>(hs.2 c ?_).trans r) (fun _ r=>r) fun _ _ r=>r
  rintro rfl
  rcases hh with rfl | hh
  ·rw [I.free] at q; cases q
  ·rw [I.free] at hh; cases hh
end
section
variable {M:Model} {A:Around} {E:Value→Shared→Prop}
theorem aE1 {h:Heap} {g:Array GenState} {d:Drawn} {t:Nat} {os:OsState} {e C W:Addr} {oe:Obj} {bm bw:List Value} {Q:Bool→Shared→Prop} {nm q nm' q':Str} {N N':Addr} {bs bs':List Value} {hdct hdct':Bool} {sn sn':List Str} {sub sub':List Value} {ab ab':Bool} {col col':Option Bool} {dd dd':Option Addr} {k0 k1 k2 k3 k5 l0 l1 l2 l3 l5:Option Value} {newId newId':String}
    (hC:h.get? C=some (excClassObj nm q C N bs bm hdct sn sub ab col dd k0 k1 k2 k3 k5 newId)) (hW:h.get? W=some (excClassObj nm' q' W N' bs' bw hdct' sn' sub' ab' col' dd' l0 l1 l2 l3 l5 newId'))
    (he:h.get? e=some oe) (hcls:oe.cls=.ref C) (hb:bw.contains (.type "BaseException")=true) (hm:(Value.ref C :: bm).contains (.ref W)=true) (hq:Q true ⟨h,g,d,t,os⟩):wpAny M A (excMatches (.ref e) (.ref W)) Q E ⟨h,g,d,t,os⟩:=by
  have hwB:(Value.ref W :: bw).contains (.type "BaseException")=true:=by rw [List.contains_cons,hb,Bool.or_true]
  have nt:=tc_notTuple
  unfold excMatches
  repeat (first | (with_reducible refine wpAny_loadPart_at he ?_; rw [hcls]) | with_reducible refine wpAny_loadPart_at hW ?_
                | (with_reducible refine wpAny_isSubtype_exc hW ?_; rw [hwB]) | (with_reducible refine wpAny_isSubtype_exc hC ?_; rw [hm]) | wp_step)
  exact hq
end
noncomputable def tEx (K:PySem.W.Frag) (C:Addr) (i:Nat) (ts:TS) (D:Ends):XS:=fun cls dx σ H=>(∃ Ce bm,cls=.ref Ce∧XCls K Ce bm∧(Value.ref Ce :: bm).contains (.ref C)=true) ∧
 ∀ e,H e=none→ts { nx:=fun σ' H'=>D.nx (σ'.set i none) H',rt:=D.rt,bk:=fun σ' H'=>D.bk (σ'.set i none) H',ct:=fun σ' H'=>D.ct (σ'.set i none) H' } (σ.set i (some (.ref e))) (upd H e (xO false cls dx e))
noncomputable def tTry (K:PySem.W.Frag) (C:Addr) (i:Nat) (tb:XS→TS) (ts:TS):TS:=fun D σ H=>tb (tEx K C i ts D) D σ H
section
variable {X:Cx} {i:Nat} {n x:Str} {C:Addr} {bw:List Value} {body suite:List Stmt} {b0:Stmt} {np hp pos:Pos} {tb:XS→TS} {ts:TS}
theorem SP.unpin {E:XS} {pins:List (Addr×Obj)} {D:Ends} {f:Flow} {s:Shared} (h:SP ((X.pinTo pins).raises E) [] D f s):SP X pins D f s:=by
 match f,h with
 | .next,⟨σ,H,I,q⟩=>exact ⟨σ,H,I.unwish.unpinTo,q⟩
 | .brk,⟨σ,H,I,q⟩=>exact ⟨σ,H,I.unwish.unpinTo,q⟩
 | .cont,⟨σ,H,I,q⟩=>exact ⟨σ,H,I.unwish.unpinTo,q⟩
 | .ret u,⟨v,σ,H,I,r,q⟩=>exact ⟨v,σ,H,I.unwish.unpinTo,r,q⟩
theorem aJI (hN:X.N.Nodup) (hi:X.N[i]?=some n) (hk:X.env.scope.names.lookup n=some .local) (hg:Gl X x) (hm:X.mg x=some (.ref C)) (hC:XCls X.K C bw) (hst:X.stack=X.env :: X.outer) (hf:X.env.frame=some X.env.locals)
  (hb:∀ EX pins,PSs ((X.pinTo pins).raises EX) body (tb EX)) (hs:∀ e pins,PSs (X.suite (.ref e) pins) (b0 :: suite) ts) (hd:(x == ("__debug__":Str))=false:=by decide) :
  PS X (.Try body [.ExceptHandler (some (.Name x np)) (some n) (b0 :: suite) hp] [] [] pos) (tTry X.K C i tb ts):=by
 intro pins s σ H D I h
 have ok:=I.ok
 refine wpAny_Try_except (wpAny_mono (hb (tEx X.K C i ts D) pins [] s σ H D (I.pinTo.wish _) h) (fun f s1 q=>?_) fun ev s1 q=>?_)
 ·have q':=SP.unpin q
  cases f with
  | next =>
   show wpAny _ _ (execs [] _) _ _ _
   exact (wpAny_execs_nil q':_)
  | _=>exact q'
 ·have q0:XIn (X.pinTo pins) (tEx X.K C i ts D) ev s1:=q
  refine aG5 (X:=X.pinTo pins) q0.frames hst hf q0 fun s2 q2=>qw (X:=X.pinTo pins) (.inl rfl) q2 fun s3 q3=>?_
  obtain ⟨e,cls,dx,σ1,H1,rfl,I1,oe,ht,hE⟩:=id q3
  obtain ⟨⟨Ce,bm,rfl,hCe,hmro⟩,hgo⟩:=hE
  obtain ⟨hbB,nm',q',N',bs',hdct',sn',sub',ab',col',dd',l0,l1,l2,l3,l5,newId',lkW⟩:=hC
  obtain ⟨hbC,nm,qn,N,bs,hdct,sn,sub,ab,col,dd,k0,k1,k2,k3,k5,newId,lkC⟩:=hCe
  have ge:∃ oe,s3.heap.get? e=some oe∧oe.cls=.ref Ce:=by
   rcases ht with ⟨_,ob,vs,g1,g2,_⟩ | ⟨T,fl,⟨ob,vs,g1,g2,_⟩,_⟩
   ·exact ⟨ob,g1,g2⟩
   ·exact ⟨ob,g1,g2⟩
  obtain ⟨ob,ge,gc⟩:=ge
  have gW:=I1.kIn C _ lkW
  have gC:=I1.kIn Ce _ lkC
  refine wpAny_handleBy_cons (codeAny_handlers_test (jo (X:=X.suite (.ref e) pins) (I1.insuite (X:=X) (ev:=.ref e)) hg hm ?_ hd)) (by intro z; cases z)
  obtain ⟨h3,g3,d3,t3,os3⟩:=s3
  refine aE1 gC gW ge gc hbB hmro ?_
  refine codeAny_handlers_suite_as (qw (X:=X.pinTo pins) (.inl rfl) q3 fun s4 q4=>?_)
  obtain ⟨e',cls4,dx4,σ4,H4,ee,I4,oe4,ht4,hE4⟩:=q4
  cases ee
  obtain ⟨_,hgo4⟩:=hE4
  have xa:∃ oe vs,s4.heap.get? e=some oe∧oe.cls=cls4∧oe.dict=dx4∧oe.data=.fields vs:=by
   rcases ht4 with ⟨_,ob,vs,g1,g2,g3,g4,_⟩ | ⟨T,fl,⟨ob,vs,g1,g2,g3,g4,_⟩,_⟩
   ·exact ⟨ob,vs,g1,g2,g3,g4⟩
   ·exact ⟨ob,vs,g1,g2,g3,g4⟩
  obtain ⟨oe5,vs5,x1,x2,x3,x4⟩:=xa
  have J:=I4.track oe4 (o:=xO false cls4 dx4 e) (xO_ok x1 x2 x3 x4 fun z=>by cases z)
  refine yj (X:=X.pinTo pins) J hN hi (.inl hk) (show RelV (.ref e) (.ref e) from rfl) (fun s5 J5=>?_) (.inr hk)
  refine wpAny_mono (hs e pins [] s5 _ _ _ (J5.insuite (X:=X) (ev:=.ref e)) (hgo4 e oe4.free)) (fun f s6 q6=>?_) fun _ _ z=>z.elim
  have goes:∀ {σ6:St} {H6:Hp} {R:Unit→Shared→Prop},Inv (X.suite (.ref e) pins) [] σ6 H6 s6→(∀ s7,Inv X pins (σ6.set i none) H6 s7→R () s7)→wpAny (model X.prog X.w) X.A (do bindName X.env n .none; unbindBehindTheSuite X.env n hp) R X.xe s6:=fun I6 hR =>
   aG6 (X:=X.pinTo pins) (I6.outsuite ok) hN hi hk fun s7 I7=>hR s7 I7.unpinTo
  match f,q6 with
  | .next,⟨σ6,H6,I6,z⟩=>exact goes I6 fun s7 I7=>⟨_,H6,I7,z⟩
  | .brk,⟨σ6,H6,I6,z⟩=>exact goes I6 fun s7 I7=>⟨_,H6,I7,z⟩
  | .cont,⟨σ6,H6,I6,z⟩=>exact goes I6 fun s7 I7=>⟨_,H6,I7,z⟩
  | .ret u,⟨v,σ6,H6,I6,r,z⟩=>exact goes I6 fun s7 I7=>⟨v,_,H6,I7,r,z⟩
end
end L2
namespace L2
open PySem PySem.Spec PyProof.Rows
noncomputable abbrev vMro:List Value:=[.type "ValueError",.type "Exception",.type "BaseException",.type "object"]
theorem aAg {K:PySem.W.Frag} {bB:List Value} {v:Value} (hv:bB.contains v=true):∀ {l:List Value},PySem.W.tailIn K bB l=true→l.contains v=true
 | [],e=>by
  have z:bB=[]:=beq_iff_eq.mp e
  rw [z] at hv
  exact hv
 | u :: r,e=>by
  unfold PySem.W.tailIn at e
  rcases Bool.or_eq_true_iff.mp e with q | q
  ·rw [beq_iff_eq.mp q]; exact hv
  ·split at q
   ·split at q
    ·simp only [Bool.and_eq_true] at q
     rw [List.contains_cons,aAg hv q.2,Bool.or_true]
    ·cases q
   ·cases q
theorem aCO {K:PySem.W.Frag} (self:Value):∀ {l:List Value},PySem.W.tailIn K vMro l=true→refuseLoop self "__setattr__" l=pure ()
 | [],e=>by cases beq_iff_eq.mp e
 | u :: r,e=>by
  unfold PySem.W.tailIn at e
  rcases Bool.or_eq_true_iff.mp e with q | q
  ·rw [beq_iff_eq.mp q]; exact PySem.F.store_ValueError.passes self
  ·split at q
   ·split at q
    ·simp only [Bool.and_eq_true] at q
     rw [refuseLoop_ref]
     exact aCO self q.2
    ·cases q
   ·cases q
structure XC (K:PySem.W.Frag) (C:Addr) (bm:List Value):Prop where
 lk:∃ nm q N bs sn sub ab col dd k0 k1 k2 k3 k5,K.lookup C=some (excClassObj nm q C N bs bm true sn sub ab col dd k0 k1 k2 k3 k5 "ValueError.__new__")
 tl:PySem.W.tailIn K vMro bm=true
 kp:PySem.W.keepIn K (.ref C)=true
 ga:PySem.W.findIn K (.ref C) "__getattribute__"=some (some (.builtin "BaseException.__getattribute__"))
 gh:PySem.W.findIn K (.ref C) "__getattr__"=some none
 gc:PySem.W.findIn K (.ref C) "__class__"=some (some (.builtin "object.__class__"))
 sa:PySem.W.findIn K (.ref C) "__setattr__"=some (some (.builtin "object.__setattr__"))
section
variable {K:PySem.W.Frag} {C W:Addr} {bm bw:List Value}
theorem XC.cls (c:XC K C bm):∃ cd,PySem.W.clsIn K C=some cd∧cd.mro=.ref C :: bm∧cd.hasDict=true:=by
 obtain ⟨nm,q,N,bs,sn,sub,ab,col,dd,k0,k1,k2,k3,k5,lk⟩:=c.lk
 exact ⟨_,by unfold PySem.W.clsIn; rw [lk],rfl,rfl⟩
theorem XC.mro (c:XC K C bm) (v:Value):PySem.W.mroIn K C v=some ((Value.ref C :: bm).contains v):=by
 obtain ⟨cd,h1,h2,_⟩:=c.cls
 unfold PySem.W.mroIn
 rw [h1,Option.bind_some,h2,if_neg (by simp)]
theorem XC.has (c:XC K C bm) {v:Value} (hv:vMro.contains v=true):(Value.ref C :: bm).contains v=true:=by rw [List.contains_cons,aAg hv c.tl,Bool.or_true]
theorem XC.xcls (c:XC K C bm):XCls K C bm:=by
 obtain ⟨nm,q,N,bs,sn,sub,ab,col,dd,k0,k1,k2,k3,k5,lk⟩:=c.lk
 exact ⟨aAg (by decide) c.tl,_,_,_,_,_,_,_,_,_,_,_,_,_,_,_,_,lk⟩
theorem XC.dict (c:XC K C bm):PySem.W.hasDictIn K C=true:=by
 obtain ⟨cd,h1,_,h3⟩:=c.cls
 unfold PySem.W.hasDictIn
 rw [h1]
 exact h3
theorem XC.ty (c:XC K C bm):PySem.W.typeIn K (.ref C)=some (.type "type"):=by
 obtain ⟨nm,q,N,bs,sn,sub,ab,col,dd,k0,k1,k2,k3,k5,lk⟩:=c.lk
 show (K.lookup C).map (·.cls)=_
 rw [lk]
 rfl
theorem aG7 (c:XC K C bm) (d:XC K W bw):PySem.W.kitOne K (.ref C) (.ref W)=some ((Value.ref C :: bm).contains (.ref W)):=by
 unfold PySem.W.kitOne
 by_cases q:C=W
 ·subst q
  rw [if_pos (by simp),List.contains_cons]
  simp
 ·obtain ⟨cd,h1,_,_⟩:=d.cls
  rw [if_neg (by simpa using q)]
  unfold PySem.W.kitCls
  dsimp only
  rw [h1,d.ty]
  exact c.mro _
theorem aJJ (c:XC K C bm):PySem.W.kitOne K (.ref C) (.type "ValueError")=some true:=by
 unfold PySem.W.kitOne
 rw [if_neg (by simp)]
 unfold PySem.W.kitCls
 dsimp only
 rw [if_pos (show PySem.W.kitMeta "ValueError"=true by with_unfolding_all rfl)]
 show PySem.W.mroIn K C _=_
 rw [c.mro,c.has (by decide)]
theorem XC.tail (c:XC K C bm) {h:Heap} (X:K.In h):OwnTail h vMro bm:=PySem.W.tail_of_in X c.tl
end
noncomputable abbrev xTup (us:List Value):Obj:={ cls:=.type "tuple",data:=.seq us.toArray }
noncomputable abbrev xNew (C t:Addr):Obj:={ cls:=.ref C,data:=.fields #[.ref t,.none,.none,.none,.bool false,.none] }
noncomputable abbrev xHp (h:Heap) (C:Addr) (us:List Value):Heap:=(h.push (xTup us)).push (xNew C h.objs.size)
section
variable {prog:Program} {w:World} {A:Around} {E:Value→Shared→Prop} {h:Heap} {g:Array GenState} {d:Drawn} {t:Nat} {os:OsState} {K:PySem.W.Frag} {C:Addr} {bm us:List Value}
theorem jj {b:Addr} {o:Obj} (e:h.get? b=some o):(xHp h C us).get? b=some o:=Heap.get?_push_of_some _ (Heap.get?_push_of_some _ e)
theorem aG8:(xHp h C us).get? (h.objs.size + 1)=some (xNew C h.objs.size):=by
 have:=Heap.get?_push_size (h.push (xTup us)) (o:=xNew C h.objs.size) rfl
 rwa [Heap.size_push] at this
theorem aJK {init:Value} {Q:Fin→Shared→Prop} (X:K.In h) (c:XC K C bm) (hu:us.length≤sizeLine) (hi:PySem.W.Looks (model prog w) h (typeLookup (.ref C) "__init__") (some init))
    (hb:∀ self,PySem.W.Looks (model prog w) h (bindSpecial init self) (init,[self]))
    (go:wpAny (model prog w) A (call init (.ref (h.objs.size + 1) :: us)) (fun r s'=>r=.none∧Q (.done (.ret (.ref (h.objs.size + 1)))) s') E ⟨xHp h C us,g,d,t,os⟩) :
    wpAny (model prog w) A (Builtin.«type.__call__» ⟨.ref C :: us,[]⟩) Q E ⟨h,g,d,t,os⟩:=by
  have F:=PySem.F.excBase_ValueError
  have T:=c.tail X
  obtain ⟨nm,qn,N,bs,sn,sub,ab,col,dd,k0,k1,k2,k3,k5,lk⟩:=c.lk
  have cC:=X _ _ lk
  repeat (first
    | with_reducible refine wpAny_loadPart_at cC ?_
    | with_reducible refine wpAny_madeBy_exc cC ?_
    | wp_step)
  refine codeAny_call_builtin_code (Code.quiet_builtin _ F.quiet) (wpAny_check_new_subT F T cC ?_)
  refine codeAny_exc_new_subT F T cC ?_ hu
  show wpAny _ _ _ _ _ _
  have c2:=jj (C:=C) (us:=us) cC
  have n2:(xHp h C us).get? (h.objs.size + 1)=some (xNew C h.objs.size):=aG8
  have self:(Value.ref C :: bm).contains (.ref C)=true:=by simp
  unfold isInstance
  repeat (first
    | with_reducible refine wpAny_loadPart_at n2 ?_
    | (with_reducible refine wpAny_isSubtype_exc c2 ?_; rw [self])
    | wp_step)
  show wpAny _ _ (typeLookup (.ref C) _) _ _ _
  refine (hi.keeps fun _ _=>jj).at ?_
  refine wpAny_holding (wpAny_bind (((hb _).keeps fun _ _=>jj).at ?_))
  refine wpAny_bind (wpAny_mono go (fun r s' z=>?_) fun _ _ z=>z)
  obtain ⟨rfl,z⟩:=z
  wp_walk
  exact z
theorem aJL {init:Value} {Q:Value→Shared→Prop} (X:K.In h) (c:XC K C bm) (hu:us.length≤sizeLine) (hi:PySem.W.Looks (model prog w) h (typeLookup (.ref C) "__init__") (some init))
    (hb:∀ self,PySem.W.Looks (model prog w) h (bindSpecial init self) (init,[self]))
    (go:wpAny (model prog w) (A.under (.builtin "type.__call__" ⟨.ref C :: us,[]⟩)) (call init (.ref (h.objs.size + 1) :: us)) (fun r s'=>r=.none∧Q (.ref (h.objs.size + 1)) s') E ⟨xHp h C us,g,d,t,os⟩) :
    wpAny (model prog w) A (call (.ref C) us) Q E ⟨h,g,d,t,os⟩:=by
  obtain ⟨nm,qn,N,bs,sn,sub,ab,col,dd,k0,k1,k2,k3,k5,lk⟩:=c.lk
  have cC:=X _ _ lk
  have l1:=tc_lookup
  have l2:=tc_bind (.ref C)
  have ty:(⟨h,g,d,t,os⟩:Shared).TypeIs (.ref C) "type":=⟨_,cC,rfl⟩
  refine wpAny_call (codeAny_of_tree ?_)
  show wpAny _ _ (callAny (.ref C) _) _ _ _
  repeat (any_goals (first
    | assumption
    | with_reducible refine wpAny_loadPart_at cC ?_
    | wp_step))
  refine ⟨rfl,?_⟩
  exact codeAny_call_builtin_at (Code.quiet_builtin _ (by decide +kernel)) entry_typeCall (wpAny_check_type_call_sub cC (aJK X c hu hi hb go))
end
end L2
namespace L2
open PySem PySem.Spec PyProof.Rows
section
variable {prog:Program} {w:World} {A:Around} {E:Value→Shared→Prop} {s:Shared} {K:PySem.W.Frag} {C x:Addr} {bm:List Value} {ox:Obj} {od:Option Obj} {name:Str}
theorem x_by {tk:Tok} {fill ex:Bool} {Q:Value→Shared→Prop} (X:K.In s.heap) (c:XC K C bm) (I:PySem.W.InstAt s.heap x ox C od)
  (go:∀ A',wpAny (model prog w) A' (Builtin.«object.__getattribute__» ⟨[.ref x,.str name tk],[]⟩) (fun fin s'=>∃ v,fin=.done (.ret v)∧PySem.W.handedIn v=true∧Q v s') (fun _ _=>False) s) :
  wpAny (model prog w) A (getAttrBy (.ref x) (.str name tk) fill ex) Q E s:=by
 have FA:=PySem.F.attrBase_ValueError
 have l0:=I.type (M:=model prog w)
 have l1:=PySem.W.looks_findIn (M:=model prog w) X c.ga
 have l2:=PySem.W.looks_findIn (M:=model prog w) X c.gh
 have nb:(Value.builtin "BaseException.__getattribute__" == Value.builtin "object.__getattribute__")=false:=by decide +kernel
 have no:(onTheHeap (Value.ref C) && Value.builtin "BaseException.__getattribute__" == Value.builtin "object.__getattribute__")=false:=by rw [nb]; rfl
 have ne:(ex && onTheHeap (Value.builtin "BaseException.__getattribute__"))=false:=by cases ex <;> rfl
 unfold getAttrBy
 refine wpAny_holding (wpAny_bind (l0.here (wpAny_bind (l1.here ?_))))
 dsimp only
 rw [no,if_neg (by decide)]
 unfold getAttrByItsOwn
 refine wpAny_bind ?_
 show wpAny _ _ (typeLookup (.ref C) "__getattr__") _ _ _
 refine l2.here ?_
 refine wpAny_bind (wpAny_attempt (wpAny_holding ?_))
 unfold callGetattribute
 rw [ne,if_neg (by decide)]
 unfold boundAndCalled
 rw [FA.ga.bind]
 refine wpAny_bind (wpAny_pure ?_)
 show wpAny _ _ (call (.builtin "BaseException.__getattribute__") [.ref x,.str name tk]) _ _ _
 have lb:PySem.W.Looks (model prog w) s.heap (isInstance (.ref x) (.type "BaseException")) true:=l0.andThen (PySem.W.looks_mroIn X (by rw [c.mro,c.has (by decide)]))
 have k1:builtinKind "BaseException.__getattribute__"=some .slot:=by decide +kernel
 have k2:splitId "BaseException.__getattribute__"=some ("BaseException","__getattribute__"):=by decide +kernel
 refine wpAny_call (codeAny_call_builtin FA.ga.plain PySem.F.entry_bexc_ga ?_)
 refine @PySem.W.check_slot (model prog w) _ _ s "BaseException.__getattribute__" "BaseException" "__getattribute__" (.ref x) [.str name tk] [] _ k1 k2 lb (PySem.F.args_bexc_ga (.ref x) (.str name tk)) ?_
 refine wpAny_mono (go _) (fun fin s' z=>?_) fun _ _ z=>z.elim
 obtain ⟨v,rfl,hv,q⟩:=z
 dsimp only
 rw [PySem.W.handedOut_of hv]
 exact wpAny_pure q
theorem x_get {v:Value} {ex:Bool} {Q:Value→Shared→Prop} (X:K.In s.heap) (c:XC K C bm) (I:PySem.W.InstAt s.heap x ox C od) (hf:PySem.W.findObj K C od name=some (.value v)) (hv:PySem.W.handedIn v=true)
  (q:Q v { s with toks:=s.toks + 1 }):wpAny (model prog w) A (getAttr (.ref x) name ex) Q E s:=by
 unfold getAttr
 refine wpAny_bind (wpAny_mkText ?_)
 refine x_by (s:={ s with toks:=s.toks + 1 }) X c I fun A'=>?_
 have l0:=I.type (M:=model prog w)
 have l1:=PySem.W.looks_find (M:=model prog w) X I hf
 obtain ⟨hh,g,d,t,os⟩:=s
 unfold Builtin.«object.__getattribute__» slotArgs
 repeat lk
 exact ⟨v,rfl,hv,q⟩
theorem aIK (K:PySem.W.Frag):PySem.W.specialIn K (.builtin "object.__class__") "__get__"=some (some (.builtin "getset_descriptor.__get__")):=by with_unfolding_all rfl
theorem aG9 (K:PySem.W.Frag):PySem.W.takesIn K (.builtin "object.__class__")=some true:=by with_unfolding_all rfl
theorem aIL {Q:Option Value→Shared→Prop} (X:K.In s.heap) (c:XC K C bm) (I:PySem.W.InstAt s.heap x ox C od) (q:Q (some (.ref C)) { s with toks:=s.toks + 1 }):wpAny (model prog w) A (getAttr? (.ref x) "__class__") Q E s:=by
 have hf:PySem.W.findObj K C od "__class__"=some (.bind (.builtin "getset_descriptor.__get__") (.builtin "object.__class__")):=by
  obtain ⟨cd,h1,_⟩:=c.cls
  unfold PySem.W.findObj
  rw [h1,Option.bind_some,c.gc,Option.bind_some]
  simp [aIK,aG9]
 unfold getAttr? getAttrBy?
 refine wpAny_bind (wpAny_mkText ?_)
 refine wpAny_bind (wpAny_attempt (wpAny_mono (Q:=fun v s'=>v=.ref C∧Q (some (.ref C)) s') (E:=fun _ _=>False) ?_ (fun v s' z=>?_) fun _ _ z=>z.elim))
 ·refine x_by (s:={ s with toks:=s.toks + 1 }) X c I fun A'=>?_
  have l0:=I.type (M:=model prog w)
  have l1:=PySem.W.looks_find (M:=model prog w) X I hf
  have cg:∀ A2 R,R (.ok (.ret (.ref C))) { s with toks:=s.toks + 1 }→codeAny (model prog w) A2 (.call (.builtin "getset_descriptor.__get__") ⟨[.builtin "object.__class__",.ref x,.ref C],[]⟩) R { s with toks:=s.toks + 1 }:=fun A2 R z =>
   PySem.W.class_get (s:={ s with toks:=s.toks + 1 }) X I (by rw [c.mro,c.has (by decide)]) z
  obtain ⟨hh,g,d,t,os⟩:=s
  unfold Builtin.«object.__getattribute__» slotArgs
  repeat (first | with_reducible refine wpAny_call ?_ | lk)
  refine cg _ _ ?_
  exact wpAny_pure ⟨_,rfl,rfl,rfl,q⟩
 ·obtain ⟨rfl,z⟩:=z
  exact wpAny_pure z
theorem x_set {v:Value} {vs:Array Value} {o:Obj} {Q:Unit→Shared→Prop} (X:K.In s.heap) (c:XC K C bm) (ha:PySem.W.findIn K (.ref C) name=some none) (hx:s.heap.get? x=some o) (hc:o.cls=.ref C) (hd:o.dict=none) (hv:o.data=.fields vs)
  (go:∀ h' tk,h'.get? x=some { o with dict:=some s.heap.objs.size }→h'.Ns1 s.heap.objs.size (fun y=>if y=name then some v else none)→(∀ b ob,b≠x→s.heap.get? b=some ob→h'.get? b=some ob)→Q () { s with heap:=h',toks:=tk }) :
  wpAny (model prog w) A (setAttr (.ref x) name v) Q E s:=by
 have I:PySem.W.InstAt s.heap x o C none:=⟨hx,hc,by unfold PySem.W.notCls; rw [hv],by rw [hd]; trivial⟩
 have SF:=PySem.F.store_object
 obtain ⟨cd,h1,h2,h3⟩:=c.cls
 have l0:=I.type (M:=model prog w)
 have l1:=PySem.W.looks_findIn (M:=model prog w) X ha
 have l2:PySem.W.Looks (model prog w) s.heap (mroOf (.ref C)) cd.mro:=(PySem.W.looks_clsIn X h1).andThen .now
 have l3:=PySem.W.looks_clsIn (M:=model prog w) X h1
 have lb:PySem.W.Looks (model prog w) s.heap (isInstance (.ref x) (.type "object")) true:=l0.andThen (PySem.W.looks_mroIn X (by rw [c.mro,c.has (by decide)]))
 refine PySem.W.set_plain X I c.sa ?_
 refine codeAny_call_builtin SF.slot.plain SF.entry (@PySem.W.check_slot (model prog w) _ _ { s with toks:=s.toks + 1 } "object.__setattr__" "object" "__setattr__" (.ref x) [.str name s.toks,v] [] _ SF.kind SF.split lb (SF.args (.ref x) (.str name s.toks) v) ?_)
 rw [PySem.W.osa_eq,refuse_eq]
 obtain ⟨hh,g,d,t,os⟩:=s
 refine wpAny_bind (wpAny_bind (l0.at (wpAny_bind (l2.at ?_))))
 rw [h2,refuseLoop_ref,aCO _ c.tl]
 refine wpAny_pure (wpAny_bind (l0.at (wpAny_bind (l1.at (wpAny_bind (wpAny_pure ?_))))))
 obtain ⟨oc,odi,oda,osl⟩:=o
 dsimp only at hc hd hv hx go
 subst hc hd hv
 show wpAny _ _ (Builtin.ObjectAttr.storeInOwnDict _ _ _ _ _ _) _ _ _
 unfold Builtin.ObjectAttr.storeInOwnDict
 refine wpAny_bind (wpAny_pure (wpAny_bind ?_))
 show wpAny _ _ (instanceDict x true) _ _ _
 unfold instanceDict
 refine wpAny_bind (wpAny_loadPart hx ?_)
 dsimp only
 refine wpAny_bind (l3.at ?_)
 rw [h3]
 have nsz:x≠hh.objs.size:=Nat.ne_of_lt (Heap.lt_size hx)
 have x1:=Heap.get?_push_of_some PySem.W.emptyDict hx
 refine wpAny_bind (wpAny_alloc' (wpAny_bind (wpAny_update' x1 ?_)))
 refine wpAny_pure ?_
 generalize hg:((hh.push PySem.W.emptyDict).update x fun o=>{ o with dict:=some hh.objs.size })=h2
 have xd:h2.get? x=some ⟨.ref C,some hh.objs.size,.fields vs,osl⟩:=by rw [← hg]; exact Heap.get?_update_self _ x1 rfl
 have dd:h2.get? hh.objs.size=some PySem.W.emptyDict:=by rw [← hg]; exact (Heap.get?_update_ne _ _ _ _ nsz.symm).trans (Heap.get?_push_at rfl rfl)
 have kp:∀ b ob,b≠x→hh.get? b=some ob→h2.get? b=some ob:=fun b ob nb q=>by rw [← hg]; exact (Heap.get?_update_ne _ _ _ _ nb).trans (Heap.get?_push_of_some _ q)
 have nd:h2.Ns hh.objs.size (fun _=>none):=⟨_,#[],_,dd,rfl,fun e he=>absurd he (by simp),fun _=>rfl⟩
 show wpAny _ _ (Builtin.ObjectAttr.storeInDict hh.objs.size _ name v) _ _ _
 unfold Builtin.ObjectAttr.storeInDict Builtin.ObjectAttr.newKeyGuard
 refine wpAny_bind (wpAny_pure (wpAny_bind (wpAny_nsSet1 (Heap.Ns1.of_empty nd) fun h' hn sb=>?_)))
 obtain ⟨oD,es,ep,g1,g2,g3⟩:=hn.count (Within.cons name v Within.nil)
 refine wpAny_bind (wpAny_lookBehind g1 (by rw [g2]; exact pastItsLine_dict (Nat.le_trans g3 (by rw [List.length_cons,List.length_nil,sizeLine_eq]; lia))) ?_)
 refine wpAny_pure ?_
 exact go h' _ ((sb.2 x nsz).trans xd) hn fun b ob nb q=>(sb.2 b (Nat.ne_of_lt (Heap.lt_size q))).trans (kp b ob nb q)
end
noncomputable def XKn (K:PySem.W.Frag) (H:Hp) (e C:Addr) (bm:List Value):Prop:=XC K C bm∧∃ fr dx,H e=some (xO fr (.ref C) dx e)∧∀ d,dx=some d→∃ fs,H d=some (.xd fs)
theorem XKn.inst {X:Cx} {pins:List (Addr×Obj)} {σ:St} {H:Hp} {s:Shared} {e C:Addr} {bm:List Value} (I:Inv X pins σ H s) (k:XKn X.K H e C bm):∃ ox od,PySem.W.InstAt s.heap e ox C od:=by
 obtain ⟨_,fr,dx,h1,h2⟩:=k
 obtain ⟨⟨oe,vs,g1,g2,g3,g4,_⟩,_⟩:=(show ObjOk X.prog X.w H s.heap e (xO fr (.ref C) dx e) from I.hok e _ h1)
 have nc:PySem.W.notCls oe=true:=by unfold PySem.W.notCls; rw [g4]
 cases dx with
 | none=>exact ⟨oe,none,g1,g2,nc,by rw [g3]; trivial⟩
 | some d =>
  obtain ⟨fs,hd⟩:=h2 d rfl
  obtain ⟨mA,⟨o,es,ep,z,_⟩,_⟩:=(show ObjOk X.prog X.w H s.heap d (.xd fs) from I.hok d _ hd)
  exact ⟨oe,some o,g1,g2,nc,by rw [g3]; exact z⟩
noncomputable def XIs (e C:Addr) (h:Heap):Prop:=∃ ox od,PySem.W.InstAt h e ox C od
theorem aGA {K:PySem.W.Frag} {e C:Addr} {bm:List Value} (c:XC K C bm):PySem.W.KitX K (.ref e) (.ref C) (XIs e C) where
 ty:=fun _ _ _ ⟨_,_,I⟩=>I.type
 it:=fun _ _ X _=>by
  obtain ⟨nm,q,N,bs,sn,sub,ab,col,dd,k0,k1,k2,k3,k5,lk⟩:=c.lk
  intro A' Q' E' s' k q
  unfold isType loadHead
  exact wpAny_bind (wpAny_loadPart (k _ _ (X _ _ lk)) (wpAny_pure q))
 ne:=fun h tp dd its n sl X htp=>by
  obtain ⟨nm,q,N,bs,sn,sub,ab,col,dd,k0,k1,k2,k3,k5,lk⟩:=c.lk
  refine Bool.eq_false_iff.mpr fun q=>?_
  have z:C=tp:=Value.ref.inj (beq_iff_eq.mp q)
  subst z
  have zz:=Option.some.inj ((X _ _ lk).symm.trans htp)
  have z2:=congrArg Obj.data zz
  cases z2
 ca:=fun X ⟨_,_,I⟩ k=>aIL X c I k
end L2
namespace L2
open PySem PySem.Spec PyProof.Rows
noncomputable def rIsx (K:PySem.W.Frag):List V→Hp→VK→Prop:=fun xs H Q=>∃ e C bm c,xs=[.ref e,c]∧XKn K H e C bm ∧
 ((c=.ty "ValueError"∧Q (.bl true) H)∨(∃ W bw,c=.ref W∧XC K W bw∧Q (.bl ((Value.ref C :: bm).contains (.ref W))) H) ∨
  ∃ p U V bu bv,c=.ref p∧H p=some (.tup [.ref U,.ref V])∧XC K U bu∧XC K V bv∧Q (.bl ((Value.ref C :: bm).contains (.ref U) || (Value.ref C :: bm).contains (.ref V))) H)
section
variable {X:Cx} {a c o e value:Expr} {ta tc tv:TE} {p pos pos':Pos} {f:Str}
theorem aHK:CallR X (.builtin "isinstance") (rIsx X.K):=by
 intro pins s σ H xs us Q I r h
 obtain ⟨e,C,bm,c,rfl,kn,h⟩:=h
 obtain ⟨u,u2,rfl,rx,r2⟩:=vals2 r
 obtain rfl:u=Value.ref e:=rx
 have xi:XIs e C s.heap:=kn.inst I
 have cc:=kn.1
 rcases h with ⟨rfl,q⟩ | ⟨W,bw,rfl,cw,q⟩ | ⟨p,U,V,bu,bv,rfl,hp,cu,cv,q⟩
 ·obtain rfl:u2=Value.type "ValueError":=r2
  exact PySem.W.kia_one (aGA cc) I.kIn xi (aJJ cc) (fun z=>nomatch z) fun tk=>⟨.bl true,H,I.tok tk,rfl,q⟩
 ·obtain rfl:u2=Value.ref W:=r2
  exact PySem.W.kia_one (aGA cc) I.kIn xi (aG7 cc cw) (fun z=>nomatch z) fun tk=>⟨.bl _,H,I.tok tk,rfl,q⟩
 ·obtain rfl:u2=Value.ref p:=r2
  obtain ⟨_,its,rv,o,g1,g2,n,g3⟩:=(show ObjOk X.prog X.w H s.heap p (.tup [.ref U,.ref V]) from I.hok p _ hp)
  obtain ⟨i1,i2,rfl,e1,e2⟩:=rv.two
  obtain rfl:i1=Value.ref U:=e1
  obtain rfl:i2=Value.ref V:=e2
  obtain ⟨oc,od,da,sl⟩:=o
  dsimp only at g2 g3
  subst g2 g3
  have ka:PySem.W.kitAny X.K (.ref C) [.ref U,.ref V]=some ((Value.ref C :: bm).contains (.ref U) || (Value.ref C :: bm).contains (.ref V)):=by
   unfold PySem.W.kitAny
   rw [aG7 cc cu]
   cases (Value.ref C :: bm).contains (.ref U) with
   | true=>rfl
   | false =>
    unfold PySem.W.kitAny
    rw [aG7 cc cv]
    cases (Value.ref C :: bm).contains (.ref V) <;> rfl
  exact PySem.W.kia_tup (aGA cc) I.kIn xi g1 ka (fun z=>nomatch z) fun tk=>⟨.bl _,H,I.tok tk,rfl,q⟩
theorem aGB (hm:X.mg "isinstance"=none) (ha:PE X a ta) (hc:PE X c tc) (hg:Gl X "isinstance":=by rfl)
  (he:starEach [a,c] X.env=(false,eval a X.env) :: starEach [c] X.env:=by rfl) (hpl:(backTo pos (starEach [c] X.env)).any (·.1)=false:=by rfl) (he2:starEach [c] X.env=[(false,eval c X.env)]:=by rfl) :
  PE X (.Call (.Name "isinstance" p) [a,c] [] pos) (fun σ H Q=>ta σ H fun x H1=>tc σ H1 fun y H2=>rIsx X.K [x,y] H2 Q) :=
 zS aHK hg hm qr (zA ha (zA hc zE he2) he) (by decide) (by decide) he hpl
noncomputable def tXFld (K:PySem.W.Frag) (ta:TE) (f:Str):TE:=fun σ H Q=>ta σ H fun x H1=>∃ a C bm fr dx fs v,x=.ref a∧XC K C bm∧H1 a=some (xO fr (.ref C) (some dx) a)∧H1 dx=some (.xd fs)∧aEM K C f∧fs.lookup f=some v∧Q v H1
theorem aIM (he:PE X e ta) (hb:attributeBase e f X.env (eval e X.env)=eval e X.env):PE X (.Attribute e f pos) (tXFld X.K ta f):=by
 intro pins s σ H Q I h
 refine aI8 hb (thn (he pins s σ H _ I h) fun u s1 ⟨x,H1,I1,rx,a,C,bm,fr,dx,fs,v,ex,c,ha,hd,n,l,q⟩=>?_)
 subst ex
 obtain rfl:u=Value.ref a:=rx
 obtain ⟨⟨oe,vs,g1,g2,g3,g4,_⟩,_⟩:=(show ObjOk X.prog X.w H1 s1.heap a (xO fr (.ref C) (some dx) a) from I1.hok a _ ha)
 obtain ⟨mA,⟨od,es,ep,z1,z2,z3,z4,z5⟩,rf⟩:=(show ObjOk X.prog X.w H1 s1.heap dx (.xd fs) from I1.hok dx _ hd)
 obtain ⟨w,hw,rw'⟩:=RelO.some_of (v:=v) (o:=mA f) (by rw [← l]; exact rf f)
 have li:PySem.W.lookIn f od=some (some w):=by
  have q5:=z5 f
  rw [hw] at q5
  unfold PySem.W.lookIn
  rw [z2]
  dsimp only
  unfold nsFind findBy at q5
  rw [← Array.find?_toList] at q5
  cases ef:es.toList.find? (·.key.isStr f) with
  | none=>rw [ef] at q5; cases q5
  | some en=>rw [ef] at q5; cases q5; rfl
 have J:PySem.W.InstAt s1.heap a oe C (some od):=⟨g1,g2,by unfold PySem.W.notCls; rw [g4],by rw [g3]; exact z1⟩
 exact x_get I1.kIn c J (PySem.W.findObj_own c.dict n rfl li) (aFd rw') ⟨v,H1,I1.tok _,rw',q⟩
noncomputable def sXFld (K:PySem.W.Frag) (ta tv:TE) (f:Str):TS:=fun D σ H=>tv σ H fun y H1=>ta σ H1 fun x H2=>∃ a C bm fr,x=.ref a∧XC K C bm∧H2 a=some (xO fr (.ref C) none a)∧aEM K C f ∧
 ∀ dx,H2 dx=none→dx≠a→D.nx σ (upd (upd H2 a (xO fr (.ref C) (some dx) a)) dx (.xd [(f,y)]))
theorem aIN (ha:PE X o ta) (hv:PE X value tv) (hs:swapsWith value (some (.Attribute o f pos')) pos.line X.env=pure false):PS X (.Assign [.Attribute o f pos'] value pos) (sXFld X.K ta tv f):=by
 intro pins s σ H D I h
 refine plainObj_wpAny_Assign_Attribute (thn (hv pins s σ H _ I h) fun u s1 ⟨y,H1,I1,ry,q⟩=>thn (ha pins s1 σ H1 _ I1 q) fun ov s2 ⟨x,H2,I2,rx,a,C,bm,fr,ex,c,hA,n,q2⟩=>?_) hs
 subst ex
 obtain rfl:ov=Value.ref a:=rx
 obtain ⟨⟨oe,vs,g1,g2,g3,g4,g5⟩,_⟩:=(show ObjOk X.prog X.w H2 s2.heap a (xO fr (.ref C) none a) from I2.hok a _ hA)
 have fr0:H2 s2.heap.objs.size=none:=I2.hok.fresh (Nat.le_refl _)
 have na:s2.heap.objs.size≠a:=Ne.symm (Nat.ne_of_lt (Heap.lt_size g1))
 refine x_set I2.kIn c n g1 g2 g3 g4 fun h' tk k1 k2 k3=>⟨σ,_,?_,q2 _ fr0 na⟩
 have old:∀ b ob,H2 b=none→s2.heap.get? b=some ob→h'.get? b=some ob:=fun b ob hb e=>k3 b ob (fun z=>by rw [z,hA] at hb; cases hb) e
 have up:∀ b,b≠a→b≠s2.heap.objs.size→upd (upd H2 a (xO fr (.ref C) (some s2.heap.objs.size) a)) s2.heap.objs.size (.xd [(f,y)]) b=H2 b:=fun b n1 n2=>by rw [zH n2,zH n1]
 have lt:∀ b ob,s2.heap.get? b=some ob→b≠s2.heap.objs.size:=fun b ob e=>Nat.ne_of_lt (Heap.lt_size e)
 refine I2.un (t':=tk) ⟨fun b ob e n _ _=>old b ob n e,fun b ob e n _ _=>⟨ob.slots,old b ob n e⟩,fun b ob e n _=>?_,fun b ob e _=>?_,fun b xs e=>?_,fun b ob u e=>?_,fun b ps e=>⟨#[],?_⟩⟩ fun b u e=>?_
 ·rw [up b (fun z=>by rw [z,hA] at n; cases n) (lt b ob e)]; exact n
 ·by_cases hb:b=a
  ·subst hb; exact ⟨_,k1⟩
  ·exact ⟨ob,k3 b ob hb e⟩
 ·rw [up b (fun z=>by rw [z,hA] at e; cases e) (fun z=>by rw [z,fr0] at e; cases e)]; exact e
 ·rw [up b (fun z=>by rw [z,hA] at e; cases e) (fun z=>by rw [z,fr0] at e; cases e)]; exact e
 ·rw [up b (fun z=>by rw [z,hA] at e; cases e) (fun z=>by rw [z,fr0] at e; cases e),e]; simp
 ·by_cases hd:b=s2.heap.objs.size
  ·subst hd
   rw [zB] at e
   cases e
   refine ⟨_,k2,fun g=>?_⟩
   by_cases z:g=f
   ·subst z; simp [List.lookup,RelO]; exact ry
   ·have z2:(g == f)=false:=beq_eq_false_iff_ne.mpr z
    simp [List.lookup,z,z2,RelO]
  ·by_cases hb:b=a
   ·subst hb
    rw [zH hd,zB] at e
    cases e
    exact xO_ok k1 g2 rfl g4 g5
   ·rw [up b hb hd] at e
    refine (I2.hok b u e).stay (fun x ox hh r=>k3 x ox (fun z=>?_) r) (fun x r=>?_) fun x xs r=>?_
    ·subst z
     rcases hh with hh | hh
     ·exact hb hh.symm
     ·rw [hA] at hh; cases hh
    ·rw [up x (fun z=>by rw [z,hA] at r; cases r) (fun z=>by rw [z,fr0] at r; cases r)]; exact r
    ·rw [up x (fun z=>by rw [z,hA] at r; cases r) (fun z=>by rw [z,fr0] at r; cases r)]; exact r
end
noncomputable def del (H:Hp) (e:Addr):Hp:=fun b=>if b=e then none else H b
theorem aAQ {H:Hp} {e b:Addr} (h:b≠e):del H e b=H b:=if_neg h
theorem qT {H:Hp} {e:Addr}:del H e e=none:=if_pos rfl
theorem aIO {H:Hp} {e:Addr} {o:HO} (h:H e=none):del (upd H e o) e=H:=by
 funext b
 by_cases q:b=e
 ·subst q; rw [qT,h]
 ·rw [aAQ q,zH q]
theorem aF2 {H:Hp} {e d:Addr} {o:HO} (h:d≠e):del (upd H d o) e=upd (del H e) d o:=by
 funext b
 by_cases q:b=e
 ·subst q; rw [qT,zH (Ne.symm h),qT]
 ·rw [aAQ q]
  by_cases z:b=d
  ·subst z; rw [zB,zB]
  ·rw [zH z,zH z,aAQ q]
section
variable {X:Cx} {pins:List (Addr×Obj)} {σ:St} {H:Hp} {s:Shared}
theorem Inv.untrack {e:Addr} {φ:Heap→Prop} (I:Inv X pins σ H s) (hx:H e=some (.ext φ)):Inv X pins σ (del H e) s:=by
 have nn:∀ b,H b=none→del H e b=none:=fun b n=>by
  by_cases q:b=e
  ·rw [q]; exact qT
  ·rw [aAQ q]; exact n
 have ne:∀ {b:Addr} {o:HO},H b=some o→(∀ ψ,o≠.ext ψ)→del H e b=some o:=fun {b o} q n=>by
  rw [aAQ (fun z=>by rw [z,hx] at q; exact n φ (Option.some.inj q).symm)]; exact q
 refine ⟨I.ok,I.os,I.bare,⟨I.base.keep,I.base.slot,fun b o q n m=>nn b (I.base.free b o q n m),I.base.there,fun b xs q=>ne (I.base.tups b xs q) fun _ z=>(by cases z),fun b o u q=>ne (I.base.frzs b o u q) fun _ z=>(by cases z),fun b ps q=>?_⟩,I.loc,I.cell,nn _ I.free,fun y c q=>nn _ (I.freeC y c q),fun p hp=>?_,fun b u q=>?_,I.len⟩
 ·obtain ⟨more,z⟩:=I.base.tbls b ps q
  exact ⟨more,ne z fun _ z=>by cases z⟩
 ·obtain ⟨a,b,c⟩:=I.pin p hp
  exact ⟨a,nn _ b,c⟩
 ·by_cases z:b=e
  ·rw [z,qT] at q; cases q
  ·rw [aAQ z] at q
   exact (I.hok b u q).stay (fun _ _ _ r=>r) (fun c r=>ne r fun _ z=>by cases z) fun c xs r=>ne r fun _ z=>by cases z
end
section
variable {X:Cx} {C f:Addr} {bm:List Value} {k:Nat} {fd:FuncData} {ps:List Str} {sp:Sp} {x:Str} {p pos rpos:Pos} {e:Expr} {es:List Expr} {t:TA}
structure XMk (P:Program) (w:World) (K:PySem.W.Frag) (mg:Str→Option Value) (base:Heap) (C:Addr) (k:Nat) (sp:Sp):Prop where
 ok:∃ f fd ps,PySem.W.findIn K (.ref C) "__init__"=some (some (.ref f))∧PySem.W.typeIn K (.ref f)=some (.type "function")∧FnOk P w K mg base CX0 k f fd ps sp∧Binds K fd ps []
theorem Inv.xborn {pins:List (Addr×Obj)} {σ:St} {H:Hp} {s:Shared} {us:List Value} (I:Inv X pins σ H s):Inv X pins σ (upd H (s.heap.objs.size + 1) (xO true (.ref C) none (s.heap.objs.size + 1))) { s with heap:=xHp s.heap C us } :=
 I.laid (a:=s.heap.objs.size + 1) (o:=xO true (.ref C) none (s.heap.objs.size + 1)) (t':=s.toks) (fun _ _=>jj) (Nat.le_succ _) (xO_ok aG8 rfl rfl rfl fun _=>⟨_,rfl⟩)
theorem run_x {pins:List (Addr×Obj)} {σ:St} {H:Hp} {s:Shared} {Q:Addr→Hp→Prop} {us:List Value} {vs:List V} (c:XC X.K C bm) (M:XMk X.prog X.w X.K X.mg X.base C k sp) (hr:Room (k + 1) X.A) (I:Inv X pins σ H s) (r:Vals vs us) (hu:vs.length≤sizeLine)
  (h:∀ e,H e=none→sp (.ref e :: vs) (upd H e (xO true (.ref C) none e)) (fun v H2=>v=.non∧Q e H2) E0) :
  wpAny (model X.prog X.w) X.A (call (.ref C) us) (fun u s'=>∃ e H2,u=.ref e∧s.heap.objs.size≤e∧Inv X pins σ H2 s'∧Q e H2) X.xe s:=by
 obtain ⟨f,fd,ps,hi,hf,F,hb⟩:=M.ok
 have hq:=h (s.heap.objs.size + 1) (I.hok.fresh (Nat.le_succ _))
 have I2:=Inv.xborn (C:=C) (us:=us) I
 have r2:Vals (V.ref (s.heap.objs.size + 1) :: vs) (Value.ref (s.heap.objs.size + 1) :: us):=.cons rfl r
 have hl:(Value.ref (s.heap.objs.size + 1) :: us++[]).length=ps.length:=by
  rw [List.append_nil,← r2.length]
  exact F.len _ _ _ _ hq
 have bd:=hb _ (Value.ref (s.heap.objs.size + 1) :: us) I2.kIn hl
 rw [List.append_nil] at bd
 have run:=F.run _ X.stack _ _ ⟨Value.ref (s.heap.objs.size + 1) :: us,[]⟩ (Value.ref (s.heap.objs.size + 1) :: us) _ _ E0 (hr.make C us []) (I2.env0.make C us []) bd r2 hq
 have K0:=I.kIn
 have sz:s.heap.objs.size≤s.heap.objs.size + 1:=Nat.le_succ _
 obtain ⟨hh,g,d,tk,os⟩:=s
 refine aJL K0 c (by rw [← r.length]; exact hu) (PySem.W.looks_findIn K0 hi) (fun self=>PySem.W.bind_fn K0 self hf) ?_
 refine wpAny_call (codeAny_mono run fun rr s' z=>?_)
 cases rr with
 | error ev=>exact z.elim
 | ok fl =>
  cases fl with
  | ret u =>
   obtain ⟨v,H',I3,rv,ev,q3⟩:=I2.after z
   subst ev
   exact ⟨rv,_,H',rfl,sz,I3,q3⟩
  | _=>exact z.elim
theorem aJM {pins:List (Addr×Obj)} {σ:St} {H:Hp} {s:Shared} {R:List V→Hp→Prop} {Q:Value→Shared→Prop} (c:XC X.K C bm) (hg:Gl X x) (hm:X.mg x=some (.ref C)) (ha:PA X (e :: es) t) (I:Inv X pins σ H s) (h:t σ H R)
  (go:∀ us vs s1 H1,Inv X pins σ H1 s1→Vals vs us→R vs H1→X.s₀.heap.objs.size≤s1.heap.objs.size→wpAny (model X.prog X.w) X.A (call (.ref C) us) Q X.xe s1)
  (hdb:(x == ("__debug__":Str))=false:=by decide) (he:starEach (e :: es) X.env=(false,eval e X.env) :: starEach es X.env:=by rfl) (hpl:(backTo pos (starEach es X.env)).any (·.1)=false:=by rfl) :
  wpAny (model X.prog X.w) X.A (eval (.Call (.Name x p) (e :: es) [] pos) X.env) Q X.xe s:=by
 refine wpAny_Call_Name_kw (jo I hg hm ?_ hdb)
 exact PySem.W.callWith_K (h₀:=X.base) I.ok.mod.kin c.kp (thn (ha pos pins s σ H _ I h) fun us s1 ⟨vs,H1,I1,r,q⟩=>⟨I1.kIn,go us vs s1 H1 I1 r q I1.sz⟩) he hpl
theorem aIP {M:Model} {A:Around} {E:Value→Shared→Prop} {s:Shared} {env:Env} {v:Sem Value} {Q:Flow→Shared→Prop} {K:PySem.W.Frag} (hh:A.handled=none) (c:XC K C bm)
    (h:wpAny M A v (fun u s1=>∃ e oe a0,u=.ref e∧K.In s1.heap∧s1.heap.get? e=some oe∧oe.cls=.ref C∧oe.data=.fields #[a0,.none,.none,.none,.bool false,.none]∧E u s1) E s):wpAny M A (raiseStmt env (some v) none) Q E s:=by
  have hB:=c.has (v:=.type "BaseException") (by decide)
  obtain ⟨nm,qn,N,bs,sn,sub,ab,col,dd,k0,k1,k2,k3,k5,lk⟩:=c.lk
  unfold raiseStmt
  refine wpAny_bind (wpAny_mono h (fun u s1 z=>?_) fun _ _ z=>z)
  obtain ⟨e,oe,a0,rfl,X,he,hc,hd,hE⟩:=z
  have cC:=X _ _ lk
  obtain ⟨hp,g,d,tk,os⟩:=s1
  obtain ⟨oc,odi,oda,osl⟩:=oe
  dsimp only at hc hd
  subst hc hd
  repeat (first
    | with_reducible refine wpAny_loadPart_at he ?_
    | with_reducible refine wpAny_loadPart_at cC ?_
    | (with_reducible refine wpAny_isSubtype_exc cC ?_; rw [hB])
    | wp_step)
  exact wpAny_raiseNew_none hh hE
theorem XIn.fresh {E:XS} {σ:St} {H1 H2:Hp} {s1 s2:Shared} {pins:List (Addr×Obj)} {e:Addr} {dx:Option Addr} (I1:Inv X pins σ H1 s1) (I2:Inv X pins σ H2 s2) (le:s1.heap.objs.size≤e) (hx:H2 e=some (xO true (.ref C) dx e)) (hE:E (.ref C) dx σ (del H2 e)):XIn X E (.ref e) s2:=by
 obtain ⟨⟨oe,vs,g1,g2,g3,g4,g5⟩,_⟩:=(show ObjOk X.prog X.w H2 s2.heap e (xO true (.ref C) dx e) from I2.hok e _ hx)
 obtain ⟨a0,rfl⟩:=g5 rfl
 refine ⟨e,.ref C,dx,σ,del H2 e,rfl,(I2.untrack hx).pins_of fun p hp=>absurd hp (by simp),⟨qT,Nat.le_trans I1.sz le,Nat.ne_of_gt (Nat.lt_of_lt_of_le I1.lt le),fun y c q z=>?_,fun p hp z=>?_⟩,.inl ⟨rfl,oe,_,g1,g2,g3,g4,rfl⟩,hE⟩
 ·obtain ⟨v,q⟩:=I1.cell y c q
  exact absurd (Nat.lt_of_lt_of_le q.lt (by rw [z]; exact le)) (Nat.lt_irrefl _)
 ·exact absurd (Nat.lt_of_lt_of_le (Heap.lt_size (I1.pin p (List.mem_append_left _ hp)).1) (by rw [z]; exact le)) (Nat.lt_irrefl _)
noncomputable def aJN (C:Addr) (sp:Sp) (E:XS) (t:TA):TS:=fun _ σ H=>t σ H fun vs H1=>vs.length≤sizeLine∧∀ e,H1 e=none→sp (.ref e :: vs) (upd H1 e (xO true (.ref C) none e)) (fun v H2=>v=.non∧∃ dx,H2 e=some (xO true (.ref C) dx e)∧E (.ref C) dx σ (del H2 e)) E0
theorem aHL {E:XS} (hc:X.calm=true) (c:XC X.K C bm) (M:XMk X.prog X.w X.K X.mg X.base C k sp) (hr:Room (k + 1) X.A) (hm:X.mg x=some (.ref C)) (ha:PA (X.raises E) (e :: es) t) (hg:Gl X x:=by rfl)
  (hdb:(x == ("__debug__":Str))=false:=by decide) (he:starEach (e :: es) X.env=(false,eval e X.env) :: starEach es X.env:=by rfl) (hpl:(backTo pos (starEach es X.env)).any (·.1)=false:=by rfl) :
  PS (X.raises E) (.Raise (some (.Call (.Name x p) (e :: es) [] pos)) none rpos) (aJN C sp E t):=by
 intro pins s σ H D I h
 rw [arm_exec_Raise]
 refine wpAny_bind (wpAny_standAt ?_)
 refine aIP (K:=X.K) (I.ok.hd hc) c (wpAny_bind (aJM (X:=X.raises E) c hg hm ha I h (fun us vs s1 H1 I1 r ⟨z,q⟩ _=>thn (run_x (X:=X.raises E) (Q:=fun e H2=>∃ dx,H2 e=some (xO true (.ref C) dx e)∧E (.ref C) dx σ (del H2 e)) c M hr I1 r z q) fun u s2 ⟨e2,H2,eu,le,I2,dx,hx,hE⟩=>?_) hdb he hpl))
 subst eu
 obtain ⟨⟨oe,vs',g1,g2,g3,g4,g5⟩,_⟩:=(show ObjOk X.prog X.w H2 s2.heap e2 (xO true (.ref C) dx e2) from I2.hok e2 _ hx)
 obtain ⟨a0,rfl⟩:=g5 rfl
 exact wpAny_bind (wpAny_standAt (wpAny_pure ⟨e2,oe,a0,rfl,I2.kIn,g1,g2,g4,XIn.fresh I1.unwish I2.unwish le hx hE⟩))
end
section
variable {X:Cx} {E:XS} {k:Nat} {Fam:Addr→Sp→Prop} {x:Str} {p pos:Pos} {e:Expr} {es:List Expr} {tf:TE} {t:TA}
end
end L2
namespace L2
open PySem PySem.Spec PyProof.Rows
theorem pe_xf {X:Cx} {K:PySem.W.Frag} {e:Expr} {f:Str} {pos:Pos} {ta:TE} (he:PE X e ta) (hK:X.K=K:=by rfl) (hb:attributeBase e f X.env (eval e X.env)=eval e X.env:=by rfl):PE X (.Attribute e f pos) (tXFld K ta f):=hK ▸ aIM he hb
section
variable {P:Program} {w:World} {K:PySem.W.Frag} {mg:Str→Option Value} {base:Heap}
theorem FnOk.hush {f:Addr} {fd:FuncData} {ps:List Str} {k:Nat} {sp sp':Sp} (F:FnOk P w K mg base (CXF P w) k f fd ps sp) (h:∀ vs H Q E,sp' vs H Q E→sp vs H Q E0):FnOk P w K mg base CX0 k f fd ps sp' :=
 ⟨fun vs H Q E q=>F.len vs H Q E0 (h _ _ _ _ q),fun A outer s H args us vs Q E hr he hb hv hs=>codeAny_mono (F.run A outer s H args us vs Q E0 hr he hb hv (h _ _ _ _ hs)) fun r s' z=>by
  cases r with
  | error e =>
   obtain ⟨_,_,_,_,_,_,_,_,_,_,_,_,_,_,_,_,_,q⟩:=z
   exact q.elim
  | ok fl=>cases fl <;> exact z⟩
end
end L2
namespace L2
open PySem PySem.Spec PyProof.Rows
section
variable {X:Cx} {tg:Expr}
end
end L2
namespace L2
open PySem PySem.Spec PyProof.Rows PySem.Builtin.Str
variable {X:Cx}
theorem aGC:bootBuiltins "max"=some (.builtin "max"):=by decide +kernel
theorem aHt:bootBuiltins "min"=some (.builtin "min"):=by decide +kernel
end L2
namespace L2
open PySem PySem.Spec PyProof.Rows PySem.Builtin.Str
variable {X:Cx}
end L2
namespace L2
open PySem PySem.Spec PyProof.Rows PySem.Builtin.Str
variable {X:Cx}
end L2
namespace L2
open PySem PySem.Spec PyProof.Rows
structure Wr (p:Prop):Prop where
 un:p
section
variable {X:Cx} {e:Expr} {es:List Expr} {te:TE} {t:TA} {pos:Pos} {a b:Expr} {ta tb:TE}
theorem w_str {x:Str} {j:Nat}:Wr (PE X (.Constant (.str x) j pos) (tC (.str x))):=⟨jZ⟩
theorem w_int {i:Int} {j:Nat}:Wr (PE X (.Constant (.int i) j pos) (tC (.int i))):=⟨zD⟩
theorem w_nil:Wr (PA X [] tNil):=⟨zE⟩
theorem zg (ha:Wr (PE X e te)) (hr:Wr (PA X es t)) (hs:starEach (e :: es) X.env=(false,eval e X.env) :: starEach es X.env:=by rfl):Wr (PA X (e :: es) (tCons te t)):=⟨zA ha.un hr.un hs⟩
theorem w_lst (h:Wr (PA X es t)):Wr (PE X (.List es pos) (tLst t)):=⟨yR h.un⟩
theorem w_set {i:Nat} {x:Str} {pos':Pos} (hN:X.N.Nodup) (hi:X.N[i]?=some x) (hx:Loc X.env.scope x) (he:Wr (PE X e te)) (hs:swapsWith e (some (.Name x pos')) pos.line X.env=pure false:=by rfl) (hf:X.fn x=true∨X.env.scope.names.lookup x=some .local:=by first | exact .inl rfl | exact .inr rfl | assumption) :
  Wr (PS X (.Assign [.Name x pos'] e pos) (tAsg te (gName i))):=⟨zP hN hi hx he.un hs hf⟩
theorem yV {st:Stmt} {rest:List Stmt} {t u:TS} (h1:Wr (PS X st t)) (h2:Wr (PSs X rest u)):Wr (PSs X (st :: rest) (tSeq t u)):=⟨zG h1.un h2.un⟩
theorem aE2 {st:Stmt} {t:TS} (h1:Wr (PS X st t)):Wr (PSs X [st] t):=⟨zI h1.un⟩
end
section
variable {P:Program} {w:World} {K:PySem.W.Frag} {mg:Str→Option Value} {base:Heap}
theorem Fun.okW {x qual:Str} {st:Stmt} {f:Addr} {fd:FuncData} {N ps:List Str} {k:Nat} {sp:Sp} (F:Fun K x qual st f fd) (S:FnScope N ps (zF st)) (len:∀ vs H Q E,sp vs H Q E→vs.length=ps.length)
  (hb:∀ (cdv:Value) (A:Around) (outer:List Env) (s:Shared) (H:Hp) (vs:List V) (Q:VK) (E:XK),Room k (A.deeper (envOfC qual (zF st) s.heap.objs.size f cdv))→sp vs H Q E →
   ∃ t,Wr (PSs (cxOf CX0 P w K mg base N qual (zF st) f cdv A outer s H E).nox (zO st) t)∧t { nx:=fun _ H'=>Q .non H',rt:=Q } (start N vs) H):FnOk P w K mg base CX0 (k + 1) f fd ps sp :=
 F.ok S len fun cdv A outer s H vs Q E hr h=>by
  obtain ⟨t,h1,q⟩:=hb cdv A outer s H vs Q E hr h
  exact ⟨t,h1.un,q⟩
end
end L2
namespace L2
open PySem PySem.Spec PyProof.Rows
section
variable {X:Cx}
end
section
variable {prog:Program} {w:World} {A:Around} {E:Value→Shared→Prop} {s:Shared}
end
section
variable {X:Cx} {es:List Expr} {kk:Nat} {tpos:Pos}
end
theorem aIQ {K:PySem.W.Frag} {p r:Addr} {xs ys:List V} {n:Nat} {g:TG} {tb:TS} {D:Ends} {σ:St} {H:Hp} (hn:n=min xs.length ys.length) (Pv:Nat→St→Hp→Prop) (h0:Pv 0 σ H) (hl:∀ i σ H,i≤n→Pv i σ H→SqT K H p xs∧SqT K H r ys)
  (hs:∀ i T x y σ H,xs[i]?=some x→ys[i]?=some y→Pv i σ H→H T=none→g (.ref T) σ (upd H T (.tup [x,y])) fun σ2 H2=>tb { D with nx:=Pv (i + 1),ct:=Pv (i + 1),bk:=D.nx } σ2 H2) (hd:∀ σ H,Pv n σ H→D.nx σ H) :
  ∃ W:Nat→Nat→St→Hp→Prop,(∃ m,W 0 m σ H)∧∀ i m σ H,W i m σ H →
   ((Itz K p r).stop i H∧D.nx σ H)∨((Itz K p r).go i H∧∃ N:St→Hp→Prop,(∀ σ' H',N σ' H'→∃ m',m' < m∧W (i + 1) m' σ' H')∧∀ x H',(Itz K p r).yld i H x H'→g x σ H' fun σ2 H2=>tb { D with nx:=N,ct:=N,bk:=D.nx } σ2 H2):=by
 refine ⟨fun i m σ H=>m=n - i∧i≤n∧Pv i σ H,⟨n,by simp,Nat.zero_le _,h0⟩,?_⟩
 rintro i m σ H ⟨rfl,hi,pp⟩
 obtain ⟨q1,q2⟩:=hl i σ H hi pp
 by_cases hlt:i < n
 ·have l1:i < xs.length:=by lia
  have l2:i < ys.length:=by lia
  refine .inr ⟨⟨xs,ys,xs[i],ys[i],q1,q2,by simp [l1],by simp [l2]⟩,Pv (i + 1),fun σ' H' p'=>⟨n - (i + 1),by lia,rfl,hlt,p'⟩,fun v H' y=>?_⟩
  obtain ⟨T,x,y,rfl,hT,rfl,hxy⟩:=y
  obtain ⟨e1,e2⟩:=hxy xs ys q1 q2
  exact hs i T x y σ H e1 e2 pp hT
 ·have e:i=n:=by lia
  subst e
  exact .inl ⟨⟨xs,ys,q1,q2,by lia⟩,hd σ H pp⟩
end L2
namespace HT
open PySem PySem.Spec PyProof.Rows
section
variable {prog:Program} {w:World} {A:Around} {E:Value→Shared→Prop} {s:Shared}
theorem getItem_tuple_whole {t sl:Addr} {items:Array Value} {vl vu:Value} {lo hi:Option Int} {Q:Value→Shared→Prop} (ht:IsTup s.heap t items) (hs:s.heap.IsSliceOf sl vl vu .none) (pl:IsPart vl lo) (pu:IsPart vu hi)
    (h1:sIx items.size 0 lo=0) (h2:sIx items.size items.size hi=items.size)
    (h:Q (.ref t) s):wpAny (model prog w) A (getItem (.ref t) (.ref sl)) Q E s:=by
  obtain ⟨os,hos,hcs,hds⟩:=id hs
  have hTs:s.TypeIs (.ref sl) "slice":=⟨os,hos,hcs⟩
  unfold getItem
  try with_reducible refine wpAny_holding ?_
  first | refine wpAny_bind (wpAny_pure ?_) | skip
  refine wpAny_bind (wpAny_sequenceKey ht.typeIs (by decide) ?_)
  refine wpAny_bind (wpAny_callSpecial?_slot (name:=Str.ofString "__getitem__") ht.typeIs PyProof.Rows.slot_tuple_getitem
    (wpAny_call_entry PyProof.Rows.slot_tuple_getitem ht.typeIs entry_tuple_getitem ?_ (args_tuple_getitem _ _)))
  show wpAny _ _ (Builtin.Tuple.tupleItemsOf (.ref t) >>= _) _ _ s
  refine wpAny_bind (tupleItemsOf_ ht ?_)
  refine wpAny_bind (wpAny_typeOf hTs ?_)
  rw [if_pos (by decide)]
  refine wpAny_bind (qF hs pl pu ?_)
  have hyes:(((sIx items.size 0 lo:Nat):Int) == 0 && (1:Int) == 1 && (sIx items.size items.size hi - sIx items.size 0 lo) == items.size)=true:=by
    rw [h1,h2]
    simp
  show wpAny _ _ (if (((sIx items.size 0 lo:Nat):Int) == 0 && (1:Int) == 1 && (sIx items.size items.size hi - sIx items.size 0 lo) == items.size)=true then _ else _) _ _ s
  rw [if_pos hyes]
  unfold Builtin.Tuple.tupleIsExact
  refine wpAny_bind (wpAny_bind (wpAny_typeOf ht.typeIs (wpAny_pure ?_)))
  show wpAny _ _ (if (Value.type "tuple" == Value.type "tuple")=true then _ else _) _ _ s
  rw [if_pos (by decide)]
  refine wpAny_bind (wpAny_rule ?_)
  first
    | exact wpAny_pure ⟨_,rfl,wpAny_pure h⟩
    | exact wpAny_bind (wpAny_pure (wpAny_pure ⟨_,rfl,wpAny_pure h⟩))
end
end HT
namespace L2
open PySem PySem.Spec PyProof.Rows
variable {X:Cx}
theorem aIR:SlR X (fun x lo hi H Q=>∃ a xs,x=.ref a∧SqT X.K H a xs ∧
  ((HT.sIx xs.length 0 lo=0∧HT.sIx xs.length xs.length hi=xs.length)→Q (.ref a) H)∧(¬ (HT.sIx xs.length 0 lo=0∧HT.sIx xs.length xs.length hi=xs.length)→∀ p,H p=none→Q (.ref p) (upd H p (.tup (cutV xs lo hi))))):=by
 intro pins s σ H x v vl vu lo hi sl Q I rx hs pl pu h
 obtain ⟨a,xs,rfl,hx,q1,q2⟩:=h
 by_cases hw:HT.sIx xs.length 0 lo=0∧HT.sIx xs.length xs.length hi=xs.length
 ·cases rx
  obtain ⟨its,r,ht,hz⟩:=I.tuple hx
  have hlen:its.toArray.size=xs.length:=by rw [List.size_toArray]; exact r.length.symm
  refine ⟨"tuple",_,PyProof.Rows.slot_tuple_getitem.lookup,ht.typeIs,?_⟩
  exact HT.getItem_tuple_whole ht hs pl pu (by rw [hlen]; exact hw.1) (by rw [hlen]; exact hw.2) ⟨.ref a,H,I,rfl,q1 hw⟩
 ·exact aJ5 pins s σ H _ v vl vu lo hi sl Q I rx hs pl pu ⟨a,xs,rfl,hx,hw,q2 hw⟩
end L2
namespace L2
open PySem PySem.Spec PyProof.Rows
section
variable {O:KeyOrd}
noncomputable def Up (f:Nat→O.α) (n:Nat):Prop:=∀ i j,i≤j→j < n→O.kle (f i) (f j)
noncomputable def Dn (f:Nat→O.α) (n:Nat):Prop:=∀ i j,i≤j→j < n→O.kle (f j) (f i)
theorem Up.one (f:Nat→O.α):Up f 1:=fun i j a b=>by
 have e:i=j:=by lia
 rw [e]; exact KeyOrd.kle_refl _
theorem Dn.one (f:Nat→O.α):Dn f 1:=fun i j a b=>by
 have e:i=j:=by lia
 rw [e]; exact KeyOrd.kle_refl _
theorem Up.snoc {f:Nat→O.α} {n:Nat} (u:Up f n) (h:O.kle (f (n - 1)) (f n)):Up f (n + 1):=fun i j a b=>by
 rcases Nat.lt_or_ge j n with c | c
 ·exact u i j a c
 have ej:j=n:=by lia
 rw [ej]
 rcases Nat.lt_or_ge i n with c2 | c2
 ·exact KeyOrd.kle_trans (u i (n - 1) (by lia) (by lia)) h
 ·have ei:i=n:=by lia
  rw [ei]; exact KeyOrd.kle_refl _
theorem Dn.snoc {f:Nat→O.α} {n:Nat} (u:Dn f n) (h:O.kle (f n) (f (n - 1))):Dn f (n + 1):=fun i j a b=>by
 rcases Nat.lt_or_ge j n with c | c
 ·exact u i j a c
 have ej:j=n:=by lia
 rw [ej]
 rcases Nat.lt_or_ge i n with c2 | c2
 ·exact KeyOrd.kle_trans h (u i (n - 1) (by lia) (by lia))
 ·have ei:i=n:=by lia
  rw [ei]; exact KeyOrd.kle_refl _
theorem Dn.congr {f g:Nat→O.α} {n:Nat} (u:Dn f n) (h:∀ i,g i=f i):Dn g n:=fun i j a b=>by rw [h,h]; exact u i j a b
end
section
variable {O:KeyOrd} (κ:Keyed→O.α) (d:O.α)
noncomputable def fk (xs:Array Keyed) (i:Nat):O.α:=match xs[i]? with
 | some p=>κ p
 | none=>d
theorem fk_eq {xs ys:Array Keyed} {i j:Nat} (h:xs[i]?=ys[j]?):fk κ d xs i=fk κ d ys j:=by unfold fk; rw [h]
theorem aIS {xs:Array Keyed} {i j:Nat} (hj:j≤xs.size) (k:Nat):fk κ d (mirror xs i j ((j - i) / 2)) k=if i≤k∧k < j then fk κ d xs (i + j - 1 - k) else fk κ d xs k:=by
 have e:=getElem?_mirror_all (i:=i) hj k
 split at e
 ·rename_i c; rw [if_pos c]; exact fk_eq κ d e
 ·rename_i c; rw [if_neg c]; exact fk_eq κ d e
theorem aIT {xs:Array Keyed} {a b:Nat} (ha:a < xs.size) (hb:b≤a) (k:Nat):fk κ d (bubble xs a b) k=if k=a - b then fk κ d xs a else if a - b < k∧k≤a then fk κ d xs (k - 1) else fk κ d xs k:=by
 have e:=getElem?_bubble ha b hb k
 split at e
 ·rename_i c; rw [if_pos c]; exact fk_eq κ d e
 ·rename_i c
  rw [if_neg c]
  split at e
  ·rename_i c2; rw [if_pos c2]; exact fk_eq κ d e
  ·rename_i c2; rw [if_neg c2]; exact fk_eq κ d e
end
section
variable {prog:Program} {w:World} {A:Around} {E:Value→Shared→Prop} {s:Shared} {O:KeyOrd} {κ:Keyed→O.α} {d:O.α} {n:Nat} {Bs:SortSt→Prop}
end
end L2
namespace L2
open PySem PySem.Spec PyProof.Rows
section
variable {prog:Program} {w:World} {A:Around} {E:Value→Shared→Prop} {s:Shared} {O:KeyOrd} {κ:Keyed→O.α} {d:O.α} {kd:SortKind} {a0:Array Keyed}
end
section
variable {prog:Program} {w:World} {A:Around} {E:Value→Shared→Prop} {s:Shared}
end
end L2
namespace L2
open PySem PySem.Spec PyProof.Rows
section
variable {prog:Program} {w:World} {A:Around} {E:Value→Shared→Prop} {s:Shared}
end
end L2
namespace L2
open PySem PySem.Spec PyProof.Rows
end L2
namespace L2
open PySem PySem.Spec PyProof.Rows
section
variable {X:Cx} {k:Nat} {f:Addr} {fd:FuncData} {ps:List Str} {sp:Sp}
end
section
variable {prog:Program} {w:World} {A:Around} {E:Value→Shared→Prop} {s:Shared}
open Classical in
end
end L2
namespace L2
open PySem PySem.Spec PyProof.Rows
theorem aHu {α β:Type} {R:α→β→Prop}:∀ {a:List α} {b:List β} {c:List α} {d:List β},Paired R a b→Paired R c d→Paired R (a++c) (b++d)
 | _,_,_,_,.nil,h=>h
 | _,_,_,_,.cons x r,h=>.cons x (aHu r h)
section
variable {X:Cx} {k:Nat} {f:Addr} {fd:FuncData} {ps:List Str} {sp:Sp}
end
end L2
namespace L2
open PySem PySem.Spec PyProof.Rows
theorem qy:bootBuiltins "sorted"=some (.builtin "sorted"):=by decide +kernel
section
variable {X:Cx} {k:Nat} {f:Addr} {fd:FuncData} {ps:List Str} {sp:Sp}
end
end L2
namespace HT
open PySem PySem.Spec PyProof.Rows
theorem aEV {α β:Type} {f g:α→Option β}:∀ {l:List α},(∀ x∈l,f x=g x)→l.filterMap f=l.filterMap g
 | [],_=>rfl
 | a :: r,h=>by
  rw [List.filterMap_cons,List.filterMap_cons,h a (List.mem_cons_self ..),aEV fun x hx=>h x (List.mem_cons_of_mem _ hx)]
section
variable {prog:Program} {w:World} {A:Around} {E:Value→Shared→Prop} {s:Shared}
end
end HT
namespace L2
open PySem PySem.Spec PyProof.Rows
variable {X:Cx}
theorem aGD:OpR X (binaryOp .Add) (fun x y H Q=>∃ a b xs ys,x=.ref a∧y=.ref b∧H a=some (.tup xs)∧H b=some (.tup ys)∧xs.length + ys.length≤1000000∧∀ p H',Same H H'→H' p=some (.tup (xs++ys))→Q (.ref p) H'):=by
 intro pins s σ H x y v u Q I rx ry h
 obtain ⟨a,b,xs,ys,rfl,rfl,ha,hb,hz,q⟩:=h
 have szl:=sizeLine_eq
 by_cases hx:xs=[]
 ·subst hx
  cases rx
  cases ry
  obtain ⟨its,r1,⟨⟨cls,dd,data,sl⟩,ho,hc,n,hd⟩,_⟩:=I.tuple (SqT.of ha)
  obtain ⟨its2,r2,⟨⟨cls2,dd2,data2,sl2⟩,ho2,hc2,n2,hd2⟩,_⟩:=I.tuple (SqT.of hb)
  simp only at hc hd hc2 hd2
  subst hc hd hc2 hd2
  have e0:its=[]:=r1.nil_iff.mpr rfl
  exact concat_meets ⟨_,ho,rfl⟩ ⟨_,ho2,rfl⟩ noFill_tuple_add seq_tuple_add PySem.F.slot_tuple_add PySem.F.entry_tuple_add (PySem.F.args_tuple_add_2 _ _)
   (tuple_addW0 a b its.toArray its2.toArray n n2 dd dd2 sl sl2 (by simp [e0])) ⟨ho,ho2,⟨.ref b,H,I,rfl,q b H (Same.refl H) hb⟩⟩
 ·exact aIB pins s σ H _ _ v u Q I rx ry ⟨a,b,xs,ys,rfl,rfl,SqT.of ha,SqT.of hb,hx,by lia,(fun e=>q a H (Same.refl H) (by rw [e,List.append_nil]; exact ha)),fun _ p hp=>q p _ (fun c o e=>by rw [zH (zC e hp)]; exact e) zB⟩
end L2
namespace L2
open PySem PySem.Spec PyProof.Rows
variable {X:Cx}
theorem aCP (ns:List Int):∀ (n:Nat),n=ns.length→preSum (fun i=>ns.getD i 0) n=ns.sum:=by
 intro n hn
 have key:∀ m,m≤ns.length→preSum (fun i=>ns.getD i 0) m=(ns.take m).sum:=by
  intro m
  induction m with
  | zero=>intro _; rfl
  | succ k ih =>
   intro hk
   show preSum (fun i=>ns.getD i 0) k + ns.getD k 0=_
   rw [ih (by lia),List.take_add_one,List.sum_append]
   have:ns[k]?=some (ns.getD k 0):=by
    rw [List.getD_eq_getElem?_getD,List.getElem?_eq_getElem (by lia)]; rfl
   rw [this]
   simp
 rw [key n (by lia),hn,List.take_length]
theorem qz (hc:X.calm=true):CallR X (.builtin "sum") (fun xs H Q=>∃ (p:Addr) (ns:List Int),xs=[.ref p]∧SqT X.K H p (ns.map V.int)∧Q (.int ns.sum) H):=by
 intro pins s σ H xs us Q I r h
 obtain ⟨p,ns,rfl,hS,q⟩:=h
 obtain ⟨u,rfl,rx⟩:=vals1 r
 obtain rfl:u=Value.ref p:=rx
 obtain ⟨its,rv,pl,hz⟩:=I.tuple hS
 have hp:s.heap.IsTuple p its.toArray:=pl
 have hlt:p < s.heap.objs.size:=pl.lt
 refine call_sum_walkG (wpAny_pyIter_tuple hp ?_)
 refine ⟨_,_,_,_,_,_,fun i=>ns.getD i 0,rfl,Walks.tuple (A:=X.A.in1) (I.ok.hd hc) s.heap.objs.size p (Nat.ne_of_lt hlt) its.toArray,⟨⟨_,Heap.get?_push_size _ rfl,rfl,rfl⟩,hp.push _⟩,fun b hb=>?_,fun i v hv=>?_,fun h' tk t' hk=>?_⟩
 ·show b < (s.heap.push _).objs.size
  rw [Heap.size_push]
  rcases List.mem_cons.mp hb with rfl | hb
  ·exact Nat.lt_succ_self _
  ·rcases List.mem_cons.mp hb with rfl | hb
   ·exact Nat.lt_succ_of_lt hlt
   ·cases hb
 ·have hv':its[i]?=some v:=by simpa using hv
  have hlen:=rv.length
  have hi:i < (ns.map V.int).length:=by rw [hlen]; exact (List.getElem?_eq_some_iff.mp hv').1
  obtain ⟨u,e1,r1⟩:=rv.get (i:=i) (x:=.int (ns.getD i 0)) (by
   rw [List.length_map] at hi
   rw [List.getElem?_map,List.getD_eq_getElem?_getD,List.getElem?_eq_getElem hi]; rfl)
  rw [hv'] at e1
  cases e1
  exact r1
 ·refine ⟨.int ns.sum,H,I.kept fun b o e=>hk b o (fun z=>?_) (Heap.get?_push_of_some _ e),⟨t',?_⟩,q⟩
  ·exact absurd (Heap.lt_size e) (by rw [List.mem_singleton.mp z]; exact Nat.lt_irrefl _)
  ·rw [aCP ns _ (by have:=rv.length; simp at this ⊢; lia)]
end L2
namespace HT
open PySem PySem.Spec PyProof.Rows
section
variable {prog:Program} {w:World} {A:Around} {E:Value→Shared→Prop} {s:Shared}
end
end HT
namespace L2
open PySem PySem.Spec PyProof.Rows
variable {X:Cx}
end L2
namespace L2
open PySem PySem.Spec PyProof.Rows
theorem yx {es:List Expr} {k:Nat} {pos:Pos} {r:List Expr} {env:Env}:starEach (.Tuple es k pos :: r) env=(false,eval (.Tuple es k pos) env) :: starEach r env:=rfl
theorem w_tup {X:Cx} {es:List Expr} {t:TA} {k:Nat} {pos:Pos} (h:Wr (PA X es t)):Wr (PE X (.Tuple es k pos) (tTup t)):=⟨yo h.un⟩
theorem qJ {X:Cx}:SlR X (fun x lo hi H Q=>∃ a xs,x=.ref a∧(∀ H',Same H H'→SqT X.K H' a xs)∧∀ p H',Same H H'→(∀ H'',Same H' H''→SqT X.K H'' p (cutV xs lo hi))→Q (.ref p) H'):=by
 intro pins s σ H x v vl vu lo hi sl Q I rx hs pl pu h
 obtain ⟨a,xs,rfl,hx,q⟩:=h
 refine aIR pins s σ H _ v vl vu lo hi sl Q I rx hs pl pu ⟨a,xs,rfl,hx H (fun _ _ e=>e),fun hw=>q a H (fun _ _ e=>e) fun H'' s''=>?_,fun hw p hp=>q p _ (fun b o e=>by rw [zH (zC e hp)]; exact e) fun H'' s''=>SqT.of (s'' _ _ zB)⟩
 have e:cutV xs lo hi=xs:=by
  unfold cutV
  rw [hw.1,hw.2,List.drop_zero,Nat.sub_zero,List.take_length]
 rw [e]
 exact hx H'' s''
end L2
namespace Law
open PySem L2
theorem Same.new {H:Hp} {p:Addr} {o:HO} (h:H p=none):Same H (L2.upd H p o):=fun b u q=>by rw [zH (zC q h)]; exact q
noncomputable def KT (H H':Hp):Prop:=∀ p xs,H p=some (.tup xs)→H' p=some (.tup xs)
theorem KT.trans {H H1 H2:Hp} (a:KT H H1) (b:KT H1 H2):KT H H2:=fun p xs h=>b p xs (a p xs h)
theorem KT.same {H H':Hp} (a:Same H H'):KT H H':=fun p xs h=>a p _ h
theorem KT.upd {H:Hp} {p:Addr} {o:HO} {ys:List V} (h:H p=some (.lst ys)):KT H (L2.upd H p o):=fun b xs q=>by
 rw [zH]; · exact q
 ·intro e; subst e; rw [h] at q; cases q
theorem KT.new {H:Hp} {p:Addr} {o:HO} (h:H p=none):KT H (L2.upd H p o):=KT.same (Same.new h)
theorem qd {α:Type} {xs:List α} {r:Int} (h0:0≤r) (h1:r < (xs.length:Int)):∃ v,atI xs r=some v∧v∈xs:=by
 have hl:r.toNat < xs.length:=by lia
 have e:r=((r.toNat:Nat):Int):=by lia
 have h:atI xs ((r.toNat:Nat):Int)=some xs[r.toNat]:=jO (List.getElem?_eq_getElem hl)
 rw [← e] at h
 exact ⟨xs[r.toNat],h,List.getElem_mem hl⟩
structure Blt (mg:Str→Option Value):Prop where
 len:mg "len"=none
 sum:mg "sum"=none
 range:mg "range"=none
 isinstance:mg "isinstance"=none
 int:mg "int"=none
 str:mg "str"=none
 bool:mg "bool"=none
 tuple:mg "tuple"=none
 zip:mg "zip"=none
end Law
namespace Law
open PySem L2
noncomputable def spLaw (K:PySem.W.Frag):Sp:=fun vs H Q _=>∃ (a:Addr) (ns:List Int),vs=[.ref a]∧SqL K H a (ns.map V.int)∧ns.length≤63∧∀ H',Q (.bl true) H'
theorem mkDef {P:Program} {w:World} {K:PySem.W.Frag} {mg:Str→Option Value} {base:Heap} {CX:CXT} {k:Nat} {x:Str} {sp:Sp} {f:Addr} {fd:FuncData} {ps:List Str} (a:FnOk P w K mg base CX k f fd ps sp) (b:Binds K fd ps []) (c:mg x=some (.ref f)) (d:PySem.W.keepIn K (.ref f)=true):Def P w K mg base CX k x sp:=⟨f,fd,ps,a,b,c,d⟩
end Law
namespace L2
open PySem PySem.Spec PyProof.Rows
end L2
namespace Law
open PySem L2 PySem.NumText PyProof.Rows
noncomputable def dig (n:Int):List Nat:=cs (Str.ofString (toString n))
noncomputable def topN:Int:=10 ^ 63
theorem aGE (m:Nat):dig (m:Int)=(Nat.toDigits 10 m).map Char.toNat:=PySem.W.KIN.signs_num m
theorem aHM:∀ m:Nat,1≤m→∃ c r,(Nat.toDigits 10 m).map Char.toNat=c :: r∧c≠48:=by
 intro m
 induction m using Nat.strongRecOn with
 | _ m ih =>
  intro h1
  by_cases h:m < 10
  ·rw [Nat.toDigits_of_lt_base h]
   refine ⟨_,_,rfl,?_⟩
   have:∀ k:Nat,k < 10→1≤k→(Nat.digitChar k).toNat≠48:=by decide
   exact this m h h1
  ·have hm:m % 10 < 10:=Nat.mod_lt m (by decide)
   have t:Nat.toDigits 10 (m / 10)++Nat.toDigits 10 (m % 10)=Nat.toDigits 10 (10 * (m / 10) + m % 10):=Nat.toDigits_append_toDigits (by decide) (by lia) hm
   rw [Nat.div_add_mod] at t
   obtain ⟨c,r,e,hc⟩:=ih (m / 10) (by lia) (by lia)
   refine ⟨c,r++(Nat.toDigits 10 (m % 10)).map Char.toNat,?_,hc⟩
   rw [← t,List.map_append,e]
   rfl
theorem aGF {n:Int} (h0:1≤n) (h1:n < topN):AllDigits (dig n)∧(∃ c r,dig n=c :: r∧c≠48)∧(dig n).length≤63∧((digitsVal (dig n):Nat):Int)=n:=by
 obtain ⟨m,rfl⟩:=Int.eq_ofNat_of_zero_le (show 0≤n by lia)
 have hm:m < 10 ^ 63:=by
  have:((m:Nat):Int) < ((10 ^ 63:Nat):Int):=by simpa [topN] using h1
  exact Int.ofNat_lt.mp this
 rw [aGE]
 refine ⟨?_,aHM m (by lia),?_,by rw [PySem.W.KIN.val_back]⟩
 ·intro c hc
  obtain ⟨ch,hch,e⟩:=List.mem_map.mp hc
  have r:=digit_range (Nat.isDigit_of_mem_toDigits (by decide) (by decide) hch)
  rw [← e]
  exact r
 ·rw [List.length_map]
  exact toDigits_len_pow (by decide) (by decide) hm
end Law
namespace Law
open PySem L2 PySem.NumText PyProof.Rows
noncomputable abbrev C3:=Int×Int×Int
noncomputable def putN (s:Str) (c:C3) (n:Int):C3 :=
 if s="+" then (c.1 + c.2.1 * c.2.2,1,n) else if s="-" then (c.1 + c.2.1 * c.2.2,-1,n) else if s="*" then (c.1,c.2.1,c.2.2 * n) else (c.1,c.2.1,10 * c.2.2 + n)
theorem qK (c:C3) (n:Int):putN "+" c n=(c.1 + c.2.1 * c.2.2,1,n):=by unfold putN; rw [if_pos rfl]
theorem qL (c:C3) (n:Int):putN "-" c n=(c.1 + c.2.1 * c.2.2,-1,n):=by unfold putN; rw [if_neg (by decide +kernel),if_pos rfl]
theorem qU (c:C3) (n:Int):putN "*" c n=(c.1,c.2.1,c.2.2 * n):=by unfold putN; rw [if_neg (by decide +kernel),if_neg (by decide +kernel),if_pos rfl]
theorem jk (c:C3) (n:Int):putN "" c n=(c.1,c.2.1,10 * c.2.2 + n):=by unfold putN; rw [if_neg (by decide +kernel),if_neg (by decide +kernel),if_neg (by decide +kernel)]
noncomputable def qM (s:Str):Prop:=s="+"∨s="-"∨s="*"∨s=""
noncomputable def comeF:C3→List Int→List Str→C3
 | c,n :: ns,s :: ss=>comeF (putN s c n) ns ss
 | c,_,_=>c
theorem jQ (n:Int) (s:Str):∀ (ns:List Int) (ss:List Str) (c:C3),ns.length=ss.length→comeF c (ns++[n]) (ss++[s])=putN s (comeF c ns ss) n
 | [],[],c,_=>by simp [comeF]
 | m :: ns,t :: ss,c,h=>by
  show comeF (putN t c m) (ns++[n]) (ss++[s])=putN s (comeF (putN t c m) ns ss) n
  exact jQ n s ns ss _ (by simpa using h)
noncomputable def wr (c:C3):Int:=c.1 + c.2.1 * c.2.2
noncomputable def chs (sg:List Str):Nat→List (List Str)
 | 0=>[[]]
 | k + 1=>(chs sg k).flatMap fun ss=>sg.map fun s=>ss++[s]
theorem jR (sg:List Str):∀ (k:Nat) (ss:List Str),ss∈chs sg k→ss.length=k
 | 0,ss,h=>by
  have:ss=[]:=by simpa [chs] using h
  rw [this]; rfl
 | k + 1,ss,h=>by
  obtain ⟨t,ht,h2⟩:=List.mem_flatMap.mp h
  obtain ⟨s,_,rfl⟩:=List.mem_map.mp h2
  rw [List.length_append,jR sg k t ht]; rfl
theorem aE3 (sg:List Str):∀ (k:Nat) (ss:List Str),ss∈chs sg k→∀ s∈ss,s∈sg
 | 0,ss,h=>by
  have:ss=[]:=by simpa [chs] using h
  rw [this]; intro s hs; cases hs
 | k + 1,ss,h=>by
  obtain ⟨t,ht,h2⟩:=List.mem_flatMap.mp h
  obtain ⟨s,hs,rfl⟩:=List.mem_map.mp h2
  intro u hu
  rcases List.mem_append.mp hu with hu | hu
  ·exact aE3 sg k t ht u hu
  ·rw [List.mem_singleton.mp hu]; exact hs
theorem aEW {α β:Type} (f:α→List β) (m:Nat):∀ l:List α,(∀ x∈l,(f x).length=m)→(l.flatMap f).length=l.length * m
 | [],_=>by simp
 | x :: r,h=>by
  rw [List.flatMap_cons,List.length_append,h x (List.mem_cons_self ..),aEW f m r (fun y hy=>h y (List.mem_cons_of_mem _ hy)),List.length_cons,Nat.succ_mul,Nat.add_comm]
theorem yA (sg:List Str):∀ k:Nat,(chs sg k).length=sg.length ^ k
 | 0=>rfl
 | k + 1=>by
  show ((chs sg k).flatMap _).length=_
  rw [aEW _ sg.length _ (fun x _=>by rw [List.length_map]),yA sg k,Nat.pow_succ]
noncomputable def RowOk (sg:List Str) (row:List Int):Prop:=row≠[]∧row.length≤10∧(∀ n∈row,1≤n∧n≤99)∧(∀ s∈sg,qM s)∧sg.length≤3∧(("":Str)∈sg→("*":Str) ∉ sg∧∀ n∈row,n≤9)
noncomputable def Good (sg:List Str) (k:Nat) (c:C3):Prop:=(c.2.1=1∨c.2.1=-1)∧(("":Str)∈sg→1≤c.2.2∧c.2.2 < 10 ^ (k + 1))
theorem good0 {sg:List Str} {n:Int} (h:1≤n) (h9:("":Str)∈sg→n≤9):Good sg 0 (0,1,n):=⟨.inl rfl,fun z=>⟨h,by have:=h9 z; show n < 10 ^ 1; lia⟩⟩
theorem aHN {sg:List Str} {k:Nat} {c:C3} {s:Str} {n:Int} (g:Good sg k c) (hs:s∈sg) (ho:qM s) (h1:1≤n) (hF:("":Str)∈sg→("*":Str) ∉ sg∧n≤9):Good sg (k + 1) (putN s c n):=by
 have p10:(10:Int) ^ (k + 1) ≥ 10:=by
  have:(0:Int) < 10 ^ k:=Int.pow_pos (by decide)
  rw [Int.pow_succ]; lia
 have p11:(10:Int) ^ (k + 1 + 1)=10 ^ (k + 1) * 10:=Int.pow_succ ..
 rcases ho with rfl | rfl | rfl | rfl
 ·rw [qK]; exact ⟨.inl rfl,fun z=>⟨h1,by have:=(hF z).2; show n < 10 ^ (k + 1 + 1); lia⟩⟩
 ·rw [qL]; exact ⟨.inr rfl,fun z=>⟨h1,by have:=(hF z).2; show n < 10 ^ (k + 1 + 1); lia⟩⟩
 ·rw [qU]; exact ⟨g.1,fun z=>absurd hs (hF z).1⟩
 ·rw [jk]
  refine ⟨g.1,fun z=>?_⟩
  have:=(hF z).2
  obtain ⟨a,b⟩:=g.2 z
  exact ⟨by show 1≤10 * c.2.2 + n; lia,by show 10 * c.2.2 + n < 10 ^ (k + 1 + 1); lia⟩
theorem aIU {b:Int} (h1:1≤b) (h2:b≤9):dig b=[48 + b.toNat]:=by
 obtain ⟨m,rfl⟩:=Int.eq_ofNat_of_zero_le (show 0≤b by lia)
 rw [aGE,Nat.toDigits_of_lt_base (by lia)]
 have:∀ k:Nat,k < 10→[Nat.digitChar k].map Char.toNat=[48 + k]:=by decide
 exact this m (by lia)
theorem aIV {a b:Int} (h1:1≤a) (h2:a < 10 ^ 40) (h3:1≤b) (h4:b≤9):PySem.intText? (Str.ofString (toString a)++Str.ofString (toString b))=some (10 * a + b)∧(Str.ofString (toString a)++Str.ofString (toString b)).length≤640∧(Str.ofString (toString a)).length + (Str.ofString (toString b)).length≤640:=by
 have ht:a < topN:=Int.lt_of_lt_of_le h2 (by decide)
 obtain ⟨d1,⟨c,r,e1,_⟩,l1,v1⟩:=aGF h1 ht
 have e2:=aIU h3 h4
 have ec:cs (Str.ofString (toString a)++Str.ofString (toString b))=dig a++[48 + b.toNat]:=by rw [aJC]; show dig a++dig b=_; rw [e2]
 have hl:(Str.ofString (toString a)++Str.ofString (toString b)).length≤64:=by rw [← aFz,ec,List.length_append]; show (dig a).length + 1≤64; lia
 refine ⟨?_,by lia,?_⟩
 ·have:=intText_digits (x:=Str.ofString (toString a)++Str.ofString (toString b)) (by
   show AllDigits (cs _)
   rw [ec]
   intro c hc
   rcases List.mem_append.mp hc with hc | hc
   ·exact d1 c hc
   ·rw [List.mem_singleton.mp hc]; lia) (by show cs _≠[]; rw [ec]; simp) (by lia)
  rw [this]
  congr 1
  show ((digitsVal (cs _):Nat):Int)=_
  rw [ec]
  have:digitsVal (dig a++[48 + b.toNat])=digitsVal (dig a) * 10 + b.toNat:=by
   unfold digitsVal
   rw [List.foldl_append]
   show _ * 10 + (48 + b.toNat - 48)=_
   lia
  rw [this]
  lia
 ·have x1:(Str.ofString (toString a)).length≤63:=by rw [← aFz]; exact l1
  have x2:(Str.ofString (toString b)).length=1:=by rw [← aFz]; show (dig b).length=1; rw [e2]; rfl
  lia
noncomputable def Put (H:Hp) (v:V) (ss:List Str):Prop:=∃ q,v=.ref q∧H q=some (.tup (ss.map V.str))
noncomputable def Come (H:Hp) (v:V) (c:C3):Prop:=∃ q,v=.ref q∧H q=some (.tup [.int c.1,.int c.2.1,.int c.2.2])
noncomputable def WayAt (H:Hp) (v:V) (x:List Str×C3):Prop:=∃ q u c,v=.ref q∧H q=some (.tup [u,c])∧Put H u x.1∧Come H c x.2
theorem Put.kt {H H':Hp} {v:V} {ss:List Str} (k:KT H H') (h:Put H v ss):Put H' v ss:=by
 obtain ⟨q,e,h⟩:=h
 exact ⟨q,e,k _ _ h⟩
theorem Come.kt {H H':Hp} {v:V} {c:C3} (k:KT H H') (h:Come H v c):Come H' v c:=by
 obtain ⟨q,e,h⟩:=h
 exact ⟨q,e,k _ _ h⟩
theorem WayAt.kt {H H':Hp} {v:V} {x:List Str×C3} (k:KT H H') (h:WayAt H v x):WayAt H' v x:=by
 obtain ⟨q,u,c,e,h,p,r⟩:=h
 exact ⟨q,u,c,e,k _ _ h,p.kt k,r.kt k⟩
theorem pr_kt {H H':Hp} {α:Type} {R:Hp→V→α→Prop} (kk:∀ v x,R H v x→R H' v x) {vs:List V} {xs:List α} (h:Paired (R H) vs xs):Paired (R H') vs xs:=Paired.mapP h kk
theorem aA0 {α β:Type} {R:α→β→Prop}:∀ {a:List α} {b:List β} {x:α} {y:β},Paired R a b→R x y→Paired R (a++[x]) (b++[y])
 | _,_,_,_,.nil,h=>.cons h .nil
 | _,_,_,_,.cons p r,h=>.cons p (aA0 r h)
theorem aA1 {α β:Type} {R:α→β→Prop}:∀ {a:List α} {b:List β} {i:Nat} {x:α},Paired R a b→a[i]?=some x→∃ y,b[i]?=some y∧R x y
 | _,_,_,_,.nil,e=>by simp at e
 | _,_,0,_,.cons p r,e=>by simp at e; subst e; exact ⟨_,rfl,p⟩
 | _,_,i + 1,x,.cons p r,e=>by
  obtain ⟨y,h1,h2⟩:=aA1 (i:=i) (x:=x) r (by simpa using e)
  exact ⟨y,by simpa using h1,h2⟩
theorem aAh {α β:Type} {R:α→β→Prop}:∀ {a:List α} {b:List β} {i:Nat} {y:β},Paired R a b→b[i]?=some y→∃ x,a[i]?=some x∧R x y
 | _,_,_,_,.nil,e=>by simp at e
 | _,_,0,_,.cons p r,e=>by simp at e; subst e; exact ⟨_,rfl,p⟩
 | _,_,i + 1,x,.cons p r,e=>by
  obtain ⟨y,h1,h2⟩:=aAh (i:=i) (y:=x) r (by simpa using e)
  exact ⟨y,by simpa using h1,h2⟩
theorem zU {α:Type} {l:List α} {i:Nat} {x:α} (h:l[i]?=some x):l.take (i + 1)=l.take i++[x]:=by
 rw [List.take_add_one,h]; rfl
theorem yy {α:Type} (p:α→Bool) (l:List α) (x:α):(l++[x]).filter p=if p x=true then l.filter p++[x] else l.filter p:=by
 rw [List.filter_append]
 by_cases h:p x=true
 ·rw [if_pos h,List.filter_cons_of_pos h]; rfl
 ·rw [if_neg h,List.filter_cons_of_neg h]; simp
noncomputable def wys (sg:List Str) (r0:Int) (rest:List Int) (k:Nat):List (List Str×C3):=(chs sg k).map fun ss=>(ss,comeF (0,1,r0) (rest.take k) ss)
theorem aEX {sg:List Str} {r0:Int} {rest:List Int} {k:Nat} {n:Int} (h:rest[k]?=some n):wys sg r0 rest (k + 1)=(wys sg r0 rest k).flatMap fun x=>sg.map fun s=>(x.1++[s],putN s x.2 n):=by
 have hl:k < rest.length:=(List.getElem?_eq_some_iff.mp h).1
 unfold wys
 show ((chs sg k).flatMap _).map _=_
 rw [List.map_flatMap,List.flatMap_map]
 have fmc:∀ (l:List (List Str)) (f g:List Str→List (List Str×C3)),(∀ x∈l,f x=g x)→l.flatMap f=l.flatMap g:=by
  intro l f g
  induction l with
  | nil=>intro _; rfl
  | cons y r ih=>intro h; rw [List.flatMap_cons,List.flatMap_cons,h y (List.mem_cons_self ..),ih fun x hx=>h x (List.mem_cons_of_mem _ hx)]
 refine fmc _ _ _ fun ss hs=>?_
 rw [List.map_map]
 apply List.map_congr_left
 intro s _
 show (ss++[s],comeF (0,1,r0) (rest.take (k + 1)) (ss++[s]))=(ss++[s],putN s (comeF (0,1,r0) (rest.take k) ss) n)
 rw [zU h,jQ n s _ _ _ (by rw [List.length_take,jR sg k ss hs]; lia)]
theorem aE4 (sg:List Str) (r0:Int) (rest:List Int) (k:Nat):(wys sg r0 rest k).length=sg.length ^ k:=by unfold wys; rw [List.length_map,yA]
theorem aCQ {sg:List Str} {r0:Int} {rest:List Int} (ho:RowOk sg (r0 :: rest)):∀ (k:Nat) (x:List Str×C3),k≤rest.length→x∈wys sg r0 rest k→Good sg k x.2:=by
 obtain ⟨_,_,h99,hsg,_,hF⟩:=ho
 intro k
 induction k with
 | zero =>
  intro x _ hx
  have:x=([],(0,1,r0)):=by
   unfold wys at hx
   simpa [chs,comeF] using hx
  rw [this]
  exact good0 (h99 r0 (List.mem_cons_self ..)).1 fun z=>(hF z).2 r0 (List.mem_cons_self ..)
 | succ k ih =>
  intro x hk hx
  obtain ⟨n,hn⟩:∃ n,rest[k]?=some n:=⟨rest[k],List.getElem?_eq_getElem (by lia)⟩
  rw [aEX hn] at hx
  obtain ⟨y,hy,h2⟩:=List.mem_flatMap.mp hx
  obtain ⟨s,hs,rfl⟩:=List.mem_map.mp h2
  have hnm:n∈r0 :: rest:=List.mem_cons_of_mem _ (List.mem_of_getElem? hn)
  exact aHN (ih y (by lia) hy) hs (hsg s hs) (h99 n hnm).1 fun z=>⟨(hF z).1,(hF z).2 n hnm⟩
noncomputable def due (sg:List Str) (r0:Int) (rest:List Int) (wish:Int):List (List Str):=(chs sg rest.length).filter fun ss=>decide (wr (comeF (0,1,r0) rest ss)=wish)
theorem aIW (sg:List Str) (r0:Int) (rest:List Int) (wish:Int):due sg r0 rest wish=((wys sg r0 rest rest.length).filter fun x=>decide (wr x.2=wish)).map (·.1):=by
 unfold due wys
 rw [List.filter_map,List.map_map,List.take_length]
 show _=List.map (fun ss=>ss) _
 rw [List.map_id']
 rfl
end Law
namespace L2
open PySem PySem.Spec PyProof.Rows
section
variable {κ:Type} [DecidableEq κ]
noncomputable def valV (kvs:List (κ×V)) (k:κ):Option V:=(kvs.find? fun kv=>decide (kv.1=k)).map (·.2)
noncomputable def putK (kvs:List (κ×V)) (k:κ) (v:V):List (κ×V) :=
 if (kvs.any fun kv=>decide (kv.1=k))=true then kvs.map (fun kv=>if kv.1=k then (kv.1,v) else kv) else kvs++[(k,v)]
theorem jA {p:κ×V} {r:List (κ×V)} {k:κ} (e:p.1=k):valV (p :: r) k=some p.2:=by simp [valV,List.find?_cons,e]
theorem jB {p:κ×V} {r:List (κ×V)} {k:κ} (e:¬ p.1=k):valV (p :: r) k=valV r k:=by simp [valV,List.find?_cons,e]
theorem aEY (k:κ):∀ kvs:List (κ×V),(kvs.any fun kv=>decide (kv.1=k))=(valV kvs k).isSome
 | []=>rfl
 | p :: r=>by
  rw [List.any_cons]
  by_cases e:p.1=k
  ·simp only [jA e,decide_eq_true e,Bool.true_or,Option.isSome_some]
  ·rw [jB e,decide_eq_false e,Bool.false_or]; exact aEY k r
theorem qe (kvs:List (κ×V)) (k:κ) (v:V):(putK kvs k v).length≤kvs.length + 1:=by
 unfold putK
 split
 ·rw [List.length_map]; lia
 ·rw [List.length_append,List.length_cons,List.length_nil]; lia
theorem RelO.isSome_eq {o:Option V} {u:Option Value} (r:RelO o u):o.isSome=u.isSome:=by
 cases o with
 | none=>cases u with
  | none=>rfl
  | some _=>exact (show False from r).elim
 | some _=>cases u with
  | none=>exact (show False from r).elim
  | some _=>rfl
theorem RelO.getD {o:Option V} {u:Option Value} {d:V} {d':Value} (r:RelO o u) (rd:RelV d d'):RelV (o.getD d) (u.getD d'):=by
 cases o with
 | none=>cases u with
  | none=>exact rd
  | some _=>exact (show False from r).elim
 | some _=>cases u with
  | none=>exact (show False from r).elim
  | some _=>exact r
theorem KV.val {kvs:List (κ×V)} {vs:List (κ×Value)} (r:KV kvs vs) (k:κ):RelO (valV kvs k) (valueAt vs k):=by
 unfold KV at r
 induction r with
 | nil=>exact True.intro
 | @cons p q ps qs h t ih =>
  obtain ⟨h1,h2⟩:=h
  by_cases e:p.1=k
  ·have e':q.1=k:=h1.symm.trans e
   have b:valueAt (q :: qs) k=some q.2:=by simp [valueAt,List.find?_cons,e']
   rw [jA e,b]; exact h2
  ·have e':¬ q.1=k:=fun z=>e (h1.trans z)
   have b:valueAt (q :: qs) k=valueAt qs k:=by simp [valueAt,List.find?_cons,e']
   rw [jB e,b]; exact ih
theorem KV.any {kvs:List (κ×V)} {vs:List (κ×Value)} (r:KV kvs vs) (k:κ):(kvs.any fun kv=>decide (kv.1=k))=vs.any fun kv=>decide (kv.1=k):=by
 unfold KV at r
 induction r with
 | nil=>rfl
 | cons h t ih=>rw [List.any_cons,List.any_cons,ih,h.1]
theorem KV.repl {kvs:List (κ×V)} {vs:List (κ×Value)} (r:KV kvs vs) (k:κ) {y:V} {u:Value} (ry:RelV y u) :
  KV (kvs.map fun kv=>if kv.1=k then (kv.1,y) else kv) (vs.map fun kv=>if kv.1=k then (kv.1,u) else kv):=by
 unfold KV at r ⊢
 induction r with
 | nil=>exact .nil
 | @cons p q ps qs h t ih =>
  rw [List.map_cons,List.map_cons]
  refine .cons ?_ ih
  obtain ⟨h1,h2⟩:=h
  by_cases e:p.1=k
  ·rw [if_pos e,if_pos (h1.symm.trans e)]; exact ⟨h1,ry⟩
  ·rw [if_neg e,if_neg (fun z=>e (h1.trans z))]; exact ⟨h1,h2⟩
theorem KV.put {kvs:List (κ×V)} {vs:List (κ×Value)} (r:KV kvs vs) (k:κ) {y:V} {u:Value} (ry:RelV y u):KV (putK kvs k y) (stored vs k u):=by
 unfold putK stored
 rw [r.any k]
 by_cases e:(vs.any fun kv=>decide (kv.1=k))=true
 ·rw [if_pos e,if_pos e]; exact r.repl k ry
 ·rw [if_neg e,if_neg e]; exact Paired.snoc r ⟨rfl,ry⟩
theorem KV.keys {kvs:List (κ×V)} {vs:List (κ×Value)} (r:KV kvs vs):kvs.map (·.1)=vs.map (·.1):=by
 unfold KV at r
 induction r with
 | nil=>rfl
 | cons h t ih=>rw [List.map_cons,List.map_cons,ih,h.1]
theorem KV.length {kvs:List (κ×V)} {vs:List (κ×Value)} (r:KV kvs vs):kvs.length=vs.length:=Paired.length r
end
theorem kV_is {P:Program} {w:World} {k:Key} {u:Value} (r:RelV (kV k) u):(zV P w).is k u=true:=by
 cases k with
 | inl i=>obtain ⟨t,e⟩:=(show ∃ t,u=Value.int i t from r); subst e; exact aDt P w i t
 | inr x=>obtain ⟨t,e⟩:=(show ∃ t,u=Value.str x t from r); subst e; exact aDu P w x t
theorem aCR {P:Program} {w:World}:∀ {ks:List Key} {us:List Value},Vals (ks.map kV) us→ItemsAre (zV P w) ks us
 | [],_,r=>by rw [List.map_nil] at r; cases r; exact .nil
 | k :: ks,_,r=>by
  rw [List.map_cons] at r
  cases r with
  | cons h t=>exact .cons (kV_is h) (aCR t)
noncomputable abbrev KTd (H:Hp):List (List Key×V)→List (List Key×Addr×Value)→Prop:=Paired fun p q=>p.1=q.1∧H q.2.1=some (.tup (p.1.map kV))∧RelV p.2 q.2.2
theorem KTd.val {H:Hp} {kvs:List (List Key×V)} {xs:List (List Key×Addr×Value)} (r:KTd H kvs xs) (k:List Key):RelO (valV kvs k) ((atKey xs k).map (·.2)):=by
 induction r with
 | nil=>exact True.intro
 | @cons p q ps qs h t ih =>
  obtain ⟨h1,_,h2⟩:=h
  by_cases e:p.1=k
  ·have e':q.1=k:=h1.symm.trans e
   have b:atKey (q :: qs) k=some q.2:=by simp [atKey,List.find?_cons,e']
   rw [jA e,b]; exact h2
  ·have e':¬ q.1=k:=fun z=>e (h1.trans z)
   have b:atKey (q :: qs) k=atKey qs k:=by simp [atKey,List.find?_cons,e']
   rw [jB e,b]; exact ih
theorem KTd.repl {H:Hp} {kvs:List (List Key×V)} {xs:List (List Key×Addr×Value)} (r:KTd H kvs xs) (k:List Key) {y:V} {u:Value} (ry:RelV y u) :
  KTd H (kvs.map fun kv=>if kv.1=k then (kv.1,y) else kv) (xs.map (PySem.putAt k u)):=by
 induction r with
 | nil=>exact .nil
 | @cons p q ps qs h t ih =>
  rw [List.map_cons,List.map_cons]
  refine .cons ?_ ih
  obtain ⟨h1,h2,h3⟩:=h
  unfold PySem.putAt
  by_cases e:p.1=k
  ·rw [if_pos e,if_pos (h1.symm.trans e)]; exact ⟨h1,h2,ry⟩
  ·rw [if_neg e,if_neg (fun z=>e (h1.trans z))]; exact ⟨h1,h2,h3⟩
theorem KTd.put {H:Hp} {kvs:List (List Key×V)} {xs:List (List Key×Addr×Value)} (r:KTd H kvs xs) (k:List Key) {b:Addr} {y:V} {u:Value} (hb:H b=some (.tup (k.map kV))) (ry:RelV y u) :
  KTd H (putK kvs k y) (storedH xs k b u):=by
 have e:(kvs.any fun kv=>decide (kv.1=k))=(atKey xs k).isSome:=by
  rw [aEY,(r.val k).isSome_eq,Option.isSome_map]
 unfold putK storedH
 rw [e]
 by_cases q:(atKey xs k).isSome=true
 ·rw [if_pos q,if_pos q]; exact r.repl k ry
 ·rw [if_neg q,if_neg q]; exact Paired.snoc r ⟨rfl,hb,ry⟩
theorem KTd.keeps {H H':Hp} {kvs:List (List Key×V)} {xs:List (List Key×Addr×Value)} (r:KTd H kvs xs) (ht:∀ b ys,H b=some (.tup ys)→H' b=some (.tup ys)):KTd H' kvs xs :=
 Paired.mapP r fun _ _ z=>⟨z.1,ht _ _ z.2.1,z.2.2⟩
section
variable {P:Program} {w:World} {H:Hp} {h:Heap} {a:Addr}
theorem rd_of {u:HO} (ok:HOk P w H h) (e:Rd H a u):ObjOk P w H h a u:=e.ok ok
theorem dk_rd {kvs:List (Key×V)} (ok:HOk P w H h) (e:Rd H a (.dK kvs)):kvs.length≤sizeLine∧(a == sysModules)=false∧∃ vs,KV kvs vs∧h.DictOf (zV P w) a vs :=
 show ObjOk P w H h a (.dK kvs) from rd_of ok e
theorem dk_of {kvs:List (Key×V)} (ok:HOk P w H h) (e:H a=some (.dK kvs)):kvs.length≤sizeLine∧(a == sysModules)=false∧∃ vs,KV kvs vs∧h.DictOf (zV P w) a vs:=dk_rd ok (.inl e)
theorem aEZ {ks:List Key} (ok:HOk P w H h) (e:H a=some (.tup (ks.map kV))):(tupleKind (zV P w)).is h ks a:=by
 obtain ⟨_,its,r,o,h1,h2,n,h3⟩:=(show ObjOk P w H h a (.tup (ks.map kV)) from ok a _ e)
 exact ⟨o,its.toArray,n,h1,h2,h3,by simpa using aCR r⟩
theorem dt_rd {kvs:List (List Key×V)} (ok:HOk P w H h) (e:Rd H a (.dT kvs)):kvs.length≤sizeLine∧(a == sysModules)=false ∧
  ∃ xs,KTd H kvs xs∧h.DictOfH (tupleKind (zV P w)) a xs:=by
 obtain ⟨z,y,xs,r,o,es,ep,h1,h2,h3,h4,h5⟩:=(show ObjOk P w H h a (.dT kvs) from rd_of ok e)
 refine ⟨z,y,xs,r,o,es,ep,h1,h2,h3,h4,fun x hx=>?_,h5⟩
 have all:∀ {l:List (List Key×V)} {m:List (List Key×Addr×Value)},KTd H l m→∀ x∈m,(tupleKind (zV P w)).is h x.1 x.2.1:=by
  intro l m q
  induction q with
  | nil=>intro x hx; exact nomatch hx
  | @cons p q ps qs hq t ih =>
   intro x hx
   rcases List.mem_cons.mp hx with e | hx
   ·subst e
    exact aEZ ok (by rw [← hq.1]; exact hq.2.1)
   ·exact ih x hx
 exact all r x hx
theorem dt_of {kvs:List (List Key×V)} (ok:HOk P w H h) (e:H a=some (.dT kvs)):kvs.length≤sizeLine∧(a == sysModules)=false ∧
  ∃ xs,KTd H kvs xs∧h.DictOfH (tupleKind (zV P w)) a xs:=dt_rd ok (.inl e)
end
noncomputable def DGet (H:Hp) (a:Addr) (y:V) (r:Option V):Prop :=
 (∃ kvs k,Rd H a (.dK kvs)∧y=kV k∧r=valV kvs k)∨∃ kvs k b,Rd H a (.dT kvs)∧y=.ref b∧H b=some (.tup (k.map kV))∧r=valV kvs k
noncomputable def DPut (H:Hp) (a:Addr) (y v:V) (H':Hp):Prop :=
 (∃ kvs k,H a=some (.dK kvs)∧y=kV k∧kvs.length < sizeLine∧H'=upd H a (.dK (putK kvs k v))) ∨
 ∃ kvs k b,H a=some (.dT kvs)∧y=.ref b∧H b=some (.tup (k.map kV))∧kvs.length < sizeLine∧H'=upd H a (.dT (putK kvs k v))
theorem DGet.k {H:Hp} {a:Addr} {kvs:List (Key×V)} {k:Key} (e:H a=some (.dK kvs)):DGet H a (kV k) (valV kvs k):=.inl ⟨kvs,k,.inl e,rfl,rfl⟩
theorem DPut.k {H:Hp} {a:Addr} {kvs:List (Key×V)} {k:Key} {v:V} (e:H a=some (.dK kvs)) (hl:kvs.length < sizeLine):DPut H a (kV k) v (upd H a (.dK (putK kvs k v))):=.inl ⟨kvs,k,e,rfl,hl,rfl⟩
section
variable {X:Cx} {pins:List (Addr×Obj)} {σ:St} {H:Hp} {s:Shared} {a:Addr} {y v:V} {u r:Value} {o:Option V} {A:Around} {E:Value→Shared→Prop}
theorem Inv.big (I:Inv X pins σ H s):sysModules < s.heap.objs.size:=by
 have h:mainGlobals < s.heap.objs.size:=(I.mod.glob.keeps I.bk).lt
 exact Nat.lt_trans (by decide) h
theorem aGG {Q:Value→Shared→Prop} (hu:A.units + 1 < cLine) (I:Inv X pins σ H s) (g:DGet H a y (some v)) (ry:RelV y u) (h:∀ w' s',Inv X pins σ H s'→RelV v w'→Q w' s') :
  wpAny (model X.prog X.w) A (getItem (.ref a) u) Q E s:=by
 rcases g with ⟨kvs,k,e,ey,l⟩ | ⟨kvs,k,b,e,ey,eb,l⟩
 ·subst ey
  obtain ⟨z,hd,vs,rel,dd⟩:=dk_rd I.hok e
  obtain ⟨w',hw,rw'⟩:=RelO.some_of (v:=v) (o:=valueAt vs k) (by rw [l]; exact rel.val k)
  exact wpAny_getItem_of (kV_is ry) dd.mapOf hw (h w' _ (I.tok _) rw')
 ·subst ey
  cases (show u=Value.ref b from ry)
  obtain ⟨z,hd,xs,rel,dd⟩:=dt_rd I.hok e
  obtain ⟨w',hw,rw'⟩:=RelO.some_of (v:=v) (o:=(atKey xs k).map (·.2)) (by rw [l]; exact rel.val k)
  obtain ⟨p,hp,hp2⟩:=Option.map_eq_some_iff.mp hw
  refine wpAny_getItem_heap (tupleKind_room_in1 hu) (aEZ I.hok eb) dd hp ?_
  rw [hp2]
  exact h w' _ (I.tok _) rw'
theorem aE5 {h':Heap} {t':Nat} {ob:HO} (I:Inv X pins σ H s) (mu:Mut (H a)) (hs:Heap.SameBut a s.heap h') (he:∃ q,h'.get? a=some q) (new:ObjOk X.prog X.w (upd H a ob) h' a ob) :
  Inv X pins σ (upd H a ob) { s with heap:=h',toks:=t' } :=
 I.write (x:=a) (e:=a) mu (.inl rfl) (fun b q hb z=>(hs.2 b hb).trans z) he new
theorem aHv {P:Program} {w:World} {H':Hp} {h':Heap} {kvs:List (Key×V)} {vs:List (Key×Value)} (z:kvs.length≤sizeLine) (hd:(a == sysModules)=false) (rel:KV kvs vs) (dd:h'.DictOf (zV P w) a vs) :
  ObjOk P w H' h' a (.dK kvs):=⟨z,hd,vs,rel,dd⟩
theorem aGH {H':Hp} {Q:Unit→Shared→Prop} (hu:A.units + 1 < cLine) (I:Inv X pins σ H s) (g:DPut H a y v H') (ry:RelV y u) (rv:RelV v r) (h:∀ s',Inv X pins σ H' s'→Q () s') :
  wpAny (model X.prog X.w) A (setItem (.ref a) u r) Q E s:=by
 rcases g with ⟨kvs,k,e,ey,l,eH⟩ | ⟨kvs,k,b,e,ey,eb,l,eH⟩
 ·subst ey eH
  obtain ⟨z,hd,vs,rel,dd⟩:=dk_of I.hok e
  have hz:vs.length≤sizeLine:=by rw [← rel.length]; exact z
  have hl:(putK kvs k v).length≤sizeLine:=by have:=qe kvs k v; lia
  refine wpAny_setItem_pairs (hsz:=hz) (kV_is ry) dd fun h' dd' hs=>h _ ?_
  have he:∃ q,h'.get? a=some q:=let ⟨q,_,_,hq,_⟩:=dd'; ⟨q,hq⟩
  exact aE5 I (by rw [e]; exact True.intro) hs he (aHv hl hd (rel.put k rv) dd')
 ·subst ey eH
  cases (show u=Value.ref b from ry)
  obtain ⟨z,hd,xs,rel,dd⟩:=dt_of I.hok e
  have hz:xs.length≤sizeLine:=by rw [← Paired.length rel]; exact z
  have hl:(putK kvs k v).length≤sizeLine:=by have:=qe kvs k v; lia
  refine wpAny_setItem_heap (hsz:=hz) (tupleKind_room_in1 hu) (aEZ I.hok eb) dd fun h' dd' hs=>h _ ?_
  obtain ⟨q,es,ep,hq,h2,h3,h4,_,h5⟩:=dd'
  refine aE5 I (by rw [e]; exact True.intro) hs ⟨q,hq⟩ ⟨hl,hd,_,(rel.put k eb rv).keeps fun c ys ec=>?_,q,es,ep,hq,h2,h3,h4,h5⟩
  rw [zH (ne_of ec e (fun z=>nomatch z))]
  exact ec
end
section
variable {X:Cx} {pins:List (Addr×Obj)} {σ:St} {H:Hp} {s:Shared} {a:Addr} {kvs:List (Key×V)} {k:Key} {u:Value} {A:Around} {E:Value→Shared→Prop}
end
noncomputable def NoSl (i:Expr):Prop:=∀ ov iv,subscripted i false ov iv=operate [ov,iv] (getItem ov iv)
theorem aIX {prog:Program} {w:World} {A:Around} {E:Value→Shared→Prop} {s:Shared} {env:Env} {value slice:Expr} {pos:Pos} {T id:String} {Q:Value→Shared→Prop}
    (hl:typeLookup (.type T) "__getitem__"=pure (some (.builtin id))) (hs:NoSl slice)
    (h:wpAny (model prog w) A (eval value env) (fun o s₁=>wpAny (model prog w) A (eval slice env) (fun i s₂=>s₂.TypeIs o T∧wpAny (model prog w) A (getItem o i) Q E s₂) E s₁) E s) :
    wpAny (model prog w) A (eval (.Subscript value slice pos) env) Q E s:=by
  refine Subscript_ (wpAny_mono h (fun o s₁ h₁=>wpAny_mono h₁ (fun i s₂ h₂=>?_) fun _ _ x=>x) fun _ _ x=>x)
  obtain ⟨hT,h₂⟩:=h₂
  unfold subscriptTail
  refine wpAny_bind ?_
  rw [getitemInPython_of_ne hT.not_modules]
  refine wpAny_bind (wpAny_specialOf hT hl ?_)
  have fin:wpAny (model prog w) A (subscripted slice false o i) (fun r s₃=>wpAny (model prog w) A (letTemporaryGo value o r >>= fun _=>pure r) Q E s₃) E s₂:=by
    rw [hs o i]
    exact wpAny_operating (wpAny_mono h₂ (fun r s₃ h₃=>wpAny_bind (wpAny_letTemporaryGo (wpAny_pure h₃))) fun _ _ x=>x)
  first
    | exact wpAny_pure (wpAny_bind fin)
    | exact wpAny_bind (wpAny_pure (wpAny_bind fin))
    | exact wpAny_bind fin
theorem aE6 {X:Cx} {pins:List (Addr×Obj)} {σ:St} {H:Hp} {s:Shared} {a:Addr} {y:V} {o:Option V} (I:Inv X pins σ H s) (g:DGet H a y o):s.TypeIs (.ref a) "dict":=by
 rcases g with ⟨kvs,k,e,_,_⟩ | ⟨kvs,k,b,e,_,_,_⟩
 ·obtain ⟨_,_,vs,_,dd⟩:=dk_rd I.hok e
  exact dd.typeIs
 ·obtain ⟨_,_,xs,_,dd⟩:=dt_rd I.hok e
  exact dd.typeIs
noncomputable def tDGet (td ty:TE):TE:=fun σ H Q=>td σ H fun x H1=>ty σ H1 fun y H2=>∃ a v,x=.ref a∧DGet H2 a y (some v)∧Q v H2
noncomputable def sDPut (td ty tv:TE):TS:=fun D σ H=>tv σ H fun v H1=>td σ H1 fun x H2=>ty σ H2 fun y H3=>∃ a H4,x=.ref a∧DPut H3 a y v H4∧D.nx σ H4
section
variable {X:Cx} {o i e value:Expr} {pos pos' tpos:Pos} {td ty tv:TE}
theorem aIY (hu:X.A.units + 1 < cLine) (ho:PE X o td) (hi:PE X i ty) (hs:NoSl i):PE X (.Subscript o i pos) (tDGet td ty):=by
 intro pins s σ H Q I h
 refine aIX PySem.F.slot_dict_getitem.lookup hs (thn (ho pins s σ H _ I h) fun u s1 ⟨x,H1,I1,rx,q1⟩=>thn (hi pins s1 σ H1 _ I1 q1) fun iv s2 ⟨y,H2,I2,ry,a,v,ex,g,q2⟩=>?_)
 subst ex
 obtain rfl:u=Value.ref a:=rx
 exact ⟨aE6 I2 g,aGG hu I2 g ry fun w' s3 I3 rw'=>⟨v,H2,I3,rw',q2⟩⟩
theorem aGI (hu:X.A.units + 1 < cLine) (ho:PE X o td) (hi:PE X i ty) (hv:PE X value tv) (hs:swapsWith value (some (.Subscript o i pos')) pos.line X.env=pure false) :
  PS X (.Assign [.Subscript o i pos'] value pos) (sDPut td ty tv):=by
 intro pins s σ H D I h
 refine wpAny_Assign_Subscript (thn (hv pins s σ H _ I h) fun r s1 ⟨v,H1,I1,rv,q1⟩=>thn (ho pins s1 σ H1 _ I1 q1) fun u s2 ⟨x,H2,I2,rx,q2⟩=>thn (hi pins s2 σ H2 _ I2 q2) fun iv s3 ⟨y,H3,I3,ry,a,H4,ex,g,q3⟩=>?_) hs
 subst ex
 obtain rfl:u=Value.ref a:=rx
 exact aGH hu I3 g ry rv fun s4 I4=>⟨σ,H4,I4,q3⟩
end
theorem aEa {P:Program} {w:World} {H:Hp} (h:Heap) (hb:sysModules < h.objs.size):ObjOk P w H (h.push { cls:=.type "dict",data:=.dict #[] }) h.objs.size (.dK []) :=
 ⟨Nat.zero_le _,beq_eq_false_iff_ne.mpr (Ne.symm (Nat.ne_of_lt hb)),[],.nil,Heap.DictOf.new h⟩
noncomputable def aJO:TE:=fun _ H Q=>∀ p,H p=none→Q (.ref p) (upd H p (.dK []))
section
variable {X:Cx} {pos:Pos}
theorem aEb:PE X (.Dict [] [] pos) aJO:=fun pins s σ H Q I h =>
 wpAny_Dict_empty ⟨.ref s.heap.objs.size,_,I.laid (a:=s.heap.objs.size) (o:=.dK []) (t':=s.toks) (fun _ _ q=>Heap.get?_push_of_some _ q) (Nat.le_refl _) (aEa s.heap I.big),rfl,h _ (I.hok.fresh (Nat.le_refl _))⟩
end
noncomputable def aGJ:List (TE×TE)→St→Hp→(List (V×V)→Hp→Prop)→Prop
 | [],_,H,Q=>Q [] H
 | (tk,tv) :: r,σ,H,Q=>tk σ H fun x H1=>tv σ H1 fun y H2=>aGJ r σ H2 fun ps H3=>Q ((x,y) :: ps) H3
noncomputable abbrev VV:List (V×V)→List (Value×Value)→Prop:=Paired fun p q=>RelV p.1 q.1∧RelV p.2 q.2
noncomputable def PPs (X:Cx) (pos:Pos) (keys:List (Option Expr)) (values:List Expr) (trs:List (TE×TE)):Prop :=
 ∀ (pins:List (Addr×Obj)) (s:Shared) (σ:St) (H:Hp) (Q:List (V×V)→Hp→Prop),Inv X pins σ H s→aGJ trs σ H Q →
  wpAny (model X.prog X.w) X.A (evalPairs (pairTrees keys values X.env pos)) (fun vs s'=>∃ ps H',Inv X pins σ H' s'∧VV ps vs∧Q ps H') X.xe s
theorem aGK {X:Cx} {pos:Pos}:PPs X pos [] [] []:=fun pins s σ H Q I h=>pairTrees_nil_walk ⟨[],H,I,.nil,h⟩
theorem aEc {X:Cx} {pos:Pos} {k v:Expr} {ks:List (Option Expr)} {vs:List Expr} {tk tv:TE} {trs:List (TE×TE)} (hk:PE X k tk) (hv:PE X v tv) (hr:PPs X pos ks vs trs) :
  PPs X pos (some k :: ks) (v :: vs) ((tk,tv) :: trs):=fun pins s σ H Q I h =>
 pairTrees_cons_walk (thn (hk pins s σ H _ I h) fun u s1 ⟨x,H1,I1,rx,q1⟩=>thn (hv pins s1 σ H1 _ I1 q1) fun w2 s2 ⟨y,H2,I2,ry,q2⟩ =>
  thn (hr pins s2 σ H2 _ I2 q2) fun ws s3 ⟨ps,H3,I3,rel,q3⟩=>⟨(x,y) :: ps,H3,I3,.cons ⟨rx,ry⟩ rel,q3⟩)
noncomputable def aA2 (kvs more:List (Key×V)):List (Key×V):=more.foldl (fun acc kv=>putK acc kv.1 kv.2) kvs
theorem KV.merge:∀ {more:List (Key×V)} {rs:List (Key×Value)} {kvs:List (Key×V)} {vs:List (Key×Value)},KV more rs→KV kvs vs→KV (aA2 kvs more) (merged vs rs):=by
 intro more rs kvs vs r
 unfold KV at r
 induction r generalizing kvs vs with
 | nil=>intro q; exact q
 | @cons p q ps qs h t ih =>
  intro r0
  have e:KV (putK kvs p.1 p.2) (stored vs q.1 q.2):=by
   have:=r0.put p.1 h.2
   rw [← h.1]; exact this
  exact ih e
theorem jC:∀ (more kvs:List (Key×V)),(aA2 kvs more).length≤kvs.length + more.length
 | [],kvs=>by show kvs.length≤kvs.length + 0; lia
 | p :: r,kvs=>by
  have h1:=jC r (putK kvs p.1 p.2)
  have h2:=qe kvs p.1 p.2
  show (aA2 (putK kvs p.1 p.2) r).length≤_
  rw [List.length_cons]; lia
theorem aAR {P:Program} {w:World}:∀ {kvs:List (Key×V)} {ws:List (Value×Value)},VV (kvs.map fun kv=>(kV kv.1,kv.2)) ws→∃ rs,Carries (zV P w) ws rs∧KV kvs rs
 | [],_,r=>by rw [List.map_nil] at r; cases r; exact ⟨[],True.intro,.nil⟩
 | p :: kvs,_,r=>by
  rw [List.map_cons] at r
  cases r with
  | @cons a b as bs h t =>
   obtain ⟨rs,c,q⟩:=aAR (P:=P) (w:=w) t
   obtain ⟨b1,b2⟩:=b
   exact ⟨(p.1,b2) :: rs,⟨kV_is h.1,rfl,c⟩,.cons ⟨rfl,h.2⟩ q⟩
noncomputable def tDisp (trs:List (TE×TE)):TE:=fun σ H Q=>∀ p,H p=none→aGJ trs σ (upd H p (.dK [])) fun ps H2=>H2 p=some (.dK [])∧∃ kvs:List (Key×V),ps=kvs.map (fun kv=>(kV kv.1,kv.2))∧kvs.length≤15∧Q (.ref p) (upd H2 p (.dK (aA2 [] kvs)))
theorem aGL {X:Cx} {pos:Pos} {keys:List (Option Expr)} {values:List Expr} {trs:List (TE×TE)} (h:PPs X pos keys values trs) (hall:keys.all (·.isSome)=true) (hl:keys.length=values.length) (h0:keys≠[])
  (h15:keys.length≤15):PE X (.Dict keys values pos) (tDisp trs):=by
 intro pins s σ H Q I q
 have hn:=I.hok.fresh (Nat.le_refl s.heap.objs.size)
 have I1:=I.laid (a:=s.heap.objs.size) (o:=.dK []) (h':=s.heap.push { cls:=.type "dict",data:=.dict #[] }) (t':=s.toks) (fun _ _ q=>Heap.get?_push_of_some _ q) (Nat.le_refl _) (aEa s.heap I.big)
 refine wpAny_Dict_walk (knd:=zV X.prog X.w) hall hl h0 h15 (thn (h pins _ σ _ _ I1 (q _ hn)) fun ws s2 ⟨ps,H2,I2,rel,e,kvs,ep,lk,q2⟩=>?_)
 subst ep
 obtain ⟨rs,c,rk⟩:=aAR (P:=X.prog) (w:=X.w) rel
 obtain ⟨z,hd,vs0,r0,dd⟩:=dk_of I2.hok e
 cases r0
 refine ⟨rs,c,dd,fun h' dd' hs=>⟨.ref s.heap.objs.size,_,?_,rfl,q2⟩⟩
 have hz:(aA2 [] kvs).length≤sizeLine:=by
  have h1:=jC kvs []
  rw [List.length_nil] at h1
  rw [sizeLine_eq]; lia
 have he:∃ q,h'.get? s.heap.objs.size=some q:=let ⟨q,_,_,hq,_⟩:=dd'; ⟨q,hq⟩
 exact aE5 I2 (by rw [e]; exact True.intro) hs he (aHv hz hd (rk.merge .nil) dd')
structure M2 (X:Cx) (o:Expr) (m:Str) (apos:Pos) (e f:Expr) (cpos:Pos):Prop where
 base:attributeBase o m X.env (eval o X.env)=eval o X.env
 few:((backTo cpos (starEach [e,f] X.env)).all (fun x=>!x.1) && (backToKw cpos (keywordEach [] X.env)).all (fun x=>x.1.isSome)
  && decide (([e,f]:List Expr).length + ([]:List Keyword).length + (if ([]:List Keyword).isEmpty then 0 else 1) < 30))=true
 line:(apos.endLine == cpos.line)=true
 trees:backTo cpos (starEach [e,f] X.env)=[(false,eval e X.env),(false,eval f X.env)]
noncomputable def IsD (H:Hp) (a:Addr):Prop:=(∃ kvs,Rd H a (.dK kvs))∨∃ kvs,Rd H a (.dT kvs)
theorem aJP {X:Cx} {pins:List (Addr×Obj)} {σ:St} {H:Hp} {s:Shared} {a:Addr} (I:Inv X pins σ H s) (d:IsD H a) :
  s.TypeIs (.ref a) "dict"∧(∀ b,Value.ref a=.ref b→∃ ob,s.heap.get? b=some ob∧ob.dict=none)∧(a == sysModules)=false:=by
 rcases d with ⟨kvs,e⟩ | ⟨kvs,e⟩
 ·obtain ⟨_,hd,vs,_,dd⟩:=dk_rd I.hok e
  refine ⟨dd.typeIs,fun b q=>?_,hd⟩
  cases q
  obtain ⟨ob,_,_,h1,h2,_⟩:=dd
  exact ⟨ob,h1,h2.2.1⟩
 ·obtain ⟨_,hd,xs,_,dd⟩:=dt_rd I.hok e
  refine ⟨dd.typeIs,fun b q=>?_,hd⟩
  cases q
  obtain ⟨ob,_,_,h1,h2,_⟩:=dd
  exact ⟨ob,h1,h2.2.1⟩
section
variable {X:Cx} {pins:List (Addr×Obj)} {σ:St} {H:Hp} {s:Shared} {a:Addr} {y d:V} {u r:Value} {o:Option V} {A:Around} {E:Value→Shared→Prop}
theorem aJQ {Q:Value→Shared→Prop} (hu:A.units + 1 < cLine) (I:Inv X pins σ H s) (g:DGet H a y o) (ry:RelV y u) (rd:RelV d r) (h:∀ w' s',Inv X pins σ H s'→RelV (o.getD d) w'→Q w' s') :
  wpAny (model X.prog X.w) A (call (.builtin "dict.get") [.ref a,u,r]) Q E s:=by
 rcases g with ⟨kvs,k,e,ey,l⟩ | ⟨kvs,k,b,e,ey,eb,l⟩
 ·subst ey
  obtain ⟨z,hd,vs,rel,dd⟩:=dk_rd I.hok e
  refine call_meetsIn PySem.F.slot_dict_get dd.typeIs PySem.F.entry_dict_get (PySem.F.args_dict_get_3 _ _ _) (meets_dict_get_default (zV X.prog X.w) a (kV_is ry) hd r) ⟨_,dd.mapOf,h _ _ (I.tok _) ?_⟩
  rw [l]
  exact (rel.val k).getD rd
 ·subst ey
  cases (show u=Value.ref b from ry)
  obtain ⟨z,hd,xs,rel,dd⟩:=dt_rd I.hok e
  refine call_meetsIn PySem.F.slot_dict_get dd.typeIs PySem.F.entry_dict_get (PySem.F.args_dict_get_3 _ _ _) (meetsH_dict_get_default (tupleKind (zV X.prog X.w)) a b hd r) ⟨tupleKind_room_in1 hu,k,xs,aEZ I.hok eb,dd,h _ _ (I.tok _) ?_⟩
  rw [l]
  exact (rel.val k).getD rd
end
noncomputable def aJR (td ty tx:TE):TE:=fun σ H Q=>td σ H fun x H1=>∃ a,x=.ref a∧IsD H1 a∧ty σ H1 fun y H2=>tx σ H2 fun z H3=>∃ o,DGet H3 a y o∧Q (o.getD z) H3
section
variable {X:Cx} {o e f:Expr} {apos cpos:Pos} {td ty tx:TE}
theorem yz (hu:X.A.units + 1 < cLine) (ho:PE X o td) (he:PE X e ty) (hf:PE X f tx) (m:M2 X o "get" apos e f cpos):PE X (.Call (.Attribute o "get" apos) [e,f] [] cpos) (aJR td ty tx):=by
 intro pins s σ H Q I h
 refine wpAny_Call_method m.base m.few m.line PySem.F.plainAttrs_dict PySem.F.slot_dict_get PySem.F.type_dict_get (thn (ho pins s σ H _ I h) fun u s1 ⟨x,H1,I1,rx,a,ex,d,q1⟩=>?_)
 subst ex
 obtain rfl:u=Value.ref a:=rx
 obtain ⟨t1,t2,_⟩:=aJP I1 d
 refine ⟨t1,t2,?_⟩
 rw [m.trees]
 refine Calls.callWith_builtin rfl (Calls.evalArgs_plain (Calls.spliced_cons (thn (he pins s1 σ H1 _ I1 q1) fun iv s2 ⟨y,H2,I2,ry,q2⟩ =>
  Calls.spliced_cons (thn (hf pins s2 σ H2 _ I2 q2) fun fv s3 ⟨z,H3,I3,rz,ov,g,q3⟩=>Calls.spliced_nil ?_))))
 exact aJQ hu I3 g ry rz fun w' s4 I4 rw'=>⟨_,H3,I4,rw',q3⟩
end
section
variable {X:Cx} {pins:List (Addr×Obj)} {σ:St} {H:Hp} {s:Shared} {a:Addr} {kvs:List (Key×V)} {A:Around} {E:Value→Shared→Prop}
end
section
variable {X:Cx} {pins:List (Addr×Obj)} {σ:St} {H:Hp} {s:Shared} {a:Addr} {y:V} {u:Value} {A:Around} {E:Value→Shared→Prop}
end
end L2
namespace L2
open PySem PySem.Spec PyProof.Rows
section
variable {κ:Type} [DecidableEq κ]
end
end L2
namespace L2
open PySem PySem.Spec PyProof.Rows
theorem aE7 {k:Key} {u:Value} (h:keyIs k u=true):RelV (kV k) u:=by
 rcases zk h with ⟨i,t,rfl,rfl⟩ | ⟨x,t,rfl,rfl⟩
 ·exact ⟨t,rfl⟩
 ·exact ⟨t,rfl⟩
section
variable {X:Cx} {pins:List (Addr×Obj)} {σ:St} {H:Hp} {s:Shared}
theorem Inv.frozen {d:Addr} {o:Obj} {kvs:List (Key×V)} (I:Inv X pins σ H s) (e:H d=some (.dK kvs)) (ho:s.heap.get? d=some o):Inv X pins σ (upd H d (.frz o (.dK kvs))) s:=by
 have ne:∀ b u,H b=some u→u≠.dK kvs→b≠d:=fun b u eb hu z=>by rw [z,e] at eb; cases eb; exact hu rfl
 refine I.step (h':=s.heap) (g':=s.gens) (d':=s.drawn) (t':=s.toks) (ch:=[]) (fun _ z=>nomatch z) (fun b o _ _ _ e _=>e) (fun b o _ _ _ e _=>⟨o.slots,e⟩) (fun b ob _ _ n=>?_) (fun b o _ e=>⟨o,e⟩) (fun b xs eb=>?_) (fun b ob u eb=>?_) (fun b ps eb=>⟨#[],?_⟩) (fun m hm=>hm) (fun b u eb=>?_) I.bare
 ·rw [zH (fun z=>by rw [z,e] at n; cases n)]; exact n
 ·rw [zH (ne b _ eb (by intro z; cases z))]; exact eb
 ·rw [zH (ne b _ eb (by intro z; cases z))]; exact eb
 ·rw [zH (ne b _ eb (by intro z; cases z)),eb]; simp
 ·by_cases hb:b=d
  ·subst hb
   rw [zB] at eb
   cases eb
   exact ⟨ho,I.hok b _ e⟩
  ·rw [zH hb] at eb
   refine (I.hok b u eb).stay (fun c v' _ r=>r) (fun c r=>?_) fun c xs r=>?_
   ·rw [zH (ne c _ r (by intro z; cases z))]; exact r
   ·rw [zH (ne c _ r (by intro z; cases z))]; exact r
end
noncomputable def Itd (d:Addr) (o:Obj) (kvs:List (Key×V)):It :=
  ⟨fun i H=>H d=some (.frz o (.dK kvs))∧i < kvs.length,
   fun i H v H'=>∃ T k x,v=.ref T∧H T=none∧H'=upd H T (.tup [kV k,x])∧kvs[i]?=some (k,x),
   fun i H=>H d=some (.frz o (.dK kvs))∧kvs.length≤i⟩
theorem KV.get {kvs:List (Key×V)} {vs:List (Key×Value)} (r:KV kvs vs) {i:Nat} {k:Key} {x:V} (h:kvs[i]?=some (k,x)):∃ u,vs[i]?=some (k,u)∧RelV x u:=by
 unfold KV at r
 revert i
 induction r with
 | nil=>intro i h; simp at h
 | cons a b ih =>
  intro i h
  cases i with
  | zero =>
   simp at h
   subst h
   obtain ⟨a1,a2⟩:=a
   rename_i y _ _
   obtain ⟨y1,y2⟩:=y
   simp only at a1 a2
   subst a1
   exact ⟨y2,rfl,a2⟩
  | succ i =>
   obtain ⟨u,h1,h2⟩:=ih (by simpa using h)
   exact ⟨u,by simpa using h1,h2⟩
theorem qf:entryFor table "dict_itemiterator.__iter__"=some Builtin.«dict_keyiterator.__iter__» :=
 entryFor_alias (id':="dict_keyiterator.__iter__") (by kernel_rfl) rfl (by decide +kernel) (by kernel_rfl)
theorem aA3 {prog:Program} {w:World} {A:Around} {E:Value→Shared→Prop} {s:Shared} {it d:Addr} {i n ep:Nat} {ok ov:Value} {Q:Value→Shared→Prop} (hit:IsItemIter s.heap it d i n ep ok ov) (h:Q (.ref it) s):wpAny (model prog w) A (pyIter (.ref it)) Q E s:=by
 have hT:s.TypeIs (.ref it) "dict_itemiterator":=⟨_,hit,rfl⟩
 refine wpAny_pyIter_slot hT PySem.F.slot_dict_itemiterator_iter (wpAny_call_entry PySem.F.slot_dict_itemiterator_iter hT qf ?_ (PySem.F.args_dict_itemiterator_iter_1 _))
 show wpAny _ _ (ret (.ref it)) _ _ s
 exact wpAny_pure ⟨_,rfl,"dict_itemiterator",_,hT,PySem.F.slot_dict_itemiterator_next.lookup,h⟩
theorem aE8 {P:Program} {w:World} {K:PySem.W.Frag} {es:List Expr} {kk:Nat} {pos:Pos} {d it:Addr} {o:Obj} {kvs:List (Key×V)} {de:Array DictEntry} {ep:Nat} (hd:o.data=.dict de ep) (hne:d≠it) :
  Turn P w K (.Tuple es kk pos) (Itd d o kvs) [it] it (fun i h=>∃ ok ov,IsItemIter h it d i kvs.length ep ok ov) where
 mem:=by simp
 obj:=fun i h st b hb=>by
  obtain ⟨ok,ov,a1⟩:=st
  rw [List.mem_singleton.mp hb]
  exact ⟨_,a1,fun v e=>by cases e⟩
 keep:=fun i h h' st kp=>by
  obtain ⟨ok,ov,a1⟩:=st
  exact ⟨ok,ov,kp it (by simp) _ a1⟩
 item:=by
  intro X hP hw hK hc k pins s σ H E I hf st hg
  subst hP hw hK
  obtain ⟨hfz,hlt⟩:=hg
  obtain ⟨ok,ov,hit⟩:=st
  obtain ⟨hgo,z,hsm,vs,rel,o2,es2,ep2,e2,c2,d2,k2,p2,n2⟩:=I.hok d _ hfz
  rw [hgo] at e2; cases e2
  rw [hd] at d2; cases d2
  obtain ⟨⟨ky,x⟩,hx⟩:∃ p,kvs[k]?=some p:=⟨kvs[k],List.getElem?_eq_getElem hlt⟩
  obtain ⟨u,hu,ru⟩:=rel.get hx
  have hl:kvs.length=vs.length:=rel.length
  rw [hl] at hit
  refine wpAny_pyNext_items_item (knd:=zV X.prog X.w) hit ⟨_,_,hgo,c2,hd,k2,p2,n2⟩ hu fun key g hk hout hnew hsz kp=>⟨_,rfl,?_⟩
  refine wpAny_letOwnedTupleGo_items hout fun g' z' b'=>?_
  have fi:=hf it (by simp)
  have nT:H s.heap.objs.size=none:=I.hok.fresh (Nat.le_refl _)
  have kp':∀ c o,c≠it→s.heap.get? c=some o→g'.get? c=some o:=fun c o n1 e=>b'.extBut _ _ n1 (kp c o n1 e)
  have ene:s.heap.objs.size≠it:=Nat.ne_of_gt (Heap.lt_size hit)
  have new':=b'.extBut _ _ ene hnew
  have trk:∀ b o,H b=some o→b≠it:=fun b o e=>zC e fi.1
  have I1:Inv X pins σ (upd H s.heap.objs.size (.tup [kV ky,x])) { s with heap:=g' }:=by
   refine I.step (g':=s.gens) (d':=s.drawn) (t':=s.toks) (ch:=[it]) (fun b hb=>?_) (fun b o _ _ hc e _=>?_) (fun b o _ _ hc e _=>?_) (fun b o hc e n=>?_) (fun b o hc e=>?_) (fun b xs e=>?_) (fun b o u e=>?_) (fun b ps e=>⟨#[],?_⟩) (fun m hm=>?_) (fun b o e=>?_) I.bare
   ·rw [List.mem_singleton.mp hb]
    exact ⟨fi.2.2.2.1,fi.2.1,fi.2.2.2.2.1,fi.2.2.2.2.2⟩
   ·exact kp' b o (by simpa using hc) e
   ·exact ⟨o.slots,kp' b o (by simpa using hc) e⟩
   ·rw [zH (Nat.ne_of_lt (Heap.lt_size e))]; exact n
   ·exact ⟨o,kp' b o (by simpa using hc) e⟩
   ·rw [zH (zC e nT)]; exact e
   ·rw [zH (zC e nT)]; exact e
   ·rw [zH (zC e nT),e]; simp
   ·obtain ⟨o,es,ep,ho,r⟩:=hm
    exact ⟨o,es,ep,kp' _ o (Ne.symm fi.2.1) ho,r⟩
   ·by_cases hb:b=s.heap.objs.size
    ·subst hb
     rw [zB] at e
     cases e
     exact ⟨by show 2≤sizeLine; rw [sizeLine_eq]; decide,[key,u],.cons (aE7 hk) (.cons ru .nil),⟨_,new',rfl,0,rfl⟩⟩
    ·rw [zH hb] at e
     refine (I.hok b o e).stay (fun c v' hcc r=>?_) (fun c r=>by rw [zH (zC r nT)]; exact r) fun c xs r=>by rw [zH (zC r nT)]; exact r
     rcases hcc with rfl | hcc
     ·exact kp' c v' (trk c o e) r
     ·exact kp' c v' (trk c _ hcc) r
  refine ⟨.ref s.heap.objs.size,_,I1,rfl,⟨_,ky,x,rfl,nT,rfl,hx⟩,⟨key,u,by rw [hl]; exact z'⟩,fun b hb=>?_⟩
  rw [List.mem_singleton.mp hb,zH (Ne.symm ene)]
  exact fi.1
 done:=by
  intro X hP hw hK hc k pins s σ H E I hf st hg
  subst hP hw hK
  obtain ⟨hfz,hend⟩:=hg
  obtain ⟨ok,ov,hit⟩:=st
  obtain ⟨hgo,z,hsm,vs,rel,o2,es2,ep2,e2,c2,d2,k2,p2,n2⟩:=I.hok d _ hfz
  rw [hgo] at e2; cases e2
  rw [hd] at d2; cases d2
  have hl:kvs.length=vs.length:=rel.length
  rw [hl] at hit
  refine wpAny_pyNext_items_end (knd:=zV X.prog X.w) (I.ok.hd hc) hit ⟨_,_,hgo,c2,hd,k2,p2,n2⟩ (List.getElem?_eq_none (by lia)) fun g eb=>⟨rfl,?_⟩
  have fi:=hf it (by simp)
  exact I.turned (t':=s.toks) (fun b o nb e=>eb b o nb e) fi.1 fi.2.1 fi.2.2.2.1 fi.2.2.2.2.1 fi.2.2.2.2.2
 self:=fun A i s Q E st h=>by
  obtain ⟨ok,ov,hit⟩:=st
  exact aA3 hit h
section
variable {X:Cx}
noncomputable def aIZ (to:TE):TI:=fun σ H R=>to σ H fun x H1=>∃ (d:Addr) (kvs:List (Key×V)),x=.ref d∧((H1 d=some (.dK kvs)∧∀ o,R (Itd d o kvs) (upd H1 d (.frz o (.dK kvs))))∨∃ o,H1 d=some (.frz o (.dK kvs))∧R (Itd d o kvs) H1)
theorem aGM {e:Expr} {te:TE} {apos cpos:Pos} {es:List Expr} {kk:Nat} {tp:Pos} (he:PE X e te)
  (hbase:attributeBase e "items" X.env (eval e X.env)=eval e X.env:=by rfl) (hline:(apos.endLine == cpos.line)=true:=by rfl) :
  PI X (.Tuple es kk tp) (.Call (.Attribute e "items" apos) [] [] cpos) (aIZ te):=by
 intro pins s σ H R I h
 refine wpAny_Call_method0_late hbase hline (thn (he pins s σ H _ I h) fun v s1 ⟨y,H1,I1,r1,d,kvs,ey,q⟩=>?_)
 subst ey
 cases r1
 have rd:Rd H1 d (.dK kvs):=by
  rcases q with ⟨q,_⟩ | ⟨o,q,_⟩
  ·exact .inl q
  ·exact .inr ⟨o,q⟩
 obtain ⟨z,hsys,vs,rel,o,es1,ep,e1,ex,e2,e3⟩:=dk_rd I1.hok rd
 have hT:s1.TypeIs (.ref d) "dict":=⟨o,e1,ex.1⟩
 refine ⟨"dict","dict.items",F.plainAttrs_dict,F.slot_dict_items,F.type_dict_items,hT,fun a e=>by cases e; exact ⟨o,e1,ex.2.1⟩,?_⟩
 refine Calls.callWith_builtin rfl (PySem.evalArgs_none ?_)
 refine call_meetsIn F.slot_dict_items hT F.entry_dict_items (F.args_dict_items_1 _) (meets_dict_items (zV X.prog X.w) d hsys) ⟨⟨vs,o,es1,ep,e1,ex,e2,e3⟩,?_⟩
 obtain ⟨H2,I2,fz,r⟩:∃ H2,Inv X pins σ H2 s1∧H2 d=some (.frz o (.dK kvs))∧R (Itd d o kvs) H2:=by
  rcases q with ⟨q,r⟩ | ⟨o',q,r⟩
  ·exact ⟨_,I1.frozen q e1,zB,r o⟩
  ·have:o'=o:=by
    have:=(I1.hok d _ q).1
    rw [e1] at this; cases this; rfl
   subst this
   exact ⟨H1,I1,q,r⟩
 have I3:Inv X pins σ H2 { s1 with heap:=s1.heap.push { cls:=.type "dict_items",data:=.fields #[.ref d] } }:=I2.kept (t':=s1.toks) fun b o e=>Heap.get?_push_of_some _ e
 have hm2:({ s1 with heap:=s1.heap.push { cls:=.type "dict_items",data:=.fields #[.ref d] } }:Shared).heap.DictAt (zV X.prog X.w) d vs ep:=⟨o,es1,Heap.get?_push_of_some _ e1,ex,e2,e3⟩
 refine wpAny_pyIter_items (knd:=zV X.prog X.w) (d:=d) (kvs:=vs) (ep:=ep) ⟨_,Heap.get?_push_size _ rfl,rfl,rfl⟩ hm2 ?_
 have zz:(s1.heap.push { cls:=.type "dict_items",data:=.fields #[.ref d] }).objs.size=s1.heap.objs.size + 1:=Heap.size_push _ _
 refine ⟨_,_,_,_,H2,rfl,I3.kept (t':=s1.toks) fun b o e=>Heap.get?_push_of_some _ e,aE8 (o:=o) (kvs:=kvs) e2 ?_,⟨.none,.none,?_⟩,fun b hb=>?_,r⟩
 ·have:=Heap.lt_size e1
  show d≠(s1.heap.push { cls:=.type "dict_items",data:=.fields #[.ref d] }).objs.size
  rw [zz]
  exact Nat.ne_of_lt (Nat.lt_succ_of_lt this)
 ·rw [rel.length]
  exact Heap.get?_push_size _ rfl
 ·have e:b=(s1.heap.push { cls:=.type "dict_items",data:=.fields #[.ref d] }).objs.size:=by simpa using hb
  subst e
  exact I3.fpOk (Nat.le_refl _) (I3.hok.fresh (Nat.le_refl _))
theorem aF3 {d:Addr} {o:Obj} {kvs:List (Key×V)} {g:TG} {tb:TS} {D:Ends} {σ:St} {H:Hp} (Pv:Nat→St→Hp→Prop) (h0:Pv 0 σ H) (hz:∀ i σ H,Pv i σ H→H d=some (.frz o (.dK kvs)))
  (hs:∀ i T k x σ H,kvs[i]?=some (k,x)→Pv i σ H→H T=none→g (.ref T) σ (upd H T (.tup [kV k,x])) fun σ2 H2=>tb { D with nx:=Pv (i + 1),ct:=Pv (i + 1),bk:=D.nx } σ2 H2) (hd:∀ σ H,Pv kvs.length σ H→D.nx σ H) :
  ∃ W:Nat→Nat→St→Hp→Prop,(∃ m,W 0 m σ H)∧∀ i m σ H,W i m σ H →
   ((Itd d o kvs).stop i H∧D.nx σ H)∨((Itd d o kvs).go i H∧∃ N:St→Hp→Prop,(∀ σ' H',N σ' H'→∃ m',m' < m∧W (i + 1) m' σ' H')∧∀ x H',(Itd d o kvs).yld i H x H'→g x σ H' fun σ2 H2=>tb { D with nx:=N,ct:=N,bk:=D.nx } σ2 H2):=by
 refine ⟨fun i m σ H=>m=kvs.length - i∧i≤kvs.length∧Pv i σ H,⟨kvs.length,by simp,Nat.zero_le _,h0⟩,?_⟩
 rintro i m σ H ⟨rfl,hi,p⟩
 by_cases hlt:i < kvs.length
 ·refine .inr ⟨⟨hz i σ H p,hlt⟩,Pv (i + 1),fun σ' H' p'=>⟨kvs.length - (i + 1),by lia,rfl,hlt,p'⟩,fun v H' y=>?_⟩
  obtain ⟨T,k,x,rfl,hT,rfl,hx⟩:=y
  exact hs i T k x σ H hx p hT
 ·have e:i=kvs.length:=by lia
  subst e
  exact .inl ⟨⟨hz _ σ H p,Nat.le_refl _⟩,hd σ H p⟩
end
end L2
namespace L2
open PySem PySem.Spec PyProof.Rows
section
variable {X:Cx} {pos:Pos}
end
end L2
namespace L2
open PySem PySem.Spec PyProof.Rows
section
variable {X:Cx} {x:Str} {C:Addr} {bw:List Value} {body suite:List Stmt} {b0:Stmt} {np hp pos:Pos} {tb:XS→TS} {ts:TS}
end
end L2
namespace L2
open PySem PySem.Spec PyProof.Rows
section
variable {prog:Program} {w:World} {A:Around} {E:Value→Shared→Prop} {s:Shared}
end
section
variable {X:Cx}
end
end L2
namespace L2
open PySem PySem.Spec PyProof.Rows
structure ZL (h:Heap) (z ti to i j a b:Addr) (f0:Value) (k:Nat):Prop where
 zz:IsZip h z ti to f0
 pi:IsPair h ti (.ref i) (.ref j)
 po:∃ x y,IsPair h to x y
 ia:h.IsListIter i a k
 jb:h.IsListIter j b k
noncomputable def ItzL (K:PySem.W.Frag) (p q:Addr):It :=
  ⟨fun i H=>∃ xs ys x y,SqL K H p xs∧SqL K H q ys∧xs[i]?=some x∧ys[i]?=some y,
   fun i H v H'=>∃ T x y,v=.ref T∧H T=none∧H'=upd H T (.tup [x,y])∧∀ xs ys,SqL K H p xs→SqL K H q ys→xs[i]?=some x∧ys[i]?=some y,
   fun i H=>∃ xs ys,SqL K H p xs∧SqL K H q ys∧(xs.length≤i∨ys.length≤i)⟩
theorem aGN {P:Program} {w:World} {K:PySem.W.Frag} {es:List Expr} {kk:Nat} {pos:Pos} (p q z ti to i j:Addr) (D:ZipApart z ti to i j p q) :
  Turn P w K (.Tuple es kk pos) (ItzL K p q) [z,ti,to,i,j] z (fun k h=>ZL h z ti to i j p q .none k) where
 mem:=by simp
 obj:=fun k h st b hb=>by
  obtain ⟨a1,a2,⟨u,v,a3⟩,⟨o4,a4,c4,d4⟩,⟨o5,a5,c5,d5⟩⟩:=st
  simp only [List.mem_cons,List.not_mem_nil,or_false] at hb
  rcases hb with rfl | rfl | rfl | rfl | rfl
  ·exact ⟨_,a1,fun v e=>by cases e⟩
  ·exact ⟨_,a2,fun v e=>by cases e⟩
  ·exact ⟨_,a3,fun v e=>by cases e⟩
  ·exact ⟨_,a4,fun v e=>by rw [d4] at e; cases e⟩
  ·exact ⟨_,a5,fun v e=>by rw [d5] at e; cases e⟩
 keep:=fun k h h' st kp=>by
  obtain ⟨a1,a2,⟨u,v,a3⟩,a4,a5⟩:=st
  exact ⟨kp z (by simp) _ a1,kp ti (by simp) _ a2,⟨u,v,kp to (by simp) _ a3⟩,a4.at fun o e=>kp i (by simp) o e,a5.at fun o e=>kp j (by simp) o e⟩
 item:=by
  intro X hP hw hK hc k pins s σ H E I hf st hg
  subst hP hw hK
  obtain ⟨xs,ys,x,y,hp,hq,hx,hy⟩:=hg
  obtain ⟨us,ru,pu,_⟩:=I.list hp
  obtain ⟨vs,rv,pv,_⟩:=I.list hq
  obtain ⟨u,eu,r1⟩:=ru.get hx
  obtain ⟨v,ev,r2⟩:=rv.get hy
  obtain ⟨o1,o2,hTO⟩:=id st.po
  refine wpAny_pyNext_zip_item D st.zz st.pi hTO st.ia st.jb pu.isList pv.isList (by simpa using eu) (by simpa using ev) fun g q1 q2 q3 q4 new sz kp=>?_
  have q5:IsPair g ti (.ref i) (.ref j):=kp _ _ D.TIz D.TITO D.TIi1 D.TIi2 st.pi
  have Zg:ZL g z ti to i j p q (rawInt s.heap.objs.size) (k + 1):=⟨q1,q5,⟨_,_,q2⟩,q3,q4⟩
  refine ⟨_,rfl,?_⟩
  refine wpAny_letOwnedTupleGo_zip Zg.zz fun g' z' b'=>?_
  have fz:=hf z (by simp)
  have fo:=hf to (by simp)
  have fi:=hf i (by simp)
  have fj:=hf j (by simp)
  have nT:H s.heap.objs.size=none:=I.hok.fresh (Nat.le_refl _)
  have kp':∀ c o,c≠z→c≠to→c≠i→c≠j→s.heap.get? c=some o→g'.get? c=some o:=fun c o n1 n2 n3 n4 e=>b'.extBut _ _ n1 (kp c o n1 n2 n3 n4 e)
  have zne:s.heap.objs.size≠z:=Nat.ne_of_gt (Heap.lt_size st.zz)
  have new':IsPair g' s.heap.objs.size u v:=b'.extBut _ _ zne new
  have notch:∀ b,b ∉ [z,to,i,j]→b≠z∧b≠to∧b≠i∧b≠j:=fun b hb=>by simpa using hb
  have trk:∀ b o,H b=some o→b≠z∧b≠to∧b≠i∧b≠j:=fun b o e=>⟨zC e fz.1,zC e fo.1,zC e fi.1,zC e fj.1⟩
  have I1:Inv X pins σ (upd H s.heap.objs.size (.tup [x,y])) { s with heap:=g' }:=by
   refine I.step (g':=s.gens) (d':=s.drawn) (t':=s.toks) (ch:=[z,to,i,j]) (fun b hb=>?_) (fun b o _ _ hc e _=>?_) (fun b o _ _ hc e _=>?_) (fun b o hc e n=>?_) (fun b o hc e=>?_) (fun b xs e=>?_) (fun b o u e=>?_) (fun b ps e=>⟨#[],?_⟩) (fun m hm=>?_) (fun b o e=>?_) I.bare
   ·simp only [List.mem_cons,List.not_mem_nil,or_false] at hb
    rcases hb with rfl | rfl | rfl | rfl
    ·exact ⟨fz.2.2.2.1,fz.2.1,fz.2.2.2.2.1,fz.2.2.2.2.2⟩
    ·exact ⟨fo.2.2.2.1,fo.2.1,fo.2.2.2.2.1,fo.2.2.2.2.2⟩
    ·exact ⟨fi.2.2.2.1,fi.2.1,fi.2.2.2.2.1,fi.2.2.2.2.2⟩
    ·exact ⟨fj.2.2.2.1,fj.2.1,fj.2.2.2.2.1,fj.2.2.2.2.2⟩
   ·obtain ⟨n1,n2,n3,n4⟩:=notch b hc
    exact kp' b o n1 n2 n3 n4 e
   ·obtain ⟨n1,n2,n3,n4⟩:=notch b hc
    exact ⟨o.slots,kp' b o n1 n2 n3 n4 e⟩
   ·rw [zH (Nat.ne_of_lt (Heap.lt_size e))]; exact n
   ·obtain ⟨n1,n2,n3,n4⟩:=notch b hc
    exact ⟨o,kp' b o n1 n2 n3 n4 e⟩
   ·rw [zH (zC e nT)]; exact e
   ·rw [zH (zC e nT)]; exact e
   ·rw [zH (zC e nT),e]; simp
   ·obtain ⟨o,es,ep,ho,r⟩:=hm
    exact ⟨o,es,ep,kp' _ o (Ne.symm fz.2.1) (Ne.symm fo.2.1) (Ne.symm fi.2.1) (Ne.symm fj.2.1) ho,r⟩
   ·by_cases hb:b=s.heap.objs.size
    ·subst hb
     rw [zB] at e
     cases e
     exact ⟨by show 2≤sizeLine; rw [sizeLine_eq]; decide,[u,v],.cons r1 (.cons r2 .nil),⟨_,new',rfl,0,rfl⟩⟩
    ·rw [zH hb] at e
     refine (I.hok b o e).stay (fun c v' hcc r=>?_) (fun c r=>by rw [zH (zC r nT)]; exact r) fun c xs r=>by rw [zH (zC r nT)]; exact r
     rcases hcc with rfl | hcc
     ·obtain ⟨n1,n2,n3,n4⟩:=trk c o e
      exact kp' c v' n1 n2 n3 n4 r
     ·obtain ⟨n1,n2,n3,n4⟩:=trk c _ hcc
      exact kp' c v' n1 n2 n3 n4 r
  refine ⟨.ref s.heap.objs.size,_,I1,rfl,⟨_,x,y,rfl,nT,rfl,fun xs' ys' h1 h2=>?_⟩,?_,fun b hb=>?_⟩
  ·rw [I.list_inj h1 hp,I.list_inj h2 hq]
   exact ⟨hx,hy⟩
  ·obtain ⟨a1,a2,⟨c1,c2,a3⟩,a4,a5⟩:=Zg
   exact ⟨z',b'.extBut _ _ D.TIz a2,⟨c1,c2,b'.extBut _ _ D.TOz a3⟩,a4.extBut b'.extBut D.i1z,a5.extBut b'.extBut D.i2z⟩
  ·have hb':∃ o,s.heap.get? b=some o:=by
    obtain ⟨a1,a2,⟨c1,c2,a3⟩,⟨o4,a4,_⟩,⟨o5,a5,_⟩⟩:=st
    simp only [List.mem_cons,List.not_mem_nil,or_false] at hb
    rcases hb with rfl | rfl | rfl | rfl | rfl
    ·exact ⟨_,a1⟩
    ·exact ⟨_,a2⟩
    ·exact ⟨_,a3⟩
    ·exact ⟨_,a4⟩
    ·exact ⟨_,a5⟩
   obtain ⟨o,e⟩:=hb'
   rw [zH (Nat.ne_of_lt (Heap.lt_size e))]
   exact (hf b hb).1
 done:=by
  intro X hP hw hK hc k pins s σ H E I hf st hg
  subst hP hw hK
  obtain ⟨xs,ys,hp,hq,hend⟩:=hg
  obtain ⟨us,ru,pu,_⟩:=I.list hp
  obtain ⟨vs,rv,pv,_⟩:=I.list hq
  have l1:=ru.length
  have l2:=rv.length
  obtain ⟨o1,o2,hTO⟩:=id st.po
  refine wpAny_pyNext_zip_end (I.ok.hd hc) D st.zz st.pi hTO st.ia st.jb pu.isList pv.isList ?_ fun g kp=>?_
  ·rcases hend with h | h
   ·exact .inl (by simp; lia)
   ·exact .inr (by simp; lia)
  ·refine ⟨rfl,?_⟩
   have fz:=hf z (by simp)
   have fo:=hf to (by simp)
   have fi:=hf i (by simp)
   have fj:=hf j (by simp)
   have notch:∀ b,b ∉ [z,to,i,j]→b≠z∧b≠to∧b≠i∧b≠j:=fun b hb=>by simpa using hb
   have trk:∀ b o,H b=some o→b≠z∧b≠to∧b≠i∧b≠j:=fun b o e=>⟨zC e fz.1,zC e fo.1,zC e fi.1,zC e fj.1⟩
   refine I.step (g':=s.gens) (d':=s.drawn) (t':=s.toks) (ch:=[z,to,i,j]) (fun b hb=>?_) (fun b o _ _ hc e _=>?_) (fun b o _ _ hc e _=>?_) (fun b o hc e n=>n) (fun b o hc e=>?_) (fun b xs e=>e) (fun b o u e=>e) (fun b ps e=>⟨#[],by rw [e]; simp⟩) (fun m hm=>?_) (fun b o e=>?_) I.bare
   ·simp only [List.mem_cons,List.not_mem_nil,or_false] at hb
    rcases hb with rfl | rfl | rfl | rfl
    ·exact ⟨fz.2.2.2.1,fz.2.1,fz.2.2.2.2.1,fz.2.2.2.2.2⟩
    ·exact ⟨fo.2.2.2.1,fo.2.1,fo.2.2.2.2.1,fo.2.2.2.2.2⟩
    ·exact ⟨fi.2.2.2.1,fi.2.1,fi.2.2.2.2.1,fi.2.2.2.2.2⟩
    ·exact ⟨fj.2.2.2.1,fj.2.1,fj.2.2.2.2.1,fj.2.2.2.2.2⟩
   ·obtain ⟨n1,n2,n3,n4⟩:=notch b hc
    exact kp b o n1 n2 n3 n4 e
   ·obtain ⟨n1,n2,n3,n4⟩:=notch b hc
    exact ⟨o.slots,kp b o n1 n2 n3 n4 e⟩
   ·obtain ⟨n1,n2,n3,n4⟩:=notch b hc
    exact ⟨o,kp b o n1 n2 n3 n4 e⟩
   ·obtain ⟨o,es,ep,ho,r⟩:=hm
    exact ⟨o,es,ep,kp _ o (Ne.symm fz.2.1) (Ne.symm fo.2.1) (Ne.symm fi.2.1) (Ne.symm fj.2.1) ho,r⟩
   ·refine (I.hok b o e).stay (fun c v' hcc r=>?_) (fun _ r=>r) fun _ _ r=>r
    rcases hcc with rfl | hcc
    ·obtain ⟨n1,n2,n3,n4⟩:=trk c o e
     exact kp c v' n1 n2 n3 n4 r
    ·obtain ⟨n1,n2,n3,n4⟩:=trk c _ hcc
     exact kp c v' n1 n2 n3 n4 r
 self:=fun _ _ _ _ _ st h=>wpAny_pyIter_zip st.zz h
section
variable {X:Cx} {es:List Expr} {kk:Nat} {tpos:Pos}
noncomputable def iZipL (K:PySem.W.Frag) (ta:TA):TI:=fun σ H R=>ta σ H fun vs H1=>∃ p q,vs=[.ref p,.ref q]∧(∃ xs,SqL K H1 p xs)∧(∃ ys,SqL K H1 q ys)∧R (ItzL K p q) H1
theorem aIa {a b:Expr} {ta:TA} {p pos:Pos} (hm:X.mg "zip"=none) (ha:PA X [a,b] ta) (hg:Gl X "zip":=by rfl) (hs:starEach [a,b] X.env=[(false,eval a X.env),(false,eval b X.env)]:=by rfl) (hs2:starEach [b] X.env=[(false,eval b X.env)]:=by rfl) :
  PI X (.Tuple es kk tpos) (.Call (.Name "zip" p) [a,b] [] pos) (iZipL X.K ta):=by
 intro pins s σ H R I h
 refine Call_ (qj I hg hm aFy (PyProof.Rows.callWith_type1 (thn (ha pos pins s σ H _ I h) fun us s1 ⟨vs,H1,I1,r1,q1⟩=>?_) (by rw [hs,hs2]) (by rw [hs2]; rfl)))
 obtain ⟨x,y,e,⟨xs,hx⟩,⟨ys,hy⟩,q⟩:=q1
 subst e
 obtain ⟨u,v,rfl,ru,rv⟩:=vals2 r1
 cases ru; cases rv
 obtain ⟨us,_,px,_⟩:=I1.list hx
 obtain ⟨vs,_,py,_⟩:=I1.list hy
 have lx:x < s1.heap.objs.size:=by obtain ⟨_,e,_⟩:=px.isList; exact Heap.lt_size e
 have ly:y < s1.heap.objs.size:=by obtain ⟨_,e,_⟩:=py.isList; exact Heap.lt_size e
 refine call_zip_2 px.isList py.isList fun g q1 q2 q3 q4 q5 sz kp=>?_
 have Zg:ZL g (s1.heap.objs.size + 4) (s1.heap.objs.size + 2) (s1.heap.objs.size + 3) s1.heap.objs.size (s1.heap.objs.size + 1) x y .none 0:=⟨q1,q2,⟨_,_,q3⟩,q4,q5⟩
 refine wpAny_pyIter_zip Zg.zz ?_
 refine ⟨_,_,_,_,H1,rfl,I1.kept (t':=s1.toks) kp,aGN x y _ _ _ _ _ (zipApart_new lx ly),Zg,fun b hb=>?_,q⟩
 have hge:s1.heap.objs.size≤b:=by
  simp only [List.mem_cons,List.not_mem_nil,or_false] at hb
  rcases hb with rfl | rfl | rfl | rfl | rfl <;> lia
 exact I1.fpOk hge (I1.hok.fresh hge)
end
end L2
namespace L2
open PySem PySem.Spec PyProof.Rows
end L2
namespace L2
open PySem PySem.Spec PyProof.Rows
section
variable {prog:Program} {w:World} {A:Around} {E:Value→Shared→Prop} {s:Shared}
end
section
variable {X:Cx}
end
end L2
namespace L2
open PySem PySem.Spec PyProof.Rows
noncomputable def jD (xs:Array Nat):Prop:=∀ i j,i < j→j < xs.size→xs.getD i 0 < xs.getD j 0
theorem aHO {xs:Array Nat} {i d e:Nat} (h:i < xs.size):xs.getD i d=xs.getD i e:=by
 rw [Array.getD_eq_getD_getElem?,Array.getD_eq_getD_getElem?,Array.getElem?_eq_getElem h]
 rfl
theorem aAi {xs:Array Nat} {j:Nat} (hr:jD xs):∀ (fuel lo hi:Nat),lo≤hi→hi≤xs.size→hi - lo≤fuel→(∀ i,i < lo→xs.getD i 0 < j)→(∀ i,hi≤i→i < xs.size→j≤xs.getD i 0) →
  SetTable.below.go xs j fuel lo hi≤xs.size∧(∀ i,i < SetTable.below.go xs j fuel lo hi→xs.getD i 0 < j)∧∀ i,SetTable.below.go xs j fuel lo hi≤i→i < xs.size→j≤xs.getD i 0
 | 0,lo,hi,h1,h2,h3,a,b=>by
  have e:SetTable.below.go xs j 0 lo hi=lo:=by unfold SetTable.below.go; rfl
  rw [e]
  exact ⟨by lia,a,fun i hi'=>b i (by lia)⟩
 | fuel + 1,lo,hi,h1,h2,h3,a,b=>by
  unfold SetTable.below.go
  by_cases hlt:lo < hi
  ·rw [if_pos hlt]
   have m1:(lo + hi) / 2 < hi:=by lia
   have m0:lo≤(lo + hi) / 2:=by lia
   have ms:(lo + hi) / 2 < xs.size:=by lia
   dsimp only
   rw [aHO (e:=0) ms]
   by_cases hc:xs.getD ((lo + hi) / 2) 0 < j
   ·rw [if_pos hc]
    refine aAi hr fuel _ _ (by lia) h2 (by lia) (fun i hi'=>?_) b
    rcases Nat.lt_or_eq_of_le (Nat.lt_succ_iff.mp hi') with h | h
    ·exact Nat.lt_trans (hr _ _ h ms) hc
    ·rw [h]; exact hc
   ·rw [if_neg hc]
    refine aAi hr fuel _ _ m0 (by lia) (by lia) a (fun i hi' his=>?_)
    rcases Nat.lt_or_eq_of_le hi' with h | h
    ·exact Nat.le_trans (Nat.le_of_not_lt hc) (Nat.le_of_lt (hr _ _ h his))
    ·rw [← h]; exact Nat.le_of_not_lt hc
  ·rw [if_neg hlt]
   exact ⟨by lia,a,fun i hi'=>b i (by lia)⟩
theorem qV {xs:Array Nat} (hr:jD xs) (j:Nat):SetTable.below xs j≤xs.size∧(∀ i,i < SetTable.below xs j→xs.getD i 0 < j)∧∀ i,SetTable.below xs j≤i→i < xs.size→j≤xs.getD i 0 :=
 aAi hr xs.size 0 xs.size (Nat.zero_le _) (Nat.le_refl _) (by lia) (fun i h=>absurd h (Nat.not_lt_zero _)) fun i h h'=>absurd h' (by lia)
theorem aF4 {xs:Array Nat} (hr:jD xs):SetTable.below xs 0=0:=by
 obtain ⟨_,a,_⟩:=qV hr 0
 cases e:SetTable.below xs 0 with
 | zero=>rfl
 | succ n=>rw [e] at a; exact absurd (a 0 (Nat.succ_pos _)) (Nat.not_lt_zero _)
theorem aF5 {xs:Array Nat} (hr:jD xs) {i:Nat} (hi:i < xs.size):SetTable.below xs (xs.getD i 0 + 1)=i + 1:=by
 obtain ⟨p,a,b⟩:=qV hr (xs.getD i 0 + 1)
 rcases Nat.lt_trichotomy (SetTable.below xs (xs.getD i 0 + 1)) (i + 1) with h | h | h
 ·have:=b i (by lia) hi; lia
 ·exact h
 ·have h1:=a (i + 1) h
  have h2:=hr i (i + 1) (Nat.lt_succ_self _) (by lia)
  lia
theorem aF6 {xs:Array Nat} (hr:jD xs) {j:Nat} (hj:∀ i,i < xs.size→xs.getD i 0≠j):jD (SetTable.insertAt xs (SetTable.below xs j) j):=by
 obtain ⟨p,a,b⟩:=qV hr j
 generalize SetTable.below xs j=q at p a b ⊢
 have sz:(SetTable.insertAt xs q j).size=xs.size + 1:=by unfold SetTable.insertAt; simp; lia
 have at_:∀ i,i < xs.size + 1→(SetTable.insertAt xs q j).getD i 0=if i < q then xs.getD i 0 else if i=q then j else xs.getD (i - 1) 0:=by
  intro i hi
  unfold SetTable.insertAt
  simp only [Array.getD_eq_getD_getElem?,Array.getElem?_append,Array.getElem?_push,Array.getElem?_extract,Array.size_push,Array.size_extract]
  have m:min q xs.size=q:=Nat.min_eq_left p
  simp only [m,Nat.sub_zero,Nat.min_self,Nat.zero_add]
  rcases Nat.lt_trichotomy i q with h | h | h
  ·rw [if_pos (show i < q + 1 by lia),if_neg (show ¬ i=q by lia),if_pos h,if_pos h]
  ·subst h
   rw [if_pos (Nat.lt_succ_self _),if_pos rfl,if_neg (Nat.lt_irrefl _),if_pos rfl]
   rfl
  ·rw [if_neg (show ¬ i < q + 1 by lia),if_pos (show i - (q + 1) < xs.size - q by lia),if_neg (show ¬ i < q by lia),if_neg (show ¬ i=q by lia),show q + (i - (q + 1))=i - 1 by lia]
 intro i k hik hk
 rw [sz] at hk
 rw [at_ i (by lia),at_ k hk]
 by_cases h1:i < q
 ·rw [if_pos h1]
  by_cases h2:k < q
  ·rw [if_pos h2]; exact hr i k hik (by lia)
  ·rw [if_neg h2]
   by_cases h3:k=q
   ·rw [if_pos h3]; exact a i h1
   ·rw [if_neg h3]; exact Nat.lt_of_lt_of_le (a i h1) (b (k - 1) (by lia) (by lia))
 ·rw [if_neg h1,if_neg (show ¬ k < q by lia),if_neg (show ¬ k=q by lia)]
  by_cases h3:i=q
  ·rw [if_pos h3]
   have:=b (k - 1) (by lia) (by lia)
   have:=hj (k - 1) (by lia)
   lia
  ·rw [if_neg h3]; exact hr (i - 1) (k - 1) (by lia) (by lia)
theorem aCS (n:Nat):jD (Array.range n):=by
 intro i j hij hj
 rw [Array.size_range] at hj
 simp [Array.getD_eq_getD_getElem?,Array.getElem?_range,hj,show i < n by lia]
 lia
end L2
namespace L2
open PySem PySem.Spec PyProof.Rows
structure TabOk (t:SetTable):Prop where
 dum:t.dummies=#[]
 rise:jD t.place
 mask:7≤t.mask
theorem aGO (j:Nat):SetTable.has #[] j=false:=by unfold SetTable.has; simp
theorem aGP {t:SetTable} (o:TabOk t) {j:Nat} (h:t.slot j=.empty):∀ i,i < t.place.size→t.place.getD i 0≠j:=by
 intro i hi e
 have hb:SetTable.below t.place j=i:=by
  obtain ⟨p,a,b⟩:=qV o.rise j
  rcases Nat.lt_trichotomy (SetTable.below t.place j) i with h | h | h
  ·have:=b _ (Nat.le_refl _) (by lia)
   have:=o.rise _ _ h hi
   lia
  ·exact h
  ·have:=a i h; lia
 unfold SetTable.slot at h
 dsimp only at h
 rw [hb,if_pos] at h
 ·cases h
 ·rw [Array.getD_eq_getD_getElem?,Array.getElem?_eq_getElem hi] at e
  rw [Array.getElem?_eq_getElem hi,← e]
  simp
theorem aGQ (t:SetTable) (p:SetTable.Probe):(t.advance p).dummy=p.dummy:=by
 unfold SetTable.advance
 split <;> rfl
theorem aA4 {t:SetTable} (hd:t.dummies=#[]) {h:Int} {j:Nat} {d:Option Nat}:∀ (fuel:Nat) (p:SetTable.Probe),p.dummy=none→SetTable.probe.go t (fun _=>h + 1) h fuel p=some (.empty j d)→t.slot j=.empty∧d=none
 | 0,p,_,e=>by unfold SetTable.probe.go at e; cases e
 | fuel + 1,p,hp,e=>by
  unfold SetTable.probe.go at e
  cases es:t.slot p.j with
  | empty =>
   rw [es] at e
   dsimp only at e
   injection e with e
   injection e with e1 e2
   rw [← e1,← e2]
   exact ⟨es,hp⟩
  | dummy =>
   unfold SetTable.slot at es
   dsimp only at es
   rw [hd,aGO] at es
   split at es
   ·cases es
   ·simp at es
  | live i =>
   rw [es] at e
   dsimp only at e
   rw [if_neg (by simp; lia)] at e
   exact aA4 hd fuel _ (by rw [aGQ]; exact hp) e
theorem aF7 {t:SetTable} (hd:t.dummies=#[]) {h:Int} {slot:Nat} {wd:Bool} (e:t.freeSlot h=some (slot,wd)):t.slot slot=.empty:=by
 unfold SetTable.freeSlot SetTable.probe at e
 split at e
 ·rename_i j d hq
  obtain ⟨a,b⟩:=aA4 hd _ _ rfl hq
  rw [b] at e
  injection e with e
  injection e with e1 _
  rw [← e1]
  exact a
 ·cases e
theorem qW {t:SetTable} {n:Nat} (hn:1≤n):TabOk (t.standIn n):=⟨rfl,aCS n,by show 7≤4 * n + 4; lia⟩
theorem aGR {t:SetTable} (o:TabOk t) (es:Array (Int×Value)) (h:Int) (x:Value):TabOk (layNew t es h x).2.1∧(layNew t es h x).2.1.led=t.led:=by
 unfold layNew
 cases e:t.freeSlot h with
 | none=>exact ⟨qW (Nat.succ_pos _),rfl⟩
 | some q =>
  obtain ⟨slot,wd⟩:=q
  have hs:=aF7 o.dum e
  have ok':TabOk (t.put slot).1:=by
   refine ⟨?_,aF6 o.rise (aGP o hs),o.mask⟩
   show (if SetTable.has t.dummies slot then _ else t.dummies)=#[]
   rw [o.dum,aGO]
   rfl
  dsimp only
  have sz:1≤(SetTable.insertAt es (t.put slot).2 (h,x)).size:=by unfold SetTable.insertAt; simp; lia
  unfold SetTable.orStandIn
  split
  ·exact ⟨ok',rfl⟩
  ·exact ⟨qW sz,rfl⟩
end L2
namespace L2
open PySem PySem.Spec PyProof.Rows
end L2
namespace L2
open PySem PySem.Spec PyProof.Rows
noncomputable def byT (w:World):Bool:=w.params.followText "set-order"
section
variable {prog:Program} {w:World} {A:Around} {E:Value→Shared→Prop} {s:Shared}
end
end L2
namespace L2
open PySem PySem.Spec PyProof.Rows
section
variable {prog:Program} {w:World} {A:Around} {R:Result→Shared→Prop} {I:Addr} {fp wr:List Addr} {G:Array GenState→Array GenState→Prop} {n:Nat} {P:Nat→Value→Prop} {St:Nat→Shared→Prop}
end
section
variable {prog:Program} {w:World} {A:Around} {E:Value→Shared→Prop} {s:Shared}
noncomputable def newS (w:World):Obj:={ cls:=.type "set",dict:=none,data:=.set #[] 0 (.fresh 0 0 (!byT w)) }
theorem new_L (a:Value) {Q₁:Value→Shared→Prop} (h:Q₁ (.ref s.heap.objs.size) { s with heap:=s.heap.push (newS w) }) :
  codeAny (model prog w) A (.call (.builtin "set.__new__") ⟨[.type "set",a],[]⟩) (wants Q₁ E) s:=by
 refine codeAny_of_tree ?_
 show wpAny _ A.in1 (do checkBuiltinCall "set.__new__" ⟨[.type "set",a],[]⟩; again (.builtin "set.__new__" ⟨[.type "set",a],[]⟩)) _ _ s
 refine wpAny_bind (wpAny_of_eq (F.newCall_set_1 a) (wpAny_pure ⟨plainId_quiet F.plain_set_new _,codeAny_builtin F.entry_set_new ?_⟩))
 rw [Around.under_plainId F.plain_set_new _]
 unfold Builtin.«set.__new__» Builtin.Frozenset.newClass
 have hsub:=sub_set_self
 obtain ⟨hp,g,d,tk,os⟩:=s
 dsimp only
 wp_walk
 refine wpAny_askSetting (wpAny_pure ?_)
 dsimp only
 simp only [newObj]
 refine wpAny_bind (wpAny_alloc (wpAny_pure ?_))
 exact wpAny_pure h
end
end L2
namespace L2
open PySem PySem.Spec PyProof.Rows
section
variable {prog:Program} {w:World} {A:Around} {E:Value→Shared→Prop} {s:Shared}
end
end L2
namespace L2
open PySem PySem.Spec PyProof.Rows
noncomputable def aE9:Bool→Keyed→Array Keyed→Nat→Nat→Nat→StateT SortSt Sem (Option Nat):=sortPriv% PySem.Builtin.gallop
structure Cm (M:Model) (A:Around) (E:Value→Shared→Prop) (s:Shared) {O:KeyOrd} (κ:Keyed→O.α) (ok:Keyed→Prop) (kd:SortKind):Prop where
 lt:∀ {st:SortSt} {x y:Keyed} {Q:Option Bool→SortSt→Prop},kindOf st=kd→failedOf st=none→ok x→ok y→Q (some (O.blt (κ x) (κ y))) st→wpS M A E s (lt' x y) Q st
noncomputable def Sx (kd:SortKind) (st:SortSt):Prop:=kindOf st=kd∧failedOf st=none
section
variable {prog:Program} {w:World} {A:Around} {E:Value→Shared→Prop} {s:Shared} {O:KeyOrd} {κ:Keyed→O.α} {ok:Keyed→Prop} {kd:SortKind}
theorem zL {M:Model} {arr:Array Keyed} {i:Nat} {x:Keyed} {Q:Keyed→SortSt→Prop} {st:SortSt} (h:arr[i]?=some x) (q:Q x st):wpS M A E s (elem' arr i) Q st:=by
 rw [elem'_eq,h]; exact wpS_pure q
noncomputable def pb (κ:Keyed→O.α) (left:Bool) (key:Keyed) (arr:Array Keyed) (base i:Nat):Bool:=match arr[base + i]? with
 | some x=>if left then O.blt (κ x) (κ key) else !(O.blt (κ key) (κ x))
 | none=>false
theorem qN (C:Cm (model prog w) A E s κ ok kd) {st:SortSt} (hs:Sx kd st) {left:Bool} {key:Keyed} {arr:Array Keyed} {base i:Nat} {Q:Option Bool→SortSt→Prop} (hk:ok key) (ha:∀ x∈arr,ok x) (hi:base + i < arr.size)
  (q:Q (some (pb κ left key arr base i)) st):wpS (model prog w) A E s (do
  let x ← elem' arr (base + i)
  if left then lt' x key else return (← lt' key x).map (!·)) Q st:=by
 have hx:arr[base + i]?=some arr[base + i]:=Array.getElem?_eq_getElem hi
 have hok:ok arr[base + i]:=ha _ (Array.getElem_mem hi)
 refine wpS_bind (zL hx ?_)
 unfold pb at q
 rw [hx] at q
 cases left with
 | true =>
  simp only [if_true] at q ⊢
  exact C.lt hs.1 hs.2 hok hk q
 | false =>
  simp only [Bool.false_eq_true,if_false] at q ⊢
  exact wpS_bind (C.lt hs.1 hs.2 hk hok (wpS_pure q))
theorem aCT (C:Cm (model prog w) A E s κ ok kd) {st:SortSt} (hs:Sx kd st) {left:Bool} {key:Keyed} {arr:Array Keyed} {base n hint:Nat} {Q:Option Nat→SortSt→Prop} (hk:ok key) (ha:∀ x∈arr,ok x) (hsz:base + n≤arr.size) (hh:hint < n)
  (mono:∀ i j,i≤j→j < n→pb κ left key arr base j=true→pb κ left key arr base i=true)
  (q:∀ k,k≤n→(∀ i,i < k→pb κ left key arr base i=true)→(∀ i,k≤i→i < n→pb κ left key arr base i=false)→Q (some k) st):wpS (model prog w) A E s (aE9 left key arr base n hint) Q st:=by
 refine wpS_bind (qN C hs hk ha (by lia) ?_)
 dsimp only
 cases e0:pb κ left key arr base hint with
 | true =>
  rw [if_pos rfl]
  refine wpS_bind (wpS_mono (wpS_forRange (fun x c st'=>st'=st∧∃ l o,c=(none,l,o)∧l < o∧x + 1≤o∧l < n - hint∧pb κ left key arr base (hint + l)=true)
   (Q:=fun c st'=>st'=st∧∃ l o,c=(none,l,o)∧l < o∧l < n - hint∧pb κ left key arr base (hint + l)=true∧(o ≥ n - hint∨pb κ left key arr base (hint + o)=false)) (fun x c st' _ hx hI=>?_) (fun c st' hI=>?_) ⟨rfl,0,1,rfl,by lia,by lia,by lia,e0⟩) ?_)
  ·obtain ⟨rfl,l,o,rfl,a1,a2,a3,a4⟩:=hI
   dsimp only
   by_cases c:o ≥ n - hint
   ·rw [if_pos c]; exact wpS_pure ⟨rfl,l,o,rfl,a1,a3,a4,.inl c⟩
   rw [if_neg c]
   refine wpS_bind (qN C hs hk ha (by lia) ?_)
   dsimp only
   cases e:pb κ left key arr base (hint + o) with
   | false =>
    rw [if_pos (by simp)]
    exact wpS_pure ⟨rfl,l,o,rfl,a1,a3,a4,.inr e⟩
   | true =>
    rw [if_neg (by simp)]
    exact wpS_pure ⟨rfl,o,_,rfl,by lia,by lia,by lia,e⟩
  ·obtain ⟨rfl,l,o,rfl,a1,a2,a3,a4⟩:=hI
   exact ⟨rfl,l,o,rfl,a1,a3,a4,.inl (by lia)⟩
  ·rintro c st' ⟨rfl,l,o,rfl,a1,a3,a4,a5⟩
   dsimp only
   obtain ⟨lo,hlo⟩:∃ lo,lo=hint + l + 1:=⟨_,rfl⟩
   obtain ⟨hi,hhi⟩:∃ hi,hi=hint + min o (n - hint):=⟨_,rfl⟩
   rw [← hlo,← hhi]
   have h1:lo≤hi:=by lia
   have h2:hi≤n:=by lia
   have h3:∀ i,i < lo→pb κ left key arr base i=true:=fun i ci=>mono i (hint + l) (by lia) (by lia) a4
   have h4:∀ i,hi≤i→i < n→pb κ left key arr base i=false:=fun i c1 c2=>by
    rcases a5 with a5 | a5
    ·lia
    ·by_cases co:o ≥ n - hint
     ·lia
     cases e2:pb κ left key arr base i with
     | false=>rfl
     | true=>rw [mono _ i (by lia) c2 e2] at a5; cases a5
   clear hlo hhi a1 a3 a4 a5
   refine wpS_bind (wpS_mono (wpS_forRange (fun x c st2=>st2=st'∧∃ lo hi,c=(none,lo,hi)∧lo≤hi∧hi≤n∧hi - lo≤n - x∧(∀ i,i < lo→pb κ left key arr base i=true)∧∀ i,hi≤i→i < n→pb κ left key arr base i=false)
    (Q:=fun c st2=>st2=st'∧∃ lo hi,c=(none,lo,hi)∧hi≤lo∧hi≤n∧(∀ i,i < lo→pb κ left key arr base i=true)∧∀ i,hi≤i→i < n→pb κ left key arr base i=false) (fun x c st2 _ hx hI=>?_) (fun c st2 hI=>?_) ⟨rfl,lo,hi,rfl,h1,h2,by lia,h3,h4⟩) ?_)
   ·obtain ⟨rfl,lo,hi,rfl,a1,a2,a3,a4,a5⟩:=hI
    dsimp only
    by_cases c:lo ≥ hi
    ·rw [if_pos c]; exact wpS_pure ⟨rfl,lo,hi,rfl,c,a2,a4,a5⟩
    rw [if_neg c]
    refine wpS_bind (qN C hs hk ha (by lia) ?_)
    dsimp only
    cases e:pb κ left key arr base (lo + (hi - lo) / 2) with
    | true =>
     rw [if_pos rfl]
     exact wpS_pure ⟨rfl,_,hi,rfl,by lia,a2,by lia,fun i ci=>mono i (lo + (hi - lo) / 2) (by lia) (by lia) e,a5⟩
    | false =>
     rw [if_neg Bool.false_ne_true]
     refine wpS_pure ⟨rfl,lo,_,rfl,by lia,by lia,by lia,a4,fun i c1 c2=>?_⟩
     cases e2:pb κ left key arr base i with
     | false=>rfl
     | true=>rw [mono _ i c1 c2 e2] at e; cases e
   ·obtain ⟨rfl,lo,hi,rfl,a1,a2,a3,a4,a5⟩:=hI
    exact ⟨rfl,lo,hi,rfl,by lia,a2,a4,a5⟩
   ·rintro c st2 ⟨rfl,lo,hi,rfl,a1,a2,a4,a5⟩
    exact wpS_pure (q hi a2 (fun i ci=>a4 i (by lia)) a5)
 | false =>
  rw [if_neg Bool.false_ne_true]
  refine wpS_bind (wpS_mono (wpS_forRange (fun x c st'=>st'=st∧∃ l o,c=(none,l,o)∧l < o∧x + 1≤o∧l < hint + 1∧pb κ left key arr base (hint - l)=false)
   (Q:=fun c st'=>st'=st∧∃ l o,c=(none,l,o)∧l < o∧l < hint + 1∧pb κ left key arr base (hint - l)=false∧(o ≥ hint + 1∨pb κ left key arr base (hint - o)=true)) (fun x c st' _ hx hI=>?_) (fun c st' hI=>?_) ⟨rfl,0,1,rfl,by lia,by lia,by lia,e0⟩) ?_)
  ·obtain ⟨rfl,l,o,rfl,a1,a2,a3,a4⟩:=hI
   dsimp only
   by_cases c:o ≥ hint + 1
   ·rw [if_pos c]; exact wpS_pure ⟨rfl,l,o,rfl,a1,a3,a4,.inl c⟩
   rw [if_neg c]
   refine wpS_bind (qN C hs hk ha (by lia) ?_)
   dsimp only
   cases e:pb κ left key arr base (hint - o) with
   | true =>
    rw [if_pos rfl]
    exact wpS_pure ⟨rfl,l,o,rfl,a1,a3,a4,.inr e⟩
   | false =>
    rw [if_neg (by simp)]
    exact wpS_pure ⟨rfl,o,_,rfl,by lia,by lia,by lia,e⟩
  ·obtain ⟨rfl,l,o,rfl,a1,a2,a3,a4⟩:=hI
   exact ⟨rfl,l,o,rfl,a1,a3,a4,.inl (by lia)⟩
  ·rintro c st' ⟨rfl,l,o,rfl,a1,a3,a4,a5⟩
   dsimp only
   obtain ⟨lo,hlo⟩:∃ lo,lo=hint + 1 - min o (hint + 1):=⟨_,rfl⟩
   obtain ⟨hi,hhi⟩:∃ hi,hi=hint - l:=⟨_,rfl⟩
   rw [← hlo,← hhi]
   have h1:lo≤hi:=by lia
   have h2:hi≤n:=by lia
   have h3:∀ i,i < lo→pb κ left key arr base i=true:=fun i ci=>by
    rcases a5 with a5 | a5
    ·lia
    ·by_cases co:o ≥ hint + 1
     ·lia
     exact mono i (hint - o) (by lia) (by lia) a5
   have h4:∀ i,hi≤i→i < n→pb κ left key arr base i=false:=fun i c1 c2=>by
    cases e2:pb κ left key arr base i with
    | false=>rfl
    | true=>rw [mono (hint - l) i (by lia) c2 e2] at a4; cases a4
   clear hlo hhi a1 a3 a4 a5
   refine wpS_bind (wpS_mono (wpS_forRange (fun x c st2=>st2=st'∧∃ lo hi,c=(none,lo,hi)∧lo≤hi∧hi≤n∧hi - lo≤n - x∧(∀ i,i < lo→pb κ left key arr base i=true)∧∀ i,hi≤i→i < n→pb κ left key arr base i=false)
    (Q:=fun c st2=>st2=st'∧∃ lo hi,c=(none,lo,hi)∧hi≤lo∧hi≤n∧(∀ i,i < lo→pb κ left key arr base i=true)∧∀ i,hi≤i→i < n→pb κ left key arr base i=false) (fun x c st2 _ hx hI=>?_) (fun c st2 hI=>?_) ⟨rfl,lo,hi,rfl,h1,h2,by lia,h3,h4⟩) ?_)
   ·obtain ⟨rfl,lo,hi,rfl,a1,a2,a3,a4,a5⟩:=hI
    dsimp only
    by_cases c:lo ≥ hi
    ·rw [if_pos c]; exact wpS_pure ⟨rfl,lo,hi,rfl,c,a2,a4,a5⟩
    rw [if_neg c]
    refine wpS_bind (qN C hs hk ha (by lia) ?_)
    dsimp only
    cases e:pb κ left key arr base (lo + (hi - lo) / 2) with
    | true =>
     rw [if_pos rfl]
     exact wpS_pure ⟨rfl,_,hi,rfl,by lia,a2,by lia,fun i ci=>mono i (lo + (hi - lo) / 2) (by lia) (by lia) e,a5⟩
    | false =>
     rw [if_neg Bool.false_ne_true]
     refine wpS_pure ⟨rfl,lo,_,rfl,by lia,by lia,by lia,a4,fun i c1 c2=>?_⟩
     cases e2:pb κ left key arr base i with
     | false=>rfl
     | true=>rw [mono _ i c1 c2 e2] at e; cases e
   ·obtain ⟨rfl,lo,hi,rfl,a1,a2,a3,a4,a5⟩:=hI
    exact ⟨rfl,lo,hi,rfl,by lia,a2,a4,a5⟩
   ·rintro c st2 ⟨rfl,lo,hi,rfl,a1,a2,a4,a5⟩
    exact wpS_pure (q hi a2 (fun i ci=>a4 i (by lia)) a5)
end
end L2
namespace L2
open PySem PySem.Spec PyProof.Rows
noncomputable def aHP:Array Keyed→Array Keyed→StateT SortSt Sem (Array Keyed):=sortPriv% PySem.Builtin.mergeLo
noncomputable abbrev yY (st:SortSt) (g:Nat):SortSt:=SortSt.mk' (kindOf st) (arrOf st) (pendingOf st) g (failedOf st)
section
variable {O:KeyOrd} (κ:Keyed→O.α)
noncomputable def Srd (l:List Keyed):Prop:=l.Pairwise fun x y=>O.kle (κ x) (κ y)
structure MI (L out a b:List Keyed):Prop where
 perm:(out++a++b).Perm L
 so:Srd κ out
 sa:Srd κ a
 sb:Srd κ b
 oa:∀ x∈out,∀ y∈a,O.kle (κ x) (κ y)
 ob:∀ x∈out,∀ y∈b,O.kle (κ x) (κ y)
variable {κ}
theorem Srd.app {l r:List Keyed}:Srd κ (l++r)↔Srd κ l∧Srd κ r∧∀ x∈l,∀ y∈r,O.kle (κ x) (κ y):=List.pairwise_append
theorem MI.takeA {L out c a b:List Keyed} (m:MI κ L out (c++a) b) (h:∀ x∈c,∀ y∈b,O.kle (κ x) (κ y)):MI κ L (out++c) a b:=by
 obtain ⟨s1,s2,s3⟩:=Srd.app.mp m.sa
 refine ⟨by rw [List.append_assoc out c a]; exact m.perm,Srd.app.mpr ⟨m.so,s1,fun x hx y hy=>m.oa x hx y (List.mem_append_left _ hy)⟩,s2,m.sb,fun x hx y hy=>?_,fun x hx y hy=>?_⟩
 ·rcases List.mem_append.mp hx with hx | hx
  ·exact m.oa x hx y (List.mem_append_right _ hy)
  ·exact s3 x hx y hy
 ·rcases List.mem_append.mp hx with hx | hx
  ·exact m.ob x hx y hy
  ·exact h x hx y hy
theorem MI.swap {L out a b:List Keyed} (m:MI κ L out a b):MI κ L out b a :=
 ⟨((List.append_assoc out b a ▸ List.Perm.append_left out List.perm_append_comm:(out++b++a).Perm (out++(a++b))).trans (List.append_assoc out a b ▸ List.Perm.refl _)).trans m.perm,m.so,m.sb,m.sa,m.ob,m.oa⟩
theorem MI.takeB {L out c a b:List Keyed} (m:MI κ L out a (c++b)) (h:∀ x∈c,∀ y∈a,O.kle (κ x) (κ y)):MI κ L (out++c) a b:=(m.swap.takeA h).swap
theorem MI.endA {L out a b:List Keyed} (m:MI κ L out a b) (h:∀ x∈a,∀ y∈b,O.kle (κ x) (κ y)):Srd κ (out++a++b)∧(out++a++b).Perm L :=
 ⟨Srd.app.mpr ⟨Srd.app.mpr ⟨m.so,m.sa,m.oa⟩,m.sb,fun x hx y hy=>by
  rcases List.mem_append.mp hx with hx | hx
  ·exact m.ob x hx y hy
  ·exact h x hx y hy⟩,m.perm⟩
end
section
variable {O:KeyOrd} {κ:Keyed→O.α}
theorem aJS {a:Array Keyed} {i:Nat} (h:i < a.size):∃ x,a[i]?=some x∧a.toList.drop i=x :: a.toList.drop (i + 1)∧x∈a :=
 ⟨a[i],Array.getElem?_eq_getElem h,by rw [List.drop_eq_getElem_cons (by simpa using h)]; simp,Array.getElem_mem h⟩
theorem qA {a:Array Keyed} {i:Nat} {P:Prop} (h:i < a.size) (k:∀ x,a[i]?=some x→a.toList.drop i=x :: a.toList.drop (i + 1)→x∈a→P):P:=by
 obtain ⟨x,h1,h2,h3⟩:=aJS h
 exact k x h1 h2 h3
theorem zJ {M:Model} {A:Around} {E:Value→Shared→Prop} {s:Shared} {τ α:Type} {c:Prop} [Decidable c] {x y:StateT τ Sem α} {Q:α→τ→Prop} {st:τ} (h:c) (k:wpS M A E s x Q st):wpS M A E s (if c then x else y) Q st:=by
 rw [if_pos h]; exact k
theorem zK {M:Model} {A:Around} {E:Value→Shared→Prop} {s:Shared} {τ α:Type} {c:Prop} [Decidable c] {x y:StateT τ Sem α} {Q:α→τ→Prop} {st:τ} (h:¬ c) (k:wpS M A E s y Q st):wpS M A E s (if c then x else y) Q st:=by
 rw [if_neg h]; exact k
theorem zq {M:Model} {A:Around} {E:Value→Shared→Prop} {s:Shared} {τ α:Type} {c:Prop} [Decidable c] {x y:StateT τ Sem α} {Q:α→τ→Prop} {st:τ} (h1:c→wpS M A E s x Q st) (h2:¬ c→wpS M A E s y Q st):wpS M A E s (if c then x else y) Q st:=by
 by_cases h:c
 ·exact zJ h (h1 h)
 ·exact zK h (h2 h)
theorem yd (a:Array Keyed) (i j:Nat):(a.extract i j).toList=(a.toList.drop i).take (j - i):=by
 rw [Array.toList_extract]
theorem aAj (a:Array Keyed) (i:Nat):(a.extract i).toList=a.toList.drop i:=by
 rw [yd]; exact List.take_of_length_le (by simp)
theorem jl {a:Array Keyed} {i k:Nat}:a.toList.drop i=(a.extract i (i + k)).toList++a.toList.drop (i + k):=by
 rw [yd,Nat.add_sub_cancel_left,← List.drop_drop,List.take_append_drop]
theorem qg {a:Array Keyed} {i k:Nat} {x:Keyed} (h:x∈(a.extract i (i + k)).toList):∃ j,j < k∧a[i + j]?=some x:=by
 rw [yd,Nat.add_sub_cancel_left] at h
 obtain ⟨j,hj⟩:=List.mem_iff_getElem?.mp h
 rw [List.getElem?_take] at hj
 split at hj
 ·rename_i c
  refine ⟨j,c,?_⟩
  rw [List.getElem?_drop] at hj
  simpa using hj
 ·cases hj
theorem yB {a:Array Keyed} {i:Nat} {x:Keyed} (h:x∈a.toList.drop i):∃ j,i + j < a.size∧a[i + j]?=some x:=by
 obtain ⟨j,hj⟩:=List.mem_iff_getElem?.mp h
 rw [List.getElem?_drop] at hj
 have hl:=(List.getElem?_eq_some_iff.mp hj).1
 exact ⟨j,by simpa using hl,by simpa using hj⟩
theorem Srd.get {a:Array Keyed} (h:Srd κ a.toList) {i j:Nat} {x y:Keyed} (hij:i≤j) (hx:a[i]?=some x) (hy:a[j]?=some y):O.kle (κ x) (κ y):=by
 have hx':a.toList[i]?=some x:=by simpa using hx
 have hy':a.toList[j]?=some y:=by simpa using hy
 rcases Nat.lt_or_ge i j with c | c
 ·obtain ⟨l1,e1⟩:=List.getElem?_eq_some_iff.mp hx'
  obtain ⟨l2,e2⟩:=List.getElem?_eq_some_iff.mp hy'
  have:=List.pairwise_iff_getElem.mp h i j l1 l2 c
  rw [e1,e2] at this
  exact this
 ·have:i=j:=by lia
  subst this
  rw [hx] at hy; cases hy
  exact KeyOrd.kle_refl _
noncomputable def Gd (κ:Keyed→O.α) (L:List Keyed) (r:Array Keyed):Prop:=Srd κ r.toList∧r.toList.Perm L
theorem MI.done {L:List Keyed} {out a b:Array Keyed} {ia ib:Nat} (m:MI κ L out.toList (a.toList.drop ia) (b.toList.drop ib)) (h:ib=b.size∨ia=a.size):Gd κ L (out++a.extract ia++b.extract ib):=by
 unfold Gd
 rw [Array.toList_append,Array.toList_append,aAj,aAj]
 refine m.endA fun x hx y hy=>?_
 rcases h with h | h
 ·rw [h,List.drop_of_length_le (by simp)] at hy; cases hy
 ·rw [h,List.drop_of_length_le (by simp)] at hx; cases hx
theorem MI.last {L:List Keyed} {out a b:Array Keyed} {ia ib:Nat} (m:MI κ L out.toList (a.toList.drop ia) (b.toList.drop ib)) (h:ia + 1=a.size) (h2:∀ y∈b,∀ x,a[a.size - 1]?=some x→O.kle (κ y) (κ x)):Gd κ L (out++b.extract ib++a.extract ia):=by
 unfold Gd
 rw [Array.toList_append,Array.toList_append,aAj,aAj]
 refine m.swap.endA fun y hy x hx=>?_
 obtain ⟨j,j1,j2⟩:=yB hx
 obtain ⟨k,k1,k2⟩:=yB hy
 exact h2 y (Array.mem_of_getElem? k2) x (by rw [← j2]; congr 1; lia)
theorem MI.pushB {L:List Keyed} {out a b:Array Keyed} {ia ib:Nat} {y:Keyed} (m:MI κ L out.toList (a.toList.drop ia) (b.toList.drop ib)) (hy:b.toList.drop ib=y :: b.toList.drop (ib + 1)) (h:∀ x∈a.toList.drop ia,O.kle (κ y) (κ x)):MI κ L (out.push y).toList (a.toList.drop ia) (b.toList.drop (ib + 1)):=by
 rw [Array.toList_push]
 rw [hy] at m
 exact MI.takeB (c:=[y]) m (fun x hx z hz=>by rw [List.mem_singleton.mp hx]; exact h z hz)
theorem MI.pushA {L:List Keyed} {out a b:Array Keyed} {ia ib:Nat} {y:Keyed} (m:MI κ L out.toList (a.toList.drop ia) (b.toList.drop ib)) (hy:a.toList.drop ia=y :: a.toList.drop (ia + 1)) (h:∀ x∈b.toList.drop ib,O.kle (κ y) (κ x)):MI κ L (out.push y).toList (a.toList.drop (ia + 1)) (b.toList.drop ib):=by
 rw [Array.toList_push]
 rw [hy] at m
 exact MI.takeA (c:=[y]) m (fun x hx z hz=>by rw [List.mem_singleton.mp hx]; exact h z hz)
theorem MI.chunkA {L:List Keyed} {out a b:Array Keyed} {ia ib k:Nat} (m:MI κ L out.toList (a.toList.drop ia) (b.toList.drop ib)) (h:∀ x∈(a.extract ia (ia + k)).toList,∀ y∈b.toList.drop ib,O.kle (κ x) (κ y)):MI κ L (out++a.extract ia (ia + k)).toList (a.toList.drop (ia + k)) (b.toList.drop ib):=by
 rw [Array.toList_append]
 rw [jl (a:=a) (i:=ia) (k:=k)] at m
 exact m.takeA h
theorem MI.chunkB {L:List Keyed} {out a b:Array Keyed} {ia ib k:Nat} (m:MI κ L out.toList (a.toList.drop ia) (b.toList.drop ib)) (h:∀ x∈(b.extract ib (ib + k)).toList,∀ y∈a.toList.drop ia,O.kle (κ x) (κ y)):MI κ L (out++b.extract ib (ib + k)).toList (a.toList.drop ia) (b.toList.drop (ib + k)):=by
 rw [Array.toList_append]
 rw [jl (a:=b) (i:=ib) (k:=k)] at m
 exact m.takeB h
theorem MI.headA {L out b:List Keyed} {a:Array Keyed} {ia:Nat} {x:Keyed} (m:MI κ L out (a.toList.drop ia) b) (hx:a.toList.drop ia=x :: a.toList.drop (ia + 1)):∀ z∈a.toList.drop ia,O.kle (κ x) (κ z):=by
 have:=m.sa
 rw [hx] at this ⊢
 intro z hz
 rcases List.mem_cons.mp hz with rfl | hz
 ·exact KeyOrd.kle_refl _
 ·exact (List.pairwise_cons.mp this).1 z hz
theorem MI.headB {L out a:List Keyed} {b:Array Keyed} {ib:Nat} {x:Keyed} (m:MI κ L out a (b.toList.drop ib)) (hx:b.toList.drop ib=x :: b.toList.drop (ib + 1)):∀ z∈b.toList.drop ib,O.kle (κ x) (κ z):=m.swap.headA hx
theorem MI.size {L:List Keyed} {out a b:Array Keyed} {ia ib:Nat} (m:MI κ L out.toList (a.toList.drop ia) (b.toList.drop ib)):out.size + (a.size - ia) + (b.size - ib)=L.length:=by
 have:=m.perm.length_eq
 simp only [List.length_append,List.length_drop,Array.length_toList] at this
 exact this
end
section
variable {prog:Program} {w:World} {A:Around} {E:Value→Shared→Prop} {s:Shared} {O:KeyOrd} {κ:Keyed→O.α} {ok:Keyed→Prop} {kd:SortKind}
theorem Sx.gal {st:SortSt} {g:Nat} (h:Sx kd st):Sx kd (yY st g):=h
theorem jE (C:Cm (model prog w) A E s κ ok kd) {st:SortSt} (hs:Sx kd st) {key:Keyed} {arr:Array Keyed} {base n hint:Nat} {Q:Option Nat→SortSt→Prop} (hk:ok key) (ha:∀ x∈arr,ok x) (hsz:base + n≤arr.size) (hh:hint < n)
  (srt:∀ i j x y,base≤i→i≤j→j < base + n→arr[i]?=some x→arr[j]?=some y→O.kle (κ x) (κ y))
  (q:∀ k,k≤n→(∀ j x,j < k→arr[base + j]?=some x→O.kle (κ x) (κ key))→(∀ j x,k≤j→j < n→arr[base + j]?=some x→O.klt (κ key) (κ x))→Q (some k) st):wpS (model prog w) A E s (aE9 false key arr base n hint) Q st:=by
 refine aCT C hs hk ha hsz hh (fun i j hij hj hp=>?_) fun k hk h1 h2=>q k hk (fun j x hj hx=>?_) (fun j x c1 c2 hx=>?_)
 ·have xi:arr[base + i]?=some arr[base + i]:=Array.getElem?_eq_getElem (by lia)
  have xj:arr[base + j]?=some arr[base + j]:=Array.getElem?_eq_getElem (by lia)
  unfold pb at hp ⊢
  rw [xj] at hp
  rw [xi]
  simp only [Bool.false_eq_true,if_false,Bool.not_eq_true'] at hp ⊢
  exact KeyOrd.kle_trans (srt _ _ _ _ (by lia) (by lia) (by lia) xi xj) hp
 ·have:=h1 j hj
  unfold pb at this
  rw [hx] at this
  show O.blt (κ key) (κ x)=false
  simpa using this
 ·have:=h2 j c1 c2
  unfold pb at this
  rw [hx] at this
  show O.blt (κ key) (κ x)=true
  simpa using this
theorem qB (C:Cm (model prog w) A E s κ ok kd) {st:SortSt} (hs:Sx kd st) {key:Keyed} {arr:Array Keyed} {base n hint:Nat} {Q:Option Nat→SortSt→Prop} (hk:ok key) (ha:∀ x∈arr,ok x) (hsz:base + n≤arr.size) (hh:hint < n)
  (srt:∀ i j x y,base≤i→i≤j→j < base + n→arr[i]?=some x→arr[j]?=some y→O.kle (κ x) (κ y))
  (q:∀ k,k≤n→(∀ j x,j < k→arr[base + j]?=some x→O.klt (κ x) (κ key))→(∀ j x,k≤j→j < n→arr[base + j]?=some x→O.kle (κ key) (κ x))→Q (some k) st):wpS (model prog w) A E s (aE9 true key arr base n hint) Q st:=by
 refine aCT C hs hk ha hsz hh (fun i j hij hj hp=>?_) fun k hk h1 h2=>q k hk (fun j x hj hx=>?_) (fun j x c1 c2 hx=>?_)
 ·have xi:arr[base + i]?=some arr[base + i]:=Array.getElem?_eq_getElem (by lia)
  have xj:arr[base + j]?=some arr[base + j]:=Array.getElem?_eq_getElem (by lia)
  unfold pb at hp ⊢
  rw [xj] at hp
  rw [xi]
  simp only [if_true] at hp ⊢
  exact KeyOrd.klt_of_kle_of_klt (srt _ _ _ _ (by lia) (by lia) (by lia) xi xj) hp
 ·have:=h1 j hj
  unfold pb at this
  rw [hx] at this
  show O.blt (κ x) (κ key)=true
  simpa using this
 ·have:=h2 j c1 c2
  unfold pb at this
  rw [hx] at this
  show O.blt (κ x) (κ key)=false
  simpa using this
end
section
variable {prog:Program} {w:World} {A:Around} {E:Value→Shared→Prop} {s:Shared} {O:KeyOrd} {κ:Keyed→O.α} {ok:Keyed→Prop} {kd:SortKind}
theorem aF8 (C:Cm (model prog w) A E s κ ok kd) {st:SortSt} (hs:Sx kd st) {a b:Array Keyed} {Q:Array Keyed→SortSt→Prop} (oka:∀ x∈a,ok x) (okb:∀ x∈b,ok x) (sa:Srd κ a.toList) (sb:Srd κ b.toList) (ha:1≤a.size) (hb:1≤b.size)
  (h1:∀ x∈a,∀ y,b[0]?=some y→O.kle (κ y) (κ x)) (h2:∀ y∈b,∀ x,a[a.size - 1]?=some x→O.kle (κ y) (κ x))
  (q:∀ out g,Gd κ (a.toList++b.toList) out→Q out (yY st g)):wpS (model prog w) A E s (aHP a b) Q st:=by
 refine wpS_bind (wpS_lift (wpAny_rule ⟨rfl,?_⟩))
 dsimp only
 refine qA (a:=b) (i:=0) (by lia) fun y0 ey0 dy0 my0=>?_
 refine wpS_bind (zL ey0 ?_)
 have M0:MI κ (a.toList++b.toList) (#[]:Array Keyed).toList (a.toList.drop 0) (b.toList.drop 0):=⟨by simp,List.Pairwise.nil,by simpa using sa,by simpa using sb,by simp,by simp⟩
 have M1:MI κ (a.toList++b.toList) (#[y0]:Array Keyed).toList (a.toList.drop 0) (b.toList.drop 1):=M0.pushB dy0 (fun x hx=>by
  obtain ⟨j,_,j2⟩:=yB hx
  exact h1 x (Array.mem_of_getElem? j2) y0 ey0)
 by_cases c1:1=b.size
 ·refine zJ ((beq_iff_eq.mpr c1)) ?_
  exact wpS_pure (q _ (gallopOf st) (M1.done (.inl c1)))
 refine zK ((fun z=>c1 (beq_iff_eq.mp z))) ?_
 by_cases c2:0 + 1=a.size
 ·refine zJ ((beq_iff_eq.mpr c2)) ?_
  exact wpS_pure (q _ (gallopOf st) (M1.last c2 h2))
 refine zK ((fun z=>c2 (beq_iff_eq.mp z))) ?_
 refine wpS_bind (wpS_get ?_)
 refine wpS_bind (wpS_mono (wpS_forRange (fun x c st'=>∃ out ia ib mg,c=(none,out,ia,ib,mg)∧(∃ g,st'=yY st g)∧MI κ (a.toList++b.toList) out.toList (a.toList.drop ia) (b.toList.drop ib)∧ia + 1 < a.size∧ib < b.size∧x + 1≤out.size)
  (Q:=fun c st'=>(∃ g,st'=yY st g)∧∃ r,c.1=some r∧Gd κ (a.toList++b.toList) r) ?step ?fin ⟨_,_,_,_,rfl,⟨gallopOf st,rfl⟩,M1,by lia,by lia,by simp⟩) ?post)
 case fin =>
  rintro c st' ⟨out,ia,ib,mg,rfl,⟨g,rfl⟩,m,i1,i2,sz⟩
  exfalso
  have:=m.size
  rw [List.length_append,Array.length_toList,Array.length_toList] at this
  lia
 case post =>
  rintro ⟨c1,c2⟩ st' ⟨⟨g,rfl⟩,r,e,gd⟩
  cases e
  exact wpS_pure (q _ g gd)
 case step =>
  rintro x c st' _ hx ⟨out,ia,ib,mg,rfl,⟨g,rfl⟩,m,i1,i2,sz⟩
  dsimp only
  refine wpS_bind (wpS_mono (wpS_forRange (fun y c st'=>∃ out ia ib ac bc,c=(none,out,ia,ib,ac,bc)∧st'=yY st g∧MI κ (a.toList++b.toList) out.toList (a.toList.drop ia) (b.toList.drop ib)∧ia + 1 < a.size∧ib < b.size∧x + 1 + y≤out.size)
   (Q:=fun c st'=>st'=yY st g∧((∃ r,c.1=some r∧Gd κ (a.toList++b.toList) r)∨∃ out ia ib ac bc,c=(none,out,ia,ib,ac,bc)∧MI κ (a.toList++b.toList) out.toList (a.toList.drop ia) (b.toList.drop ib)∧ia + 1 < a.size∧ib < b.size∧x + 2≤out.size)) ?step2 ?fin2 ⟨out,ia,ib,0,0,rfl,rfl,m,i1,i2,by lia⟩) ?post2)
  case fin2 =>
   rintro c st' ⟨out,ia,ib,ac,bc,rfl,rfl,m,i1,i2,sz⟩
   exact ⟨rfl,.inr ⟨_,_,_,_,_,rfl,m,i1,i2,by lia⟩⟩
  case step2 =>
   rintro y c st' _ hy ⟨out,ia,ib,ac,bc,rfl,rfl,m,i1,i2,sz⟩
   dsimp only
   refine qA (a:=b) (i:=ib) i2 fun yb eyb dyb myb=>?_
   refine qA (a:=a) (i:=ia) (by lia) fun xa exa dxa mxa=>?_
   refine wpS_bind (zL eyb (wpS_bind (zL exa (wpS_bind (C.lt hs.1 hs.2 (okb _ myb) (oka _ mxa) ?_)))))
   dsimp only
   cases e:O.blt (κ yb) (κ xa) with
   | true =>
    refine zJ (rfl) ?_
    refine wpS_bind (zL eyb ?_)
    have m2:=m.pushB dyb (fun z hz=>KeyOrd.kle_trans (KeyOrd.kle_of_klt e) (m.headA dxa z hz))
    by_cases c:ib + 1=b.size
    ·refine zJ ((beq_iff_eq.mpr c)) ?_
     exact wpS_pure ⟨rfl,.inl ⟨_,rfl,m2.done (.inl c)⟩⟩
    refine zK ((fun z=>c (beq_iff_eq.mp z))) ?_
    refine zq (fun _=>?_) (fun _=>?_)
    ·exact wpS_pure ⟨rfl,.inr ⟨_,_,_,_,_,rfl,m2,i1,by lia,by rw [Array.size_push]; lia⟩⟩
    ·exact wpS_pure ⟨_,_,_,_,_,rfl,rfl,m2,i1,by lia,by rw [Array.size_push]; lia⟩
   | false =>
    refine zK (Bool.false_ne_true) ?_
    refine wpS_bind (zL exa ?_)
    have m2:=m.pushA dxa (fun z hz=>KeyOrd.kle_trans e (m.headB dyb z hz))
    by_cases c:ia + 1 + 1=a.size
    ·refine zJ ((beq_iff_eq.mpr c)) ?_
     exact wpS_pure ⟨rfl,.inl ⟨_,rfl,m2.last c h2⟩⟩
    refine zK ((fun z=>c (beq_iff_eq.mp z))) ?_
    refine zq (fun _=>?_) (fun _=>?_)
    ·exact wpS_pure ⟨rfl,.inr ⟨_,_,_,_,_,rfl,m2,by lia,i2,by rw [Array.size_push]; lia⟩⟩
    ·exact wpS_pure ⟨_,_,_,_,_,rfl,rfl,m2,by lia,i2,by rw [Array.size_push]; lia⟩
  case post2 =>
   rintro c st' ⟨rfl,hq⟩
   rcases hq with ⟨r,e,gd⟩ | ⟨out,ia,ib,ac,bc,rfl,m,i1,i2,sz⟩
   ·obtain ⟨c1,c2⟩:=c
    cases e
    exact wpS_pure ⟨⟨g,rfl⟩,r,rfl,gd⟩
   dsimp only
   refine wpS_bind (wpS_lift (wpAny_rule ⟨rfl,?_⟩))
   refine wpS_bind (wpS_mono (wpS_forRange (fun _ c st'=>∃ out ia ib mg ac bc,c=(none,out,ia,ib,mg,ac,bc)∧(∃ g,st'=yY st g)∧MI κ (a.toList++b.toList) out.toList (a.toList.drop ia) (b.toList.drop ib)∧ia + 1 < a.size∧ib < b.size∧x + 2≤out.size)
    (Q:=fun c st'=>(∃ g,st'=yY st g)∧((∃ r,c.1=some r∧Gd κ (a.toList++b.toList) r)∨∃ out ia ib mg ac bc,c=(none,out,ia,ib,mg,ac,bc)∧MI κ (a.toList++b.toList) out.toList (a.toList.drop ia) (b.toList.drop ib)∧ia + 1 < a.size∧ib < b.size∧x + 2≤out.size)) ?step3 ?fin3 ⟨_,_,_,_,_,_,rfl,⟨g,rfl⟩,m,i1,i2,sz⟩) ?post3)
   case fin3 =>
    rintro c st' ⟨out,ia,ib,mg,ac,bc,rfl,hg,m,i1,i2,sz⟩
    exact ⟨hg,.inr ⟨_,_,_,_,_,_,rfl,m,i1,i2,sz⟩⟩
   case post3 =>
    rintro c st' ⟨⟨g,rfl⟩,hq⟩
    rcases hq with ⟨r,e,gd⟩ | ⟨out,ia,ib,mg,ac,bc,rfl,m,i1,i2,sz⟩
    ·obtain ⟨c1,c2⟩:=c
     cases e
     exact wpS_pure ⟨⟨g,rfl⟩,r,rfl,gd⟩
    dsimp only
    exact wpS_bind (wpS_modify (wpS_pure ⟨_,_,_,_,rfl,⟨_,rfl⟩,m,i1,i2,by lia⟩))
   case step3 =>
    rintro y c st' _ hy ⟨out,ia,ib,mg,ac,bc,rfl,⟨g,rfl⟩,m,i1,i2,sz⟩
    dsimp only
    by_cases cm:mg > 1
    ·refine zJ (cm) ?_
     refine wpS_bind (wpS_modify ?_)
     refine qA (a:=b) (i:=ib) i2 fun yb eyb dyb myb=>?_
     refine wpS_bind (zL eyb ?_)
     refine wpS_bind (jE C (arr:=a) (base:=ia) (n:=a.size - ia) (hint:=0) hs.gal.gal (okb _ myb) oka (by lia) (by lia) (fun i j x y _ c2 _ ex ey=>sa.get c2 ex ey) fun k hk le gt=>?_)
     dsimp only
     have m2:=m.chunkA (k:=k) (fun x hx z hz=>by
      obtain ⟨j,j1,j2⟩:=qg hx
      exact KeyOrd.kle_trans (le j x j1 j2) (m.headB dyb z hz))
     have ng:∀ x∈a.toList.drop (ia + k),O.kle (κ yb) (κ x):=fun x hx=>by
      obtain ⟨j,j1,j2⟩:=yB hx
      exact KeyOrd.kle_of_klt (gt (k + j) x (by lia) (by lia) (by rw [← Nat.add_assoc]; exact j2))
     by_cases ck:k > 0
     ·refine zJ (ck) ?_
      by_cases c1:ia + k + 1=a.size
      ·refine zJ ((beq_iff_eq.mpr c1)) ?_
       exact wpS_pure ⟨⟨_,rfl⟩,.inl ⟨_,rfl,m2.last c1 h2⟩⟩
      refine zK ((fun z=>c1 (beq_iff_eq.mp z))) ?_
      by_cases c2:ia + k=a.size
      ·refine zJ ((beq_iff_eq.mpr c2)) ?_
       exact wpS_pure ⟨⟨_,rfl⟩,.inl ⟨_,rfl,m2.done (.inr c2)⟩⟩
      refine zK ((fun z=>c2 (beq_iff_eq.mp z))) ?_
      refine wpS_bind (zL eyb ?_)
      have m3:=m2.pushB dyb ng
      by_cases c3:ib + 1=b.size
      ·refine zJ ((beq_iff_eq.mpr c3)) ?_
       exact wpS_pure ⟨⟨_,rfl⟩,.inl ⟨_,rfl,m3.done (.inl c3)⟩⟩
      refine zK ((fun z=>c3 (beq_iff_eq.mp z))) ?_
      refine qA (a:=a) (i:=ia + k) (by lia) fun xa exa dxa mxa=>?_
      refine wpS_bind (zL exa ?_)
      refine wpS_bind (qB C (arr:=b) (base:=ib + 1) (n:=b.size - (ib + 1)) (hint:=0) hs.gal.gal (oka _ mxa) okb (by lia) (by lia) (fun i j x y _ c2 _ ex ey=>sb.get c2 ex ey) fun k2 hk2 lt2 ge2=>?_)
      dsimp only
      by_cases ck2:k2 > 0
      ·refine zJ (ck2) ?_
       have m4:=m3.chunkB (k:=k2) (fun x hx z hz=>by
        obtain ⟨j,j1,j2⟩:=qg hx
        exact KeyOrd.kle_trans (KeyOrd.kle_of_klt (lt2 j x j1 j2)) (m3.headA dxa z hz))
       by_cases c4:ib + 1 + k2=b.size
       ·refine zJ ((beq_iff_eq.mpr c4)) ?_
        exact wpS_pure ⟨⟨_,rfl⟩,.inl ⟨_,rfl,m4.done (.inl c4)⟩⟩
       refine zK ((fun z=>c4 (beq_iff_eq.mp z))) ?_
       refine wpS_bind (zL exa ?_)
       have m5:=m4.pushA dxa (fun z hz=>by
        obtain ⟨j,j1,j2⟩:=yB hz
        exact ge2 (k2 + j) z (by lia) (by lia) (by rw [← Nat.add_assoc]; exact j2))
       by_cases c5:ia + k + 1 + 1=a.size
       ·refine zJ ((beq_iff_eq.mpr c5)) ?_
        exact wpS_pure ⟨⟨_,rfl⟩,.inl ⟨_,rfl,m5.last c5 h2⟩⟩
       refine zK ((fun z=>c5 (beq_iff_eq.mp z))) ?_
       refine zq (fun _=>?_) (fun _=>?_)
       ·exact wpS_pure ⟨⟨_,rfl⟩,.inr ⟨_,_,_,_,_,_,rfl,m5,by lia,by lia,by simp only [Array.size_push,Array.size_append]; lia⟩⟩
       ·exact wpS_pure ⟨_,_,_,_,_,_,rfl,⟨_,rfl⟩,m5,by lia,by lia,by simp only [Array.size_push,Array.size_append]; lia⟩
      ·refine zK (ck2) ?_
       refine wpS_bind (zL exa ?_)
       have m5:=m3.pushA dxa (fun z hz=>by
        obtain ⟨j,j1,j2⟩:=yB hz
        exact ge2 j z (by lia) (by lia) j2)
       by_cases c5:ia + k + 1 + 1=a.size
       ·refine zJ ((beq_iff_eq.mpr c5)) ?_
        exact wpS_pure ⟨⟨_,rfl⟩,.inl ⟨_,rfl,m5.last c5 h2⟩⟩
       refine zK ((fun z=>c5 (beq_iff_eq.mp z))) ?_
       refine zq (fun _=>?_) (fun _=>?_)
       ·exact wpS_pure ⟨⟨_,rfl⟩,.inr ⟨_,_,_,_,_,_,rfl,m5,by lia,by lia,by simp only [Array.size_push,Array.size_append]; lia⟩⟩
       ·exact wpS_pure ⟨_,_,_,_,_,_,rfl,⟨_,rfl⟩,m5,by lia,by lia,by simp only [Array.size_push,Array.size_append]; lia⟩
     ·refine zK (ck) ?_
      have k0:k=0:=by lia
      rw [k0] at ng
      refine wpS_bind (zL eyb ?_)
      have m3:=m.pushB dyb ng
      by_cases c3:ib + 1=b.size
      ·refine zJ ((beq_iff_eq.mpr c3)) ?_
       exact wpS_pure ⟨⟨_,rfl⟩,.inl ⟨_,rfl,m3.done (.inl c3)⟩⟩
      refine zK ((fun z=>c3 (beq_iff_eq.mp z))) ?_
      refine qA (a:=a) (i:=ia) (by lia) fun xa exa dxa mxa=>?_
      refine wpS_bind (zL exa ?_)
      refine wpS_bind (qB C (arr:=b) (base:=ib + 1) (n:=b.size - (ib + 1)) (hint:=0) hs.gal.gal (oka _ mxa) okb (by lia) (by lia) (fun i j x y _ c2 _ ex ey=>sb.get c2 ex ey) fun k2 hk2 lt2 ge2=>?_)
      dsimp only
      by_cases ck2:k2 > 0
      ·refine zJ (ck2) ?_
       have m4:=m3.chunkB (k:=k2) (fun x hx z hz=>by
        obtain ⟨j,j1,j2⟩:=qg hx
        exact KeyOrd.kle_trans (KeyOrd.kle_of_klt (lt2 j x j1 j2)) (m3.headA dxa z hz))
       by_cases c4:ib + 1 + k2=b.size
       ·refine zJ ((beq_iff_eq.mpr c4)) ?_
        exact wpS_pure ⟨⟨_,rfl⟩,.inl ⟨_,rfl,m4.done (.inl c4)⟩⟩
       refine zK ((fun z=>c4 (beq_iff_eq.mp z))) ?_
       refine wpS_bind (zL exa ?_)
       have m5:=m4.pushA dxa (fun z hz=>by
        obtain ⟨j,j1,j2⟩:=yB hz
        exact ge2 (k2 + j) z (by lia) (by lia) (by rw [← Nat.add_assoc]; exact j2))
       by_cases c5:ia + 1 + 1=a.size
       ·refine zJ ((beq_iff_eq.mpr c5)) ?_
        exact wpS_pure ⟨⟨_,rfl⟩,.inl ⟨_,rfl,m5.last c5 h2⟩⟩
       refine zK ((fun z=>c5 (beq_iff_eq.mp z))) ?_
       refine zq (fun _=>?_) (fun _=>?_)
       ·exact wpS_pure ⟨⟨_,rfl⟩,.inr ⟨_,_,_,_,_,_,rfl,m5,by lia,by lia,by simp only [Array.size_push,Array.size_append]; lia⟩⟩
       ·exact wpS_pure ⟨_,_,_,_,_,_,rfl,⟨_,rfl⟩,m5,by lia,by lia,by simp only [Array.size_push,Array.size_append]; lia⟩
      ·refine zK (ck2) ?_
       refine wpS_bind (zL exa ?_)
       have m5:=m3.pushA dxa (fun z hz=>by
        obtain ⟨j,j1,j2⟩:=yB hz
        exact ge2 j z (by lia) (by lia) j2)
       by_cases c5:ia + 1 + 1=a.size
       ·refine zJ ((beq_iff_eq.mpr c5)) ?_
        exact wpS_pure ⟨⟨_,rfl⟩,.inl ⟨_,rfl,m5.last c5 h2⟩⟩
       refine zK ((fun z=>c5 (beq_iff_eq.mp z))) ?_
       refine zq (fun _=>?_) (fun _=>?_)
       ·exact wpS_pure ⟨⟨_,rfl⟩,.inr ⟨_,_,_,_,_,_,rfl,m5,by lia,by lia,by simp only [Array.size_push,Array.size_append]; lia⟩⟩
       ·exact wpS_pure ⟨_,_,_,_,_,_,rfl,⟨_,rfl⟩,m5,by lia,by lia,by simp only [Array.size_push,Array.size_append]; lia⟩
    ·refine zK (cm) ?_
     refine wpS_bind (wpS_modify ?_)
     refine qA (a:=b) (i:=ib) i2 fun yb eyb dyb myb=>?_
     refine wpS_bind (zL eyb ?_)
     refine wpS_bind (jE C (arr:=a) (base:=ia) (n:=a.size - ia) (hint:=0) hs.gal.gal (okb _ myb) oka (by lia) (by lia) (fun i j x y _ c2 _ ex ey=>sa.get c2 ex ey) fun k hk le gt=>?_)
     dsimp only
     have m2:=m.chunkA (k:=k) (fun x hx z hz=>by
      obtain ⟨j,j1,j2⟩:=qg hx
      exact KeyOrd.kle_trans (le j x j1 j2) (m.headB dyb z hz))
     have ng:∀ x∈a.toList.drop (ia + k),O.kle (κ yb) (κ x):=fun x hx=>by
      obtain ⟨j,j1,j2⟩:=yB hx
      exact KeyOrd.kle_of_klt (gt (k + j) x (by lia) (by lia) (by rw [← Nat.add_assoc]; exact j2))
     by_cases ck:k > 0
     ·refine zJ (ck) ?_
      by_cases c1:ia + k + 1=a.size
      ·refine zJ ((beq_iff_eq.mpr c1)) ?_
       exact wpS_pure ⟨⟨_,rfl⟩,.inl ⟨_,rfl,m2.last c1 h2⟩⟩
      refine zK ((fun z=>c1 (beq_iff_eq.mp z))) ?_
      by_cases c2:ia + k=a.size
      ·refine zJ ((beq_iff_eq.mpr c2)) ?_
       exact wpS_pure ⟨⟨_,rfl⟩,.inl ⟨_,rfl,m2.done (.inr c2)⟩⟩
      refine zK ((fun z=>c2 (beq_iff_eq.mp z))) ?_
      refine wpS_bind (zL eyb ?_)
      have m3:=m2.pushB dyb ng
      by_cases c3:ib + 1=b.size
      ·refine zJ ((beq_iff_eq.mpr c3)) ?_
       exact wpS_pure ⟨⟨_,rfl⟩,.inl ⟨_,rfl,m3.done (.inl c3)⟩⟩
      refine zK ((fun z=>c3 (beq_iff_eq.mp z))) ?_
      refine qA (a:=a) (i:=ia + k) (by lia) fun xa exa dxa mxa=>?_
      refine wpS_bind (zL exa ?_)
      refine wpS_bind (qB C (arr:=b) (base:=ib + 1) (n:=b.size - (ib + 1)) (hint:=0) hs.gal.gal (oka _ mxa) okb (by lia) (by lia) (fun i j x y _ c2 _ ex ey=>sb.get c2 ex ey) fun k2 hk2 lt2 ge2=>?_)
      dsimp only
      by_cases ck2:k2 > 0
      ·refine zJ (ck2) ?_
       have m4:=m3.chunkB (k:=k2) (fun x hx z hz=>by
        obtain ⟨j,j1,j2⟩:=qg hx
        exact KeyOrd.kle_trans (KeyOrd.kle_of_klt (lt2 j x j1 j2)) (m3.headA dxa z hz))
       by_cases c4:ib + 1 + k2=b.size
       ·refine zJ ((beq_iff_eq.mpr c4)) ?_
        exact wpS_pure ⟨⟨_,rfl⟩,.inl ⟨_,rfl,m4.done (.inl c4)⟩⟩
       refine zK ((fun z=>c4 (beq_iff_eq.mp z))) ?_
       refine wpS_bind (zL exa ?_)
       have m5:=m4.pushA dxa (fun z hz=>by
        obtain ⟨j,j1,j2⟩:=yB hz
        exact ge2 (k2 + j) z (by lia) (by lia) (by rw [← Nat.add_assoc]; exact j2))
       by_cases c5:ia + k + 1 + 1=a.size
       ·refine zJ ((beq_iff_eq.mpr c5)) ?_
        exact wpS_pure ⟨⟨_,rfl⟩,.inl ⟨_,rfl,m5.last c5 h2⟩⟩
       refine zK ((fun z=>c5 (beq_iff_eq.mp z))) ?_
       refine zq (fun _=>?_) (fun _=>?_)
       ·exact wpS_pure ⟨⟨_,rfl⟩,.inr ⟨_,_,_,_,_,_,rfl,m5,by lia,by lia,by simp only [Array.size_push,Array.size_append]; lia⟩⟩
       ·exact wpS_pure ⟨_,_,_,_,_,_,rfl,⟨_,rfl⟩,m5,by lia,by lia,by simp only [Array.size_push,Array.size_append]; lia⟩
      ·refine zK (ck2) ?_
       refine wpS_bind (zL exa ?_)
       have m5:=m3.pushA dxa (fun z hz=>by
        obtain ⟨j,j1,j2⟩:=yB hz
        exact ge2 j z (by lia) (by lia) j2)
       by_cases c5:ia + k + 1 + 1=a.size
       ·refine zJ ((beq_iff_eq.mpr c5)) ?_
        exact wpS_pure ⟨⟨_,rfl⟩,.inl ⟨_,rfl,m5.last c5 h2⟩⟩
       refine zK ((fun z=>c5 (beq_iff_eq.mp z))) ?_
       refine zq (fun _=>?_) (fun _=>?_)
       ·exact wpS_pure ⟨⟨_,rfl⟩,.inr ⟨_,_,_,_,_,_,rfl,m5,by lia,by lia,by simp only [Array.size_push,Array.size_append]; lia⟩⟩
       ·exact wpS_pure ⟨_,_,_,_,_,_,rfl,⟨_,rfl⟩,m5,by lia,by lia,by simp only [Array.size_push,Array.size_append]; lia⟩
     ·refine zK (ck) ?_
      have k0:k=0:=by lia
      rw [k0] at ng
      refine wpS_bind (zL eyb ?_)
      have m3:=m.pushB dyb ng
      by_cases c3:ib + 1=b.size
      ·refine zJ ((beq_iff_eq.mpr c3)) ?_
       exact wpS_pure ⟨⟨_,rfl⟩,.inl ⟨_,rfl,m3.done (.inl c3)⟩⟩
      refine zK ((fun z=>c3 (beq_iff_eq.mp z))) ?_
      refine qA (a:=a) (i:=ia) (by lia) fun xa exa dxa mxa=>?_
      refine wpS_bind (zL exa ?_)
      refine wpS_bind (qB C (arr:=b) (base:=ib + 1) (n:=b.size - (ib + 1)) (hint:=0) hs.gal.gal (oka _ mxa) okb (by lia) (by lia) (fun i j x y _ c2 _ ex ey=>sb.get c2 ex ey) fun k2 hk2 lt2 ge2=>?_)
      dsimp only
      by_cases ck2:k2 > 0
      ·refine zJ (ck2) ?_
       have m4:=m3.chunkB (k:=k2) (fun x hx z hz=>by
        obtain ⟨j,j1,j2⟩:=qg hx
        exact KeyOrd.kle_trans (KeyOrd.kle_of_klt (lt2 j x j1 j2)) (m3.headA dxa z hz))
       by_cases c4:ib + 1 + k2=b.size
       ·refine zJ ((beq_iff_eq.mpr c4)) ?_
        exact wpS_pure ⟨⟨_,rfl⟩,.inl ⟨_,rfl,m4.done (.inl c4)⟩⟩
       refine zK ((fun z=>c4 (beq_iff_eq.mp z))) ?_
       refine wpS_bind (zL exa ?_)
       have m5:=m4.pushA dxa (fun z hz=>by
        obtain ⟨j,j1,j2⟩:=yB hz
        exact ge2 (k2 + j) z (by lia) (by lia) (by rw [← Nat.add_assoc]; exact j2))
       by_cases c5:ia + 1 + 1=a.size
       ·refine zJ ((beq_iff_eq.mpr c5)) ?_
        exact wpS_pure ⟨⟨_,rfl⟩,.inl ⟨_,rfl,m5.last c5 h2⟩⟩
       refine zK ((fun z=>c5 (beq_iff_eq.mp z))) ?_
       refine zq (fun _=>?_) (fun _=>?_)
       ·exact wpS_pure ⟨⟨_,rfl⟩,.inr ⟨_,_,_,_,_,_,rfl,m5,by lia,by lia,by simp only [Array.size_push,Array.size_append]; lia⟩⟩
       ·exact wpS_pure ⟨_,_,_,_,_,_,rfl,⟨_,rfl⟩,m5,by lia,by lia,by simp only [Array.size_push,Array.size_append]; lia⟩
      ·refine zK (ck2) ?_
       refine wpS_bind (zL exa ?_)
       have m5:=m3.pushA dxa (fun z hz=>by
        obtain ⟨j,j1,j2⟩:=yB hz
        exact ge2 j z (by lia) (by lia) j2)
       by_cases c5:ia + 1 + 1=a.size
       ·refine zJ ((beq_iff_eq.mpr c5)) ?_
        exact wpS_pure ⟨⟨_,rfl⟩,.inl ⟨_,rfl,m5.last c5 h2⟩⟩
       refine zK ((fun z=>c5 (beq_iff_eq.mp z))) ?_
       refine zq (fun _=>?_) (fun _=>?_)
       ·exact wpS_pure ⟨⟨_,rfl⟩,.inr ⟨_,_,_,_,_,_,rfl,m5,by lia,by lia,by simp only [Array.size_push,Array.size_append]; lia⟩⟩
       ·exact wpS_pure ⟨_,_,_,_,_,_,rfl,⟨_,rfl⟩,m5,by lia,by lia,by simp only [Array.size_push,Array.size_append]; lia⟩
end
end L2
namespace L2
open PySem PySem.Spec PyProof.Rows
noncomputable def aHQ:Array Keyed→Array Keyed→StateT SortSt Sem (Array Keyed):=sortPriv% PySem.Builtin.mergeHi
section
variable {O:KeyOrd} (κ:Keyed→O.α)
structure MJ (L ro a b:List Keyed):Prop where
 perm:(a++b++ro).Perm L
 so:Srd κ ro
 sa:Srd κ a
 sb:Srd κ b
 oa:∀ x∈a,∀ y∈ro,O.kle (κ x) (κ y)
 ob:∀ x∈b,∀ y∈ro,O.kle (κ x) (κ y)
variable {κ}
theorem MJ.swap {L out a b:List Keyed} (m:MJ κ L out a b):MJ κ L out b a :=
 ⟨(List.Perm.append_right out List.perm_append_comm).trans m.perm,m.so,m.sb,m.sa,m.ob,m.oa⟩
theorem MJ.takeB {L ro c a b:List Keyed} (m:MJ κ L ro a (b++c)) (h:∀ x∈a,∀ y∈c,O.kle (κ x) (κ y)):MJ κ L (c++ro) a b:=by
 obtain ⟨s1,s2,s3⟩:=Srd.app.mp m.sb
 refine ⟨by have:=m.perm; simpa [List.append_assoc] using this,Srd.app.mpr ⟨s2,m.so,fun x hx y hy=>m.ob x (List.mem_append_right _ hx) y hy⟩,m.sa,s1,fun x hx y hy=>?_,fun x hx y hy=>?_⟩
 ·rcases List.mem_append.mp hy with hy | hy
  ·exact h x hx y hy
  ·exact m.oa x hx y hy
 ·rcases List.mem_append.mp hy with hy | hy
  ·exact s3 x hx y hy
  ·exact m.ob x (List.mem_append_left _ hx) y hy
theorem MJ.takeA {L ro c a b:List Keyed} (m:MJ κ L ro (a++c) b) (h:∀ x∈b,∀ y∈c,O.kle (κ x) (κ y)):MJ κ L (c++ro) a b:=(m.swap.takeB h).swap
theorem MJ.endA {L ro a b:List Keyed} (m:MJ κ L ro a b) (h:∀ x∈a,∀ y∈b,O.kle (κ x) (κ y)):Srd κ (a++b++ro)∧(a++b++ro).Perm L :=
 ⟨Srd.app.mpr ⟨Srd.app.mpr ⟨m.sa,m.sb,h⟩,m.so,fun x hx y hy=>by
  rcases List.mem_append.mp hx with hx | hx
  ·exact m.oa x hx y hy
  ·exact m.ob x hx y hy⟩,m.perm⟩
theorem aHR {a:Array Keyed} {j:Nat} (h:j + 1≤a.size):∃ x,a[j]?=some x∧a.toList.take (j + 1)=a.toList.take j++[x]∧x∈a :=
 ⟨a[j],Array.getElem?_eq_getElem (by lia),by
  rw [List.take_add_one,List.getElem?_eq_getElem (show j < a.toList.length by simpa using (show j < a.size by lia))]
  simp,Array.getElem_mem (by lia)⟩
theorem aIb {a:Array Keyed} {i:Nat} (h1:1≤i) (h:i≤a.size):∃ x,a[i - 1]?=some x∧a.toList.take i=a.toList.take (i - 1)++[x]∧x∈a:=by
 obtain ⟨j,rfl⟩:∃ j,i=j + 1:=⟨i - 1,by lia⟩
 exact aHR h
theorem ya {a:Array Keyed} {i:Nat} {P:Prop} (h1:1≤i) (h:i≤a.size) (k:∀ x,a[i - 1]?=some x→a.toList.take i=a.toList.take (i - 1)++[x]→x∈a→P):P:=by
 obtain ⟨x,g1,g2,g3⟩:=aIb h1 h
 exact k x g1 g2 g3
theorem jm (a:Array Keyed):a.toList.take a.size=a.toList:=List.take_of_length_le (by simp)
theorem aAk (a:Array Keyed) (i:Nat):(a.extract 0 i).toList=a.toList.take i:=by
 rw [yd,List.drop_zero,Nat.sub_zero]
theorem aEd {a:Array Keyed} {i j:Nat} (h:i≤j):a.toList.take j=a.toList.take i++(a.extract i j).toList:=by
 rw [yd,← List.take_add]
 congr 1; lia
theorem ym {a:Array Keyed} {i j:Nat} {x:Keyed} (h:x∈(a.extract i j).toList):∃ k,i≤k∧k < j∧a[k]?=some x:=by
 rcases Nat.lt_or_ge i j with c | c
 ·have e:j=i + (j - i):=by lia
  rw [e] at h
  obtain ⟨k,k1,k2⟩:=qg h
  exact ⟨i + k,by lia,by lia,k2⟩
 ·rw [yd,show j - i=0 by lia,List.take_zero] at h
  cases h
theorem yC {a:Array Keyed} {i:Nat} {x:Keyed} (h:x∈a.toList.take i):∃ j,j < i∧a[j]?=some x:=by
 obtain ⟨j,hj⟩:=List.mem_iff_getElem?.mp h
 rw [List.getElem?_take] at hj
 split at hj
 ·rename_i c
  exact ⟨j,c,by simpa using hj⟩
 ·cases hj
theorem MJ.done {L:List Keyed} {out a b:Array Keyed} {na nb:Nat} (m:MJ κ L out.toList.reverse (a.toList.take na) (b.toList.take nb)) (h:nb=0∨na=0):Gd κ L (a.extract 0 na++b.extract 0 nb++out.reverse):=by
 unfold Gd
 rw [Array.toList_append,Array.toList_append,aAk,aAk,Array.toList_reverse]
 refine m.endA fun x hx y hy=>?_
 rcases h with h | h
 ·rw [h,List.take_zero] at hy; cases hy
 ·rw [h,List.take_zero] at hx; cases hx
theorem MJ.first {L:List Keyed} {out a b:Array Keyed} {na nb:Nat} (m:MJ κ L out.toList.reverse (a.toList.take na) (b.toList.take nb)) (h:nb=1) (h1:∀ x∈a,∀ y,b[0]?=some y→O.kle (κ y) (κ x)):Gd κ L (b.extract 0 nb++a.extract 0 na++out.reverse):=by
 unfold Gd
 rw [Array.toList_append,Array.toList_append,aAk,aAk,Array.toList_reverse]
 refine m.swap.endA fun y hy x hx=>?_
 obtain ⟨j,j1,j2⟩:=yC hx
 obtain ⟨k,k1,k2⟩:=yC hy
 exact h1 x (Array.mem_of_getElem? j2) y (by rw [← k2]; congr 1; lia)
theorem MJ.pushA {L:List Keyed} {out a b:Array Keyed} {na nb:Nat} {x:Keyed} (m:MJ κ L out.toList.reverse (a.toList.take na) (b.toList.take nb)) (hx:a.toList.take na=a.toList.take (na - 1)++[x]) (h:∀ z∈b.toList.take nb,O.kle (κ z) (κ x)):MJ κ L (out.push x).toList.reverse (a.toList.take (na - 1)) (b.toList.take nb):=by
 rw [Array.toList_push,List.reverse_append]
 rw [hx] at m
 exact m.takeA (c:=[x]) (fun z hz y hy=>by rw [List.mem_singleton.mp hy]; exact h z hz)
theorem MJ.pushB {L:List Keyed} {out a b:Array Keyed} {na nb:Nat} {x:Keyed} (m:MJ κ L out.toList.reverse (a.toList.take na) (b.toList.take nb)) (hx:b.toList.take nb=b.toList.take (nb - 1)++[x]) (h:∀ z∈a.toList.take na,O.kle (κ z) (κ x)):MJ κ L (out.push x).toList.reverse (a.toList.take na) (b.toList.take (nb - 1)):=by
 rw [Array.toList_push,List.reverse_append]
 rw [hx] at m
 exact m.takeB (c:=[x]) (fun z hz y hy=>by rw [List.mem_singleton.mp hy]; exact h z hz)
theorem aCU (out c:Array Keyed):(out++c.reverse).toList.reverse=c.toList++out.toList.reverse:=by
 rw [Array.toList_append,List.reverse_append,Array.toList_reverse,List.reverse_reverse]
theorem MJ.chunkA {L:List Keyed} {out a b:Array Keyed} {na nb k:Nat} (m:MJ κ L out.toList.reverse (a.toList.take na) (b.toList.take nb)) (hk:k≤na) (h:∀ x∈b.toList.take nb,∀ y∈(a.extract k na).toList,O.kle (κ x) (κ y)):MJ κ L (out++(a.extract k na).reverse).toList.reverse (a.toList.take k) (b.toList.take nb):=by
 rw [aCU]
 rw [aEd (a:=a) hk] at m
 exact m.takeA h
theorem MJ.chunkB {L:List Keyed} {out a b:Array Keyed} {na nb k:Nat} (m:MJ κ L out.toList.reverse (a.toList.take na) (b.toList.take nb)) (hk:k≤nb) (h:∀ x∈a.toList.take na,∀ y∈(b.extract k nb).toList,O.kle (κ x) (κ y)):MJ κ L (out++(b.extract k nb).reverse).toList.reverse (a.toList.take na) (b.toList.take k):=by
 rw [aCU]
 rw [aEd (a:=b) hk] at m
 exact m.takeB h
theorem MJ.lastA {L ro b:List Keyed} {a:Array Keyed} {na:Nat} {x:Keyed} (m:MJ κ L ro (a.toList.take na) b) (hx:a.toList.take na=a.toList.take (na - 1)++[x]):∀ z∈a.toList.take na,O.kle (κ z) (κ x):=by
 have:=m.sa
 rw [hx] at this ⊢
 intro z hz
 rcases List.mem_append.mp hz with hz | hz
 ·exact (Srd.app.mp this).2.2 z hz x (List.mem_singleton.mpr rfl)
 ·rw [List.mem_singleton.mp hz]; exact KeyOrd.kle_refl _
theorem MJ.lastB {L ro a:List Keyed} {b:Array Keyed} {nb:Nat} {x:Keyed} (m:MJ κ L ro a (b.toList.take nb)) (hx:b.toList.take nb=b.toList.take (nb - 1)++[x]):∀ z∈b.toList.take nb,O.kle (κ z) (κ x):=m.swap.lastA hx
theorem MJ.size {L:List Keyed} {out a b:Array Keyed} {na nb:Nat} (m:MJ κ L out.toList.reverse (a.toList.take na) (b.toList.take nb)):min na a.size + min nb b.size + out.size=L.length:=by
 have:=m.perm.length_eq
 simp only [List.length_append,List.length_take,List.length_reverse,Array.length_toList] at this
 exact this
end
section
variable {prog:Program} {w:World} {A:Around} {E:Value→Shared→Prop} {s:Shared} {O:KeyOrd} {κ:Keyed→O.α} {ok:Keyed→Prop} {kd:SortKind}
theorem aF9 (C:Cm (model prog w) A E s κ ok kd) {st:SortSt} (hs:Sx kd st) {a b:Array Keyed} {Q:Array Keyed→SortSt→Prop} (oka:∀ x∈a,ok x) (okb:∀ x∈b,ok x) (sa:Srd κ a.toList) (sb:Srd κ b.toList) (ha:1≤a.size) (hb:1≤b.size)
  (h1:∀ x∈a,∀ y,b[0]?=some y→O.kle (κ y) (κ x)) (h2:∀ y∈b,∀ x,a[a.size - 1]?=some x→O.kle (κ y) (κ x))
  (q:∀ out g,Gd κ (a.toList++b.toList) out→Q out (yY st g)):wpS (model prog w) A E s (aHQ a b) Q st:=by
 refine wpS_bind (wpS_lift (wpAny_rule ⟨rfl,?_⟩))
 dsimp only
 refine ya (a:=a) (i:=a.size) (by lia) (Nat.le_refl _) fun y0 ey0 dy0 my0=>?_
 refine wpS_bind (zL ey0 ?_)
 have M0:MJ κ (a.toList++b.toList) (#[]:Array Keyed).toList.reverse (a.toList.take a.size) (b.toList.take b.size):=⟨by rw [jm,jm]; simp,List.Pairwise.nil,by rw [jm]; exact sa,by rw [jm]; exact sb,by simp,by simp⟩
 have M1:MJ κ (a.toList++b.toList) (#[y0]:Array Keyed).toList.reverse (a.toList.take (a.size - 1)) (b.toList.take b.size):=M0.pushA dy0 (fun x hx=>by
  obtain ⟨j,_,j2⟩:=yC hx
  exact h2 x (Array.mem_of_getElem? j2) y0 ey0)
 by_cases c1:a.size - 1=0
 ·refine zJ ((beq_iff_eq.mpr c1)) ?_
  exact wpS_pure (q _ (gallopOf st) (M1.done (.inr c1)))
 refine zK ((fun z=>c1 (beq_iff_eq.mp z))) ?_
 by_cases c2:b.size=1
 ·refine zJ ((beq_iff_eq.mpr c2)) ?_
  exact wpS_pure (q _ (gallopOf st) (M1.first c2 h1))
 refine zK ((fun z=>c2 (beq_iff_eq.mp z))) ?_
 refine wpS_bind (wpS_get ?_)
 refine wpS_bind (wpS_mono (wpS_forRange (fun x c st'=>∃ na nb out mg,c=(none,na,nb,out,mg)∧(∃ g,st'=yY st g)∧MJ κ (a.toList++b.toList) out.toList.reverse (a.toList.take na) (b.toList.take nb)∧(1≤na∧na≤a.size∧2≤nb∧nb≤b.size)∧x + 1≤out.size)
  (Q:=fun c st'=>(∃ g,st'=yY st g)∧∃ r,c.1=some r∧Gd κ (a.toList++b.toList) r) ?step ?fin ⟨_,_,_,_,rfl,⟨gallopOf st,rfl⟩,M1,⟨by lia,by lia,by lia,by lia⟩,by simp⟩) ?post)
 case fin =>
  rintro c st' ⟨na,nb,out,mg,rfl,⟨g,rfl⟩,m,⟨i1,i2,i3,i4⟩,sz⟩
  exfalso
  have:=m.size
  rw [List.length_append,Array.length_toList,Array.length_toList] at this
  lia
 case post =>
  rintro ⟨c1,c2⟩ st' ⟨⟨g,rfl⟩,r,e,gd⟩
  cases e
  exact wpS_pure (q _ g gd)
 case step =>
  rintro x c st' _ hx ⟨na,nb,out,mg,rfl,⟨g,rfl⟩,m,⟨i1,i2,i3,i4⟩,sz⟩
  dsimp only
  refine wpS_bind (wpS_mono (wpS_forRange (fun y c st'=>∃ na nb out ac bc,c=(none,na,nb,out,ac,bc)∧st'=yY st g∧MJ κ (a.toList++b.toList) out.toList.reverse (a.toList.take na) (b.toList.take nb)∧(1≤na∧na≤a.size∧2≤nb∧nb≤b.size)∧x + 1 + y≤out.size)
   (Q:=fun c st'=>st'=yY st g∧((∃ r,c.1=some r∧Gd κ (a.toList++b.toList) r)∨∃ na nb out ac bc,c=(none,na,nb,out,ac,bc)∧MJ κ (a.toList++b.toList) out.toList.reverse (a.toList.take na) (b.toList.take nb)∧(1≤na∧na≤a.size∧2≤nb∧nb≤b.size)∧x + 2≤out.size)) ?step2 ?fin2 ⟨na,nb,out,0,0,rfl,rfl,m,⟨i1,i2,i3,i4⟩,by lia⟩) ?post2)
  case fin2 =>
   rintro c st' ⟨na,nb,out,ac,bc,rfl,rfl,m,i,sz⟩
   exact ⟨rfl,.inr ⟨_,_,_,_,_,rfl,m,i,by lia⟩⟩
  case step2 =>
   rintro y c st' _ hy ⟨na,nb,out,ac,bc,rfl,rfl,m,⟨i1,i2,i3,i4⟩,sz⟩
   dsimp only
   refine ya (a:=b) (i:=nb) (by lia) (by lia) fun yb eyb dyb myb=>?_
   refine ya (a:=a) (i:=na) (by lia) (by lia) fun xa exa dxa mxa=>?_
   refine wpS_bind (zL eyb (wpS_bind (zL exa (wpS_bind (C.lt hs.1 hs.2 (okb _ myb) (oka _ mxa) ?_)))))
   dsimp only
   cases e:O.blt (κ yb) (κ xa) with
   | true =>
    refine zJ (rfl) ?_
    refine wpS_bind (zL exa ?_)
    have m2:=m.pushA dxa (fun z hz=>KeyOrd.kle_trans (m.lastB dyb z hz) (KeyOrd.kle_of_klt e))
    by_cases c:na - 1=0
    ·refine zJ ((beq_iff_eq.mpr c)) ?_
     exact wpS_pure ⟨rfl,.inl ⟨_,rfl,m2.done (.inr c)⟩⟩
    refine zK ((fun z=>c (beq_iff_eq.mp z))) ?_
    refine zq (fun _=>?_) (fun _=>?_)
    ·exact wpS_pure ⟨rfl,.inr ⟨_,_,_,_,_,rfl,m2,⟨by lia,by lia,i3,i4⟩,by rw [Array.size_push]; lia⟩⟩
    ·exact wpS_pure ⟨_,_,_,_,_,rfl,rfl,m2,⟨by lia,by lia,i3,i4⟩,by rw [Array.size_push]; lia⟩
   | false =>
    refine zK (Bool.false_ne_true) ?_
    refine wpS_bind (zL eyb ?_)
    have m2:=m.pushB dyb (fun z hz=>KeyOrd.kle_trans (m.lastA dxa z hz) e)
    by_cases c:nb - 1=1
    ·refine zJ ((beq_iff_eq.mpr c)) ?_
     exact wpS_pure ⟨rfl,.inl ⟨_,rfl,m2.first c h1⟩⟩
    refine zK ((fun z=>c (beq_iff_eq.mp z))) ?_
    refine zq (fun _=>?_) (fun _=>?_)
    ·exact wpS_pure ⟨rfl,.inr ⟨_,_,_,_,_,rfl,m2,⟨i1,i2,by lia,by lia⟩,by rw [Array.size_push]; lia⟩⟩
    ·exact wpS_pure ⟨_,_,_,_,_,rfl,rfl,m2,⟨i1,i2,by lia,by lia⟩,by rw [Array.size_push]; lia⟩
  case post2 =>
   rintro c st' ⟨rfl,hq⟩
   rcases hq with ⟨r,e,gd⟩ | ⟨na,nb,out,ac,bc,rfl,m,⟨i1,i2,i3,i4⟩,sz⟩
   ·obtain ⟨c1,c2⟩:=c
    cases e
    exact wpS_pure ⟨⟨g,rfl⟩,r,rfl,gd⟩
   dsimp only
   refine wpS_bind (wpS_lift (wpAny_rule ⟨rfl,?_⟩))
   refine wpS_bind (wpS_mono (wpS_forRange (fun _ c st'=>∃ na nb out mg ac bc,c=(none,na,nb,out,mg,ac,bc)∧(∃ g,st'=yY st g)∧MJ κ (a.toList++b.toList) out.toList.reverse (a.toList.take na) (b.toList.take nb)∧1≤na∧na≤a.size∧2≤nb∧nb≤b.size∧x + 2≤out.size)
    (Q:=fun c st'=>(∃ g,st'=yY st g)∧((∃ r,c.1=some r∧Gd κ (a.toList++b.toList) r)∨∃ na nb out mg ac bc,c=(none,na,nb,out,mg,ac,bc)∧MJ κ (a.toList++b.toList) out.toList.reverse (a.toList.take na) (b.toList.take nb)∧1≤na∧na≤a.size∧2≤nb∧nb≤b.size∧x + 2≤out.size)) ?step3 ?fin3 ⟨_,_,_,_,_,_,rfl,⟨g,rfl⟩,m,i1,i2,i3,i4,sz⟩) ?post3)
   case fin3 =>
    rintro c st' ⟨na,nb,out,mg,ac,bc,rfl,hg,m,i⟩
    exact ⟨hg,.inr ⟨_,_,_,_,_,_,rfl,m,i⟩⟩
   case post3 =>
    rintro c st' ⟨⟨g,rfl⟩,hq⟩
    rcases hq with ⟨r,e,gd⟩ | ⟨na,nb,out,mg,ac,bc,rfl,m,i1,i2,i3,i4,sz⟩
    ·obtain ⟨c1,c2⟩:=c
     cases e
     exact wpS_pure ⟨⟨g,rfl⟩,r,rfl,gd⟩
    dsimp only
    exact wpS_bind (wpS_modify (wpS_pure ⟨_,_,_,_,rfl,⟨_,rfl⟩,m,⟨i1,i2,i3,i4⟩,by lia⟩))
   case step3 =>
    rintro y c st' _ hy ⟨na,nb,out,mg,ac,bc,rfl,⟨g,rfl⟩,m,i1,i2,i3,i4,sz⟩
    dsimp only
    by_cases cm:mg > 1
    ·refine zJ (cm) ?_
     refine wpS_bind (wpS_modify ?_)
     refine ya (a:=b) (i:=nb) (by lia) (by lia) fun yb eyb dyb myb=>?_
     refine wpS_bind (zL eyb ?_)
     refine wpS_bind (jE C (arr:=a) (base:=0) (n:=na) (hint:=na - 1) hs.gal.gal (okb _ myb) oka (by lia) (by lia) (fun i j x y _ c2 _ ex ey=>sa.get c2 ex ey) fun k hk le gt=>?_)
     dsimp only
     have ng:∀ x∈a.toList.take k,O.kle (κ x) (κ yb):=fun x hx=>by
      obtain ⟨j,j1,j2⟩:=yC hx
      exact le j x j1 (by rw [Nat.zero_add]; exact j2)
     by_cases ck:na - k > 0
     ·refine zJ (ck) ?_
      have m2:=m.chunkA (k:=k) hk (fun x hx z hz=>by
       obtain ⟨j,j1,j2,j3⟩:=ym hz
       exact KeyOrd.kle_trans (m.lastB dyb x hx) (KeyOrd.kle_of_klt (gt j z j1 j2 (by rw [Nat.zero_add]; exact j3))))
      by_cases c1:k=0
      ·refine zJ ((beq_iff_eq.mpr c1)) ?_
       exact wpS_pure ⟨⟨_,rfl⟩,.inl ⟨_,rfl,m2.done (.inr c1)⟩⟩
      refine zK ((fun z=>c1 (beq_iff_eq.mp z))) ?_
      refine wpS_bind (zL eyb ?_)
      have m3:=m2.pushB dyb (ng)
      by_cases c3:nb - 1=1
      ·refine zJ ((beq_iff_eq.mpr c3)) ?_
       exact wpS_pure ⟨⟨_,rfl⟩,.inl ⟨_,rfl,m3.first c3 h1⟩⟩
      refine zK ((fun z=>c3 (beq_iff_eq.mp z))) ?_
      refine ya (a:=a) (i:=k) (by lia) (by lia) fun xa exa dxa mxa=>?_
      refine wpS_bind (zL exa ?_)
      refine wpS_bind (qB C (arr:=b) (base:=0) (n:=nb - 1) (hint:=nb - 1 - 1) hs.gal.gal (oka _ mxa) okb (by lia) (by lia) (fun i j x y _ c2 _ ex ey=>sb.get c2 ex ey) fun k2 hk2 lt2 ge2=>?_)
      dsimp only
      by_cases ck2:nb - 1 - k2 > 0
      ·refine zJ (ck2) ?_
       have m4:=m3.chunkB (k:=k2) hk2 (fun x hx z hz=>by
        obtain ⟨j,j1,j2,j3⟩:=ym hz
        exact KeyOrd.kle_trans (m3.lastA dxa x hx) (ge2 j z j1 j2 (by rw [Nat.zero_add]; exact j3)))
       by_cases c4:k2=1
       ·refine zJ ((beq_iff_eq.mpr c4)) ?_
        exact wpS_pure ⟨⟨_,rfl⟩,.inl ⟨_,rfl,m4.first c4 h1⟩⟩
       refine zK ((fun z=>c4 (beq_iff_eq.mp z))) ?_
       by_cases c6:k2=0
       ·refine zJ ((beq_iff_eq.mpr c6)) ?_
        exact wpS_pure ⟨⟨_,rfl⟩,.inl ⟨_,rfl,m4.done (.inl c6)⟩⟩
       refine zK ((fun z=>c6 (beq_iff_eq.mp z))) ?_
       refine wpS_bind (zL exa ?_)
       have m5:=m4.pushA dxa (fun z hz=>by
        obtain ⟨j,j1,j2⟩:=yC hz
        exact KeyOrd.kle_of_klt (lt2 j z j1 (by rw [Nat.zero_add]; exact j2)))
       by_cases c5:k - 1=0
       ·refine zJ ((beq_iff_eq.mpr c5)) ?_
        exact wpS_pure ⟨⟨_,rfl⟩,.inl ⟨_,rfl,m5.done (.inr c5)⟩⟩
       refine zK ((fun z=>c5 (beq_iff_eq.mp z))) ?_
       refine zq (fun _=>?_) (fun _=>?_)
       ·exact wpS_pure ⟨⟨_,rfl⟩,.inr ⟨_,_,_,_,_,_,rfl,m5,by lia,by lia,by lia,by lia,by simp only [Array.size_push,Array.size_append]; lia⟩⟩
       ·exact wpS_pure ⟨_,_,_,_,_,_,rfl,⟨_,rfl⟩,m5,by lia,by lia,by lia,by lia,by simp only [Array.size_push,Array.size_append]; lia⟩
      ·refine zK (ck2) ?_
       refine wpS_bind (zL exa ?_)
       have m5:=m3.pushA dxa (fun z hz=>by
        obtain ⟨j,j1,j2⟩:=yC hz
        exact KeyOrd.kle_of_klt (lt2 j z (by lia) (by rw [Nat.zero_add]; exact j2)))
       by_cases c5:k - 1=0
       ·refine zJ ((beq_iff_eq.mpr c5)) ?_
        exact wpS_pure ⟨⟨_,rfl⟩,.inl ⟨_,rfl,m5.done (.inr c5)⟩⟩
       refine zK ((fun z=>c5 (beq_iff_eq.mp z))) ?_
       refine zq (fun _=>?_) (fun _=>?_)
       ·exact wpS_pure ⟨⟨_,rfl⟩,.inr ⟨_,_,_,_,_,_,rfl,m5,by lia,by lia,by lia,by lia,by simp only [Array.size_push,Array.size_append]; lia⟩⟩
       ·exact wpS_pure ⟨_,_,_,_,_,_,rfl,⟨_,rfl⟩,m5,by lia,by lia,by lia,by lia,by simp only [Array.size_push,Array.size_append]; lia⟩
     ·refine zK (ck) ?_
      have k0:k=na:=by lia
      rw [k0] at ng
      refine wpS_bind (zL eyb ?_)
      have m3:=m.pushB dyb (ng)
      by_cases c3:nb - 1=1
      ·refine zJ ((beq_iff_eq.mpr c3)) ?_
       exact wpS_pure ⟨⟨_,rfl⟩,.inl ⟨_,rfl,m3.first c3 h1⟩⟩
      refine zK ((fun z=>c3 (beq_iff_eq.mp z))) ?_
      refine ya (a:=a) (i:=na) (by lia) (by lia) fun xa exa dxa mxa=>?_
      refine wpS_bind (zL exa ?_)
      refine wpS_bind (qB C (arr:=b) (base:=0) (n:=nb - 1) (hint:=nb - 1 - 1) hs.gal.gal (oka _ mxa) okb (by lia) (by lia) (fun i j x y _ c2 _ ex ey=>sb.get c2 ex ey) fun k2 hk2 lt2 ge2=>?_)
      dsimp only
      by_cases ck2:nb - 1 - k2 > 0
      ·refine zJ (ck2) ?_
       have m4:=m3.chunkB (k:=k2) hk2 (fun x hx z hz=>by
        obtain ⟨j,j1,j2,j3⟩:=ym hz
        exact KeyOrd.kle_trans (m3.lastA dxa x hx) (ge2 j z j1 j2 (by rw [Nat.zero_add]; exact j3)))
       by_cases c4:k2=1
       ·refine zJ ((beq_iff_eq.mpr c4)) ?_
        exact wpS_pure ⟨⟨_,rfl⟩,.inl ⟨_,rfl,m4.first c4 h1⟩⟩
       refine zK ((fun z=>c4 (beq_iff_eq.mp z))) ?_
       by_cases c6:k2=0
       ·refine zJ ((beq_iff_eq.mpr c6)) ?_
        exact wpS_pure ⟨⟨_,rfl⟩,.inl ⟨_,rfl,m4.done (.inl c6)⟩⟩
       refine zK ((fun z=>c6 (beq_iff_eq.mp z))) ?_
       refine wpS_bind (zL exa ?_)
       have m5:=m4.pushA dxa (fun z hz=>by
        obtain ⟨j,j1,j2⟩:=yC hz
        exact KeyOrd.kle_of_klt (lt2 j z j1 (by rw [Nat.zero_add]; exact j2)))
       by_cases c5:na - 1=0
       ·refine zJ ((beq_iff_eq.mpr c5)) ?_
        exact wpS_pure ⟨⟨_,rfl⟩,.inl ⟨_,rfl,m5.done (.inr c5)⟩⟩
       refine zK ((fun z=>c5 (beq_iff_eq.mp z))) ?_
       refine zq (fun _=>?_) (fun _=>?_)
       ·exact wpS_pure ⟨⟨_,rfl⟩,.inr ⟨_,_,_,_,_,_,rfl,m5,by lia,by lia,by lia,by lia,by simp only [Array.size_push,Array.size_append]; lia⟩⟩
       ·exact wpS_pure ⟨_,_,_,_,_,_,rfl,⟨_,rfl⟩,m5,by lia,by lia,by lia,by lia,by simp only [Array.size_push,Array.size_append]; lia⟩
      ·refine zK (ck2) ?_
       refine wpS_bind (zL exa ?_)
       have m5:=m3.pushA dxa (fun z hz=>by
        obtain ⟨j,j1,j2⟩:=yC hz
        exact KeyOrd.kle_of_klt (lt2 j z (by lia) (by rw [Nat.zero_add]; exact j2)))
       by_cases c5:na - 1=0
       ·refine zJ ((beq_iff_eq.mpr c5)) ?_
        exact wpS_pure ⟨⟨_,rfl⟩,.inl ⟨_,rfl,m5.done (.inr c5)⟩⟩
       refine zK ((fun z=>c5 (beq_iff_eq.mp z))) ?_
       refine zq (fun _=>?_) (fun _=>?_)
       ·exact wpS_pure ⟨⟨_,rfl⟩,.inr ⟨_,_,_,_,_,_,rfl,m5,by lia,by lia,by lia,by lia,by simp only [Array.size_push,Array.size_append]; lia⟩⟩
       ·exact wpS_pure ⟨_,_,_,_,_,_,rfl,⟨_,rfl⟩,m5,by lia,by lia,by lia,by lia,by simp only [Array.size_push,Array.size_append]; lia⟩
    ·refine zK (cm) ?_
     refine wpS_bind (wpS_modify ?_)
     refine ya (a:=b) (i:=nb) (by lia) (by lia) fun yb eyb dyb myb=>?_
     refine wpS_bind (zL eyb ?_)
     refine wpS_bind (jE C (arr:=a) (base:=0) (n:=na) (hint:=na - 1) hs.gal.gal (okb _ myb) oka (by lia) (by lia) (fun i j x y _ c2 _ ex ey=>sa.get c2 ex ey) fun k hk le gt=>?_)
     dsimp only
     have ng:∀ x∈a.toList.take k,O.kle (κ x) (κ yb):=fun x hx=>by
      obtain ⟨j,j1,j2⟩:=yC hx
      exact le j x j1 (by rw [Nat.zero_add]; exact j2)
     by_cases ck:na - k > 0
     ·refine zJ (ck) ?_
      have m2:=m.chunkA (k:=k) hk (fun x hx z hz=>by
       obtain ⟨j,j1,j2,j3⟩:=ym hz
       exact KeyOrd.kle_trans (m.lastB dyb x hx) (KeyOrd.kle_of_klt (gt j z j1 j2 (by rw [Nat.zero_add]; exact j3))))
      by_cases c1:k=0
      ·refine zJ ((beq_iff_eq.mpr c1)) ?_
       exact wpS_pure ⟨⟨_,rfl⟩,.inl ⟨_,rfl,m2.done (.inr c1)⟩⟩
      refine zK ((fun z=>c1 (beq_iff_eq.mp z))) ?_
      refine wpS_bind (zL eyb ?_)
      have m3:=m2.pushB dyb (ng)
      by_cases c3:nb - 1=1
      ·refine zJ ((beq_iff_eq.mpr c3)) ?_
       exact wpS_pure ⟨⟨_,rfl⟩,.inl ⟨_,rfl,m3.first c3 h1⟩⟩
      refine zK ((fun z=>c3 (beq_iff_eq.mp z))) ?_
      refine ya (a:=a) (i:=k) (by lia) (by lia) fun xa exa dxa mxa=>?_
      refine wpS_bind (zL exa ?_)
      refine wpS_bind (qB C (arr:=b) (base:=0) (n:=nb - 1) (hint:=nb - 1 - 1) hs.gal.gal (oka _ mxa) okb (by lia) (by lia) (fun i j x y _ c2 _ ex ey=>sb.get c2 ex ey) fun k2 hk2 lt2 ge2=>?_)
      dsimp only
      by_cases ck2:nb - 1 - k2 > 0
      ·refine zJ (ck2) ?_
       have m4:=m3.chunkB (k:=k2) hk2 (fun x hx z hz=>by
        obtain ⟨j,j1,j2,j3⟩:=ym hz
        exact KeyOrd.kle_trans (m3.lastA dxa x hx) (ge2 j z j1 j2 (by rw [Nat.zero_add]; exact j3)))
       by_cases c4:k2=1
       ·refine zJ ((beq_iff_eq.mpr c4)) ?_
        exact wpS_pure ⟨⟨_,rfl⟩,.inl ⟨_,rfl,m4.first c4 h1⟩⟩
       refine zK ((fun z=>c4 (beq_iff_eq.mp z))) ?_
       by_cases c6:k2=0
       ·refine zJ ((beq_iff_eq.mpr c6)) ?_
        exact wpS_pure ⟨⟨_,rfl⟩,.inl ⟨_,rfl,m4.done (.inl c6)⟩⟩
       refine zK ((fun z=>c6 (beq_iff_eq.mp z))) ?_
       refine wpS_bind (zL exa ?_)
       have m5:=m4.pushA dxa (fun z hz=>by
        obtain ⟨j,j1,j2⟩:=yC hz
        exact KeyOrd.kle_of_klt (lt2 j z j1 (by rw [Nat.zero_add]; exact j2)))
       by_cases c5:k - 1=0
       ·refine zJ ((beq_iff_eq.mpr c5)) ?_
        exact wpS_pure ⟨⟨_,rfl⟩,.inl ⟨_,rfl,m5.done (.inr c5)⟩⟩
       refine zK ((fun z=>c5 (beq_iff_eq.mp z))) ?_
       refine zq (fun _=>?_) (fun _=>?_)
       ·exact wpS_pure ⟨⟨_,rfl⟩,.inr ⟨_,_,_,_,_,_,rfl,m5,by lia,by lia,by lia,by lia,by simp only [Array.size_push,Array.size_append]; lia⟩⟩
       ·exact wpS_pure ⟨_,_,_,_,_,_,rfl,⟨_,rfl⟩,m5,by lia,by lia,by lia,by lia,by simp only [Array.size_push,Array.size_append]; lia⟩
      ·refine zK (ck2) ?_
       refine wpS_bind (zL exa ?_)
       have m5:=m3.pushA dxa (fun z hz=>by
        obtain ⟨j,j1,j2⟩:=yC hz
        exact KeyOrd.kle_of_klt (lt2 j z (by lia) (by rw [Nat.zero_add]; exact j2)))
       by_cases c5:k - 1=0
       ·refine zJ ((beq_iff_eq.mpr c5)) ?_
        exact wpS_pure ⟨⟨_,rfl⟩,.inl ⟨_,rfl,m5.done (.inr c5)⟩⟩
       refine zK ((fun z=>c5 (beq_iff_eq.mp z))) ?_
       refine zq (fun _=>?_) (fun _=>?_)
       ·exact wpS_pure ⟨⟨_,rfl⟩,.inr ⟨_,_,_,_,_,_,rfl,m5,by lia,by lia,by lia,by lia,by simp only [Array.size_push,Array.size_append]; lia⟩⟩
       ·exact wpS_pure ⟨_,_,_,_,_,_,rfl,⟨_,rfl⟩,m5,by lia,by lia,by lia,by lia,by simp only [Array.size_push,Array.size_append]; lia⟩
     ·refine zK (ck) ?_
      have k0:k=na:=by lia
      rw [k0] at ng
      refine wpS_bind (zL eyb ?_)
      have m3:=m.pushB dyb (ng)
      by_cases c3:nb - 1=1
      ·refine zJ ((beq_iff_eq.mpr c3)) ?_
       exact wpS_pure ⟨⟨_,rfl⟩,.inl ⟨_,rfl,m3.first c3 h1⟩⟩
      refine zK ((fun z=>c3 (beq_iff_eq.mp z))) ?_
      refine ya (a:=a) (i:=na) (by lia) (by lia) fun xa exa dxa mxa=>?_
      refine wpS_bind (zL exa ?_)
      refine wpS_bind (qB C (arr:=b) (base:=0) (n:=nb - 1) (hint:=nb - 1 - 1) hs.gal.gal (oka _ mxa) okb (by lia) (by lia) (fun i j x y _ c2 _ ex ey=>sb.get c2 ex ey) fun k2 hk2 lt2 ge2=>?_)
      dsimp only
      by_cases ck2:nb - 1 - k2 > 0
      ·refine zJ (ck2) ?_
       have m4:=m3.chunkB (k:=k2) hk2 (fun x hx z hz=>by
        obtain ⟨j,j1,j2,j3⟩:=ym hz
        exact KeyOrd.kle_trans (m3.lastA dxa x hx) (ge2 j z j1 j2 (by rw [Nat.zero_add]; exact j3)))
       by_cases c4:k2=1
       ·refine zJ ((beq_iff_eq.mpr c4)) ?_
        exact wpS_pure ⟨⟨_,rfl⟩,.inl ⟨_,rfl,m4.first c4 h1⟩⟩
       refine zK ((fun z=>c4 (beq_iff_eq.mp z))) ?_
       by_cases c6:k2=0
       ·refine zJ ((beq_iff_eq.mpr c6)) ?_
        exact wpS_pure ⟨⟨_,rfl⟩,.inl ⟨_,rfl,m4.done (.inl c6)⟩⟩
       refine zK ((fun z=>c6 (beq_iff_eq.mp z))) ?_
       refine wpS_bind (zL exa ?_)
       have m5:=m4.pushA dxa (fun z hz=>by
        obtain ⟨j,j1,j2⟩:=yC hz
        exact KeyOrd.kle_of_klt (lt2 j z j1 (by rw [Nat.zero_add]; exact j2)))
       by_cases c5:na - 1=0
       ·refine zJ ((beq_iff_eq.mpr c5)) ?_
        exact wpS_pure ⟨⟨_,rfl⟩,.inl ⟨_,rfl,m5.done (.inr c5)⟩⟩
       refine zK ((fun z=>c5 (beq_iff_eq.mp z))) ?_
       refine zq (fun _=>?_) (fun _=>?_)
       ·exact wpS_pure ⟨⟨_,rfl⟩,.inr ⟨_,_,_,_,_,_,rfl,m5,by lia,by lia,by lia,by lia,by simp only [Array.size_push,Array.size_append]; lia⟩⟩
       ·exact wpS_pure ⟨_,_,_,_,_,_,rfl,⟨_,rfl⟩,m5,by lia,by lia,by lia,by lia,by simp only [Array.size_push,Array.size_append]; lia⟩
      ·refine zK (ck2) ?_
       refine wpS_bind (zL exa ?_)
       have m5:=m3.pushA dxa (fun z hz=>by
        obtain ⟨j,j1,j2⟩:=yC hz
        exact KeyOrd.kle_of_klt (lt2 j z (by lia) (by rw [Nat.zero_add]; exact j2)))
       by_cases c5:na - 1=0
       ·refine zJ ((beq_iff_eq.mpr c5)) ?_
        exact wpS_pure ⟨⟨_,rfl⟩,.inl ⟨_,rfl,m5.done (.inr c5)⟩⟩
       refine zK ((fun z=>c5 (beq_iff_eq.mp z))) ?_
       refine zq (fun _=>?_) (fun _=>?_)
       ·exact wpS_pure ⟨⟨_,rfl⟩,.inr ⟨_,_,_,_,_,_,rfl,m5,by lia,by lia,by lia,by lia,by simp only [Array.size_push,Array.size_append]; lia⟩⟩
       ·exact wpS_pure ⟨_,_,_,_,_,_,rfl,⟨_,rfl⟩,m5,by lia,by lia,by lia,by lia,by simp only [Array.size_push,Array.size_append]; lia⟩
end
end L2
namespace L2
open PySem PySem.Spec PyProof.Rows
section
variable {O:KeyOrd} {κ:Keyed→O.α}
noncomputable def SegU (κ:Keyed→O.α) (arr:Array Keyed) (lo hi:Nat):Prop:=∀ i j x y,lo≤i→i≤j→j < hi→arr[i]?=some x→arr[j]?=some y→O.kle (κ x) (κ y)
noncomputable def putAt (arr:Array Keyed) (sa:Nat) (l:List Keyed) (n:Nat):Array Keyed:=(l.zipIdx n).foldl (fun a (p,j)=>a.setIfInBounds (sa + j) p) arr
theorem aA5:∀ (l:List Keyed) (arr:Array Keyed) (sa n k:Nat),sa + n + l.length≤arr.size→(putAt arr sa l n)[k]?=if sa + n≤k∧k < sa + n + l.length then l[k - sa - n]? else arr[k]?
 | [],arr,sa,n,k,h=>by
  show arr[k]?=_
  rw [if_neg (by simp)]
 | x :: r,arr,sa,n,k,h=>by
  show (putAt (arr.setIfInBounds (sa + n) x) sa r (n + 1))[k]?=_
  rw [List.length_cons] at h ⊢
  rw [aA5 r _ sa (n + 1) k (by rw [Array.size_setIfInBounds]; lia),Array.getElem?_setIfInBounds]
  by_cases c:sa + n=k
  ·rw [if_neg (by lia),if_pos c,if_pos (by lia),if_pos (by lia),show k - sa - n=0 by lia]
   rfl
  ·rw [if_neg c]
   by_cases c2:sa + (n + 1)≤k∧k < sa + (n + 1) + r.length
   ·rw [if_pos c2,if_pos (by lia),show k - sa - n=(k - sa - (n + 1)) + 1 by lia,List.getElem?_cons_succ]
   ·rw [if_neg c2,if_neg (by lia)]
theorem aFA {l:List Keyed} {arr:Array Keyed} {sa:Nat} (h:sa + l.length≤arr.size):(putAt arr sa l 0).toList=arr.toList.take sa++(l++arr.toList.drop (sa + l.length)):=by
 apply List.ext_getElem?
 intro k
 have e:=aA5 l arr sa 0 k (by lia)
 have hl:(arr.toList.take sa).length=sa:=by
  rw [List.length_take]
  have:arr.toList.length=arr.size:=Array.length_toList
  lia
 rw [Array.getElem?_toList,e,List.getElem?_append,List.getElem?_append,hl,List.getElem?_take,List.getElem?_drop]
 by_cases c1:k < sa
 ·rw [if_neg (by lia),if_pos c1,if_pos c1,Array.getElem?_toList]
 ·rw [if_neg c1]
  by_cases c2:k - sa < l.length
  ·rw [if_pos (by lia),if_pos c2,show k - sa - 0=k - sa by lia]
  ·rw [if_neg (by lia),if_neg c2,show sa + l.length + (k - sa - l.length)=k by lia,Array.getElem?_toList]
theorem SegU.srd {arr:Array Keyed} {lo hi:Nat} (h:SegU κ arr lo hi) (hs:hi≤arr.size):Srd κ (arr.extract lo hi).toList:=by
 refine List.pairwise_iff_getElem.mpr fun i j l1 l2 hij=>?_
 rw [Array.length_toList,Array.size_extract] at l1 l2
 refine h (lo + i) (lo + j) _ _ (by lia) (by lia) (by lia) ?_ ?_
 ·rw [Array.getElem_toList,Array.getElem_extract]; exact Array.getElem?_eq_getElem _
 ·rw [Array.getElem_toList,Array.getElem_extract]; exact Array.getElem?_eq_getElem _
theorem SegU.mono {arr:Array Keyed} {lo hi lo' hi':Nat} (h:SegU κ arr lo hi) (h1:lo≤lo') (h2:hi'≤hi):SegU κ arr lo' hi':=fun i j x y a b c=>h i j x y (by lia) b (by lia)
theorem SegU.same {arr arr':Array Keyed} {lo hi:Nat} (h:SegU κ arr lo hi) (e:∀ i,lo≤i→i < hi→arr'[i]?=arr[i]?):SegU κ arr' lo hi:=fun i j x y a b c hx hy=>h i j x y a b c (by rw [← e i a (by lia)]; exact hx) (by rw [← e j (by lia) c]; exact hy)
theorem SegU.join {arr:Array Keyed} {lo mid hi:Nat} (h1:SegU κ arr lo mid) (h2:SegU κ arr mid hi) (h:∀ i j x y,lo≤i→i < mid→mid≤j→j < hi→arr[i]?=some x→arr[j]?=some y→O.kle (κ x) (κ y)):SegU κ arr lo hi:=fun i j x y a b c hx hy=>by
 rcases Nat.lt_or_ge j mid with d | d
 ·exact h1 i j x y a b d hx hy
 ·rcases Nat.lt_or_ge i mid with d2 | d2
  ·exact h i j x y a d2 d c hx hy
  ·exact h2 i j x y d2 b c hx hy
end
section
variable {prog:Program} {w:World} {A:Around} {E:Value→Shared→Prop} {s:Shared} {O:KeyOrd} {κ:Keyed→O.α} {ok:Keyed→Prop} {kd:SortKind}
theorem aIc {M:Model} {x:SortSt} {Q:PUnit→SortSt→Prop} {st:SortSt} (h:Q ⟨⟩ x):wpS M A E s (set x:StateT SortSt Sem PUnit) Q st:=by
 unfold wpS; rw [StateT.run_set]; exact wpAny_pure ⟨rfl,h⟩
theorem aHS {l:List Keyed} (h:Srd κ l) {i j:Nat} {x y:Keyed} (hij:i≤j) (hx:l[i]?=some x) (hy:l[j]?=some y):O.kle (κ x) (κ y):=by
 have:=Srd.get (κ:=κ) (a:=l.toArray) h hij (by simpa using hx) (by simpa using hy)
 exact this
structure Mg (κ:Keyed→O.α) (kd:SortKind) (arr:Array Keyed) (lo hi:Nat) (p:Array (Nat×Nat×Nat)) (st':SortSt):Prop where
 sx:Sx kd st'
 perm:(arrOf st').toList.Perm arr.toList
 pend:pendingOf st'=p
 out:∀ k,(k < lo∨hi≤k)→(arrOf st')[k]?=arr[k]?
 seg:SegU κ (arrOf st') lo hi
theorem aFB (C:Cm (model prog w) A E s κ ok kd) {st:SortSt} (hs:Sx kd st) (hok:∀ x∈arrOf st,ok x) {i sa na pw nb pw2:Nat} {Q:Bool→SortSt→Prop} (e1:(pendingOf st)[i]?=some (sa,na,pw)) (e2:(pendingOf st)[i + 1]?=some (sa + na,nb,pw2))
  (n1:1≤na) (n2:1≤nb) (hz:sa + na + nb≤(arrOf st).size) (s1:SegU κ (arrOf st) sa (sa + na)) (s2:SegU κ (arrOf st) (sa + na) (sa + na + nb))
  (q:∀ st',Mg κ kd (arrOf st) sa (sa + na + nb) (((pendingOf st).setIfInBounds i (sa,na + nb,pw)).eraseIdxIfInBounds (i + 1)) st'→Q true st'):wpS (model prog w) A E s (mergeAt' i) Q st:=by
 refine wpS_bind (wpS_get ?_)
 rw [e1,e2]
 dsimp only
 refine wpS_bind (aIc ?_)
 have hs1:Sx kd (setPending st (((pendingOf st).setIfInBounds i (sa,na + nb,pw)).eraseIdxIfInBounds (i + 1))):=hs
 generalize ((pendingOf st).setIfInBounds i (sa,na + nb,pw)).eraseIdxIfInBounds (i + 1)=P at q hs1 ⊢
 have eb:(arrOf st)[sa + na]?=some (arrOf st)[sa + na]:=Array.getElem?_eq_getElem (by lia)
 have okb:ok (arrOf st)[sa + na]:=hok _ (Array.getElem_mem (by lia))
 generalize (arrOf st)[sa + na]=xb at eb okb
 have el:(arrOf st)[sa + na - 1]?=some (arrOf st)[sa + na - 1]:=Array.getElem?_eq_getElem (by lia)
 have okl:ok (arrOf st)[sa + na - 1]:=hok _ (Array.getElem_mem (by lia))
 generalize (arrOf st)[sa + na - 1]=xl at el okl
 refine wpS_bind (zL eb ?_)
 refine wpS_bind (jE C (arr:=arrOf st) (base:=sa) (n:=na) (hint:=0) hs1 okb hok (by lia) (by lia) s1 fun k hk le gt=>?_)
 dsimp only
 have leA:∀ i x,sa≤i→i < sa + k→(arrOf st)[i]?=some x→O.kle (κ x) (κ xb):=fun i x a1 a2 ex=>le (i - sa) x (by lia) (by rw [show sa + (i - sa)=i by lia]; exact ex)
 have gtA:∀ i x,sa + k≤i→i < sa + na→(arrOf st)[i]?=some x→O.kle (κ xb) (κ x):=fun i x a1 a2 ex=>KeyOrd.kle_of_klt (gt (i - sa) x (by lia) (by lia) (by rw [show sa + (i - sa)=i by lia]; exact ex))
 by_cases c1:na - k=0
 ·rw [if_pos (beq_iff_eq.mpr c1)]
  refine wpS_pure (q _ ⟨hs1,List.Perm.refl _,rfl,fun _ _=>rfl,s1.join s2 fun i j x y a1 a2 a3 a4 ex ey=>?_⟩)
  exact KeyOrd.kle_trans (leA i x a1 (by lia) ex) (s2 (sa + na) j xb y (by lia) a3 a4 eb ey)
 rw [if_neg (fun z=>c1 (beq_iff_eq.mp z))]
 rw [show sa + k + (na - k) - 1=sa + na - 1 by lia]
 refine wpS_bind (zL el ?_)
 refine wpS_bind (qB C (arr:=arrOf st) (base:=sa + na) (n:=nb) (hint:=nb - 1) hs1 okl hok (by lia) (by lia) s2 fun k2 hk2 lt2 ge2=>?_)
 dsimp only
 have ltB:∀ i x,sa + na≤i→i < sa + na + k2→(arrOf st)[i]?=some x→O.kle (κ x) (κ xl):=fun i x a1 a2 ex=>KeyOrd.kle_of_klt (lt2 (i - (sa + na)) x (by lia) (by rw [show sa + na + (i - (sa + na))=i by lia]; exact ex))
 have geB:∀ i x,sa + na + k2≤i→i < sa + na + nb→(arrOf st)[i]?=some x→O.kle (κ xl) (κ x):=fun i x a1 a2 ex=>ge2 (i - (sa + na)) x (by lia) (by lia) (by rw [show sa + na + (i - (sa + na))=i by lia]; exact ex)
 clear le gt lt2 ge2
 by_cases c2:k2=0
 ·rw [if_pos (beq_iff_eq.mpr c2)]
  refine wpS_pure (q _ ⟨hs1,List.Perm.refl _,rfl,fun _ _=>rfl,s1.join s2 fun i j x y a1 a2 a3 a4 ex ey=>?_⟩)
  exact KeyOrd.kle_trans (s1 i (sa + na - 1) x xl a1 (by lia) (by lia) ex el) (geB j y (by lia) a4 ey)
 rw [if_neg (fun z=>c2 (beq_iff_eq.mp z))]
 obtain ⟨X,hX⟩:∃ X,X=(arrOf st).extract (sa + k) (sa + na):=⟨_,rfl⟩
 obtain ⟨Y,hY⟩:∃ Y,Y=(arrOf st).extract (sa + na) (sa + na + k2):=⟨_,rfl⟩
 rw [← hX,← hY]
 have zX:X.size=na - k:=by rw [hX,Array.size_extract]; lia
 have zY:Y.size=k2:=by rw [hY,Array.size_extract]; lia
 have mX:∀ x∈X.toList,∃ j,sa + k≤j∧j < sa + na∧(arrOf st)[j]?=some x:=fun x hx=>ym (by rw [← hX]; exact hx)
 have mY:∀ x∈Y.toList,∃ j,sa + na≤j∧j < sa + na + k2∧(arrOf st)[j]?=some x:=fun x hx=>ym (by rw [← hY]; exact hx)
 have okX:∀ x∈X,ok x:=fun x hx=>by
  obtain ⟨j,_,_,e⟩:=mX x (by simpa using hx)
  exact hok x (Array.mem_of_getElem? e)
 have okY:∀ x∈Y,ok x:=fun x hx=>by
  obtain ⟨j,_,_,e⟩:=mY x (by simpa using hx)
  exact hok x (Array.mem_of_getElem? e)
 have sX:Srd κ X.toList:=by rw [hX]; exact (s1.mono (by lia) (Nat.le_refl _)).srd (by lia)
 have sY:Srd κ Y.toList:=by rw [hY]; exact (s2.mono (Nat.le_refl _) (by lia)).srd (by lia)
 have b0:Y[0]?=some xb:=by
  rw [hY,Array.getElem?_extract,if_pos (by lia)]
  exact eb
 have al:X[X.size - 1]?=some xl:=by
  rw [zX,hX,Array.getElem?_extract,if_pos (by lia),show sa + k + (na - k - 1)=sa + na - 1 by lia]
  exact el
 have p1:∀ x∈X,∀ y,Y[0]?=some y→O.kle (κ y) (κ x):=fun x hx y hy=>by
  rw [b0] at hy; cases hy
  obtain ⟨j,j1,j2,e⟩:=mX x (by simpa using hx)
  exact gtA j x j1 j2 e
 have p2:∀ y∈Y,∀ x,X[X.size - 1]?=some x→O.kle (κ y) (κ x):=fun y hy x hx=>by
  rw [al] at hx; cases hx
  obtain ⟨j,j1,j2,e⟩:=mY y (by simpa using hy)
  exact ltB j y j1 j2 e
 have fin:∀ out g,Gd κ (X.toList++Y.toList) out→Mg κ kd (arrOf st) sa (sa + na + nb) P (setArr (yY (setPending st P) g) (putAt (arrOf st) (sa + k) out.toList 0)):=by
  intro out g gd
  have zo:out.toList.length=na - k + k2:=by
   have:=gd.2.length_eq
   have l1:X.toList.length=X.size:=Array.length_toList
   have l2:Y.toList.length=Y.size:=Array.length_toList
   rw [List.length_append] at this
   lia
  have hfit:sa + k + out.toList.length≤(arrOf st).size:=by lia
  have gt':=fun j=>aA5 out.toList (arrOf st) (sa + k) 0 j (by lia)
  have cls:∀ i x,(putAt (arrOf st) (sa + k) out.toList 0)[i]?=some x→(i < sa + k∧(arrOf st)[i]?=some x)∨(sa + k≤i∧i < sa + na + k2∧out.toList[i - (sa + k) - 0]?=some x)∨(sa + na + k2≤i∧(arrOf st)[i]?=some x):=by
   intro i x e
   rw [gt' i] at e
   split at e
   ·rename_i c; exact .inr (.inl ⟨by lia,by lia,e⟩)
   ·rename_i c
    by_cases d:i < sa + k
    ·exact .inl ⟨d,e⟩
    ·exact .inr (.inr ⟨by lia,e⟩)
  have mO:∀ x∈out.toList,(∃ j,sa + k≤j∧j < sa + na∧(arrOf st)[j]?=some x)∨∃ j,sa + na≤j∧j < sa + na + k2∧(arrOf st)[j]?=some x:=fun x hx=>by
   rcases List.mem_append.mp (gd.2.mem_iff.mp hx) with h | h
   ·exact .inl (mX x h)
   ·exact .inr (mY x h)
  refine ⟨hs1,?_,rfl,fun j hj=>?_,?_⟩
  ·show (putAt (arrOf st) (sa + k) out.toList 0).toList.Perm _
   rw [aFA hfit]
   have e3:(arrOf st).toList=(arrOf st).toList.take (sa + k)++(X.toList++Y.toList++(arrOf st).toList.drop (sa + na + k2)):=by
    have d1:=jl (a:=arrOf st) (i:=sa + k) (k:=na - k)
    have d2:=jl (a:=arrOf st) (i:=sa + na) (k:=k2)
    rw [show sa + k + (na - k)=sa + na by lia,← hX] at d1
    rw [← hY] at d2
    rw [List.append_assoc,← d2,← d1,List.take_append_drop]
   rw [show sa + k + out.toList.length=sa + na + k2 by lia]
   have e4:((arrOf st).toList.take (sa + k)++(out.toList++(arrOf st).toList.drop (sa + na + k2))).Perm ((arrOf st).toList.take (sa + k)++(X.toList++Y.toList++(arrOf st).toList.drop (sa + na + k2))):=List.Perm.append_left _ (List.Perm.append_right _ gd.2)
   rw [← e3] at e4
   exact e4
  ·show (putAt (arrOf st) (sa + k) out.toList 0)[j]?=_
   rw [gt' j,if_neg (by lia)]
  ·intro i j x y a1 a2 a3 ex ey
   have ex':(putAt (arrOf st) (sa + k) out.toList 0)[i]?=some x:=ex
   have ey':(putAt (arrOf st) (sa + k) out.toList 0)[j]?=some y:=ey
   rcases cls i x ex' with ⟨q1,q2⟩ | ⟨q1,q2,q3⟩ | ⟨q1,q2⟩
   ·have xl1:=leA i x a1 q1 q2
    rcases cls j y ey' with ⟨r1,r2⟩ | ⟨r1,r2,r3⟩ | ⟨r1,r2⟩
    ·exact s1 i j x y a1 a2 (by lia) q2 r2
    ·rcases mO y (List.mem_of_getElem? r3) with ⟨l,l1,l2,l3⟩ | ⟨l,l1,l2,l3⟩
     ·exact s1 i l x y a1 (by lia) l2 q2 l3
     ·exact KeyOrd.kle_trans xl1 (s2 (sa + na) l xb y (by lia) l1 (by lia) eb l3)
    ·exact KeyOrd.kle_trans xl1 (s2 (sa + na) j xb y (by lia) (by lia) a3 eb r2)
   ·rcases cls j y ey' with ⟨r1,r2⟩ | ⟨r1,r2,r3⟩ | ⟨r1,r2⟩
    ·lia
    ·exact aHS gd.1 (by lia) q3 r3
    ·rcases mO x (List.mem_of_getElem? q3) with ⟨l,l1,l2,l3⟩ | ⟨l,l1,l2,l3⟩
     ·exact KeyOrd.kle_trans (s1 l (sa + na - 1) x xl (by lia) (by lia) (by lia) l3 el) (geB j y r1 a3 r2)
     ·exact s2 l j x y l1 (by lia) a3 l3 r2
   ·rcases cls j y ey' with ⟨r1,r2⟩ | ⟨r1,r2,r3⟩ | ⟨r1,r2⟩
    ·lia
    ·lia
    ·exact s2 i j x y (by lia) a2 a3 q2 r2
 have fin2:∀ out g,Gd κ (X.toList++Y.toList) out→wpS (model prog w) A E s (do
    modify fun s=>setArr s (List.foldl (fun a x=>a.setIfInBounds (sa + k + x.snd) x.fst) (arrOf s) out.toList.zipIdx)
    let __do_lift ← get
    pure (failedOf __do_lift).isNone) Q (yY (setPending st P) g):=by
  intro out g gd
  refine wpS_bind (wpS_modify (wpS_bind (wpS_get ?_)))
  have hf:failedOf st=none:=hs.2
  show wpS _ _ _ _ (pure (failedOf st).isNone) _ _
  rw [hf]
  exact wpS_pure (q _ (fin out g gd))
 by_cases c3:na - k≤k2
 ·rw [if_pos c3]
  exact wpS_bind (aF8 C hs1 okX okY sX sY (by lia) (by lia) p1 p2 fin2)
 ·rw [if_neg c3]
  exact wpS_bind (aF9 C hs1 okX okY sX sY (by lia) (by lia) p1 p2 fin2)
end
end L2
namespace L2
open PySem PySem.Spec PyProof.Rows
section
variable {O:KeyOrd} (κ:Keyed→O.α) (d:O.α) (lo:Nat)
noncomputable def fs (xs:Array Keyed) (i:Nat):O.α:=fk κ d xs (lo + i)
theorem aGS {xs:Array Keyed} {i j:Nat} (hj:lo + j≤xs.size) (k:Nat):fs κ d lo (mirror xs (lo + i) (lo + j) ((lo + j - (lo + i)) / 2)) k=if i≤k∧k < j then fs κ d lo xs (i + j - 1 - k) else fs κ d lo xs k:=by
 unfold fs
 rw [aIS κ d hj]
 by_cases c:i≤k∧k < j
 ·rw [if_pos (by lia),if_pos c,show lo + i + (lo + j) - 1 - (lo + k)=lo + (i + j - 1 - k) by lia]
 ·rw [if_neg (by lia),if_neg c]
theorem aAl {xs:Array Keyed} {i j:Nat} (hj:lo + j≤xs.size) (h:∀ k,i≤k→k < j→fs κ d lo xs k=fs κ d lo xs (j - 1)) (k:Nat):fs κ d lo (mirror xs (lo + i) (lo + j) ((lo + j - (lo + i)) / 2)) k=fs κ d lo xs k:=by
 rw [aGS κ d lo hj]
 split
 ·rename_i c
  rw [h _ (by lia) (by lia),← h k c.1 c.2]
 ·rfl
theorem aGT {xs:Array Keyed} {x l:Nat} (ha:lo + x < xs.size) (hb:l≤x) (k:Nat):fs κ d lo (bubble xs (lo + x) (lo + x - (lo + l))) k=if k=l then fs κ d lo xs x else if l < k∧k≤x then fs κ d lo xs (k - 1) else fs κ d lo xs k:=by
 unfold fs
 rw [aIT κ d ha (by lia),show lo + x - (lo + x - (lo + l))=lo + l by lia]
 by_cases c1:k=l
 ·rw [if_pos (by lia),if_pos c1]
 ·rw [if_neg (by lia),if_neg c1]
  by_cases c2:l < k∧k≤x
  ·rw [if_pos (by lia),if_pos c2,show lo + k - 1=lo + (k - 1) by lia]
  ·rw [if_neg (by lia),if_neg c2]
theorem aHT {xs:Array Keyed} {i j k:Nat} (hj:lo + j≤xs.size) (h:k < lo):(mirror xs (lo + i) (lo + j) ((lo + j - (lo + i)) / 2))[k]?=xs[k]?:=by
 rw [getElem?_mirror_all hj,if_neg (by lia)]
theorem aHU {xs:Array Keyed} {x l k:Nat} (ha:lo + x < xs.size) (hb:l≤x) (h:k < lo):(bubble xs (lo + x) (lo + x - (lo + l)))[k]?=xs[k]?:=by
 rw [getElem?_bubble ha _ (by lia),if_neg (by lia),if_neg (by lia)]
variable {κ d lo}
theorem aHw {xs:Array Keyed} {n:Nat} (h:Up (fs κ d lo xs) n):SegU κ xs lo (lo + n):=fun i j x y a b c ex ey=>by
 have:=h (i - lo) (j - lo) (by lia) (by lia)
 unfold fs fk at this
 rw [show lo + (i - lo)=i by lia,show lo + (j - lo)=j by lia,ex,ey] at this
 exact this
end
structure Rl (kd:SortKind) (lo:Nat) (st st':SortSt):Prop where
 sx:Sx kd st'
 perm:(arrOf st').Perm (arrOf st)
 pend:pendingOf st'=pendingOf st
 out:∀ k,k < lo→(arrOf st')[k]?=(arrOf st)[k]?
section
variable {prog:Program} {w:World} {A:Around} {E:Value→Shared→Prop} {s:Shared} {O:KeyOrd} {κ:Keyed→O.α} {ok:Keyed→Prop} {kd:SortKind} {d:O.α} {lo n:Nat} {st0:SortSt}
theorem Rl.refl {st:SortSt} (h:Sx kd st):Rl kd lo st st:=⟨h,Array.Perm.refl _,rfl,fun _ _=>rfl⟩
theorem Rl.put {st:SortSt} (h:Rl kd lo st0 st) {xs:Array Keyed} (p:xs.Perm (arrOf st)) (o:∀ k,k < lo→xs[k]?=(arrOf st)[k]?):Rl kd lo st0 (setArr st xs):=⟨h.sx,p.trans h.perm,h.pend,fun k hk=>(o k hk).trans (h.out k hk)⟩
structure Mkr (M:Model) (A:Around) (E:Value→Shared→Prop) (s:Shared) (κ:Keyed→O.α) (ok:Keyed→Prop) (kd:SortKind) (lo n:Nat) (st0:SortSt):Prop where
 C:Cm M A E s κ ok kd
 ok:∀ x∈arrOf st0,ok x
 sz:lo + n≤(arrOf st0).size
theorem Mkr.size (S:Mkr (model prog w) A E s κ ok kd lo n st0) {st:SortSt} (h:Rl kd lo st0 st):lo + n≤(arrOf st).size:=by rw [h.perm.size_eq]; exact S.sz
theorem Mkr.lt (S:Mkr (model prog w) A E s κ ok kd lo n st0) {st:SortSt} (h:Rl kd lo st0 st) {i j:Nat} {Q:Option Bool→SortSt→Prop} (hi:i < n) (hj:j < n) (q:Q (some (O.blt (fs κ d lo (arrOf st) i) (fs κ d lo (arrOf st) j))) st):wpS (model prog w) A E s (ltAt' (lo + i) (lo + j)) Q st:=by
 have z:=S.size h
 have ei:(arrOf st)[lo + i]?=some (arrOf st)[lo + i]:=Array.getElem?_eq_getElem (by lia)
 have ej:(arrOf st)[lo + j]?=some (arrOf st)[lo + j]:=Array.getElem?_eq_getElem (by lia)
 have oi:ok (arrOf st)[lo + i]:=S.ok _ (h.perm.mem_iff.mp (Array.getElem_mem (by lia)))
 have oj:ok (arrOf st)[lo + j]:=S.ok _ (h.perm.mem_iff.mp (Array.getElem_mem (by lia)))
 rw [ltAt'_eq]
 refine wpS_bind (wpS_get ?_)
 show wpS _ _ _ _ (do let x ← elem' (arrOf st) (lo + i); let y ← elem' (arrOf st) (lo + j); lt' x y) Q st
 refine wpS_bind (zL ei (wpS_bind (zL ej (S.C.lt h.sx.1 h.sx.2 oi oj ?_))))
 unfold fs fk at q
 rw [ei,ej] at q
 exact q
end
end L2
namespace L2
open PySem PySem.Spec PyProof.Rows
section
variable {prog:Program} {w:World} {A:Around} {E:Value→Shared→Prop} {s:Shared} {O:KeyOrd} {κ:Keyed→O.α} {ok:Keyed→Prop} {kd:SortKind} {lo n:Nat} {st0:SortSt} (d:O.α)
theorem Rl.turn {st:SortSt} (h:Rl kd lo st0 st) {i j:Nat} (hj:lo + j≤(arrOf st).size):Rl kd lo st0 (setArr st (mirror (arrOf st) (lo + i) (lo + j) ((lo + j - (lo + i)) / 2))):=h.put (mirror_perm _ _ _ _) fun k hk=>aHT lo hj hk
theorem aA6 (S:Mkr (model prog w) A E s κ ok kd lo n st0) {st:SortSt} (hb:Rl kd lo st0 st) {a m:Nat} (h1:1≤a) (ham:a≤m) (hmn:m≤n) (up:Up (fs κ d lo (arrOf st)) a) {f:Nat→AscSt→StateT SortSt Sem (ForInStep AscSt)}
  (hf:∀ x k b (R:ForInStep AscSt→SortSt→Prop),(∀ T:Option Bool→SortSt→Prop,T (some b) st→wpS (model prog w) A E s (ltAt' (lo + k) (lo + k - 1)) T st)→R (if b then .done (none,k) else .yield (none,k + 1)) st→wpS (model prog w) A E s (f x (none,k)) R st) {Q:AscSt→SortSt→Prop}
  (q:∀ k,a≤k→k≤m→Up (fs κ d lo (arrOf st)) k→(k=m∨O.klt (fs κ d lo (arrOf st) k) (fs κ d lo (arrOf st) (k - 1)))→Q (none,k) st):wpS (model prog w) A E s (forIn [a:m] ((none,a):AscSt) f) Q st:=by
 refine wpS_forRange (fun x c st'=>st'=st∧c=(none,x)∧Up (fs κ d lo (arrOf st)) x) (fun x c st' hx hm hI=>?_) (fun c st' hI=>?_) ⟨rfl,rfl,up⟩
 ·obtain ⟨e1,e2,u⟩:=hI
  subst e1 e2
  refine hf x x (O.blt (fs κ d lo (arrOf st') x) (fs κ d lo (arrOf st') (x - 1))) _ (fun T hT=>?_) ?_
  ·rw [show lo + x - 1=lo + (x - 1) by lia]
   exact S.lt (d:=d) hb (show x < n by lia) (show x - 1 < n by lia) hT
  ·cases e:O.blt (fs κ d lo (arrOf st') x) (fs κ d lo (arrOf st') (x - 1)) with
   | true=>exact q x hx (by lia) u (.inr e)
   | false=>exact ⟨rfl,rfl,u.snoc e⟩
 ·obtain ⟨e1,e2,u⟩:=hI
  subst e1 e2
  rw [Nat.max_eq_right ham] at u ⊢
  exact q m ham (Nat.le_refl m) u (.inl rfl)
theorem aEe (S:Mkr (model prog w) A E s κ ok kd lo n st0) {st:SortSt} (hb:Rl kd lo st0 st) {a m:Nat} (h1:1≤a) (ham:a≤m) (hmn:m≤n) (dn:Dn (fs κ d lo (arrOf st)) a) {f:Nat→DescSt→StateT SortSt Sem (ForInStep DescSt)}
  (hf:∀ x k e b1 b2 (st:SortSt) (R:ForInStep DescSt→SortSt→Prop),(∀ T:Option Bool→SortSt→Prop,T (some b1) st→wpS (model prog w) A E s (ltAt' (lo + k) (lo + k - 1)) T st)→(∀ T:Option Bool→SortSt→Prop,T (some b2) st→wpS (model prog w) A E s (ltAt' (lo + k - 1) (lo + k)) T st) →
   (b1=true→e > 0→R (.yield (none,k + 1,0)) (setArr st (mirror (arrOf st) (lo + k - (e + 1)) (lo + k) ((lo + k - (lo + k - (e + 1))) / 2))))→(b1=true→¬ e > 0→R (.yield (none,k + 1,0)) st)→(b1=false→b2=true→R (.done (none,k,e)) st)→(b1=false→b2=false→R (.yield (none,k + 1,e + 1)) st)→wpS (model prog w) A E s (f x (none,k,e)) R st) {Q:DescSt→SortSt→Prop}
  (q:∀ k e st',Rl kd lo st0 st'→a≤k→k≤m→Dn (fs κ d lo (arrOf st')) k→e + 1≤k→(∀ i,k - (e + 1)≤i→i < k→fs κ d lo (arrOf st') i=fs κ d lo (arrOf st') (k - 1))→Q (none,k,e) st'):wpS (model prog w) A E s (forIn [a:m] ((none,a,0):DescSt) f) Q st:=by
 have one:∀ (xs:Array Keyed) (x:Nat),1≤x→∀ i,x - (0 + 1)≤i→i < x→fs κ d lo xs i=fs κ d lo xs (x - 1):=fun xs x hx i c1 c2=>by rw [show i=x - 1 by lia]
 refine wpS_forRange (fun x c st'=>∃ e,c=(none,x,e)∧Rl kd lo st0 st'∧Dn (fs κ d lo (arrOf st')) x∧e + 1≤x∧∀ i,x - (e + 1)≤i→i < x→fs κ d lo (arrOf st') i=fs κ d lo (arrOf st') (x - 1)) (fun x c st' hx hm hI=>?_) (fun c st' hI=>?_) ⟨0,rfl,hb,dn,h1,one _ a h1⟩
 ·obtain ⟨e,rfl,b,u,le,fl⟩:=hI
  have z:lo + x≤(arrOf st').size:=by have:=S.size b; lia
  refine hf x x e (O.blt (fs κ d lo (arrOf st') x) (fs κ d lo (arrOf st') (x - 1))) (O.blt (fs κ d lo (arrOf st') (x - 1)) (fs κ d lo (arrOf st') x)) st' _ (fun T hT=>?_) (fun T hT=>?_) (fun e1 c=>?_) (fun e1 c=>?_) (fun e1 e2=>?_) (fun e1 e2=>?_)
  ·rw [show lo + x - 1=lo + (x - 1) by lia]
   exact S.lt (d:=d) b (show x < n by lia) (show x - 1 < n by lia) hT
  ·rw [show lo + x - 1=lo + (x - 1) by lia]
   exact S.lt (d:=d) b (show x - 1 < n by lia) (show x < n by lia) hT
  ·rw [show lo + x - (e + 1)=lo + (x - (e + 1)) by lia]
   exact ⟨0,rfl,b.turn z,(u.snoc (KeyOrd.kle_of_klt e1)).congr (aAl κ d lo z fl),by lia,one _ (x + 1) (by lia)⟩
  ·exact ⟨0,rfl,b,u.snoc (KeyOrd.kle_of_klt e1),by lia,one _ (x + 1) (by lia)⟩
  ·exact q x e st' b hx (by lia) u le fl
  ·have same:fs κ d lo (arrOf st') x=fs κ d lo (arrOf st') (x - 1):=KeyOrd.kle_antisymm e2 e1
   refine ⟨e + 1,rfl,b,u.snoc (by rw [same]; exact KeyOrd.kle_refl _),by lia,fun i c1 c2=>?_⟩
   rw [Nat.add_sub_cancel]
   rcases Nat.lt_or_ge i x with c3 | c3
   ·rw [same]; exact fl i (by lia) c3
   ·rw [show i=x by lia]
 ·obtain ⟨e,rfl,b,u,le,fl⟩:=hI
  rw [Nat.max_eq_right ham] at u le fl ⊢
  exact q m e st' b ham (Nat.le_refl m) u le fl
theorem aAm {st:SortSt} {a:Nat} (z:lo + a≤(arrOf st).size) (dn:Dn (fs κ d lo (arrOf st)) a):Up (fs κ d lo (mirror (arrOf st) lo (lo + a) ((lo + a - lo) / 2))) a:=fun i j c1 c2=>by
 have t:=aGS κ d lo (i:=0) z
 rw [Nat.add_zero] at t
 rw [t,t,if_pos ⟨Nat.zero_le _,by lia⟩,if_pos ⟨Nat.zero_le _,c2⟩]
 exact dn _ _ (by lia) (by lia)
theorem aGU (S:Mkr (model prog w) A E s κ ok kd lo n st0) {st:SortSt} (hb:Rl kd lo st0 st) {m:Nat} (h1:1≤m) (hmn:m≤n) {Q:Option Nat→SortSt→Prop}
  (q:∀ k st',Rl kd lo st0 st'→1≤k→k≤m→Up (fs κ d lo (arrOf st')) k→Q (some k) st'):wpS (model prog w) A E s (countRun' lo m) Q st:=by
 rw [countRun'_eq]
 refine wpS_bind (aA6 d S hb (Nat.le_refl 1) h1 hmn (Up.one _) (fun x k b R hl hr=>by refine wpS_bind (hl _ ?_); dsimp only; cases b <;> exact wpS_pure hr) fun k0 k01 k02 u0 ends=>?_)
 have z:lo + k0≤(arrOf st).size:=by have:=S.size hb; lia
 dsimp only
 by_cases c:k0=m
 ·rw [if_pos (beq_iff_eq.mpr c)]
  exact wpS_pure (q k0 st hb k01 k02 u0)
 rw [if_neg (fun z=>c (beq_iff_eq.mp z))]
 have fall:=ends.resolve_left c
 by_cases c1:k0 > 1
 ·rw [if_pos c1,show lo + k0 - 1=lo + (k0 - 1) by lia]
  refine wpS_bind (S.lt (d:=d) (i:=0) hb (show 0 < n by lia) (show k0 - 1 < n by lia) ?_)
  dsimp only
  cases e:O.blt (fs κ d lo (arrOf st) 0) (fs κ d lo (arrOf st) (k0 - 1)) with
  | true=>rw [if_pos rfl]; exact wpS_pure (q k0 st hb k01 k02 u0)
  | false =>
   rw [if_neg Bool.false_ne_true]
   have flat:∀ i,0≤i→i < k0→fs κ d lo (arrOf st) i=fs κ d lo (arrOf st) (k0 - 1):=fun i _ ci =>
    KeyOrd.kle_antisymm (u0 i (k0 - 1) (by lia) (by lia)) (KeyOrd.kle_trans e (u0 0 i (Nat.zero_le _) ci))
   have dn:Dn (fs κ d lo (arrOf st)) (k0 + 1):=by
    refine Dn.snoc (fun i j a b=>?_) (KeyOrd.kle_of_klt fall)
    rw [flat i (Nat.zero_le _) (by lia),flat j (Nat.zero_le _) b]
    exact KeyOrd.kle_refl _
   refine wpS_bind (wpS_reverse ?_)
   refine wpS_bind (wpS_lift (wpAny_rule ⟨rfl,?_⟩))
   refine wpS_bind (aEe d S (hb.turn (i:=0) z) (a:=k0 + 1) (by lia) (by lia) hmn (dn.congr (aAl κ d lo (i:=0) z flat)) (fun x k e b1 b2 st R l1 l2 r1 r2 r3 r4=>by
     refine wpS_bind (l1 _ ?_)
     dsimp only
     cases b1 with
     | true =>
      rw [if_pos rfl]
      by_cases c:e > 0
      ·rw [if_pos c]
       exact wpS_bind (wpS_reverse (wpS_pure (r1 rfl c)))
      ·rw [if_neg c]
       exact wpS_pure (r2 rfl c)
     | false =>
      rw [if_neg Bool.false_ne_true]
      refine wpS_bind (l2 _ ?_)
      dsimp only
      cases b2 with
      | true=>exact wpS_pure (r3 rfl rfl)
      | false=>exact wpS_pure (r4 rfl rfl)) fun k e st' b k1 k2 u le fl=>?_)
   have z:lo + k≤(arrOf st').size:=by have:=S.size b; lia
   dsimp only
   by_cases c:e > 0
   ·rw [if_pos c,show lo + k - (e + 1)=lo + (k - (e + 1)) by lia]
    refine wpS_bind (wpS_reverse ?_)
    have b':=b.turn (i:=k - (e + 1)) z
    have u':Dn (fs κ d lo (mirror (arrOf st') (lo + (k - (e + 1))) (lo + k) ((lo + k - (lo + (k - (e + 1)))) / 2))) k:=u.congr (aAl κ d lo z fl)
    have z:lo + k≤(arrOf (setArr st' (mirror (arrOf st') (lo + (k - (e + 1))) (lo + k) ((lo + k - (lo + (k - (e + 1)))) / 2)))).size:=by have:=S.size b'; lia
    refine wpS_bind (wpS_reverse ?_)
    have hb9:=Rl.turn (i:=0) (b') z
    refine wpS_bind (aA6 d S hb9 (by lia) k2 hmn (aAm d z (u')) (fun x k b R hl hr=>by refine wpS_bind (hl _ ?_); dsimp only; cases b <;> exact wpS_pure hr) fun k9 k91 k92 u9 _=>?_)
    exact wpS_pure (q k9 _ hb9 (by lia) k92 u9)
   ·rw [if_neg c]
    refine wpS_bind (wpS_reverse ?_)
    have hb9:=Rl.turn (i:=0) (b) z
    refine wpS_bind (aA6 d S hb9 (by lia) k2 hmn (aAm d z (u)) (fun x k b R hl hr=>by refine wpS_bind (hl _ ?_); dsimp only; cases b <;> exact wpS_pure hr) fun k9 k91 k92 u9 _=>?_)
    exact wpS_pure (q k9 _ hb9 (by lia) k92 u9)
 ·rw [if_neg c1]
  have e1:k0=1:=by lia
  subst e1
  refine wpS_bind (wpS_lift (wpAny_rule ⟨rfl,?_⟩))
  refine wpS_bind (aEe d S (hb) (a:=1 + 1) (by lia) (by lia) hmn (Dn.snoc (Dn.one _) (KeyOrd.kle_of_klt fall)) (fun x k e b1 b2 st R l1 l2 r1 r2 r3 r4=>by
    refine wpS_bind (l1 _ ?_)
    dsimp only
    cases b1 with
    | true =>
     rw [if_pos rfl]
     by_cases c:e > 0
     ·rw [if_pos c]
      exact wpS_bind (wpS_reverse (wpS_pure (r1 rfl c)))
     ·rw [if_neg c]
      exact wpS_pure (r2 rfl c)
    | false =>
     rw [if_neg Bool.false_ne_true]
     refine wpS_bind (l2 _ ?_)
     dsimp only
     cases b2 with
     | true=>exact wpS_pure (r3 rfl rfl)
     | false=>exact wpS_pure (r4 rfl rfl)) fun k e st' b k1 k2 u le fl=>?_)
  have z:lo + k≤(arrOf st').size:=by have:=S.size b; lia
  dsimp only
  by_cases c:e > 0
  ·rw [if_pos c,show lo + k - (e + 1)=lo + (k - (e + 1)) by lia]
   refine wpS_bind (wpS_reverse ?_)
   have b':=b.turn (i:=k - (e + 1)) z
   have u':Dn (fs κ d lo (mirror (arrOf st') (lo + (k - (e + 1))) (lo + k) ((lo + k - (lo + (k - (e + 1)))) / 2))) k:=u.congr (aAl κ d lo z fl)
   have z:lo + k≤(arrOf (setArr st' (mirror (arrOf st') (lo + (k - (e + 1))) (lo + k) ((lo + k - (lo + (k - (e + 1)))) / 2)))).size:=by have:=S.size b'; lia
   refine wpS_bind (wpS_reverse ?_)
   have hb9:=Rl.turn (i:=0) (b') z
   refine wpS_bind (aA6 d S hb9 (by lia) k2 hmn (aAm d z (u')) (fun x k b R hl hr=>by refine wpS_bind (hl _ ?_); dsimp only; cases b <;> exact wpS_pure hr) fun k9 k91 k92 u9 _=>?_)
   exact wpS_pure (q k9 _ hb9 (by lia) k92 u9)
  ·rw [if_neg c]
   refine wpS_bind (wpS_reverse ?_)
   have hb9:=Rl.turn (i:=0) (b) z
   refine wpS_bind (aA6 d S hb9 (by lia) k2 hmn (aAm d z (u)) (fun x k b R hl hr=>by refine wpS_bind (hl _ ?_); dsimp only; cases b <;> exact wpS_pure hr) fun k9 k91 k92 u9 _=>?_)
   exact wpS_pure (q k9 _ hb9 (by lia) k92 u9)
theorem aFC (S:Mkr (model prog w) A E s κ ok kd lo n st0) {st:SortSt} (hb:Rl kd lo st0 st) {a m:Nat} (ham:a≤m) (hmn:m≤n) (up:Up (fs κ d lo (arrOf st)) a) {Q:Bool→SortSt→Prop}
  (q:∀ st',Rl kd lo st0 st'→Up (fs κ d lo (arrOf st')) m→Q true st'):wpS (model prog w) A E s (binarySort' lo m a) Q st:=by
 rw [binarySort'_eq]
 refine wpS_bind (wpS_mono (wpS_forRange (fun x c st'=>c=(none,())∧Rl kd lo st0 st'∧Up (fs κ d lo (arrOf st')) (min x m)) (Q:=fun c st'=>c=(none,())∧Rl kd lo st0 st'∧Up (fs κ d lo (arrOf st')) m) (fun x c st' hx hxn hI=>?_) (fun c st' hI=>?_) ⟨rfl,hb,?_⟩) ?_)
 ·obtain ⟨rfl,b,u⟩:=hI
  rw [Nat.min_eq_left (by lia)] at u
  refine wpS_bind (wpS_mono (wpS_forRange (fun y c st2=>st2=st'∧∃ l r,c=(none,l,r)∧l≤r∧r≤x∧r - l≤x - y∧(∀ i,i < l→O.kle (fs κ d lo (arrOf st') i) (fs κ d lo (arrOf st') x))∧∀ i,r≤i→i < x→O.klt (fs κ d lo (arrOf st') x) (fs κ d lo (arrOf st') i))
   (Q:=fun c st2=>st2=st'∧∃ l r,c=(none,l,r)∧l≤x∧(∀ i,i < l→O.kle (fs κ d lo (arrOf st') i) (fs κ d lo (arrOf st') x))∧∀ i,l≤i→i < x→O.klt (fs κ d lo (arrOf st') x) (fs κ d lo (arrOf st') i))
   (fun y c st2 _ hy hJ=>?_) (fun c st2 hJ=>?_) ⟨rfl,0,x,rfl,Nat.zero_le _,Nat.le_refl _,Nat.le_refl _,(fun i hi=>absurd hi (Nat.not_lt_zero i)),fun i c1 c2=>absurd c2 (Nat.not_lt.mpr c1)⟩) ?_)
  ·obtain ⟨rfl,l,r,rfl,lr,rx,dist,lo',hi⟩:=hJ
   dsimp only
   by_cases c:l ≥ r
   ·rw [if_pos c]
    exact wpS_pure ⟨rfl,l,r,rfl,by lia,lo',fun i c1 c2=>hi i (by lia) c2⟩
   rw [if_neg c]
   refine wpS_bind (S.lt (d:=d) b (show x < n by lia) (show (l + r) / 2 < n by lia) ?_)
   dsimp only
   cases e:O.blt (fs κ d lo (arrOf st2) x) (fs κ d lo (arrOf st2) ((l + r) / 2)) with
   | true =>
    rw [if_pos rfl]
    exact wpS_pure ⟨rfl,l,(l + r) / 2,rfl,by lia,by lia,by lia,lo',fun i c1 c2=>KeyOrd.klt_of_klt_of_kle e (u _ _ c1 c2)⟩
   | false =>
    rw [if_neg Bool.false_ne_true]
    exact wpS_pure ⟨rfl,(l + r) / 2 + 1,r,rfl,by lia,rx,by lia,fun i ci=>KeyOrd.kle_trans (u i ((l + r) / 2) (by lia) (by lia)) e,hi⟩
  ·obtain ⟨rfl,l,r,rfl,lr,rx,dist,lo',hi⟩:=hJ
   exact ⟨rfl,l,r,rfl,by lia,lo',fun i c1 c2=>hi i (by lia) c2⟩
  ·rintro c st2 ⟨rfl,l,r,rfl,lx,lo',hi⟩
   have z:lo + x < (arrOf st2).size:=by have:=S.size b; lia
   show wpS _ _ _ _ (moveDown' (lo + x) (lo + l) >>= fun _=>pure (ForInStep.yield (none,()))) _ _
   rw [moveDown'_eq]
   refine wpS_bind (wpS_modify (wpS_pure ⟨rfl,b.put (bubble_perm _ _ _) (fun k hk=>aHU lo z lx hk),?_⟩))
   rw [Nat.min_eq_left (by lia)]
   intro i j c1 c2
   show O.kle (fs κ d lo (bubble (arrOf st2) (lo + x) (lo + x - (lo + l))) i) (fs κ d lo (bubble (arrOf st2) (lo + x) (lo + x - (lo + l))) j)
   rw [aGT κ d lo z lx,aGT κ d lo z lx]
   by_cases a1:i=l
   ·rw [if_pos a1]
    by_cases a2:j=l
    ·rw [if_pos a2]; exact KeyOrd.kle_refl _
    ·rw [if_neg a2,if_pos ⟨by lia,by lia⟩]; exact KeyOrd.kle_of_klt (hi _ (by lia) (by lia))
   ·rw [if_neg a1]
    by_cases a3:l < i∧i≤x
    ·rw [if_pos a3,if_neg (by lia),if_pos ⟨by lia,by lia⟩]
     exact u _ _ (by lia) (by lia)
    ·rw [if_neg a3]
     by_cases a2:j=l
     ·rw [if_pos a2]; exact lo' i (by lia)
     ·rw [if_neg a2]
      by_cases a4:l < j∧j≤x
      ·rw [if_pos a4]; exact u _ _ (by lia) (by lia)
      ·rw [if_neg a4]; exact u _ _ c1 (by lia)
 ·obtain ⟨rfl,b,u⟩:=hI
  rcases Nat.lt_or_ge m (max a 1) with c | c
  ·have:m=0:=by lia
   subst this
   exact ⟨rfl,b,fun i j _ h=>absurd h (Nat.not_lt_zero j)⟩
  ·rw [show min (max (max a 1) m) m=m by lia] at u
   exact ⟨rfl,b,u⟩
 ·intro i j c1 c2
  rcases Nat.lt_or_ge j a with c | c
  ·exact up i j c1 c
  ·have e:i=j:=by lia
   rw [e]; exact KeyOrd.kle_refl _
 ·rintro c st' ⟨rfl,b,u⟩
  exact wpS_pure (q st' b u)
end
end L2
namespace L2
open PySem PySem.Spec PyProof.Rows
section
variable {O:KeyOrd} {κ:Keyed→O.α}
noncomputable def Runs (κ:Keyed→O.α) (arr:Array Keyed):List (Nat×Nat×Nat)→Nat→Nat→Prop
 | [],b,e=>b=e
 | (s,n,_) :: r,b,e=>s=b∧1≤n∧SegU κ arr b (b + n)∧Runs κ arr r (b + n) e
theorem Runs.le {arr:Array Keyed}:∀ {l:List (Nat×Nat×Nat)} {b e:Nat},Runs κ arr l b e→b + l.length≤e
 | [],b,e,h=>by have:b=e:=h; simp; lia
 | (s,n,p) :: r,b,e,h=>by
  obtain ⟨_,h1,_,h2⟩:=h
  have:=Runs.le h2
  rw [List.length_cons]; lia
theorem Runs.same {arr arr':Array Keyed}:∀ {l:List (Nat×Nat×Nat)} {b e:Nat},Runs κ arr l b e→(∀ k,b≤k→k < e→arr'[k]?=arr[k]?)→Runs κ arr' l b e
 | [],b,e,h,_=>h
 | (s,n,p) :: r,b,e,h,hk=>by
  obtain ⟨h0,h1,h3,h2⟩:=h
  have:=h2.le
  exact ⟨h0,h1,h3.same fun k a c=>hk k a (by lia),Runs.same h2 fun k a c=>hk k (by lia) c⟩
theorem Runs.snoc {arr:Array Keyed} {n p:Nat}:∀ {l:List (Nat×Nat×Nat)} {b e:Nat},Runs κ arr l b e→1≤n→SegU κ arr e (e + n)→Runs κ arr (l++[(e,n,p)]) b (e + n)
 | [],b,e,h,h1,h2=>by
  have:b=e:=h
  subst this
  exact ⟨rfl,h1,h2,rfl⟩
 | (s,m,p) :: r,b,e,h,h1,h2=>⟨h.1,h.2.1,h.2.2.1,Runs.snoc h.2.2.2 h1 h2⟩
theorem Runs.modify {arr:Array Keyed} {f:Nat×Nat×Nat→Nat×Nat×Nat} (hf:∀ a b c,∃ c',f (a,b,c)=(a,b,c')):∀ {l:List (Nat×Nat×Nat)} {b e:Nat} (i:Nat),Runs κ arr l b e→Runs κ arr (l.modify i f) b e
 | [],b,e,i,h=>by rw [List.modify_nil]; exact h
 | (s,n,p) :: r,b,e,0,h=>by
  obtain ⟨c',e'⟩:=hf s n p
  show Runs κ arr (f (s,n,p) :: r) b e
  rw [e']; exact h
 | (s,n,p) :: r,b,e,i + 1,h=>by
  show Runs κ arr ((s,n,p) :: r.modify i f) b e
  exact ⟨h.1,h.2.1,h.2.2.1,Runs.modify hf i h.2.2.2⟩
theorem Runs.merge {arr:Array Keyed} {sa na pw sb nb pw2:Nat}:∀ {l:List (Nat×Nat×Nat)} {b e:Nat} (i:Nat),Runs κ arr l b e→l[i]?=some (sa,na,pw)→l[i + 1]?=some (sb,nb,pw2) →
  sb=sa + na∧1≤na∧1≤nb∧b≤sa∧sa + na + nb≤e∧SegU κ arr sa (sa + na)∧SegU κ arr (sa + na) (sa + na + nb) ∧
  ∀ arr':Array Keyed,(∀ k,(k < sa∨sa + na + nb≤k)→arr'[k]?=arr[k]?)→SegU κ arr' sa (sa + na + nb)→Runs κ arr' ((l.set i (sa,na + nb,pw)).eraseIdx (i + 1)) b e
 | [],b,e,i,h,e1,_=>by simp at e1
 | [x],b,e,0,h,e1,e2=>by simp at e2
 | (s,n,p) :: (s2,n2,p2) :: r,b,e,0,h,e1,e2=>by
  obtain ⟨rfl,h1,h2,rfl,h3,h4,h5⟩:=h
  simp at e1 e2
  obtain ⟨rfl,rfl,rfl⟩:=e1
  obtain ⟨rfl,rfl,rfl⟩:=e2
  have:=h5.le
  refine ⟨rfl,h1,h3,Nat.le_refl _,by lia,h2,h4,fun arr' ho hs=>?_⟩
  refine ⟨rfl,by lia,by rw [← Nat.add_assoc]; exact hs,?_⟩
  rw [← Nat.add_assoc]
  exact h5.same fun k a _=>ho k (.inr a)
 | (s,n,p) :: r,b,e,i + 1,h,e1,e2=>by
  obtain ⟨rfl,h1,h2,h3⟩:=h
  obtain ⟨q1,q2,q3,q4,q5,q6,q7,q8⟩:=Runs.merge i h3 (by simpa using e1) (by simpa using e2)
  refine ⟨q1,q2,q3,by lia,q5,q6,q7,fun arr' ho hs=>?_⟩
  exact ⟨rfl,h1,h2.same fun k a c=>ho k (.inl (by lia)),q8 arr' ho hs⟩
theorem aCV (p:Array (Nat×Nat×Nat)) (i:Nat) (x:Nat×Nat×Nat) (h:i + 1 < p.size):((p.setIfInBounds i x).eraseIdxIfInBounds (i + 1)).toList=(p.toList.set i x).eraseIdx (i + 1):=by
 unfold Array.eraseIdxIfInBounds
 rw [dif_pos (by rw [Array.size_setIfInBounds]; exact h),Array.toList_eraseIdx,Array.toList_setIfInBounds]
end
section
variable {prog:Program} {w:World} {A:Around} {E:Value→Shared→Prop} {s:Shared} {O:KeyOrd} {κ:Keyed→O.α} {ok:Keyed→Prop} {kd:SortKind} {a0:Array Keyed}
structure Pnd (κ:Keyed→O.α) (kd:SortKind) (a0:Array Keyed) (lo:Nat) (st:SortSt):Prop where
 sx:Sx kd st
 perm:(arrOf st).Perm a0
 runs:Runs κ (arrOf st) (pendingOf st).toList 0 lo
 le:lo≤a0.size
theorem Pnd.size {lo:Nat} {st:SortSt} (h:Pnd κ kd a0 lo st):(arrOf st).size=a0.size:=h.perm.size_eq
theorem Pnd.oks {lo:Nat} {st:SortSt} (h:Pnd κ kd a0 lo st) (h0:∀ x∈a0,ok x):∀ x∈arrOf st,ok x:=fun x hx=>h0 x (h.perm.mem_iff.mp hx)
theorem aAn (C:Cm (model prog w) A E s κ ok kd) (h0:∀ x∈a0,ok x) {st:SortSt} {lo i:Nat} (h:Pnd κ kd a0 lo st) (hi:i + 1 < (pendingOf st).size) {Q:Bool→SortSt→Prop} (q:∀ st',Pnd κ kd a0 lo st'→(pendingOf st').size + 1=(pendingOf st).size→(∀ k,lo≤k→(arrOf st')[k]?=(arrOf st)[k]?)→Q true st'):wpS (model prog w) A E s (mergeAt' i) Q st:=by
 obtain ⟨sa,na,pw,e1⟩:∃ a b c,(pendingOf st)[i]?=some (a,b,c):=⟨_,_,_,Array.getElem?_eq_getElem (by lia)⟩
 obtain ⟨sb,nb,pw2,e2⟩:∃ a b c,(pendingOf st)[i + 1]?=some (a,b,c):=⟨_,_,_,Array.getElem?_eq_getElem hi⟩
 obtain ⟨rfl,q2,q3,q4,q5,q6,q7,q8⟩:=h.runs.merge i (by rw [Array.getElem?_toList]; exact e1) (by rw [Array.getElem?_toList]; exact e2)
 refine aFB C h.sx (h.oks h0) e1 e2 q2 q3 (by have:=h.size; have:=h.le; lia) q6 q7 fun st' m=>q st' ⟨m.sx,(Array.perm_iff_toList_perm.mpr m.perm).trans h.perm,?_,h.le⟩ ?_ (fun k hk=>m.out k (.inr (by lia)))
 ·rw [m.pend,aCV _ _ _ hi]
  exact q8 _ m.out m.seg
 ·rw [m.pend]
  have l:=congrArg List.length (aCV (pendingOf st) i (sa,na + nb,pw) hi)
  rw [Array.length_toList,List.length_eraseIdx,List.length_set,Array.length_toList,if_pos hi] at l
  lia
theorem Pnd.push {lo n:Nat} {st:SortSt} (h:Pnd κ kd a0 lo st) (h1:1≤n) (sg:SegU κ (arrOf st) lo (lo + n)) (hz:lo + n≤a0.size):Pnd κ kd a0 (lo + n) (setPending st ((pendingOf st).push (lo,n,0))) :=
 ⟨h.sx,h.perm,by show Runs κ (arrOf st) ((pendingOf st).push (lo,n,0)).toList 0 (lo + n); rw [Array.toList_push]; exact h.runs.snoc h1 sg,hz⟩
theorem Pnd.mod {lo:Nat} {st:SortSt} (h:Pnd κ kd a0 lo st) {f:Nat×Nat×Nat→Nat×Nat×Nat} (i:Nat) (hf:∀ a b c,∃ c',f (a,b,c)=(a,b,c')):Pnd κ kd a0 lo (setPending st ((pendingOf st).modify i f)) :=
 ⟨h.sx,h.perm,by show Runs κ (arrOf st) ((pendingOf st).modify i f).toList 0 lo; rw [Array.toList_modify]; exact h.runs.modify hf i,h.le⟩
theorem Pnd.rl {lo:Nat} {st st':SortSt} (h:Pnd κ kd a0 lo st) (r:Rl kd lo st st'):Pnd κ kd a0 lo st' :=
 ⟨r.sx,r.perm.trans h.perm,by rw [r.pend]; exact h.runs.same fun k _ c=>r.out k c,h.le⟩
theorem aEA (d:O.α) (C:Cm (model prog w) A E s κ ok kd) (h0:∀ x∈a0,ok x) {st:SortSt} (h:Pnd κ kd a0 0 st) {Q:Unit→SortSt→Prop}
  (q:∀ st',Sx kd st'→(arrOf st').Perm a0→SegU κ (arrOf st') 0 a0.size→Q () st'):wpS (model prog w) A E s sortRuns' Q st:=by
 rw [sortRuns'_eq]
 refine wpS_bind (wpS_get ?_)
 dsimp only
 have hsz:(arrOf st).size=a0.size:=h.size
 rw [hsz]
 generalize minRun' a0.size a0.size 0=mr
 refine wpS_bind (wpS_mono (wpS_forRange (fun x c st'=>∃ lo,c=(none,lo)∧Pnd κ kd a0 lo st'∧(x≤lo∨a0.size≤lo)) (Q:=fun c st'=>c=(none,a0.size)∧Pnd κ kd a0 a0.size st') ?step ?fin ⟨0,rfl,h,.inl (Nat.le_refl _)⟩) ?post)
 case fin =>
  rintro c st' ⟨lo,rfl,P,hp⟩
  have e:lo=a0.size:=by have:=P.le; lia
  subst e
  exact ⟨rfl,P⟩
 case step =>
  rintro x c st' _ hx ⟨lo,rfl,P,hp⟩
  dsimp only
  by_cases c1:lo ≥ a0.size
  ·rw [if_pos c1]
   have e:lo=a0.size:=by have:=P.le; lia
   subst e
   exact wpS_pure ⟨rfl,P⟩
  rw [if_neg c1]
  have S:Mkr (model prog w) A E s κ ok kd lo (a0.size - lo) st':=⟨C,P.oks h0,by rw [P.size]; lia⟩
  refine wpS_bind (aGU d S (Rl.refl P.sx) (by lia) (Nat.le_refl _) fun k st1 R1 k1 k2 u1=>?_)
  dsimp only
  by_cases c2:k < mr
  ·rw [if_pos c2]
   refine wpS_bind (wpS_lift (wpAny_rule ⟨rfl,?_⟩))
   refine wpS_bind (aFC d S R1 (m:=min (a0.size - lo) mr) (by lia) (by lia) u1 fun st2 R2 u2=>?_)
   rw [if_neg (by simp)]
   have P2:=P.rl R2
   have sg:=aHw u2
   refine wpS_bind (wpS_get ?_)
   cases eb:(pendingOf st2).back? with
   | none =>
    dsimp only
    exact wpS_bind (wpS_modify (wpS_pure ⟨_,rfl,P2.push (by lia) sg (by lia),by lia⟩))
   | some r =>
    obtain ⟨s1,n1,p1⟩:=r
    dsimp only
    refine wpS_bind (wpS_mono (wpS_forRange (fun _ c st'=>c=(none,())∧Pnd κ kd a0 lo st'∧SegU κ (arrOf st') lo (lo + min (a0.size - lo) mr)) (Q:=fun c st'=>c=(none,())∧Pnd κ kd a0 lo st'∧SegU κ (arrOf st') lo (lo + min (a0.size - lo) mr)) (fun y c st' _ _ hI=>?_) (fun c st' hI=>hI) ⟨rfl,P2,sg⟩) ?_)
    ·obtain ⟨rfl,P3,sg3⟩:=hI
     refine wpS_bind (wpS_get ?_)
     by_cases c5:(pendingOf st').size > 1
     ·obtain ⟨u1,u2,u3,eu⟩:∃ a b c,(pendingOf st')[(pendingOf st').size - 2]?=some (a,b,c):=⟨_,_,_,Array.getElem?_eq_getElem (by lia)⟩
      rw [if_pos c5,eu]
      dsimp only
      split
      ·exact wpS_pure ⟨rfl,P3,sg3⟩
      ·refine wpS_bind (aAn C h0 P3 (by lia) fun st4 P4 _ o4=>?_)
       rw [if_neg (by simp)]
       exact wpS_pure ⟨rfl,P4,sg3.same fun k a c=>o4 k a⟩
     ·rw [if_neg c5]
      exact wpS_pure ⟨rfl,P3,sg3⟩
    ·rintro c st' ⟨rfl,P3,sg3⟩
     dsimp only
     refine wpS_bind (wpS_modify (wpS_bind (wpS_modify (wpS_pure ⟨_,rfl,(P3.mod (f:=fun x=>(x.fst,x.2.fst,_)) _ (fun a b c=>⟨_,rfl⟩)).push (by lia) sg3 (by lia),by lia⟩))))
  ·rw [if_neg c2]
   have P2:=P.rl R1
   have sg:=aHw u1
   refine wpS_bind (wpS_get ?_)
   cases eb:(pendingOf st1).back? with
   | none =>
    dsimp only
    exact wpS_bind (wpS_modify (wpS_pure ⟨_,rfl,P2.push (by lia) sg (by lia),by lia⟩))
   | some r =>
    obtain ⟨s1,n1,p1⟩:=r
    dsimp only
    refine wpS_bind (wpS_mono (wpS_forRange (fun _ c st'=>c=(none,())∧Pnd κ kd a0 lo st'∧SegU κ (arrOf st') lo (lo + k)) (Q:=fun c st'=>c=(none,())∧Pnd κ kd a0 lo st'∧SegU κ (arrOf st') lo (lo + k)) (fun y c st' _ _ hI=>?_) (fun c st' hI=>hI) ⟨rfl,P2,sg⟩) ?_)
    ·obtain ⟨rfl,P3,sg3⟩:=hI
     refine wpS_bind (wpS_get ?_)
     by_cases c5:(pendingOf st').size > 1
     ·obtain ⟨u1,u2,u3,eu⟩:∃ a b c,(pendingOf st')[(pendingOf st').size - 2]?=some (a,b,c):=⟨_,_,_,Array.getElem?_eq_getElem (by lia)⟩
      rw [if_pos c5,eu]
      dsimp only
      split
      ·exact wpS_pure ⟨rfl,P3,sg3⟩
      ·refine wpS_bind (aAn C h0 P3 (by lia) fun st4 P4 _ o4=>?_)
       rw [if_neg (by simp)]
       exact wpS_pure ⟨rfl,P4,sg3.same fun k a c=>o4 k a⟩
     ·rw [if_neg c5]
      exact wpS_pure ⟨rfl,P3,sg3⟩
    ·rintro c st' ⟨rfl,P3,sg3⟩
     dsimp only
     refine wpS_bind (wpS_modify (wpS_bind (wpS_modify (wpS_pure ⟨_,rfl,(P3.mod (f:=fun x=>(x.fst,x.2.fst,_)) _ (fun a b c=>⟨_,rfl⟩)).push (by lia) sg3 (by lia),by lia⟩))))
 case post =>
  rintro c st' ⟨rfl,P⟩
  dsimp only
  refine wpS_bind (wpS_mono (wpS_forRange (fun x c st''=>c=(none,())∧Pnd κ kd a0 a0.size st''∧((pendingOf st'').size≤1∨(pendingOf st'').size + x≤a0.size)) (Q:=fun c st''=>c=(none,())∧Pnd κ kd a0 a0.size st''∧(pendingOf st'').size≤1) ?step2 ?fin2 ⟨rfl,P,.inr (by have:=P.runs.le; rw [Array.length_toList] at this; lia)⟩) ?post2)
  case fin2 =>
   rintro c st'' ⟨rfl,P2,hz⟩
   exact ⟨rfl,P2,by lia⟩
  case step2 =>
   rintro x c st'' _ hx ⟨rfl,P2,hz⟩
   refine wpS_bind (wpS_get ?_)
   by_cases c1:(pendingOf st'').size≤1
   ·rw [if_pos c1]
    exact wpS_pure ⟨rfl,P2,c1⟩
   rw [if_neg c1]
   refine wpS_bind (aAn C h0 P2 (by split <;> first | lia | (split <;> lia)) fun st4 P4 z4 _=>?_)
   rw [if_neg (by simp)]
   exact wpS_pure ⟨rfl,P4,by lia⟩
  case post2 =>
   rintro c st'' ⟨rfl,P2,hz⟩
   dsimp only
   refine wpS_pure (q st'' P2.sx P2.perm ?_)
   have r:=P2.runs
   have l:(pendingOf st'').toList.length≤1:=by rw [Array.length_toList]; exact hz
   generalize (pendingOf st'').toList=pl at r l
   match pl,r,l with
   | [],r,_ =>
    have e:0=a0.size:=r
    rw [← e]
    exact fun i j x y _ _ c=>absurd c (Nat.not_lt_zero j)
   | [(s1,n1,p1)],r,_ =>
    obtain ⟨_,_,r3,r4⟩:=r
    have e:0 + n1=a0.size:=r4
    rw [← e]; exact r3
   | _ :: _ :: _,_,l=>simp at l
end
end L2
namespace L2
open PySem PySem.Spec PyProof.Rows
noncomputable def intO:KeyOrd where
 α:=Int
 blt a b:=decide (a < b)
 irrefl a:=by simp
 trans a b c h1 h2:=by
  have:=of_decide_eq_true h1
  have:=of_decide_eq_true h2
  exact decide_eq_true (by lia)
 negTrans a b c h:=by
  have:=of_decide_eq_true h
  by_cases c1:a < b
  ·exact .inl (decide_eq_true c1)
  ·exact .inr (decide_eq_true (by lia))
 total a b h1 h2:=by
  have:=of_decide_eq_false h1
  have:=of_decide_eq_false h2
  lia
noncomputable def intK (p:Keyed):intO.α:=numOf p.1
noncomputable def intOk (p:Keyed):Prop:=∃ n t,p.1=Value.int n t
section
variable {prog:Program} {w:World} {A:Around} {E:Value→Shared→Prop} {s:Shared}
theorem aJT:Cm (model prog w) A E s intK intOk oneType':=⟨fun {st x y Q} hk hf ⟨a,t,hx⟩ ⟨b,u,hy⟩ q=>by
 obtain ⟨x1,x2⟩:=x
 obtain ⟨y1,y2⟩:=y
 simp only at hx hy
 subst hx hy
 rw [lt'_eq]
 refine wpS_bind (wpS_get ?_)
 rw [hk,keyLt'_oneType]
 refine wpS_bind (wpS_lift (wpAny_attempt (oneLt_int ⟨rfl,?_⟩)))
 exact wpS_pure q⟩
theorem aFD {xs:Array Keyed} {n:Nat} (hn:n=xs.size) (h:SegU intK xs 0 n):SortedTo xs n:=fun i j hij hj=>by
 subst hn
 have e1:xs[i]?=some xs[i]:=Array.getElem?_eq_getElem (by lia)
 have e2:xs[j]?=some xs[j]:=Array.getElem?_eq_getElem hj
 have:=h i j _ _ (Nat.zero_le _) hij hj e1 e2
 have h2:¬ (numOf xs[j].1 < numOf xs[i].1):=of_decide_eq_false this
 unfold K
 rw [e1,e2]
 show numOf xs[i].1≤numOf xs[j].1
 lia
theorem aGV {a:Addr} {vs:List Value} {ns:List Int} {n:Nat} {P:Fin→Shared→Prop} (ho:s.heap.get? a=some (seqObj "list" vs.toArray n)) (hI:IntsAre vs ns) (hz:vs.length≤1000000)
  (h:∀ (out:Array Value) (ns':List Int),IntsAre out.toList ns'→ns'.Perm ns→ns'.Pairwise (·≤·)→P (.done (.ret .none)) { s with heap:=sortedHeap s.heap a vs out }) :
  wpAny (model prog w) A (Builtin.«list.sort» ⟨[.ref a],[]⟩) P E s:=by
 by_cases h64:vs.length < 64
 ·exact list_sort_tree ho hI h64 h
 have szl:=sizeLine_eq
 have hsz:vs.toArray.size=vs.length:=by simp
 rw [list_sort_plain]
 have ha:a < s.heap.objs.size:=Heap.lt_size ho
 refine wpAny_bind (listItems_at ho rfl (wpAny_bind (listUpdate_at ho rfl ?_ (by rw [hsz]; lia))))
 have ho1:=get?_update_seq ho (fun _=>#[])
 generalize (if (#[]:Array Value).size == vs.toArray.size then n else n + 1)=e1 at ho1
 refine wpAny_bind (seqEpoch_at ho1 rfl (wpAny_bind (wpAny_newTuple (wpAny_bind (wpAny_newList (wpAny_holding ?_))) (by show vs.length≤sizeLine; lia))))
 have ho6:(((s.heap.update a (Obj.mapSeq fun _=>#[])).push (seqObj "tuple" vs.toArray 0)).push (seqObj "list" #[] 0)).get? a=some (seqObj "list" #[] e1):=by
  have z:a < (s.heap.update a (Obj.mapSeq fun _=>#[])).objs.size:=by rw [Heap.size_update]; exact ha
  rw [Heap.get?_push_of_some _ (Heap.get?_push_of_some _ ho1)]
 show wpAny (model prog w) A _ P E { s with heap:=((s.heap.update a (Obj.mapSeq fun _=>#[])).push (seqObj "tuple" vs.toArray 0)).push (seqObj "list" #[] 0) }
 dsimp only
 have h2:¬ vs.toArray.size < 2:=by rw [hsz]; lia
 rw [if_neg h2,if_neg h2]
 obtain ⟨v1,v2,rest,rfl⟩:∃ v1 v2 rest,vs=v1 :: v2 :: rest:=by
  match vs,h64 with
  | [],h=>simp at h
  | [_],h=>simp at h
  | v1 :: v2 :: rest,_=>exact ⟨v1,v2,rest,rfl⟩
 rw [keyKind_ints hI]
 refine wpAny_bind (wpAny_pure ?_)
 refine wpAny_bind (wpAny_mono (aEA (0:Int) aJT (a0:=pairsOf (v1 :: v2 :: rest)) (st:=SortSt.mk' oneType' ((v1 :: v2 :: rest).toArray.zip (v1 :: v2 :: rest).toArray) #[] 7 none)
  (Q:=fun _ st'=>Sx oneType' st'∧(arrOf st').Perm (pairsOf (v1 :: v2 :: rest))∧SegU intK (arrOf st') 0 (pairsOf (v1 :: v2 :: rest)).size)
  (fun x hx=>hI.intKeys x (by simpa using hx)) ⟨⟨rfl,rfl⟩,Array.Perm.refl _,rfl,Nat.zero_le _⟩ fun st' a1 a2 a3=>⟨a1,a2,a3⟩) ?_ fun _ _ e=>e)
 rintro ⟨⟨⟩,st'⟩ s' ⟨rfl,hx,hp,hs⟩
 dsimp only
 refine wpAny_bind (seqEpoch_at ho6 rfl (wpAny_bind (listUpdate_at ho6 rfl ?_ (Nat.zero_le _) (by rw [Array.size_map,hp.size_eq,pairsOf_size]; lia))))
 obtain ⟨ns',g1,g2,g3⟩:=sorted_out hI hp (aFD hp.size_eq.symm hs)
 rw [hx.2]
 simp only [bne_self_eq_false,Bool.false_eq_true,if_false]
 exact wpAny_pure (h _ ns' g1 g2 g3)
end
end L2
namespace L2
open PySem PySem.Spec PyProof.Rows
theorem aGW:∀ (fuel size n:Nat),size≤SetTable.sizeAbove.go n fuel size
 | 0,size,n=>by unfold SetTable.sizeAbove.go; exact Nat.le_refl _
 | fuel + 1,size,n=>by
  unfold SetTable.sizeAbove.go
  split
  ·have:=aGW fuel (size * 2) n; lia
  ·exact Nat.le_refl _
theorem aFE (n:Nat):8≤SetTable.sizeAbove n:=aGW 64 8 n
theorem aEB {l:List Nat} (h:l.Pairwise (· < ·)):jD l.toArray:=by
 intro i j hij hj
 have hj':j < l.length:=by simpa using hj
 have:=List.pairwise_iff_getElem.mp h i j (by lia) hj' hij
 simp only [Array.getD_eq_getD_getElem?,List.getElem?_toArray]
 rw [List.getElem?_eq_getElem (show i < l.length by lia),List.getElem?_eq_getElem hj']
 exact this
theorem aA7 {α:Type} (f:Nat→Option α):∀ {l:List Nat},l.Pairwise (· < ·)→((l.filterMap fun j=>(f j).map (j,·)).map (·.1)).Pairwise (· < ·)
 | [],_=>List.Pairwise.nil
 | x :: r,h=>by
  obtain ⟨h1,h2⟩:=List.pairwise_cons.mp h
  rw [List.filterMap_cons]
  cases f x with
  | none=>exact aA7 f h2
  | some y =>
   dsimp only [Option.map]
   rw [List.map_cons]
   refine List.pairwise_cons.mpr ⟨fun z hz=>?_,aA7 f h2⟩
   obtain ⟨p,hp,rfl⟩:=List.mem_map.mp hz
   obtain ⟨j,hj,e⟩:=List.mem_filterMap.mp hp
   cases hf:f j with
   | none=>rw [hf] at e; cases e
   | some u=>rw [hf] at e; cases e; exact h1 j hj
theorem aGX {t t':SetTable} {hs:Array Int} {n:Nat} {ord:Array Nat} (e:t.relaid hs n=some (t',ord)):TabOk t'∧t'.led=t.led:=by
 unfold SetTable.relaid SetTable.laid at e
 have h8:=aFE n
 cases c:SetTable.layClean (SetTable.sizeAbove n - 1) hs with
 | none=>rw [c] at e; cases e
 | some owner =>
  rw [c] at e
  cases e
  refine ⟨⟨rfl,aEB (aA7 _ ?_),by show 7≤SetTable.sizeAbove n - 1; lia⟩,rfl⟩
  exact List.pairwise_lt_range
theorem aEC {t:SetTable} {es:Array (Int×Value)} (h1:1≤es.size) (n:Nat):TabOk (relayAll t es n).2.1∧(relayAll t es n).2.1.led=t.led:=by
 unfold relayAll
 split
 ·rename_i t' ord e
  dsimp only
  split
  ·exact aGX e
  ·exact ⟨qW h1,rfl⟩
 ·exact ⟨qW h1,rfl⟩
noncomputable def SetG (prog:Program) (w:World) (h:Heap) (a:Addr) (ks:List Int):Prop :=
 ∃ o es ep t,h.get? a=some o∧o.ExactSet∧o.data=.set es ep t∧ElemsOf (intKind prog w) es.toList∧(∃ ms:List Int,Vals (ms.map V.int) (es.toList.map (·.2))∧ms.Perm ks)∧ks.Nodup∧es.size < scanBound∧t.fits es.size=true∧TabOk t∧t.led=!byT w
section
variable {prog:Program} {w:World} {A:Around} {E:Value→Shared→Prop} {s:Shared}
theorem aGY:∀ {ms:List Int} {vs:List Value} {k:Int},Vals (ms.map V.int) vs→(k∈ms↔∃ tk,Value.int k tk∈vs)
 | [],_,k,h=>by cases h; simp
 | m :: r,_,k,h=>by
  cases h with
  | @cons _ u _ us a b =>
   obtain ⟨t,rfl⟩:=a
   rw [List.mem_cons,aGY b]
   constructor
   ·rintro (rfl | ⟨tk,h⟩)
    ·exact ⟨t,List.mem_cons_self ..⟩
    ·exact ⟨tk,List.mem_cons_of_mem _ h⟩
   ·rintro ⟨tk,h⟩
    rcases List.mem_cons.mp h with h | h
    ·cases h; exact .inl rfl
    ·exact .inr ⟨tk,h⟩
theorem qh {a b:List V} {u v:List Value}:Vals a u→Vals b v→Vals (a++b) (u++v)
 | .nil,h=>h
 | .cons x r,h=>.cons x (qh r h)
theorem aCW {us vs:List Value} (p:us.Perm vs):∀ {ms:List Int},Vals (ms.map V.int) vs→∃ ns:List Int,Vals (ns.map V.int) us∧ns.Perm ms:=by
 induction p with
 | nil=>intro ms h; exact ⟨ms,h,List.Perm.refl _⟩
 | cons x _ ih =>
  intro ms h
  match ms,h with
  | [],h=>cases h
  | m :: r,.cons a b =>
   obtain ⟨ns,h1,h2⟩:=ih b
   exact ⟨m :: ns,.cons a h1,h2.cons m⟩
 | swap x y l =>
  intro ms h
  match ms,h with
  | [],h=>cases h
  | [m],h=>cases h with | cons a b=>cases b
  | m :: m2 :: r,.cons a (.cons b c)=>exact ⟨m2 :: m :: r,.cons b (.cons a c),List.Perm.swap m m2 r⟩
 | trans _ _ ih1 ih2 =>
  intro ms h
  obtain ⟨ns,h1,h2⟩:=ih2 h
  obtain ⟨ns',h3,h4⟩:=ih1 h1
  exact ⟨ns',h3,h4.trans h2⟩
theorem is_int {k:Int} {v:Value}:(intKind prog w).is k v=true↔∃ tk,v=.int k tk:=by
 constructor
 ·intro h
  cases v with
  | int m t =>
   have:=(intKind prog w).inj (.int m t) k m h (intKind_is _ _ _ _)
   exact ⟨t,by rw [this]⟩
  | _=>exact absurd h (by simp [intKind,Value.isInt])
 ·rintro ⟨tk,rfl⟩; exact intKind_is _ _ _ _
end
end L2
namespace L2
open PySem PySem.Spec PyProof.Rows
section
variable {prog:Program} {w:World} {A:Around} {E:Value→Shared→Prop} {s:Shared}
theorem SetG.keep {h h':Heap} {a:Addr} {ks:List Int} (x:SetG prog w h a ks) (k:∀ o,h.get? a=some o→h'.get? a=some o):SetG prog w h' a ks:=by
 obtain ⟨o,es,ep,t,ho,rest⟩:=x
 exact ⟨o,es,ep,t,k o ho,rest⟩
theorem SetG.len {h:Heap} {a:Addr} {ks:List Int} (x:SetG prog w h a ks):ks.length < 4096:=by
 obtain ⟨o,es,ep,t,ho,hex,hd,hel,⟨ms,hv,hp⟩,nd,hb,rest⟩:=x
 have l1:=hv.length
 simp only [List.length_map,Array.length_toList] at l1
 have l2:=hp.length_eq
 have:scanBound=4096:=rfl
 lia
noncomputable def addK (ks:List Int) (k:Int):List Int:=if k∈ks then ks else ks++[k]
theorem aFF {ks:List Int} {k:Int} (h:ks.Nodup):(addK ks k).Nodup:=by
 unfold addK
 split
 ·exact h
 ·rename_i c
  exact List.nodup_append.mpr ⟨h,by simp,fun a ha b hb=>by rw [List.mem_singleton.mp hb]; exact fun z=>c (z ▸ ha)⟩
theorem aHV {ks:List Int} {k m:Int}:m∈addK ks k↔m∈ks∨m=k:=by
 unfold addK
 split
 ·rename_i c
  exact ⟨.inl,fun h=>h.elim id fun z=>z ▸ c⟩
 ·rw [List.mem_append,List.mem_singleton]
theorem aHW (ks:List Int) (k:Int):(addK ks k).length≤ks.length + 1:=by
 unfold addK
 split
 ·lia
 ·rw [List.length_append]; exact Nat.le_refl _
theorem aGZ {g:Bool→Sem Unit} (hg:∀ (b:Bool) (s₁:Shared) (Q':Unit→Shared→Prop),Q' () s₁→wpAny (model prog w) A (g b) Q' E s₁) {a:Addr} {o:Obj} {es:Array (Int×Value)} {ep:Nat} {t:SetTable} (ho:s.heap.get? a=some o) (hd:o.data=.set es ep t) {es1:Array (Int×Value)} {t2:SetTable} (hz:es1.size < scanBound) (h1:1≤es1.size) (hf2:t2.fits es1.size=true) (ok:TabOk t2) {wasDummy:Bool}
  {R:Option Bool→Shared→Prop} (h:∀ (h':Heap) (es3:Array (Int×Value)) (t3:SetTable) (ep3:Nat),Heap.SameBut a s.heap h'→h'.get? a=some { o with data:=.set es3 ep3 t3 }→es3.toList.Perm es1.toList→t3.fits es3.size=true→TabOk t3→t3.led=t2.led→R (some true) { s with heap:=h' }) :
  wpAny (model prog w) A (do
   storeSet a es1 t2
   if (!wasDummy && t2.tooFull)=true then do
    g (relayAll t2 es1 (SetTable.grown es1.size)).2.2
    storeSet a (relayAll t2 es1 (SetTable.grown es1.size)).1 (relayAll t2 es1 (SetTable.grown es1.size)).2.1
    pure (some true)
   else pure (some true)) R E s:=by
 have sl:=sizeLine_eq
 have sb:scanBound=4096:=rfl
 refine wpAny_bind (wpAny_storeSet_of ho hd ?_ (by lia))
 have hg1:(s.heap.update a (Obj.putSet es1 t2)).get? a=some { o with data:=.set es1 (ep + 1) t2 }:=by
  have:=Heap.get?_update_self (Obj.putSet es1 t2) ho (by rw [putSet_of es1 t2 hd]; rfl)
  rw [putSet_of es1 t2 hd] at this
  exact this
 split
 ·have pm:=relayAll_perm t2 es1 (SetTable.grown es1.size)
  have ft:=relayAll_fits t2 es1 (SetTable.grown es1.size)
  obtain ⟨ok2,led2⟩:=aEC (t:=t2) h1 (SetTable.grown es1.size)
  generalize relayAll t2 es1 (SetTable.grown es1.size)=Rl at pm ft ok2 led2 ⊢
  obtain ⟨es2,t3,gave2⟩:=Rl
  dsimp only at pm ft ok2 led2 ⊢
  have sz:es2.size=es1.size:=by rw [← Array.length_toList,pm.length_eq,Array.length_toList]
  refine wpAny_bind (hg _ _ _ (wpAny_bind (wpAny_storeSet_of hg1 rfl (wpAny_pure ?_) (by lia))))
  refine h _ es2 t3 (ep + 1 + 1) ((Heap.SameBut.update s.heap a (Obj.putSet es1 t2)).trans (Heap.SameBut.update _ a _)) ?_ pm ft ok2 led2
  have:=Heap.get?_update_self (Obj.putSet es2 t3) hg1 (by rw [putSet_of es2 t3 rfl]; rfl)
  rw [putSet_of es2 t3 rfl] at this
  exact this
 ·exact wpAny_pure (h _ es1 t2 (ep + 1) (Heap.SameBut.update s.heap a (Obj.putSet es1 t2)) hg1 (List.Perm.refl _) hf2 ok rfl)
theorem add_G {a:Addr} {ks:List Int} {tk:Nat} {k:Int} {Q:Bool→Shared→Prop} (hS:SetG prog w s.heap a ks) (hn:ks.length + 1 < 4096)
  (h:∀ (h':Heap) (b:Bool),Heap.SameBut a s.heap h'→SetG prog w h' a (addK ks k)→Q b { s with heap:=h' }) :
  wpAny (model prog w) A (setAddHashed a (.int k tk) ((intKind prog w).hash k)) Q E s:=by
 obtain ⟨o,es,ep,t,ho,hex,hd,hel,⟨ms,hv,hp⟩,nd,hb,hf,ok,hled⟩:=hS
 have sb:scanBound=4096:=rfl
 have hsz:es.size=ks.length:=by
  have l1:=hv.length
  simp only [List.length_map,Array.length_toList] at l1
  have l2:=hp.length_eq
  lia
 have hkey:(intKind prog w).is k (.int k tk)=true:=intKind_is _ _ _ _
 have hsc:(Value.int k tk).scannable=true:=rfl
 have mem:k∈ks↔∃ e∈es.toList,(intKind prog w).is k e.2=true:=by
  rw [← hp.mem_iff,aGY hv]
  constructor
  ·rintro ⟨tk,h⟩
   obtain ⟨e,he,h⟩:=List.mem_map.mp h
   exact ⟨e,he,is_int.mpr ⟨tk,h⟩⟩
  ·rintro ⟨e,he,h⟩
   obtain ⟨tk,h⟩:=is_int.mp h
   exact ⟨tk,List.mem_map.mpr ⟨e,he,h⟩⟩
 unfold setAddHashed setAddHashedIn
 refine wpAny_holding (wpAny_bind (wpAny_setState_of ho hd hf ?_))
 dsimp only
 rw [byScan_of hsc hb hel,if_pos rfl]
 unfold setAddByScan
 refine wpAny_bind (wpAny_bind (wpAny_rule (wpAny_bind (wpAny_setScan_of hkey ho hd hf hel ?_))))
 cases hr:List.findIdx? (fun e=>(intKind prog w).is k e.2) es.toList with
 | some j =>
  dsimp only
  obtain ⟨hj,hpj,_⟩:=List.findIdx?_eq_some_iff_getElem.mp hr
  have hin:k∈ks:=mem.mpr ⟨_,List.getElem_mem hj,hpj⟩
  refine wpAny_pure (wpAny_pure ?_)
  refine h s.heap false (Heap.SameBut.refl a s.heap) ?_
  unfold addK
  rw [if_pos hin]
  exact ⟨o,es,ep,t,ho,hex,hd,hel,⟨ms,hv,hp⟩,nd,hb,hf,ok,hled⟩
 | none =>
  dsimp only
  have hout:k ∉ ks:=fun z=>by
   obtain ⟨e,he,h⟩:=mem.mp z
   have:=List.findIdx?_eq_none_iff.mp hr e he
   rw [h] at this; cases this
  have way:∀ (b:Bool) {s₁:Shared} {Q':Unit→Shared→Prop},Q' () s₁→wpAny (model prog w) A (match b with | true=>rule "set.scan.the-table-gave-way" | false=>pure ()) Q' E s₁:=fun b s₁ Q' hq=>by
   cases b
   ·exact wpAny_pure hq
   ·exact wpAny_rule hq
  have pm:=layNew_perm t es ((intKind prog w).hash k) (.int k tk)
  have ft:=layNew_fits t es ((intKind prog w).hash k) (.int k tk)
  obtain ⟨okL,ledL⟩:=aGR ok es ((intKind prog w).hash k) (.int k tk)
  generalize layNew t es ((intKind prog w).hash k) (.int k tk)=L at pm ft okL ledL ⊢
  obtain ⟨es1,t1,wasDummy,gave⟩:=L
  dsimp only at pm ft okL ledL ⊢
  rw [Array.toList_push] at pm
  have sz1:es1.size=es.size + 1:=by rw [← Array.length_toList,pm.length_eq,List.length_append,Array.length_toList]; rfl
  have fin:∀ (t2:SetTable),t2.led=t.led→∀ (h':Heap) (es3:Array (Int×Value)) (t3:SetTable) (ep3:Nat),Heap.SameBut a s.heap h'→h'.get? a=some { o with data:=.set es3 ep3 t3 }→es3.toList.Perm es1.toList→t3.fits es3.size=true→TabOk t3→t3.led=t2.led→Q true { s with heap:=h' }:=fun t2 l2 h' es3 t3 ep3 hs hg p3 f3 o3 l3=>by
   have p:=p3.trans pm
   refine h h' true hs ⟨_,es3,ep3,t3,hg,hex,rfl,(hel.push hkey hsc).perm p,?_,aFF nd,?_,f3,o3,(l3.trans l2).trans hled⟩
   ·have v2:Vals ((ms++[k]).map V.int) ((es.toList++[((intKind prog w).hash k,Value.int k tk)]).map (·.2)):=by
     rw [List.map_append,List.map_append]
     exact qh hv (.cons ⟨tk,rfl⟩ .nil)
    obtain ⟨ns,n1,n2⟩:=aCW (p.map (·.2)) v2
    refine ⟨ns,n1,n2.trans ?_⟩
    unfold addK
    rw [if_neg hout]
    exact List.Perm.append_right _ hp
   ·rw [← Array.length_toList,p3.length_eq,Array.length_toList,sz1,sb]; lia
  refine wpAny_bind (way _ ?_)
  have gw:∀ (b:Bool) (s₁:Shared) (Q':Unit→Shared→Prop),Q' () s₁→wpAny (model prog w) A (match b with | true=>rule "set.scan.the-table-gave-way" | false=>pure ()) Q' E s₁:=fun b s₁ Q' hq=>way b hq
  split
  ·refine wpAny_bind ?_
   rw [hashByValue_scannable 8 hsc]
   refine wpAny_pure ?_
   refine aGZ gw ho hd (by lia) (by lia) ?_ ?_ fun h' es3 t3 ep3 hs hg p3 f3 o3 l3=>?_
   ·exact ft
   ·exact okL
   ·dsimp only
    exact wpAny_pure (fin _ ledL h' es3 t3 ep3 hs hg p3 f3 o3 l3)
  ·refine wpAny_bind (wpAny_pure ?_)
   simp only [↓reduceIte]
   refine aGZ gw ho hd (by lia) (by lia) ft okL fun h' es3 t3 ep3 hs hg p3 f3 o3 l3=>?_
   dsimp only
   exact wpAny_pure (fin _ ledL h' es3 t3 ep3 hs hg p3 f3 o3 l3)
end
end L2
namespace L2
open PySem PySem.Spec PyProof.Rows
noncomputable def ddI (ns:List Int):List Int:=ns.foldl addK []
theorem aHX (ns:List Int) (k:Int):ddI (ns++[k])=addK (ddI ns) k:=by unfold ddI; rw [List.foldl_append]; rfl
theorem aHY {ns:List Int} {i:Nat} {k:Int} (h:ns[i]?=some k):ddI (ns.take (i + 1))=addK (ddI (ns.take i)) k:=by
 rw [List.take_add_one,h]; exact aHX _ _
theorem aEf:∀ (ns acc:List Int),(ns.foldl addK acc).length≤acc.length + ns.length
 | [],acc=>by simp
 | k :: r,acc=>by
  have h1:=aEf r (addK acc k)
  have h2:=aHW acc k
  rw [List.foldl_cons,List.length_cons]; lia
theorem aGa (ns:List Int):(ddI ns).length≤ns.length:=by have:=aEf ns []; rw [List.length_nil] at this; unfold ddI; lia
theorem aEg {m:Int}:∀ (ns acc:List Int),m∈ns.foldl addK acc↔m∈acc∨m∈ns
 | [],acc=>by simp
 | k :: r,acc=>by
  rw [List.foldl_cons,aEg r,aHV,List.mem_cons,or_assoc]
theorem aId {m:Int} {ns:List Int}:m∈ddI ns↔m∈ns:=by
 unfold ddI
 rw [aEg]
 simp
section
variable {prog:Program} {w:World} {A:Around} {R:Result→Shared→Prop} {I:Addr} {fp wr:List Addr} {G:Array GenState→Array GenState→Prop} {n:Nat} {P:Nat→Value→Prop} {St:Nat→Shared→Prop}
theorem aJU (W:WalksS prog w A.in1 I fp wr G n P St) (S:Addr) (hSf:S ∉ fp) (ns:List Int) (hval:∀ i v,P i v→∃ k t,v=.int k t∧ns[i]?=some k) (hb:n < 4095) :
  ∀ (k i:Nat) (s:Shared),n - i=k→i≤n→St i s→SetG prog w s.heap S (ddI (ns.take i)) →
   (∀ s',Moved (S :: wr) G s s'→SetG prog w s'.heap S (ddI (ns.take n))→R (.ok (.ret .none)) s') →
   codeAny (model prog w) A (.builtin "set.update.loop" ⟨[.ref S,.ref I],[]⟩) R s:=by
 have hSw:S ∉ wr:=fun h=>hSf (W.sub _ h)
 have hsub:∀ b∈wr,b∈S :: wr:=fun b hb=>List.mem_cons_of_mem _ hb
 intro k
 induction k with
 | zero =>
  intro i s hk hi hst hS hR
  have hin:i=n:=by lia
  subst hin
  refine codeAny_builtin F.entry_set_update_loop ?_
  rw [Around.under_plainId F.plain_set_update_loop _]
  show wpAny _ A.in1 (pyNext (.ref I) >>= _) _ _ s
  refine wpAny_bind (W.done s _ _ hst fun s' hm=>?_)
  show wpAny _ A.in1 (ret Value.none) _ _ s'
  exact wpAny_pure (hR s' (hm.mono hsub) (hS.keep fun o e=>hm.heap S _ hSw e))
 | succ k ih =>
  intro i s hk hi hst hS hR
  have hlt:i < n:=by lia
  refine codeAny_builtin F.entry_set_update_loop ?_
  rw [Around.under_plainId F.plain_set_update_loop _]
  show wpAny _ A.in1 (pyNext (.ref I) >>= _) _ _ s
  refine wpAny_bind (W.item i s _ _ hlt hst fun v s' hP hst' hm=>?_)
  obtain ⟨z,t,rfl,hz⟩:=hval i v hP
  have hS':SetG prog w s'.heap S (ddI (ns.take i)):=hS.keep fun o e=>hm.heap S _ hSw e
  show wpAny _ A.in1 (holding [Value.int z t] (setAdd S (.int z t)) >>= _) _ _ s'
  refine wpAny_bind (wpAny_holding ?_)
  unfold setAdd
  refine wpAny_holding (wpAny_bind ((intKind prog w).pyHash (k:=z) (intKind_is _ _ _ _) ?_))
  refine add_G (s:={ s' with toks:=s'.toks + 1 }) hS' (by have:=aGa (ns.take i); rw [List.length_take] at this; lia) fun h' b hsb hS2=>?_
  rw [← aHY hz] at hS2
  refine wpAny_pure ⟨plainId_quiet F.plain_set_update_loop _,ih (i + 1) _ (by lia) hlt (W.frame _ s' _ _ hst' (Nat.le_succ _) fun b hb o e=>?_) hS2 fun s'' hm'' hS''=>?_⟩
  ·rw [hsb.2 b (fun h:b=S=>hSf (by rw [← h]; exact hb))]; exact e
  ·refine hR s'' (Moved.trans W.gtrans ((hm.mono hsub).then_heap (Nat.le_succ _) fun b o hb e=>?_) hm'') hS''
   rw [hsb.2 b (fun h:b=S=>hb (by rw [h]; exact List.mem_cons_self))]; exact e
end
end L2
namespace L2
open PySem PySem.Spec PyProof.Rows
section
variable {prog:Program} {w:World} {A:Around} {E:Value→Shared→Prop} {s:Shared}
theorem aJV {h:Heap} {a:Addr} (e:h.get? a=some (newS w)):SetG prog w h a (ddI []) :=
 ⟨_,#[],0,_,e,⟨rfl,rfl,rfl⟩,rfl,fun x hx=>by simp at hx,⟨[],.nil,List.Perm.refl _⟩,List.nodup_nil,by decide,rfl,⟨rfl,fun i j _ hj=>by simp [SetTable.fresh] at hj,Nat.le_refl _⟩,rfl⟩
theorem set_G {l:Addr} {items:Array Value} {ns:List Int} {Q:Value→Shared→Prop}
  (hh:A.handled=none) (hl:s.heap.IsList l items) (hi:∀ (i:Nat) (v:Value),items[i]?=some v→∃ k t,v=.int k t∧ns[i]?=some k) (hb:items.size < 4095) (hns:ns.length=items.size)
  (h:∀ (h':Heap) (tk:Nat),SetG prog w h' s.heap.objs.size (ddI ns)→(∀ b o,b < s.heap.objs.size→s.heap.get? b=some o→h'.get? b=some o)→Q (.ref s.heap.objs.size) { s with heap:=h',toks:=tk }) :
  wpAny (model prog w) A (call (.type "set") [.ref l]) Q E s:=by
 obtain ⟨c,tl,hmro⟩:=F.called_set.mro
 have hmade:=F.called_set.made
 have hsub:=F.called_set.sub
 refine wpAny_call (codeAny_of_tree ?_)
 show wpAny _ _ (callAny (.type "set") _) _ _ _
 refine wpAny_pure ⟨Code.quiet_builtin _ (by decide +kernel),codeAny_builtin F.entry_type_call ?_⟩
 rw [Around.under_plain (weight_type_call_type "set" [.ref l] []) rfl]
 have h1:=F.called_set.notType
 have h2:=F.called_set.canCreate
 have hct:=F.typeCall_set_1 (.ref l)
 repeat (any_goals (first | assumption | wp_step))
 refine codeAny_mono (new_L (.ref l) (E:=E) (Q₁:=fun obj s₁=>obj=.ref s.heap.objs.size∧s₁={ s with heap:=s.heap.push (newS w) }) ⟨rfl,rfl⟩) fun r s₁ hr=>?_
 cases r with
 | error e=>exact hr
 | ok fl =>
  cases fl with
  | ret obj =>
   obtain ⟨rfl,rfl⟩:=hr
   have hS:(s.heap.push (newS w)).get? s.heap.objs.size=some (newS w):=Heap.get?_push_size _ rfl
   have hT:Shared.TypeIs { s with heap:=s.heap.push (newS w) } (.ref s.heap.objs.size) "set":=⟨_,hS,rfl⟩
   have hli:=F.called_set.init.lookup
   have hbi:=F.called_set.init.bind (.ref s.heap.objs.size)
   repeat (any_goals (first | assumption | wp_step))
   refine codeAny_mono (codeAny_call_builtin (R:=wants (fun r s₂=>r=.none∧∃ h' tk,s₂={ s with heap:=h',toks:=tk }∧SetG prog w h' s.heap.objs.size (ddI ns) ∧
     (∀ b o,b < s.heap.objs.size→s.heap.get? b=some o→h'.get? b=some o)) E) F.called_set.init.plain F.entry_set_init (check_set_init_1 hT ?_)) fun r₂ s₂ hr₂=>?_
   ·obtain ⟨ol,hol,hcl,nl,hdl⟩:=hl
    obtain ⟨ocls,odict,odata,oslots⟩:=ol
    simp only at hcl hdl
    subst hcl; subst hdl
    have hol':(s.heap.push (newS w)).get? l=some { cls:=.type "list",dict:=odict,data:=.seq items nl,slots:=oslots }:=Heap.get?_push_of_some _ hol
    have hsls:=F.sub_list_set
    have hslf:=F.sub_list_frozenset
    have hne:(Value.type "list" == Value.type "dict")=false:=by decide
    have hl1:(s.heap.push (newS w)).IsList l items:=⟨_,hol',rfl,nl,rfl⟩
    unfold Builtin.«set.__init__» noKeywords Builtin.Frozenset.updateFrom
    generalize hPI:pyIter=PI
    wp_walk
    subst hPI
    refine wpAny_pyIter_list hl1 (wpAny_bind (wpAny_runValue ?_))
    have hlS:l < s.heap.objs.size:=Heap.lt_size hol
    have hh3:A.in1.in1.in1.handled=none:=by simp [hh]
    have zN:(s.heap.push (newS w)).objs.size=s.heap.objs.size + 1:=Heap.size_push _ _
    have hneI:l≠(s.heap.push (newS w)).objs.size:=by rw [zN]; exact Nat.ne_of_lt (Nat.lt_succ_of_lt hlS)
    have hSf:s.heap.objs.size ∉ [(s.heap.push (newS w)).objs.size,l]:=by
     rw [zN]
     simp only [List.mem_cons,List.not_mem_nil,or_false,not_or]
     exact ⟨Nat.ne_of_lt (Nat.lt_succ_self _),Nat.ne_of_gt hlS⟩
    refine aJU ((Walks.list hh3 _ l hneI items).toS) s.heap.objs.size hSf ns hi hb (items.size - 0) 0 _ (by lia) (Nat.zero_le _) ⟨⟨_,Heap.get?_push_size _ rfl,rfl,rfl⟩,(hl1.push _)⟩ ?hS0 ?hR
    case hS0=>rw [List.take_zero]; exact aJV (Heap.get?_push_of_some _ hS)
    case hR =>
     intro s' hm hS'
     obtain ⟨h',g',d',tk',os'⟩:=s'
     have eg:g'=s.gens:=hm.gens
     have ed:d'=s.drawn:=hm.drawn
     have eo:os'=s.os:=hm.os
     subst eg; subst ed; subst eo
     rw [← hns,List.take_length] at hS'
     show wpAny _ _ _ _ _ _
     refine wpAny_pure ?_
     show wpAny _ _ (ret Value.none) _ _ _
     refine wpAny_pure ⟨rfl,h',tk',rfl,hS',fun b o hb e=>?_⟩
     exact hm.heap b o (by rw [zN]; simp only [List.mem_cons,List.not_mem_nil,or_false,not_or]; exact ⟨Nat.ne_of_lt hb,Nat.ne_of_lt (Nat.lt_succ_of_lt hb)⟩) (Heap.get?_push_of_some _ (Heap.get?_push_of_some _ e))
   ·cases r₂ with
    | error e=>exact hr₂
    | ok fl₂ =>
     cases fl₂ with
     | ret r =>
      obtain ⟨rfl,h',tk,rfl,hS',hk'⟩:=hr₂
      repeat (any_goals (first | assumption | wp_step))
      exact h _ _ hS' hk'
     | _=>exact hr₂.elim
  | _=>exact hr.elim
end
end L2
namespace L2
open PySem PySem.Spec PyProof.Rows
noncomputable def SIter (h:Heap) (it a:Addr) (first:Value) (i n ep:Nat):Prop:=∃ o,h.get? it=some o∧o.cls=.type "set_iterator"∧o.data=.fields #[first,.int i 0,.ref a,.int n 0,.int ep 0]
theorem SIter.typeIs {s:Shared} {it a:Addr} {first:Value} {i n ep:Nat} (x:SIter s.heap it a first i n ep):s.TypeIs (.ref it) "set_iterator":=by
 obtain ⟨o,h1,h2,_⟩:=x
 exact ⟨o,h1,h2⟩
end L2
namespace L2
open PySem PySem.Spec PyProof.Rows
theorem slot_si_next:Slot "set_iterator" "__next__" "set_iterator.__next__" :=
 .of (owner:="set_iterator") (n:="__next__") (by rw [typeLookup_type,builtinLookup_eq_fast]; kernel_rfl) (by decide +kernel) (by decide +kernel) (by decide +kernel)
  (by first | exact .inl (by decide +kernel) | exact .inr (by decide +kernel)) (by rw [isSubtype_type]; kernel_rfl)
theorem yP:entryFor table "set_iterator.__next__"=some Builtin.«set_iterator.__next__»:=entryFor_of_fast (by kernel_rfl)
theorem yZ (a:Value):argsOk "set_iterator.__next__" ⟨[a],[]⟩:=by unfold argsOk; kernel_rfl
section
variable {prog:Program} {w:World} {A:Around} {E:Value→Shared→Prop} {s:Shared}
theorem aFG {it a:Addr} {slot i n ep:Nat} {o:Obj} {es:Array (Int×Value)} {t:SetTable} {x:Int×Value} {Q:Option Value→Shared→Prop} (hit:SIter s.heap it a (.int slot 0) i n ep) (ho:s.heap.get? a=some o) (hd:o.data=.set es ep t) (hf:t.fits es.size=true) (hn:es.size=n)
  (hbt:byT w=false) (hdr:(!t.plain && decide (es.size > 1))=false) (hled:t.led=true) (hx:es[i]?=some x) (hb:SetTable.below t.place slot=i)
  (hQ:∀ h',SIter h' it a (.int ((t.place.getD i 0 + 1:Nat):Int) 0) (i + 1) n ep→Heap.SameBut it s.heap h'→Q (some x.2) { s with heap:=h' }):wpAny (model prog w) A (pyNext (.ref it)) Q E s:=by
 obtain ⟨oi,hoi,hci,hdi⟩:=id hit
 have hi:i < es.size:=(Array.getElem?_eq_some_iff.mp hx).1
 have hp:t.place.size=es.size:=by
  simp only [SetTable.fits,Bool.and_eq_true,beq_iff_eq] at hf
  exact hf.1
 unfold pyNext
 refine wpAny_bind (wpAny_attempt (wpAny_callSpecial?_slot (name:=Str.ofString "__next__") hit.typeIs slot_si_next (wpAny_call_entry slot_si_next hit.typeIs yP ?_ (yZ _))))
 show wpAny _ _ (fieldsOf (.ref it) >>= _) _ _ s
 refine wpAny_bind (wpAny_fieldsOf hoi hdi ?_)
 dsimp only
 refine wpAny_bind (wpAny_setEntries_of ho hd hf ?_)
 rw [hn]
 simp only [bne_self_eq_false,Bool.false_eq_true,if_false]
 unfold setNext
 refine wpAny_bind (wpAny_bind (wpAny_setState_of ho hd hf ?_))
 dsimp only
 unfold setsByText
 refine wpAny_bind (wpAny_bind (wpAny_askSetting (wpAny_pure ?_)))
 rw [if_neg (fun e=>by have e2:byT w=true:=e; rw [hbt] at e2; cases e2)]
 rw [if_neg (fun e=>by have e2:(!t.plain && decide (es.size > 1))=true:=e; rw [hdr] at e2; cases e2)]
 refine wpAny_bind ?_
 show wpAny _ _ (if (!t.led && !es.isEmpty)=true then unsupported "set:maker-not-led" else pure ()) _ _ _
 rw [hled,if_neg (by simp)]
 refine wpAny_pure ?_
 have hpi:t.place[i]?=some (t.place.getD i 0):=by
  have:i < t.place.size:=by lia
  rw [Array.getD_eq_getD_getElem?,Array.getElem?_eq_getElem this]
  rfl
 simp only [Int.toNat_natCast,hb,hx,hpi]
 refine wpAny_pure ?_
 dsimp only
 refine wpAny_bind (wpAny_setField hoi hdi (by simp) ?_)
 have ho2:=Heap.get?_update_self (Obj.mapFields fun vs=>vs.setIfInBounds 0 (rawInt ((t.place.getD i 0 + 1:Nat):Int))) hoi (Obj.isFreed_of_fields (Obj.data_mapFields hdi _))
 have hd2:(Obj.mapFields (fun vs=>vs.setIfInBounds 0 (rawInt ((t.place.getD i 0 + 1:Nat):Int))) oi).data=.fields #[.int ((t.place.getD i 0 + 1:Nat):Int) 0,.int i 0,.ref a,.int n 0,.int ep 0]:=by
  rw [Obj.data_mapFields hdi]
  rfl
 refine wpAny_bind (wpAny_setField ho2 hd2 (by simp) (wpAny_pure ⟨_,rfl,wpAny_pure (hQ _ ?_ ((Heap.SameBut.update ..).trans (Heap.SameBut.update ..)))⟩))
 exact ⟨_,Heap.get?_update_self _ ho2 (Obj.isFreed_of_fields (Obj.data_mapFields hd2 _)),(Obj.cls_mapFields ..).trans ((Obj.cls_mapFields ..).trans hci),by rw [Obj.data_mapFields hd2]; rfl⟩
end
end L2
namespace L2
open PySem PySem.Spec PyProof.Rows
theorem aGb {α:Type} (next:Nat→Nat):∀ (fuel k:Nat) (left:List α) (out:Array α),left.length=fuel→(pickOrder.go next fuel k left out).size=out.size + left.length∧∀ x∈pickOrder.go next fuel k left out,x∈out∨x∈left
 | 0,k,left,out,h=>by
  have e:pickOrder.go next 0 k left out=out:=by unfold pickOrder.go; rfl
  rw [e]
  exact ⟨by lia,fun x hx=>.inl hx⟩
 | fuel + 1,k,left,out,h=>by
  have lt:next k % left.length < left.length:=Nat.mod_lt _ (by lia)
  have e:pickOrder.go next (fuel + 1) k left out=pickOrder.go next fuel (k + 1) (left.eraseIdx (next k % left.length)) (out.push left[next k % left.length]):=by
   rw [pickOrder.go,List.getElem?_eq_getElem lt]
  have le:(left.eraseIdx (next k % left.length)).length=fuel:=by rw [List.length_eraseIdx_of_lt lt]; lia
  obtain ⟨a,b⟩:=aGb next fuel (k + 1) (left.eraseIdx (next k % left.length)) (out.push left[next k % left.length]) le
  rw [e]
  refine ⟨by rw [a,Array.size_push]; lia,fun x hx=>?_⟩
  rcases b x hx with h | h
  ·rcases Array.mem_push.mp h with h | h
   ·exact .inl h
   ·exact .inr (by rw [h]; exact List.getElem_mem lt)
  ·exact .inr (List.mem_of_mem_eraseIdx h)
theorem aGc {α:Type} (next:Nat→Nat) (xs:Array α):(pickOrder next xs).size=xs.size∧∀ x∈pickOrder next xs,x∈xs.toList:=by
 unfold pickOrder
 obtain ⟨a,b⟩:=aGb next xs.size 0 xs.toList #[] (by simp)
 refine ⟨by rw [a]; simp,fun x hx=>?_⟩
 rcases b x hx with h | h
 ·simp at h
 ·exact h
section
variable {prog:Program} {w:World} {A:Around} {E:Value→Shared→Prop} {s:Shared}
theorem wp_if {M:Model} {α:Type} {c:Prop} [Decidable c] {p q:Sem α} {R:α→Shared→Prop} (h:c) (k:wpAny M A p R E s):wpAny M A (if c then p else q) R E s:=by rw [if_pos h]; exact k
theorem aA8 {M:Model} {α:Type} {c:Prop} [Decidable c] {p q:Sem α} {R:α→Shared→Prop} (h:¬ c) (k:wpAny M A q R E s):wpAny M A (if c then p else q) R E s:=by rw [if_neg h]; exact k
end
end L2
namespace L2
open PySem PySem.Spec PyProof.Rows
section
variable {prog:Program} {w:World} {A:Around} {E:Value→Shared→Prop} {s:Shared}
theorem aFH {it a tp:Addr} {i n ep p nt:Nat} {o ot:Obj} {es:Array (Int×Value)} {t:SetTable} {x:Int×Value} {places:Array Value} {Q:Option Value→Shared→Prop} (hit:SIter s.heap it a (.ref tp) i n ep) (ho:s.heap.get? a=some o) (hd:o.data=.set es ep t) (hf:t.fits es.size=true) (hn:es.size=n)
  (hot:s.heap.get? tp=some ot) (hdt:ot.data=.seq places nt) (hp:places[i]?=some (.int p 0)) (hx:es[p]?=some x)
  (hQ:∀ h',SIter h' it a (.ref tp) (i + 1) n ep→Heap.SameBut it s.heap h'→Q (some x.2) { s with heap:=h' }):wpAny (model prog w) A (pyNext (.ref it)) Q E s:=by
 obtain ⟨oi,hoi,hci,hdi⟩:=id hit
 unfold pyNext
 refine wpAny_bind (wpAny_attempt (wpAny_callSpecial?_slot (name:=Str.ofString "__next__") hit.typeIs slot_si_next (wpAny_call_entry slot_si_next hit.typeIs yP ?_ (yZ _))))
 show wpAny _ _ (fieldsOf (.ref it) >>= _) _ _ s
 refine wpAny_bind (wpAny_fieldsOf hoi hdi ?_)
 dsimp only
 refine wpAny_bind (wpAny_setEntries_of ho hd hf ?_)
 rw [hn]
 simp only [bne_self_eq_false,Bool.false_eq_true,if_false]
 refine wpAny_bind (wpAny_seqItems hot hdt ?_)
 simp only [Int.toNat_natCast,hp]
 unfold setNextDrawn
 refine wpAny_bind (wpAny_bind (wpAny_setState_of ho hd hf ?_))
 dsimp only
 refine aA8 (by simp) ?_
 rw [hx]
 refine wpAny_pure ?_
 refine wpAny_bind (wpAny_setField hoi hdi (by simp) (wpAny_pure ⟨_,rfl,wpAny_pure (hQ _ ?_ (Heap.SameBut.update ..))⟩))
 exact ⟨_,Heap.get?_update_self _ hoi (Obj.isFreed_of_fields (Obj.data_mapFields hdi _)),(Obj.cls_mapFields ..).trans hci,by rw [Obj.data_mapFields hdi]; rfl⟩
theorem aJW {it a:Addr} {first:Value} {i n ep:Nat} {o:Obj} {es:Array (Int×Value)} {t:SetTable} {Q:Option Value→Shared→Prop} (hh:A.handled=none) (hit:SIter s.heap it a (.int first' 0) i n ep) (ho:s.heap.get? a=some o) (hd:o.data=.set es ep t) (hf:t.fits es.size=true) (hn:es.size=n)
  (hnone:∀ R:Option (Value×Nat)→Shared→Prop,R none s→wpAny (model prog w) A.in1 (setNext a (first':Int).toNat (i:Int).toNat (ep:Int).toNat) R (fun e s'=>wpAny (model prog w) A (do if (← isInstance e (.type "StopIteration")) then pure none else throw e) Q E s') s)
  (hQ:∀ h',Heap.ExtBut it s.heap h'→Q none { s with heap:=h' }):wpAny (model prog w) A (pyNext (.ref it)) Q E s:=by
 obtain ⟨oi,hoi,hci,hdi⟩:=id hit
 unfold pyNext
 refine wpAny_bind (wpAny_attempt (wpAny_callSpecial?_slot (name:=Str.ofString "__next__") hit.typeIs slot_si_next (wpAny_call_entry slot_si_next hit.typeIs yP ?_ (yZ _))))
 show wpAny _ _ (fieldsOf (.ref it) >>= _) _ _ s
 refine wpAny_bind (wpAny_fieldsOf hoi hdi ?_)
 dsimp only
 refine wpAny_bind (wpAny_setEntries_of ho hd hf ?_)
 rw [hn]
 simp only [bne_self_eq_false,Bool.false_eq_true,if_false]
 refine wpAny_bind (hnone _ ?_)
 dsimp only
 refine wpAny_bind (wpAny_setField hoi hdi (by simp) ?_)
 show wpAny _ _ (newExc (.type "StopIteration") [] >>= _) _ _ _
 refine wpAny_bind ?_
 simp only [newExc,newTuple]
 refine wpAny_bind (wpAny_newObj_type ?_ (by size_fits))
 refine wpAny_bind (m:=firstArgMember _ _) (wpAny_of_eq (a:=Value.none) (by first | rfl | (simp only [firstArgMember]; rfl)) ?_)
 refine wpAny_newObj_type ?_ (by size_fits)
 simp only [raiseNew]
 refine wpAny_bind (wpAny_handled ?_)
 rw [show A.in1.handled=none from hh]
 refine wpAny_bind (wpAny_pure (wpAny_throw ?_))
 refine wpAny_bind (wpAny_isInstance (T:="StopIteration") (b:=true) ⟨_,Heap.get?_push_size _ rfl,rfl⟩ isSubtype_stop ?_)
 exact wpAny_pure (hQ _ (((Heap.SameBut.update ..).extBut.push _).push _))
end
end L2
namespace L2
open PySem PySem.Spec PyProof.Rows
theorem yn:Slot "set_iterator" "__iter__" "set_iterator.__iter__" :=
 .of (owner:="set_iterator") (n:="__iter__") (by rw [typeLookup_type,builtinLookup_eq_fast]; kernel_rfl) (by decide +kernel) (by decide +kernel) (by decide +kernel)
  (by first | exact .inl (by decide +kernel) | exact .inr (by decide +kernel)) (by rw [isSubtype_type]; kernel_rfl)
theorem jF:entryFor table "set_iterator.__iter__"=some Builtin.«dict_keyiterator.__iter__» :=
 entryFor_alias (id':="dict_keyiterator.__iter__") (by kernel_rfl) rfl (by decide +kernel) (by kernel_rfl)
theorem jg (a:Value):argsOk "set_iterator.__iter__" ⟨[a],[]⟩:=by unfold argsOk; kernel_rfl
theorem qa:entryFor table "set.__iter__"=some Builtin.«frozenset.__iter__» :=
 entryFor_alias (id':="frozenset.__iter__") (by kernel_rfl) rfl (by decide +kernel) (by kernel_rfl)
theorem jG (a:Value):argsOk "set.__iter__" ⟨[a],[]⟩:=by unfold argsOk; kernel_rfl
section
variable {prog:Program} {w:World} {A:Around} {E:Value→Shared→Prop} {s:Shared}
end
end L2
namespace L2
open PySem PySem.Spec PyProof.Rows
section
variable {prog:Program} {w:World} {A:Around} {E:Value→Shared→Prop} {s:Shared}
theorem aHx {r:Addr} {Q:Bool→Shared→Prop} (hT:s.TypeIs (.ref r) "set") (h:Q false s):wpAny (model prog w) A (Builtin.List.listLengthHint (.ref r)) Q E s:=by
 unfold Builtin.List.listLengthHint
 refine wpAny_bind (wpAny_specialOf hT PySem.F.slot_set_len.lookup ?_)
 generalize hid:("set.__len__":String)=id0
 wp_delta
 rw [show splitId id0=some ("set","__len__") from by subst hid; decide +kernel]
 subst hid
 refine wpAny_bind (wpAny_isInstance (T:="set") (b:=true) hT (by rw [isSubtype_type]; kernel_rfl) ?_)
 refine wpAny_ite_split (fun hab=>absurd hab (by decide)) (fun _=>?_)
 refine wpAny_ite_split (fun _=>?_) (fun hab=>absurd (by decide +kernel) hab)
 refine wpAny_bind (wpAny_typeOf hT ?_)
 exact wpAny_pure h
noncomputable def oIter (a:Addr) (n ep:Nat):Obj:={ cls:=.type "set_iterator",data:=.fields #[.int ((0:Nat):Int) 0,.int ((0:Nat):Int) 0,.ref a,.int n 0,.int ep 0] }
end
end L2
namespace L2
open PySem PySem.Spec PyProof.Rows PySem.W
section
variable {prog:Program} {w:World} {A:Around} {E:Value→Shared→Prop} {s:Shared}
theorem aJX {R:Result→Shared→Prop} {T:String} {S r d:Addr} {n:Nat} {P:Nat→Value→Prop} {OK:Heap→Prop} (K:KdlSrc prog w T r d n P OK) (hh:A.handled=none) (hok:OK s.heap) (hSr:S≠r) (hSd:S≠d) (hS:s.heap.get? S=some { cls:=.type "list",data:=.seq #[] 0 }) (hn:n≤sizeLine)
  (hR:∀ h' tk acc' c',(∀ b o,b≠S→s.heap.get? b=some o→h'.get? b=some o)→h'.get? S=some { cls:=.type "list",dict:=none,data:=.seq acc' c',slots:=#[] }→ItemsOf P acc' n→R (.ok (.ret (.ref S))) { s with heap:=h',toks:=tk }) :
  codeAny (model prog w) A (.builtin "list.__iadd__" ⟨[.ref S,.ref r],[]⟩) R s:=by
 refine codeAny_builtin entry_list_iadd' ?_
 rw [Around.under_plainId PySem.F.plain_list_iadd _]
 exact kdl_extend K hh hok S hSr hSd (.ref S) 0 hS hR hn
end
end L2
namespace L2
open PySem PySem.Spec PyProof.Rows PySem.W
theorem jS {α:Type}:∀ (l:List α) (i:Nat) (h:i < l.length),(l[i] :: l.eraseIdx i).Perm l
 | x :: r,0,h=>List.Perm.refl _
 | x :: r,i + 1,h=>(List.Perm.swap x _ _).trans ((jS r i (by simpa using h)).cons x)
theorem aEh {α:Type} (next:Nat→Nat):∀ (fuel k:Nat) (left:List α) (out:Array α),left.length=fuel→(pickOrder.go next fuel k left out).toList.Perm (out.toList++left)
 | 0,k,left,out,h=>by
  have e:pickOrder.go next 0 k left out=out:=by unfold pickOrder.go; rfl
  have el:left=[]:=List.eq_nil_of_length_eq_zero h
  rw [e,el,List.append_nil]
 | fuel + 1,k,left,out,h=>by
  have lt:next k % left.length < left.length:=Nat.mod_lt _ (by lia)
  have e:pickOrder.go next (fuel + 1) k left out=pickOrder.go next fuel (k + 1) (left.eraseIdx (next k % left.length)) (out.push left[next k % left.length]):=by
   rw [pickOrder.go,List.getElem?_eq_getElem lt]
  have le:(left.eraseIdx (next k % left.length)).length=fuel:=by rw [List.length_eraseIdx_of_lt lt]; lia
  have p:=aEh next fuel (k + 1) (left.eraseIdx (next k % left.length)) (out.push left[next k % left.length]) le
  rw [e]
  refine p.trans ?_
  rw [Array.toList_push,List.append_assoc]
  exact List.Perm.append_left _ (jS _ _ lt)
theorem aGd {α:Type} (next:Nat→Nat) (xs:Array α):(pickOrder next xs).toList.Perm xs.toList:=by
 unfold pickOrder
 have:=aEh next xs.size 0 xs.toList #[] (by simp)
 simpa using this
section
variable {prog:Program} {w:World} {A:Around} {E:Value→Shared→Prop} {s:Shared}
theorem aFI {M:Model} {src:Source} {n:Nat} {Q:Nat→Shared→Prop} (hn:n≠0) (h:∀ i d',i < n→Q i { s with drawn:=d' }):wpAny M A (choose src n) Q E s :=
 fun Γ p hΓ=>⟨hn,h _ _ (Nat.mod_lt _ (Nat.pos_of_ne_zero hn))⟩
theorem aEi {M:Model} {α:Type}:∀ (n:Nat) (xs:List α) {s:Shared} {Q:List α→Shared→Prop},xs.length=n→(∀ ys d',ys.Perm xs→Q ys { s with drawn:=d' })→wpAny M A (drawOrder n xs) Q E s
 | 0,xs,s,Q,hl,h=>by
  have:xs=[]:=List.eq_nil_of_length_eq_zero hl
  subst this
  unfold drawOrder
  exact wpAny_pure (h [] s.drawn (List.Perm.refl _))
 | n + 1,[],s,Q,hl,h=>by simp at hl
 | n + 1,x :: r,s,Q,hl,h=>by
  unfold drawOrder
  refine wpAny_bind (aFI (by simp) fun i d' hi=>?_)
  rw [List.getElem?_eq_getElem hi]
  dsimp only
  refine wpAny_bind (aEi n ((x :: r).eraseIdx i) (s:={ s with drawn:=d' }) (by rw [List.length_eraseIdx_of_lt hi]; lia) fun ys d2 p=>?_)
  exact wpAny_pure (h _ d2 ((p.cons _).trans (jS _ _ hi)))
theorem aFJ {it a:Addr} {slot i n ep:Nat} {o:Obj} {es:Array (Int×Value)} {t:SetTable} {x:Int×Value} {Q:Option Value→Shared→Prop} (hit:SIter s.heap it a (.int slot 0) i n ep) (ho:s.heap.get? a=some o) (hd:o.data=.set es ep t) (hf:t.fits es.size=true) (hn:es.size=n)
  (hbt:byT w=true) (hx:(pickOrder (w.params.setOrder a ep) es)[i]?=some x)
  (hQ:∀ h',SIter h' it a (.int slot 0) (i + 1) n ep→Heap.SameBut it s.heap h'→Q (some x.2) { s with heap:=h' }):wpAny (model prog w) A (pyNext (.ref it)) Q E s:=by
 obtain ⟨oi,hoi,hci,hdi⟩:=id hit
 unfold pyNext
 refine wpAny_bind (wpAny_attempt (wpAny_callSpecial?_slot (name:=Str.ofString "__next__") hit.typeIs slot_si_next (wpAny_call_entry slot_si_next hit.typeIs yP ?_ (yZ _))))
 show wpAny _ _ (fieldsOf (.ref it) >>= _) _ _ s
 refine wpAny_bind (wpAny_fieldsOf hoi hdi ?_)
 dsimp only
 refine wpAny_bind (wpAny_setEntries_of ho hd hf ?_)
 rw [hn]
 simp only [bne_self_eq_false,Bool.false_eq_true,if_false]
 unfold setNext setWalk
 refine wpAny_bind (wpAny_bind (wpAny_setState_of ho hd hf ?_))
 dsimp only
 unfold setsByText
 refine wpAny_bind (wpAny_bind (wpAny_askSetting (wpAny_pure ?_)))
 refine wp_if hbt (aA8 (by simp) ?_)
 refine wpAny_bind (wpAny_bind (wpAny_setState_of ho hd hf ?_))
 dsimp only
 refine wpAny_bind (wpAny_bind (wpAny_askSetting (wpAny_pure ?_)))
 refine wp_if hbt ?_
 refine wpAny_bind (wpAny_askSetting (wpAny_pure ?_))
 have hx':(pickOrder ((model prog w).w.params.setOrder a ep) es)[i]?=some x:=hx
 simp only [Int.toNat_natCast]
 rw [hx']
 refine wpAny_pure ?_
 dsimp only [Option.map]
 refine wpAny_bind (wpAny_setField hoi hdi (by simp) ?_)
 have ho2:=Heap.get?_update_self (Obj.mapFields fun vs=>vs.setIfInBounds 0 (rawInt (slot:Int))) hoi (Obj.isFreed_of_fields (Obj.data_mapFields hdi _))
 have hd2:(Obj.mapFields (fun vs=>vs.setIfInBounds 0 (rawInt (slot:Int))) oi).data=.fields #[.int slot 0,.int i 0,.ref a,.int n 0,.int ep 0]:=by
  rw [Obj.data_mapFields hdi]
  rfl
 refine wpAny_bind (wpAny_setField ho2 hd2 (by simp) (wpAny_pure ⟨_,rfl,wpAny_pure (hQ _ ?_ ((Heap.SameBut.update ..).trans (Heap.SameBut.update ..)))⟩))
 exact ⟨_,Heap.get?_update_self _ ho2 (Obj.isFreed_of_fields (Obj.data_mapFields hd2 _)),(Obj.cls_mapFields ..).trans ((Obj.cls_mapFields ..).trans hci),by rw [Obj.data_mapFields hd2]; rfl⟩
noncomputable def ordOf (w:World) (a:Addr) (ep:Nat) (es:Array (Int×Value)):Array (Int×Value):=if byT w then pickOrder (w.params.setOrder a ep) es else es
theorem aEj (w:World) (a:Addr) (ep:Nat) (es:Array (Int×Value)):(ordOf w a ep es).toList.Perm es.toList:=by
 unfold ordOf
 split
 ·exact aGd _ _
 ·exact List.Perm.refl _
theorem aJY {a I:Addr} (hne:a≠I) {ep n:Nat} {o:Obj} {es:Array (Int×Value)} {t:SetTable} (hh:A.handled=none) (hd:o.data=.set es ep t) (hf:t.fits es.size=true) (hn:es.size=n) (ok:TabOk t) (hdr:byT w=true∨(!t.plain && decide (es.size > 1))=false) (hled:t.led=!byT w) :
  Walks prog w A I [I,a] [I] n (fun i v=>∃ e,(ordOf w a ep es)[i]?=some e∧v=e.2) (fun i h=>(∃ slot:Nat,(byT w=false→SetTable.below t.place slot=i)∧SIter h I a (.int slot 0) i n ep)∧h.get? a=some o) where
 sub:=fun b hb=>by simp at hb; simp [hb]
 frame:=fun i h h' st hk=>by
  obtain ⟨⟨slot,hb,oi,h1,h2⟩,h3⟩:=st
  exact ⟨⟨slot,hb,oi,hk I (by simp) _ h1,h2⟩,hk a (by simp) _ h3⟩
 item:=fun i s Q E hi st hQ=>by
  obtain ⟨⟨slot,hb,hit⟩,ho⟩:=st
  have keep:∀ h',Heap.SameBut I s.heap h'→h'.get? a=some o:=fun h' sb=>by rw [sb.2 a hne]; exact ho
  have kept:∀ h',Heap.SameBut I s.heap h'→∀ b o,b ∉ [I]→s.heap.get? b=some o→h'.get? b=some o:=fun h' sb b o hb e=>by rw [sb.2 b (fun z=>hb (by simp [z]))]; exact e
  have zo:(ordOf w a ep es).size=n:=by rw [← hn,← Array.length_toList,(aEj w a ep es).length_eq,Array.length_toList]
  have ex:(ordOf w a ep es)[i]?=some (ordOf w a ep es)[i]:=Array.getElem?_eq_getElem (by lia)
  generalize (ordOf w a ep es)[i]=x at ex
  cases hbt:byT w with
  | true =>
   have ex':(pickOrder (w.params.setOrder a ep) es)[i]?=some x:=by unfold ordOf at ex; rw [hbt] at ex; exact ex
   exact aFJ hit ho hd hf hn hbt ex' fun h' it' sb=>hQ x.2 h' s.toks ⟨x,ex,rfl⟩ ⟨⟨slot,fun z=>absurd (hbt.symm.trans z) (by decide),it'⟩,keep h' sb⟩ (kept h' sb)
  | false =>
   have ex':es[i]?=some x:=by unfold ordOf at ex; rw [hbt] at ex; exact ex
   have hps:t.place.size=es.size:=by
    simp only [SetTable.fits,Bool.and_eq_true,beq_iff_eq] at hf
    exact hf.1
   refine aFG hit ho hd hf hn hbt (hdr.resolve_left (by rw [hbt]; decide)) (by rw [hled,hbt]; rfl) ex' (hb hbt) fun h' it' sb=>hQ _ h' s.toks ⟨x,ex,rfl⟩ ⟨⟨t.place.getD i 0 + 1,fun _=>aF5 ok.rise (by lia),it'⟩,keep h' sb⟩ (kept h' sb)
 done:=fun s Q E st hQ=>by
  obtain ⟨⟨slot,hb,hit⟩,ho⟩:=st
  refine aJW (first:=.none) hh hit ho hd hf hn (fun R hR=>?_) fun h' eb=>hQ h' s.toks fun b o hb e=>eb b o (fun z=>hb (by simp [z])) e
  unfold setNext
  refine wpAny_bind (wpAny_setState_of ho hd hf ?_)
  dsimp only
  unfold setsByText
  refine wpAny_bind (wpAny_bind (wpAny_askSetting (wpAny_pure ?_)))
  cases hbt:byT w with
  | true =>
   refine wp_if hbt (aA8 (by simp) ?_)
   unfold setWalk
   refine wpAny_bind (wpAny_bind (wpAny_setState_of ho hd hf ?_))
   dsimp only
   unfold setsByText
   refine wpAny_bind (wpAny_bind (wpAny_askSetting (wpAny_pure ?_)))
   refine wp_if hbt ?_
   refine wpAny_bind (wpAny_askSetting (wpAny_pure ?_))
   obtain ⟨sz,_⟩:=aGc ((model prog w).w.params.setOrder a ep) es
   have hx:(pickOrder ((model prog w).w.params.setOrder a ep) es)[n]?=none:=Array.getElem?_eq_none (by lia)
   simp only [Int.toNat_natCast]
   rw [hx]
   exact wpAny_pure hR
  | false =>
   have hdr':=hdr.resolve_left (by rw [hbt]; decide)
   refine aA8 (fun e=>by have e2:byT w=true:=e; rw [hbt] at e2; cases e2) ?_
   refine aA8 (fun e=>by have e2:(!t.plain && decide (es.size > 1))=true:=e; rw [hdr'] at e2; cases e2) ?_
   refine wpAny_bind ?_
   show wpAny _ _ (if (!t.led && !es.isEmpty)=true then unsupported "set:maker-not-led" else pure ()) _ _ _
   refine aA8 (by rw [hled,hbt]; simp) (wpAny_pure ?_)
   simp only [Int.toNat_natCast,hb hbt]
   rw [Array.getElem?_eq_none (show es.size≤n by lia)]
   exact wpAny_pure hR
 self:=fun i s Q E st hQ=>by
  obtain ⟨⟨slot,hb,hit⟩,ho⟩:=st
  refine wpAny_pyIter_slot hit.typeIs yn (wpAny_call_entry yn hit.typeIs jF ?_ (jg _))
  show wpAny _ _ (ret (.ref I)) _ _ s
  exact wpAny_pure ⟨_,rfl,"set_iterator",_,hit.typeIs,slot_si_next.lookup,hQ⟩
end
end L2
namespace L2
open PySem PySem.Spec PyProof.Rows PySem.W
section
variable {prog:Program} {w:World} {A:Around} {E:Value→Shared→Prop} {s:Shared}
theorem aJZ {a:Addr} {ep n:Nat} {o:Obj} {es:Array (Int×Value)} {t:SetTable} {Q:Value→Shared→Prop} (ho:s.heap.get? a=some o) (hc:o.cls=.type "set") (hd:o.data=.set es ep t) (hf:t.fits es.size=true) (hn:es.size=n) (hdr:byT w=true∨(!t.plain && decide (es.size > 1))=false)
  (hQ:Q (.ref s.heap.objs.size) { s with heap:=s.heap.push (oIter a n ep) }):wpAny (model prog w) A (pyIter (.ref a)) Q E s:=by
 have hT:s.TypeIs (.ref a) "set":=⟨o,ho,hc⟩
 refine wpAny_pyIter_slot hT PySem.F.slot_set_iter (wpAny_call_entry PySem.F.slot_set_iter hT qa ?_ (jG _))
 show wpAny _ _ (Builtin.Frozenset.sizeOf a >>= _) _ _ s
 unfold Builtin.Frozenset.sizeOf
 refine wpAny_bind (wpAny_bind (wpAny_setEntries_of ho hd hf (wpAny_pure ?_)))
 refine wpAny_bind ?_
 unfold setDrawn
 refine wpAny_bind (wpAny_setState_of ho hd hf ?_)
 dsimp only
 unfold setsByText
 refine wpAny_bind (wpAny_bind (wpAny_askSetting (wpAny_pure (wpAny_pure ?_))))
 refine aA8 (fun e=>by
  have e2:(!(byT w) && (!t.plain && decide (es.size > 1)))=true:=e
  rcases hdr with h | h
  ·rw [h] at e2; simp at e2
  ·rw [h] at e2; simp at e2) (wpAny_bind (wpAny_pure ?_))
 unfold setEpoch
 refine wpAny_bind (wpAny_bind (wpAny_setState_of ho hd hf (wpAny_pure ?_)))
 unfold newFields
 refine wpAny_bind (wpAny_newObj_type (wpAny_pure ⟨_,rfl,"set_iterator",_,⟨_,Heap.get?_push_size _ rfl,rfl⟩,slot_si_next.lookup,?_⟩))
 rw [← hn] at hQ
 exact hQ
noncomputable def aGe (a tp:Addr) (n ep:Nat):Obj:={ cls:=.type "set_iterator",data:=.fields #[.ref tp,.int ((0:Nat):Int) 0,.ref a,.int n 0,.int ep 0] }
theorem aJa {a:Addr} {ep n:Nat} {o:Obj} {es:Array (Int×Value)} {t:SetTable} {Q:Value→Shared→Prop} (ho:s.heap.get? a=some o) (hc:o.cls=.type "set") (hd:o.data=.set es ep t) (hf:t.fits es.size=true) (hn:es.size=n) (hz:n≤5000) (hbt:byT w=false) (hdr:(!t.plain && decide (es.size > 1))=true)
  (hQ:∀ (ys:List Nat) (d':Drawn),ys.Perm (List.range n)→Q (.ref (s.heap.objs.size + 1)) { s with heap:=(s.heap.push (seqObj "tuple" (ys.map fun (i:Nat)=>rawInt i).toArray 0)).push (aGe a s.heap.objs.size n ep),drawn:=d' }):wpAny (model prog w) A (pyIter (.ref a)) Q E s:=by
 have hT:s.TypeIs (.ref a) "set":=⟨o,ho,hc⟩
 have szl:=sizeLine_eq
 refine wpAny_pyIter_slot hT PySem.F.slot_set_iter (wpAny_call_entry PySem.F.slot_set_iter hT qa ?_ (jG _))
 show wpAny _ _ (Builtin.Frozenset.sizeOf a >>= _) _ _ s
 unfold Builtin.Frozenset.sizeOf
 refine wpAny_bind (wpAny_bind (wpAny_setEntries_of ho hd hf (wpAny_pure ?_)))
 refine wpAny_bind ?_
 unfold setDrawn
 refine wpAny_bind (wpAny_setState_of ho hd hf ?_)
 dsimp only
 unfold setsByText
 refine wpAny_bind (wpAny_bind (wpAny_askSetting (wpAny_pure (wpAny_pure ?_))))
 refine wp_if (by
  show (!(byT w) && (!t.plain && decide (es.size > 1)))=true
  rw [hbt,hdr]; rfl) ?_
 rw [hn]
 refine wpAny_bind (aEi n (List.range n) (by simp) fun ys d' hp=>?_)
 have hl:ys.length=n:=by rw [hp.length_eq,List.length_range]
 refine wpAny_bind (wpAny_newTuple ?_ (by rw [List.length_map]; lia))
 have ho1:(s.heap.push (seqObj "tuple" (ys.map fun (i:Nat)=>rawInt i).toArray 0)).get? a=some o:=Heap.get?_push_of_some _ ho
 unfold setEpoch
 refine wpAny_bind (wpAny_bind (wpAny_setState_of (s:={ s with heap:=s.heap.push (seqObj "tuple" (ys.map fun (i:Nat)=>rawInt i).toArray 0),drawn:=d' }) ho1 hd hf (wpAny_pure ?_)))
 unfold newFields
 refine wpAny_bind (wpAny_newObj_type (wpAny_pure ⟨_,rfl,"set_iterator",_,⟨_,Heap.get?_push_size _ rfl,rfl⟩,slot_si_next.lookup,?_⟩))
 have:=hQ ys d' hp
 have z:(s.heap.push (seqObj "tuple" (ys.map fun (i:Nat)=>rawInt i).toArray 0)).objs.size=s.heap.objs.size + 1:=size_push' _ _
 rw [← z] at this
 exact this
theorem aJb {it a tp:Addr} {i n ep nt:Nat} {o ot:Obj} {es:Array (Int×Value)} {t:SetTable} {places:Array Value} {Q:Option Value→Shared→Prop} (hh:A.handled=none) (hit:SIter s.heap it a (.ref tp) i n ep) (ho:s.heap.get? a=some o) (hd:o.data=.set es ep t) (hf:t.fits es.size=true) (hn:es.size=n)
  (hot:s.heap.get? tp=some ot) (hdt:ot.data=.seq places nt) (hp:places[i]?=none)
  (hQ:∀ h',Heap.ExtBut it s.heap h'→Q none { s with heap:=h' }):wpAny (model prog w) A (pyNext (.ref it)) Q E s:=by
 obtain ⟨oi,hoi,hci,hdi⟩:=id hit
 unfold pyNext
 refine wpAny_bind (wpAny_attempt (wpAny_callSpecial?_slot (name:=Str.ofString "__next__") hit.typeIs slot_si_next (wpAny_call_entry slot_si_next hit.typeIs yP ?_ (yZ _))))
 show wpAny _ _ (fieldsOf (.ref it) >>= _) _ _ s
 refine wpAny_bind (wpAny_fieldsOf hoi hdi ?_)
 dsimp only
 refine wpAny_bind (wpAny_setEntries_of ho hd hf ?_)
 rw [hn]
 simp only [bne_self_eq_false,Bool.false_eq_true,if_false]
 refine wpAny_bind (wpAny_seqItems hot hdt ?_)
 simp only [Int.toNat_natCast,hp]
 refine wpAny_bind (wpAny_setField hoi hdi (by simp) ?_)
 have ho2:=Heap.get?_update_self (Obj.mapFields fun vs=>vs.setIfInBounds 0 (rawInt 0)) hoi (Obj.isFreed_of_fields (Obj.data_mapFields hdi _))
 have hd2:(Obj.mapFields (fun vs=>vs.setIfInBounds 0 (rawInt 0)) oi).data=.fields #[rawInt 0,.int i 0,.ref a,.int n 0,.int ep 0]:=by
  rw [Obj.data_mapFields hdi]
  rfl
 refine wpAny_bind (wpAny_setField ho2 hd2 (by simp) ?_)
 show wpAny _ _ (newExc (.type "StopIteration") [] >>= _) _ _ _
 refine wpAny_bind ?_
 simp only [newExc,newTuple]
 refine wpAny_bind (wpAny_newObj_type ?_ (by size_fits))
 refine wpAny_bind (m:=firstArgMember _ _) (wpAny_of_eq (a:=Value.none) (by first | rfl | (simp only [firstArgMember]; rfl)) ?_)
 refine wpAny_newObj_type ?_ (by size_fits)
 simp only [raiseNew]
 refine wpAny_bind (wpAny_handled ?_)
 rw [show A.in1.handled=none from hh]
 refine wpAny_bind (wpAny_pure (wpAny_throw ?_))
 refine wpAny_bind (wpAny_isInstance (T:="StopIteration") (b:=true) ⟨_,Heap.get?_push_size _ rfl,rfl⟩ isSubtype_stop ?_)
 exact wpAny_pure (hQ _ ((((Heap.SameBut.update ..).trans (Heap.SameBut.update ..)).extBut.push _).push _))
noncomputable def ordD (es:Array (Int×Value)) (ys:List Nat):List (Int×Value):=ys.map fun j=>es[j]?.getD (0,.none)
theorem aGf (es:Array (Int×Value)):ordD es (List.range es.size)=es.toList:=by
 unfold ordD
 apply List.ext_getElem?
 intro k
 have e2:es.toList[k]?=es[k]?:=Array.getElem?_toList ..
 rw [List.getElem?_map,e2]
 by_cases h:k < es.size
 ·rw [List.getElem?_range h,Array.getElem?_eq_getElem h]; simp [h]
 ·rw [List.getElem?_eq_none (by simpa using h),Array.getElem?_eq_none (by lia)]; rfl
theorem aGg {es:Array (Int×Value)} {ys:List Nat} (h:ys.Perm (List.range es.size)):(ordD es ys).Perm es.toList:=by
 rw [← aGf es]
 exact h.map _
theorem aJc {a tp I:Addr} (h1:a≠I) (h2:tp≠I) {ep n nt:Nat} {o ot:Obj} {es:Array (Int×Value)} {t:SetTable} {ys:List Nat} (hh:A.handled=none) (hd:o.data=.set es ep t) (hf:t.fits es.size=true) (hn:es.size=n) (hdt:ot.data=.seq (ys.map fun (i:Nat)=>rawInt i).toArray nt) (hy:ys.Perm (List.range n)) :
  Walks prog w A I [I,a,tp] [I] n (fun i v=>∃ e,(ordD es ys)[i]?=some e∧v=e.2) (fun i h=>SIter h I a (.ref tp) i n ep∧h.get? a=some o∧h.get? tp=some ot) where
 sub:=fun b hb=>by simp at hb; simp [hb]
 frame:=fun i h h' st hk=>by
  obtain ⟨⟨oi,q1,q2⟩,q3,q4⟩:=st
  exact ⟨⟨oi,hk I (by simp) _ q1,q2⟩,hk a (by simp) _ q3,hk tp (by simp) _ q4⟩
 item:=fun i s Q E hi st hQ=>by
  obtain ⟨hit,ho,hot⟩:=st
  have hl:ys.length=n:=by rw [hy.length_eq,List.length_range]
  obtain ⟨p,hp⟩:∃ p,ys[i]?=some p:=⟨ys[i],List.getElem?_eq_getElem (by lia)⟩
  have hpn:p < n:=by simpa using hy.mem_iff.mp (List.mem_of_getElem? hp)
  obtain ⟨x,hx⟩:∃ x,es[p]?=some x:=⟨es[p],Array.getElem?_eq_getElem (by lia)⟩
  refine aFH hit ho hd hf hn hot hdt (p:=p) (x:=x) ?_ hx fun h' it' sb=>hQ x.2 h' s.toks ⟨x,?_,rfl⟩ ⟨it',?_,?_⟩ fun b ob hb e=>?_
  ·rw [List.getElem?_toArray,List.getElem?_map,hp]; rfl
  ·unfold ordD; rw [List.getElem?_map,hp]; simp [hx]
  ·rw [sb.2 a h1]; exact ho
  ·rw [sb.2 tp h2]; exact hot
  ·rw [sb.2 b (fun z=>hb (by simp [z]))]; exact e
 done:=fun s Q E st hQ=>by
  obtain ⟨hit,ho,hot⟩:=st
  have hl:ys.length=n:=by rw [hy.length_eq,List.length_range]
  exact aJb hh hit ho hd hf hn hot hdt (by rw [List.getElem?_toArray]; exact List.getElem?_eq_none (by rw [List.length_map]; lia)) fun h' eb=>hQ h' s.toks fun b o hb e=>eb b o (fun z=>hb (by simp [z])) e
 self:=fun i s Q E st hQ=>by
  obtain ⟨hit,ho⟩:=st
  refine wpAny_pyIter_slot hit.typeIs yn (wpAny_call_entry yn hit.typeIs jF ?_ (jg _))
  show wpAny _ _ (ret (.ref I)) _ _ s
  exact wpAny_pure ⟨_,rfl,"set_iterator",_,hit.typeIs,slot_si_next.lookup,hQ⟩
end
end L2
namespace L2
open PySem PySem.Spec PyProof.Rows PySem.W
section
variable {prog:Program} {w:World} {A:Around} {E:Value→Shared→Prop} {s:Shared}
theorem ext_G {R:Result→Shared→Prop} {T:String} {S r:Addr} {n:Nat} {OkP:(Nat→Value→Prop)→Prop} (hT:∀ s':Shared,(∀ b o,s.heap.get? b=some o→s'.heap.get? b=some o)→s'.TypeIs (.ref r) T) (nl:(Value.type T == Value.type "list")=false) (nt:(Value.type T == Value.type "tuple")=false)
  (hint:∀ (E:Value→Shared→Prop) (s':Shared) (Q:Bool→Shared→Prop),s'.TypeIs (.ref r) T→Q false s'→wpAny (model prog w) A.in1 (Builtin.List.listLengthHint (.ref r)) Q E s')
  (hS:s.heap.get? S=some { cls:=.type "list",data:=.seq #[] 0 }) (hSr:S≠r) (hn:n≤sizeLine)
  (hit:∀ (E:Value→Shared→Prop) (Q:Value→Shared→Prop),(∀ I h1 d1 fp St P,OkP P→Walks prog w A.in1 I fp [I] n P St→St 0 h1→S ∉ fp→s.heap.objs.size≤I→(∀ b o,s.heap.get? b=some o→h1.get? b=some o)→Q (.ref I) { s with heap:=h1,drawn:=d1 })→wpAny (model prog w) A.in1 (pyIter (.ref r)) Q E s)
  (hR:∀ P h' tk d' acc' c',OkP P→(∀ b o,b≠S→s.heap.get? b=some o→h'.get? b=some o)→h'.get? S=some { cls:=.type "list",dict:=none,data:=.seq acc' c',slots:=#[] }→ItemsOf P acc' n→R (.ok (.ret (.ref S))) { s with heap:=h',toks:=tk,drawn:=d' }) :
  codeAny (model prog w) A (.builtin "list.__iadd__" ⟨[.ref S,.ref r],[]⟩) R s:=by
 refine codeAny_builtin entry_list_iadd' ?_
 rw [Around.under_plainId PySem.F.plain_list_iadd _]
 show wpAny _ _ (Builtin.List.listExtendWith (.ref S) (.ref r) (.ref S)) _ _ s
 unfold Builtin.List.listExtendWith
 refine wpAny_bind (wpAny_typeOf (hT s fun _ _ e=>e) ?_)
 have e1:Builtin.List.listSameRef (.ref S) (.ref r)=false:=by simp [Builtin.List.listSameRef,hSr]
 simp only [e1,nl,nt,Bool.or_false,Bool.false_eq_true,if_false]
 refine wpAny_bind (hit _ _ fun I h1 d1 fp St P okP W st hSf hI k1=>?_)
 have hSI:S≠I:=fun z=>Nat.lt_irrefl _ (Nat.lt_of_lt_of_le (Heap.lt_size hS) (by rw [z]; exact hI))
 have loop:∀ (h:Heap) (c tk:Nat),St 0 h→(∀ b o,b≠S→h1.get? b=some o→h.get? b=some o)→h.get? S=some { cls:=.type "list",data:=.seq #[] c } →
   codeAny (model prog w) A (.builtin "list.extend.loop" ⟨[.ref S,.ref I,.ref S],[]⟩) R { s with heap:=h,toks:=tk,drawn:=d1 }:=fun h c tk hst hk hS1=>by
  refine codeAny_extend_loopS W.toS hn S hSf (.ref S) n 0 _ #[] c rfl (Nat.zero_le _) hst hS1 (ItemsOf.nil _) fun s' acc' c' hm hS' hacc=>?_
  rw [Moved.eq_with hm]
  refine hR P s'.heap s'.toks d1 acc' c' okP (fun b o hb e=>hm.heap b o (fun hmem=>?_) (hk b o hb (k1 b o e))) hS' hacc
  rcases List.mem_cons.mp hmem with z | z
  ·exact hb z
  ·rw [List.mem_singleton.mp z] at e
   exact Nat.lt_irrefl _ (Nat.lt_of_lt_of_le (Heap.lt_size e) hI)
 have hS1:=k1 S _ hS
 refine wpAny_bind (wpAny_holding (hint _ _ _ (hT _ k1) ?_))
 refine wpAny_ite_split (fun _=>?_) (fun _=>wpAny_pure ⟨plainId_quiet PySem.F.plain_extend_loop _,loop h1 0 s.toks st (fun b o _ e=>e) hS1⟩)
 refine wpAny_bind (wpAny_rule (wpAny_bind ?_))
 show wpAny _ _ (updateSeq S (·.push .none) >>= fun _=>updateSeq S (·.pop)) _ _ _
 refine wpAny_bind (wpAny_updateSeq hS1 rfl ?_)
 have hS2:=Heap.get?_update_self (Obj.mapSeq (·.push Value.none)) hS1 rfl
 refine wpAny_updateSeq (hz:=by seq_fits) hS2 rfl ?_
 have hS3:=Heap.get?_update_self (Obj.mapSeq (·.pop)) hS2 rfl
 have oth:∀ b o,b≠S→h1.get? b=some o→((h1.update S (Obj.mapSeq (·.push Value.none))).update S (Obj.mapSeq (·.pop))).get? b=some o:=fun b o hb e=>by
  rw [Heap.get?_update_other _ _ (Ne.symm hb),Heap.get?_update_other _ _ (Ne.symm hb)]; exact e
 exact wpAny_pure ⟨plainId_quiet PySem.F.plain_extend_loop _,loop _ _ _ (W.frame 0 _ _ st fun b hb o e=>oth b o (fun z=>hSf (z ▸ hb)) e) oth hS3⟩
theorem aGh {a:Addr} {ks:List Int} {Q:List Value→Shared→Prop} (hh:A.handled=none) (hS:SetG prog w s.heap a ks)
  (q:∀ (vs:List Value) (ms:List Int) (g:Heap) (tk:Nat) (d':Drawn),IntsAre vs ms→ms.Perm ks→(∀ b o,s.heap.get? b=some o→g.get? b=some o)→s.heap.objs.size < g.objs.size→Q vs { s with heap:=g,toks:=tk,drawn:=d' }) :
  wpAny (model prog w) A (collect (.ref a)) Q E s:=by
 have hlen:=hS.len
 obtain ⟨o,es,ep,t,ho,hex,hd,hel,⟨ms,hv,hp⟩,nd,hb,hf,ok,hled⟩:=hS
 have szl:=sizeLine_eq
 have sb:scanBound=4096:=rfl
 have hb':es.size < 4096:=by rw [← sb]; exact hb
 unfold collect
 refine wpAny_bind (wpAny_runValue (codeAny_builtin entry_proto_collect' ?_))
 show wpAny _ _ (do again (.builtin "list.__iadd__" ⟨[← newList [],.ref a],[]⟩)) _ _ s
 have hlt:=Heap.lt_size ho
 have ne:s.heap.objs.size≠a:=Nat.ne_of_gt hlt
 have ho1:(s.heap.push (seqObj "list" #[] 0)).get? a=some o:=Heap.get?_push_of_some _ ho
 have z1:(s.heap.push (seqObj "list" #[] 0)).objs.size=s.heap.objs.size + 1:=size_push' _ _
 refine wpAny_bind (wpAny_newList (wpAny_pure ⟨Code.quiet_builtin _ (by decide +kernel),?_⟩))
 have fin:∀ (ord:List (Int×Value)),ord.Perm es.toList→∀ h' tk d' acc' c',(∀ b ob,b≠s.heap.objs.size→(s.heap.push (seqObj "list" #[] 0)).get? b=some ob→h'.get? b=some ob)→h'.get? s.heap.objs.size=some { cls:=.type "list",dict:=none,data:=.seq acc' c',slots:=#[] }→ItemsOf (fun i v=>∃ e,ord[i]?=some e∧v=e.2) acc' es.size→Q acc'.toList { s with heap:=h',toks:=tk,drawn:=d' }:=fun ord po h' tk d' acc' c' k hS' hacc=>by
  obtain ⟨sz,it⟩:=hacc
  have el:acc'.toList=ord.map (·.2):=by
   apply List.ext_getElem?
   intro j
   have ea:acc'.toList[j]?=acc'[j]?:=Array.getElem?_toList ..
   rw [ea,List.getElem?_map]
   have lo:ord.length=es.size:=by rw [po.length_eq,Array.length_toList]
   by_cases hj:j < es.size
   ·have ev:acc'[j]?=some acc'[j]:=Array.getElem?_eq_getElem (by lia)
    obtain ⟨e,h1,h2⟩:=it j _ ev
    rw [ev,h1,h2]; rfl
   ·rw [Array.getElem?_eq_none (by lia),List.getElem?_eq_none (by lia)]; rfl
  obtain ⟨ns,n1,n2⟩:=aCW (po.map (·.2)) hv
  rw [← el] at n1
  refine q acc'.toList ns h' tk d' (aAN n1) (n2.trans hp) (fun b ob e=>k b ob (fun z=>?_) (Heap.get?_push_of_some _ e)) (Heap.lt_size hS')
  rw [z] at e
  exact absurd (Heap.lt_size e) (Nat.lt_irrefl _)
 by_cases hmode:byT w=true∨(!t.plain && decide (es.size > 1))=false
 ·refine ext_G (T:="set") (s:={ s with heap:=s.heap.push (seqObj "list" #[] 0) }) (n:=es.size) (OkP:=fun P=>P=fun i v=>∃ e,(ordOf w a ep es)[i]?=some e∧v=e.2) (fun s' k=>⟨o,k a o ho1,hex.1⟩) (by decide) (by decide) (fun E s' Q hT h=>aHx hT h) (Heap.get?_push_size _ rfl) ne (by lia) (fun E Q hQ=>?_) fun P h' tk d' acc' c' okP k hS' hacc=>?_
  ·refine aJZ ho1 hex.1 hd hf rfl hmode ?_
   refine hQ _ _ s.drawn [_,a] _ _ rfl (aJY (A:=A.in1) (Nat.ne_of_lt (Heap.lt_size ho1)) hh hd hf rfl ok hmode hled) ⟨⟨0,fun _=>aF4 ok.rise,_,Heap.get?_push_size _ rfl,rfl,rfl⟩,Heap.get?_push_of_some _ ho1⟩ ?_ (Nat.le_refl _) fun b ob e=>Heap.get?_push_of_some _ e
   simp only [List.mem_cons,List.not_mem_nil,or_false,not_or]
   exact ⟨by show s.heap.objs.size≠(s.heap.push (seqObj "list" #[] 0)).objs.size; lia,ne⟩
  ·subst okP
   show wpAny _ _ (load s.heap.objs.size >>= _) Q E _
   refine wpAny_bind (wpAny_load hS' (wpAny_pure ?_))
   exact fin _ (aEj w a ep es) h' tk d' acc' c' k hS' ⟨hacc.1,fun j v hj=>by obtain ⟨e,h1,h2⟩:=hacc.2 j v hj; exact ⟨e,by rw [Array.getElem?_toList]; exact h1,h2⟩⟩
 ·have hbt:byT w=false:=by
   cases e:byT w with
   | false=>rfl
   | true=>exact absurd (.inl e) hmode
  have hdr:(!t.plain && decide (es.size > 1))=true:=by
   cases e:(!t.plain && decide (es.size > 1)) with
   | true=>rfl
   | false=>exact absurd (.inr e) hmode
  refine ext_G (T:="set") (s:={ s with heap:=s.heap.push (seqObj "list" #[] 0) }) (n:=es.size) (OkP:=fun P=>∃ ys:List Nat,ys.Perm (List.range es.size)∧P=fun i v=>∃ e,(ordD es ys)[i]?=some e∧v=e.2) (fun s' k=>⟨o,k a o ho1,hex.1⟩) (by decide) (by decide) (fun E s' Q hT h=>aHx hT h) (Heap.get?_push_size _ rfl) ne (by lia) (fun E Q hQ=>?_) fun P h' tk d' acc' c' okP k hS' hacc=>?_
  ·refine aJa ho1 hex.1 hd hf rfl (by lia) hbt hdr fun ys d' hy=>?_
   have ho2:=fun ob=>Heap.get?_push_of_some ob (Heap.get?_push_of_some (seqObj "tuple" (ys.map fun (i:Nat)=>rawInt i).toArray 0) ho1)
   have z2:((s.heap.push (seqObj "list" #[] 0)).push (seqObj "tuple" (ys.map fun (i:Nat)=>rawInt i).toArray 0)).objs.size=s.heap.objs.size + 1 + 1:=by rw [size_push',z1]
   have z3:(s.heap.push (seqObj "list" #[] 0)).objs.size + 1=((s.heap.push (seqObj "list" #[] 0)).push (seqObj "tuple" (ys.map fun (i:Nat)=>rawInt i).toArray 0)).objs.size:=by rw [z1,z2]
   have na:a≠(s.heap.push (seqObj "list" #[] 0)).objs.size + 1:=by rw [z1]; exact Nat.ne_of_lt (Nat.lt_trans hlt (Nat.lt_succ_of_lt (Nat.lt_succ_self _)))
   refine hQ _ _ d' [_,a,(s.heap.push (seqObj "list" #[] 0)).objs.size] _ _ ⟨ys,hy,rfl⟩ (aJc (A:=A.in1) (tp:=(s.heap.push (seqObj "list" #[] 0)).objs.size) (ot:=seqObj "tuple" (ys.map fun (i:Nat)=>rawInt i).toArray 0) na (Nat.ne_of_lt (Nat.lt_succ_self _)) hh hd hf rfl rfl hy) ⟨⟨aGe a (s.heap.push (seqObj "list" #[] 0)).objs.size es.size ep,?_,rfl,rfl⟩,ho2 _,?_⟩ ?_ (Nat.le_succ _) fun b ob e=>Heap.get?_push_of_some _ (Heap.get?_push_of_some _ e)
   ·show _=some (aGe a (s.heap.push (seqObj "list" #[] 0)).objs.size es.size ep)
    rw [z3]
    exact Heap.get?_push_size _ rfl
   ·exact Heap.get?_push_of_some _ (Heap.get?_push_size _ rfl)
   ·simp only [List.mem_cons,List.not_mem_nil,or_false,not_or]
    refine ⟨?_,ne,?_⟩
    ·show s.heap.objs.size≠(s.heap.push (seqObj "list" #[] 0)).objs.size + 1
     lia
    ·show s.heap.objs.size≠(s.heap.push (seqObj "list" #[] 0)).objs.size
     lia
  ·obtain ⟨ys,hy,rfl⟩:=okP
   show wpAny _ _ (load s.heap.objs.size >>= _) Q E _
   refine wpAny_bind (wpAny_load hS' (wpAny_pure ?_))
   exact fin _ (aGg hy) h' tk d' acc' c' k hS' hacc
end
end L2
namespace L2
open PySem PySem.Spec PyProof.Rows
section
variable {prog:Program} {w:World} {A:Around} {E:Value→Shared→Prop} {s:Shared}
end
end L2
namespace L2
open PySem PySem.Spec PyProof.Rows
theorem aJd:bootBuiltins "set"=some (.type "set"):=by decide +kernel
section
variable {X:Cx}
theorem w_ix {a b:Expr} {ta tb:TE} {pos:Pos} {r:R2} (hr:IxR X r) (ha:Wr (PE X a ta)) (hb:Wr (PE X b tb)) (hs:aFi b):Wr (PE X (.Subscript a b pos) (tOp r ta tb)):=⟨pe_ix hr ha.un hb.un hs⟩
end
end L2
namespace L2
open PySem PySem.Spec PyProof.Rows PySem.W
theorem aCX {ms:List Int} (h1:ms.Pairwise (·≤·)) (h2:ms.Nodup):ms.Pairwise (· < ·) :=
 List.Pairwise.imp₂ (fun a b hle hne=>by lia) h1 h2
theorem qC:∀ {a b:List Int},a.Pairwise (· < ·)→b.Pairwise (· < ·)→(∀ m,m∈a↔m∈b)→a=b
 | [],[],_,_,_=>rfl
 | [],y :: t,_,_,h=>by have:=(h y).mpr (List.mem_cons_self ..); cases this
 | x :: r,[],_,_,h=>by have:=(h x).mp (List.mem_cons_self ..); cases this
 | x :: r,y :: t,ha,hb,h=>by
  have h1:=List.pairwise_cons.mp ha
  have h2:=List.pairwise_cons.mp hb
  have e:x=y:=by
   rcases List.mem_cons.mp ((h x).mp (List.mem_cons_self ..)) with e | m1
   ·exact e
   ·rcases List.mem_cons.mp ((h y).mpr (List.mem_cons_self ..)) with e | m2
    ·exact e.symm
    ·have:=h1.1 y m2; have:=h2.1 x m1; lia
  subst e
  rw [qC h1.2 h2.2 fun m=>?_]
  constructor
  ·intro hm
   rcases List.mem_cons.mp ((h m).mp (List.mem_cons_of_mem _ hm)) with e | q
   ·have:=h1.1 m hm; lia
   ·exact q
  ·intro hm
   rcases List.mem_cons.mp ((h m).mpr (List.mem_cons_of_mem _ hm)) with e | q
   ·have:=h2.1 m hm; lia
   ·exact q
section
variable {prog:Program} {w:World} {A:Around} {E:Value→Shared→Prop} {s:Shared}
theorem aA9 {a:Addr} {C:List Int→Prop} {Q:Value→Shared→Prop} (hc:∀ (Q2:List Value→Shared→Prop) (E2:Value→Shared→Prop),(∀ (vs:List Value) (ms:List Int) (g:Heap) (tk:Nat) (d':Drawn),IntsAre vs ms→C ms→(∀ b o,s.heap.get? b=some o→g.get? b=some o)→s.heap.objs.size < g.objs.size→Q2 vs { s with heap:=g,toks:=tk,drawn:=d' })→wpAny (model prog w) A.in1 (collect (.ref a)) Q2 E2 s) (hz:∀ ms,C ms→ms.length≤900000)
  (h:∀ (out:Array Value) (ms ms':List Int) (g:Heap) (e tk:Nat) (d':Drawn) (p:Addr),C ms→IntsAre out.toList ms'→ms'.Perm ms→ms'.Pairwise (·≤·)→(∀ b o,s.heap.get? b=some o→g.get? b=some o)→s.heap.objs.size≤p→g.get? p=some (seqObj "list" out e)→Q (.ref p) { s with heap:=g,toks:=tk,drawn:=d' }) :
  wpAny (model prog w) A (call (.builtin "sorted") [.ref a]) Q E s:=by
 refine Calls.call_function_entry kind_sorted plain_sorted entry_sorted (args_sorted1 _) ?_
 unfold Builtin.«sorted»
 refine wpAny_bind (m:=checkCount "sorted" 1 1 _) (wpAny_pure ?_)
 refine wpAny_bind (hc _ _ fun vs ms g1 tk d' hI hC k1 z1=>?_)
 have hlen:vs.length=ms.length:=by have:=(qI hI).length; rw [List.length_map] at this; exact this.symm
 have hlz:=hz ms hC
 have szl:=sizeLine_eq
 refine wpAny_bind (wpAny_newList ?_ (by lia))
 have gL:(g1.push (seqObj "list" vs.toArray 0)).get? g1.objs.size=some (seqObj "list" vs.toArray 0):=Heap.get?_push_size _ rfl
 refine wpAny_bind (wpAny_holding (wpAny_call_entry slot_list_sort ⟨_,gL,rfl⟩ entry_list_sort (aGV gL hI (by lia) fun out ns' a1 a2 a3=>⟨_,rfl,?_⟩) (args_list_sort _)))
 obtain ⟨e,at1⟩:=sortedHeap_at (out:=out) gL
 have old:∀ b o,s.heap.get? b=some o→(sortedHeap (g1.push (seqObj "list" vs.toArray 0)) g1.objs.size vs out).get? b=some o:=fun b o hb=>by
  have hlt:b < g1.objs.size:=Heap.lt_size (k1 b o hb)
  rw [sortedHeap_old (Nat.ne_of_lt hlt) (by rw [size_push']; exact Nat.lt_succ_of_lt hlt),Heap.get?_push_ne _ _ _ (Nat.ne_of_lt hlt)]
  exact k1 b o hb
 exact wpAny_pure ⟨_,rfl,h out ms ns' _ e tk d' g1.objs.size hC a1 a2 a3 old (Nat.le_of_lt z1) at1⟩
end
section
variable {X:Cx}
theorem Inv.drew {pins:List (Addr×Obj)} {σ:St} {H:Hp} {s:Shared} (I:Inv X pins σ H s) (d':Drawn):Inv X pins σ H { s with drawn:=d' }:=⟨I.ok,I.os,I.bare,I.base,I.loc,I.cell,I.free,I.freeC,I.pin,I.hok,I.len⟩
noncomputable def aGi (ta:TE):TE:=fun σ H Q=>ta σ H fun x H1=>∃ (l:Addr) (ns:List Int),x=.ref l∧H1 l=some (.lst (ns.map V.int))∧ns.length≤4000 ∧
 ∀ (p:Addr) (ms:List Int) (H':Hp),Same H1 H'→H' p=some (.lst (ms.map V.int))→ms.Pairwise (· < ·)→(∀ m,m∈ms↔m∈ns)→Q (.ref p) H'
theorem aEk:∀ {its:List Value} {ns:List Int},Vals (ns.map V.int) its→∀ (i:Nat) (v:Value),its[i]?=some v→∃ k t,v=.int k t∧ns[i]?=some k
 | [],_,_,i,v,e=>by simp at e
 | x :: r,[],h,_,_,_=>by cases h
 | x :: r,n :: ns,h,i,v,e=>by
  cases h with
  | cons a b =>
   cases i with
   | zero =>
    obtain ⟨t,rfl⟩:=a
    simp at e
    exact ⟨n,t,e.symm,rfl⟩
   | succ i =>
    obtain ⟨k,t,e1,e2⟩:=aEk b i v (by simpa using e)
    exact ⟨k,t,e1,by simpa using e2⟩
theorem aAA {a:Expr} {ta:TE} {p p2 p3 pos:Pos} (hc:X.calm=true) (ha:PE X a ta) (hms:X.mg "sorted"=none) (hmt:X.mg "set"=none)
  (hgs:Gl X "sorted":=by rfl) (hgt:Gl X "set":=by rfl) (hs:starEach [a] X.env=[(false,eval a X.env)]:=by rfl)
  (hs2:starEach [Expr.Call (.Name "set" p2) [a] [] p3] X.env=[(false,eval (Expr.Call (.Name "set" p2) [a] [] p3) X.env)]:=by rfl) :
  PE X (.Call (.Name "sorted" p) [.Call (.Name "set" p2) [a] [] p3] [] pos) (aGi ta):=by
 intro pins s σ H Q I h
 have hh:X.A.handled=none:=I.ok.hd hc
 refine wpAny_Call_Name_kw (qj I hgs hms qy ?_)
 refine PyProof.Rows.callWith_builtin1 ?_ hs2 rfl
 show wpAny _ _ (spliced ((false,eval (Expr.Call (.Name "set" p2) [a] [] p3) X.env) :: backTo pos [])) _ _ s
 refine Calls.spliced_cons ?_
 refine wpAny_Call_Name_kw (qj I hgt hmt aJd ?_)
 refine PyProof.Rows.callWith_type1 (thn ((zA ha zE hs) p3 pins s σ H (fun vs H1=>match vs with
  | [x]=>∃ (l:Addr) (ns:List Int),x=.ref l∧H1 l=some (.lst (ns.map V.int))∧ns.length≤4000 ∧
 ∀ (p:Addr) (ms:List Int) (H':Hp),Same H1 H'→H' p=some (.lst (ms.map V.int))→ms.Pairwise (· < ·)→(∀ m,m∈ms↔m∈ns)→Q (.ref p) H'
  | _=>False) I h) fun us s1 ⟨vs,H1,I1,r1,q0⟩=>?_) hs rfl
 obtain ⟨x,rfl,l,ns,rfl,hl,h4,q⟩:∃ x,vs=[x]∧∃ (l:Addr) (ns:List Int),x=.ref l∧H1 l=some (.lst (ns.map V.int))∧ns.length≤4000 ∧
   ∀ (p:Addr) (ms:List Int) (H':Hp),Same H1 H'→H' p=some (.lst (ms.map V.int))→ms.Pairwise (· < ·)→(∀ m,m∈ms↔m∈ns)→Q (.ref p) H':=by
  match vs,q0 with
  | [x],q0=>exact ⟨x,rfl,q0⟩
 obtain ⟨u,rfl,ru⟩:=vals1 r1
 cases ru
 obtain ⟨its,rv,pl,hz⟩:=I1.list (SqL.of hl)
 have len:=rv.length
 rw [List.length_map] at len
 refine set_G hh pl.isList (fun i v e=>aEk rv i v (by simpa using e)) (by show its.length < 4095; lia) (by show ns.length=its.length; lia) fun h' tk hS hk=>?_
 refine Calls.spliced_nil ?_
 have I2:Inv X pins σ H1 { s1 with heap:=h',toks:=tk }:=I1.kept (fun b o e=>hk b o (Heap.lt_size e) e)
 have hnd:(ddI ns).Nodup:=by
  obtain ⟨_,_,_,_,_,_,_,_,_,nd,_⟩:=hS
  exact nd
 have hdl:=aGa ns
 refine aA9 (C:=fun ms=>ms.Perm (ddI ns)) (fun Q2 E2 hq=>aGh hh hS hq) (fun ms hp=>by have:=hp.length_eq; lia) fun out ms ms' g e tk2 d' pp hC a1 a2 a3 k1 hp at1=>?_
 have hf:H1 pp=none:=I2.hok.fresh hp
 have hpm:=a2.trans hC
 have l2:=hpm.length_eq
 have I3:Inv X pins σ (upd H1 pp (.lst (ms'.map V.int))) { s1 with heap:=g,toks:=tk2 }:=I2.laid (t':=tk2) k1 hp ⟨by rw [List.length_map,sizeLine_eq]; lia,out.toList,e,qI a1,at1⟩
 refine ⟨.ref pp,upd H1 pp (.lst (ms'.map V.int)),I3.drew d',rfl,q _ ms' _ (fun b o e=>by rw [zH (zC e hf)]; exact e) zB (aCX a3 (hpm.nodup_iff.mpr hnd)) fun m=>?_⟩
 rw [hpm.mem_iff,aId]
end
end L2
namespace L2
open PySem PySem.Spec PyProof.Rows PySem.W
section
variable {prog:Program} {w:World} {A:Around} {E:Value→Shared→Prop} {s:Shared}
theorem aGj {a:Addr} {vs:List (Key×Value)} {ks:List Int} {Q:List Value→Shared→Prop} (hh:A.handled=none) (hsys:(a == sysModules)=false) (hd:s.heap.DictOf (zV prog w) a vs) (hk:vs.map (·.1)=ks.map Sum.inl) (hz:vs.length≤900000)
  (q:∀ (us:List Value) (ms:List Int) (g:Heap) (tk:Nat) (d':Drawn),IntsAre us ms→ms.Perm ks→(∀ b o,s.heap.get? b=some o→g.get? b=some o)→s.heap.objs.size < g.objs.size→Q us { s with heap:=g,toks:=tk,drawn:=d' }) :
  wpAny (model prog w) A (collect (.ref a)) Q E s:=by
 obtain ⟨o,es,ep,ho,rest⟩:=hd
 have szl:=sizeLine_eq
 unfold collect
 refine wpAny_bind (wpAny_runValue (codeAny_builtin entry_proto_collect' ?_))
 show wpAny _ _ (do again (.builtin "list.__iadd__" ⟨[← newList [],.ref a],[]⟩)) _ _ s
 have ne:s.heap.objs.size≠a:=Nat.ne_of_gt (Heap.lt_size ho)
 refine wpAny_bind (wpAny_newList (wpAny_pure ⟨Code.quiet_builtin _ (by decide +kernel),aJX (s:={ s with heap:=s.heap.push (seqObj "list" #[] 0) }) (kdl_dict (knd:=zV prog w) (kvs:=vs) (ep:=ep) hsys) hh ⟨o,es,Heap.get?_push_of_some _ ho,rest⟩ ne ne (Heap.get?_push_size _ rfl) (by lia) fun h' tk acc' c' k hS' hacc=>?_⟩))
 show wpAny _ _ (load s.heap.objs.size >>= _) Q E _
 refine wpAny_bind (wpAny_load hS' (wpAny_pure ?_))
 obtain ⟨sz,it⟩:=hacc
 have hl:vs.length=ks.length:=by have:=congrArg List.length hk; simpa using this
 have v1:∀ (n:Nat),n≤ks.length→Vals ((ks.take n).map V.int) (acc'.toList.take n):=by
  intro n
  induction n with
  | zero=>intro _; rw [List.take_zero,List.take_zero]; exact .nil
  | succ n ih =>
   intro hn
   have en:acc'[n]?=some acc'[n]:=Array.getElem?_eq_getElem (by lia)
   obtain ⟨ky,x,e1,e2⟩:=it n _ en
   obtain ⟨kn,hkn⟩:∃ kn,ks[n]?=some kn:=⟨ks[n],List.getElem?_eq_getElem (by lia)⟩
   have e3:(vs.map (·.1))[n]?=(ks.map Sum.inl)[n]?:=by rw [hk]
   rw [List.getElem?_map,List.getElem?_map,e1,hkn] at e3
   have e4:ky=Sum.inl kn:=by simpa using e3
   subst e4
   have r:=aE7 (k:=Sum.inl kn) e2
   have en':acc'.toList[n]?=some acc'[n]:=by rw [Array.getElem?_toList]; exact en
   rw [List.take_add_one,List.take_add_one,hkn,en',List.map_append]
   exact qh (ih (by lia)) (.cons r .nil)
 have v2:=v1 ks.length (Nat.le_refl _)
 have al:acc'.toList.length=ks.length:=by rw [Array.length_toList]; lia
 rw [List.take_length,List.take_of_length_le (by lia)] at v2
 refine q acc'.toList ks h' tk s.drawn (aAN v2) (List.Perm.refl _) (fun b ob e=>k b ob (fun z=>?_) (Heap.get?_push_of_some _ e)) (Heap.lt_size hS')
 rw [z] at e
 exact absurd (Heap.lt_size e) (Nat.lt_irrefl _)
end
section
variable {X:Cx}
theorem qi (hc:X.calm=true):CallR X (.builtin "sorted") (fun xs H Q=>∃ (d:Addr) (kvs:List (Key×V)) (ks:List Int),xs=[.ref d]∧Rd H d (.dK kvs)∧kvs.map (·.1)=ks.map Sum.inl∧kvs.length≤900000 ∧
  ∀ (p:Addr) (ms:List Int) (H':Hp),Same H H'→H' p=some (.lst (ms.map V.int))→ms.Pairwise (· < ·)→(∀ m,m∈ms↔m∈ks)→Q (.ref p) H'):=by
 intro pins s σ H xs us Q I r h
 obtain ⟨d,kvs,ks,rfl,rd,hk,hz,q⟩:=h
 obtain ⟨u,rfl,rx⟩:=vals1 r
 cases rx
 obtain ⟨z,hsys,vs,rel,dd⟩:=dk_rd I.hok rd
 have hk':vs.map (·.1)=ks.map Sum.inl:=by rw [← rel.keys]; exact hk
 have hl:kvs.length=vs.length:=rel.length
 have hkl:vs.length=ks.length:=by have:=congrArg List.length hk'; simpa using this
 have hnd:ks.Nodup:=by
  obtain ⟨_,_,_,_,_,_,_,_,nd⟩:=dd
  rw [hk'] at nd
  exact (List.pairwise_map.mp nd).imp fun hne z=>hne (by rw [z])
 refine aA9 (C:=fun ms=>ms.Perm ks) (fun Q2 E2 hq=>aGj (I.ok.hd hc) hsys dd hk' (by lia) hq) (fun ms hp=>by have:=hp.length_eq; lia) fun out ms ms' g e tk2 d' pp hC a1 a2 a3 k1 hp at1=>?_
 have hf:H pp=none:=I.hok.fresh hp
 have hpm:=a2.trans hC
 have l2:=hpm.length_eq
 have I3:Inv X pins σ (upd H pp (.lst (ms'.map V.int))) { s with heap:=g,toks:=tk2 }:=I.laid (t':=tk2) k1 hp ⟨by rw [List.length_map,sizeLine_eq]; lia,out.toList,e,qI a1,at1⟩
 refine ⟨.ref pp,upd H pp (.lst (ms'.map V.int)),I3.drew d',rfl,q _ ms' _ (fun b o e=>by rw [zH (zC e hf)]; exact e) zB (aCX a3 (hpm.nodup_iff.mpr hnd)) fun m=>hpm.mem_iff⟩
end
end L2
namespace HT
open PySem PySem.Spec PyProof.Rows
theorem aHZ {n:Nat} (hn:1≤n):Builtin.Slice.sliceAdjust none (some 0) (-1) (n:Int)=((n:Int) - 1,0):=by
 unfold Builtin.Slice.sliceAdjust
 have h:min (0:Int) ((n:Int) - 1)=0:=by lia
 simp [h]
theorem aED {n:Nat} (hn:1≤n):Builtin.Slice.slicePlaces ((n:Int) - 1) 0 (-1)=n - 1:=by
 unfold Builtin.Slice.slicePlaces
 simp
 lia
theorem aGk (x:Value) (xs:List Value):((List.range xs.length).filterMap fun (m:Nat)=>(x :: xs).toArray[((((xs.length + 1:Nat):Int) - 1) + (m:Int) * (-1)).toNat]?).toArray=xs.reverse.toArray:=by
 have e:=aEP xs.reverse.toArray 0 xs.length
 have e2:(xs.reverse.toArray.toList.drop 0).take xs.length=xs.reverse:=by
  show (xs.reverse.drop 0).take xs.length=xs.reverse
  rw [List.drop_zero,← List.length_reverse,List.take_length]
 rw [e2] at e
 rw [← e]
 refine congrArg List.toArray (aEV fun m hm=>?_)
 have hm':m < xs.length:=List.mem_range.mp hm
 rw [show ((((xs.length + 1:Nat):Int) - 1) + (m:Int) * (-1)).toNat=(xs.length - 1 - m) + 1 by lia,show ((((0:Nat):Int)) + (m:Int) * 1).toNat=m by lia]
 rw [List.getElem?_toArray,List.getElem?_toArray,List.getElem?_cons_succ,List.getElem?_reverse hm']
section
variable {prog:Program} {w:World} {A:Around} {E:Value→Shared→Prop} {s:Shared}
theorem jT {sl:Addr} {vu vs:Value} {n:Nat} {Q:Int×Int×Nat→Shared→Prop} (hn:1≤n) (hs:s.heap.IsSliceOf sl .none vu vs) (pu:IsPart vu (some 0)) (pv:IsPart vs (some (-1))) (h:Q ((n:Int) - 1,-1,n - 1) s):wpAny (model prog w) A (Builtin.Slice.sliceApplied (.ref sl) (pure (n:Int))) Q E s:=by
 obtain ⟨os,hos,hcs,hds⟩:=id hs
 unfold Builtin.Slice.sliceApplied Builtin.Slice.sliceFields
 refine wpAny_bind (wpAny_bind (wpAny_field hos hds (x:=.none) rfl (wpAny_bind (wpAny_field hos hds (x:=vu) rfl (wpAny_bind (wpAny_field hos hds (x:=vs) rfl (wpAny_pure ?_)))))))
 refine wpAny_bind (qQ pv ?_)
 show wpAny _ _ (if ((-1:Int) == 0)=true then _ else _) _ _ s
 rw [if_neg (by decide)]
 refine wpAny_bind (slicePart_none (wpAny_bind (qQ pu (wpAny_bind (wpAny_pure ?_)))))
 show wpAny _ _ (match Builtin.Slice.sliceAdjust none (some 0) (-1) (n:Int) with | (lo,hi)=>pure (lo,(-1:Int),Builtin.Slice.slicePlaces lo hi (-1))) _ _ s
 rw [aHZ hn]
 show wpAny _ _ (pure ((n:Int) - 1,(-1:Int),Builtin.Slice.slicePlaces ((n:Int) - 1) 0 (-1))) _ _ s
 rw [aED hn]
 exact wpAny_pure h
theorem getItem_tuple_rev0 {t sl:Addr} {u0:Value} {us:List Value} {vu vs:Value} {Q:Value→Shared→Prop} (ht:IsTup s.heap t (u0 :: us).toArray) (hs:s.heap.IsSliceOf sl .none vu vs) (pu:IsPart vu (some 0)) (pv:IsPart vs (some (-1)))
    (h:Q (.ref s.heap.objs.size) { s with heap:=s.heap.push { cls:=.type "tuple",data:=.seq us.reverse.toArray } }) (hsz:us.length≤sizeLine):wpAny (model prog w) A (getItem (.ref t) (.ref sl)) Q E s:=by
  obtain ⟨os,hos,hcs,hds⟩:=id hs
  have hTs:s.TypeIs (.ref sl) "slice":=⟨os,hos,hcs⟩
  unfold getItem
  try with_reducible refine wpAny_holding ?_
  first | refine wpAny_bind (wpAny_pure ?_) | skip
  refine wpAny_bind (wpAny_sequenceKey ht.typeIs (by decide) ?_)
  refine wpAny_bind (wpAny_callSpecial?_slot (name:=Str.ofString "__getitem__") ht.typeIs PyProof.Rows.slot_tuple_getitem
    (wpAny_call_entry PyProof.Rows.slot_tuple_getitem ht.typeIs entry_tuple_getitem ?_ (args_tuple_getitem _ _)))
  show wpAny _ _ (Builtin.Tuple.tupleItemsOf (.ref t) >>= _) _ _ s
  refine wpAny_bind (tupleItemsOf_ ht ?_)
  refine wpAny_bind (wpAny_typeOf hTs ?_)
  rw [if_pos (by decide)]
  rw [show (u0 :: us).toArray.size=us.length + 1 from List.size_toArray ..]
  refine wpAny_bind (jT (n:=us.length + 1) (by lia) hs pu pv ?_)
  rw [Nat.add_sub_cancel]
  show wpAny _ _ (if ((((us.length + 1:Nat):Int) - 1) == 0 && (-1:Int) == 1 && us.length == us.length + 1)=true then _ else _) _ _ s
  rw [if_neg (by simp),aGk]
  have hk:sizeOk (.seq us.reverse.toArray):=by show us.reverse.toArray.size≤sizeLine; rw [List.size_toArray,List.length_reverse]; exact hsz
  first
    | exact wpAny_bind (m:=Builtin.Tuple.tupleExact _) (wpAny_newObj_type (wpAny_pure ⟨_,rfl,wpAny_pure h⟩) hk)
    | exact wpAny_bind (m:=Builtin.Tuple.tupleExact _) (wpAny_newObj_type (wpAny_bind (wpAny_pure (wpAny_pure ⟨_,rfl,wpAny_pure h⟩))) hk)
    | exact wpAny_bind (wpAny_bind (m:=Builtin.Tuple.tupleExact _) (wpAny_newObj_type (wpAny_pure (wpAny_pure ⟨_,rfl,wpAny_pure h⟩)) hk))
    | exact wpAny_bind (wpAny_bind (m:=Builtin.Tuple.tupleExact _) (wpAny_newObj_type (wpAny_pure ⟨_,rfl,wpAny_pure h⟩) hk))
end
end HT
namespace L2
open PySem PySem.Spec PyProof.Rows
variable {X:Cx}
theorem aHa {e:Expr} {te:TE} {j j0} {p0 p2 p3 p4 pos:Pos} (he:PE X e te):PE X (.Subscript e (.Slice none (some (.Constant (.int 0) j0 p0)) (some (.UnaryOp .USub (.Constant (.int 1) j p3) p4)) p2) pos) (fun σ H Q=>te σ H fun x H1=>∃ a x0 xs,x=.ref a∧SqT X.K H1 a (x0 :: xs)∧∀ p,H1 p=none→Q (.ref p) (upd H1 p (.tup xs.reverse))):=by
 intro pins s σ H Q I h
 refine Subscript_ (thn (he pins s σ H _ I h) fun v s1 ⟨x,H1,I1,r1,q1⟩=>?_)
 obtain ⟨a,x0,xs,rfl,hx,q⟩:=q1
 obtain rfl:v=Value.ref a:=r1
 refine wpAny_Slice ?_
 rw [evalPart_none]
 refine wpAny_pure ?_
 refine thn (yN (X:=X) zD pins s1 σ H1 (fun o H'=>o=some 0∧H'=H1) I1 ⟨0,rfl,rfl,rfl⟩) fun vu s3 ⟨o3,H3,I3,ip3,eo3,eH3⟩=>?_
 subst eo3 eH3
 refine thn (yN (X:=X) (pe_un qo zD) pins s3 σ H3 (fun o H'=>o=some (-1)∧H'=H3) I3 ⟨1,rfl,-1,rfl,rfl,rfl⟩) fun vs s2 ⟨o,H2,I2,ip,eo,eH⟩=>?_
 subst eo eH
 obtain ⟨its,r,ht,hz⟩:=I2.tuple hx
 have I4:Inv X pins σ H2 { s2 with heap:=s2.heap.push { cls:=.type "slice",data:=.fields #[.none,vu,vs] } }:=I2.kept (t':=s2.toks) fun b ob q=>Heap.get?_push_of_some _ q
 obtain ⟨its4,r4,ht4,hz4⟩:=I4.tuple hx
 obtain ⟨u0,us4,rfl,ru0,rus⟩:∃ u0 us,its4=u0 :: us∧RelV x0 u0∧Vals xs us:=by
  cases r4 with
  | cons a b=>exact ⟨_,_,rfl,a,b⟩
 have hlen:=rus.length
 have hz':xs.length + 1≤sizeLine:=hz4
 refine tail_any (ops:=[.ref a,.ref s2.heap.objs.size]) ht4.typeIs PyProof.Rows.slot_tuple_getitem.lookup ?_ (by with_unfolding_all rfl)
 refine HT.getItem_tuple_rev0 ht4 (Heap.IsSliceOf.new ..) ip3 ip ?_ (by lia)
 refine ⟨.ref _,_,I4.laid (t':=s2.toks) (o:=.tup xs.reverse) (fun b ob q=>Heap.get?_push_of_some _ q) (Nat.le_refl _) ?_,rfl,q _ (I4.hok.fresh (Nat.le_refl _))⟩
 exact ⟨by rw [List.length_reverse]; lia,us4.reverse,rus.reverse,IsTup.new _ _⟩
end L2
namespace Law
open PySem L2
noncomputable abbrev Ps:=List (Int×Int)
noncomputable def look:Ps→Int→Int
 | [],_=>0
 | (k,v) :: r,c=>if k=c then v else look r c
noncomputable def keysP (ps:Ps):List Int:=ps.map (·.1)
theorem qD:∀ {ps:Ps} {c:Int},c ∉ keysP ps→look ps c=0
 | [],_,_=>rfl
 | (k,v) :: r,c,h=>by
  unfold look
  rw [if_neg (fun z=>h (by rw [← z]; exact List.mem_cons_self ..))]
  exact qD fun z=>h (List.mem_cons_of_mem _ z)
noncomputable def putI (ps:Ps) (k v:Int):Ps:=if k∈keysP ps then ps.map fun p=>if p.1=k then (p.1,v) else p else ps++[(k,v)]
theorem aEl (k v:Int):∀ ps:Ps,keysP (ps.map fun p=>if p.1=k then (p.1,v) else p)=keysP ps
 | []=>rfl
 | p :: r=>by
  show (if p.1=k then (p.1,v) else p).1 :: keysP (r.map fun p=>if p.1=k then (p.1,v) else p)=p.1 :: keysP r
  rw [aEl k v r]
  split <;> rfl
theorem aAo (k v c:Int):∀ ps:Ps,k∈keysP ps→look (ps.map fun p=>if p.1=k then (p.1,v) else p) c=if c=k then v else look ps c
 | [],h=>by cases h
 | (a,b) :: r,h=>by
  rw [List.map_cons]
  by_cases e:a=k
  ·subst e
   rw [if_pos rfl]
   unfold look
   by_cases ec:a=c
   ·rw [if_pos ec,if_pos ec.symm]
   ·rw [if_neg ec,if_neg (Ne.symm ec)]
    by_cases hm:a∈keysP r
    ·rw [aAo a v c r hm,if_neg (Ne.symm ec),if_neg ec]
    ·have e2:(r.map fun p=>if p.1=a then (p.1,v) else p)=r:=by
      conv=>rhs; rw [← List.map_id r]
      apply List.map_congr_left
      intro p hp
      rw [if_neg (fun z=>hm (by rw [← z]; exact List.mem_map.mpr ⟨p,hp,rfl⟩))]
      rfl
     rw [e2,if_neg ec]
  ·rw [if_neg e]
   have hm:k∈keysP r:=by
    rcases List.mem_cons.mp h with z | z
    ·exact absurd z.symm e
    ·exact z
   unfold look
   rw [aAo k v c r hm]
   by_cases ec:a=c
   ·rw [if_pos ec,if_pos ec,if_neg (fun z=>e (ec.trans z))]
   ·rw [if_neg ec,if_neg ec]
theorem aEm (k v c:Int):∀ ps:Ps,k ∉ keysP ps→look (ps++[(k,v)]) c=if c=k then v else look ps c
 | [],_=>by
  show (if k=c then v else 0)=if c=k then v else 0
  by_cases e:k=c
  ·rw [if_pos e,if_pos e.symm]
  ·rw [if_neg e,if_neg (Ne.symm e)]
 | (a,b) :: r,h=>by
  have hm:k ∉ keysP r:=fun z=>h (List.mem_cons_of_mem _ z)
  have ha:a≠k:=fun z=>h (by rw [← z]; exact List.mem_cons_self ..)
  show (if a=c then b else look (r++[(k,v)]) c)=if c=k then v else if a=c then b else look r c
  rw [aEm k v c r hm]
  by_cases e:a=c
  ·rw [if_pos e,if_pos e,if_neg (fun z=>ha (e.trans z))]
  ·rw [if_neg e,if_neg e]
theorem aAp (ps:Ps) (k v c:Int):look (putI ps k v) c=if c=k then v else look ps c:=by
 unfold putI
 split
 ·rename_i h; exact aAo k v c ps h
 ·rename_i h; exact aEm k v c ps h
theorem aEn (ps:Ps) (k v:Int):keysP (putI ps k v)=if k∈keysP ps then keysP ps else keysP ps++[k]:=by
 unfold putI
 split
 ·exact aEl k v ps
 ·unfold keysP; rw [List.map_append]; rfl
theorem aGl {ps:Ps} {k v c:Int}:c∈keysP (putI ps k v)↔c∈keysP ps∨c=k:=by
 rw [aEn]
 split
 ·rename_i h
  exact ⟨.inl,fun z=>z.elim id fun e=>e ▸ h⟩
 ·rw [List.mem_append,List.mem_singleton]
theorem aCY {ps:Ps} {k v:Int} (h:(keysP ps).Nodup):(keysP (putI ps k v)).Nodup:=by
 rw [aEn]
 split
 ·exact h
 ·rename_i c
  exact List.nodup_append.mpr ⟨h,by simp,fun a ha b hb=>by rw [List.mem_singleton.mp hb]; exact fun z=>c (z ▸ ha)⟩
theorem aAq (ps:Ps) (k v:Int):(putI ps k v).length≤ps.length + 1:=by
 unfold putI
 split
 ·rw [List.length_map]; lia
 ·rw [List.length_append]; exact Nat.le_refl _
noncomputable def kvI (p:Int×Int):Key×V:=(Sum.inl p.1,.int p.2)
theorem aHy (ps:Ps) (k v:Int):putK (ps.map kvI) (Sum.inl k) (.int v)=(putI ps k v).map kvI:=by
 unfold putK putI
 have e:((ps.map kvI).any fun kv=>decide (kv.1=(Sum.inl k:Key)))=decide (k∈keysP ps):=by
  rw [List.any_map]
  by_cases h:k∈keysP ps
  ·rw [decide_eq_true h]
   obtain ⟨p,hp,e⟩:=List.mem_map.mp h
   exact List.any_eq_true.mpr ⟨p,hp,by show decide ((Sum.inl p.1:Key)=Sum.inl k)=true; rw [e]; simp⟩
  ·rw [decide_eq_false h]
   refine List.any_eq_false.mpr fun p hp=>?_
   show ¬ decide ((Sum.inl p.1:Key)=Sum.inl k)=true
   intro z
   have:=of_decide_eq_true z
   cases this
   exact h (List.mem_map.mpr ⟨p,hp,rfl⟩)
 rw [e]
 by_cases h:k∈keysP ps
 ·rw [if_pos h,if_pos (decide_eq_true h),List.map_map,List.map_map]
  apply List.map_congr_left
  intro p _
  show (if (Sum.inl p.1:Key)=Sum.inl k then (Sum.inl p.1,V.int v) else (Sum.inl p.1,V.int p.2))=kvI (if p.1=k then (p.1,v) else p)
  by_cases e2:p.1=k
  ·rw [if_pos (by rw [e2]),if_pos e2]; rfl
  ·rw [if_neg (fun z=>e2 (by cases z; rfl)),if_neg e2]; rfl
 ·rw [if_neg h,if_neg (by simpa using h),List.map_append]; rfl
theorem jh (c:Int):∀ ps:Ps,(valV (ps.map kvI) (Sum.inl c)).getD (.int 0)=.int (look ps c)
 | []=>rfl
 | (k,v) :: r=>by
  rw [List.map_cons]
  unfold look
  by_cases e:k=c
  ·rw [jA (by show (Sum.inl k:Key)=Sum.inl c; rw [e]),if_pos e]; rfl
  ·rw [jB (by show ¬ (Sum.inl k:Key)=Sum.inl c; intro z; cases z; exact e rfl),if_neg e]
   exact jh c r
end Law
namespace Law
open PySem L2
noncomputable def stepA (n:Int) (ps:Ps) (p:Int×Int) (sd:Int):Ps:=putI ps (p.1 + sd * n) (look ps (p.1 + sd * n) + p.2)
noncomputable def stepE (n:Int) (ps:Ps) (p:Int×Int):Ps:=stepA n (stepA n ps p 1) p (-1)
noncomputable def either (n:Int) (ps:Ps):Ps:=ps.foldl (stepE n) []
theorem aGm (n:Int) (ps:Ps) (c v s:Int):look (stepE n ps (c,v)) s=look ps s + (if s=c + n then v else 0) + (if s=c - n then v else 0):=by
 unfold stepE stepA
 have e1:c + 1 * n=c + n:=by lia
 have e2:c + -1 * n=c - n:=by lia
 dsimp only
 rw [e1,e2,aAp,aAp,aAp]
 by_cases h1:s=c - n
 ·subst h1
  rw [if_pos rfl,if_pos rfl]
  by_cases h2:c - n=c + n
  ·rw [if_pos h2,if_pos h2,h2]
  ·rw [if_neg h2,if_neg h2]; lia
 ·rw [if_neg h1,if_neg h1]
  by_cases h2:s=c + n
  ·subst h2; rw [if_pos rfl,if_pos rfl]; lia
  ·rw [if_neg h2,if_neg h2]; lia
noncomputable def tot (n:Int):Ps→Int→Int
 | [],_=>0
 | (c,v) :: r,s=>(if s=c + n then v else 0) + (if s=c - n then v else 0) + tot n r s
theorem aAB (n s:Int):∀ (ps acc:Ps),look (ps.foldl (stepE n) acc) s=look acc s + tot n ps s
 | [],acc=>by show look acc s=look acc s + 0; lia
 | (c,v) :: r,acc=>by
  rw [List.foldl_cons,aAB n s r,aGm]
  show _=look acc s + ((if s=c + n then v else 0) + (if s=c - n then v else 0) + tot n r s)
  lia
theorem aGn (n s:Int):∀ {ps:Ps},(keysP ps).Nodup→tot n ps s=look ps (s - n) + look ps (s + n)
 | [],_=>rfl
 | (c,v) :: r,h=>by
  obtain ⟨h1,h2⟩:=List.nodup_cons.mp h
  show (if s=c + n then v else 0) + (if s=c - n then v else 0) + tot n r s=(if c=s - n then v else look r (s - n)) + (if c=s + n then v else look r (s + n))
  rw [aGn n s h2]
  by_cases e1:s=c + n
  ·have e1':c=s - n:=by lia
   rw [if_pos e1,if_pos e1']
   have z1:look r (s - n)=0:=qD (by rw [← e1']; exact h1)
   by_cases e2:s=c - n
   ·have e2':c=s + n:=by lia
    rw [if_pos e2,if_pos e2']
    have z2:look r (s + n)=0:=qD (by rw [← e2']; exact h1)
    lia
   ·rw [if_neg e2,if_neg (show ¬ c=s + n by lia)]; lia
  ·rw [if_neg e1,if_neg (show ¬ c=s - n by lia)]
   by_cases e2:s=c - n
   ·have e2':c=s + n:=by lia
    rw [if_pos e2,if_pos e2']
    have z2:look r (s + n)=0:=qD (by rw [← e2']; exact h1)
    lia
   ·rw [if_neg e2,if_neg (show ¬ c=s + n by lia)]; lia
theorem aHb {n:Int} {ps:Ps} {c v s:Int}:s∈keysP (stepE n ps (c,v))↔s∈keysP ps∨s=c + n∨s=c - n:=by
 unfold stepE stepA
 rw [aGl,aGl,or_assoc]
 dsimp only
 rw [show c + 1 * n=c + n by lia,show c + -1 * n=c - n by lia]
theorem aAr {n s:Int}:∀ (ps acc:Ps),s∈keysP (ps.foldl (stepE n) acc)↔s∈keysP acc∨∃ c∈keysP ps,s=c + n∨s=c - n
 | [],acc=>by
  show s∈keysP acc↔_
  constructor
  ·exact .inl
  ·rintro (h | ⟨c,h,_⟩)
   ·exact h
   ·cases h
 | (c,v) :: r,acc=>by
  rw [List.foldl_cons,aAr r,aHb,or_assoc]
  constructor
  ·rintro (h | h | ⟨c',h,e⟩)
   ·exact .inl h
   ·exact .inr ⟨c,List.mem_cons_self ..,h⟩
   ·exact .inr ⟨c',List.mem_cons_of_mem _ h,e⟩
  ·rintro (h | ⟨c',h,e⟩)
   ·exact .inl h
   ·rcases List.mem_cons.mp h with rfl | h
    ·exact .inr (.inl e)
    ·exact .inr (.inr ⟨c',h,e⟩)
theorem jU (n:Int):∀ (ps acc:Ps),(keysP acc).Nodup→(keysP (ps.foldl (stepE n) acc)).Nodup
 | [],_,h=>h
 | p :: r,acc,h=>jU n r _ (aCY (aCY h))
theorem aAs (n:Int):∀ (ps acc:Ps),(ps.foldl (stepE n) acc).length≤acc.length + 2 * ps.length
 | [],acc=>by show acc.length≤acc.length + 2 * 0; lia
 | p :: r,acc=>by
  rw [List.foldl_cons,List.length_cons]
  have h1:=aAs n r (stepE n acc p)
  have h2:=aAq acc (p.1 + 1 * n) (look acc (p.1 + 1 * n) + p.2)
  have h3:(stepE n acc p).length≤(stepA n acc p 1).length + 1:=aAq _ _ _
  have h4:(stepA n acc p 1).length≤acc.length + 1:=h2
  lia
noncomputable def dic:List Int→Ps
 | []=>[(0,1)]
 | n :: r=>either n (dic r)
theorem jH:∀ r:List Int,(keysP (dic r)).Nodup
 | []=>by decide
 | n :: r=>jU n (dic r) [] List.nodup_nil
theorem aIe (s:Int):look (dic []) s=if s=0 then 1 else 0:=by
 show (if (0:Int)=s then (1:Int) else 0)=_
 by_cases h:s=0
 ·rw [if_pos h.symm,if_pos h]
 ·rw [if_neg (Ne.symm h),if_neg h]
theorem jI (n:Int) (r:List Int) (s:Int):look (dic (n :: r)) s=look (dic r) (s - n) + look (dic r) (s + n):=by
 show look ((dic r).foldl (stepE n) []) s=_
 rw [aAB,aGn n s (jH r)]
 show 0 + _=_
 lia
noncomputable def sgS:List Int→List Str→Int
 | n :: ns,s :: ss=>(if s="-" then -n else n) + sgS ns ss
 | _,_=>0
noncomputable abbrev sg2:List Str:=["+","-"]
theorem aAt (sg:List Str):∀ k:Nat,chs sg (k + 1)=sg.flatMap fun s=>(chs sg k).map (s :: ·)
 | 0=>by
  show ([[]]:List (List Str)).flatMap (fun ss=>sg.map fun s=>ss++[s])=sg.flatMap fun s=>([[]]:List (List Str)).map (s :: ·)
  rw [List.flatMap_cons,List.flatMap_nil,List.append_nil]
  induction sg with
  | nil=>rfl
  | cons x r ih=>rw [List.map_cons,List.flatMap_cons,ih]; rfl
 | k + 1=>by
  show (chs sg (k + 1)).flatMap (fun ss=>sg.map fun s=>ss++[s])=sg.flatMap fun s=>((chs sg k).flatMap fun ss=>sg.map fun t=>ss++[t]).map (s :: ·)
  rw [aAt sg k,List.flatMap_assoc]
  congr 1
  funext s
  rw [List.flatMap_map,List.map_flatMap]
  congr 1
  funext ss
  rw [List.map_map]
  rfl
noncomputable def dueS (r:List Int) (s:Int):List (List Str):=(chs sg2 r.length).filter fun ss=>decide (sgS r ss=s)
theorem aEo (s:Int):dueS [] s=if s=0 then [[]] else []:=by
 unfold dueS
 show ([[]]:List (List Str)).filter (fun ss=>decide (sgS [] ss=s))=_
 by_cases h:s=0
 ·subst h; rw [if_pos rfl]; rfl
 ·rw [if_neg h,List.filter_cons_of_neg (by show ¬ decide ((0:Int)=s)=true; intro z; exact h (of_decide_eq_true z).symm)]; rfl
theorem jJ (n:Int) (r:List Int) (s:Int):dueS (n :: r) s=(dueS r (s - n)).map (("+":Str) :: ·)++(dueS r (s + n)).map (("-":Str) :: ·):=by
 unfold dueS
 show (chs sg2 (r.length + 1)).filter _=_
 rw [aAt]
 show (((chs sg2 r.length).map (("+":Str) :: ·))++(((chs sg2 r.length).map (("-":Str) :: ·))++[])).filter _=_
 rw [List.append_nil,List.filter_append,List.filter_map,List.filter_map]
 have e1:(chs sg2 r.length).filter ((fun ss=>decide (sgS (n :: r) ss=s)) ∘ fun x=>("+":Str) :: x)=(chs sg2 r.length).filter fun ss=>decide (sgS r ss=s - n):=by
  congr 1
  funext ss
  show decide ((if ("+":Str)="-" then -n else n) + sgS r ss=s)=decide (sgS r ss=s - n)
  rw [if_neg (by decide +kernel)]
  by_cases h:sgS r ss=s - n
  ·rw [decide_eq_true h,decide_eq_true (by lia)]
  ·rw [decide_eq_false h,decide_eq_false (by lia)]
 have e2:(chs sg2 r.length).filter ((fun ss=>decide (sgS (n :: r) ss=s)) ∘ fun x=>("-":Str) :: x)=(chs sg2 r.length).filter fun ss=>decide (sgS r ss=s + n):=by
  congr 1
  funext ss
  show decide ((if ("-":Str)="-" then -n else n) + sgS r ss=s)=decide (sgS r ss=s + n)
  rw [if_pos rfl]
  by_cases h:sgS r ss=s + n
  ·rw [decide_eq_true h,decide_eq_true (by lia)]
  ·rw [decide_eq_false h,decide_eq_false (by lia)]
 rw [e1,e2]
theorem jV:∀ (r:List Int) (s:Int),((dueS r s).length:Int)=look (dic r) s
 | [],s=>by
  rw [aEo,aIe]
  by_cases h:s=0
  ·rw [if_pos h,if_pos h]; rfl
  ·rw [if_neg h,if_neg h]; rfl
 | n :: r,s=>by
  rw [jJ,jI,List.length_append,List.length_map,List.length_map,← jV r,← jV r]
  lia
theorem jW:∀ (r:List Int) (s:Int),s∈keysP (dic r)↔∃ ss∈chs sg2 r.length,sgS r ss=s
 | [],s=>by
  show s∈[(0:Int)]↔∃ ss∈([[]]:List (List Str)),sgS [] ss=s
  constructor
  ·intro h
   exact ⟨[],List.mem_singleton.mpr rfl,(List.mem_singleton.mp h).symm⟩
  ·rintro ⟨ss,h,e⟩
   rw [List.mem_singleton.mp h] at e
   exact List.mem_singleton.mpr e.symm
 | n :: r,s=>by
  show s∈keysP ((dic r).foldl (stepE n) [])↔_
  rw [aAr]
  have e3:chs sg2 (n :: r).length=(chs sg2 r.length).map (("+":Str) :: ·)++(chs sg2 r.length).map (("-":Str) :: ·):=by
   show chs sg2 (r.length + 1)=_
   rw [aAt]
   show ((chs sg2 r.length).map (("+":Str) :: ·))++(((chs sg2 r.length).map (("-":Str) :: ·))++[])=_
   rw [List.append_nil]
  rw [e3]
  constructor
  ·rintro (h | ⟨c,hc,e⟩)
   ·cases h
   ·obtain ⟨ss,h1,h2⟩:=(jW r c).mp hc
    rcases e with e | e
    ·refine ⟨"+" :: ss,List.mem_append_left _ (List.mem_map.mpr ⟨ss,h1,rfl⟩),?_⟩
     show (if ("+":Str)="-" then -n else n) + sgS r ss=s
     rw [if_neg (by decide +kernel)]; lia
    ·refine ⟨"-" :: ss,List.mem_append_right _ (List.mem_map.mpr ⟨ss,h1,rfl⟩),?_⟩
     show (if ("-":Str)="-" then -n else n) + sgS r ss=s
     rw [if_pos rfl]; lia
  ·rintro ⟨ss,h,e⟩
   refine .inr ?_
   rcases List.mem_append.mp h with h | h
   ·obtain ⟨tt,h1,rfl⟩:=List.mem_map.mp h
    refine ⟨sgS r tt,(jW r _).mpr ⟨tt,h1,rfl⟩,.inl ?_⟩
    have e':(if ("+":Str)="-" then -n else n) + sgS r tt=s:=e
    rw [if_neg (by decide +kernel)] at e'
    lia
   ·obtain ⟨tt,h1,rfl⟩:=List.mem_map.mp h
    refine ⟨sgS r tt,(jW r _).mpr ⟨tt,h1,rfl⟩,.inr ?_⟩
    have e':(if ("-":Str)="-" then -n else n) + sgS r tt=s:=e
    rw [if_pos rfl] at e'
    lia
end Law
namespace Law
open PySem L2
noncomputable def RowS (r:List Int):Prop:=r.length≤39∧∀ n∈r,1≤n∧n≤99
theorem RowS.drop {r:List Int} (h:RowS r) (k:Nat):RowS (r.drop k):=⟨by rw [List.length_drop]; have:=h.1; lia,fun n hn=>h.2 n (List.mem_of_mem_drop hn)⟩
theorem RowS.take {r:List Int} (h:RowS r) (k:Nat):RowS (r.take k):=⟨by rw [List.length_take]; have:=h.1; lia,fun n hn=>h.2 n (List.mem_of_mem_take hn)⟩
theorem aHz:∀ {r:List Int},(∀ n∈r,1≤n∧n≤99)→0≤r.sum∧r.sum≤99 * (r.length:Int)
 | [],_=>by simp
 | n :: r,h=>by
  have h1:=aHz fun m hm=>h m (List.mem_cons_of_mem _ hm)
  have h2:=h n (List.mem_cons_self ..)
  rw [List.sum_cons,List.length_cons]
  lia
theorem mem_either {n s:Int} {ps:Ps}:s∈keysP (either n ps)↔(s - n)∈keysP ps∨(s + n)∈keysP ps:=by
 unfold either
 rw [aAr]
 constructor
 ·rintro (h | ⟨c,hc,e | e⟩)
  ·cases h
  ·exact .inl (by rw [e,show c + n - n=c by lia]; exact hc)
  ·exact .inr (by rw [e,show c - n + n=c by lia]; exact hc)
 ·rintro (h | h)
  ·exact .inr ⟨_,h,.inl (by lia)⟩
  ·exact .inr ⟨_,h,.inr (by lia)⟩
theorem aAC (n s:Int) {ps:Ps} (h:(keysP ps).Nodup):look (either n ps) s=look ps (s - n) + look ps (s + n):=by
 unfold either
 rw [aAB,aGn n s h]
 show 0 + _=_
 lia
theorem aGo:∀ {r:List Int},(∀ n∈r,1≤n∧n≤99)→∀ s∈keysP (dic r),-r.sum≤s∧s≤r.sum∧(s + r.sum) % 2=0
 | [],_,s,h=>by
  have:s=0:=List.mem_singleton.mp h
  subst this; simp
 | n :: r,h,s,hs=>by
  have h2:=h n (List.mem_cons_self ..)
  rw [List.sum_cons]
  rcases mem_either.mp hs with c | c
  ·have:=aGo (fun m hm=>h m (List.mem_cons_of_mem _ hm)) _ c
   lia
  ·have:=aGo (fun m hm=>h m (List.mem_cons_of_mem _ hm)) _ c
   lia
theorem aGp:∀ r:List Int,r.sum∈keysP (dic r)
 | []=>List.mem_singleton.mpr rfl
 | n :: r=>mem_either.mpr (.inl (by rw [List.sum_cons,show n + r.sum - n=r.sum by lia]; exact aGp r))
theorem jn:∀ {ks xs:List Int},ks.Nodup→(∀ m,m∈ks→m∈xs)→ks.length≤xs.length
 | [],_,_,_=>Nat.zero_le _
 | a :: r,xs,h,hs=>by
  obtain ⟨h1,h2⟩:=List.nodup_cons.mp h
  have ha:=hs a (List.mem_cons_self ..)
  have hr:=jn (xs:=xs.erase a) h2 fun m hm=>by
   have hne:m≠a:=fun z=>h1 (by rw [← z]; exact hm)
   exact (List.mem_erase_of_ne hne).mpr (hs m (List.mem_cons_of_mem _ hm))
  have hp:1≤xs.length:=List.length_pos_of_mem ha
  rw [List.length_erase_of_mem ha] at hr
  rw [List.length_cons]; lia
theorem aAu {r:List Int} (h:RowS r):(dic r).length≤3862:=by
 obtain ⟨s0,s1⟩:=aHz h.2
 have hl:=h.1
 have:=jn (ks:=keysP (dic r)) (xs:=(List.range (r.sum.toNat + 1)).map fun i:Nat=>2 * (i:Int) - r.sum) (jH r) fun m hm=>by
  have hb:=aGo h.2 m hm
  refine List.mem_map.mpr ⟨((m + r.sum) / 2).toNat,List.mem_range.mpr (by lia),by lia⟩
 unfold keysP at this
 rw [List.length_map,List.length_map,List.length_range] at this
 lia
theorem aAv (n:Int):∀ (r:List Int) (s:Int),look (dic (r++[n])) s=look (dic r) (s - n) + look (dic r) (s + n)
 | [],s=>jI n [] s
 | m :: r,s=>by
  rw [List.cons_append,jI,jI,jI,aAv n r,aAv n r,show s - m - n=s - n - m by lia,show s - m + n=s + n - m by lia,show s + m - n=s - n + m by lia,show s + m + n=s + n + m by lia]
  lia
noncomputable def fwd (r0:Int) (r:List Int):Ps:=r.foldl (fun ps n=>either n ps) [(r0,1)]
theorem aAw (r0 n:Int) (r:List Int):fwd r0 (r++[n])=either n (fwd r0 r):=by unfold fwd; rw [List.foldl_append]; rfl
theorem jK (r0:Int) (r:List Int):(keysP (fwd r0 r)).Nodup:=by
 unfold fwd
 suffices h:∀ (r:List Int) (ps:Ps),(keysP ps).Nodup→(keysP (r.foldl (fun ps n=>either n ps) ps)).Nodup from h r _ (by show ([r0]:List Int).Nodup; simp)
 intro r
 induction r with
 | nil=>exact fun ps h=>h
 | cons n r ih=>exact fun ps h=>ih _ (jU n ps [] List.nodup_nil)
theorem aAD (r0:Int):∀ (r:List Int) (s:Int),look (fwd r0 r.reverse) s=look (dic r.reverse) (s - r0)
 | [],s=>by
  show (if r0=s then (1:Int) else 0)=(if (0:Int)=s - r0 then 1 else 0)
  by_cases h:r0=s
  ·rw [if_pos h,if_pos (by lia)]
  ·rw [if_neg h,if_neg (by lia)]
 | n :: r,s=>by
  rw [List.reverse_cons,aAw,aAC n s (jK r0 _),aAv,aAD r0 r,aAD r0 r,show s - n - r0=s - r0 - n by lia,show s + n - r0=s - r0 + n by lia]
theorem aEp (r0:Int) (r:List Int) (s:Int):look (fwd r0 r) s=look (dic r) (s - r0):=by
 have:=aAD r0 r.reverse s
 rwa [List.reverse_reverse] at this
noncomputable def Pos (ps:Ps):Prop:=∀ s,(s∈keysP ps↔0 < look ps s)∧0≤look ps s
theorem Pos.either {ps:Ps} (h:Pos ps) (nd:(keysP ps).Nodup) (n:Int):Pos (either n ps):=fun s=>by
 rw [aAC n s nd,mem_either]
 have h1:=h (s - n)
 have h2:=h (s + n)
 refine ⟨?_,by lia⟩
 rw [h1.1,h2.1]
 lia
theorem aGq (r0:Int):Pos [(r0,1)]:=fun s=>by
 show (s∈[r0]↔0 < if r0=s then (1:Int) else 0)∧0≤if r0=s then (1:Int) else 0
 by_cases h:r0=s
 ·rw [if_pos h]; subst h; simp
 ·rw [if_neg h]
  refine ⟨⟨fun z=>absurd (List.mem_singleton.mp z).symm h,fun z=>by lia⟩,by lia⟩
theorem aIf (r0:Int) (r:List Int):Pos (fwd r0 r):=by
 suffices h:∀ l:List Int,Pos (fwd r0 l.reverse) by
  have:=h r.reverse
  rwa [List.reverse_reverse] at this
 intro l
 induction l with
 | nil=>exact aGq r0
 | cons n l ih=>rw [List.reverse_cons,aAw]; exact ih.either (jK r0 _) n
theorem aGr:∀ r:List Int,Pos (dic r)
 | []=>aGq 0
 | n :: r=>(aGr r).either (jH r) n
theorem aEE (r0:Int) (r:List Int) (s:Int):s∈keysP (fwd r0 r)↔s - r0∈keysP (dic r):=by
 rw [(aIf r0 r s).1,aEp,(aGr r (s - r0)).1]
theorem aEF (r0:Int) {r:List Int} (h:RowS r):(fwd r0 r).length≤3862:=by
 have h1:=aAu h
 have:=jn (ks:=keysP (fwd r0 r)) (xs:=(keysP (dic r)).map (r0 + ·)) (jK r0 r) fun m hm=>List.mem_map.mpr ⟨m - r0,(aEE r0 r m).mp hm,by lia⟩
 unfold keysP at this
 rw [List.length_map,List.length_map,List.length_map] at this
 lia
theorem aEq {l:List (List Str)} {s:Str} {i:Nat} (h:i < l.length):(l.map (s :: ·)).getD i []=s :: l.getD i []:=by
 rw [List.getD_eq_getElem?_getD,List.getElem?_map,List.getElem?_eq_getElem h,List.getD_eq_getElem?_getD,List.getElem?_eq_getElem h]; rfl
theorem aHc {n:Int} {r:List Int} {s:Int} {i:Nat} (h:i < (dueS r (s - n)).length):(dueS (n :: r) s).getD i []=("+":Str) :: (dueS r (s - n)).getD i []:=by
 rw [jJ,List.getD_eq_getElem?_getD,List.getElem?_append_left (by rw [List.length_map]; exact h),← List.getD_eq_getElem?_getD]
 exact aEq h
theorem aHd {n:Int} {r:List Int} {s:Int} {i:Nat} (h:(dueS r (s - n)).length≤i) (h2:i < (dueS (n :: r) s).length):i - (dueS r (s - n)).length < (dueS r (s + n)).length∧(dueS (n :: r) s).getD i []=("-":Str) :: (dueS r (s + n)).getD (i - (dueS r (s - n)).length) []:=by
 rw [jJ,List.length_append,List.length_map,List.length_map] at h2
 have h3:i - (dueS r (s - n)).length < (dueS r (s + n)).length:=by lia
 refine ⟨h3,?_⟩
 rw [jJ,List.getD_eq_getElem?_getD,List.getElem?_append_right (by rw [List.length_map]; exact h),List.length_map,← List.getD_eq_getElem?_getD]
 exact aEq h3
end Law
namespace L2
open PySem PySem.Spec PyProof.Rows
section
variable {prog:Program} {w:World} {A:Around} {E:Value→Shared→Prop} {s:Shared}
structure ZM (h:Heap) (z ti to i j a b:Addr) (f0:Value) (k:Nat):Prop where
 zz:IsZip h z ti to f0
 pi:IsPair h ti (.ref i) (.ref j)
 po:∃ x y,IsPair h to x y
 ia:h.IsTupleIter i a k
 jb:h.IsListIter j b k
theorem aGs {z ti to i j a b:Addr} {k:Nat} {xs ys:Array Value} {x y:Value} {Q:Value→Shared→Prop} (D:ZipApart z ti to i j a b) (Z:ZM s.heap z ti to i j a b .none k)
  (ha:s.heap.IsTuple a xs) (hb:s.heap.IsList b ys) (hx:xs[k]?=some x) (hy:ys[k]?=some y)
  (hq:∀ g,ZM g z ti to i j a b (rawInt s.heap.objs.size) (k + 1)→IsPair g s.heap.objs.size x y→g.objs.size=s.heap.objs.size + 1 →
   (∀ c o,c≠z→c≠to→c≠i→c≠j→s.heap.get? c=some o→g.get? c=some o)→Q (.ref s.heap.objs.size) { s with heap:=g }) :
  wpAny (model prog w) A (Builtin.«zip.__next__» ⟨[.ref z],[]⟩) (fun fin s'=>∃ v,fin=.done (.ret v)∧Q v s') E s:=by
 obtain ⟨Zz,Zi,⟨u,v,Zo⟩,Za,Zb⟩:=Z
 show wpAny _ _ (field (.ref z) 2 >>= _) _ _ _
 refine wpAny_bind (wpAny_field Zz rfl (x:=.bool false) rfl ?_)
 show wpAny _ _ (field (.ref z) 3 >>= _) _ _ _
 refine wpAny_bind (wpAny_field Zz rfl (x:=.ref ti) rfl (wpAny_bind (wpAny_seqItems Zi rfl ?_)))
 show wpAny _ _ (Builtin.SmallTypes.ownedTupleIsFree (.ref z) >>= _) _ _ _
 refine wpAny_bind ?_
 unfold Builtin.SmallTypes.ownedTupleIsFree
 refine wpAny_bind (wpAny_field Zz rfl (x:=.none) rfl (wpAny_pure ?_))
 simp only [if_true]
 refine wpAny_bind (wpAny_rule (wpAny_bind (wpAny_field Zz rfl (x:=.ref to) rfl (wpAny_bind (wpAny_setField_rec Zz (by simp) fun g1 z1 b1=>?_)))))
 replace z1:IsZip g1 z ti to .ellipsis:=z1
 refine wpAny_bind ?_
 simp only [List.zipIdx_cons,List.zipIdx_nil,List.forIn_cons,List.forIn_nil]
 refine wpAny_bind (wpAny_bind (wpAny_onRaise ?_))
 show wpAny _ _ (Builtin.SmallTypes.nextOf (.ref i) >>= _) _ _ _
 refine wpAny_bind (yq (Za.extBut b1.extBut D.i1z) (ha.extBut b1.extBut D.l1z) hx fun g2 p2 b2=>wpAny_pure ?_)
 have o2:IsPair g2 to u v:=b2.extBut _ _ D.TOi1 (b1.extBut _ _ D.TOz Zo)
 refine wpAny_bind (wpAny_seqItems o2 rfl (wpAny_bind (wpAny_updateSeq_pair o2 fun g3 o3 b3=>?_)))
 replace o3:IsPair g3 to x v:=o3
 refine wpAny_bind (wpAny_letGo (wpAny_pure (wpAny_bind (wpAny_bind (wpAny_onRaise ?_)))))
 show wpAny _ _ (Builtin.SmallTypes.nextOf (.ref j) >>= _) _ _ _
 refine wpAny_bind (wpAny_nextOf_list_item (((Zb.extBut b1.extBut D.i2z).extBut b2.extBut D.i12.symm).extBut b3.extBut D.TOi2.symm) (((hb.extBut b1.extBut D.l2z).extBut b2.extBut D.l2i1).extBut b3.extBut D.l2TO) hy fun g4 p4 b4=>wpAny_pure ?_)
 have o4:IsPair g4 to x v:=b4.extBut _ _ D.TOi2 o3
 refine wpAny_bind (wpAny_seqItems o4 rfl (wpAny_bind (wpAny_updateSeq_pair o4 fun g5 o5 b5=>?_)))
 replace o5:IsPair g5 to x y:=o5
 refine wpAny_bind (wpAny_letGo (wpAny_pure (wpAny_pure (wpAny_bind (wpAny_seqItems o5 rfl (wpAny_bind (wpAny_newTuple ?_)))))))
 have sz:g5.objs.size=s.heap.objs.size:=by rw [b5.1,b4.1,b3.1,b2.1,b1.1]
 have z5:IsZip g5 z ti to .ellipsis:=b5.extBut _ _ D.TOz.symm (b4.extBut _ _ D.i2z.symm (b3.extBut _ _ D.TOz.symm (b2.extBut _ _ D.i1z.symm z1)))
 have keep5:∀ c o,c≠z→c≠to→c≠i→c≠j→s.heap.get? c=some o→g5.get? c=some o:=fun c o n1 n2 n3 n4 e=>b5.extBut _ _ n2 (b4.extBut _ _ n4 (b3.extBut _ _ n2 (b2.extBut _ _ n3 (b1.extBut _ _ n1 e))))
 have pa5:g5.IsTupleIter i a (k + 1):=((p2.extBut b3.extBut D.TOi1.symm).extBut b4.extBut D.i12).extBut b5.extBut D.TOi1.symm
 have pb5:g5.IsListIter j b (k + 1):=p4.extBut b5.extBut D.TOi2.symm
 have zlt:z < g5.objs.size:=Heap.lt_size z5
 show wpAny _ _ (Builtin.SmallTypes.ownedTupleHandOut (.ref z) (.ref g5.objs.size) >>= _) _ _ _
 refine wpAny_bind ?_
 unfold Builtin.SmallTypes.ownedTupleHandOut
 have z6:IsZip (g5.push { cls:=.type "tuple",data:=.seq #[x,y] }) z ti to .ellipsis:=Heap.get?_push_of_some _ z5
 refine wpAny_bind (wpAny_setField_rec z6 (by simp) fun g7 z7 b7=>?_)
 replace z7:IsZip g7 z ti to (rawInt g5.objs.size):=z7
 refine wpAny_setField_rec z7 (by simp) fun g8 z8 b8=>?_
 replace z8:IsZip g8 z ti to (rawInt g5.objs.size):=z8
 have keep8:∀ c o,c≠z→g5.get? c=some o→g8.get? c=some o:=fun c o n e=>b8.extBut _ _ n (b7.extBut _ _ n (Heap.get?_push_of_some _ e))
 have new8:IsPair g8 g5.objs.size x y:=b8.extBut _ _ (Nat.ne_of_gt zlt) (b7.extBut _ _ (Nat.ne_of_gt zlt) (Heap.get?_push_size _ rfl))
 have sz8:g8.objs.size=g5.objs.size + 1:=by rw [b8.1,b7.1,Heap.size_push]
 rw [sz] at z8 new8 sz8
 refine wpAny_pure ⟨_,rfl,?_⟩
 show Q (.ref g5.objs.size) _
 rw [sz]
 exact hq g8 ⟨z8,keep8 _ _ D.TIz (keep5 _ _ D.TIz D.TITO D.TIi1 D.TIi2 Zi),⟨x,y,keep8 _ _ D.TOz o5⟩,pa5.at fun o e=>keep8 _ o D.i1z e,pb5.at fun o e=>keep8 _ o D.i2z e⟩ new8 sz8 fun c o n1 n2 n3 n4 e=>keep8 c o n1 (keep5 c o n1 n2 n3 n4 e)
theorem aGt {z ti to i j a b:Addr} {k:Nat} {xs ys:Array Value} {Q:PySem.Fin→Shared→Prop} (hh:A.handled=none) (D:ZipApart z ti to i j a b) (Z:ZM s.heap z ti to i j a b .none k)
  (ha:s.heap.IsTuple a xs) (hb:s.heap.IsList b ys) (hend:xs[k]?=none∨ys[k]?=none)
  (hE:∀ g e,(∀ c o,c≠z→c≠to→c≠i→c≠j→s.heap.get? c=some o→g.get? c=some o)→(∃ o,g.get? e=some o∧o.cls=.type "StopIteration")→E (.ref e) { s with heap:=g }) :
  wpAny (model prog w) A (Builtin.«zip.__next__» ⟨[.ref z],[]⟩) Q E s:=by
 obtain ⟨Zz,Zi,⟨u,v,Zo⟩,Za,Zb⟩:=Z
 show wpAny _ _ (field (.ref z) 2 >>= _) _ _ _
 refine wpAny_bind (wpAny_field Zz rfl (x:=.bool false) rfl ?_)
 show wpAny _ _ (field (.ref z) 3 >>= _) _ _ _
 refine wpAny_bind (wpAny_field Zz rfl (x:=.ref ti) rfl (wpAny_bind (wpAny_seqItems Zi rfl ?_)))
 show wpAny _ _ (Builtin.SmallTypes.ownedTupleIsFree (.ref z) >>= _) _ _ _
 refine wpAny_bind ?_
 unfold Builtin.SmallTypes.ownedTupleIsFree
 refine wpAny_bind (wpAny_field Zz rfl (x:=.none) rfl (wpAny_pure ?_))
 simp only [if_true]
 refine wpAny_bind (wpAny_rule (wpAny_bind (wpAny_field Zz rfl (x:=.ref to) rfl (wpAny_bind (wpAny_setField_rec Zz (by simp) fun g1 z1 b1=>?_)))))
 replace z1:IsZip g1 z ti to .ellipsis:=z1
 refine wpAny_bind ?_
 simp only [List.zipIdx_cons,List.zipIdx_nil,List.forIn_cons,List.forIn_nil]
 refine wpAny_bind (wpAny_bind (wpAny_onRaise ?_))
 show wpAny _ _ (Builtin.SmallTypes.nextOf (.ref i) >>= _) _ _ _
 cases hx:xs[k]? with
 | none =>
  refine wpAny_bind (jP hh (Za.extBut b1.extBut D.i1z) (ha.extBut b1.extBut D.l1z) hx fun g2 e b2 ⟨oe,q1,q2⟩=>?_)
  have z2:IsZip g2 z ti to .ellipsis:=b2 _ _ D.i1z.symm z1
  have ez:e≠z:=fun x=>by
   subst x
   rw [z2] at q1
   cases q1
   simp at q2
  exact wpAny_setField_rec z2 (by simp) fun g3 _ b3=>hE g3 e (fun c o n1 _ n3 _ x=>b3.extBut _ _ n1 (b2 _ _ n3 (b1.extBut _ _ n1 x))) ⟨oe,b3.extBut _ _ ez q1,q2⟩
 | some x =>
  have hy:ys[k]?=none:=hend.elim (fun h=>by rw [hx] at h; cases h) id
  refine wpAny_bind (yq (Za.extBut b1.extBut D.i1z) (ha.extBut b1.extBut D.l1z) hx fun g2 p2 b2=>wpAny_pure ?_)
  have o2:IsPair g2 to u v:=b2.extBut _ _ D.TOi1 (b1.extBut _ _ D.TOz Zo)
  refine wpAny_bind (wpAny_seqItems o2 rfl (wpAny_bind (wpAny_updateSeq_pair o2 fun g3 o3 b3=>wpAny_bind (wpAny_letGo (wpAny_pure (wpAny_bind (wpAny_bind (wpAny_onRaise ?_))))))))
  show wpAny _ _ (Builtin.SmallTypes.nextOf (.ref j) >>= _) _ _ _
  refine wpAny_bind (wpAny_nextOf_list_end hh (((Zb.extBut b1.extBut D.i2z).extBut b2.extBut D.i12.symm).extBut b3.extBut D.TOi2.symm) (((hb.extBut b1.extBut D.l2z).extBut b2.extBut D.l2i1).extBut b3.extBut D.l2TO) hy fun g4 e b4 ⟨oe,q1,q2⟩=>?_)
  have z4:IsZip g4 z ti to .ellipsis:=b4 _ _ D.i2z.symm (b3.extBut _ _ D.TOz.symm (b2.extBut _ _ D.i1z.symm z1))
  have ez:e≠z:=fun x=>by
   subst x
   rw [z4] at q1
   cases q1
   simp at q2
  exact wpAny_setField_rec z4 (by simp) fun g5 _ b5=>hE g5 e (fun c o n1 n2 n3 n4 x=>b5.extBut _ _ n1 (b4 _ _ n4 (b3.extBut _ _ n2 (b2.extBut _ _ n3 (b1.extBut _ _ n1 x))))) ⟨oe,b5.extBut _ _ ez q1,q2⟩
end
section
variable {prog:Program} {w:World} {A:Around} {E:Value→Shared→Prop} {s:Shared}
noncomputable abbrev zm1 (h:Heap) (a:Addr):Heap:=h.push { cls:=.type "tuple_iterator",data:=.fields #[.ref a,.int 0 0] }
noncomputable abbrev zm2 (h:Heap) (a b:Addr):Heap:=(zm1 h a).push { cls:=.type "list_iterator",data:=.fields #[.ref b,.int 0 0] }
noncomputable abbrev zm3 (h:Heap) (a b:Addr):Heap:=(zm2 h a b).push { cls:=.type "tuple",data:=.seq #[.ref h.objs.size,.ref (zm1 h a).objs.size] }
noncomputable abbrev zm4 (h:Heap) (a b:Addr):Heap:=(zm3 h a b).push { cls:=.type "tuple",data:=.seq #[.none,.none] }
noncomputable abbrev zm5 (h:Heap) (a b:Addr):Heap:=(zm4 h a b).push { cls:=.type "zip",data:=.fields #[.none,.bool false,.bool false,.ref (zm2 h a b).objs.size,.ref (zm3 h a b).objs.size] }
theorem aFK (a b:Addr) (xs ys:Array Value):Meets (Builtin.«zip.__new__» ⟨[.type "zip",.ref a,.ref b],[]⟩)
  (fun _ R s=>s.heap.IsTuple a xs∧s.heap.IsList b ys∧R (.ok (.ret (.ref (zm4 s.heap a b).objs.size))) { s with heap:=zm5 s.heap a b }) :=
 .of_wp fun prog w A R s h=>by
  obtain ⟨hp,g,d,tk,os⟩:=s
  obtain ⟨h1,h2,h⟩:=h
  have hsub:=sub_zip
  have t1:Heap.IsTuple (Shared.heap ⟨hp,g,d,tk,os⟩) a xs:=h1
  have t2:Heap.IsList (Shared.heap ⟨hp.push { cls:=.type "tuple_iterator",data:=.fields #[.ref a,.int 0 0] },g,d,tk,os⟩) b ys:=Heap.IsList.push h2 _
  wp_walk using wpAny_pyIter_tuple t1,wpAny_pyIter_list t2
  exact ⟨_,rfl,h⟩
theorem aGu {a b:Addr} {xs ys:Array Value} {Q:Value→Shared→Prop} (ha:s.heap.IsTuple a xs) (hb:s.heap.IsList b ys)
  (h:∀ g,ZM g (s.heap.objs.size + 4) (s.heap.objs.size + 2) (s.heap.objs.size + 3) s.heap.objs.size (s.heap.objs.size + 1) a b .none 0→g.objs.size=s.heap.objs.size + 5→(∀ c o,s.heap.get? c=some o→g.get? c=some o) →
   Q (.ref (s.heap.objs.size + 4)) { s with heap:=g }):wpAny (model prog w) A (call (.type "zip") [.ref a,.ref b]) Q E s:=by
 refine callType_new F.called_zip (by decide) (F.typeCall_zip_2 _ _) (F.newCall_zip_2 _ _) (fun obj=>F.args_object_init_3 obj _ _) F.entry_zip_new (aFK a b xs ys) ⟨ha,hb,?_⟩
 have z1:(zm1 s.heap a).objs.size=s.heap.objs.size + 1:=Heap.size_push ..
 have z2:(zm2 s.heap a b).objs.size=s.heap.objs.size + 2:=by rw [Heap.size_push,z1]
 have z3:(zm3 s.heap a b).objs.size=s.heap.objs.size + 3:=by rw [Heap.size_push,z2]
 have z4:(zm4 s.heap a b).objs.size=s.heap.objs.size + 4:=by rw [Heap.size_push,z3]
 have z5:(zm5 s.heap a b).objs.size=s.heap.objs.size + 5:=by rw [Heap.size_push,z4]
 have g5:(zm5 s.heap a b).get? (zm4 s.heap a b).objs.size=some _:=Heap.get?_push_size _ rfl
 have g4:(zm5 s.heap a b).get? (zm3 s.heap a b).objs.size=some _:=Heap.get?_push_of_some _ (Heap.get?_push_size _ rfl)
 have g3:(zm5 s.heap a b).get? (zm2 s.heap a b).objs.size=some _:=Heap.get?_push_of_some _ (Heap.get?_push_of_some _ (Heap.get?_push_size _ rfl))
 have g2:(zm5 s.heap a b).get? (zm1 s.heap a).objs.size=some _:=Heap.get?_push_of_some _ (Heap.get?_push_of_some _ (Heap.get?_push_of_some _ (Heap.get?_push_size _ rfl)))
 have g1:(zm5 s.heap a b).get? s.heap.objs.size=some _:=Heap.get?_push_of_some _ (Heap.get?_push_of_some _ (Heap.get?_push_of_some _ (Heap.get?_push_of_some _ (Heap.get?_push_size _ rfl))))
 show _∧_
 rw [z2,z3,z4] at g5
 rw [z1,z2] at g3
 rw [z3] at g4
 rw [z1] at g2
 rw [z4]
 exact ⟨⟨_,g5,rfl⟩,h _ ⟨g5,g3,⟨_,_,g4⟩,⟨_,g1,rfl,rfl⟩,⟨_,g2,rfl,rfl⟩⟩ z5 fun c o x=>Heap.get?_push_of_some _ (Heap.get?_push_of_some _ (Heap.get?_push_of_some _ (Heap.get?_push_of_some _ (Heap.get?_push_of_some _ x))))⟩
end
noncomputable def ItzM (K:PySem.W.Frag) (p q:Addr):It :=
  ⟨fun i H=>∃ xs ys x y,SqT K H p xs∧SqL K H q ys∧xs[i]?=some x∧ys[i]?=some y,
   fun i H v H'=>∃ T x y,v=.ref T∧H T=none∧H'=upd H T (.tup [x,y])∧∀ xs ys,SqT K H p xs→SqL K H q ys→xs[i]?=some x∧ys[i]?=some y,
   fun i H=>∃ xs ys,SqT K H p xs∧SqL K H q ys∧(xs.length≤i∨ys.length≤i)⟩
theorem aGv {P:Program} {w:World} {K:PySem.W.Frag} {es:List Expr} {kk:Nat} {pos:Pos} (p q z ti to i j:Addr) (D:ZipApart z ti to i j p q) :
  Turn P w K (.Tuple es kk pos) (ItzM K p q) [z,ti,to,i,j] z (fun k h=>ZM h z ti to i j p q .none k) where
 mem:=by simp
 obj:=fun k h st b hb=>by
  obtain ⟨a1,a2,⟨u,v,a3⟩,⟨o4,a4,c4,d4⟩,⟨o5,a5,c5,d5⟩⟩:=st
  simp only [List.mem_cons,List.not_mem_nil,or_false] at hb
  rcases hb with rfl | rfl | rfl | rfl | rfl
  ·exact ⟨_,a1,fun v e=>by cases e⟩
  ·exact ⟨_,a2,fun v e=>by cases e⟩
  ·exact ⟨_,a3,fun v e=>by cases e⟩
  ·exact ⟨_,a4,fun v e=>by rw [d4] at e; cases e⟩
  ·exact ⟨_,a5,fun v e=>by rw [d5] at e; cases e⟩
 keep:=fun k h h' st kp=>by
  obtain ⟨a1,a2,⟨u,v,a3⟩,a4,a5⟩:=st
  exact ⟨kp z (by simp) _ a1,kp ti (by simp) _ a2,⟨u,v,kp to (by simp) _ a3⟩,a4.at fun o e=>kp i (by simp) o e,a5.at fun o e=>kp j (by simp) o e⟩
 item:=by
  intro X hP hw hK hc k pins s σ H E I hf st hg
  subst hP hw hK
  obtain ⟨xs,ys,x,y,hp,hq,hx,hy⟩:=hg
  obtain ⟨us,ru,pu,_⟩:=I.tuple hp
  obtain ⟨vs,rv,pv,_⟩:=I.list hq
  obtain ⟨u,eu,r1⟩:=ru.get hx
  obtain ⟨v,ev,r2⟩:=rv.get hy
  have hT:s.TypeIs (.ref z) "zip":=⟨_,st.zz,rfl⟩
  unfold pyNext
  refine wpAny_bind (wpAny_attempt (wpAny_callSpecial?_slot (name:=Str.ofString "__next__") hT F.slot_zip_next (wpAny_call_entry F.slot_zip_next hT F.entry_zip_next (aGs D st (show s.heap.IsTuple p us.toArray from pu) pv.isList (by simpa using eu) (by simpa using ev) fun g Zg new sz kp=>wpAny_pure ?_) (F.args_zip_next_1 _))))
  refine ⟨_,rfl,?_⟩
  refine wpAny_letOwnedTupleGo_zip Zg.zz fun g' z' b'=>?_
  have fz:=hf z (by simp)
  have fo:=hf to (by simp)
  have fi:=hf i (by simp)
  have fj:=hf j (by simp)
  have nT:H s.heap.objs.size=none:=I.hok.fresh (Nat.le_refl _)
  have kp':∀ c o,c≠z→c≠to→c≠i→c≠j→s.heap.get? c=some o→g'.get? c=some o:=fun c o n1 n2 n3 n4 e=>b'.extBut _ _ n1 (kp c o n1 n2 n3 n4 e)
  have zne:s.heap.objs.size≠z:=Nat.ne_of_gt (Heap.lt_size st.zz)
  have new':IsPair g' s.heap.objs.size u v:=b'.extBut _ _ zne new
  have notch:∀ b,b ∉ [z,to,i,j]→b≠z∧b≠to∧b≠i∧b≠j:=fun b hb=>by simpa using hb
  have trk:∀ b o,H b=some o→b≠z∧b≠to∧b≠i∧b≠j:=fun b o e=>⟨zC e fz.1,zC e fo.1,zC e fi.1,zC e fj.1⟩
  have I1:Inv X pins σ (upd H s.heap.objs.size (.tup [x,y])) { s with heap:=g' }:=by
   refine I.step (g':=s.gens) (d':=s.drawn) (t':=s.toks) (ch:=[z,to,i,j]) (fun b hb=>?_) (fun b o _ _ hc e _=>?_) (fun b o _ _ hc e _=>?_) (fun b o hc e n=>?_) (fun b o hc e=>?_) (fun b xs e=>?_) (fun b o u e=>?_) (fun b ps e=>⟨#[],?_⟩) (fun m hm=>?_) (fun b o e=>?_) I.bare
   ·simp only [List.mem_cons,List.not_mem_nil,or_false] at hb
    rcases hb with rfl | rfl | rfl | rfl
    ·exact ⟨fz.2.2.2.1,fz.2.1,fz.2.2.2.2.1,fz.2.2.2.2.2⟩
    ·exact ⟨fo.2.2.2.1,fo.2.1,fo.2.2.2.2.1,fo.2.2.2.2.2⟩
    ·exact ⟨fi.2.2.2.1,fi.2.1,fi.2.2.2.2.1,fi.2.2.2.2.2⟩
    ·exact ⟨fj.2.2.2.1,fj.2.1,fj.2.2.2.2.1,fj.2.2.2.2.2⟩
   ·obtain ⟨n1,n2,n3,n4⟩:=notch b hc
    exact kp' b o n1 n2 n3 n4 e
   ·obtain ⟨n1,n2,n3,n4⟩:=notch b hc
    exact ⟨o.slots,kp' b o n1 n2 n3 n4 e⟩
   ·rw [zH (Nat.ne_of_lt (Heap.lt_size e))]; exact n
   ·obtain ⟨n1,n2,n3,n4⟩:=notch b hc
    exact ⟨o,kp' b o n1 n2 n3 n4 e⟩
   ·rw [zH (zC e nT)]; exact e
   ·rw [zH (zC e nT)]; exact e
   ·rw [zH (zC e nT),e]; simp
   ·obtain ⟨o,es,ep,ho,r⟩:=hm
    exact ⟨o,es,ep,kp' _ o (Ne.symm fz.2.1) (Ne.symm fo.2.1) (Ne.symm fi.2.1) (Ne.symm fj.2.1) ho,r⟩
   ·by_cases hb:b=s.heap.objs.size
    ·subst hb
     rw [zB] at e
     cases e
     exact ⟨by show 2≤sizeLine; rw [sizeLine_eq]; decide,[u,v],.cons r1 (.cons r2 .nil),⟨_,new',rfl,0,rfl⟩⟩
    ·rw [zH hb] at e
     refine (I.hok b o e).stay (fun c v' hcc r=>?_) (fun c r=>by rw [zH (zC r nT)]; exact r) fun c xs r=>by rw [zH (zC r nT)]; exact r
     rcases hcc with rfl | hcc
     ·obtain ⟨n1,n2,n3,n4⟩:=trk c o e
      exact kp' c v' n1 n2 n3 n4 r
     ·obtain ⟨n1,n2,n3,n4⟩:=trk c _ hcc
      exact kp' c v' n1 n2 n3 n4 r
  refine ⟨.ref s.heap.objs.size,_,I1,rfl,⟨_,x,y,rfl,nT,rfl,fun xs' ys' h1 h2=>?_⟩,?_,fun b hb=>?_⟩
  ·rw [I.tuple_inj h1 hp,I.list_inj h2 hq]
   exact ⟨hx,hy⟩
  ·obtain ⟨a1,a2,⟨c1,c2,a3⟩,a4,a5⟩:=Zg
   exact ⟨z',b'.extBut _ _ D.TIz a2,⟨c1,c2,b'.extBut _ _ D.TOz a3⟩,a4.extBut b'.extBut D.i1z,a5.extBut b'.extBut D.i2z⟩
  ·have hb':∃ o,s.heap.get? b=some o:=by
    obtain ⟨a1,a2,⟨c1,c2,a3⟩,⟨o4,a4,_⟩,⟨o5,a5,_⟩⟩:=st
    simp only [List.mem_cons,List.not_mem_nil,or_false] at hb
    rcases hb with rfl | rfl | rfl | rfl | rfl
    ·exact ⟨_,a1⟩
    ·exact ⟨_,a2⟩
    ·exact ⟨_,a3⟩
    ·exact ⟨_,a4⟩
    ·exact ⟨_,a5⟩
   obtain ⟨o,e⟩:=hb'
   rw [zH (Nat.ne_of_lt (Heap.lt_size e))]
   exact (hf b hb).1
 done:=by
  intro X hP hw hK hc k pins s σ H E I hf st hg
  subst hP hw hK
  obtain ⟨xs,ys,hp,hq,hend⟩:=hg
  obtain ⟨us,ru,pu,_⟩:=I.tuple hp
  obtain ⟨vs,rv,pv,_⟩:=I.list hq
  have l1:=ru.length
  have l2:=rv.length
  have hT:s.TypeIs (.ref z) "zip":=⟨_,st.zz,rfl⟩
  unfold pyNext
  refine wpAny_bind (wpAny_attempt (wpAny_callSpecial?_slot (name:=Str.ofString "__next__") hT F.slot_zip_next (wpAny_call_entry F.slot_zip_next hT F.entry_zip_next (aGt (I.ok.hd hc) D st (show s.heap.IsTuple p us.toArray from pu) pv.isList ?_ fun g e kp ⟨o,ho,hcl⟩=>?_) (F.args_zip_next_1 _))))
  ·rcases hend with h | h
   ·exact .inl (by simp; lia)
   ·exact .inr (by simp; lia)
  ·refine wpAny_bind (wpAny_isInstance (T:="StopIteration") (b:=true) ⟨o,ho,hcl⟩ isSubtype_stop ?_)
   refine wpAny_pure ⟨rfl,?_⟩
   have fz:=hf z (by simp)
   have fo:=hf to (by simp)
   have fi:=hf i (by simp)
   have fj:=hf j (by simp)
   have notch:∀ b,b ∉ [z,to,i,j]→b≠z∧b≠to∧b≠i∧b≠j:=fun b hb=>by simpa using hb
   have trk:∀ b o,H b=some o→b≠z∧b≠to∧b≠i∧b≠j:=fun b o e=>⟨zC e fz.1,zC e fo.1,zC e fi.1,zC e fj.1⟩
   refine I.step (g':=s.gens) (d':=s.drawn) (t':=s.toks) (ch:=[z,to,i,j]) (fun b hb=>?_) (fun b o _ _ hc e _=>?_) (fun b o _ _ hc e _=>?_) (fun b o hc e n=>n) (fun b o hc e=>?_) (fun b xs e=>e) (fun b o u e=>e) (fun b ps e=>⟨#[],by rw [e]; simp⟩) (fun m hm=>?_) (fun b o e=>?_) I.bare
   ·simp only [List.mem_cons,List.not_mem_nil,or_false] at hb
    rcases hb with rfl | rfl | rfl | rfl
    ·exact ⟨fz.2.2.2.1,fz.2.1,fz.2.2.2.2.1,fz.2.2.2.2.2⟩
    ·exact ⟨fo.2.2.2.1,fo.2.1,fo.2.2.2.2.1,fo.2.2.2.2.2⟩
    ·exact ⟨fi.2.2.2.1,fi.2.1,fi.2.2.2.2.1,fi.2.2.2.2.2⟩
    ·exact ⟨fj.2.2.2.1,fj.2.1,fj.2.2.2.2.1,fj.2.2.2.2.2⟩
   ·obtain ⟨n1,n2,n3,n4⟩:=notch b hc
    exact kp b o n1 n2 n3 n4 e
   ·obtain ⟨n1,n2,n3,n4⟩:=notch b hc
    exact ⟨o.slots,kp b o n1 n2 n3 n4 e⟩
   ·obtain ⟨n1,n2,n3,n4⟩:=notch b hc
    exact ⟨o,kp b o n1 n2 n3 n4 e⟩
   ·obtain ⟨o,es,ep,ho,r⟩:=hm
    exact ⟨o,es,ep,kp _ o (Ne.symm fz.2.1) (Ne.symm fo.2.1) (Ne.symm fi.2.1) (Ne.symm fj.2.1) ho,r⟩
   ·refine (I.hok b o e).stay (fun c v' hcc r=>?_) (fun _ r=>r) fun _ _ r=>r
    rcases hcc with rfl | hcc
    ·obtain ⟨n1,n2,n3,n4⟩:=trk c o e
     exact kp c v' n1 n2 n3 n4 r
    ·obtain ⟨n1,n2,n3,n4⟩:=trk c _ hcc
     exact kp c v' n1 n2 n3 n4 r
 self:=fun _ _ _ _ _ st h=>wpAny_pyIter_zip st.zz h
section
variable {X:Cx} {es:List Expr} {kk:Nat} {tpos:Pos}
noncomputable def iZipM (K:PySem.W.Frag) (ta:TA):TI:=fun σ H R=>ta σ H fun vs H1=>∃ p q,vs=[.ref p,.ref q]∧(∃ xs,SqT K H1 p xs)∧(∃ ys,SqL K H1 q ys)∧R (ItzM K p q) H1
theorem aIg {a b:Expr} {ta:TA} {p pos:Pos} (hm:X.mg "zip"=none) (ha:PA X [a,b] ta) (hg:Gl X "zip":=by rfl) (hs:starEach [a,b] X.env=[(false,eval a X.env),(false,eval b X.env)]:=by rfl) (hs2:starEach [b] X.env=[(false,eval b X.env)]:=by rfl) :
  PI X (.Tuple es kk tpos) (.Call (.Name "zip" p) [a,b] [] pos) (iZipM X.K ta):=by
 intro pins s σ H R I h
 refine Call_ (qj I hg hm aFy (PyProof.Rows.callWith_type1 (thn (ha pos pins s σ H _ I h) fun us s1 ⟨vs,H1,I1,r1,q1⟩=>?_) (by rw [hs,hs2]) (by rw [hs2]; rfl)))
 obtain ⟨x,y,e,⟨xs,hx⟩,⟨ys,hy⟩,q⟩:=q1
 subst e
 obtain ⟨u,v,rfl,ru,rv⟩:=vals2 r1
 cases ru; cases rv
 obtain ⟨us,_,px,_⟩:=I1.tuple hx
 obtain ⟨vs,_,py,_⟩:=I1.list hy
 have lx:x < s1.heap.objs.size:=px.lt
 have ly:y < s1.heap.objs.size:=by
  obtain ⟨o,ho,_⟩:=py.isList
  exact Heap.lt_size ho
 refine aGu (show s1.heap.IsTuple x us.toArray from px) py.isList fun g Zg sz kp=>?_
 refine wpAny_pyIter_zip Zg.zz ?_
 refine ⟨_,_,_,_,H1,rfl,I1.kept (t':=s1.toks) kp,aGv x y _ _ _ _ _ (zipApart_new lx ly),Zg,fun b hb=>?_,q⟩
 have hge:s1.heap.objs.size≤b:=by
  simp only [List.mem_cons,List.not_mem_nil,or_false] at hb
  rcases hb with rfl | rfl | rfl | rfl | rfl <;> lia
 exact I1.fpOk hge (I1.hok.fresh hge)
theorem aHe {K:PySem.W.Frag} {p r:Addr} {xs ys:List V} {n:Nat} {g:TG} {tb:TS} {D:Ends} {σ:St} {H:Hp} (hn:n=min xs.length ys.length) (Pv:Nat→St→Hp→Prop) (h0:Pv 0 σ H) (hl:∀ i σ H,i≤n→Pv i σ H→SqT K H p xs∧SqL K H r ys)
  (hs:∀ i T x y σ H,xs[i]?=some x→ys[i]?=some y→Pv i σ H→H T=none→g (.ref T) σ (upd H T (.tup [x,y])) fun σ2 H2=>tb { D with nx:=Pv (i + 1),ct:=Pv (i + 1),bk:=D.nx } σ2 H2) (hd:∀ σ H,Pv n σ H→D.nx σ H) :
  ∃ W:Nat→Nat→St→Hp→Prop,(∃ m,W 0 m σ H)∧∀ i m σ H,W i m σ H →
   ((ItzM K p r).stop i H∧D.nx σ H)∨((ItzM K p r).go i H∧∃ N:St→Hp→Prop,(∀ σ' H',N σ' H'→∃ m',m' < m∧W (i + 1) m' σ' H')∧∀ x H',(ItzM K p r).yld i H x H'→g x σ H' fun σ2 H2=>tb { D with nx:=N,ct:=N,bk:=D.nx } σ2 H2):=by
 refine ⟨fun i m σ H=>m=n - i∧i≤n∧Pv i σ H,⟨n,by simp,Nat.zero_le _,h0⟩,?_⟩
 rintro i m σ H ⟨rfl,hi,pp⟩
 obtain ⟨q1,q2⟩:=hl i σ H hi pp
 by_cases hlt:i < n
 ·have l1:i < xs.length:=by lia
  have l2:i < ys.length:=by lia
  refine .inr ⟨⟨xs,ys,xs[i],ys[i],q1,q2,by simp [l1],by simp [l2]⟩,Pv (i + 1),fun σ' H' p'=>⟨n - (i + 1),by lia,rfl,hlt,p'⟩,fun v H' y=>?_⟩
  obtain ⟨T,x,y,rfl,hT,rfl,hxy⟩:=y
  obtain ⟨e1,e2⟩:=hxy xs ys q1 q2
  exact hs i T x y σ H e1 e2 pp hT
 ·have e:i=n:=by lia
  subst e
  exact .inl ⟨⟨xs,ys,q1,q2,by lia⟩,hd σ H pp⟩
end
end L2
namespace L2
open PySem PySem.Spec PyProof.Rows
noncomputable def Itk (d:Addr) (o:Obj) (kvs:List (Key×V)):It :=
  ⟨fun i H=>H d=some (.frz o (.dK kvs))∧i < kvs.length,
   fun i H v H'=>H'=H∧∃ k x,v=kV k∧kvs[i]?=some (k,x),
   fun i H=>H d=some (.frz o (.dK kvs))∧kvs.length≤i⟩
theorem aAK {prog:Program} {w:World} {A:Around} {E:Value→Shared→Prop} {s:Shared} {it d:Addr} {i n ep:Nat} {Q:Value→Shared→Prop} (hit:s.heap.IsKeyIter it d i n ep) (h:Q (.ref it) s):wpAny (model prog w) A (pyIter (.ref it)) Q E s:=by
 refine wpAny_pyIter_slot hit.typeIs PySem.F.slot_dict_keyiterator_iter (wpAny_call_entry PySem.F.slot_dict_keyiterator_iter hit.typeIs PySem.F.entry_dict_keyiterator_iter ?_ (PySem.F.args_dict_keyiterator_iter_1 _))
 show wpAny _ _ (ret (.ref it)) _ _ s
 exact wpAny_pure ⟨_,rfl,"dict_keyiterator",_,hit.typeIs,PySem.F.slot_dict_keyiterator_next.lookup,h⟩
theorem aGw {P:Program} {w:World} {K:PySem.W.Frag} {tg:Expr} {d it:Addr} {o:Obj} {kvs:List (Key×V)} {de:Array DictEntry} {ep:Nat} (hd:o.data=.dict de ep) (hne:d≠it) :
  Turn P w K tg (Itk d o kvs) [it] it (fun i h=>h.IsKeyIter it d i kvs.length ep) where
 mem:=by simp
 obj:=fun i h st b hb=>by
  obtain ⟨oi,a1,a2,a3⟩:=st
  rw [List.mem_singleton.mp hb]
  exact ⟨_,a1,fun v e=>by rw [a3] at e; cases e⟩
 keep:=fun i h h' st kp=>by
  obtain ⟨oi,a1,a2⟩:=st
  exact ⟨oi,kp it (by simp) _ a1,a2⟩
 item:=by
  intro X hP hw hK hc k pins s σ H E I hf st hg
  subst hP hw hK
  obtain ⟨hfz,hlt⟩:=hg
  obtain ⟨hgo,z,hsm,vs,rel,o2,es2,ep2,e2,c2,d2,k2,p2,n2⟩:=I.hok d _ hfz
  rw [hgo] at e2; cases e2
  rw [hd] at d2; cases d2
  obtain ⟨⟨ky,x⟩,hx⟩:∃ p,kvs[k]?=some p:=⟨kvs[k],List.getElem?_eq_getElem hlt⟩
  obtain ⟨u,hu,ru⟩:=rel.get hx
  have hl:kvs.length=vs.length:=rel.length
  rw [hl] at st
  refine wpAny_pyNext_dict_item (knd:=zV X.prog X.w) st ⟨_,_,hgo,c2,hd,k2,p2,n2⟩ hu fun key g hk hit' sb=>⟨_,rfl,?_⟩
  have fi:=hf it (by simp)
  obtain ⟨o3,q1,q2,q3⟩:=id hit'
  refine go_of q1 q2 q3 (by decide) ?_
  refine ⟨kV ky,H,I.turned (t':=s.toks) (fun b o nb e=>by rw [sb.2 b nb]; exact e) fi.1 fi.2.1 fi.2.2.2.1 fi.2.2.2.2.1 fi.2.2.2.2.2,aE7 hk,⟨rfl,ky,x,rfl,hx⟩,by rw [hl]; exact hit',fun b hb=>?_⟩
  rw [List.mem_singleton.mp hb]; exact fi.1
 done:=by
  intro X hP hw hK hc k pins s σ H E I hf st hg
  subst hP hw hK
  obtain ⟨hfz,hend⟩:=hg
  obtain ⟨hgo,z,hsm,vs,rel,o2,es2,ep2,e2,c2,d2,k2,p2,n2⟩:=I.hok d _ hfz
  rw [hgo] at e2; cases e2
  rw [hd] at d2; cases d2
  have hl:kvs.length=vs.length:=rel.length
  rw [hl] at st
  refine wpAny_pyNext_dict_end (knd:=zV X.prog X.w) (I.ok.hd hc) st ⟨_,_,hgo,c2,hd,k2,p2,n2⟩ (List.getElem?_eq_none (by lia)) fun g eb=>⟨rfl,?_⟩
  have fi:=hf it (by simp)
  exact I.turned (t':=s.toks) (fun b o nb e=>eb b o nb e) fi.1 fi.2.1 fi.2.2.2.1 fi.2.2.2.2.1 fi.2.2.2.2.2
 self:=fun A i s Q E st h=>aAK st h
section
variable {X:Cx} {tg:Expr}
noncomputable def aJe (to:TE):TI:=fun σ H R=>to σ H fun x H1=>∃ (d:Addr) (kvs:List (Key×V)),x=.ref d∧((H1 d=some (.dK kvs)∧∀ o,R (Itk d o kvs) (upd H1 d (.frz o (.dK kvs))))∨∃ o,H1 d=some (.frz o (.dK kvs))∧R (Itk d o kvs) H1)
theorem aHf {e:Expr} {te:TE} (he:PE X e te):PI X tg e (aJe te):=by
 intro pins s σ H R I h
 refine thn (he pins s σ H _ I h) fun v s1 ⟨y,H1,I1,r1,d,kvs,ey,q⟩=>?_
 subst ey
 cases r1
 have rd:Rd H1 d (.dK kvs):=by
  rcases q with ⟨q,_⟩ | ⟨o,q,_⟩
  ·exact .inl q
  ·exact .inr ⟨o,q⟩
 obtain ⟨z,hsys,vs,rel,o,es1,ep,e1,ex,e2,e3⟩:=dk_rd I1.hok rd
 obtain ⟨H2,I2,fz,r⟩:∃ H2,Inv X pins σ H2 s1∧H2 d=some (.frz o (.dK kvs))∧R (Itk d o kvs) H2:=by
  rcases q with ⟨q,r⟩ | ⟨o',q,r⟩
  ·exact ⟨_,I1.frozen q e1,zB,r o⟩
  ·have:o'=o:=by
    have:=(I1.hok d _ q).1
    rw [e1] at this; cases this; rfl
   subst this
   exact ⟨H1,I1,q,r⟩
 refine wpAny_pyIter_dict (knd:=zV X.prog X.w) (kvs:=vs) (ep:=ep) hsys ⟨o,es1,e1,ex,e2,e3⟩ ?_
 refine ⟨_,_,_,_,H2,rfl,I2.kept (t':=s1.toks) fun b o e=>Heap.get?_push_of_some _ e,aGw (o:=o) (kvs:=kvs) e2 (Nat.ne_of_lt (Heap.lt_size e1)),⟨_,Heap.get?_push_size _ rfl,rfl,?_⟩,fun b hb=>?_,r⟩
 ·rw [rel.length]; rfl
 ·have e:b=s1.heap.objs.size:=by simpa using hb
  subst e
  exact I2.fpOk (Nat.le_refl _) (I2.hok.fresh (Nat.le_refl _))
theorem aGx {d:Addr} {o:Obj} {kvs:List (Key×V)} {g:TG} {tb:TS} {D:Ends} {σ:St} {H:Hp} (Pv:Nat→St→Hp→Prop) (h0:Pv 0 σ H) (hz:∀ i σ H,Pv i σ H→H d=some (.frz o (.dK kvs)))
  (hs:∀ i k x σ H,kvs[i]?=some (k,x)→Pv i σ H→g (kV k) σ H fun σ2 H2=>tb { D with nx:=Pv (i + 1),ct:=Pv (i + 1),bk:=D.nx } σ2 H2) (hd:∀ σ H,Pv kvs.length σ H→D.nx σ H) :
  ∃ W:Nat→Nat→St→Hp→Prop,(∃ m,W 0 m σ H)∧∀ i m σ H,W i m σ H →
   ((Itk d o kvs).stop i H∧D.nx σ H)∨((Itk d o kvs).go i H∧∃ N:St→Hp→Prop,(∀ σ' H',N σ' H'→∃ m',m' < m∧W (i + 1) m' σ' H')∧∀ x H',(Itk d o kvs).yld i H x H'→g x σ H' fun σ2 H2=>tb { D with nx:=N,ct:=N,bk:=D.nx } σ2 H2):=by
 refine ⟨fun i m σ H=>m=kvs.length - i∧i≤kvs.length∧Pv i σ H,⟨kvs.length,by simp,Nat.zero_le _,h0⟩,?_⟩
 rintro i m σ H ⟨rfl,hi,p⟩
 by_cases hlt:i < kvs.length
 ·refine .inr ⟨⟨hz i σ H p,hlt⟩,Pv (i + 1),fun σ' H' p'=>⟨kvs.length - (i + 1),by lia,rfl,hlt,p'⟩,fun v H' y=>?_⟩
  obtain ⟨rfl,k,x,rfl,hx⟩:=y
  exact hs i k x σ H' hx p
 ·have e:i=kvs.length:=by lia
  subst e
  exact .inl ⟨⟨hz _ σ H p,Nat.le_refl _⟩,hd σ H p⟩
end
end L2
namespace L2
open PySem PySem.Spec PyProof.Rows
section
open PySem.SeqAt
open PySem.AutoSeq1 (wpAny_loadPart')
open PySem.MeetsSeq PySem.MeetsSeq2 PySem.MeetsSeq3
end
variable {X:Cx}
end L2
namespace L2
open PySem PySem.Spec PyProof.Rows
section
variable {prog:Program} {w:World} {A:Around} {E:Value→Shared→Prop} {s:Shared}
end
end L2
namespace L2
open PySem PySem.Spec PyProof.Rows PySem.W
section
variable {X:Cx}
end
end L2
namespace Law
open PySem L2
noncomputable def top (i:Nat):Stmt:=PySem.Challenge.pw_ledtowish_k40_far_wishes_of_signs.main.body.getD i (.Pass ⟨0,0,0,0⟩)
section
variable {P:Program} {w:World} {K:PySem.W.Frag} {mg:Str→Option Value} {base:Heap}
noncomputable def aAE (s:Str):Sp:=fun vs H Q _=>∃ (c1 c2 c3 n:Int),vs=[.int c1,.int c2,.int c3,.int n]∧(c2=1∨c2=-1)∧(1≤n∧n≤99)∧(s=""→1≤c3∧c3 < 10 ^ 40∧n≤9)∧∀ (v:V) (H':Hp),Same H H'→Come H' v (putN s (c1,c2,c3) n)→Q v H'
theorem aAx {c2:Int} (h:c2=1∨c2=-1) (x:Int):CMul c2 x:=.inl (by rcases h with rfl | rfl <;> exact ⟨by decide,by decide⟩)
noncomputable abbrev aAS:Stmt:=top 8
theorem aIh:FnScope ["done","side","last","number"] ["done","side","last","number"] (zF aAS):=⟨rfl,rfl,rfl,by decide +kernel,rfl,by decide +kernel,by decide +kernel⟩
theorem aIi {f:Addr} {fd:FuncData} (F:Fun K "plus" "plus" aAS f fd):FnOk P w K mg base CX0 1 f fd ["done","side","last","number"] (aAE "+"):=by
 refine F.ok aIh (fun vs H Q E h=>?_) (fun cdv A outer s H vs Q E hr h=>?_)
 ·obtain ⟨c1,c2,c3,n,rfl,_⟩:=h
  rfl
 obtain ⟨c1,c2,c3,n,rfl,h2,hn,_,q⟩:=h
 refine ⟨_,(zI (zT (yo (zA (pe_op zW (pv 0) (pe_op yQ (pv 1) (pv 2))) (zA zD (zA (pv 3) zE)))))),?_⟩
 refine ⟨_,rfl,_,rfl,_,rfl,_,_,rfl,rfl,aAx h2 _,_,_,rfl,rfl,_,rfl,(by show 3≤sizeLine; decide),fun p hp=>?_⟩
 exact q _ _ (Same.new hp) ⟨p,rfl,by rw [zB,qK]⟩
noncomputable abbrev aAT:Stmt:=top 9
theorem aIj:FnScope ["done","side","last","number"] ["done","side","last","number"] (zF aAT):=⟨rfl,rfl,rfl,by decide +kernel,rfl,by decide +kernel,by decide +kernel⟩
theorem aIk {f:Addr} {fd:FuncData} (F:Fun K "less" "less" aAT f fd):FnOk P w K mg base CX0 1 f fd ["done","side","last","number"] (aAE "-"):=by
 refine F.ok aIj (fun vs H Q E h=>?_) (fun cdv A outer s H vs Q E hr h=>?_)
 ·obtain ⟨c1,c2,c3,n,rfl,_⟩:=h
  rfl
 obtain ⟨c1,c2,c3,n,rfl,h2,hn,_,q⟩:=h
 refine ⟨_,(zI (zT (yo (zA (pe_op zW (pv 0) (pe_op yQ (pv 1) (pv 2))) (zA (pe_un qo zD) (zA (pv 3) zE)))))),?_⟩
 refine ⟨_,rfl,_,rfl,_,rfl,_,_,rfl,rfl,aAx h2 _,_,_,rfl,rfl,_,rfl,_,rfl,(by show 3≤sizeLine; decide),fun p hp=>?_⟩
 exact q _ _ (Same.new hp) ⟨p,rfl,by rw [zB,qL]⟩
noncomputable abbrev jX:Stmt:=top 10
theorem aHg:FnScope ["done","side","last","number"] ["done","side","last","number"] (zF jX):=⟨rfl,rfl,rfl,by decide +kernel,rfl,by decide +kernel,by decide +kernel⟩
theorem aHh {f:Addr} {fd:FuncData} (F:Fun K "times" "times" jX f fd):FnOk P w K mg base CX0 1 f fd ["done","side","last","number"] (aAE "*"):=by
 refine F.ok aHg (fun vs H Q E h=>?_) (fun cdv A outer s H vs Q E hr h=>?_)
 ·obtain ⟨c1,c2,c3,n,rfl,_⟩:=h
  rfl
 obtain ⟨c1,c2,c3,n,rfl,h2,hn,_,q⟩:=h
 refine ⟨_,(zI (zT (yo (zA (pv 0) (zA (pv 1) (zA (pe_op yQ (pv 2) (pv 3)) zE)))))),?_⟩
 refine ⟨_,rfl,_,rfl,_,rfl,_,rfl,_,_,rfl,rfl,.inr ⟨by lia,by lia⟩,(by show 3≤sizeLine; decide),fun p hp=>?_⟩
 exact q _ _ (Same.new hp) ⟨p,rfl,by rw [zB,qU]⟩
noncomputable abbrev ye:Stmt:=top 11
theorem aEG:FnScope ["done","side","last","number"] ["done","side","last","number"] (zF ye):=⟨rfl,rfl,rfl,by decide +kernel,rfl,by decide +kernel,by decide +kernel⟩
theorem aCZ {i:Int} (h1:1≤i) (h2:i < 10 ^ 40):i.natAbs.log2 < 1920:=aAO (by decide) (by
 have:i.natAbs < 10 ^ 40:=by lia
 exact Nat.lt_of_lt_of_le this (by decide))
theorem aEH {f:Addr} {fd:FuncData} (F:Fun K "together" "together" ye f fd) (B:Blt mg):FnOk P w K mg base CX0 1 f fd ["done","side","last","number"] (aAE ""):=by
 refine F.ok aEG (fun vs H Q E h=>?_) (fun cdv A outer s H vs Q E hr h=>?_)
 ·obtain ⟨c1,c2,c3,n,rfl,_⟩:=h
  rfl
 obtain ⟨c1,c2,c3,n,rfl,h2,hn,hf,q⟩:=h
 obtain ⟨f1,f2,f3⟩:=hf rfl
 obtain ⟨e1,e2,e3⟩:=aIV f1 f2 hn.1 f3
 refine ⟨_,(zI (zT (yo (zA (pv 0) (zA (pv 1) (zA (zi aAZ rfl B.int aAP (zA (pe_op aEv (zi je rfl B.str aHq (zA (pv 2) zE)) (zi je rfl B.str aHq (zA (pv 3) zE))) zE)) zE)))))),?_⟩
 refine ⟨_,rfl,_,rfl,_,rfl,c3,rfl,aCZ f1 f2,_,rfl,n,rfl,aCZ hn.1 (by lia),_,_,rfl,rfl,(by rw [sizeLine_eq]; exact Nat.le_trans e3 (by decide)),_,_,rfl,e1,e2,(by show 3≤sizeLine; decide),fun p hp=>?_⟩
 exact q _ _ (Same.new hp) ⟨p,rfl,by rw [zB,jk]⟩
structure PutD (P:Program) (w:World) (K:PySem.W.Frag) (mg:Str→Option Value) (base:Heap) (dD:Addr) (fam:Str→Addr):Prop where
 top:aFn w K dD
 gl:mg "PUT"=some (.ref dD)
 at_:∀ s,qM s→PySem.W.nsIn K dD s=some (some (.ref (fam s)))
 ok:∀ s,qM s→Callee P w K mg base CX0 1 (fam s) (aAE s)
noncomputable def FamS (fam:Str→Addr) (g:Addr) (sp:Sp):Prop:=∃ s,qM s∧g=fam s∧sp=aAE s
noncomputable def aI0:Sp:=fun vs H Q _=>∃ (s:Str) (v:V) (c:C3) (n:Int),vs=[.str s,v,.int n]∧qM s∧Come H v c∧(c.2.1=1∨c.2.1=-1)∧(1≤n∧n≤99)∧(s=""→1≤c.2.2∧c.2.2 < 10 ^ 40∧n≤9)∧∀ (v:V) (H':Hp),Same H H'→Come H' v (putN s c n)→Q v H'
noncomputable abbrev yg:Stmt:=top 14
theorem sc_put_next:FnScope ["sign","come","number","done","side","last","put"] ["sign","come","number"] (zF yg):=⟨rfl,rfl,rfl,by decide +kernel,rfl,by decide +kernel,by decide +kernel⟩
theorem aIl {f dD:Addr} {fam:Str→Addr} {fd:FuncData} (F:Fun K "put_next" "put_next" yg f fd) (De:PutD P w K mg base dD fam):FnOk P w K mg base CX0 2 f fd ["sign","come","number"] aI0:=by
 have De_ok:∀ g sp,FamS fam g sp→Callee P w K mg base CX0 1 g sp:=by
  rintro g sp ⟨wd,hw,rfl,rfl⟩
  exact De.ok wd hw
 refine F.ok sc_put_next (fun vs H Q E h=>?_) (fun cdv A outer s H vs Q E hr h=>?_)
 ·obtain ⟨s,v,c,n,rfl,_⟩:=h
  rfl
 obtain ⟨sg,v,c,n,rfl,hs,⟨qq,rfl,hq⟩,h2,hn,hf,q⟩:=h
 refine ⟨_,(zG (aJ0 (pv 1) (jc rfl (zd (zM (i:=3) sc_put_next.nd rfl (by first | exact Or.inl rfl | exact Or.inr rfl)) (zd (zM (i:=4) sc_put_next.nd rfl (by first | exact Or.inl rfl | exact Or.inr rfl)) (zd (zM (i:=5) sc_put_next.nd rfl (by first | exact Or.inl rfl | exact Or.inr rfl)) qH)))))
   (zG (zP (i:=6) sc_put_next.nd rfl (by first | exact Or.inl rfl | exact Or.inr rfl) (pe_ix aJ8 (jM (v:=.ref dD) rfl De.gl rfl) (pv 0) (fun _ _=>rfl)))
   (zI (zT (aHE De_ok (hr.mono (by lia)) pass0 (pv 6) (zA (pv 3) (zA (pv 4) (zA (pv 5) (zA (pv 2) zE))))))))),?_⟩
 refine ⟨_,rfl,qq,_,rfl,SqT.of hq,rfl,?_⟩
 refine ⟨_,_,rfl,_,_,rfl,_,_,rfl,rfl,?_⟩
 refine ⟨_,rfl,dD,sg,.ref (fam sg),.ref (fam sg),rfl,rfl,De.top,De.at_ sg hs,rfl,?_⟩
 exact ⟨_,rfl,fam sg,aAE sg,rfl,⟨sg,hs,rfl,rfl⟩,_,rfl,_,rfl,_,rfl,_,rfl,c.1,c.2.1,c.2.2,n,rfl,h2,hn,hf,q⟩
end
end Law
namespace Law
open PySem L2
section
variable {P:Program} {w:World} {K:PySem.W.Frag} {mg:Str→Option Value} {base:Heap}
theorem aGy (xs:List V) {a:Nat} (h:a≤xs.length):cutV xs none (some (a:Int))=xs.take a:=by
 unfold cutV
 show (xs.drop 0).take (min a xs.length - 0)=xs.take a
 rw [List.drop_zero,Nat.sub_zero,Nat.min_eq_left h]
theorem aGz (xs:List V) {a:Nat} (h:a≤xs.length):cutV xs (some (a:Int)) none=xs.drop a:=by
 unfold cutV
 show (xs.drop (min a xs.length)).take (xs.length - min a xs.length)=xs.drop a
 rw [Nat.min_eq_left h,← List.length_drop,List.take_length]
theorem zu {H H':Hp} {p:Addr} (s:Same H H') (h:H' p=none):H p=none:=by
 cases e:H p with
 | none=>rfl
 | some o=>rw [s _ _ e] at h; cases h
theorem yD {H H':Hp} {p:Addr} {o:HO} (s:Same H H') (h:H p=none):Same H (upd H' p o):=fun b u e=>by rw [zH (zC e h)]; exact s b u e
theorem pow3 {m k:Nat} (hm:m≤3) (hk:k≤9):m ^ k≤19683:=Nat.le_trans (Nat.pow_le_pow_left hm k) (Nat.le_trans (Nat.pow_le_pow_right (by decide) hk) (by decide))
noncomputable def spWB (K:PySem.W.Frag):Sp:=fun vs H Q _=>∃ (a b:Addr) (r0:Int) (rest:List Int) (sg:List Str) (wish:Int),vs=[.ref a,.ref b,.int wish]∧(∀ H':Hp,Same H H'→SqT K H' a ((r0 :: rest).map V.int))∧(∀ H':Hp,Same H H'→SqT K H' b (sg.map V.str))∧RowOk sg (r0 :: rest) ∧
 ∀ (p:Addr) (ys:List V) (H':Hp),Same H H'→H p=none→H' p=some (.lst ys)→Paired (Put H') ys (due sg r0 rest wish)→Q (.ref p) H'
noncomputable abbrev zt:Stmt:=top 13
theorem sc_ways_between:FnScope ["row","signs","wish","ways","number"] ["row","signs","wish"] (zF zt):=⟨rfl,rfl,rfl,by decide +kernel,rfl,by decide +kernel,by decide +kernel⟩
theorem ok_wb {f:Addr} {fd:FuncData} (F:Fun K "ways_between" "ways_between" zt f fd) (B:Blt mg) (Gputn:Def P w K mg base CX0 2 "put_next" aI0):FnOk P w K mg base CX0 3 f fd ["row","signs","wish"] (spWB K):=by
 refine F.okW (k:=2) sc_ways_between (fun vs H Q E h=>?_) (fun cdv A outer s H vs Q E hr h=>?_)
 ·obtain ⟨a,b,r0,rest,sg,wish,rfl,_⟩:=h
  rfl
 obtain ⟨a,b,r0,rest,sg,wish,rfl,ha,hb,ok,q⟩:=h
 refine ⟨_,(yV (w_set (i:=3) sc_ways_between.nd rfl (by first | exact Or.inl rfl | exact Or.inr rfl) (w_lst (zg (w_tup (zg (w_tup w_nil) (zg (w_tup (zg w_int (zg w_int (zg (Wr.mk (zS (qz rfl) rfl B.sum aEQ (zA (yO qJ (pv 0) yi (yN zD)) zE))) w_nil)))) w_nil yx) yx)) w_nil yx)))
   (yV (Wr.mk (yW PassesOwn.never rfl (jd (yO qJ (pv 0) (yN zD) yi)) (zM (i:=4) sc_ways_between.nd rfl (by first | exact Or.inl rfl | exact Or.inr rfl)) (zI (aII (i:=3) sc_ways_between.nd rfl (by first | exact Or.inl rfl | exact Or.inr rfl) (N:=["put","come","sign","number","signs"]) rfl (aG2 [none,none,none,some 4,some 1] rfl (by decide +kernel) (by decide +kernel) rfl rfl) rfl (yt (pv 3)) (fun _ _ _ _=>(jc rfl (zd (zM (i:=0) (show (["put","come","sign","number","signs"]:List Str).Nodup by decide +kernel) rfl (by first | exact Or.inl rfl | exact Or.inr rfl)) (zd (zM (i:=1) (show (["put","come","sign","number","signs"]:List Str).Nodup by decide +kernel) rfl (by first | exact Or.inl rfl | exact Or.inr rfl)) qH)))) (fun _ _ _ _=>(jd (pv 4))) (fun _ _ _ _=>(zM (i:=2) (show (["put","come","sign","number","signs"]:List Str).Nodup by decide +kernel) rfl (by first | exact Or.inl rfl | exact Or.inr rfl))) (fun _ _ _ _=>(yo (zA (pe_op aGD (pv 0) (yo (zA (pv 2) zE))) (zA (zR Gputn (hr.mono (by lia)) (zA (pv 2) (zA (pv 1) (zA (pv 3) zE)))) zE))))))))
   (aE2 (Wr.mk (zT (jx (N:=["put","done","side","last","wish"]) rfl (cs_of [none,none,none,none,some 2] rfl (by decide +kernel) (by decide +kernel) rfl rfl) rfl (yt (pv 3)) (fun _ _ _ _=>(jc rfl (zd (zM (i:=0) (show (["put","done","side","last","wish"]:List Str).Nodup by decide +kernel) rfl (by first | exact Or.inl rfl | exact Or.inr rfl)) (zd (jc rfl (zd (zM (i:=1) (show (["put","done","side","last","wish"]:List Str).Nodup by decide +kernel) rfl (by first | exact Or.inl rfl | exact Or.inr rfl)) (zd (zM (i:=2) (show (["put","done","side","last","wish"]:List Str).Nodup by decide +kernel) rfl (by first | exact Or.inl rfl | exact Or.inr rfl)) (zd (zM (i:=3) (show (["put","done","side","last","wish"]:List Str).Nodup by decide +kernel) rfl (by first | exact Or.inl rfl | exact Or.inr rfl)) qH)))) qH)))) (fun _ _ _ _=>(aFq (zm op_eq (pe_op zW (pv 1) (pe_op yQ (pv 2) (pv 3))) (pv 4) (zf _)))) (fun _ _ _ _=>(pv 0)))))))),?_⟩
 have szl:=sizeLine_eq
 refine ⟨(by show 0≤sizeLine; decide),fun p0 hp0=>?_⟩
 have s0:Same H (upd H p0 (.tup [])):=Same.new hp0
 have g0:(upd H p0 (.tup [])) p0=some (.tup []):=zB
 generalize upd H p0 (.tup [])=H0 at s0 g0 ⊢
 refine ⟨_,rfl,1,rfl,a,_,rfl,fun H' s'=>ha H' (s0.trans s'),fun pz Hz sz hz=>?_⟩
 rw [show cutV (List.map V.int (r0 :: rest)) none (some 1)=[r0].map V.int from aGy (a:=1) _ (by simp)] at hz
 refine ⟨pz,[r0],rfl,hz Hz (fun _ _ e=>e),?_⟩
 rw [show [r0].sum=r0 by simp]
 refine ⟨(by show 3≤sizeLine; decide),fun p1 hp1=>⟨(by show 2≤sizeLine; decide),fun p2 hp2=>⟨(by show 1≤sizeLine; decide),fun p3 hp3=>?_⟩⟩⟩
 have s1:Same H (upd (upd (upd Hz p1 (.tup [.int 0,.int 1,.int r0])) p2 (.tup [.ref p0,.ref p1])) p3 (.lst [.ref p2])):=s0.trans (sz.trans ((Same.new hp1).trans ((Same.new hp2).trans (Same.new hp3))))
 have w1:Paired (WayAt (upd (upd (upd Hz p1 (.tup [.int 0,.int 1,.int r0])) p2 (.tup [.ref p0,.ref p1])) p3 (.lst [.ref p2]))) [.ref p2] (wys sg r0 rest 0):=by
  refine .cons ⟨p2,.ref p0,.ref p1,rfl,Same.new hp3 _ _ zB,⟨p0,rfl,?_⟩,⟨p1,rfl,?_⟩⟩ .nil
  ·exact Same.new hp3 _ _ (Same.new hp2 _ _ (Same.new hp1 _ _ (sz _ _ g0)))
  ·exact Same.new hp3 _ _ (Same.new hp2 _ _ zB)
 have n3:H p3=none:=zu (s0.trans (sz.trans ((Same.new hp1).trans (Same.new hp2)))) hp3
 have g3:(upd (upd (upd Hz p1 (.tup [.int 0,.int 1,.int r0])) p2 (.tup [.ref p0,.ref p1])) p3 (.lst [.ref p2])) p3=some (.lst [.ref p2]):=zB
 generalize upd (upd (upd Hz p1 (.tup [.int 0,.int 1,.int r0])) p2 (.tup [.ref p0,.ref p1])) p3 (.lst [.ref p2])=H1 at s1 w1 g3 ⊢
 clear g0 hz
 refine ⟨_,rfl,1,rfl,a,_,rfl,fun H' s'=>ha H' (s1.trans s'),fun pr Hr sr hrr=>?_⟩
 rw [show cutV (List.map V.int (r0 :: rest)) (some 1) none=rest.map V.int from aGz (a:=1) _ (by simp)] at hrr
 have w2:=pr_kt (R:=WayAt) (fun v x h=>h.kt (KT.same sr)) w1
 refine ⟨pr,rfl,⟨_,hrr Hr (fun _ _ e=>e)⟩,jq (K:=K) (a:=pr) (xs:=rest.map V.int) (fun k σ H'=>∃ (z:Option V) (pw:Addr) (ys:List V),σ=[some (.ref a),some (.ref b),some (.int wish),some (.ref pw),z]∧Same H H'∧Same Hr H'∧H pw=none∧H' pw=some (.lst ys)∧Paired (WayAt H') ys (wys sg r0 rest k))
  ⟨none,p3,_,rfl,s1.trans sr,(fun _ _ e=>e),n3,sr _ _ g3,w2⟩ (fun i σ H' _ ⟨_,_,_,_,_,g,_⟩=>hrr H' g) ?_ ?_⟩
 ·rintro k x σ H2 hk ⟨z,pw,ys,rfl,sH,sR,nw,gw,wy⟩
  rw [List.getElem?_map] at hk
  obtain ⟨n,hn,rfl⟩:∃ n,rest[k]?=some n∧V.int n=x:=by
   cases e:rest[k]? with
   | none=>rw [e] at hk; cases hk
   | some n=>rw [e] at hk; exact ⟨n,rfl,by simpa using hk⟩
  have hkl:k < rest.length:=(List.getElem?_eq_some_iff.mp hn).1
  obtain ⟨_,hlen,h99,hsg,hm3,hF⟩:=id ok
  have hlen':rest.length≤9:=by simpa using hlen
  have hnm:n∈r0 :: rest:=List.mem_cons_of_mem _ (List.mem_of_getElem? hn)
  refine ⟨_,rfl,pw,rfl,⟨_,SqL.of gw⟩,fun D hD C s2 fp=>?_⟩
  have yl:ys.length=sg.length ^ k:=by rw [wy.length,aE4]
  refine aHI (K:=K) (a:=pw) (xs:=ys) (fun i σ H3=>∃ (o1 o2 o3:Option V) (zs:List V),σ=[o1,o2,o3,some (.int n),some (.ref b)]∧Same H2 H3∧H3 D=some (.lst zs)∧Paired (WayAt H3) zs (((wys sg r0 rest k).take i).flatMap fun x=>sg.map fun s=>(x.1++[s],putN s x.2 n)))
   ⟨none,none,none,[],rfl,Same.new hD,zB,.nil⟩ (fun i σ H3 ⟨_,_,_,_,_,g,_⟩=>SqL.of (g _ _ gw)) ?_ ?_
  ·rintro i x σ H3 hi ⟨o1,o2,o3,zs,rfl,s3,g3,pz⟩
   obtain ⟨⟨ss,c⟩,hx,hw⟩:=aA1 wy hi
   have hw3:=hw.kt (KT.same s3)
   obtain ⟨qx,u,cc,rfl,gq,pu,pc⟩:=hw3
   have hil:i < sg.length ^ k:=by rw [← yl]; exact (List.getElem?_eq_some_iff.mp hi).1
   have gd:Good sg k c:=aCQ ok k (ss,c) (by lia) (List.mem_of_getElem? hx)
   refine ⟨qx,_,rfl,SqT.of gq,rfl,_,_,rfl,_,_,rfl,rfl,?_⟩
   refine ⟨_,rfl,b,rfl,⟨_,hb H3 (sH.trans s3)⟩,aJE (K:=K) (a:=b) (zs:=sg.map V.str) (fun j σ H4=>∃ (o3:Option V) (zs:List V),σ=[some u,some cc,o3,some (.int n),some (.ref b)]∧Same H2 H4∧H4 D=some (.lst zs)∧Put H4 u ss∧Come H4 cc c ∧
    Paired (WayAt H4) zs ((((wys sg r0 rest k).take i).flatMap fun x=>sg.map fun s=>(x.1++[s],putN s x.2 n))++(sg.take j).map fun s=>(ss++[s],putN s c n))) ⟨o3,zs,rfl,s3,g3,pu,pc,by rw [List.take_zero,List.map_nil,List.append_nil]; exact pz⟩ (fun j σ H4 ⟨_,_,_,g,_⟩=>hb H4 (sH.trans g)) ?_ ?_⟩
   ·rintro j y σ H4 hj ⟨o3,zs,rfl,s4,g4,pu4,pc4,pz4⟩
    rw [List.getElem?_map] at hj
    obtain ⟨sn,hsn,rfl⟩:∃ sn,sg[j]?=some sn∧V.str sn=y:=by
     cases e:sg[j]? with
     | none=>rw [e] at hj; cases hj
     | some n=>rw [e] at hj; exact ⟨n,rfl,by simpa using hj⟩
    have hjl:j < sg.length:=(List.getElem?_eq_some_iff.mp hsn).1
    have hsm:sn∈sg:=List.mem_of_getElem? hsn
    have zl:zs.length=i * sg.length + j:=by
     rw [pz4.length,List.length_append,aEW _ sg.length _ (fun x _=>by rw [List.length_map]),List.length_map,List.length_take,List.length_take,aE4]
     congr 1
     ·congr 1; lia
     ·lia
    have zb:zs.length < sizeLine:=by
     have h1:i * sg.length + j < sg.length ^ k * sg.length:=by
      have:(i + 1) * sg.length≤sg.length ^ k * sg.length:=Nat.mul_le_mul_right _ hil
      rw [Nat.succ_mul] at this
      lia
     have h2:=pow3 (k:=k + 1) hm3 (by lia)
     rw [Nat.pow_succ] at h2
     rw [szl]; lia
    obtain ⟨qu,rfl,gu⟩:=id pu4
    refine ⟨_,rfl,_,rfl,(by show 1≤sizeLine; decide),fun pt hpt=>?_⟩
    have st:=Same.new (o:=.tup [.str sn]) hpt
    refine ⟨qu,pt,_,_,rfl,rfl,st _ _ gu,zB,?_,fun pp H5 s5 g5=>?_⟩
    ·have:ss.length=k:=jR sg k ss (by
      have:=List.mem_of_getElem? hx
      unfold wys at this
      obtain ⟨t,ht,e⟩:=List.mem_map.mp this
      cases e
      exact ht)
     show (ss.map V.str).length + 1≤1000000
     rw [List.length_map]; lia
    have s45:=st.trans s5
    refine ⟨_,rfl,_,rfl,_,rfl,sn,cc,c,n,rfl,hsg sn hsm,pc4.kt (KT.same s45),gd.1,h99 n hnm,fun z=>?_,fun vc H6 s6 hc6=>?_⟩
    ·have hz:("":Str)∈sg:=z ▸ hsm
     obtain ⟨a1,a2⟩:=gd.2 hz
     refine ⟨a1,Int.lt_of_lt_of_le a2 ?_,(hF hz).2 n hnm⟩
     have:(10:Int) ^ (k + 1)≤10 ^ 40:=by
      have:=Nat.pow_le_pow_right (n:=10) (by decide) (show k + 1≤40 by lia)
      exact_mod_cast this
     exact this
    refine ⟨(by show 2≤sizeLine; decide),fun pn hpn=>?_⟩
    have s46:=s45.trans s6
    have s47:=s46.trans (Same.new (o:=.tup [.ref pp,vc]) hpn)
    have g7:=s47 _ _ g4
    have nD:H2 D=none:=hD
    refine ⟨zs,g7,zb,some (.str sn),zs++[.ref pn],rfl,yD (s4.trans s47) nD,zB,?_,?_,?_⟩
    ·exact pu4.kt (KT.trans (KT.same s47) (KT.upd g7))
    ·exact pc4.kt (KT.trans (KT.same s47) (KT.upd g7))
    ·rw [zU hsn,List.map_append,← List.append_assoc]
     refine aA0 (pr_kt (R:=WayAt) (fun v x h=>h.kt (KT.trans (KT.same s47) (KT.upd g7))) pz4) ?_
     have kt7:KT (upd H6 pn (.tup [.ref pp,vc])) (upd (upd H6 pn (.tup [.ref pp,vc])) D (.lst (zs++[.ref pn]))):=KT.upd g7
     refine ⟨pn,.ref pp,vc,rfl,kt7 _ _ zB,⟨pp,rfl,?_⟩,(hc6.kt (KT.new hpn)).kt kt7⟩
     have:=kt7 _ _ (KT.new (o:=.tup [.ref pp,vc]) hpn _ _ (KT.same s6 _ _ g5))
     rw [this,List.map_append]
     rfl
   ·rintro σ H4 ⟨o3,zs,rfl,s4,g4,pu4,pc4,pz4⟩
    refine ⟨_,_,_,zs,rfl,s4,g4,?_⟩
    rw [List.length_map,List.take_length] at pz4
    rw [zU hx,List.flatMap_append]
    simpa using pz4
  ·rintro σ H3 ⟨o1,o2,o3,zs,rfl,s3,g3,pz⟩
   refine ⟨some (.int n),D,zs,rfl,sH.trans s3,sR.trans s3,zu sH hD,g3,?_⟩
   have el:(wys sg r0 rest k).length=ys.length:=wy.length.symm
   rw [← el,List.take_length] at pz
   rw [aEX hn]
   exact pz
 ·rintro σ H2 ⟨z,pw,ys,rfl,sH,sR,nw,gw,wy⟩
  rw [List.length_map] at wy
  obtain ⟨_,hlen,h99,hsg,hm3,hF⟩:=id ok
  have hlen':rest.length≤9:=by simpa using hlen
  refine ⟨_,rfl,pw,rfl,⟨_,SqL.of gw⟩,fun D hD C s2 fp=>?_⟩
  refine jz (K:=K) (a:=pw) (xs:=ys) (fun i zs σ H3=>∃ (o1 o2 o3 o4:Option V),σ=[o1,o2,o3,o4,some (.int wish)]∧Same H2 H3∧Paired (Put H3) zs ((((wys sg r0 rest rest.length).take i).filter fun x=>decide (wr x.2=wish)).map (·.1)))
   (fun i zs σ H3 ⟨_,_,_,_,_,g,_⟩=>SqL.of (g _ _ gw)) ⟨none,none,none,none,rfl,Same.new hD,.nil⟩ ?_ ?_
  ·rintro i x zs σ H3 hi hzl ⟨o1,o2,o3,o4,rfl,s3,pz⟩ g3
   obtain ⟨⟨ss,c⟩,hx,hw⟩:=aA1 wy hi
   have hw3:=hw.kt (KT.same s3)
   obtain ⟨qx,u,cc,rfl,gq,pu,⟨qc,rfl,gc⟩⟩:=hw3
   have gd:Good sg rest.length c:=aCQ ok rest.length (ss,c) (Nat.le_refl _) (List.mem_of_getElem? hx)
   have hil:i < sg.length ^ rest.length:=by rw [← aE4 sg r0 rest,← wy.length]; exact (List.getElem?_eq_some_iff.mp hi).1
   have zb:zs.length < sizeLine:=by
    have:=pow3 (k:=rest.length) hm3 hlen'
    rw [szl]; lia
   refine ⟨qx,_,rfl,SqT.of gq,rfl,_,_,rfl,_,_,rfl,qc,_,rfl,SqT.of gc,rfl,_,_,rfl,_,_,rfl,_,_,rfl,rfl,rfl,?_⟩
   refine ⟨_,rfl,_,rfl,_,rfl,_,_,rfl,rfl,aAx gd.1 _,_,_,rfl,rfl,_,rfl,rfl,_,rfl,?_⟩
   have ed:decide (V.int (c.1 + c.2.1 * c.2.2)=V.int wish)=decide (wr c=wish):=by
    show _=decide (c.1 + c.2.1 * c.2.2=wish)
    rw [L2.dec_int,Bool.beq_eq_decide_eq]
   rw [ed]
   by_cases hc:wr c=wish
   ·rw [decide_eq_true hc]
    refine iteT ⟨_,rfl,zs,g3,zb,zs++[u],(by rw [List.length_append]; show zs.length + 1≤i + 1; lia),⟨_,_,_,_,rfl,yD s3 hD,?_⟩,zB⟩
    rw [zU hx,yy,if_pos (decide_eq_true hc),List.map_append]
    exact aA0 (pr_kt (R:=Put) (fun v x h=>h.kt (KT.upd g3)) pz) (pu.kt (KT.upd g3))
   ·rw [decide_eq_false hc]
    refine iteF ⟨zs,by lia,⟨_,_,_,_,rfl,s3,?_⟩,g3⟩
    rw [zU hx,yy,if_neg (by simpa using hc)]
    exact pz
  ·rintro zs σ H3 ⟨o1,o2,o3,o4,rfl,s3,pz⟩ g3
   refine q D zs H3 (sH.trans s3) (zu sH hD) g3 ?_
   rw [← wy.length.symm,List.take_length] at pz
   rw [aIW]
   exact pz
end
end Law
namespace Law
open PySem L2
section
variable {P:Program} {w:World} {K:PySem.W.Frag} {mg:Str→Option Value} {base:Heap}
theorem aAy:bootBuiltins "ValueError"=some (.type "ValueError"):=by decide +kernel
noncomputable abbrev aAU:Stmt:=aIF (top 4) 0
theorem aIm:FnScope ["self","word"] ["self","word"] (zF aAU):=⟨rfl,rfl,rfl,by decide +kernel,rfl,by decide +kernel,by decide +kernel⟩
noncomputable def xw (wd:Str):HO:=.xd [("word",.str wd)]
noncomputable def aH0 (C:Addr):Sp:=fun vs H Q _=>∃ (e:Addr) (v:V) (fr:Bool),vs=[.ref e,v]∧H e=some (xO fr (.ref C) none e)∧∀ dx,H dx=none→dx≠e→Q .non (upd (upd H e (xO fr (.ref C) (some dx) e)) dx (.xd [("word",v)]))
theorem aIn {f C:Addr} {bm:List Value} {fd:FuncData} (F:Fun K "__init__" "NoWay.__init__" aAU f fd) (c:XC K C bm) (n:aEM K C "word"):FnOk P w K mg base CX0 1 f fd ["self","word"] (aH0 C):=by
 refine F.ok aIm (fun vs H Q E h=>?_) (fun cdv A outer s H vs Q E hr h=>?_)
 ·obtain ⟨e,v,fr,rfl,_⟩:=h
  rfl
 obtain ⟨e,v,fr,rfl,he,q⟩:=h
 refine ⟨_,zI (aIN (pv 0) (pv 1) rfl),?_⟩
 refine ⟨_,rfl,_,rfl,e,C,bm,fr,rfl,c,he,n,fun dx h1 h2=>?_⟩
 exact q dx h1 h2
structure Refs (P:Program) (w:World) (K:PySem.W.Frag) (mg:Str→Option Value) (base:Heap) (W T S N:Addr) (bT bS bN:List Value):Prop where
 cW:XC K W vMro
 cT:XC K T bT
 cS:XC K S bS
 cN:XC K N bN
 gW:mg "WishError"=some (.ref W)
 gT:mg "NoText"=some (.ref T)
 gS:mg "NoAsk"=some (.ref S)
 gN:mg "NoWay"=some (.ref N)
 iT:PySem.W.findIn K (.ref T) "__init__"=some (some (.builtin "ValueError.__init__"))
 iS:PySem.W.findIn K (.ref S) "__init__"=some (some (.builtin "ValueError.__init__"))
 mN:XMk P w K mg base N 1 (aH0 N)
 wN:aEM K N "word"
 nW:(Value.ref N :: bN).contains (.ref W)=true
 nT:(Value.ref N :: bN).contains (.ref T)=false
 nS:(Value.ref N :: bN).contains (.ref S)=false
 tW:(Value.ref T :: bT).contains (.ref W)=true
 tS:(Value.ref T :: bT).contains (.ref S)=false
 tN:(Value.ref T :: bT).contains (.ref N)=false
 sW:(Value.ref S :: bS).contains (.ref W)=true
 sT:(Value.ref S :: bS).contains (.ref T)=false
 sN:(Value.ref S :: bS).contains (.ref N)=false
variable {W T S N:Addr} {bT bS bN:List Value}
theorem aI1 {H:Hp} {E:XS} {σ:St} {wd:Str} (h:∀ dx,H dx=none→E (.ref N) (some dx) σ (upd H dx (xw wd))) (e:Addr) (he:H e=none) :
  aH0 N [.ref e,.str wd] (upd H e (xO true (.ref N) none e)) (fun v H2=>v=.non∧∃ dx,H2 e=some (xO true (.ref N) dx e)∧E (.ref N) dx σ (del H2 e)) E0:=by
 refine ⟨e,.str wd,true,rfl,zB,fun dx h1 h2=>⟨rfl,some dx,?_,?_⟩⟩
 ·rw [zH (Ne.symm h2),zB]
 ·rw [aF2 h2,aI5,aIO he]
  refine h dx ?_
  rw [zH h2] at h1
  exact h1
noncomputable abbrev sg3:List Str:=["+","-","*"]
noncomputable def SigT (K:PySem.W.Frag) (a:Addr):Prop:=∀ H:Hp,SqT K H a [.str "+",.str "-",.str "*"]
noncomputable def spAll (K:PySem.W.Frag):Sp:=fun vs H Q _=>∃ (a:Addr) (r0:Int) (rest:List Int) (wish:Int),vs=[.ref a,.int wish]∧(∀ H':Hp,Same H H'→SqT K H' a ((r0 :: rest).map V.int))∧RowOk sg3 (r0 :: rest) ∧
 ∀ (p:Addr) (ys:List V) (H':Hp),Same H H'→H p=none→H' p=some (.lst ys)→Paired (Put H') ys (due sg3 r0 rest wish)→Q (.ref p) H'
noncomputable abbrev yS:Stmt:=top 16
theorem aCa:FnScope ["row","wish"] ["row","wish"] (zF yS):=⟨rfl,rfl,rfl,by decide +kernel,rfl,by decide +kernel,by decide +kernel⟩
theorem aJf {f tF:Addr} {fd:FuncData} (F:Fun K "signs_all" "signs_all" yS f fd) (mF:mg "SIGNS"=some (.ref tF)) (TF:SigT K tF) (Gwb:Def P w K mg base CX0 3 "ways_between" (spWB K)):FnOk P w K mg base CX0 4 f fd ["row","wish"] (spAll K):=by
 refine F.ok (k:=3) aCa (fun vs H Q E h=>?_) (fun cdv A outer s H vs Q E hr h=>?_)
 ·obtain ⟨a,r0,rest,wish,rfl,_⟩:=h
  rfl
 obtain ⟨a,r0,rest,wish,rfl,ha,ok,q⟩:=h
 refine ⟨_,(zI (zT (zR Gwb (hr.mono (by lia)) (zA (pv 0) (zA (jM (v:=.ref tF) rfl mF rfl) (zA (pv 1) zE)))))),?_⟩
 exact ⟨_,rfl,_,rfl,a,tF,r0,rest,sg3,wish,rfl,ha,fun H' _=>TF H',ok,q⟩
noncomputable def spMany (K:PySem.W.Frag):Sp:=fun vs H Q _=>∃ (a:Addr) (r0:Int) (rest:List Int) (wish:Int),vs=[.ref a,.int wish]∧(∀ H':Hp,Same H H'→SqT K H' a ((r0 :: rest).map V.int))∧RowOk sg3 (r0 :: rest) ∧
 ∀ (H':Hp),Same H H'→Q (.int ((due sg3 r0 rest wish).length:Int)) H'
noncomputable abbrev yK:Stmt:=top 15
theorem aAz:FnScope ["row","wish"] ["row","wish"] (zF yK):=⟨rfl,rfl,rfl,by decide +kernel,rfl,by decide +kernel,by decide +kernel⟩
theorem ok_many {f:Addr} {fd:FuncData} (F:Fun K "signs_many" "signs_many" yK f fd) (B:Blt mg) (Gall:Def P w K mg base CX0 4 "signs_all" (spAll K)):FnOk P w K mg base CX0 5 f fd ["row","wish"] (spMany K):=by
 refine F.ok (k:=4) aAz (fun vs H Q E h=>?_) (fun cdv A outer s H vs Q E hr h=>?_)
 ·obtain ⟨a,r0,rest,wish,rfl,_⟩:=h
  rfl
 obtain ⟨a,r0,rest,wish,rfl,ha,ok,q⟩:=h
 refine ⟨_,(zI (zT (zS za rfl B.len qZ (zA (zR Gall (hr.mono (by lia)) (zA (pv 0) (zA (pv 1) zE))) zE)))),?_⟩
 refine ⟨_,rfl,_,rfl,a,r0,rest,wish,rfl,ha,ok,fun p ys H' s' _ g py=>?_⟩
 refine ⟨p,_,rfl,.inl (SqL.of g),?_⟩
 rw [py.length]
 exact q _ s'
noncomputable def aEI (N:Addr):Sp:=fun vs H Q E=>∃ (i n:Int),vs=[.int i,.int n]∧((0≤i∧i < n)→Q .non H)∧(¬ (0≤i∧i < n)→∀ dx,H dx=none→E (.ref N) (some dx) (upd H dx (xw "plus")))
noncomputable abbrev yE:Stmt:=top 18
theorem aAL:FnScope ["place","many"] ["place","many"] (zF yE):=⟨rfl,rfl,rfl,by decide +kernel,rfl,by decide +kernel,by decide +kernel⟩
theorem aHi {f:Addr} {fd:FuncData} (F:Fun K "check_place" "check_place" yE f fd) (R:Refs P w K mg base W T S N bT bS bN):FnOk P w K mg base (CXF P w) 3 f fd ["place","many"] (aEI N):=by
 refine F.okX aAL (fun vs H Q E h=>?_) (fun cdv A outer s H vs Q E hr h=>?_)
 ·obtain ⟨i,n,rfl,_⟩:=h
  rfl
 obtain ⟨i,n,rfl,q1,q2⟩:=h
 refine ⟨_,(zI (ps_if (PW.pt (pw_or (zm op_lt (pv 0) zD (zf _)) (aFT (zm op_ge (pv 0) (pv 1) (zf _))))) (zI (aHL rfl R.cN R.mN (hr.mono (by lia)) R.gN (zA jZ zE))) yJ)),?_⟩
 refine ⟨_,rfl,_,_,rfl,rfl,_,rfl,?_⟩
 refine ite2 (fun c=>iteT ?_) (fun c=>?_)
 ·have c':i < 0:=of_decide_eq_true c
  exact ⟨(by show 1≤sizeLine; decide),aI1 (σ:=[]) (E:=fun cls dx _ H'=>E cls dx H') (q2 (by lia))⟩
 ·have c':¬ i < 0:=fun z=>c (decide_eq_true z)
  refine ⟨_,rfl,_,rfl,_,_,rfl,rfl,_,rfl,?_⟩
  refine ite2 (fun c=>?_) (fun c=>?_)
  ·have c2:n≤i:=of_decide_eq_true c
   exact ⟨(by show 1≤sizeLine; decide),aI1 (σ:=[]) (E:=fun cls dx _ H'=>E cls dx H') (q2 (by lia))⟩
  ·have c2:¬ n≤i:=fun z=>c (decide_eq_true z)
   exact q1 (by lia)
noncomputable def AtOk (N:Addr) (H:Hp) (Q:VK) (E:XK) (l:List (List Str)) (i:Int):Prop :=
 (0≤i∧i < l.length→∀ (v:V) (H':Hp),Same H H'→Put H' v (l.getD i.toNat [])→Q v H')∧(¬ (0≤i∧i < l.length)→∀ dx H',Same H H'→H dx=none→H' dx=some (xw "plus")→E (.ref N) (some dx) H')
noncomputable def spAtX (K:PySem.W.Frag) (N:Addr):Sp:=fun vs H Q E=>∃ (a:Addr) (r0:Int) (rest:List Int) (wish i:Int),vs=[.ref a,.int wish,.int i]∧(∀ H':Hp,Same H H'→SqT K H' a ((r0 :: rest).map V.int))∧RowOk sg3 (r0 :: rest)∧AtOk N H Q E (due sg3 r0 rest wish) i
theorem aCb {α:Type} {l:List α} {i:Nat} {d:α} (h:i < l.length):l[i]?=some (l.getD i d):=by
 rw [List.getElem?_eq_getElem h,List.getD_eq_getElem?_getD,List.getElem?_eq_getElem h]; rfl
noncomputable abbrev yh:Stmt:=top 17
theorem sc_signs_at:FnScope ["row","wish","place","ways"] ["row","wish","place"] (zF yh):=⟨rfl,rfl,rfl,by decide +kernel,rfl,by decide +kernel,by decide +kernel⟩
theorem okX_at {f:Addr} {fd:FuncData} (F:Fun K "signs_at" "signs_at" yh f fd) (B:Blt mg) (Gall:Def P w K mg base CX0 4 "signs_all" (spAll K)) (Gcheck:Def P w K mg base (CXF P w) 3 "check_place" (aEI N)):FnOk P w K mg base (CXF P w) 6 f fd ["row","wish","place"] (spAtX K N):=by
 refine F.okX (k:=5) sc_signs_at (fun vs H Q E h=>?_) (fun cdv A outer s H vs Q E hr h=>?_)
 ·obtain ⟨a,r0,rest,wish,i,rfl,_⟩:=h
  rfl
 obtain ⟨a,r0,rest,wish,i,rfl,ha,ok,q1,q2⟩:=h
 refine ⟨_,(zG (zP (i:=3) sc_signs_at.nd rfl (by first | exact Or.inl rfl | exact Or.inr rfl) (zR Gall (hr.mono (by lia)) (zA (pv 0) (zA (pv 1) zE))))
   (zG (qG (aAf Gcheck (hr.mono (by lia)) (zA (pv 2) (zA (zS za rfl B.len qZ (zA (pv 3) zE)) zE))))
   (zI (zT (pe_ix zn (pv 3) (pv 2) (fun _ _=>rfl)))))),?_⟩
 refine ⟨_,rfl,_,rfl,a,r0,rest,wish,rfl,ha,ok,fun p ys H' s' _ g py=>?_⟩
 have pl:=py.length
 refine ⟨_,rfl,_,rfl,p,_,rfl,.inl (SqL.of g),i,(ys.length:Int),rfl,fun c=>?_,fun c dx hd=>?_⟩
 ·rw [pl] at c
  have ci:i.toNat < (due sg3 r0 rest wish).length:=by lia
  obtain ⟨x,hx,hp⟩:=aAh py (aCb (d:=[]) ci)
  refine ⟨_,rfl,_,rfl,p,_,i,x,rfl,rfl,SqL.of g,?_,q1 c x H' s' hp⟩
  have:=jO hx
  rwa [show ((i.toNat:Nat):Int)=i by lia] at this
 ·rw [pl] at c
  exact q2 c dx _ (s'.trans (Same.new hd)) (s'.free hd) zB
noncomputable def spAt (K:PySem.W.Frag):Sp:=fun vs H Q E=>∃ (a:Addr) (r0:Int) (rest:List Int) (wish:Int) (i:Int),vs=[.ref a,.int wish,.int i]∧(∀ H':Hp,Same H H'→SqT K H' a ((r0 :: rest).map V.int))∧RowOk sg3 (r0 :: rest)∧(0≤i∧i < (due sg3 r0 rest wish).length) ∧
 ∀ (v:V) (H':Hp),Same H H'→Put H' v ((due sg3 r0 rest wish).getD i.toNat [])→Q v H'
theorem ok_at {f:Addr} {fd:FuncData} (F:FnOk P w K mg base (CXF P w) 6 f fd ["row","wish","place"] (spAtX K N)):FnOk P w K mg base CX0 6 f fd ["row","wish","place"] (spAt K) :=
 F.hush fun vs H Q E ⟨a,r0,rest,wish,i,e,ha,ok,hi,q⟩=>⟨a,r0,rest,wish,i,e,ha,ok,fun _=>q,fun z=>absurd hi z⟩
noncomputable def FigT (K:PySem.W.Frag) (a:Addr):Prop:=∀ H:Hp,SqT K H a [.str "",.str "+",.str "-"]
noncomputable abbrev figs:List Str:=["","+","-"]
noncomputable def spFig (K:PySem.W.Frag):Sp:=fun vs H Q _=>∃ (a:Addr) (r0:Int) (rest:List Int) (wish:Int),vs=[.ref a,.int wish]∧(∀ H':Hp,Same H H'→SqT K H' a ((r0 :: rest).map V.int))∧RowOk figs (r0 :: rest) ∧
 ∀ (p:Addr) (ys:List V) (H':Hp),Same H H'→H p=none→H' p=some (.lst ys)→Paired (Put H') ys (due figs r0 rest wish)→Q (.ref p) H'
noncomputable abbrev yF:Stmt:=top 19
theorem aAM:FnScope ["row","wish"] ["row","wish"] (zF yF):=⟨rfl,rfl,rfl,by decide +kernel,rfl,by decide +kernel,by decide +kernel⟩
theorem aJg {f tF:Addr} {fd:FuncData} (F:Fun K "figures_all" "figures_all" yF f fd) (mF:mg "FIGURE_SIGNS"=some (.ref tF)) (TF:FigT K tF) (Gwb:Def P w K mg base CX0 3 "ways_between" (spWB K)):FnOk P w K mg base CX0 4 f fd ["row","wish"] (spFig K):=by
 refine F.ok (k:=3) aAM (fun vs H Q E h=>?_) (fun cdv A outer s H vs Q E hr h=>?_)
 ·obtain ⟨a,r0,rest,wish,rfl,_⟩:=h
  rfl
 obtain ⟨a,r0,rest,wish,rfl,ha,ok,q⟩:=h
 refine ⟨_,(zI (zT (zR Gwb (hr.mono (by lia)) (zA (pv 0) (zA (jM (v:=.ref tF) rfl mF rfl) (zA (pv 1) zE)))))),?_⟩
 exact ⟨_,rfl,_,rfl,a,tF,r0,rest,figs,wish,rfl,ha,fun H' _=>TF H',ok,q⟩
end
end Law
namespace Law
namespace Sd
open PySem L2
section
variable {P:Program} {w:World} {K:PySem.W.Frag} {mg:Str→Option Value} {base:Heap}
variable {W T S N:Addr} {bT bS bN:List Value}
noncomputable def spWES:Sp:=fun vs H Q _=>∃ (d:Addr) (n:Int) (ps:Ps),vs=[.ref d,.int n]∧H d=some (.dK (ps.map kvI))∧ps.length≤100000 ∧
 ∀ (p:Addr) (H':Hp),(∀ b u,b≠d→H b=some u→H' b=some u)→Rd H' d (.dK (ps.map kvI))→H p=none→H' p=some (.dK ((either n ps).map kvI))→Q (.ref p) H'
noncomputable abbrev s_with_either_sign:Stmt:=top 24
theorem sc_with_either_sign:FnScope ["many","number","more","come","ways","side","put"] ["many","number"] (zF s_with_either_sign):=⟨rfl,rfl,rfl,by decide +kernel,rfl,by decide +kernel,by decide +kernel⟩
theorem ok_wes {f:Addr} {fd:FuncData} (F:Fun K "with_either_sign" "with_either_sign" s_with_either_sign f fd):FnOk P w K mg base CX0 1 f fd ["many","number"] spWES:=by
 refine F.ok (k:=0) sc_with_either_sign (fun vs H Q E h=>?_) (fun cdv A outer s H vs Q E hr h=>?_)
 ·obtain ⟨d,n,ps,rfl,_⟩:=h
  rfl
 obtain ⟨d,n,ps,rfl,rd,hz,q⟩:=h
 refine ⟨_,(zG (zP (i:=2) sc_with_either_sign.nd rfl (by first | exact Or.inl rfl | exact Or.inr rfl) aEb)
   (zG (yW PassesOwn.never rfl (aGM (pv 0)) (jc rfl (zd (zM (i:=3) sc_with_either_sign.nd rfl (by first | exact Or.inl rfl | exact Or.inr rfl)) (zd (zM (i:=4) sc_with_either_sign.nd rfl (by first | exact Or.inl rfl | exact Or.inr rfl)) qH))) (zI (yW PassesOwn.never rfl (jd (yo (zA zD (zA (pe_un qo zD) zE)))) (zM (i:=5) sc_with_either_sign.nd rfl (by first | exact Or.inl rfl | exact Or.inr rfl)) (zG (zP (i:=6) sc_with_either_sign.nd rfl (by first | exact Or.inl rfl | exact Or.inr rfl) (pe_op zW (pv 3) (pe_op yQ (pv 5) (pv 1))))
   (zI (aGI (hu_of hr) (pv 2) (pv 6) (pe_op zW (yz (hu_of hr) (pv 2) (pv 6) zD ⟨rfl,rfl,rfl,rfl⟩) (pv 4)) rfl))))))
   (zI (zT (pv 2))))),?_⟩
 have szl:=sizeLine_eq
 refine fun pm hpm=>?_
 have nd:d≠pm:=zC rd hpm
 refine ⟨_,rfl,d,ps.map kvI,rfl,?_⟩
 ·refine .inl ⟨by rw [zH nd]; exact rd,fun ob=>?_⟩
  refine aF3 (d:=d) (o:=ob) (kvs:=ps.map kvI) (fun i σ H'=>∃ (z1 z2 z3 z4:Option V),σ=[some (.ref d),some (.int n),some (.ref pm),z1,z2,z3,z4]∧(∀ b u,b≠d→H b=some u→H' b=some u)∧H' d=some (.frz ob (.dK (ps.map kvI)))∧H' pm=some (.dK (((ps.take i).foldl (stepE n) []).map kvI)))
   ⟨none,none,none,none,rfl,fun b u nb e=>by rw [zH nb,zH (zC e hpm)]; exact e,zB,by rw [zH (Ne.symm nd),zB]; rfl⟩ (fun i σ H' ⟨_,_,_,_,_,_,h,_⟩=>h) ?_ ?_
  ·rintro i T ky x σ H' hk ⟨z1,z2,z3,z4,rfl,ext,fz,gm⟩ hT
   rw [List.getElem?_map] at hk
   obtain ⟨⟨c,v⟩,hc,he⟩:∃ p,ps[i]?=some p∧kvI p=(ky,x):=by
    cases e:ps[i]? with
    | none=>rw [e] at hk; cases hk
    | some p=>rw [e] at hk; exact ⟨p,rfl,by simpa using hk⟩
   unfold kvI at he
   simp only [Prod.mk.injEq] at he
   obtain ⟨rfl,rfl⟩:=he
   have hil:=(List.getElem?_eq_some_iff.mp hc).1
   have sT:=Same.new (o:=.tup [kV (Sum.inl c),V.int v]) hT
   refine ⟨T,_,rfl,SqT.of zB,rfl,?_⟩
   refine ⟨_,_,rfl,_,_,rfl,rfl,?_⟩
   refine ⟨_,rfl,(by show 2≤sizeLine; decide),fun pt hpt=>?_⟩
   have sP:=Same.new (o:=.tup [V.int 1,V.int (-1)]) hpt
   have s2:=sT.trans sP
   have hft:=aAs n (ps.take i) []
   rw [List.length_nil,List.length_take] at hft
   refine ⟨pt,rfl,⟨_,SqT.of zB⟩,jq (K:=K) (a:=pt) (xs:=[.int 1,.int (-1)]) (fun j σ H2=>∃ (z3 z4:Option V),σ=[some (.ref d),some (.int n),some (.ref pm),some (.int c),some (.int v),z3,z4]∧(∀ b u,b≠d→H b=some u→H2 b=some u)∧H2 d=some (.frz ob (.dK (ps.map kvI)))∧H2 pt=some (.tup [.int 1,.int (-1)])∧H2 pm=some (.dK ((([1,-1]:List Int).take j).foldl (fun acc sd=>stepA n acc (c,v) sd) ((ps.take i).foldl (stepE n) []) |>.map kvI)))
    ⟨_,_,rfl,fun b u nb e=>s2 _ _ (ext b u nb e),s2 _ _ fz,zB,s2 _ _ gm⟩ (fun j σ H2 _ ⟨_,_,_,_,_,h,_⟩=>SqT.of h) ?_ ?_⟩
   ·rintro j y σ H2 hj ⟨z3,z4,rfl,ext2,fz2,gt2,gm2⟩
    obtain ⟨sd,rfl,hsd,hlast⟩:∃ sd:Int,y=.int sd∧(sd=1∨sd=-1)∧([1,-1]:List Int)[j]?=some sd:=by
     match j,hj with
     | 0,hj=>simp at hj; exact ⟨1,hj.symm,.inl rfl,rfl⟩
     | 1,hj=>simp at hj; exact ⟨-1,hj.symm,.inr rfl,rfl⟩
     | j + 2,hj=>simp at hj
    have hj2:j≤1:=by have:=(List.getElem?_eq_some_iff.mp hlast).1; simp at this; lia
    obtain ⟨Q0,hQ0⟩:∃ Q0,Q0=(([1,-1]:List Int).take j).foldl (fun acc sd=>stepA n acc (c,v) sd) ((ps.take i).foldl (stepE n) []):=⟨_,rfl⟩
    rw [← hQ0] at gm2
    have hlen:Q0.length≤2 * ps.length + 1:=by
     rw [hQ0]
     match j,hj2 with
     | 0,_=>show ((ps.take i).foldl (stepE n) []).length≤_; lia
     | 1,_ =>
      have:(stepA n ((ps.take i).foldl (stepE n) []) (c,v) 1).length≤((ps.take i).foldl (stepE n) []).length + 1:=aAq _ _ _
      show (stepA n ((ps.take i).foldl (stepE n) []) (c,v) 1).length≤_
      lia
    refine ⟨_,rfl,_,rfl,_,rfl,_,_,rfl,rfl,.inl (by rcases hsd with rfl | rfl <;> exact ⟨by decide,by decide⟩),_,_,rfl,rfl,?_⟩
    refine ⟨_,rfl,pm,rfl,.inl ⟨_,.inl gm2⟩,_,rfl,_,DGet.k (k:=Sum.inl (c + sd * n)) gm2,_,rfl,look Q0 (c + sd * n),v,jh _ _,rfl,?_⟩
    refine ⟨_,rfl,_,rfl,pm,_,rfl,DPut.k (k:=Sum.inl (c + sd * n)) gm2 (by rw [List.length_map,szl]; lia),?_⟩
    have npd:pm≠d:=fun z=>by rw [z,fz2] at gm2; cases gm2
    have npt:pt≠pm:=fun z=>by rw [z,gm2] at gt2; cases gt2
    refine ⟨_,_,rfl,fun b u nb e=>?_,by rw [zH (Ne.symm npd)]; exact fz2,by rw [zH npt]; exact gt2,?_⟩
    ·rw [zH (zC e hpm)]; exact ext2 b u nb e
    ·rw [zB,aHy]
     have e5:([1,-1]:List Int).take (j + 1)=([1,-1]:List Int).take j++[sd]:=zU hlast
     rw [e5,List.foldl_append,← hQ0]
     rfl
   ·rintro σ H2 ⟨z3,z4,rfl,ext2,fz2,gt2,gm2⟩
    refine ⟨_,_,_,_,rfl,ext2,fz2,?_⟩
    rw [gm2,zU hc,List.foldl_append]
    rfl
  ·rintro σ H' ⟨z1,z2,z3,z4,rfl,ext,fz,gm⟩
   rw [List.length_map,List.take_length] at gm
   exact ⟨_,rfl,q pm H' ext (.inr ⟨_,fz⟩) hpm gm⟩
noncomputable def sfx:List Int→List (List Int)
 | []=>[[]]
 | n :: r=>(n :: r) :: sfx r
theorem aB0:∀ r:List Int,(sfx r).length=r.length + 1
 | []=>rfl
 | n :: r=>by show (sfx r).length + 1=_; rw [aB0 r]; rfl
noncomputable def Dc (H:Hp) (v:V) (ns:List Int):Prop:=∃ d,v=.ref d∧Rd H d (.dK ((dic ns).map kvI))
noncomputable def DcF (H0 H:Hp) (v:V) (ns:List Int):Prop:=∃ d,v=.ref d∧Rd H d (.dK ((dic ns).map kvI))∧H0 d=none
theorem aAF {H H':Hp} {d:Addr} {u:HO} (k:∀ o,H d=some o→H' d=some o) (h:Rd H d u):Rd H' d u:=by
 rcases h with h | ⟨o,h⟩
 ·exact .inl (k _ h)
 ·exact .inr ⟨o,k _ h⟩
theorem aJh {H:Hp} {d:Addr} {k1 k2:List (Key×V)} (h1:Rd H d (.dK k1)) (h2:Rd H d (.dK k2)):k1=k2:=by
 rcases h1 with h1 | ⟨o1,h1⟩ <;> rcases h2 with h2 | ⟨o2,h2⟩ <;> rw [h1] at h2 <;> first | (cases h2; rfl) | cases h2
noncomputable def spSB (K:PySem.W.Frag):Sp:=fun vs H Q _=>∃ (a:Addr) (r0:Int) (rest:List Int),vs=[.ref a]∧(∀ H':Hp,Same H H'→SqT K H' a ((r0 :: rest).map V.int))∧RowS rest ∧
 ∀ (p:Addr) (ys:List V) (H':Hp),Same H H'→H p=none→H' p=some (.lst ys)→Paired (Dc H') ys (sfx rest)→Q (.ref p) H'
theorem aHj (xs:List V) (x:V):atI (xs++[x]) (-1)=some x:=by
 unfold atI ixN
 rw [if_neg (by decide),if_pos (by rw [List.length_append]; show -((xs.length + 1:Nat):Int)≤-1; lia)]
 show (xs++[x])[(-1 + ((xs++[x]).length:Int)).toNat]?=some x
 have:(-1 + ((xs++[x]).length:Int)).toNat=xs.length:=by rw [List.length_append]; show (-1 + ((xs.length + 1:Nat):Int)).toNat=_; lia
 rw [this]; simp
theorem aIo {H0 H H':Hp} {d:Addr} {ps:Ps} (hd:Rd H d (.dK (ps.map kvI))) (hd':Rd H' d (.dK (ps.map kvI))) (k:∀ b u,b≠d→H b=some u→H' b=some u):∀ v ns,DcF H0 H v ns→DcF H0 H' v ns:=by
 rintro v ns ⟨e,rfl,h1,h2⟩
 refine ⟨e,rfl,?_,h2⟩
 by_cases he:e=d
 ·subst he
  rw [aJh h1 hd]; exact hd'
 ·exact aAF (fun o ho=>k e o he ho) h1
noncomputable abbrev s_sums_behind:Stmt:=top 23
theorem sc_sums_behind:FnScope ["row","sums","number"] ["row"] (zF s_sums_behind):=⟨rfl,rfl,rfl,by decide +kernel,rfl,by decide +kernel,by decide +kernel⟩
theorem ok_sb {f:Addr} {fd:FuncData} (F:Fun K "sums_behind" "sums_behind" s_sums_behind f fd) (Gwes:Def P w K mg base CX0 1 "with_either_sign" spWES):FnOk P w K mg base CX0 2 f fd ["row"] (spSB K):=by
 refine F.okW (k:=1) sc_sums_behind (fun vs H Q E h=>?_) (fun cdv A outer s H vs Q E hr h=>?_)
 ·obtain ⟨a,r0,rest,rfl,_⟩:=h
  rfl
 obtain ⟨a,r0,rest,rfl,ha,hl,q⟩:=h
 refine ⟨_,(yV (w_set (i:=1) sc_sums_behind.nd rfl (by first | exact Or.inl rfl | exact Or.inr rfl) (w_lst (zg (Wr.mk (aGL (aEc zD zD aGK) rfl rfl (by simp) (by decide))) w_nil)))
   (yV (Wr.mk (yW PassesOwn.never rfl (jd (aHa (pv 0))) (zM (i:=2) sc_sums_behind.nd rfl (by first | exact Or.inl rfl | exact Or.inr rfl)) (zI (qG (pe_bm PySem.F.plainAttrs_list PySem.F.slot_list_append PySem.F.type_list_append yp (pv 1) (zA (zR Gwes (hr.mono (by lia)) (zA (pe_ix zn (pv 1) (pe_un qo zD) (fun _ _=>rfl)) (zA (pv 2) zE))) zE))))))
   (aE2 (Wr.mk (zT (aJ7 (pv 1))))))),?_⟩
 have szl:=sizeLine_eq
 refine fun pd hpd=>⟨zB,[(Sum.inl 0,.int 1)],rfl,by decide,(by show 1≤sizeLine; decide),fun pl hpl=>?_⟩
 have e0:aA2 [] [((Sum.inl 0:Key),V.int 1)]=(dic []).map kvI:=rfl
 rw [e0] at hpl ⊢
 have gd:(upd (upd H pd (.dK [])) pd (.dK ((dic []).map kvI))) pd=some (.dK ((dic []).map kvI)):=zB
 have sd:Same H (upd (upd H pd (.dK [])) pd (.dK ((dic []).map kvI))):=fun b u e=>by rw [zH (zC e hpd),zH (zC e hpd)]; exact e
 generalize upd (upd H pd (.dK [])) pd (.dK ((dic []).map kvI))=H1 at gd sd hpl ⊢
 have s2:=sd.trans (Same.new (o:=.lst [V.ref pd]) hpl)
 refine ⟨_,rfl,a,.int r0,rest.map V.int,rfl,ha _ s2,fun pr hpr=>?_⟩
 have s3:=Same.new (o:=.tup (rest.map V.int).reverse) hpr
 have npl:H pl=none:=zu sd hpl
 refine ⟨pr,rfl,⟨_,SqT.of zB⟩,jq (K:=K) (a:=pr) (xs:=(rest.map V.int).reverse) (fun i σ H'=>∃ (z:Option V) (ys0:List V) (d0:Addr),σ=[some (.ref a),some (.ref pl),z]∧Same H H'∧H' pl=some (.lst (ys0++[V.ref d0]))∧H' pr=some (.tup (rest.map V.int).reverse)∧Paired (DcF H H') (ys0++[V.ref d0]).reverse (sfx (rest.drop (rest.length - i)))∧H d0=none∧H' d0=some (.dK ((dic (rest.drop (rest.length - i))).map kvI)))
  ⟨none,[],pd,rfl,s2.trans s3,s3 _ _ zB,zB,?_,hpd,?_⟩ (fun i σ H' _ ⟨_,_,_,_,_,_,h,_⟩=>SqT.of h) ?_ ?_⟩
 ·rw [Nat.sub_zero,List.drop_length]
  exact .cons ⟨pd,rfl,.inl (s3 _ _ (Same.new hpl _ _ gd)),hpd⟩ .nil
 ·rw [Nat.sub_zero,List.drop_length]
  exact s3 _ _ (Same.new hpl _ _ gd)
 ·rintro i x σ H' hi ⟨z,ys0,d0,rfl,sH,gl,gr,py,n0,g0⟩
  have hil:i < rest.length:=by have:=(List.getElem?_eq_some_iff.mp hi).1; simpa using this
  obtain ⟨n,hn⟩:∃ n,rest[rest.length - (i + 1)]?=some n:=⟨_,List.getElem?_eq_getElem (by lia)⟩
  have ex:x=.int n:=by
   rw [List.getElem?_reverse (by rw [List.length_map]; exact hil),List.length_map,List.getElem?_map,show rest.length - 1 - i=rest.length - (i + 1) by lia,hn] at hi
   simpa using hi.symm
  subst ex
  have ed:rest.drop (rest.length - (i + 1))=n :: rest.drop (rest.length - i):=by
   have hlt:rest.length - (i + 1) < rest.length:=by lia
   rw [List.drop_eq_getElem_cons hlt,show rest.length - (i + 1) + 1=rest.length - i by lia]
   congr 1
   rw [List.getElem?_eq_getElem hlt] at hn
   exact Option.some.inj hn
  have yl:(ys0++[V.ref d0]).length≤40:=by
   have hl1:=hl.1
   have:=py.length
   rw [List.length_reverse,aB0,List.length_drop] at this
   lia
  refine ⟨_,rfl,.inl ⟨rfl,_,SqL.of gl⟩,_,rfl,_,rfl,pl,_,-1,.ref d0,rfl,rfl,SqL.of gl,aHj _ _,_,rfl,d0,n,dic (rest.drop (rest.length - i)),rfl,g0,Nat.le_trans (aAu (hl.drop _)) (by decide),fun pn H2 ext rd2 nn gn=>?_⟩
  have npd:pl≠d0:=fun z=>by rw [z,g0] at gl; cases gl
  have nrd:pr≠d0:=fun z=>by rw [z,g0] at gr; cases gr
  have gl2:=ext pl _ npd gl
  have gr2:=ext pr _ nrd gr
  have sH2:Same H H2:=fun b u e=>ext b u (zC e n0) (sH _ _ e)
  have npn:H pn=none:=zu sH nn
  refine ⟨pl,_,_,rfl,rfl,gl2,by rw [szl]; lia,?_⟩
  have nlr:pr≠pl:=fun z=>by rw [z,gl2] at gr2; cases gr2
  have nln:pn≠pl:=fun z=>by rw [z,gl2] at gn; cases gn
  refine ⟨_,ys0++[V.ref d0],pn,rfl,yD sH2 npl,zB,by rw [zH nlr]; exact gr2,?_,npn,by rw [zH nln,gn,ed]; rfl⟩
  rw [List.reverse_append,ed]
  show Paired _ (V.ref pn :: (ys0++[V.ref d0]).reverse) ((n :: rest.drop (rest.length - i)) :: sfx (rest.drop (rest.length - i)))
  have kd:∀ v ns,DcF H H2 v ns→DcF H (upd H2 pl (.lst (ys0++[V.ref d0]++[V.ref pn]))) v ns:=by
   rintro v ns ⟨e,rfl,h1,h2⟩
   refine ⟨e,rfl,aAF (fun o ho=>?_) h1,h2⟩
   have:e≠pl:=fun z=>by
    rcases h1 with h1 | ⟨_,h1⟩ <;> (rw [z,gl2] at h1; cases h1)
   rw [zH this]; exact ho
  refine .cons (kd _ _ ⟨pn,rfl,.inl gn,npn⟩) ?_
  exact L2.Paired.mapP py fun v x h=>kd v x (aIo (.inl g0) rd2 ext v x h)
 ·rintro σ H' ⟨z,ys0,d0,rfl,sH,gl,gr,py,n0,g0⟩
  rw [List.length_reverse,List.length_map,Nat.sub_self,List.drop_zero] at py
  refine ⟨_,rfl,pl,_,rfl,SqL.of gl,fun pp hpp=>?_⟩
  refine q pp _ _ (sH.trans (Same.new hpp)) (zu sH hpp) zB (L2.Paired.mapP py ?_)
  rintro v x ⟨e,rfl,h1,_⟩
  exact ⟨e,rfl,aAF (fun o ho=>Same.new hpp _ _ ho) h1⟩
theorem aFL {ks xs:List Int} (hk:ks.Pairwise (· < ·)) (hx:xs.Nodup) (h:∀ m,m∈ks↔m∈xs):ks.length≤xs.length :=
 jn (hk.imp fun h=>by lia) fun m hm=>(h m).mp hm
theorem aEJ:∀ (r:List Int) (i:Nat),i≤r.length→(sfx r)[i]?=some (r.drop i)
 | [],0,_=>rfl
 | n :: r,0,_=>rfl
 | n :: r,i + 1,h=>by
  show (sfx r)[i]?=some (r.drop i)
  exact aEJ r i (by simpa using h)
theorem aH1 (r0:Int) (rest:List Int):cutV (List.map V.int (r0 :: rest)) none (some 1)=[r0].map V.int:=aGy (a:=1) _ (by simp)
theorem cutHi1 (r0:Int) (rest:List Int):cutV (List.map V.int (r0 :: rest)) (some 1) none=rest.map V.int:=aGz (a:=1) _ (by simp)
theorem aEK {H:Hp} {ys:List V} {rest:List Int} (py:Paired (Dc H) ys (sfx rest)):∃ d,atI ys 0=some (.ref d)∧Rd H d (.dK ((dic rest).map kvI)):=by
 obtain ⟨x,h1,d,rfl,h2⟩:=aAh py (aEJ rest 0 (Nat.zero_le _))
 exact ⟨d,jO (j:=0) h1,h2⟩
theorem jY {H H':Hp} {d:Addr} {u:HO} (s:Same H H') (h:Rd H d u):Rd H' d u:=aAF (fun o ho=>s _ _ ho) h
noncomputable def spMany (K:PySem.W.Frag):Sp:=fun vs H Q _=>∃ (a:Addr) (r0:Int) (rest:List Int) (wish:Int),vs=[.ref a,.int wish]∧(∀ H':Hp,Same H H'→SqT K H' a ((r0 :: rest).map V.int))∧RowS rest ∧
 ∀ (H':Hp),Same H H'→Q (.int ((dueS rest (wish - r0)).length:Int)) H'
noncomputable abbrev s_sides_many:Stmt:=top 20
theorem aB1:FnScope ["row","wish"] ["row","wish"] (zF s_sides_many):=⟨rfl,rfl,rfl,by decide +kernel,rfl,by decide +kernel,by decide +kernel⟩
theorem ok_many {f:Addr} {fd:FuncData} (F:Fun K "sides_many" "sides_many" s_sides_many f fd) (B:Blt mg) (Gsb:Def P w K mg base CX0 2 "sums_behind" (spSB K)):FnOk P w K mg base CX0 3 f fd ["row","wish"] (spMany K):=by
 refine F.ok (k:=2) aB1 (fun vs H Q E h=>?_) (fun cdv A outer s H vs Q E hr h=>?_)
 ·obtain ⟨a,r0,rest,wish,rfl,_⟩:=h
  rfl
 obtain ⟨a,r0,rest,wish,rfl,ha,hl,q⟩:=h
 refine ⟨_,(zI (zT (yz (hu_of hr) (pe_ix zn (zR Gsb (hr.mono (by lia)) (zA (pv 0) zE)) zD (fun _ _=>rfl)) (pe_op yk (pv 1) (zS (qz rfl) rfl B.sum aEQ (zA (yO qJ (pv 0) yi (yN zD)) zE))) zD ⟨rfl,rfl,rfl,rfl⟩))),?_⟩
 refine ⟨_,rfl,a,r0,rest,rfl,ha,hl,fun p ys H1 s1 _ g1 py=>?_⟩
 obtain ⟨d,hd,rd⟩:=aEK py
 refine ⟨p,ys,0,.ref d,rfl,rfl,SqL.of g1,hd,d,rfl,.inl ⟨_,rd⟩,_,rfl,_,rfl,1,rfl,a,_,rfl,fun H' s'=>ha H' (s1.trans s'),fun pz Hz sz hz=>?_⟩
 rw [aH1] at hz
 refine ⟨pz,[r0],rfl,hz Hz (fun _ _ e=>e),?_⟩
 rw [show [r0].sum=r0 by simp]
 refine ⟨_,_,rfl,rfl,_,.inl ⟨_,Sum.inl (wish - r0),jY sz rd,rfl,rfl⟩,?_⟩
 rw [jh,← jV]
 exact q _ (s1.trans sz)
noncomputable def spMet (K:PySem.W.Frag):Sp:=fun vs H Q _=>∃ (a:Addr) (r0:Int) (rest:List Int),vs=[.ref a]∧(∀ H':Hp,Same H H'→SqT K H' a ((r0 :: rest).map V.int))∧RowS rest ∧
 ∀ (p:Addr) (ms:List Int) (H':Hp),Same H H'→H' p=some (.tup (ms.map V.int))→ms.Pairwise (· < ·)→(∀ m,m∈ms↔∃ ss∈chs sg2 rest.length,r0 + sgS rest ss=m)→Q (.ref p) H'
noncomputable abbrev s_sides_met:Stmt:=top 22
theorem aCc:FnScope ["row"] ["row"] (zF s_sides_met):=⟨rfl,rfl,rfl,by decide +kernel,rfl,by decide +kernel,by decide +kernel⟩
theorem ok_met {f:Addr} {fd:FuncData} (F:Fun K "sides_met" "sides_met" s_sides_met f fd) (B:Blt mg) (Bsorted:mg "sorted"=none) (Gsb:Def P w K mg base CX0 2 "sums_behind" (spSB K)):FnOk P w K mg base CX0 3 f fd ["row"] (spMet K):=by
 refine F.ok (k:=2) aCc (fun vs H Q E h=>?_) (fun cdv A outer s H vs Q E hr h=>?_)
 ·obtain ⟨a,r0,rest,rfl,_⟩:=h
  rfl
 obtain ⟨a,r0,rest,rfl,ha,hl,q⟩:=h
 refine ⟨_,(zI (zT (zi zx rfl B.tuple qR (zA (jx (N:=["come","row"]) rfl (cs_of [none,some 0] rfl (by decide +kernel) (by decide +kernel) rfl rfl) rfl (yt (zS (qi rfl) rfl Bsorted qy (zA (pe_ix zn (zR Gsb (hr.mono (by lia)) (zA (pv 0) zE)) zD (fun _ _=>rfl)) zE))) (fun _ _ _ _=>(zM (i:=0) (show (["come","row"]:List Str).Nodup by decide +kernel) rfl (by first | exact Or.inl rfl | exact Or.inr rfl))) (fun _ _ _ _=>jw) (fun _ _ _ _=>(pe_op zW (zS (qz rfl) rfl B.sum aEQ (zA (yO qJ (pv 1) yi (yN zD)) zE)) (pv 0)))) zE)))),?_⟩
 have szl:=sizeLine_eq
 refine ⟨_,rfl,a,r0,rest,rfl,ha,hl,fun p ys H1 s1 _ g1 py=>?_⟩
 obtain ⟨d,hd,rd⟩:=aEK py
 have hdl:=aAu hl
 refine ⟨p,ys,0,.ref d,rfl,rfl,SqL.of g1,hd,d,(dic rest).map kvI,keysP (dic rest),rfl,rd,by unfold keysP; rw [List.map_map,List.map_map]; rfl,by rw [List.length_map]; lia,fun pk ks H2 s2 gk hk mk=>?_⟩
 have kl:ks.length≤3862:=by
  have:=aFL hk (jH rest) mk
  unfold keysP at this
  rw [List.length_map] at this
  lia
 refine ⟨pk,rfl,⟨_,SqL.of gk⟩,fun D2 hD2 C2 sx2 fp2=>?_⟩
 refine jz (K:=K) (a:=pk) (xs:=ks.map V.int) (tt:=fun _ H Q=>Q true H) (fun i zs σ H3=>∃ o:Option V,σ=[o,some (.ref a)]∧Same H2 H3∧zs=((ks.take i).map fun k=>V.int (r0 + k))) (fun i zs σ H3 ⟨_,_,g,_⟩=>SqL.of (g _ _ gk)) ⟨none,rfl,Same.new hD2,rfl⟩ ?_ ?_
 ·rintro i x zs σ H3 hi hzl ⟨o,rfl,s3,rfl⟩ g3
  rw [List.getElem?_map] at hi
  obtain ⟨k,hk2,rfl⟩:∃ k,ks[i]?=some k∧V.int k=x:=by
   cases e:ks[i]? with
   | none=>rw [e] at hi; cases hi
   | some n=>rw [e] at hi; exact ⟨n,rfl,by simpa using hi⟩
  have hil:=(List.getElem?_eq_some_iff.mp hk2).1
  refine ⟨_,rfl,1,rfl,a,_,rfl,fun H' s'=>ha H' (s1.trans (s2.trans (s3.trans s'))),fun pz Hz sz hz=>?_⟩
  rw [aH1] at hz
  refine ⟨pz,[r0],rfl,hz Hz (fun _ _ e=>e),?_⟩
  rw [show [r0].sum=r0 by simp]
  refine ⟨_,rfl,_,_,rfl,rfl,_,sz _ _ g3,by rw [szl]; lia,_,by rw [List.length_append]; show _ + 1≤i + 1; lia,⟨_,rfl,yD (s3.trans sz) hD2,?_⟩,zB⟩
  rw [zU hk2,List.map_append]; rfl
 ·rintro zs σ H3 ⟨o,rfl,s3,rfl⟩ g3
  rw [List.length_map,List.take_length] at g3
  have em:(ks.map fun k=>V.int (r0 + k))=(ks.map (r0 + ·)).map V.int:=by rw [List.map_map]; rfl
  rw [em] at g3
  refine ⟨D2,_,rfl,.inl ⟨SqL.of g3,fun pp hpp=>?_⟩⟩
  refine q pp (ks.map (r0 + ·)) _ (s1.trans (s2.trans (s3.trans (Same.new hpp)))) zB ?_ fun m=>?_
  ·exact List.pairwise_map.mpr (hk.imp fun h=>by lia)
  ·constructor
   ·intro hm
    obtain ⟨k,h1,rfl⟩:=List.mem_map.mp hm
    obtain ⟨ss,h2,h3⟩:=(jW rest k).mp ((mk k).mp h1)
    exact ⟨ss,h2,by rw [h3]⟩
   ·rintro ⟨ss,h2,rfl⟩
    exact List.mem_map.mpr ⟨sgS rest ss,(mk _).mpr ((jW rest _).mpr ⟨ss,h2,rfl⟩),rfl⟩
noncomputable def spAtX (K:PySem.W.Frag) (N:Addr):Sp:=fun vs H Q E=>∃ (a:Addr) (r0:Int) (rest:List Int) (wish i:Int),vs=[.ref a,.int wish,.int i]∧(∀ H':Hp,Same H H'→SqT K H' a ((r0 :: rest).map V.int))∧RowS rest∧AtOk N H Q E (dueS rest (wish - r0)) i
theorem aIp {H H':Hp} {a ps:Addr} {xs l:List V} (k:∀ b u,b≠ps→H b=some u→H' b=some u) (hp:H ps=some (.lst l)) (h:SqT K H a xs):SqT K H' a xs:=by
 rcases h with (h | ⟨o,h⟩) | h
 ·exact .inl (.inl (k a _ (fun z=>by rw [z,hp] at h; cases h) h))
 ·exact .inl (.inr ⟨o,k a _ (fun z=>by rw [z,hp] at h; cases h) h⟩)
 ·exact .inr h
noncomputable abbrev s_sides_at:Stmt:=top 21
theorem sc_sides_at:FnScope ["row","wish","place","sums","lacking","signs","number","behind","by_plus"] ["row","wish","place"] (zF s_sides_at):=⟨rfl,rfl,rfl,by decide +kernel,rfl,by decide +kernel,by decide +kernel⟩
theorem okX_at {f:Addr} {fd:FuncData} (F:Fun K "sides_at" "sides_at" s_sides_at f fd) (B:Blt mg) (Gsb:Def P w K mg base CX0 2 "sums_behind" (spSB K)) (Gcheck:Def P w K mg base (CXF P w) 3 "check_place" (aEI N)):FnOk P w K mg base (CXF P w) 6 f fd ["row","wish","place"] (spAtX K N):=by
 refine F.okX (k:=5) sc_sides_at (fun vs H Q E h=>?_) (fun cdv A outer s H vs Q E hr h=>?_)
 ·obtain ⟨a,r0,rest,wish,i,rfl,_⟩:=h
  rfl
 obtain ⟨a,r0,rest,wish,pl,rfl,ha,hl,q1,q2⟩:=h
 refine ⟨_,(zG (zP (i:=3) sc_sides_at.nd rfl (by first | exact Or.inl rfl | exact Or.inr rfl) (zR Gsb (hr.mono (by lia)) (zA (pv 0) zE)))
   (zG (zP (i:=4) sc_sides_at.nd rfl (by first | exact Or.inl rfl | exact Or.inr rfl) (pe_op yk (pv 1) (zS (qz rfl) rfl B.sum aEQ (zA (yO qJ (pv 0) yi (yN zD)) zE))))
   (zG (qG (aAf Gcheck (hr.mono (by lia)) (zA (pv 2) (zA (yz (hu_of hr) (pe_ix zn (pv 3) zD (fun _ _=>rfl)) (pv 4) zD ⟨rfl,rfl,rfl,rfl⟩) zE))))
   (zG (zP (i:=5) sc_sides_at.nd rfl (by first | exact Or.inl rfl | exact Or.inr rfl) (yR zE))
   (zG (yW (aHJ rfl rfl) rfl (aIg B.zip (zA (yO qJ (pv 0) (yN zD) yi) (zA (yO aDv (pv 3) (yN zD) yi) zE))) (jc rfl (zd (zM (i:=6) sc_sides_at.nd rfl (by first | exact Or.inl rfl | exact Or.inr rfl)) (zd (zM (i:=7) sc_sides_at.nd rfl (by first | exact Or.inl rfl | exact Or.inr rfl)) qH))) (zG (zP (i:=8) sc_sides_at.nd rfl (by first | exact Or.inl rfl | exact Or.inr rfl) (yz (hu_of hr) (pv 7) (pe_op yk (pv 4) (pv 6)) zD ⟨rfl,rfl,rfl,rfl⟩))
   (zI (ps_if (zm op_lt (pv 2) (pv 8) (zf _)) (zG (qG (pe_bm PySem.F.plainAttrs_list PySem.F.slot_list_append PySem.F.type_list_append yp (pv 5) (zA jZ zE)))
   (zI (aFW (i:=4) sc_sides_at.nd rfl (by first | exact Or.inl rfl | exact Or.inr rfl) (pv 6) aHm))) (zG (qG (pe_bm PySem.F.plainAttrs_list PySem.F.slot_list_append PySem.F.type_list_append yp (pv 5) (zA jZ zE)))
   (zG (aFW (i:=4) sc_sides_at.nd rfl (by first | exact Or.inl rfl | exact Or.inr rfl) (pv 6) aJ2)
   (zI (aFW (i:=2) sc_sides_at.nd rfl (by first | exact Or.inl rfl | exact Or.inr rfl) (pv 8) aHm))))))))
   (zI (zT (zi zx rfl B.tuple qR (zA (pv 5) zE))))))))),?_⟩
 have szl:=sizeLine_eq
 have hl1:=hl.1
 refine ⟨_,rfl,a,r0,rest,rfl,ha,hl,fun p ys H1 s1 _ g1 py=>?_⟩
 refine ⟨_,rfl,_,rfl,1,rfl,a,_,rfl,fun H' s'=>ha H' (s1.trans s'),fun pz Hz sz hz=>?_⟩
 rw [aH1] at hz
 refine ⟨pz,[r0],rfl,hz Hz (fun _ _ e=>e),?_⟩
 rw [show [r0].sum=r0 by simp]
 refine ⟨_,_,rfl,rfl,?_⟩
 obtain ⟨d,hd,rd⟩:=aEK py
 have gz:=sz _ _ g1
 refine ⟨_,rfl,_,rfl,p,ys,0,.ref d,rfl,rfl,SqL.of gz,hd,d,rfl,.inl ⟨_,jY sz rd⟩,_,rfl,_,.inl ⟨_,Sum.inl (wish - r0),jY sz rd,rfl,rfl⟩,pl,((dueS rest (wish - r0)).length:Int),by rw [jh,← jV],fun c=>?_,fun c dx hdx=>?_⟩
 case refine_2=>exact q2 c dx _ (s1.trans (sz.trans (Same.new hdx))) ((s1.trans sz).free hdx) zB
 refine ⟨(by show 0≤sizeLine; decide),fun ps hps=>?_⟩
 have s3:=(s1.trans sz).trans (Same.new (o:=.lst []) hps)
 have gs3:(upd Hz ps (.lst [])) ps=some (.lst []):=zB
 have g3:=Same.new (o:=.lst []) hps _ _ gz
 have py3:Paired (Dc (upd Hz ps (.lst []))) ys (sfx rest):=L2.Paired.mapP py fun v x ⟨e,h1,h2⟩=>⟨e,h1,jY (sz.trans (Same.new hps)) h2⟩
 have nps:H ps=none:=zu (s1.trans sz) hps
 generalize upd Hz ps (.lst [])=H3 at s3 gs3 g3 py3 ⊢
 refine ⟨_,rfl,1,rfl,a,_,rfl,fun H' s'=>ha H' (s3.trans s'),fun pr Hr sr hr2=>?_⟩
 rw [cutHi1] at hr2
 refine ⟨_,rfl,1,rfl,p,ys,rfl,SqL.of (sr _ _ g3),fun pq hpq=>?_⟩
 have eqc:cutV ys (some 1) none=ys.drop 1:=aGz (a:=1) _ (by rw [py3.length,aB0]; lia)
 rw [eqc]
 have nqs:pq≠ps:=fun z=>by rw [z,sr _ _ gs3] at hpq; cases hpq
 have sq:=Same.new (o:=.lst (ys.drop 1)) hpq
 have gq:(upd Hr pq (.lst (ys.drop 1))) pq=some (.lst (ys.drop 1)):=zB
 have hrq:∀ H',Same (upd Hr pq (.lst (ys.drop 1))) H'→SqT K H' pr (rest.map V.int):=fun H' s'=>hr2 H' (sq.trans s')
 have gs4:=sq _ _ (sr _ _ gs3)
 have py4:Paired (Dc (upd Hr pq (.lst (ys.drop 1)))) ys (sfx rest):=L2.Paired.mapP py3 fun v x ⟨e,h1,h2⟩=>⟨e,h1,jY (sr.trans sq) h2⟩
 have s4:=s3.trans (sr.trans sq)
 generalize upd Hr pq (.lst (ys.drop 1))=H4 at gq hrq gs4 py4 s4 ⊢
 have yl:ys.length=rest.length + 1:=by rw [py4.length,aB0]
 refine ⟨pr,pq,rfl,⟨_,hrq _ (fun _ _ e=>e)⟩,⟨_,SqL.of gq⟩,aHe (K:=K) (p:=pr) (r:=pq) (xs:=rest.map V.int) (ys:=ys.drop 1) (n:=rest.length) (by rw [List.length_map,List.length_drop]; lia)
  (fun i σ H'=>∃ (lk pc:Int) (pre:List Str) (z1 z2 z3:Option V),σ=[some (.ref a),some (.int wish),some (.int pc),some (.ref p),some (.int lk),some (.ref ps),z1,z2,z3]∧Same H H'∧(∀ b u,b≠ps→H4 b=some u→H' b=some u)∧H' ps=some (.lst (pre.map V.str))∧pre.length=i∧0≤pc∧pc.toNat < (dueS (rest.drop i) lk).length∧(dueS rest (wish - r0)).getD pl.toNat []=pre++(dueS (rest.drop i) lk).getD pc.toNat [])
  ⟨wish - r0,pl,[],none,none,none,rfl,s4,fun _ _ _ e=>e,gs4,rfl,c.1,by rw [List.drop_zero]; lia,by rw [List.drop_zero]; rfl⟩ ?_ ?_ ?_⟩
 ·rintro i σ H' hi ⟨lk,pc,pre,z1,z2,z3,rfl,sH,k,gp,_⟩
  exact ⟨aIp k gs4 (hrq _ fun _ _ e=>e),SqL.of (k pq _ nqs gq)⟩
 ·rintro i T x y σ H' hx hy ⟨lk,pc,pre,z1,z2,z3,rfl,sH,k,gp,pl1,c0,c1,hdue⟩ hT
  rw [List.getElem?_map] at hx
  obtain ⟨n,hn,rfl⟩:∃ n,rest[i]?=some n∧V.int n=x:=by
   cases e:rest[i]? with
   | none=>rw [e] at hx; cases hx
   | some n=>rw [e] at hx; exact ⟨n,rfl,by simpa using hx⟩
  have hil:=(List.getElem?_eq_some_iff.mp hn).1
  rw [List.getElem?_drop] at hy
  obtain ⟨ns,hns,e,rfl,rde⟩:=aA1 py4 hy
  rw [aEJ rest (1 + i) (by lia)] at hns
  cases hns
  have ed:rest.drop i=n :: rest.drop (1 + i):=by
   rw [List.drop_eq_getElem_cons hil,show i + 1=1 + i by lia]
   congr 1
   rw [List.getElem?_eq_getElem hil] at hn
   exact Option.some.inj hn
  have nee:e≠ps:=fun z=>by
   rcases rde with h | ⟨o,h⟩ <;> (rw [z,gs4] at h; cases h)
  have sT:=Same.new (o:=.tup [V.int n,V.ref e]) hT
  have rdT:Rd (upd H' T (.tup [V.int n,V.ref e])) e (.dK ((dic (rest.drop (1 + i))).map kvI)):=jY sT (aAF (fun o ho=>k e o nee ho) rde)
  have gpT:=sT _ _ gp
  rw [ed] at c1 hdue
  have npT:T≠ps:=fun z=>by rw [z,gp] at hT; cases hT
  refine ⟨T,_,rfl,SqT.of zB,rfl,_,_,rfl,_,_,rfl,rfl,?_⟩
  refine ⟨_,rfl,e,rfl,.inl ⟨_,rdT⟩,_,rfl,_,rfl,_,_,rfl,rfl,_,.inl ⟨_,Sum.inl (lk - n),rdT,rfl,rfl⟩,?_⟩
  rw [jh,← jV]
  refine ⟨_,rfl,_,rfl,_,_,rfl,rfl,_,rfl,?_⟩
  have fin:∀ s:Str,(∀ b u,b≠ps→H4 b=some u→(upd (upd H' T (.tup [V.int n,V.ref e])) ps (.lst (pre.map V.str++[.str s]))) b=some u)∧Same H (upd (upd H' T (.tup [V.int n,V.ref e])) ps (.lst (pre.map V.str++[.str s])))∧(upd (upd H' T (.tup [V.int n,V.ref e])) ps (.lst (pre.map V.str++[.str s]))) ps=some (.lst ((pre++[s]).map V.str)):=fun s=>by
   refine ⟨fun b u nb e1=>?_,yD (sH.trans sT) nps,?_⟩
   ·rw [zH nb]; exact sT _ _ (k b u nb e1)
   ·rw [zB,List.map_append]; rfl
  refine ite2 (fun cc=>?_) (fun cc=>?_)
  ·have cc':pc < ((dueS (rest.drop (1 + i)) (lk - n)).length:Int):=of_decide_eq_true cc
   refine ⟨_,rfl,.inl ⟨rfl,_,SqL.of gpT⟩,ps,_,_,rfl,rfl,gpT,by rw [List.length_map,szl]; lia,?_⟩
   refine ⟨_,rfl,_,rfl,_,_,rfl,rfl,?_⟩
   obtain ⟨f1,f2,f3⟩:=fin "+"
   refine ⟨lk - n,pc,pre++[("+":Str)],_,_,_,rfl,f2,f1,f3,by rw [List.length_append]; show pre.length + 1=_; lia,c0,by rw [show i + 1=1 + i by lia]; lia,?_⟩
   rw [hdue,aHc (by lia),show i + 1=1 + i by lia,List.append_assoc]
   rfl
  ·have cc':¬ pc < ((dueS (rest.drop (1 + i)) (lk - n)).length:Int):=fun z=>cc (decide_eq_true z)
   obtain ⟨e1,e2⟩:=aHd (i:=pc.toNat) (by lia) c1
   refine ⟨_,rfl,.inl ⟨rfl,_,SqL.of gpT⟩,ps,_,_,rfl,rfl,gpT,by rw [List.length_map,szl]; lia,?_⟩
   refine ⟨_,rfl,_,rfl,_,_,rfl,rfl,?_⟩
   refine ⟨_,rfl,_,rfl,_,_,rfl,rfl,?_⟩
   obtain ⟨f1,f2,f3⟩:=fin "-"
   have ep:(pc - ((dueS (rest.drop (1 + i)) (lk - n)).length:Int)).toNat=pc.toNat - (dueS (rest.drop (1 + i)) (lk - n)).length:=by lia
   refine ⟨lk + n,pc - ((dueS (rest.drop (1 + i)) (lk - n)).length:Int),pre++[("-":Str)],_,_,_,rfl,f2,f1,f3,by rw [List.length_append]; show pre.length + 1=_; lia,by lia,by rw [show i + 1=1 + i by lia,ep]; exact e1,?_⟩
   rw [hdue,e2,show i + 1=1 + i by lia,List.append_assoc,ep]
   rfl
 ·rintro σ H' ⟨lk,pc,pre,z1,z2,z3,rfl,sH,k,gp,pl1,c0,c1,hdue⟩
  rw [List.drop_length] at c1 hdue
  have er:(dueS rest (wish - r0)).getD pl.toNat []=pre:=by
   rw [hdue]
   rw [aEo] at c1 ⊢
   by_cases h0:lk=0
   ·rw [if_pos h0] at c1 ⊢
    have:pc.toNat=0:=by simpa using c1
    rw [this]; simp
   ·rw [if_neg h0] at c1; simp at c1
  refine ⟨_,rfl,ps,_,rfl,.inl ⟨SqL.of gp,fun pp hpp=>?_⟩⟩
  exact q1 c _ _ (sH.trans (Same.new hpp)) ⟨pp,rfl,by rw [zB,er]⟩
noncomputable def spAt (K:PySem.W.Frag):Sp:=fun vs H Q E=>∃ (a:Addr) (r0:Int) (rest:List Int) (wish:Int) (i:Int),vs=[.ref a,.int wish,.int i]∧(∀ H':Hp,Same H H'→SqT K H' a ((r0 :: rest).map V.int))∧RowS rest∧(0≤i∧i < (dueS rest (wish - r0)).length) ∧
 ∀ (v:V) (H':Hp),Same H H'→Put H' v ((dueS rest (wish - r0)).getD i.toNat [])→Q v H'
theorem ok_at {f:Addr} {fd:FuncData} (F:FnOk P w K mg base (CXF P w) 6 f fd ["row","wish","place"] (spAtX K N)):FnOk P w K mg base CX0 6 f fd ["row","wish","place"] (spAt K) :=
 F.hush fun vs H Q E ⟨a,r0,rest,wish,i,e,ha,ok,hi,q⟩=>⟨a,r0,rest,wish,i,e,ha,ok,fun _=>q,fun z=>absurd hi z⟩
end
end Sd
end Law
namespace Law
open PySem L2
section
variable {P:Program} {w:World} {K:PySem.W.Frag} {mg:Str→Option Value} {base:Heap}
theorem qE {s u:TS} {D:Ends} {σ:St} {H:Hp} (Mid:St→Hp→Prop) (h2:∀ σ' H',Mid σ' H'→u D σ' H') (h:∀ X':St→Hp→Prop,(∀ σ' H',Mid σ' H'→X' σ' H')→s { D with nx:=X' } σ H):tSeq s u D σ H:=h (u D) h2
theorem aEr {H H':Hp} {a:Addr} {xs:List V} (s:Same H H') (h:SqL K H a xs):SqL K H' a xs:=by
 rcases h with (h | ⟨o,h⟩) | h
 ·exact .inl (.inl (s _ _ h))
 ·exact .inl (.inr ⟨o,s _ _ h⟩)
 ·exact .inr h
noncomputable def spNum (K:PySem.W.Frag):Sp:=fun vs H Q _=>∃ (a:Addr) (ns:List Int) (k:Int),vs=[.ref a,.int k]∧SqL K H a (ns.map V.int)∧ns.length≤63∧0≤k∧k < 1000∧∀ (r:Int) (H':Hp),0≤r→r < 1000000→Same H H'→Q (.int r) H'
noncomputable abbrev yL:Stmt:=top 26
theorem sc_law_number:FnScope ["script","k","cells","size","cell","turn","rest","step","seed"] ["script","k"] (zF yL):=⟨rfl,rfl,rfl,by decide +kernel,rfl,by decide +kernel,by decide +kernel⟩
theorem aJi {f:Addr} {fd:FuncData} (F:Fun K "_law_number" "_law_number" yL f fd) (B:Blt mg) (Bmax:mg "max"=none) (Bmin:mg "min"=none) (Blist:mg "list"=none):FnOk P w K mg base CX0 1 f fd ["script","k"] (spNum K):=by
 refine F.ok sc_law_number (fun vs H Q E h=>?_) (fun cdv A outer s H vs Q E hr h=>?_)
 ·obtain ⟨a,ns,k,rfl,_⟩:=h
  rfl
 obtain ⟨a,ns,k,rfl,hS,hl,k0,k1,q⟩:=h
 refine ⟨_,(zG (zP (i:=2) sc_law_number.nd rfl (by first | exact Or.inl rfl | exact Or.inr rfl) (pe_op aHp (zi aCK rfl Blist aIH (zA (pv 0) zE)) (yR (zA zD zE))))
   (zG (zP (i:=3) sc_law_number.nd rfl (by first | exact Or.inl rfl | exact Or.inr rfl) (zS (aCE rfl) rfl Bmax aGC (zA zD (zA (zS za rfl B.len qZ (zA (pv 0) zE)) zE))))
   (zG (zP (i:=4) sc_law_number.nd rfl (by first | exact Or.inl rfl | exact Or.inr rfl) (pe_ix zn (pv 2) (pe_op yI (pv 1) (pv 3)) (fun _ _=>rfl)))
   (zG (zP (i:=5) sc_law_number.nd rfl (by first | exact Or.inl rfl | exact Or.inr rfl) (pe_op jN (pv 1) (pv 3)))
   (zG (zP (i:=6) sc_law_number.nd rfl (by first | exact Or.inl rfl | exact Or.inr rfl) (pv 4))
   (zG (yW PassesOwn.never rfl (ql rfl B.range (zA (zS (aFb rfl) rfl Bmin aHt (zA (pv 5) (zA zD zE))) zE)) (zM (i:=7) sc_law_number.nd rfl (by first | exact Or.inl rfl | exact Or.inr rfl)) (zI (zP (i:=6) sc_law_number.nd rfl (by first | exact Or.inl rfl | exact Or.inr rfl) (pe_op aHD (pv 6) zD))))
   (zG (ps_if (PW.pt (ja (zm op_ge (pv 4) (pe_op js zD zD) (zf _)) (ja (zm op_lt (pv 5) zD (zf _)) (qb (zm op_gt (pv 6) zD (zf _)))))) (zI (zT (pe_op yI (pv 6) zD))) yJ)
   (zG (zP (i:=8) sc_law_number.nd rfl (by first | exact Or.inl rfl | exact Or.inr rfl) (pe_op yI (pe_op yQ (pe_op zW (pe_op zW (pe_op zW (pe_op yI (pv 4) zD) zD) (pe_op yQ zD (pv 5))) (pe_op yQ zD (pv 1))) zD) zD))
   (zG (zP (i:=8) sc_law_number.nd rfl (by first | exact Or.inl rfl | exact Or.inr rfl) (pe_op yI (pe_op zW (pe_op zW (pe_op yQ (pv 8) (pv 8)) (pe_op yQ zD (pv 5))) (pe_op yQ zD (pv 1))) zD))
   (zI (zT (pe_op yI (pe_op jN (pe_op yI (pe_op yQ (pv 8) zD) zD) zD) zD)))))))))))),?_⟩
 have szl:=sizeLine_eq
 refine ⟨_,rfl,a,_,rfl,.inl hS,fun p1 hp1=>⟨(by show 1≤sizeLine; decide),fun p2 hp2=>⟨p1,p2,_,_,rfl,rfl,Same.new hp2 _ _ zB,zB,?_,fun p3 hp3=>?_⟩⟩⟩
 ·rw [List.length_map,szl]; show ns.length + 1≤_; lia
 have s3:Same H (upd (upd (upd H p1 (.lst (ns.map V.int))) p2 (.lst [.int 0])) p3 (.lst (ns.map V.int++[.int 0]))):=(Same.new hp1).trans ((Same.new hp2).trans (Same.new hp3))
 have g3:(upd (upd (upd H p1 (.lst (ns.map V.int))) p2 (.lst [.int 0])) p3 (.lst (ns.map V.int++[.int 0]))) p3=some (.lst ((ns++[0]).map V.int)):=by rw [zB,List.map_append]; rfl
 generalize upd (upd (upd H p1 (.lst (ns.map V.int))) p2 (.lst [.int 0])) p3 (.lst (ns.map V.int++[.int 0]))=H1 at s3 g3 ⊢
 have hS1:SqL K H1 a (ns.map V.int):=aEr s3 hS
 refine ⟨_,rfl,a,_,rfl,.inl hS1,1,_,rfl,?_⟩
 rw [List.length_map]
 obtain ⟨m,hm,m1,m2,m3⟩:∃ m:Int,(if (ns.length:Int) > 1 then (ns.length:Int) else 1)=m∧1≤m∧m≤63∧m≤(ns.length:Int) + 1:=⟨_,rfl,by split <;> lia,by split <;> lia,by split <;> lia⟩
 rw [hm]
 have i0:0≤k % m:=Int.emod_nonneg _ (by lia)
 have i1:k % m < m:=Int.emod_lt_of_pos _ (by lia)
 obtain ⟨v,hv,hmem⟩:=qd (xs:=(ns++[0]).map V.int) i0 (by rw [List.length_map,List.length_append]; show k % m < ((ns.length + 1:Nat):Int); lia)
 obtain ⟨cell,_,rfl⟩:=List.mem_map.mp hmem
 refine ⟨_,rfl,_,rfl,_,rfl,_,_,rfl,rfl,(by show (0:Int) < m; lia),p3,_,_,_,rfl,rfl,SqL.of g3,hv,?_⟩
 have d0:0≤k / m:=Int.ediv_nonneg k0 (by lia)
 have d1:k / m≤k:=Int.ediv_le_self m k0
 refine ⟨_,rfl,_,rfl,_,_,rfl,rfl,⟨by lia,by lia⟩,?_⟩
 refine ⟨_,rfl,?_⟩
 dsimp only [gName]
 refine qE (fun σ' H'=>∃ (r:Int) (z:Option V),σ'=[some (.ref a),some (.int k),some (.ref p3),some (.int m),some (.int cell),some (.int (k / m)),some (.int r),z,none]∧H'=H1) ?_ ?_
 ·rintro σ' H' ⟨r,z,rfl,rfl⟩
  refine qE (fun σ2 H2=>σ2=[some (.ref a),some (.int k),some (.ref p3),some (.int m),some (.int cell),some (.int (k / m)),some (.int r),z,none]∧H2=H') ?_ ?_
  ·rintro σ2 H2 ⟨rfl,rfl⟩
   have e1:0≤cell % 2147483629:=Int.emod_nonneg _ (by decide)
   have e2:cell % 2147483629 < 2147483629:=Int.emod_lt_of_pos _ (by decide)
   refine ⟨_,rfl,_,_,rfl,rfl,(by show (0:Int) < _; decide),_,_,rfl,rfl,_,rfl,_,_,rfl,rfl,.inl ⟨by decide,by decide⟩,_,_,rfl,rfl,_,rfl,_,_,rfl,rfl,.inl ⟨by decide,by decide⟩,_,_,rfl,rfl,_,_,rfl,rfl,.inr ⟨by decide,by decide⟩,_,_,rfl,rfl,(by show (0:Int) < _; decide),?_⟩
   generalize hy:(cell % 2147483629 + 977 + 104729 * (k / m) + 15485863 * k) * 48271 % 2147483647=y
   have y0:0≤y:=by rw [← hy]; exact Int.emod_nonneg _ (by decide)
   have y1:y < 2147483647:=by rw [← hy]; exact Int.emod_lt_of_pos _ (by decide)
   refine ⟨_,rfl,_,rfl,_,_,rfl,rfl,.inl ⟨by lia,by lia⟩,_,rfl,_,_,rfl,rfl,.inl ⟨by decide,by decide⟩,_,_,rfl,rfl,_,rfl,_,_,rfl,rfl,.inl ⟨by decide,by decide⟩,_,_,rfl,rfl,_,_,rfl,rfl,(by show (0:Int) < _; decide),?_⟩
   refine ⟨_,rfl,_,_,rfl,rfl,.inr ⟨by decide,by decide⟩,_,_,rfl,rfl,(by show (0:Int) < _; decide),_,_,rfl,rfl,⟨by decide,by decide⟩,_,_,rfl,rfl,(by show (0:Int) < _; decide),?_⟩
   exact q _ _ (Int.emod_nonneg _ (by decide)) (Int.emod_lt_of_pos _ (by decide)) s3
  ·intro X' hX
   refine ⟨_,rfl,_,_,rfl,rfl,⟨by decide,by decide,by decide⟩,_,_,rfl,rfl,_,rfl,?_⟩
   refine ite2 (fun _=>?_) (fun _=>?_)
   ·refine ⟨_,rfl,_,_,rfl,rfl,_,rfl,?_⟩
    refine ite2 (fun _=>?_) (fun _=>?_)
    ·refine ⟨_,rfl,_,_,rfl,rfl,_,rfl,?_⟩
     refine ite2 (fun _=>?_) (fun _=>?_)
     ·exact ⟨_,rfl,_,_,rfl,rfl,(by show (0:Int) < _; decide),q _ _ (Int.emod_nonneg _ (by decide)) (Int.emod_lt_of_pos _ (by decide)) s3⟩
     ·exact hX _ _ ⟨rfl,rfl⟩
    ·exact iteF (hX _ _ ⟨rfl,rfl⟩)
   ·exact iteF (hX _ _ ⟨rfl,rfl⟩)
 ·intro X' hX
  refine ⟨_,rfl,_,_,rfl,_,rfl,(by split <;> lia),(by split <;> lia),jr (fun i σ H'=>∃ (r:Int) (z:Option V),σ=[some (.ref a),some (.int k),some (.ref p3),some (.int m),some (.int cell),some (.int (k / m)),some (.int r),z,none]∧H'=H1) ⟨cell,none,rfl,rfl⟩ ?_ ?_⟩
  ·rintro i σ H' _ ⟨c,z,rfl,rfl⟩
   exact ⟨_,rfl,_,_,rfl,rfl,⟨by decide,by decide⟩,_,_,rfl,rfl⟩
  ·rintro σ H' h
   exact hX _ _ h
noncomputable def spCh (K:PySem.W.Frag):Sp:=fun vs H Q _=>∃ (b:Addr) (m:Nat) (sg:List Str),vs=[.int m,.ref b]∧m≤12∧1≤sg.length∧sg.length ^ m≤19683∧(∀ H':Hp,Same H H'→SqT K H' b (sg.map V.str)) ∧
 ∀ (p:Addr) (ys:List V) (H':Hp),Same H H'→H p=none→H' p=some (.lst ys)→Paired (Put H') ys (chs sg m)→Q (.ref p) H'
noncomputable abbrev yG:Stmt:=top 28
theorem sc_law_choices:FnScope ["many","signs","found","k","longer","some"] ["many","signs"] (zF yG):=⟨rfl,rfl,rfl,by decide +kernel,rfl,by decide +kernel,by decide +kernel⟩
theorem ok_ch {f:Addr} {fd:FuncData} (F:Fun K "_law_choices" "_law_choices" yG f fd) (B:Blt mg):FnOk P w K mg base CX0 1 f fd ["many","signs"] (spCh K):=by
 refine F.ok sc_law_choices (fun vs H Q E h=>?_) (fun cdv A outer s H vs Q E hr h=>?_)
 ·obtain ⟨b,m,sg,rfl,_⟩:=h
  rfl
 obtain ⟨b,m,sg,rfl,hm,hs1,hs3,hb,q⟩:=h
 refine ⟨_,(zG (zP (i:=2) sc_law_choices.nd rfl (by first | exact Or.inl rfl | exact Or.inr rfl) (yR (zA (yo zE) zE yx)))
   (zG (yW PassesOwn.never rfl (ql rfl B.range (zA (pv 0) zE)) (zM (i:=3) sc_law_choices.nd rfl (by first | exact Or.inl rfl | exact Or.inr rfl)) (zG (zP (i:=4) sc_law_choices.nd rfl (by first | exact Or.inl rfl | exact Or.inr rfl) (yR zE))
   (zG (yW PassesOwn.never rfl (yt (pv 2)) (zM (i:=5) sc_law_choices.nd rfl (by first | exact Or.inl rfl | exact Or.inr rfl)) (zI (qG (pe_bm PySem.F.plainAttrs_list PySem.F.slot_list_extend PySem.F.type_list_extend aFk (pv 4) (zA (jx (N:=["sign","some"]) rfl (cs_of [none,some 5] rfl (by decide +kernel) (by decide +kernel) rfl rfl) rfl (jd (pv 1)) (fun _ _ _ _=>(zM (i:=0) (show (["sign","some"]:List Str).Nodup by decide +kernel) rfl (by first | exact Or.inl rfl | exact Or.inr rfl))) (fun _ _ _ _=>jw) (fun _ _ _ _=>(pe_op aGD (pv 1) (yo (zA (pv 0) zE))))) zE)))))
   (zI (zP (i:=2) sc_law_choices.nd rfl (by first | exact Or.inl rfl | exact Or.inr rfl) (pv 4))))))
   (zI (zT (pv 2))))),?_⟩
 have szl:=sizeLine_eq
 refine ⟨(by show 0≤sizeLine; decide),fun p0 hp0=>⟨(by show 1≤sizeLine; decide),fun p1 hp1=>?_⟩⟩
 have n1:H p1=none:=zu (Same.new hp0) hp1
 refine ⟨_,rfl,_,rfl,by lia,by lia,jr (n:=m) (fun k σ H'=>∃ (z1 z2 z3:Option V) (pf:Addr) (ys:List V),σ=[some (.int m),some (.ref b),some (.ref pf),z1,z2,z3]∧Same H H'∧H pf=none∧H' pf=some (.lst ys)∧Paired (Put H') ys (chs sg k))
  ⟨none,none,none,p1,_,rfl,(Same.new hp0).trans (Same.new hp1),n1,zB,.cons ⟨p0,rfl,Same.new hp1 _ _ zB⟩ .nil⟩ ?_ ?_⟩
 ·rintro k σ H2 hk ⟨z1,z2,z3,pf,ys,rfl,sH,nf,gf,pys⟩
  refine ⟨(by show 0≤sizeLine; decide),fun pl hpl=>?_⟩
  have sl:=Same.new (o:=.lst []) hpl
  dsimp only [gName]
  refine qE (fun σ' H'=>∃ (z1 z3:Option V) (pm:Addr) (zs:List V),σ'=[some (.int m),some (.ref b),some (.ref pf),z1,some (.ref pm),z3]∧Same H2 H'∧H2 pm=none∧H' pm=some (.lst zs)∧Paired (Put H') zs (chs sg (k + 1))) ?_ ?_
  ·rintro σ' H' ⟨z1,z3,pm,zs,rfl,s',np,gp,pz⟩
   exact ⟨_,rfl,_,_,_,pm,zs,rfl,sH.trans s',zu sH np,gp,pz⟩
  ·intro X' hX
   have yl:ys.length=sg.length ^ k:=by rw [pys.length,yA]
   refine ⟨_,rfl,pf,rfl,⟨_,SqL.of (sl _ _ gf)⟩,qm (K:=K) (a:=pf) (xs:=ys) (fun i σ H3=>∃ (z1 z3:Option V) (pm:Addr) (zs:List V),σ=[some (.int m),some (.ref b),some (.ref pf),z1,some (.ref pm),z3]∧Same H2 H3∧H2 pm=none∧H3 pm=some (.lst zs)∧Paired (Put H3) zs (((chs sg k).take i).flatMap fun ss=>sg.map fun s=>ss++[s]))
    ⟨_,_,pl,[],rfl,sl,hpl,zB,.nil⟩ (fun i σ H' _ ⟨_,_,_,_,_,g,_⟩=>SqL.of (g _ _ gf)) ?_ ?_⟩
   ·rintro i x σ H3 hi ⟨z1,z3,pm,zs,rfl,s3,np,gp,pz⟩
    obtain ⟨ss,hx,hw⟩:=aA1 pys hi
    obtain ⟨qx,rfl,gq⟩:=hw.kt (KT.same s3)
    have hil:i < sg.length ^ k:=by rw [← yl]; exact (List.getElem?_eq_some_iff.mp hi).1
    have ssl:ss.length=k:=jR sg k ss (List.mem_of_getElem? hx)
    have zl:zs.length=i * sg.length:=by
     rw [pz.length,aEW _ sg.length _ (fun x _=>by rw [List.length_map]),List.length_take,yA]
     congr 1; lia
    have tot:i * sg.length + sg.length≤19683:=by
     have h1:(i + 1) * sg.length≤sg.length ^ k * sg.length:=Nat.mul_le_mul_right _ hil
     rw [Nat.succ_mul] at h1
     have h2:=Nat.le_trans (Nat.pow_le_pow_right hs1 (show k + 1≤m by lia)) hs3
     rw [Nat.pow_succ] at h2
     lia
    refine ⟨_,rfl,.inl ⟨rfl,_,SqL.of gp⟩,_,rfl,b,rfl,⟨_,hb H3 (sH.trans s3)⟩,fun D hD C s2 fp=>?_⟩
    refine aEU (K:=K) (a:=b) (xs:=sg.map V.str) (tt:=fun _ H Q=>Q true H) (fun j ws σ H4=>∃ o:Option V,σ=[o,some (.ref qx)]∧Same H3 H4∧Paired (Put H4) ws ((sg.take j).map fun s=>ss++[s])) (fun j ws σ H4 ⟨_,_,g,_⟩=>hb H4 (sH.trans (s3.trans g))) ⟨none,rfl,Same.new hD,.nil⟩ ?_ ?_
    ·rintro j y ws σ H4 hj hwl ⟨o,rfl,s4,pw⟩ g4
     rw [List.getElem?_map] at hj
     obtain ⟨sn,hsn,rfl⟩:∃ sn,sg[j]?=some sn∧V.str sn=y:=by
      cases e:sg[j]? with
      | none=>rw [e] at hj; cases hj
      | some n=>rw [e] at hj; exact ⟨n,rfl,by simpa using hj⟩
     have hjl:j < sg.length:=(List.getElem?_eq_some_iff.mp hsn).1
     refine ⟨_,rfl,_,rfl,(by show 1≤sizeLine; decide),fun pt hpt=>?_⟩
     have st:=Same.new (o:=.tup [.str sn]) hpt
     refine ⟨qx,pt,_,_,rfl,rfl,st _ _ (s4 _ _ gq),zB,?_,fun pp H5 s5 g5=>?_⟩
     ·show (ss.map V.str).length + 1≤1000000
      rw [List.length_map]; lia
     have s45:=st.trans s5
     have g7:=s45 _ _ g4
     refine ⟨ws,g7,by rw [szl]; lia,ws++[.ref pp],by rw [List.length_append]; show ws.length + 1≤j + 1; lia,⟨_,rfl,yD (s4.trans s45) hD,?_⟩,zB⟩
     rw [zU hsn,List.map_append]
     refine aA0 (pr_kt (R:=Put) (fun v x h=>h.kt (KT.trans (KT.same s45) (KT.upd g7))) pw) ⟨pp,rfl,?_⟩
     have g8:=KT.upd (o:=.lst (ws++[V.ref pp])) g7 _ _ g5
     rw [g8]
     show _=some (HO.tup (List.map V.str (ss++[sn])))
     rw [List.map_append]
     rfl
    ·rintro ws σ H4 ⟨o,rfl,s4,pw⟩ g4
     rw [List.length_map,List.take_length] at pw
     have wl:ws.length=sg.length:=by rw [pw.length,List.length_map]
     have gpm:=s4 _ _ gp
     refine ⟨pm,D,zs,ws,rfl,rfl,gpm,g4,by rw [szl]; lia,?_⟩
     refine ⟨_,_,pm,_,rfl,yD (s3.trans s4) np,np,zB,?_⟩
     rw [zU hx,List.flatMap_append]
     refine aHu (pr_kt (R:=Put) (fun v x h=>h.kt (KT.trans (KT.same s4) (KT.upd gpm))) pz) ?_
     have:=pr_kt (R:=Put) (fun v x h=>h.kt (KT.upd (o:=.lst (zs++ws)) gpm)) pw
     simpa using this
   ·rintro σ H3 ⟨z1,z3,pm,zs,rfl,s3,np,gp,pz⟩
    have el:(chs sg k).length=ys.length:=pys.length.symm
    rw [← el,List.take_length] at pz
    exact hX _ _ ⟨_,_,pm,zs,rfl,s3,np,gp,pz⟩
 ·rintro σ H2 ⟨z1,z2,z3,pf,ys,rfl,sH,nf,gf,pys⟩
  exact ⟨_,rfl,q pf ys H2 sH nf gf pys⟩
theorem dec_str (a b:Str):decide (V.str a=V.str b)=decide (a=b):=by
 by_cases h:a=b
 ·rw [h]; simp
 ·rw [decide_eq_false h,decide_eq_false (fun z=>h (V.str.inj z))]
noncomputable def spLW (K:PySem.W.Frag):Sp:=fun vs H Q _=>∃ (a:Addr) (v:V) (r0:Int) (rest:List Int) (ss:List Str),vs=[.ref a,v]∧(∀ H':Hp,Same H H'→SqT K H' a ((r0 :: rest).map V.int))∧Put H v ss∧ss.length=rest.length∧(∀ n∈r0 :: rest,1≤n∧n≤99)∧(∀ s∈ss,qM s) ∧
 ∀ H':Hp,Same H H'→Q (.int (wr (comeF (0,1,r0) rest ss))) H'
noncomputable def Pos3 (c:C3):Prop:=(c.2.1=1∨c.2.1=-1)∧1≤c.2.2
theorem aHk {s:Str} {c:C3} {n:Int} (hs:qM s) (hn:1≤n) (h:Pos3 c):Pos3 (putN s c n):=by
 rcases hs with rfl | rfl | rfl | rfl
 ·rw [qK]; exact ⟨.inl rfl,hn⟩
 ·rw [qL]; exact ⟨.inr rfl,hn⟩
 ·rw [qU]
  refine ⟨h.1,?_⟩
  have h2:=h.2
  show 1≤c.2.2 * n
  exact Int.le_trans hn (by have:=Int.mul_le_mul_of_nonneg_right h2 (show 0≤n by lia); rwa [Int.one_mul] at this)
 ·rw [jk]
  have h2:=h.2
  exact ⟨h.1,by show 1≤10 * c.2.2 + n; lia⟩
noncomputable abbrev yT:Stmt:=top 29
theorem sc_law_worth:FnScope ["row","signs","total","product","sign","number"] ["row","signs"] (zF yT):=⟨rfl,rfl,rfl,by decide +kernel,rfl,by decide +kernel,by decide +kernel⟩
theorem ok_lw {f:Addr} {fd:FuncData} (F:Fun K "_law_worth" "_law_worth" yT f fd) (B:Blt mg):FnOk P w K mg base CX0 1 f fd ["row","signs"] (spLW K):=by
 refine F.ok sc_law_worth (fun vs H Q E h=>?_) (fun cdv A outer s H vs Q E hr h=>?_)
 ·obtain ⟨a,v,r0,rest,ss,rfl,_⟩:=h
  rfl
 obtain ⟨a,v,r0,rest,ss,rfl,ha,⟨qs,rfl,gs⟩,hl,h99,hf,q⟩:=h
 refine ⟨_,(zG (zP (i:=2) sc_law_worth.nd rfl (by first | exact Or.inl rfl | exact Or.inr rfl) zD)
   (zG (zP (i:=3) sc_law_worth.nd rfl (by first | exact Or.inl rfl | exact Or.inr rfl) (pe_ix aFj (pv 0) zD (fun _ _=>rfl)))
   (zG (yW PassesOwn.never rfl (aJB B.zip (zA (pv 1) (zA (yO qJ (pv 0) (yN zD) yi) zE))) (jc rfl (zd (zM (i:=4) sc_law_worth.nd rfl (by first | exact Or.inl rfl | exact Or.inr rfl)) (zd (zM (i:=5) sc_law_worth.nd rfl (by first | exact Or.inl rfl | exact Or.inr rfl)) qH))) (zI (ps_if (zm op_eq (pv 4) jZ (zf _)) (zI (zP (i:=3) sc_law_worth.nd rfl (by first | exact Or.inl rfl | exact Or.inr rfl) (pe_op yQ (pv 3) (pv 5)))) (zI (ps_if (zm op_eq (pv 4) jZ (zf _)) (zI (zP (i:=3) sc_law_worth.nd rfl (by first | exact Or.inl rfl | exact Or.inr rfl) (pe_op zW (pe_op yQ (pv 3) zD) (pe_op yQ (pe_ix zn (yR (zA zD (zA (pe_un qo zD) zE))) (zi qp rfl B.int aAP (zA (yu op_lt (pv 3) zD (zf _)) zE)) (fun _ _=>rfl)) (pv 5))))) (zG (zP (i:=2) sc_law_worth.nd rfl (by first | exact Or.inl rfl | exact Or.inr rfl) (pe_op zW (pv 2) (pv 3)))
   (zI (zP (i:=3) sc_law_worth.nd rfl (by first | exact Or.inl rfl | exact Or.inr rfl) (pe_op yQ (pv 5) (pe_ix zn (yR (zA zD (zA (pe_un qo zD) zE))) (zi qp rfl B.int aAP (zA (yu op_eq (pv 4) jZ (zf _)) zE)) (fun _ _=>rfl)))))))))))
   (zI (zT (pe_op zW (pv 2) (pv 3))))))),?_⟩
 refine ⟨_,rfl,a,_,0,.int r0,rfl,rfl,ha H (fun _ _ e=>e),(by exact jO (j:=0) rfl),?_⟩
 refine ⟨_,rfl,_,rfl,1,rfl,a,_,rfl,ha,fun pr Hr sr hrr=>?_⟩
 rw [Sd.cutHi1] at hrr
 have h00:=h99 r0 (List.mem_cons_self ..)
 refine ⟨qs,pr,rfl,⟨_,SqT.of (sr _ _ gs)⟩,⟨_,hrr Hr (fun _ _ e=>e)⟩,aIQ (K:=K) (p:=qs) (r:=pr) (xs:=ss.map V.str) (ys:=rest.map V.int) (n:=rest.length) (by rw [List.length_map,List.length_map]; lia) (fun k σ H'=>∃ (z1 z2:Option V) (c:C3),σ=[some (.ref a),some (.ref qs),some (.int c.1),some (.int (c.2.1 * c.2.2)),z1,z2]∧Same Hr H'∧c=comeF (0,1,r0) (rest.take k) (ss.take k)∧Pos3 c)
  ⟨none,none,(0,1,r0),by show _=[_,_,some (V.int 0),some (V.int (1 * r0)),none,none]; rw [Int.one_mul]; rfl,fun _ _ e=>e,by rw [List.take_zero,List.take_zero]; rfl,.inl rfl,h00.1⟩ (fun k σ H' _ ⟨_,_,_,_,g,_⟩=>⟨SqT.of (g _ _ (sr _ _ gs)),hrr H' g⟩) ?_ ?_⟩
 ·rintro k T x y σ H3 hx hy ⟨z1,z2,c,rfl,s3,hc,hp⟩ hT
  rw [List.getElem?_map] at hx hy
  obtain ⟨sn,hsn,rfl⟩:∃ sn,ss[k]?=some sn∧V.str sn=x:=by
   cases e:ss[k]? with
   | none=>rw [e] at hx; cases hx
   | some n=>rw [e] at hx; exact ⟨n,rfl,by simpa using hx⟩
  obtain ⟨n,hn,rfl⟩:∃ n,rest[k]?=some n∧V.int n=y:=by
   cases e:rest[k]? with
   | none=>rw [e] at hy; cases hy
   | some n=>rw [e] at hy; exact ⟨n,rfl,by simpa using hy⟩
  have hnb:=h99 n (List.mem_cons_of_mem _ (List.mem_of_getElem? hn))
  have hos:=hf sn (List.mem_of_getElem? hsn)
  have hkr:=(List.getElem?_eq_some_iff.mp hn).1
  have sT:=Same.new (o:=.tup [V.str sn,V.int n]) hT
  have hcs:comeF (0,1,r0) (rest.take (k + 1)) (ss.take (k + 1))=putN sn c n:=by
   rw [zU hn,zU hsn,jQ _ _ _ _ _ (by rw [List.length_take,List.length_take]; lia),← hc]
  have hp2:=aHk hos hnb.1 hp
  have h4:=s3.trans sT
  refine ⟨T,_,rfl,SqT.of zB,rfl,_,_,rfl,_,_,rfl,rfl,?_⟩
  generalize upd H3 T (.tup [V.str sn,V.int n])=H4 at h4 ⊢
  refine ⟨_,rfl,rfl,_,rfl,?_⟩
  rw [dec_str]
  by_cases h0:sn="*"
  ·rw [decide_eq_true h0]
   refine iteT ?_
   refine ⟨_,rfl,_,rfl,_,_,rfl,rfl,.inr ⟨by lia,by lia⟩,?_⟩
   refine ⟨some (.str sn),some (.int n),putN sn c n,?_,h4,hcs.symm,hp2⟩
   rw [h0,qU,← Int.mul_assoc]
   rfl
  rw [decide_eq_false h0]
  refine iteF ?_
  refine ⟨_,rfl,rfl,_,rfl,?_⟩
  rw [dec_str]
  by_cases h1:sn=""
  ·rw [decide_eq_true h1]
   refine iteT ?_
   obtain ⟨sg,hsg,hs2,hs1⟩:∃ sg:Int,atI [V.int 1,V.int (-1)] (if decide (c.2.1 * c.2.2 < 0)=true then 1 else 0)=some (.int sg)∧sg=c.2.1∧(sg=1∨sg=-1):=by
    obtain ⟨ps,pl⟩:=hp
    rcases ps with e | e
    ·refine ⟨1,?_,e.symm,.inl rfl⟩
     rw [if_neg (by rw [e,Int.one_mul]; simp; lia)]; rfl
    ·refine ⟨-1,?_,e.symm,.inr rfl⟩
     rw [if_pos (by rw [e]; simp; lia)]; rfl
   refine ⟨_,rfl,_,_,rfl,rfl,.inr ⟨by lia,by lia⟩,_,rfl,(by show 2≤sizeLine; decide),fun p5 hp5=>?_⟩
   have s5:=Same.new (o:=.lst [V.int 1,V.int (-1)]) hp5
   refine ⟨_,rfl,_,_,rfl,rfl,.inr ⟨_,rfl,p5,_,_,_,rfl,rfl,SqL.of zB,hsg,_,rfl,_,_,rfl,rfl,.inr ⟨by lia,by lia⟩,_,_,rfl,rfl,?_⟩⟩
   refine ⟨some (.str sn),some (.int n),putN sn c n,?_,h4.trans s5,hcs.symm,hp2⟩
   rw [h1,jk]
   show [_,_,_,some (V.int (c.2.1 * c.2.2 * 10 + sg * n)),_,_]=[_,_,_,some (V.int (c.2.1 * (10 * c.2.2 + n))),_,_]
   rw [show c.2.1 * c.2.2 * 10 + sg * n=c.2.1 * (10 * c.2.2 + n) by rw [hs2,Int.mul_add,Int.mul_assoc,Int.mul_comm c.2.2 10]]
  rw [decide_eq_false h1]
  refine iteF ?_
  have sd:∃ sg:Int,atI [V.int 1,V.int (-1)] (if decide (V.str sn=V.str "-")=true then 1 else 0)=some (.int sg)∧putN sn c n=(c.1 + c.2.1 * c.2.2,sg,n)∧(sg=1∨sg=-1):=by
   rcases hos with h | h | h | h
   ·subst h
    refine ⟨1,?_,qK c n,.inl rfl⟩
    rw [if_neg (by decide +kernel)]; rfl
   ·subst h
    refine ⟨-1,?_,qL c n,.inr rfl⟩
    rw [if_pos (by decide +kernel)]; rfl
   ·exact absurd h h0
   ·exact absurd h h1
  obtain ⟨sg,hsg,hput,hs1⟩:=sd
  refine ⟨_,rfl,_,rfl,_,_,rfl,rfl,?_⟩
  refine ⟨_,rfl,_,rfl,(by show 2≤sizeLine; decide),fun p5 hp5=>?_⟩
  have s5:=Same.new (o:=.lst [V.int 1,V.int (-1)]) hp5
  refine ⟨_,rfl,rfl,.inr ⟨_,rfl,p5,_,_,_,rfl,rfl,SqL.of zB,hsg,_,_,rfl,rfl,.inl ⟨by lia,by lia⟩,?_⟩⟩
  refine ⟨some (.str sn),some (.int n),putN sn c n,?_,h4.trans s5,hcs.symm,hp2⟩
  rw [hput]
  show [_,_,_,some (V.int (n * sg)),_,_]=[_,_,_,some (V.int (sg * n)),_,_]
  rw [Int.mul_comm n sg]
 ·rintro σ H3 ⟨z1,z2,c,rfl,s3,hc,hp⟩
  have hc':c=comeF (0,1,r0) rest ss:=by
   rw [hc]
   congr 1
   ·exact List.take_of_length_le (by lia)
   ·exact List.take_of_length_le (by lia)
  refine ⟨_,rfl,_,rfl,_,_,rfl,rfl,?_⟩
  have:=q H3 (sr.trans s3)
  rw [← hc'] at this
  exact this
noncomputable def spRow (K:PySem.W.Frag):Sp:=fun vs H Q _=>∃ (a b:Addr) (ns:List Int) (st:Int) (m:Nat) (mo:List Int) (M:Int),vs=[.ref a,.int st,.int m,.ref b]∧SqL K H a (ns.map V.int)∧ns.length≤63∧0≤st∧st≤500∧m≤40∧(∀ H':Hp,Same H H'→SqL K H' b (mo.map V.int))∧0 < mo.length∧(∀ x∈mo,1≤x∧x≤M) ∧
 ∀ (p:Addr) (row:List Int) (H':Hp),Same H H'→H' p=some (.tup (row.map V.int))→row.length=m→(∀ n∈row,1≤n∧n≤M)→Q (.ref p) H'
noncomputable abbrev yr:Stmt:=top 27
theorem sc_law_row:FnScope ["script","start","many","mosts","most"] ["script","start","many","mosts"] (zF yr):=⟨rfl,rfl,rfl,by decide +kernel,rfl,by decide +kernel,by decide +kernel⟩
theorem aJj {f:Addr} {fd:FuncData} (F:Fun K "_law_row" "_law_row" yr f fd) (B:Blt mg) (Gnum:Def P w K mg base CX0 1 "_law_number" (spNum K)):FnOk P w K mg base CX0 2 f fd ["script","start","many","mosts"] (spRow K):=by
 refine F.ok (k:=1) sc_law_row (fun vs H Q E h=>?_) (fun cdv A outer s H vs Q E hr h=>?_)
 ·obtain ⟨a,b,ns,st,m,mo,M,rfl,_⟩:=h
  rfl
 obtain ⟨a,b,ns,st,m,mo,M,rfl,hS,hl,st0,st1,hm,hb,hmo,hM,q⟩:=h
 refine ⟨_,(zG (zP (i:=4) sc_law_row.nd rfl (by first | exact Or.inl rfl | exact Or.inr rfl) (pe_ix zn (pv 3) (pe_op yI (zR Gnum (hr.mono (by lia)) (zA (pv 0) (zA (pv 1) zE))) (zS za rfl B.len qZ (zA (pv 3) zE))) (fun _ _=>rfl)))
   (zI (zT (zi zx rfl B.tuple qR (zA (jx (N:=["k","most","script","start"]) rfl (cs_of [none,some 4,some 0,some 1] rfl (by decide +kernel) (by decide +kernel) rfl rfl) rfl (ql rfl B.range (zA (pv 2) zE)) (fun _ _ _ _=>(zM (i:=0) (show (["k","most","script","start"]:List Str).Nodup by decide +kernel) rfl (by first | exact Or.inl rfl | exact Or.inr rfl))) (fun _ _ _ _=>jw) (fun _ _ _ _=>(pe_op zW zD (pe_op yI (zR Gnum (hr.mono (by lia)) (zA (pv 2) (zA (pe_op zW (pe_op zW (pv 3) zD) (pv 0)) zE))) (pv 1))))) zE))))),?_⟩
 have szl:=sizeLine_eq
 refine ⟨_,rfl,_,rfl,_,rfl,a,ns,st,rfl,hS,hl,st0,by lia,fun r1 H1 r10 _ s1=>?_⟩
 refine ⟨_,rfl,b,_,rfl,.inl (hb H1 s1),_,_,rfl,rfl,(by show (0:Int) < _; rw [List.length_map]; lia),?_⟩
 rw [List.length_map]
 obtain ⟨v,hv,hvm⟩:=qd (xs:=mo.map V.int) (r:=r1 % (mo.length:Int)) (Int.emod_nonneg _ (by lia)) (by rw [List.length_map]; exact Int.emod_lt_of_pos _ (by lia))
 obtain ⟨mx,hmx,rfl⟩:=List.mem_map.mp hvm
 have hx:=hM mx hmx
 refine ⟨b,_,_,_,rfl,rfl,hb H1 s1,hv,?_⟩
 refine ⟨_,rfl,_,rfl,by lia,by lia,fun D hD C sx fp=>?_⟩
 refine aF0 (n:=m) (tt:=fun _ H Q=>Q true H) (fun i zs σ H3=>∃ (o:Option V) (row:List Int),σ=[o,some (.int mx),some (.ref a),some (.int st)]∧Same H1 H3∧zs=row.map V.int∧row.length=i∧∀ n∈row,1≤n∧n≤M) ⟨none,[],rfl,Same.new hD,rfl,rfl,fun n h=>by cases h⟩ ?_ ?_
 ·rintro i zs σ H3 hi hzl ⟨o,row,rfl,s3,rfl,rl,hrow⟩ g3
  have hi':i≤40:=by lia
  refine ⟨_,rfl,_,rfl,_,_,rfl,rfl,_,rfl,_,_,rfl,rfl,a,ns,_,rfl,aEr (s1.trans s3) hS,hl,by lia,by lia,fun r4 H4 r40 _ s4=>⟨_,rfl,_,_,rfl,rfl,(by show (0:Int) < mx; lia),_,_,rfl,rfl,?_⟩⟩
  have h1:0≤r4 % mx:=Int.emod_nonneg _ (by lia)
  have h2:r4 % mx < mx:=Int.emod_lt_of_pos _ (by lia)
  refine ⟨_,s4 _ _ g3,by rw [szl]; lia,_,by rw [List.length_append]; show _ + 1≤i + 1; lia,⟨_,row++[1 + r4 % mx],rfl,yD (s3.trans s4) hD,by rw [List.map_append]; rfl,by rw [List.length_append]; show _ + 1=i + 1; lia,fun n hn=>?_⟩,zB⟩
  rcases List.mem_append.mp hn with hn | hn
  ·exact hrow n hn
  ·rw [List.mem_singleton.mp hn]; lia
 ·rintro zs σ H3 ⟨o,row,rfl,s3,rfl,rl,hrow⟩ g3
  refine ⟨D,_,rfl,.inl ⟨SqL.of g3,fun pr hpr=>?_⟩⟩
  exact q pr row _ (s1.trans (s3.trans (Same.new hpr))) zB (by lia) hrow
end
end Law
namespace L2
open PySem PySem.Spec PyProof.Rows
theorem aB2 {A:V→Value→Prop} (hA:∀ n v,A (.int n) v→∃ t,v=Value.int n t):∀ {ns:List Int} {its:List Value},Paired A (ns.map V.int) its→∃ xs:List (Int×Tok),xs.length=ns.length∧its=xs.map fun p=>Value.int p.1 p.2
 | [],_,.nil=>⟨[],rfl,rfl⟩
 | n :: ns,_,.cons h r=>by
  obtain ⟨xs,e1,e2⟩:=aB2 hA r
  obtain ⟨t,rfl⟩:=hA _ _ h
  exact ⟨(n,t) :: xs,by rw [List.length_cons,List.length_cons,e1],by rw [e2]; rfl⟩
theorem aFM {X:Cx} (hc:X.calm=true):CallR X (.builtin "max") (fun xs H Q=>∃ (p:Addr) (ns:List Int),xs=[.ref p]∧SqL X.K H p (ns.map V.int)∧0 < ns.length∧∀ m:Int,Q (.int m) H):=by
 intro pins s σ H xs us Q I r h
 obtain ⟨p,ns,rfl,hS,hn,q⟩:=h
 obtain ⟨u,rfl,rx⟩:=vals1 r
 obtain rfl:u=Value.ref p:=rx
 obtain ⟨its,rv,pl,hz⟩:=I.list hS
 obtain ⟨xs,e1,rfl⟩:=aB2 (fun _ _ h=>h) rv
 have ei:intItems xs.toArray=(xs.map fun p=>Value.int p.1 p.2).toArray:=by unfold intItems; simp
 refine max_intList (xs:=xs.toArray) (I.ok.hd hc) (by rw [ei]; exact pl.isList) (by rw [List.size_toArray]; lia) fun v h' tk hv hk=>?_
 obtain ⟨t,rfl⟩:=intItems_at hv
 exact ⟨.int _,H,I.kept hk,⟨_,rfl⟩,q _⟩
theorem aFN {X:Cx} (hc:X.calm=true):CallR X (.builtin "min") (fun xs H Q=>∃ (p:Addr) (ns:List Int),xs=[.ref p]∧SqL X.K H p (ns.map V.int)∧0 < ns.length∧∀ m:Int,Q (.int m) H):=by
 intro pins s σ H xs us Q I r h
 obtain ⟨p,ns,rfl,hS,hn,q⟩:=h
 obtain ⟨u,rfl,rx⟩:=vals1 r
 obtain rfl:u=Value.ref p:=rx
 obtain ⟨its,rv,pl,hz⟩:=I.list hS
 obtain ⟨xs,e1,rfl⟩:=aB2 (fun _ _ h=>h) rv
 have ei:intItems xs.toArray=(xs.map fun p=>Value.int p.1 p.2).toArray:=by unfold intItems; simp
 refine min_intList (xs:=xs.toArray) (I.ok.hd hc) (by rw [ei]; exact pl.isList) (by rw [List.size_toArray]; lia) fun v h' tk hv hk=>?_
 obtain ⟨t,rfl⟩:=intItems_at hv
 exact ⟨.int _,H,I.kept hk,⟨_,rfl⟩,q _⟩
theorem aH2 {K:PySem.W.Frag} {p q:Addr} {xs ys:List V} {H1:Hp} {D:Addr} {σ0:St} {g:TG} {tt:TT} {te:TE} {R:Hp→Prop}
  (Pv:Nat→List V→St→Hp→Prop) (hl:∀ i zs σ H2,Pv i zs σ H2→SqL K H2 p xs∧SqL K H2 q ys) (hlen:xs.length=ys.length) (h0:Pv 0 [] σ0 (upd H1 D (.lst [])))
  (hs:∀ i T x y zs σ H2,xs[i]?=some x→ys[i]?=some y→zs.length≤i→Pv i zs σ H2→H2 D=some (.lst zs)→H2 T=none→g (.ref T) σ (upd H2 T (.tup [x,y])) fun σ3 H3=>tt σ3 H3 fun b H4=>if b=true then te σ3 H4 fun y H5=>∃ zs,H5 D=some (.lst zs)∧zs.length < sizeLine∧NextC Pv D i σ3 (upd H5 D (.lst (zs++[y]))) else NextC Pv D i σ3 H4)
  (hd:∀ zs σ H2,Pv xs.length zs σ H2→H2 D=some (.lst zs)→R H2) :
  ∃ W:Nat→Nat→St→Hp→Prop,(∃ m,W 0 m σ0 (upd H1 D (.lst [])))∧∀ i m σ2 H2,W i m σ2 H2 →
  ((ItzL K p q).stop i H2∧R H2)∨((ItzL K p q).go i H2∧∃ N:St→Hp→Prop,(∀ σ' H',N σ' H'→∃ m',m' < m∧W (i + 1) m' σ' H')∧∀ x H',(ItzL K p q).yld i H2 x H'→g x σ2 H' fun σ3 H3=>tt σ3 H3 fun b H4 =>
   if b=true then te σ3 H4 fun y H5=>∃ xs,H5 D=some (.lst xs)∧xs.length < sizeLine∧N σ3 (upd H5 D (.lst (xs++[y]))) else N σ3 H4):=by
 refine ⟨fun i m σ H'=>m=xs.length - i∧i≤xs.length∧∃ zs,zs.length≤i∧Pv i zs σ H'∧H' D=some (.lst zs),⟨xs.length,by simp,Nat.zero_le _,[],Nat.le_refl _,h0,zB⟩,?_⟩
 rintro i m σ2 H2 ⟨rfl,hi,zs,hy,pv,e⟩
 obtain ⟨q1,q2⟩:=hl i zs σ2 H2 pv
 by_cases hlt:i < xs.length
 ·refine .inr ⟨⟨xs,ys,xs[i],ys[i],q1,q2,by simp [hlt],by simp [hlen ▸ hlt]⟩,NextC Pv D i,fun σ' H' ⟨zs',l',p',e'⟩=>⟨xs.length - (i + 1),by lia,rfl,hlt,zs',l',p',e'⟩,fun v H' y=>?_⟩
  obtain ⟨T,x,y,rfl,hT,rfl,hxy⟩:=y
  obtain ⟨e1,e2⟩:=hxy xs ys q1 q2
  exact hs i T x y zs σ2 H2 e1 e2 hy pv e hT
 ·have ei:i=xs.length:=by lia
  subst ei
  exact .inl ⟨⟨xs,ys,q1,q2,.inl (Nat.le_refl _)⟩,hd zs σ2 H2 pv e⟩
end L2
namespace Law
open PySem L2
section
variable {P:Program} {w:World} {K:PySem.W.Frag} {mg:Str→Option Value} {base:Heap}
theorem ite_f {c:Bool} {A B:Prop} (h:c=false) (b:B):if c=true then A else B:=by
 rw [h]; exact iteF b
theorem ite_t {c:Bool} {A B:Prop} (h:c=true) (a:A):if c=true then A else B:=by
 rw [h]; exact iteT a
noncomputable def spWi (K:PySem.W.Frag):Sp:=fun vs H Q _=>∃ (a b:Addr) (ns ws:List Int) (st:Int),vs=[.ref a,.int st,.ref b]∧SqL K H a (ns.map V.int)∧ns.length≤63∧0≤st∧st≤500∧(∀ H':Hp,Same H H'→SqL K H' b (ws.map V.int))∧0 < ws.length ∧
 ∀ (p:Addr) (l:List Int) (H':Hp),Same H H'→H' p=some (.lst (l.map V.int))→l.length=3→Q (.ref p) H'
noncomputable abbrev yM:Stmt:=top 30
theorem sc_law_wishes:FnScope ["script","start","worths","number","great","high","low","far","some","begin"] ["script","start","worths"] (zF yM):=⟨rfl,rfl,rfl,by decide +kernel,rfl,by decide +kernel,by decide +kernel⟩
theorem ok_wi {f:Addr} {fd:FuncData} (F:Fun K "_law_wishes" "_law_wishes" yM f fd) (B:Blt mg) (Bmax:mg "max"=none) (Bmin:mg "min"=none) (Gnum:Def P w K mg base CX0 1 "_law_number" (spNum K)):FnOk P w K mg base CX0 2 f fd ["script","start","worths"] (spWi K):=by
 refine F.ok (k:=1) sc_law_wishes (fun vs H Q E h=>?_) (fun cdv A outer s H vs Q E hr h=>?_)
 ·obtain ⟨a,b,ns,ws,st,rfl,_⟩:=h
  rfl
 obtain ⟨a,b,ns,ws,st,rfl,hS,hl,st0,st1,hb,hw,q⟩:=h
 refine ⟨_,(zG (zP (i:=3) sc_law_wishes.nd rfl (by first | exact Or.inl rfl | exact Or.inr rfl) (zR Gnum (hr.mono (by lia)) (zA (pv 0) (zA (pv 1) zE))))
   (zG (zP (i:=4) sc_law_wishes.nd rfl (by first | exact Or.inl rfl | exact Or.inr rfl) (pe_op yQ (pe_op zW zD (pv 3)) (pe_ix zn (yR (zA (pe_op js zD zD) (zA (pe_op js zD zD) (zA (pe_op js zD zD) zE)))) (pe_op yI (pv 3) zD) (fun _ _=>rfl))))
   (zG (aJ1 (i:=5) (j:=6) rfl sc_law_wishes.nd rfl rfl (by decide) rfl rfl (zA (zS (aFM rfl) rfl Bmax aGC (zA (pv 2) zE)) (zA (zS (aFN rfl) rfl Bmin aHt (zA (pv 2) zE)) zE)) rfl)
   (zG (zP (i:=7) sc_law_wishes.nd rfl (by first | exact Or.inl rfl | exact Or.inr rfl) (pe_op zW (pe_op js zD zD) (pv 3)))
   (zG (zP (i:=8) sc_law_wishes.nd rfl (by first | exact Or.inl rfl | exact Or.inr rfl) (yR (zA (pv 5) (zA (pv 6) (zA (pe_op zW (pv 5) zD) (zA (pe_op yk (pv 6) zD) (zA (pe_op yk (pv 5) zD) (zA (pe_op zW (pv 6) zD) zE))))))))
   (zG (zP (i:=8) sc_law_wishes.nd rfl (by first | exact Or.inl rfl | exact Or.inr rfl) (pe_op aHp (pv 8) (yR (zA (pe_op yk zD (pe_ix zn (pv 2) (pe_op yI (pv 3) (zS za rfl B.len qZ (zA (pv 2) zE))) (fun _ _=>rfl))) (zA zD (zA (pv 4) (zA (pe_op yk zD (pv 4)) (zA (pv 7) (zA (pe_op yk zD (pv 7)) zE)))))))))
   (zG (zP (i:=9) sc_law_wishes.nd rfl (by first | exact Or.inl rfl | exact Or.inr rfl) (pe_op yI (pe_op jN (pv 3) zD) zD))
   (zI (zT (yR (zA (pe_ix zn (pv 8) (pv 9) (fun _ _=>rfl)) (zA (pe_ix zn (pv 8) (pe_op yI (pe_op zW (pv 9) zD) zD) (fun _ _=>rfl)) (zA (pe_ix zn (pv 8) (pe_op yI (pe_op zW (pv 9) zD) zD) (fun _ _=>rfl)) zE))))))))))))),?_⟩
 refine ⟨_,rfl,_,rfl,a,ns,st,rfl,hS,hl,st0,by lia,fun num H1 n0 n1 s1=>?_⟩
 refine ⟨_,rfl,_,_,rfl,rfl,_,_,rfl,rfl,⟨by decide,by decide,by decide⟩,_,_,rfl,rfl,⟨by decide,by decide,by decide⟩,_,_,rfl,rfl,⟨by decide,by decide,by decide⟩,(by show 3≤sizeLine; decide),fun pg hpg=>?_⟩
 obtain ⟨v,hv,hvm⟩:=qd (xs:=[(10:Int) ^ (3:Int).toNat,10 ^ (8:Int).toNat,10 ^ (13:Int).toNat].map V.int) (r:=num % 3) (Int.emod_nonneg _ (by decide)) (Int.emod_lt_of_pos _ (by decide))
 obtain ⟨gx,_,rfl⟩:=List.mem_map.mp hvm
 have s2:=s1.trans (Same.new (o:=.lst ([(10:Int) ^ (3:Int).toNat,10 ^ (8:Int).toNat,10 ^ (13:Int).toNat].map V.int)) hpg)
 refine ⟨_,rfl,_,_,rfl,rfl,(by show (0:Int) < 3; decide),pg,_,_,_,rfl,rfl,SqL.of zB,hv,_,_,rfl,rfl,.inl ⟨by lia,by lia⟩,?_⟩
 refine ⟨_,rfl,b,ws,rfl,hb _ s2,hw,fun hi=>⟨_,rfl,b,ws,rfl,hb _ s2,hw,fun lo=>⟨_,_,rfl,?_⟩⟩⟩
 refine ⟨_,_,rfl,rfl,⟨by decide,by decide,by decide⟩,_,rfl,_,_,rfl,rfl,?_⟩
 refine ⟨_,rfl,_,rfl,_,rfl,_,_,rfl,rfl,_,rfl,_,_,rfl,rfl,_,rfl,_,_,rfl,rfl,_,rfl,_,_,rfl,rfl,(by show 6≤sizeLine; decide),fun p1 hp1=>?_⟩
 have s3:=s2.trans (Same.new (o:=.lst ([hi,lo,hi + 1,lo - 1,hi - 1,lo + 1].map V.int)) hp1)
 have hb3:=hb _ s3
 obtain ⟨v,hv,hvm⟩:=qd (xs:=ws.map V.int) (r:=num % (ws.length:Int)) (Int.emod_nonneg _ (by lia)) (by rw [List.length_map]; exact Int.emod_lt_of_pos _ (by lia))
 obtain ⟨wx,_,rfl⟩:=List.mem_map.mp hvm
 refine ⟨_,rfl,_,rfl,_,rfl,_,rfl,b,_,rfl,.inl hb3,_,_,rfl,rfl,(by show (0:Int) < _; rw [List.length_map]; lia),?_⟩
 rw [List.length_map]
 refine ⟨b,_,_,_,rfl,rfl,hb3,hv,_,_,rfl,rfl,_,rfl,_,rfl,_,_,rfl,rfl,_,rfl,_,rfl,_,_,rfl,rfl,(by show 6≤sizeLine; decide),fun p2 hp2=>?_⟩
 refine ⟨p1,p2,_,_,rfl,rfl,Same.new hp2 _ _ zB,zB,(by show 12≤sizeLine; decide),fun p3 hp3=>?_⟩
 obtain ⟨L,hL,hLe⟩:∃ L:List Int,L.length=12∧L=[hi,lo,hi + 1,lo - 1,hi - 1,lo + 1]++[0 - wx,0,(1 + num) * gx,0 - (1 + num) * gx,10 ^ (19:Int).toNat + num,0 - (10 ^ (19:Int).toNat + num)]:=⟨_,rfl,rfl⟩
 have gL:∀ H0:Hp,(upd H0 p3 (.lst (L.map V.int))) p3=some (.lst (L.map V.int)):=fun _=>zB
 have s4:=s3.trans ((Same.new hp2).trans (Same.new (o:=.lst (L.map V.int)) hp3))
 rw [hLe] at gL s4
 have b0:0≤num / 12 % 12:=Int.emod_nonneg _ (by decide)
 have b1:num / 12 % 12 < 12:=Int.emod_lt_of_pos _ (by decide)
 have at_:∀ i:Int,0≤i→i < 12→∃ x:Int,atI (L.map V.int) i=some (.int x):=fun i h0 h1=>by
  obtain ⟨v,h2,h3⟩:=qd (xs:=L.map V.int) h0 (by rw [List.length_map,hL]; exact h1)
  obtain ⟨x,_,rfl⟩:=List.mem_map.mp h3
  exact ⟨x,h2⟩
 obtain ⟨x1,hx1⟩:=at_ (num / 12 % 12) b0 b1
 obtain ⟨x2,hx2⟩:=at_ ((num / 12 % 12 + 5) % 12) (Int.emod_nonneg _ (by decide)) (Int.emod_lt_of_pos _ (by decide))
 obtain ⟨x3,hx3⟩:=at_ ((num / 12 % 12 + 10) % 12) (Int.emod_nonneg _ (by decide)) (Int.emod_lt_of_pos _ (by decide))
 rw [hLe] at hx1 hx2 hx3
 refine ⟨_,rfl,_,_,rfl,rfl,⟨by decide,by decide⟩,_,_,rfl,rfl,(by show (0:Int) < 12; decide),?_⟩
 refine ⟨_,rfl,_,rfl,p3,_,_,_,rfl,rfl,SqL.of (gL _),hx1,?_⟩
 refine ⟨_,rfl,_,rfl,_,_,rfl,rfl,_,_,rfl,rfl,(by show (0:Int) < 12; decide),p3,_,_,_,rfl,rfl,SqL.of (gL _),hx2,?_⟩
 refine ⟨_,rfl,_,rfl,_,_,rfl,rfl,_,_,rfl,rfl,(by show (0:Int) < 12; decide),p3,_,_,_,rfl,rfl,SqL.of (gL _),hx3,?_⟩
 exact ⟨(by show 3≤sizeLine; decide),fun p4 hp4=>q p4 [x1,x2,x3] _ (s4.trans (Same.new hp4)) zB rfl⟩
end
end Law
namespace Law
open PySem L2
section
variable {P:Program} {w:World} {K:PySem.W.Frag} {mg:Str→Option Value} {base:Heap}
variable {W T S N:Addr} {bT bS bN:List Value}
theorem aCd (K:PySem.W.Frag):PySem.W.kitOne K (.type "int") (.type "bool")=some false:=by with_unfolding_all rfl
theorem dec_int (i j:Int):decide (V.int i=V.int j)=decide (i=j):=by
 by_cases h:i=j
 ·rw [h]; simp
 ·rw [decide_eq_false h,decide_eq_false (fun z=>h (V.int.inj z))]
noncomputable def DoorL (door r0:Int) (rest:List Int) (wish:Int) (l:List (List Str)):Prop:=(door=0∧RowOk sg3 (r0 :: rest)∧l=due sg3 r0 rest wish)∨(door=1∧RowS rest∧l=dueS rest (wish - r0))
noncomputable def spRef (K:PySem.W.Frag):Sp:=fun vs H Q _=>∃ (a:Addr) (door r0:Int) (rest:List Int) (wish i:Int) (l:List (List Str)),vs=[.int door,.ref a,.int wish,.int i]∧(∀ H':Hp,Same H H'→SqT K H' a ((r0 :: rest).map V.int))∧DoorL door r0 rest wish l∧¬ (0≤i∧i < (l.length:Int)) ∧
 ∀ (H':Hp),Same H H'→Q (.bl true) H'
noncomputable abbrev yH:Stmt:=top 31
theorem sc_law_refused:FnScope ["door","row","wish","place","caught","e"] ["door","row","wish","place"] (zF yH):=⟨rfl,rfl,rfl,by decide +kernel,rfl,by decide +kernel,by decide +kernel⟩
theorem aJk {f:Addr} {fd:FuncData} (F:Fun K "_law_refused" "_law_refused" yH f fd) (B:Blt mg) (R:Refs P w K mg base W T S N bT bS bN) (GatX:Def P w K mg base (CXF P w) 6 "signs_at" (spAtX K N)) (GsatX:Def P w K mg base (CXF P w) 6 "sides_at" (Sd.spAtX K N)) (zValueError:mg "ValueError"=none):FnOk P w K mg base CX0 10 f fd ["door","row","wish","place"] (spRef K):=by
  refine F.ok (k:=9) sc_law_refused (fun vs H Q E h=>?_) (fun cdv A outer s H vs Q E hr h=>?_)
  · obtain ⟨a,door,r0,rest,wish,i,l,rfl,_⟩:=h
    rfl
  obtain ⟨a,door,r0,rest,wish,i,l,rfl,ha,hd,hi,q⟩:=h
  refine ⟨_,(zG (zP (i:=4) sc_law_refused.nd rfl (by first | exact Or.inl rfl | exact Or.inr rfl) aIy)
      (zG (aJI (i:=5) sc_law_refused.nd rfl rfl rfl R.gW R.cW.xcls rfl rfl (fun EX pins=>(zI (ps_if (zm op_eq (pv 0) zD (zf _)) (zI (qG (aAf GatX (hr.mono (by lia)) (zA (pv 1) (zA (pv 2) (zA (pv 3) zE)))))) (zI (qG (aAf GsatX (hr.mono (by lia)) (zA (pv 1) (zA (pv 2) (zA (pv 3) zE))))))))) (fun _ pins=>(zI (zP (i:=4) sc_law_refused.nd rfl (by first | exact Or.inl rfl | exact Or.inr rfl) (pv 5)))))
      (zG (ps_if (PW.pt (pw_or (qY (aGB B.isinstance (pv 4) (yo (zA (jM (v:=.ref S) rfl R.gS rfl) (zA (jM (v:=.ref T) rfl R.gT rfl) zE))))) (aFT (qk (qY (aGB B.isinstance (pv 4) (aFS (v:=.ty "ValueError") rfl zValueError aAy rfl))))))) (zI (zT pe_bl)) yJ)
      (zI (zT (aFV (aGB B.isinstance (pv 4) (jM (v:=.ref N) rfl R.gN rfl)) (aFU (yu op_eq (pe_xf (K:=K) (pv 4)) jZ (zf _))))))))),?_⟩
  rcases hd with ⟨rfl,ok,rfl⟩ | ⟨rfl,ok,rfl⟩
  all_goals first
    | refine ⟨_,rfl,rfl,_,rfl,ite_t (by decide +kernel) ⟨_,rfl,_,rfl,_,rfl,a,r0,rest,wish,i,rfl,ha,ok,fun c=>absurd c hi,fun _ dx H2 s2 nd hd=>?_⟩⟩
    | refine ⟨_,rfl,rfl,_,rfl,ite_f (by decide +kernel) ⟨_,rfl,_,rfl,_,rfl,a,r0,rest,wish,i,rfl,ha,ok,fun c=>absurd c hi,fun _ dx H2 s2 nd hd=>?_⟩⟩
  all_goals
    refine ⟨⟨N,bN,rfl,R.cN.xcls,R.nW⟩,fun e he=>?_⟩
    have hxe:upd H2 e (xO false (.ref N) (some dx) e) e=some (xO false (.ref N) (some dx) e):=zB
    have nde:dx≠e:=zC hd he
    have hdx:upd H2 e (xO false (.ref N) (some dx) e) dx=some (xw "plus"):=by rw [zH nde]; exact hd
    refine ⟨_,rfl,?_⟩
    refine ⟨_,rfl,(by show 2≤sizeLine; decide),fun p hp=>?_⟩
    have kn:XKn K (upd (upd H2 e (xO false (.ref N) (some dx) e)) p (.tup [.ref S,.ref T])) e N bN:=⟨R.cN,false,some dx,Same.new hp _ _ hxe,fun d z=>by cases z; exact ⟨_,Same.new hp _ _ hdx⟩⟩
    refine ⟨e,N,bN,_,rfl,kn,.inr (.inr ⟨p,S,T,bS,bT,rfl,zB,R.cS,R.cT,?_⟩)⟩
    rw [R.nS,R.nT]
    refine ⟨_,rfl,iteF ?_⟩
    refine ⟨_,rfl,e,N,bN,_,rfl,kn,.inl ⟨rfl,_,rfl,iteF ?_⟩⟩
    have cNN:(Value.ref N :: bN).contains (.ref N)=true:=by simp
    refine ⟨_,rfl,e,N,bN,_,rfl,kn,.inr (.inl ⟨N,bN,rfl,R.cN,?_⟩)⟩
    rw [cNN]
    refine ⟨_,rfl,iteT ?_⟩
    refine ⟨_,rfl,e,N,bN,false,dx,_,.str "plus",rfl,R.cN,Same.new hp _ _ hxe,Same.new hp _ _ hdx,R.wN,rfl,rfl,?_⟩
    have:=q _ (s2.trans ((Same.new he).trans (Same.new (o:=.tup [.ref S,.ref T]) hp)))
    rw [decide_eq_true rfl]
    exact this
noncomputable def spLat (K:PySem.W.Frag):Sp:=fun vs H Q _=>∃ (a:Addr) (door r0:Int) (rest:List Int) (wish i:Int) (l:List (List Str)),vs=[.int door,.ref a,.int wish,.int i]∧(∀ H':Hp,Same H H'→SqT K H' a ((r0 :: rest).map V.int))∧DoorL door r0 rest wish l∧(0≤i∧i < (l.length:Int)) ∧
 ∀ (v:V) (H':Hp),Same H H'→Put H' v (l.getD i.toNat [])→Q v H'
noncomputable abbrev qX:Stmt:=top 32
theorem aH3:FnScope ["door","row","wish","place"] ["door","row","wish","place"] (zF qX):=⟨rfl,rfl,rfl,by decide +kernel,rfl,by decide +kernel,by decide +kernel⟩
theorem aJl {f:Addr} {fd:FuncData} (F:Fun K "_law_at" "_law_at" qX f fd) (Gat:Def P w K mg base CX0 6 "signs_at" (spAt K)) (Gsat:Def P w K mg base CX0 6 "sides_at" (Sd.spAt K)):FnOk P w K mg base CX0 7 f fd ["door","row","wish","place"] (spLat K):=by
 refine F.ok (k:=6) aH3 (fun vs H Q E h=>?_) (fun cdv A outer s H vs Q E hr h=>?_)
 ·obtain ⟨a,door,r0,rest,wish,i,l,rfl,_⟩:=h
  rfl
 obtain ⟨a,door,r0,rest,wish,i,l,rfl,ha,hd,hi,q⟩:=h
 refine ⟨_,(zG (ps_if (zm op_eq (pv 0) zD (zf _)) (zI (zT (zR Gat (hr.mono (by lia)) (zA (pv 1) (zA (pv 2) (zA (pv 3) zE)))))) yJ)
   (zI (zT (zR Gsat (hr.mono (by lia)) (zA (pv 1) (zA (pv 2) (zA (pv 3) zE))))))),?_⟩
 rcases hd with ⟨rfl,ok,rfl⟩ | ⟨rfl,ok,rfl⟩
 ·exact ⟨_,rfl,rfl,_,rfl,ite_t (by decide +kernel) ⟨_,rfl,_,rfl,_,rfl,a,r0,rest,wish,i,rfl,ha,ok,hi,q⟩⟩
 ·exact ⟨_,rfl,rfl,_,rfl,ite_f (by decide +kernel) ⟨_,rfl,_,rfl,_,rfl,a,r0,rest,wish,i,rfl,ha,ok,hi,q⟩⟩
noncomputable def spWh:Sp:=fun vs H Q _=>∃ (x y:Int),vs=[.int x,.int y]∧Q (.bl (decide (x=y))) H
noncomputable abbrev yU:Stmt:=top 34
theorem aCe:FnScope ["found","due"] ["found","due"] (zF yU):=⟨rfl,rfl,rfl,by decide +kernel,rfl,by decide +kernel,by decide +kernel⟩
theorem ok_wh {f:Addr} {fd:FuncData} (F:Fun K "_law_whole" "_law_whole" yU f fd) (B:Blt mg):FnOk P w K mg base CX0 1 f fd ["found","due"] spWh:=by
 refine F.ok aCe (fun vs H Q E h=>?_) (fun cdv A outer s H vs Q E hr h=>?_)
 ·obtain ⟨x,y,rfl,_⟩:=h
  rfl
 obtain ⟨x,y,rfl,q⟩:=h
 refine ⟨_,(zI (zT (aFV (aFp B.isinstance B.int aAP (pv 0)) (aFV (aIz (aFp B.isinstance B.bool aIG (pv 0))) (aFU (yu op_eq (pv 0) (pv 1) (zf _))))))),?_⟩
 refine ⟨_,rfl,_,_,TyOf.int _,aDx _,_,rfl,iteT ?_⟩
 refine ⟨_,rfl,_,_,TyOf.int _,aCd _,_,rfl,_,rfl,iteT ?_⟩
 refine ⟨_,rfl,_,rfl,rfl,?_⟩
 rw [dec_int]
 exact q
end
end Law
namespace Law
open PySem L2
section
variable {P:Program} {w:World} {K:PySem.W.Frag} {mg:Str→Option Value} {base:Heap}
theorem aB3 {K:PySem.W.Frag} {H H':Hp} {a:Addr} {xs:List V} (s:Same H H') (h:SqL K H a xs):SqL K H' a xs:=by
 rcases h with (h | ⟨o,h⟩) | h
 ·exact .inl (.inl (s _ _ h))
 ·exact .inl (.inr ⟨o,s _ _ h⟩)
 ·exact .inr h
noncomputable def putD (ss:List Str):D:=.tup (ss.map D.str)
theorem jL {K:PySem.W.Frag} {H:Hp}:∀ l:List Str,Reps K H (l.map D.str) (l.map V.str)
 | []=>by unfold Reps; rfl
 | i :: r=>by
  show Reps K H (D.str i :: r.map D.str) (V.str i :: r.map V.str)
  unfold Reps
  exact ⟨_,_,rfl,by unfold Rep; rfl,jL r⟩
theorem aAG:∀ l:List Str,deps (l.map D.str)=0
 | []=>by rw [List.map_nil,deps]
 | i :: r=>by
  rw [List.map_cons,deps,aAG r,D.dep]
  all_goals simp
theorem qO {K:PySem.W.Frag} {H:Hp}:∀ {ys:List V} {l:List (List Str)},Paired (Put H) ys l→Reps K H (l.map putD) ys
 | _,_,.nil=>by unfold Reps; rfl
 | _,_,.cons (b:=ss) h r=>by
  obtain ⟨q,rfl,g⟩:=h
  show Reps K H (putD ss :: _) _
  unfold Reps
  refine ⟨_,_,rfl,?_,qO r⟩
  unfold putD Rep
  exact ⟨q,_,rfl,SqT.of g,jL ss⟩
theorem aAH:∀ l:List (List Str),deps (l.map putD)≤50
 | []=>by rw [List.map_nil,deps]; decide
 | s :: r=>by
  rw [List.map_cons,deps]
  have h1:(putD s).dep=1:=by unfold putD; rw [D.dep,aAG]
  have:=aAH r
  rw [h1]
  lia
theorem aI2 (b:Bool) (x y:Int):∃ v,atI [V.int x,V.int y] (if b=true then 1 else 0)=some (.int v)∧(v=x∨v=y):=by
 cases b
 ·exact ⟨x,rfl,.inl rfl⟩
 ·exact ⟨y,rfl,.inr rfl⟩
theorem aI3 {L:List Int} {c:Int} (h0:0≤c) (h:c≤(L.length:Int)):∃ M:List Int,cutV (L.map V.int) none (some c)=M.map V.int∧∀ x∈M,x∈L:=by
 refine ⟨L.take c.toNat,?_,fun x hx=>List.mem_of_mem_take hx⟩
 have:=aGy (L.map V.int) (a:=c.toNat) (by rw [List.length_map]; lia)
 rw [show ((c.toNat:Nat):Int)=c by lia] at this
 rw [this,List.map_take]
noncomputable def spPr (K:PySem.W.Frag):Sp:=fun vs H Q _=>∃ (a pr pd:Addr) (ns:List Int) (k door r0:Int) (rest:List Int) (wish:Int) (l:List (List Str)) (ys:List V),vs=[.ref a,.int k,.int door,.ref pr,.int wish,.ref pd]∧SqL K H a (ns.map V.int)∧ns.length≤63∧0≤k∧k≤500∧H pr=some (.tup ((r0 :: rest).map V.int))∧DoorL door r0 rest wish l∧H pd=some (.lst ys)∧Paired (Put H) ys l∧l.length≤1000000 ∧
 ∀ H':Hp,Same H H'→Q (.bl true) H'
noncomputable abbrev zZ:Stmt:=top 33
theorem sc_law_places_right:FnScope ["script","k","door","row","wish","due","many","place","none"] ["script","k","door","row","wish","due"] (zF zZ):=⟨rfl,rfl,rfl,by decide +kernel,rfl,by decide +kernel,by decide +kernel⟩
theorem ok_pr {f:Addr} {fd:FuncData} (F:Fun K "_law_places_right" "_law_places_right" zZ f fd) (B:Blt mg) (Bmax:mg "max"=none) (Bsorted:mg "sorted"=none) (Bset:mg "set"=none) (Gnum:Def P w K mg base CX0 1 "_law_number" (spNum K)) (Glat:Def P w K mg base CX0 7 "_law_at" (spLat K)) (Gref:Def P w K mg base CX0 10 "_law_refused" (spRef K)):FnOk P w K mg base CX0 15 f fd ["script","k","door","row","wish","due"] (spPr K):=by
 refine F.ok (k:=14) sc_law_places_right (fun vs H Q E h=>?_) (fun cdv A outer s H vs Q E hr h=>?_)
 ·obtain ⟨a,pr,pd,ns,k,door,r0,rest,wish,l,ys,rfl,_⟩:=h
  rfl
 obtain ⟨a,pr,pd,ns,k,door,r0,rest,wish,l,ys,rfl,hS,hl,k0,k1,gr,hd,gd,py,lm,q⟩:=h
 refine ⟨_,(zG (zP (i:=6) sc_law_places_right.nd rfl (by first | exact Or.inl rfl | exact Or.inr rfl) (zS za rfl B.len qZ (zA (pv 5) zE)))
   (zG (yW PassesOwn.never rfl (yt (aAA rfl (yR (zA zD (zA (pe_op yk (pv 6) zD) (zA (pe_op yI (zR Gnum (hr.mono (by lia)) (zA (pv 0) (zA (pv 1) zE))) (zS (aCE rfl) rfl Bmax aGC (zA zD (zA (pv 6) zE)))) zE)))) Bsorted Bset)) (zM (i:=7) sc_law_places_right.nd rfl (by first | exact Or.inl rfl | exact Or.inr rfl)) (zI (ps_if (PW.pt (ja (aHA op_le op_lt zD (pv 7) (pv 6)) (qb (zm (aFu (hu60 hr)) (zR Glat (hr.mono (by lia)) (zA (pv 2) (zA (pv 3) (zA (pv 4) (zA (pv 7) zE))))) (pe_ix zn (pv 5) (pv 7) (fun _ _=>rfl)) (zf _))))) (zI (zT pe_bl)) yJ)))
   (zG (zP (i:=8) sc_law_places_right.nd rfl (by first | exact Or.inl rfl | exact Or.inr rfl) (yR (zA (pv 6) (zA (pe_un qo zD) (zA (pe_op js zD zD) (zA (pe_op yk (pe_op yk zD (pv 6)) zD) (zA (pe_op yk zD (pe_op js zD zD)) zE)))))))
   (zG (yW PassesOwn.never rfl (yt (yO aDv (pv 8) yi (yN (pe_ix zn (yR (zA zD (zA zD zE))) (zi qp rfl B.int aAP (zA (yu op_gt (zS za rfl B.len qZ (zA (pv 3) zE)) zD (zf _)) zE)) (fun _ _=>rfl))))) (zM (i:=7) sc_law_places_right.nd rfl (by first | exact Or.inl rfl | exact Or.inr rfl)) (zI (ps_if (qk (qY (zR Gref (hr.mono (by lia)) (zA (pv 2) (zA (pv 3) (zA (pv 4) (zA (pv 7) zE))))))) (zI (zT pe_bl)) yJ)))
   (zI (zT pe_bl)))))),?_⟩
 have yl:=py.length
 refine ⟨_,rfl,pd,_,rfl,.inl (SqL.of gd),?_⟩
 rw [yl]
 obtain ⟨m,hm⟩:∃ m:Nat,m=l.length:=⟨_,rfl⟩
 rw [← hm]
 refine ⟨_,rfl,_,_,rfl,rfl,_,rfl,_,rfl,a,ns,k,rfl,hS,hl,k0,by lia,fun r1 H1 r10 r11 s1=>?_⟩
 obtain ⟨mx,hmx,hmx1⟩:∃ mx:Int,(if (m:Int) > 1 then (m:Int) else 1)=mx∧1≤mx:=⟨_,rfl,by split <;> lia⟩
 refine ⟨_,rfl,1,_,rfl,?_⟩
 rw [hmx]
 refine ⟨_,_,rfl,rfl,(by show (0:Int) < mx; lia),(by show 3≤sizeLine; decide),fun pL hpL=>?_⟩
 have sL:=Same.new (o:=.lst ([0,(m:Int) - 1,r1 % mx].map V.int)) hpL
 refine ⟨pL,[0,(m:Int) - 1,r1 % mx],rfl,zB,(by show 3≤4000; decide),fun pk ks H2 s2 gk hks mks=>?_⟩
 have sH2:=s1.trans (sL.trans s2)
 clear sL s2 s1 hpL hks mks hmx hmx1
 refine ⟨pk,rfl,⟨_,SqL.of gk⟩,qm (K:=K) (a:=pk) (xs:=ks.map V.int) (fun i σ H'=>∃ z:Option V,σ=[some (.ref a),some (.int k),some (.int door),some (.ref pr),some (.int wish),some (.ref pd),some (.int m),z,none]∧Same H2 H')
  ⟨none,rfl,fun _ _ e=>e⟩ (fun i σ H' _ ⟨_,_,g⟩=>SqL.of (g _ _ gk)) ?_ ?_⟩
 ·rintro i x σ H3 hi ⟨z,rfl,s3⟩
  rw [List.getElem?_map] at hi
  obtain ⟨p,hp,rfl⟩:∃ p,ks[i]?=some p∧V.int p=x:=by
   cases e:ks[i]? with
   | none=>rw [e] at hi; cases hi
   | some n=>rw [e] at hi; exact ⟨n,rfl,by simpa using hi⟩
  have sH3:=sH2.trans s3
  refine ⟨_,rfl,_,_,rfl,rfl,_,rfl,?_⟩
  refine ite2 (fun c=>?_) (fun c=>?_)
  ·have c':0≤p:=of_decide_eq_true c
   refine ⟨_,rfl,_,_,rfl,rfl,_,rfl,?_⟩
   refine ite2 (fun c2=>?_) (fun c2=>iteF ⟨_,rfl,s3⟩)
   have c2':p < (m:Int):=of_decide_eq_true c2
   have cl:p.toNat < l.length:=by lia
   refine ⟨_,rfl,_,rfl,_,rfl,_,rfl,pr,door,r0,rest,wish,p,l,rfl,fun H' s'=>SqT.of (s' _ _ (sH3 _ _ gr)),hd,⟨c',by lia⟩,fun v H4 s4 hput=>?_⟩
   have sH4:=sH3.trans s4
   obtain ⟨y,hy,hyp⟩:=aAh py (aCb (d:=[]) cl)
   obtain ⟨q2,rfl,g2⟩:=hyp.kt (KT.same sH4)
   obtain ⟨q1,rfl,g1⟩:=hput
   refine ⟨_,rfl,_,rfl,pd,_,p,.ref q2,rfl,rfl,SqL.of (sH4 _ _ gd),?_,?_⟩
   ·have:=jO hy
    rwa [show ((p.toNat:Nat):Int)=p by lia] at this
   refine ⟨_,_,.inr ⟨⟨q1,_,rfl,SqT.of g1,jL _⟩,⟨q2,_,rfl,SqT.of g2,jL _⟩⟩,by rw [aAG]; decide,_,rfl,?_⟩
   rw [if_pos rfl,eqDs_refl]
   exact iteF ⟨_,rfl,s3.trans s4⟩
  ·exact ⟨_,rfl,iteF ⟨_,rfl,s3⟩⟩
 ·rintro σ H3 ⟨z,rfl,s3⟩
  have sH3:=sH2.trans s3
  refine ⟨_,rfl,_,rfl,_,_,rfl,rfl,⟨by decide,by decide,by decide⟩,_,rfl,_,_,rfl,rfl,_,_,rfl,rfl,_,_,rfl,rfl,⟨by decide,by decide,by decide⟩,_,_,rfl,rfl,(by show 5≤sizeLine; decide),fun pn hpn=>?_⟩
  obtain ⟨L,hL,hout,hLe⟩:∃ L:List Int,L.length=5∧(∀ x∈L,¬ (0≤x∧x < (l.length:Int)))∧L=[(m:Int),-1,10 ^ (19:Int).toNat,0 - (m:Int) - 1,0 - 10 ^ (19:Int).toNat]:=by
   refine ⟨_,rfl,fun x hx=>?_,rfl⟩
   have e19:(10:Int) ^ (19:Int).toNat=10000000000000000000:=by decide +kernel
   rw [e19] at hx
   simp only [List.mem_cons,List.not_mem_nil,or_false] at hx
   rcases hx with h | h | h | h | h <;> lia
  have s4:=sH3.trans (Same.new (o:=.lst (L.map V.int)) hpn)
  have g4:∀ H0:Hp,(upd H0 pn (.lst (L.map V.int))) pn=some (.lst (L.map V.int)):=fun _=>zB
  obtain ⟨c,hc,hc5⟩:=aI2 (decide (((((r0 :: rest).map V.int).length:Nat):Int) > 7)) 5 2
  obtain ⟨M,hM,hMs⟩:=aI3 (L:=L) (c:=c) (by lia) (by lia)
  rw [hLe] at s4 g4 hM
  refine ⟨_,rfl,(by show 2≤sizeLine; decide),fun p5 hp5=>?_⟩
  refine ⟨_,rfl,pr,_,rfl,.inr (SqT.of (Same.new hp5 _ _ (s4 _ _ gr))),_,_,rfl,rfl,.inr ⟨_,rfl,p5,_,_,_,rfl,rfl,SqL.of zB,hc,_,rfl,pn,_,rfl,SqL.of (Same.new hp5 _ _ (g4 _)),fun pq hpq=>?_⟩⟩
  have s5:=s4.trans ((Same.new (o:=.lst [V.int 5,V.int 2]) hp5).trans (Same.new (o:=.lst (M.map V.int)) hpq))
  have g5:∀ H0:Hp,(upd H0 pq (.lst (M.map V.int))) pq=some (.lst (M.map V.int)):=fun _=>zB
  rw [← hM] at s5
  have g6:∀ H0:Hp,(upd H0 pq (.lst (cutV (List.map V.int [(m:Int),-1,10 ^ (19:Int).toNat,0 - (m:Int) - 1,0 - 10 ^ (19:Int).toNat]) none (some c)))) pq=some (.lst (M.map V.int)):=fun _=>by rw [zB,hM]
  refine ⟨pq,rfl,⟨_,SqL.of (g6 _)⟩,qm (K:=K) (a:=pq) (xs:=M.map V.int) (fun i σ H'=>∃ z:Option V,σ=[some (.ref a),some (.int k),some (.int door),some (.ref pr),some (.int wish),some (.ref pd),some (.int m),z,some (.ref pn)]∧Same H H'∧H' pq=some (.lst (M.map V.int)))
   ⟨_,rfl,s5,g6 _⟩ (fun i σ H' _ ⟨_,_,_,g⟩=>SqL.of g) ?_ ?_⟩
  ·rintro i x σ H6 hi ⟨z,rfl,s6,g7⟩
   rw [List.getElem?_map] at hi
   obtain ⟨p,hp,rfl⟩:∃ p,M[i]?=some p∧V.int p=x:=by
    cases e:M[i]? with
    | none=>rw [e] at hi; cases hi
    | some n=>rw [e] at hi; exact ⟨n,rfl,by simpa using hi⟩
   refine ⟨_,rfl,_,rfl,_,rfl,_,rfl,pr,door,r0,rest,wish,p,l,rfl,fun H' s'=>SqT.of (s' _ _ (s6 _ _ gr)),hd,hout p (hMs p (List.mem_of_getElem? hp)),fun H7 s7=>?_⟩
   exact ⟨_,rfl,iteF ⟨_,rfl,s6.trans s7,s7 _ _ g7⟩⟩
  ·rintro σ H6 ⟨z,rfl,s6,g7⟩
   exact q _ s6
end
end Law
namespace Law
open PySem L2
section
variable {P:Program} {w:World} {K:PySem.W.Frag} {mg:Str→Option Value} {base:Heap}
theorem aH4:∀ {ps:Ps} {i:Nat} {c v:Int},(keysP ps).Nodup→ps[i]?=some (c,v)→valV (ps.map kvI) (Sum.inl c)=some (.int v)
 | [],_,_,_,_,h=>by cases h
 | (k,x) :: r,0,c,v,nd,h=>by
  cases h
  rw [List.map_cons,jA (by show (Sum.inl k:Key)=Sum.inl k; rfl)]; rfl
 | (k,x) :: r,i + 1,c,v,nd,h=>by
  obtain ⟨h1,h2⟩:=List.nodup_cons.mp nd
  have hr:r[i]?=some (c,v):=h
  have hm:c∈keysP r:=List.mem_map.mpr ⟨(c,v),List.mem_of_getElem? hr,rfl⟩
  rw [List.map_cons,jB (by show ¬ (Sum.inl k:Key)=Sum.inl c; intro z; cases z; exact h1 hm)]
  exact aH4 h2 hr
noncomputable def stepB (v:Int) (acc:Ps) (k:Int):Ps:=putI acc k (look acc k + v)
theorem aIq (n c v:Int) (acc:Ps):stepB v (stepB v acc (c + n)) (c - n)=stepE n acc (c,v):=by
 unfold stepE stepA stepB
 dsimp only
 rw [show c + 1 * n=c + n by lia,show c + -1 * n=c - n by lia]
theorem aH5 {H:Hp} {a d:Addr} {xs:List V} {l:List (Key×V)} {o:HO} (h:SqT K H a xs) (hd:H d=some (.dK l)):SqT K (upd H d o) a xs:=by
 rcases h with (h | ⟨o,h⟩) | h
 ·exact .inl (.inl (by rw [zH (fun z=>by rw [z,hd] at h; cases h)]; exact h))
 ·exact .inl (.inr ⟨o,by rw [zH (fun z=>by rw [z,hd] at h; cases h)]; exact h⟩)
 ·exact .inr h
theorem aEs {H H':Hp} {a:Addr} {xs:List V} (s:Same H H') (h:SqT K H a xs):SqT K H' a xs:=by
 rcases h with (h | ⟨o,h⟩) | h
 ·exact .inl (.inl (s _ _ h))
 ·exact .inl (.inr ⟨o,s _ _ h⟩)
 ·exact .inr h
theorem qP {K:PySem.W.Frag} {H:Hp}:∀ l:List Int,Reps K H (l.map D.int) (l.map V.int)
 | []=>by unfold Reps; rfl
 | i :: r=>by
  show Reps K H (D.int i :: r.map D.int) (V.int i :: r.map V.int)
  unfold Reps
  exact ⟨_,_,rfl,by unfold Rep; rfl,qP r⟩
theorem aAI:∀ l:List Int,deps (l.map D.int)=0
 | []=>by rw [List.map_nil,deps]
 | i :: r=>by
  rw [List.map_cons,deps,aAI r,D.dep]
  all_goals simp
theorem aIr {r0:Int} {rest ms:List Int} (mms:∀ m,m∈ms↔∃ ss∈chs sg2 rest.length,r0 + sgS rest ss=m) (m:Int):m∈ms↔m - r0∈keysP (dic rest):=by
 rw [mms,jW]
 constructor
 ·rintro ⟨ss,h1,h2⟩; exact ⟨ss,h1,by lia⟩
 ·rintro ⟨ss,h1,h2⟩; exact ⟨ss,h1,by lia⟩
noncomputable def spLr (K:PySem.W.Frag):Sp:=fun vs H Q _=>∃ (a:Addr) (ns:List Int) (k:Int),vs=[.ref a,.int k]∧SqL K H a (ns.map V.int)∧ns.length≤63∧0≤k∧k≤400∧∀ H':Hp,Same H H'→Q (.bl true) H'
noncomputable abbrev zh:Stmt:=top 36
theorem sc_law_long_right:FnScope ["script","k","head","many","row","pair","counts","number","later","total","there","wish"] ["script","k"] (zF zh):=⟨rfl,rfl,rfl,by decide +kernel,rfl,by decide +kernel,by decide +kernel⟩
theorem ok_lr {f:Addr} {fd:FuncData} (F:Fun K "_law_long_right" "_law_long_right" zh f fd) (B:Blt mg) (Bsorted:mg "sorted"=none) (Gnum:Def P w K mg base CX0 1 "_law_number" (spNum K)) (Grow:Def P w K mg base CX0 2 "_law_row" (spRow K)) (Gwi:Def P w K mg base CX0 2 "_law_wishes" (spWi K)) (Gwh:Def P w K mg base CX0 1 "_law_whole" spWh) (Gref:Def P w K mg base CX0 10 "_law_refused" (spRef K)) (Gsmany:Def P w K mg base CX0 3 "sides_many" (Sd.spMany K)) (Gsmet:Def P w K mg base CX0 3 "sides_met" (Sd.spMet K)):FnOk P w K mg base CX0 15 f fd ["script","k"] (spLr K):=by
 refine F.ok (k:=14) sc_law_long_right (fun vs H Q E h=>?_) (fun cdv A outer s H vs Q E hr h=>?_)
 ·obtain ⟨a,ns,k,rfl,_⟩:=h
  rfl
 obtain ⟨a,ns,k,rfl,hS,hl,k0,k1,q⟩:=h
 refine ⟨_,(zG (zP (i:=2) sc_law_long_right.nd rfl (by first | exact Or.inl rfl | exact Or.inr rfl) (zR Gnum (hr.mono (by lia)) (zA (pv 0) (zA (pv 1) zE))))
   (zG (zP (i:=3) sc_law_long_right.nd rfl (by first | exact Or.inl rfl | exact Or.inr rfl) (pe_ix zn (yR (zA (pe_op zW zD (pe_op yI (pv 2) zD)) (zA zD zE))) (pe_op yI (pe_op jN (pv 2) zD) zD) (fun _ _=>rfl)))
   (zG (zP (i:=4) sc_law_long_right.nd rfl (by first | exact Or.inl rfl | exact Or.inr rfl) (zR Grow (hr.mono (by lia)) (zA (pv 0) (zA (pe_op zW (pv 1) zD) (zA (pv 3) (zA (yR (zA zD (zA zD (zA zD zE)))) zE))))))
   (zG (ps_if (zm op_eq (pe_op yI (pe_op jN (pv 2) zD) zD) zD (zf _)) (zG (zP (i:=5) sc_law_long_right.nd rfl (by first | exact Or.inl rfl | exact Or.inr rfl) (yo (zA (pe_op zW zD (pe_op yI (pe_op jN (pv 2) zD) zD)) (zA (pe_op zW zD (pe_op yI (zR Gnum (hr.mono (by lia)) (zA (pv 0) (zA (pe_op zW (pv 1) zD) zE))) zD)) zE))))
   (zI (zP (i:=4) sc_law_long_right.nd rfl (by first | exact Or.inl rfl | exact Or.inr rfl) (zi zx rfl B.tuple qR (zA (jx (N:=["number","pair"]) rfl (cs_of [none,some 5] rfl (by decide +kernel) (by decide +kernel) rfl rfl) rfl (jd (pv 4)) (fun _ _ _ _=>(zM (i:=0) (show (["number","pair"]:List Str).Nodup by decide +kernel) rfl (by first | exact Or.inl rfl | exact Or.inr rfl))) (fun _ _ _ _=>jw) (fun _ _ _ _=>(pe_ix aFj (pv 1) (pe_op yI (pv 0) zD) (fun _ _=>rfl)))) zE))))) yJ)
   (zG (zP (i:=6) sc_law_long_right.nd rfl (by first | exact Or.inl rfl | exact Or.inr rfl) (aGL (aEc (pe_ix aFj (pv 4) zD (fun _ _=>rfl)) zD aGK) rfl rfl (by simp) (by decide)))
   (zG (yW PassesOwn.never rfl (jd (yO qJ (pv 4) (yN zD) yi)) (zM (i:=7) sc_law_long_right.nd rfl (by first | exact Or.inl rfl | exact Or.inr rfl)) (zG (zP (i:=8) sc_law_long_right.nd rfl (by first | exact Or.inl rfl | exact Or.inr rfl) aEb)
   (zG (yW PassesOwn.never rfl (aHf (pv 6)) (zM (i:=9) sc_law_long_right.nd rfl (by first | exact Or.inl rfl | exact Or.inr rfl)) (zI (yW PassesOwn.never rfl (jd (yo (zA (pe_op zW (pv 9) (pv 7)) (zA (pe_op yk (pv 9) (pv 7)) zE)))) (zM (i:=10) sc_law_long_right.nd rfl (by first | exact Or.inl rfl | exact Or.inr rfl)) (zI (aGI (hu_of hr) (pv 8) (pv 10) (pe_op zW (yz (hu_of hr) (pv 8) (pv 10) zD ⟨rfl,rfl,rfl,rfl⟩) (aIY (hu_of hr) (pv 6) (pv 9) (fun _ _=>rfl))) rfl)))))
   (zI (zP (i:=6) sc_law_long_right.nd rfl (by first | exact Or.inl rfl | exact Or.inr rfl) (pv 8))))))
   (zG (yW PassesOwn.never rfl (yt (zR Gwi (hr.mono (by lia)) (zA (pv 0) (zA (pe_op zW (pv 1) zD) (zA (zS (qi rfl) rfl Bsorted qy (zA (pv 6) zE)) zE))))) (zM (i:=11) sc_law_long_right.nd rfl (by first | exact Or.inl rfl | exact Or.inr rfl)) (zG (ps_if (qk (qY (zR Gwh (hr.mono (by lia)) (zA (zR Gsmany (hr.mono (by lia)) (zA (pv 4) (zA (pv 11) zE))) (zA (yz (hu_of hr) (pv 6) (pv 11) zD ⟨rfl,rfl,rfl,rfl⟩) zE))))) (zI (zT pe_bl)) yJ)
   (zI (ps_if (PW.pt (pw_or (qk (qY (zR Gref (hr.mono (by lia)) (zA zD (zA (pv 4) (zA (pv 11) (zA (yz (hu_of hr) (pv 6) (pv 11) zD ⟨rfl,rfl,rfl,rfl⟩) zE))))))) (aFT (qk (qY (zR Gref (hr.mono (by lia)) (zA zD (zA (pv 4) (zA (pv 11) (zA (pe_un qo zD) zE)))))))))) (zI (zT pe_bl)) yJ))))
   (zI (zT (yu (aHr (hu60 hr)) (zR Gsmet (hr.mono (by lia)) (zA (pv 4) zE)) (zi zx rfl B.tuple qR (zA (zS (qi rfl) rfl Bsorted qy (zA (pv 6) zE)) zE)) (zf _))))))))))),?_⟩
 have szl:=sizeLine_eq
 have keepS:∀ H',Same H H'→SqL K H' a (ns.map V.int):=fun H' s'=>aB3 s' hS
 refine ⟨_,rfl,_,rfl,a,ns,k,rfl,hS,hl,k0,by lia,fun hd H1 h0 h1 s1=>?_⟩
 refine ⟨_,rfl,_,_,rfl,rfl,(by show (0:Int) < 19; decide),_,_,rfl,rfl,(by show 2≤sizeLine; decide),fun p1 hp1=>?_⟩
 obtain ⟨v,hv,hvm⟩:=qd (xs:=[22 + hd % 19,40].map V.int) (r:=hd / 19 % 2) (Int.emod_nonneg _ (by decide)) (Int.emod_lt_of_pos _ (by decide))
 obtain ⟨mi,hmi,rfl⟩:=List.mem_map.mp hvm
 have e19:0≤hd % 19:=Int.emod_nonneg _ (by decide)
 have f19:hd % 19 < 19:=Int.emod_lt_of_pos _ (by decide)
 obtain ⟨m,rfl,hm⟩:∃ m:Nat,mi=(m:Int)∧(22≤m∧m≤40):=by
  simp only [List.mem_cons,List.not_mem_nil,or_false] at hmi
  exact ⟨mi.toNat,by lia,by lia⟩
 have s2:=s1.trans (Same.new (o:=.lst ([22 + hd % 19,40].map V.int)) hp1)
 refine ⟨_,rfl,_,_,rfl,rfl,⟨by decide,by decide⟩,_,_,rfl,rfl,(by show (0:Int) < 2; decide),p1,_,_,_,rfl,rfl,SqL.of zB,hv,?_⟩
 refine ⟨_,rfl,_,rfl,_,_,rfl,rfl,_,rfl,(by show 3≤sizeLine; decide),fun p2 hp2=>?_⟩
 have s3:=s2.trans (Same.new (o:=.lst ([1,2,9].map V.int)) hp2)
 refine ⟨a,p2,ns,k + 1,m,[1,2,9],9,rfl,keepS _ s3,hl,by lia,by lia,hm.2,fun H' s'=>SqL.of (s' _ _ zB),by decide,fun x hx=>by simp only [List.mem_cons,List.not_mem_nil,or_false] at hx; lia,fun pr row H3 s4 gr rl hrow=>?_⟩
 have sH3:=s3.trans s4
 clear s3 s4 s2 hv hvm hmi e19 f19 hp1 hp2 s1
 dsimp only [gName]
 refine qE (fun σ' H'=>∃ (z:Option V) (pr:Addr) (row:List Int),σ'=[some (.ref a),some (.int k),some (.int hd),some (.int m),some (.ref pr),z,none,none,none,none,none,none]∧Same H H'∧H' pr=some (.tup (row.map V.int))∧row.length=m∧∀ n∈row,1≤n∧n≤99) ?_ ?_
 case refine_2 =>
  intro X' hX
  refine ⟨_,rfl,_,_,rfl,rfl,⟨by decide,by decide⟩,_,_,rfl,rfl,(by show (0:Int) < 3; decide),rfl,_,rfl,?_⟩
  refine ite2 (fun _=>?_) (fun _=>hX _ _ ⟨none,pr,row,rfl,sH3,gr,rl,fun n hn=>by have:=hrow n hn; lia⟩)
  refine ⟨_,rfl,_,_,rfl,rfl,⟨by decide,by decide⟩,_,_,rfl,rfl,(by show (0:Int) < 99; decide),_,_,rfl,rfl,_,rfl,_,rfl,_,_,rfl,rfl,a,ns,_,rfl,keepS _ sH3,hl,by lia,by lia,fun r4 H4 r40 _ s4=>⟨_,_,rfl,rfl,(by show (0:Int) < 99; decide),_,_,rfl,rfl,(by show 2≤sizeLine; decide),fun pp hpp=>?_⟩⟩
  obtain ⟨x1,hx1,b1⟩:∃ x1,x1=1 + hd / 114 % 99∧(1≤x1∧x1≤99):=⟨_,rfl,by have h1:0≤hd / 114 % 99:=Int.emod_nonneg _ (by decide); have h2:hd / 114 % 99 < 99:=Int.emod_lt_of_pos _ (by decide); lia⟩
  obtain ⟨x2,hx2,b2⟩:∃ x2,x2=1 + r4 % 99∧(1≤x2∧x2≤99):=⟨_,rfl,by have h1:0≤r4 % 99:=Int.emod_nonneg _ (by decide); have h2:r4 % 99 < 99:=Int.emod_lt_of_pos _ (by decide); lia⟩
  have s5:=(sH3.trans s4).trans (Same.new (o:=.tup ([x1,x2].map V.int)) hpp)
  have gp:∀ H0:Hp,(upd H0 pp (.tup ([x1,x2].map V.int))) pp=some (.tup ([x1,x2].map V.int)):=fun _=>zB
  have gr5:=Same.new (o:=.tup ([x1,x2].map V.int)) hpp _ _ (s4 _ _ gr)
  have gp5:=gp H4
  rw [hx1,hx2] at s5 gr5 gp5
  refine ⟨_,rfl,pr,rfl,⟨_,SqT.of gr5⟩,fun D hD C sx fp=>?_⟩
  refine aEU (K:=K) (a:=pr) (xs:=row.map V.int) (tt:=fun _ H Q=>Q true H) (fun i zs σ H6=>∃ (o:Option V) (rw2:List Int),σ=[o,some (.ref pp)]∧Same H H6∧H6 pr=some (.tup (row.map V.int))∧H6 pp=some (.tup ([1 + hd / 114 % 99,1 + r4 % 99].map V.int))∧H D=none∧zs=rw2.map V.int∧rw2.length=i∧∀ n∈rw2,1≤n∧n≤99) (fun i zs σ H6 ⟨_,_,_,_,g,_⟩=>SqT.of g) ⟨none,[],rfl,s5.trans (Same.new hD),Same.new hD _ _ gr5,Same.new hD _ _ gp5,zu s5 hD,rfl,rfl,fun n h=>by cases h⟩ ?_ ?_
  ·rintro i y zs σ H6 hi hzl ⟨o,rw2,rfl,s6,g6,gp6,nD,rfl,rl2,hrw⟩ gD
   rw [List.getElem?_map] at hi
   obtain ⟨n,hn,rfl⟩:∃ n,row[i]?=some n∧V.int n=y:=by
    cases e:row[i]? with
    | none=>rw [e] at hi; cases hi
    | some n=>rw [e] at hi; exact ⟨n,rfl,by simpa using hi⟩
   have hil:=(List.getElem?_eq_some_iff.mp hn).1
   obtain ⟨v,hv,hvm⟩:=qd (xs:=[1 + hd / 114 % 99,1 + r4 % 99].map V.int) (r:=n % 2) (Int.emod_nonneg _ (by decide)) (Int.emod_lt_of_pos _ (by decide))
   obtain ⟨x,hx,rfl⟩:=List.mem_map.mp hvm
   refine ⟨_,rfl,_,rfl,_,_,rfl,rfl,(by show (0:Int) < 2; decide),pp,_,_,_,rfl,rfl,SqT.of gp6,hv,?_⟩
   refine ⟨_,gD,by rw [szl]; lia,_,by rw [List.length_append]; show _ + 1≤i + 1; lia,⟨_,rw2++[x],rfl,yD s6 nD,?_,?_,nD,by rw [List.map_append]; rfl,by rw [List.length_append]; show _ + 1=i + 1; lia,fun n hn=>?_⟩,zB⟩
   ·rw [zH (fun z=>by rw [z,gD] at g6; cases g6)]; exact g6
   ·rw [zH (fun z=>by rw [z,gD] at gp6; cases gp6)]; exact gp6
   rcases List.mem_append.mp hn with hn | hn
   ·exact hrw n hn
   ·rw [List.mem_singleton.mp hn]
    simp only [List.mem_cons,List.not_mem_nil,or_false] at hx
    rcases hx with rfl | rfl
    ·rw [← hx1]; exact b1
    ·rw [← hx2]; exact b2
  ·rintro zs σ H6 ⟨o,rw2,rfl,s6,g6,gp6,nD,rfl,rl2,hrw⟩ gD
   rw [List.length_map] at rl2
   exact ⟨D,_,rfl,.inl ⟨SqL.of gD,fun p7 hp7=>hX _ _ ⟨_,p7,rw2,rfl,s6.trans (Same.new hp7),zB,by lia,hrw⟩⟩⟩
 clear gr rl hrow sH3
 rintro σ' HA ⟨z,pr,row,rfl,sH4,gr,rl,hrow⟩
 obtain ⟨r0,rest,rfl⟩:∃ r0 rest,row=r0 :: rest:=by
  cases row with
  | nil=>rw [List.length_nil] at rl; lia
  | cons x y=>exact ⟨x,y,rfl⟩
 have hR:RowS rest:=⟨by rw [List.length_cons] at rl; lia,fun n hn=>hrow n (List.mem_cons_of_mem _ hn)⟩
 refine fun pd hpd=>⟨_,rfl,pr,_,0,.int r0,rfl,rfl,SqT.of (Same.new hpd _ _ gr),(by exact jO (j:=0) rfl),zB,[(Sum.inl r0,.int 1)],rfl,(by show 1≤15; decide),?_⟩
 have e0:aA2 [] [((Sum.inl r0:Key),V.int 1)]=(fwd r0 []).map kvI:=rfl
 rw [e0]
 have gd:(upd (upd HA pd (.dK [])) pd (.dK ((fwd r0 []).map kvI))) pd=some (.dK ((fwd r0 []).map kvI)):=zB
 have sd:Same HA (upd (upd HA pd (.dK [])) pd (.dK ((fwd r0 []).map kvI))):=fun b u e=>by rw [zH (zC e hpd),zH (zC e hpd)]; exact e
 generalize upd (upd HA pd (.dK [])) pd (.dK ((fwd r0 []).map kvI))=HB at gd sd ⊢
 dsimp only [gName]
 refine qE (fun σ' H'=>∃ (z1 z2 z3 z4:Option V) (d:Addr),σ'=[some (.ref a),some (.int k),some (.int hd),some (.int m),some (.ref pr),z,some (.ref d),z1,z2,z3,z4,none]∧Same HA H'∧H' d=some (.dK ((fwd r0 rest).map kvI))) ?_ ?_
 case refine_2 =>
  intro X' hX
  refine ⟨_,rfl,1,rfl,pr,_,rfl,fun H' s'=>SqT.of (s' _ _ (sd _ _ gr)),fun pz Hz sz hz=>?_⟩
  rw [Sd.cutHi1] at hz
  refine ⟨pz,rfl,⟨_,hz Hz (fun _ _ e=>e)⟩,jq (K:=K) (a:=pz) (xs:=rest.map V.int) (fun i σ H'=>∃ (z1 z2 z3 z4:Option V) (d:Addr),σ=[some (.ref a),some (.int k),some (.int hd),some (.int m),some (.ref pr),z,some (.ref d),z1,z2,z3,z4,none]∧Same HA H'∧HA d=none∧H' d=some (.dK ((fwd r0 (rest.take i)).map kvI))∧SqT K H' pz (rest.map V.int))
   ⟨none,none,none,none,pd,rfl,sd.trans sz,hpd,sz _ _ gd,hz Hz (fun _ _ e=>e)⟩ (fun i σ H' _ ⟨_,_,_,_,_,_,_,_,_,h⟩=>h) ?_ ?_⟩
  ·rintro i x σ H2 hi ⟨z1,z2,z3,z4,d,rfl,s2,nd,g2,hp2⟩
   rw [List.getElem?_map] at hi
   obtain ⟨n,hn,rfl⟩:∃ n,rest[i]?=some n∧V.int n=x:=by
    cases e:rest[i]? with
    | none=>rw [e] at hi; cases hi
    | some n=>rw [e] at hi; exact ⟨n,rfl,by simpa using hi⟩
   obtain ⟨ps,hps⟩:∃ ps,ps=fwd r0 (rest.take i):=⟨_,rfl⟩
   have psl:ps.length≤3862:=by rw [hps]; exact aEF r0 (hR.take i)
   have psn:(keysP ps).Nodup:=by rw [hps]; exact jK r0 _
   rw [← hps] at g2
   have efw:fwd r0 (rest.take (i + 1))=either n ps:=by rw [zU hn,aAw,hps]
   rw [efw]
   refine fun pb hpb=>?_
   have nb:HA pb=none:=zu s2 hpb
   have sb:=Same.new (o:=.dK []) hpb
   have ndb:d≠pb:=zC g2 hpb
   refine ⟨_,rfl,d,ps.map kvI,rfl,.inl ⟨sb _ _ g2,fun ob=>?_⟩⟩
   refine aGx (d:=d) (o:=ob) (kvs:=ps.map kvI) (fun j σ H3=>∃ (z3 z4:Option V),σ=[some (.ref a),some (.int k),some (.int hd),some (.int m),some (.ref pr),z,some (.ref d),some (.int n),some (.ref pb),z3,z4,none]∧Same HA H3∧H3 d=some (.frz ob (.dK (ps.map kvI)))∧H3 pb=some (.dK (((ps.take j).foldl (stepE n) []).map kvI))∧SqT K H3 pz (rest.map V.int))
    ⟨_,_,rfl,yD (s2.trans sb) nd,zB,by rw [zH (Ne.symm ndb),zB]; rfl,aH5 (aEs sb hp2) (sb _ _ g2)⟩ (fun j σ H3 ⟨_,_,_,_,h,_⟩=>h) ?_ ?_
   ·rintro j ky x σ H3 hk ⟨z3,z4,rfl,s3,fz,gb,hp3⟩
    rw [List.getElem?_map] at hk
    obtain ⟨⟨c,v⟩,hc,he⟩:∃ p,ps[j]?=some p∧kvI p=(ky,x):=by
     cases e:ps[j]? with
     | none=>rw [e] at hk; cases hk
     | some p=>rw [e] at hk; exact ⟨p,rfl,by simpa using hk⟩
    unfold kvI at he
    simp only [Prod.mk.injEq] at he
    obtain ⟨rfl,rfl⟩:=he
    have hjl:=(List.getElem?_eq_some_iff.mp hc).1
    have hft:=aAs n (ps.take j) []
    rw [List.length_nil,List.length_take] at hft
    refine ⟨_,rfl,_,rfl,_,_,rfl,rfl,_,rfl,_,rfl,_,_,rfl,rfl,(by show 2≤sizeLine; decide),fun pt hpt=>?_⟩
    have st:=Same.new (o:=.tup [V.int (c + n),V.int (c - n)]) hpt
    refine ⟨pt,rfl,⟨_,SqT.of zB⟩,jq (K:=K) (a:=pt) (xs:=[.int (c + n),.int (c - n)]) (fun t σ H4=>∃ (z4:Option V),σ=[some (.ref a),some (.int k),some (.int hd),some (.int m),some (.ref pr),z,some (.ref d),some (.int n),some (.ref pb),some (.int c),z4,none]∧Same HA H4∧H4 d=some (.frz ob (.dK (ps.map kvI)))∧H4 pt=some (.tup [.int (c + n),.int (c - n)])∧H4 pb=some (.dK ((([c + n,c - n]:List Int).take t).foldl (stepB v) ((ps.take j).foldl (stepE n) []) |>.map kvI))∧SqT K H4 pz (rest.map V.int))
     ⟨_,rfl,s3.trans st,st _ _ fz,zB,st _ _ gb,aEs st hp3⟩ (fun t σ H4 _ ⟨_,_,_,_,h,_⟩=>SqT.of h) ?_ ?_⟩
    ·rintro t y σ H4 hj ⟨z4,rfl,s4,fz4,gt4,gb4,hp4⟩
     obtain ⟨kz,rfl,hlast⟩:∃ kz:Int,y=.int kz∧([c + n,c - n]:List Int)[t]?=some kz:=by
      match t,hj with
      | 0,hj=>simp at hj; exact ⟨_,hj.symm,rfl⟩
      | 1,hj=>simp at hj; exact ⟨_,hj.symm,rfl⟩
      | t + 2,hj=>simp at hj
     have hj2:t≤1:=by have:=(List.getElem?_eq_some_iff.mp hlast).1; simp at this; lia
     obtain ⟨Q0,hQ0⟩:∃ Q0,Q0=(([c + n,c - n]:List Int).take t).foldl (stepB v) ((ps.take j).foldl (stepE n) []):=⟨_,rfl⟩
     rw [← hQ0] at gb4
     have hlen:Q0.length≤2 * ps.length + 1:=by
      rw [hQ0]
      match t,hj2 with
      | 0,_=>show ((ps.take j).foldl (stepE n) []).length≤_; lia
      | 1,_ =>
       have:(stepB v ((ps.take j).foldl (stepE n) []) (c + n)).length≤((ps.take j).foldl (stepE n) []).length + 1:=aAq _ _ _
       show (stepB v ((ps.take j).foldl (stepE n) []) (c + n)).length≤_
       lia
     refine ⟨_,rfl,pb,rfl,.inl ⟨_,.inl gb4⟩,_,rfl,_,DGet.k (k:=Sum.inl kz) gb4,_,rfl,_,rfl,d,.int v,rfl,.inl ⟨_,Sum.inl c,.inr ⟨_,fz4⟩,rfl,(aH4 psn hc).symm⟩,look Q0 kz,v,jh _ _,rfl,?_⟩
     refine ⟨_,rfl,_,rfl,pb,_,rfl,DPut.k (k:=Sum.inl kz) gb4 (by rw [List.length_map,szl]; lia),?_⟩
     have npd:pb≠d:=fun z=>by rw [z,fz4] at gb4; cases gb4
     have npt:pt≠pb:=fun z=>by rw [z,gb4] at gt4; cases gt4
     refine ⟨_,rfl,yD s4 nb,by rw [zH (Ne.symm npd)]; exact fz4,by rw [zH npt]; exact gt4,?_,aH5 hp4 gb4⟩
     rw [zB,aHy,zU hlast,List.foldl_append,← hQ0]
     rfl
    ·rintro σ H4 ⟨z4,rfl,s4,fz4,gt4,gb4,hp4⟩
     refine ⟨_,_,rfl,s4,fz4,?_,hp4⟩
     rw [gb4,zU hc,List.foldl_append]
     show some (HO.dK ((stepB v (stepB v _ (c + n)) (c - n)).map kvI))=_
     rw [aIq]
     rfl
   ·rintro σ H3 ⟨z3,z4,rfl,s3,fz,gb,hp3⟩
    rw [List.length_map,List.take_length] at gb
    exact ⟨_,rfl,_,_,_,_,pb,rfl,s3,nb,gb,hp3⟩
  ·rintro σ H2 ⟨z1,z2,z3,z4,d,rfl,s2,nd,g2,hp2⟩
   rw [List.length_map,List.take_length] at g2
   exact hX _ _ ⟨_,_,_,_,d,rfl,s2,g2⟩
 clear gd sd hpd
 rintro σ' H5 ⟨z1,z2,z3,z4,d,rfl,s5,gd⟩
 have sH5:=sH4.trans s5
 have gr5:=s5 _ _ gr
 have kk:∀ H0:Hp,H0 d=some (.dK ((fwd r0 rest).map kvI))→Rd H0 d (.dK ((fwd r0 rest).map kvI)):=fun _ h=>.inl h
 refine ⟨_,rfl,_,rfl,_,_,rfl,rfl,_,rfl,d,(fwd r0 rest).map kvI,keysP (fwd r0 rest),rfl,.inl gd,by unfold keysP; rw [List.map_map,List.map_map]; rfl,by rw [List.length_map]; have:=aEF r0 hR; lia,fun pk ks H6 s6 gk hk mk=>?_⟩
 have kpos:0 < ks.length:=List.length_pos_of_mem ((mk (r0 + rest.sum)).mpr ((aEE r0 rest _).mpr (by rw [show r0 + rest.sum - r0=rest.sum by lia]; exact aGp rest)))
 refine ⟨a,pk,ns,ks,_,rfl,keepS _ (sH5.trans s6),hl,by lia,by lia,fun H' s'=>SqL.of (s' _ _ gk),kpos,fun pw wl H7 s7 gw wl3=>?_⟩
 have s57:=s6.trans s7
 refine ⟨pw,rfl,⟨_,SqL.of gw⟩,qm (K:=K) (a:=pw) (xs:=wl.map V.int) (fun i σ H'=>∃ zw:Option V,σ=[some (.ref a),some (.int k),some (.int hd),some (.int m),some (.ref pr),z,some (.ref d),z1,z2,z3,z4,zw]∧Same H7 H')
  ⟨none,rfl,fun _ _ e=>e⟩ (fun i σ H' _ ⟨_,_,g⟩=>SqL.of (g _ _ gw)) ?_ ?_⟩
 ·rintro i x σ H8 hi ⟨zw,rfl,s8⟩
  rw [List.getElem?_map] at hi
  obtain ⟨wish,hwish,rfl⟩:∃ wish,wl[i]?=some wish∧V.int wish=x:=by
   cases e:wl[i]? with
   | none=>rw [e] at hi; cases hi
   | some n=>rw [e] at hi; exact ⟨n,rfl,by simpa using hi⟩
  have s58:=s57.trans s8
  have elk:((dueS rest (wish - r0)).length:Int)=look (fwd r0 rest) wish:=by rw [aEp,jV]
  refine ⟨_,rfl,_,rfl,pr,r0,rest,wish,rfl,fun H' s'=>SqT.of (s' _ _ (s58 _ _ gr5)),hR,fun H9 s9=>?_⟩
  have g9:=(s58.trans s9) _ _ gd
  refine ⟨_,rfl,d,rfl,.inl ⟨_,.inl g9⟩,_,rfl,_,DGet.k (k:=Sum.inl wish) g9,?_⟩
  refine ⟨((dueS rest (wish - r0)).length:Int),look (fwd r0 rest) wish,by rw [jh]; rfl,_,rfl,ite_f (by rw [decide_eq_true elk]; rfl) ?_⟩
  refine ⟨_,rfl,_,rfl,_,rfl,d,rfl,.inl ⟨_,.inl g9⟩,_,rfl,_,DGet.k (k:=Sum.inl wish) g9,?_⟩
  rw [jh]
  have rdo:DoorL 1 r0 rest wish (dueS rest (wish - r0)):=.inr ⟨rfl,hR,rfl⟩
  refine ⟨pr,1,r0,rest,wish,_,_,rfl,fun H' s'=>SqT.of (s' _ _ ((s58.trans s9) _ _ gr5)),rdo,by rw [elk]; lia,fun H10 s10=>?_⟩
  refine ⟨_,rfl,iteF ?_⟩
  refine ⟨_,rfl,_,rfl,_,rfl,pr,1,r0,rest,wish,-1,_,rfl,fun H' s'=>SqT.of (s' _ _ ((s58.trans (s9.trans s10)) _ _ gr5)),rdo,by lia,fun H11 s11=>?_⟩
  exact ⟨_,rfl,iteF ⟨_,rfl,s8.trans (s9.trans (s10.trans s11))⟩⟩
 ·rintro σ H8 ⟨zw,rfl,s8⟩
  have s58:=s57.trans s8
  refine ⟨_,rfl,pr,r0,rest,rfl,fun H' s'=>SqT.of (s' _ _ (s58 _ _ gr5)),hR,fun pm ms H9 s9 gm hms mms=>?_⟩
  refine ⟨_,rfl,d,(fwd r0 rest).map kvI,keysP (fwd r0 rest),rfl,.inl ((s58.trans s9) _ _ gd),by unfold keysP; rw [List.map_map,List.map_map]; rfl,by rw [List.length_map]; have:=aEF r0 hR; lia,fun pk2 ks2 H10 s10 gk2 hk2 mk2=>?_⟩
  have emk:ks2=ms:=qC hk2 hms fun x=>by rw [mk2,aEE,aIr mms]
  subst emk
  refine ⟨pk2,_,rfl,.inl ⟨SqL.of gk2,fun pq hpq=>?_⟩⟩
  have sq:=Same.new (o:=.tup (ks2.map V.int)) hpq
  refine ⟨ks2.map L2.D.int,ks2.map L2.D.int,.inr ⟨⟨pm,_,rfl,SqT.of ((s10.trans sq) _ _ gm),qP ks2⟩,⟨pq,_,rfl,SqT.of zB,qP ks2⟩⟩,by rw [aAI]; decide,?_⟩
  rw [if_neg (by decide),eqDs_refl]
  exact q _ (sH5.trans (s58.trans (s9.trans (s10.trans sq))))
end
end Law
namespace Law
open PySem L2
section
variable {P:Program} {w:World} {K:PySem.W.Frag} {mg:Str→Option Value} {base:Heap}
theorem aHl {r0:Int} {rest:List Int} (hl:rest.length≤7) (h:∀ n∈r0 :: rest,1≤n∧n≤9):RowOk figs (r0 :: rest) :=
 ⟨by simp,by show rest.length + 1≤10; lia,fun n hn=>⟨(h n hn).1,by have:=(h n hn).2; lia⟩,fun s hs=>by
  unfold qM
  simp only [figs,List.mem_cons,List.not_mem_nil,or_false] at hs
  grind,by decide,fun _=>⟨by decide +kernel,fun n hn=>(h n hn).2⟩⟩
theorem aIs {r0:Int} {rest:List Int} (hl:rest.length≤8) (h:∀ n∈r0 :: rest,1≤n∧n≤99):RowOk sg3 (r0 :: rest) :=
 ⟨by simp,by show rest.length + 1≤10; lia,h,fun s hs=>by
  simp only [sg3,List.mem_cons,List.not_mem_nil,or_false] at hs
  rcases hs with h | h | h
  ·exact .inl h
  ·exact .inr (.inl h)
  ·exact .inr (.inr (.inl h)),by decide,fun z=>absurd z (by decide +kernel)⟩
theorem aI4:∀ (ns:List Int) (ss:List Str) (c:C3),ss.length=ns.length→(∀ s∈ss,s∈sg2)→wr (comeF c ns ss)=wr c + sgS ns ss
 | [],[],c,_,_=>by show wr c=wr c + 0; lia
 | [],_ :: _,_,h,_=>by cases h
 | _ :: _,[],_,h,_=>by cases h
 | n :: ns,s :: ss,c,hl,h=>by
  show wr (comeF (putN s c n) ns ss)=wr c + ((if s="-" then -n else n) + sgS ns ss)
  rw [aI4 ns ss _ (by simpa using hl) fun x hx=>h x (List.mem_cons_of_mem _ hx)]
  have hs:=h s (List.mem_cons_self ..)
  simp only [sg2,List.mem_cons,List.not_mem_nil,or_false] at hs
  rcases hs with rfl | rfl
  ·rw [qK,if_neg (by decide +kernel)]
   show c.1 + c.2.1 * c.2.2 + 1 * n + _=c.1 + c.2.1 * c.2.2 + _
   lia
  ·rw [qL,if_pos rfl]
   show c.1 + c.2.1 * c.2.2 + -1 * n + _=c.1 + c.2.1 * c.2.2 + _
   lia
theorem aH6 {r0:Int} {rest:List Int} {ss:List Str} (h:ss∈chs sg2 rest.length):wr (comeF (0,1,r0) rest ss)=r0 + sgS rest ss:=by
 rw [aI4 rest ss _ (jR sg2 _ ss h) (aE3 sg2 _ ss h)]
 show 0 + 1 * r0 + _=_
 lia
theorem aH7 (r0:Int) (rest:List Int) (wish:Int):due sg2 r0 rest wish=dueS rest (wish - r0):=by
 unfold due dueS
 refine List.filter_congr fun ss h=>?_
 rw [aH6 h]
 by_cases e:sgS rest ss=wish - r0
 ·rw [decide_eq_true e,decide_eq_true (by lia)]
 ·rw [decide_eq_false e,decide_eq_false (by lia)]
noncomputable def DoorD (door:Int) (sg:List Str) (mm:Nat) (M:Int):Prop:=(door=0∧sg=sg3∧mm=9∧M=99)∨(door=1∧sg=sg2∧mm=12∧M=99)∨(door=2∧sg=figs∧mm=8∧M=9)
theorem DoorD.sign {door:Int} {sg:List Str} {mm:Nat} {M:Int} (h:DoorD door sg mm M):∀ s∈sg,qM s:=by
 intro s hs
 unfold qM
 rcases h with ⟨_,rfl,_⟩ | ⟨_,rfl,_⟩ | ⟨_,rfl,_⟩ <;> simp only [List.mem_cons,List.not_mem_nil,or_false] at hs <;> grind
theorem DoorD.pow {door:Int} {sg:List Str} {mm:Nat} {M:Int} (h:DoorD door sg mm M) {n:Nat} (hn:n + 1≤mm):1≤sg.length∧sg.length ^ n≤6561∧n≤11:=by
 rcases h with ⟨_,rfl,rfl,_⟩ | ⟨_,rfl,rfl,_⟩ | ⟨_,rfl,rfl,_⟩
 ·exact ⟨by decide,Nat.le_trans (Nat.pow_le_pow_right (by decide) (show n≤8 by lia)) (by decide),by lia⟩
 ·exact ⟨by decide,Nat.le_trans (Nat.pow_le_pow_right (by decide) (show n≤11 by lia)) (by decide),by lia⟩
 ·exact ⟨by decide,Nat.le_trans (Nat.pow_le_pow_right (by decide) (show n≤7 by lia)) (by decide),by lia⟩
noncomputable def spSr (K:PySem.W.Frag):Sp:=fun vs H Q _=>∃ (a:Addr) (ns:List Int) (k door:Int) (sg:List Str) (mm:Nat) (M:Int),vs=[.ref a,.int k,.int door]∧SqL K H a (ns.map V.int)∧ns.length≤63∧0≤k∧k≤400∧DoorD door sg mm M∧∀ H':Hp,Same H H'→Q (.bl true) H'
noncomputable abbrev zc:Stmt:=top 35
theorem sc_law_short_right:FnScope ["script","k","door","signs","many","row","choices","worths","wish","due"] ["script","k","door"] (zF zc):=⟨rfl,rfl,rfl,by decide +kernel,rfl,by decide +kernel,by decide +kernel⟩
theorem ok_sr {f:Addr} {fd:FuncData} (F:Fun K "_law_short_right" "_law_short_right" zc f fd) (B:Blt mg) (Bsorted:mg "sorted"=none) (Bset:mg "set"=none) (Gnum:Def P w K mg base CX0 1 "_law_number" (spNum K)) (Grow:Def P w K mg base CX0 2 "_law_row" (spRow K)) (Gch:Def P w K mg base CX0 1 "_law_choices" (spCh K)) (Glw:Def P w K mg base CX0 1 "_law_worth" (spLW K)) (Gwi:Def P w K mg base CX0 2 "_law_wishes" (spWi K)) (Gwh:Def P w K mg base CX0 1 "_law_whole" spWh) (Gpr:Def P w K mg base CX0 15 "_law_places_right" (spPr K)) (Gall:Def P w K mg base CX0 4 "signs_all" (spAll K)) (Gmany:Def P w K mg base CX0 5 "signs_many" (spMany K)) (Gfig:Def P w K mg base CX0 4 "figures_all" (spFig K)) (Gsmany:Def P w K mg base CX0 3 "sides_many" (Sd.spMany K)) (Gsmet:Def P w K mg base CX0 3 "sides_met" (Sd.spMet K)):FnOk P w K mg base CX0 20 f fd ["script","k","door"] (spSr K):=by
 refine F.okW (k:=19) sc_law_short_right (fun vs H Q E h=>?_) (fun cdv A outer s H vs Q E hr h=>?_)
 ·obtain ⟨a,ns,k,door,sg,mm,M,rfl,_⟩:=h
  rfl
 obtain ⟨a,ns,k,door,sg,mm,M,rfl,hS,hl,k0,k1,hdo,q⟩:=h
 refine ⟨_,(yV (w_set (i:=3) sc_law_short_right.nd rfl (by first | exact Or.inl rfl | exact Or.inr rfl) (w_ix zn (w_lst (zg (w_tup (zg w_str (zg w_str (zg w_str w_nil)))) (zg (w_tup (zg w_str (zg w_str w_nil))) (zg (w_tup (zg w_str (zg w_str (zg w_str w_nil)))) w_nil yx) yx) yx)) (Wr.mk (pv 2)) (fun _ _=>rfl)))
   (yV (Wr.mk (zP (i:=4) sc_law_short_right.nd rfl (by first | exact Or.inl rfl | exact Or.inr rfl) (pe_op zW zD (pe_op yI (zR Gnum (hr.mono (by lia)) (zA (pv 0) (zA (pv 1) zE))) (pe_ix zn (yR (zA zD (zA zD (zA zD zE)))) (pv 2) (fun _ _=>rfl))))))
   (yV (Wr.mk (zP (i:=5) sc_law_short_right.nd rfl (by first | exact Or.inl rfl | exact Or.inr rfl) (zR Grow (hr.mono (by lia)) (zA (pv 0) (zA (pe_op zW (pv 1) zD) (zA (pv 4) (zA (pe_ix zn (Wr.un (w_lst (zg (w_lst (zg w_int (zg w_int (zg w_int (zg w_int w_nil))))) (zg (w_lst (zg w_int (zg w_int (zg w_int (zg w_int w_nil))))) (zg (w_lst (zg w_int w_nil)) w_nil))))) (pv 2) (fun _ _=>rfl)) zE)))))))
   (yV (Wr.mk (zP (i:=6) sc_law_short_right.nd rfl (by first | exact Or.inl rfl | exact Or.inr rfl) (zR Gch (hr.mono (by lia)) (zA (pe_op yk (pv 4) zD) (zA (pv 3) zE)))))
   (yV (Wr.mk (aG1 (i:=7) sc_law_short_right.nd rfl (by first | exact Or.inl rfl | exact Or.inr rfl) (N:=["some","row"]) rfl (aG2 [none,some 5] rfl (by decide +kernel) (by decide +kernel) rfl rfl) rfl (yt (pv 6)) (fun _ _ _ _=>(zM (i:=0) (show (["some","row"]:List Str).Nodup by decide +kernel) rfl (by first | exact Or.inl rfl | exact Or.inr rfl))) (fun _ _ _ _=>jw) (fun _ _ _ _=>(zR Glw (hr.mono (by lia)) (zA (pv 1) (zA (pv 0) zE))))))
   (yV (Wr.mk (yW PassesOwn.never rfl (yt (yO aDv (zR Gwi (hr.mono (by lia)) (zA (pv 0) (zA (pe_op zW (pv 1) zD) (zA (pv 7) zE)))) yi (yN (pe_ix zn (yR (zA zD (zA zD zE))) (zi qp rfl B.int aAP (zA (yu op_gt (zS za rfl B.len qZ (zA (pv 6) zE)) zD (zf _)) zE)) (fun _ _=>rfl))))) (zM (i:=8) sc_law_short_right.nd rfl (by first | exact Or.inl rfl | exact Or.inr rfl)) (zG (aG1 (i:=9) sc_law_short_right.nd rfl (by first | exact Or.inl rfl | exact Or.inr rfl) (N:=["some","worth","wish"]) rfl (aG2 [none,none,some 8] rfl (by decide +kernel) (by decide +kernel) rfl rfl) rfl (aIa B.zip (zA (pv 6) (zA (pv 7) zE))) (fun _ _ _ _=>(jc rfl (zd (zM (i:=0) (show (["some","worth","wish"]:List Str).Nodup by decide +kernel) rfl (by first | exact Or.inl rfl | exact Or.inr rfl)) (zd (zM (i:=1) (show (["some","worth","wish"]:List Str).Nodup by decide +kernel) rfl (by first | exact Or.inl rfl | exact Or.inr rfl)) qH)))) (fun _ _ _ _=>(aFq (zm op_eq (pv 1) (pv 2) (zf _)))) (fun _ _ _ _=>(pv 0)))
   (zG (ps_if (PW.pt (ja (zm op_eq (pv 2) zD (zf _)) (qb (zm (aFu (hu60 hr)) (zR Gall (hr.mono (by lia)) (zA (pv 5) (zA (pv 8) zE))) (pv 9) (zf _))))) (zI (zT pe_bl)) yJ)
   (zG (ps_if (PW.pt (ja (zm op_eq (pv 2) zD (zf _)) (qb (qk (qY (zR Gwh (hr.mono (by lia)) (zA (zR Gmany (hr.mono (by lia)) (zA (pv 5) (zA (pv 8) zE))) (zA (zS za rfl B.len qZ (zA (pv 9) zE)) zE)))))))) (zI (zT pe_bl)) yJ)
   (zG (ps_if (PW.pt (ja (zm op_eq (pv 2) zD (zf _)) (qb (qk (qY (zR Gwh (hr.mono (by lia)) (zA (zR Gsmany (hr.mono (by lia)) (zA (pv 5) (zA (pv 8) zE))) (zA (zS za rfl B.len qZ (zA (pv 9) zE)) zE)))))))) (zI (zT pe_bl)) yJ)
   (zG (ps_if (PW.pt (ja (zm op_eq (pv 2) zD (zf _)) (qb (zm (aFu (hu60 hr)) (zR Gfig (hr.mono (by lia)) (zA (pv 5) (zA (pv 8) zE))) (pv 9) (zf _))))) (zI (zT pe_bl)) yJ)
   (zI (ps_if (PW.pt (ja (zm op_lt (pv 2) zD (zf _)) (qb (qk (qY (zR Gpr (hr.mono (by lia)) (zA (pv 0) (zA (pe_op zW (pv 1) zD) (zA (pv 2) (zA (pv 5) (zA (pv 8) (zA (pv 9) zE)))))))))))) (zI (zT pe_bl)) yJ)))))))))
   (aE2 (Wr.mk (zT (pe_or (yu op_ne (pv 2) zD (zf _)) (aFU (yu (aHr (hu60 hr)) (zR Gsmet (hr.mono (by lia)) (zA (pv 5) zE)) (zi zx rfl B.tuple qR (zA (aAA rfl (pv 7) Bsorted Bset) zE)) (zf _))))))))))))),?_⟩
 have szl:=sizeLine_eq
 have keepS:∀ H',Same H H'→SqL K H' a (ns.map V.int):=fun H' s'=>aB3 s' hS
 refine ⟨(by show 3≤sizeLine; decide),fun t1 ht1=>⟨(by show 2≤sizeLine; decide),fun t2 ht2=>⟨(by show 3≤sizeLine; decide),fun t3 ht3=>⟨(by show 3≤sizeLine; decide),fun t4 ht4=>?_⟩⟩⟩⟩
 have e1:=Same.new (o:=.tup [V.str "+",V.str "-",V.str "*"]) ht1
 have e2:=Same.new (o:=.tup [V.str "+",V.str "-"]) ht2
 have e3:=Same.new (o:=.tup [V.str "",V.str "+",V.str "-"]) ht3
 have e4:=Same.new (o:=.lst [.ref t1,.ref t2,.ref t3]) ht4
 have s1:=e1.trans (e2.trans (e3.trans e4))
 obtain ⟨pg,hpg,gg⟩:∃ pg,atI [V.ref t1,V.ref t2,V.ref t3] door=some (.ref pg)∧(upd (upd (upd (upd H t1 (.tup [V.str "+",V.str "-",V.str "*"])) t2 (.tup [V.str "+",V.str "-"])) t3 (.tup [V.str "",V.str "+",V.str "-"])) t4 (.lst [.ref t1,.ref t2,.ref t3])) pg=some (.tup (sg.map V.str)):=by
  rcases hdo with ⟨rfl,rfl,_⟩ | ⟨rfl,rfl,_⟩ | ⟨rfl,rfl,_⟩
  ·exact ⟨t1,rfl,(e2.trans (e3.trans e4)) _ _ zB⟩
  ·exact ⟨t2,rfl,(e3.trans e4) _ _ zB⟩
  ·exact ⟨t3,rfl,e4 _ _ zB⟩
 refine ⟨_,rfl,t4,_,_,_,rfl,rfl,SqL.of zB,hpg,?_⟩
 clear e1 e2 e3 e4 hpg
 generalize upd (upd (upd (upd H t1 (.tup [V.str "+",V.str "-",V.str "*"])) t2 (.tup [V.str "+",V.str "-"])) t3 (.tup [V.str "",V.str "+",V.str "-"])) t4 (.lst [.ref t1,.ref t2,.ref t3])=H1 at s1 gg ⊢
 refine ⟨_,rfl,_,rfl,a,ns,k,rfl,keepS _ s1,hl,k0,by lia,fun r1 H2 r10 _ s2=>?_⟩
 refine ⟨(by show 3≤sizeLine; decide),fun p5 hp5=>?_⟩
 have hmm:atI [V.int 9,V.int 12,V.int 8] door=some (.int (mm:Int))∧1≤mm:=by
  rcases hdo with ⟨rfl,_,rfl,_⟩ | ⟨rfl,_,rfl,_⟩ | ⟨rfl,_,rfl,_⟩ <;> exact ⟨rfl,by decide⟩
 refine ⟨_,rfl,p5,_,_,_,rfl,rfl,SqL.of zB,hmm.1,_,_,rfl,rfl,(by show (0:Int) < mm; lia),_,_,rfl,rfl,?_⟩
 have m0:0≤r1 % (mm:Int):=Int.emod_nonneg _ (by lia)
 have m1:r1 % (mm:Int) < mm:=Int.emod_lt_of_pos _ (by lia)
 obtain ⟨m,hm⟩:∃ m:Nat,1 + r1 % (mm:Int)=((m + 1:Nat):Int):=⟨(r1 % (mm:Int)).toNat,by lia⟩
 have hm2:m + 1≤mm:=by lia
 have s3:=(s1.trans s2).trans (Same.new (o:=.lst [V.int 9,V.int 12,V.int 8]) hp5)
 have gg3:=(s2.trans (Same.new (o:=.lst [V.int 9,V.int 12,V.int 8]) hp5)) _ _ gg
 dsimp only [gName]
 rw [hm]
 generalize upd H2 p5 (.lst [V.int 9,V.int 12,V.int 8])=H3 at s3 gg3 ⊢
 clear s1 s2 gg m0 m1 hm hp5
 refine ⟨_,rfl,_,rfl,_,_,rfl,rfl,_,rfl,?_⟩
 refine ⟨(by show 4≤sizeLine; decide),fun t1 ht1=>⟨(by show 4≤sizeLine; decide),fun t2 ht2=>⟨(by show 1≤sizeLine; decide),fun t3 ht3=>⟨(by show 3≤sizeLine; decide),fun t4 ht4=>?_⟩⟩⟩⟩
 have e1:=Same.new (o:=.lst [V.int 1,V.int 3,V.int 9,V.int 99]) ht1
 have e2:=Same.new (o:=.lst [V.int 1,V.int 3,V.int 9,V.int 99]) ht2
 have e3:=Same.new (o:=.lst [V.int 9]) ht3
 have e4:=Same.new (o:=.lst [V.ref t1,V.ref t2,V.ref t3]) ht4
 have s4:=e1.trans (e2.trans (e3.trans e4))
 obtain ⟨pm,mo,hpm,gm,mo1,mo2⟩:∃ (pm:Addr) (mo:List Int),atI [V.ref t1,V.ref t2,V.ref t3] door=some (.ref pm)∧(upd (upd (upd (upd H3 t1 (.lst [V.int 1,V.int 3,V.int 9,V.int 99])) t2 (.lst [V.int 1,V.int 3,V.int 9,V.int 99])) t3 (.lst [V.int 9])) t4 (.lst [V.ref t1,V.ref t2,V.ref t3])) pm=some (.lst (mo.map V.int))∧0 < mo.length∧∀ x∈mo,1≤x∧x≤M:=by
  rcases hdo with ⟨rfl,_,_,rfl⟩ | ⟨rfl,_,_,rfl⟩ | ⟨rfl,_,_,rfl⟩
  ·exact ⟨t1,[1,3,9,99],rfl,(e2.trans (e3.trans e4)) _ _ zB,by decide,fun x hx=>by simp only [List.mem_cons,List.not_mem_nil,or_false] at hx; lia⟩
  ·exact ⟨t2,[1,3,9,99],rfl,(e3.trans e4) _ _ zB,by decide,fun x hx=>by simp only [List.mem_cons,List.not_mem_nil,or_false] at hx; lia⟩
  ·exact ⟨t3,[9],rfl,e4 _ _ zB,by decide,fun x hx=>by simp only [List.mem_cons,List.not_mem_nil,or_false] at hx; lia⟩
 refine ⟨_,rfl,t4,_,_,_,rfl,rfl,SqL.of zB,hpm,?_⟩
 clear e1 e2 e3 e4 hpm
 generalize upd (upd (upd (upd H3 t1 (.lst [V.int 1,V.int 3,V.int 9,V.int 99])) t2 (.lst [V.int 1,V.int 3,V.int 9,V.int 99])) t3 (.lst [V.int 9])) t4 (.lst [V.ref t1,V.ref t2,V.ref t3])=H4 at s4 gm ⊢
 refine ⟨a,pm,ns,k + 1,m + 1,mo,M,rfl,keepS _ (s3.trans s4),hl,by lia,by lia,by have:=(hdo.pow hm2).2.2; lia,fun H' s'=>SqL.of (s' _ _ gm),mo1,mo2,fun pr row H5 s5 gr rl hrow=>?_⟩
 obtain ⟨r0,rest,rfl⟩:∃ r0 rest,row=r0 :: rest:=by
  cases row with
  | nil=>cases rl
  | cons x y=>exact ⟨x,y,rfl⟩
 obtain rfl:rest.length=m:=by simpa using rl
 have sH5:=s3.trans (s4.trans s5)
 have gg5:=(s4.trans s5) _ _ gg3
 clear s3 s4 s5 gg3 gm mo1 mo2 rl
 obtain ⟨pw1,pw2,pw3⟩:=hdo.pow hm2
 have M99:M≤99:=by rcases hdo with h | h | h <;> lia
 have h99:∀ n∈r0 :: rest,1≤n∧n≤99:=fun n hn=>by have:=hrow n hn; lia
 refine ⟨_,rfl,_,_,rfl,rfl,_,rfl,pg,rest.length,sg,?_,by lia,pw1,by lia,fun H' s'=>SqT.of (s' _ _ gg5),fun pc ys H6 s6 _ gc pys=>?_⟩
 ·show [V.int (((rest.length + 1:Nat):Int) - 1),_]=_
  rw [show ((rest.length + 1:Nat):Int) - 1=(rest.length:Int) by lia]
 have yl:ys.length=sg.length ^ rest.length:=by rw [pys.length,yA]
 have sH6:=sH5.trans s6
 have gr6:=s6 _ _ gr
 clear s6 gg5 gr
 refine ⟨_,rfl,pc,rfl,⟨_,SqL.of gc⟩,fun pw hpw C sx fp=>?_⟩
 refine jz (K:=K) (a:=pc) (xs:=ys) (tt:=fun _ H Q=>Q true H) (fun i zs σ H7=>∃ o:Option V,σ=[o,some (.ref pr)]∧Same H6 H7∧zs=(((chs sg rest.length).take i).map fun ss=>wr (comeF (0,1,r0) rest ss)).map V.int) (fun i zs σ H7 ⟨_,_,g,_⟩=>SqL.of (g _ _ gc)) ⟨none,rfl,Same.new hpw,rfl⟩ ?_ ?_
 ·rintro i x zs σ H7 hi hzl ⟨o,rfl,s7,rfl⟩ g7
  obtain ⟨ss,hss,hput⟩:=aA1 pys hi
  have hm:=List.mem_of_getElem? hss
  have hil:=(List.getElem?_eq_some_iff.mp hi).1
  refine ⟨_,rfl,_,rfl,pr,x,r0,rest,ss,rfl,fun H' s'=>SqT.of (s' _ _ (s7 _ _ gr6)),hput.kt (KT.same s7),jR sg _ ss hm,h99,fun t ht=>hdo.sign t (aE3 sg _ ss hm t ht),fun H8 s8=>?_⟩
  refine ⟨_,s8 _ _ g7,by rw [szl]; lia,_,by rw [List.length_append]; show _ + 1≤i + 1; lia,⟨_,rfl,yD (s7.trans s8) hpw,?_⟩,zB⟩
  rw [zU hss,List.map_append,List.map_append]; rfl
 rintro zs σ H7 ⟨o,rfl,s7,rfl⟩ gw
 rw [show ys.length=(chs sg rest.length).length by rw [yA,yl],List.take_length] at gw
 obtain ⟨ws,hws⟩:∃ ws,ws=(chs sg rest.length).map fun ss=>wr (comeF (0,1,r0) rest ss):=⟨_,rfl⟩
 rw [← hws] at gw
 have wsl:ws.length=sg.length ^ rest.length:=by rw [hws,List.length_map,yA]
 have wpos:0 < ws.length:=by rw [wsl]; exact Nat.pow_pos pw1
 have sH7:=sH6.trans s7
 have gr7:=s7 _ _ gr6
 have gc7:=s7 _ _ gc
 have py7:=pr_kt (R:=Put) (fun v x h=>h.kt (KT.same s7)) pys
 clear s7 gr6 gc pys sx fp sH5 sH6
 refine ⟨_,rfl,_,rfl,_,_,rfl,rfl,_,rfl,a,pw,ns,ws,_,rfl,keepS _ sH7,hl,by lia,by lia,fun H' s'=>SqL.of (s' _ _ gw),wpos,fun pq wl H8 s8 gq wl3=>?_⟩
 refine ⟨(by show 2≤sizeLine; decide),fun p5 hp5=>?_⟩
 obtain ⟨c,hc,hc5⟩:=aI2 (decide ((ys.length:Int) > 800)) 3 1
 obtain ⟨WL,hWL,_⟩:=aI3 (L:=wl) (c:=c) (by lia) (by lia)
 have s5:=Same.new (o:=.lst [V.int 3,V.int 1]) hp5
 refine ⟨_,rfl,pc,_,rfl,.inl (SqL.of (s5 _ _ (s8 _ _ gc7))),_,_,rfl,rfl,.inr ⟨_,rfl,p5,_,_,_,rfl,rfl,SqL.of zB,hc,_,rfl,pq,_,rfl,SqL.of (s5 _ _ gq),fun pz hpz=>?_⟩⟩
 have s9:=s8.trans (s5.trans (Same.new (o:=.lst (cutV (wl.map V.int) none (some c))) hpz))
 have g9:(upd (upd H8 p5 (.lst [V.int 3,V.int 1])) pz (.lst (cutV (wl.map V.int) none (some c)))) pz=some (.lst (WL.map V.int)):=by rw [zB,hWL]
 generalize upd (upd H8 p5 (.lst [V.int 3,V.int 1])) pz (.lst (cutV (wl.map V.int) none (some c)))=H9 at s9 g9 ⊢
 clear s8 s5 hp5 hpz hc gq
 refine ⟨pz,rfl,⟨_,SqL.of g9⟩,qm (K:=K) (a:=pz) (xs:=WL.map V.int) (fun i σ H'=>∃ z1 z2:Option V,σ=[some (.ref a),some (.int k),some (.int door),some (.ref pg),some (.int ((rest.length + 1:Nat):Int)),some (.ref pr),some (.ref pc),some (.ref pw),z1,z2]∧Same H7 H'∧H' pz=some (.lst (WL.map V.int)))
  ⟨none,none,rfl,s9,g9⟩ (fun i σ H' _ ⟨_,_,_,_,g⟩=>SqL.of g) ?_ ?_⟩
 ·rintro i x σ HA hi ⟨z1,z2,rfl,sA,gA⟩
  rw [List.getElem?_map] at hi
  obtain ⟨wish,hwish,rfl⟩:∃ wish,WL[i]?=some wish∧V.int wish=x:=by
   cases e:WL[i]? with
   | none=>rw [e] at hi; cases hi
   | some n=>rw [e] at hi; exact ⟨n,rfl,by simpa using hi⟩
  have gcA:=sA _ _ gc7
  have gwA:=sA _ _ gw
  have pyA:=pr_kt (R:=Put) (fun v x h=>h.kt (KT.same sA)) py7
  refine ⟨_,rfl,_,rfl,pc,pw,rfl,⟨_,SqL.of gcA⟩,⟨_,SqL.of gwA⟩,fun pd hpd C sx fp=>?_⟩
  refine aH2 (K:=K) (p:=pc) (q:=pw) (xs:=ys) (ys:=ws.map V.int) (fun i zs σ H3=>∃ (o1 o2:Option V),σ=[o1,o2,some (.int wish)]∧Same HA H3∧Paired (Put H3) zs (((chs sg rest.length).take i).filter fun ss=>decide (wr (comeF (0,1,r0) rest ss)=wish)))
   (fun i zs σ H3 ⟨_,_,_,g,_⟩=>⟨SqL.of (g _ _ gcA),SqL.of (g _ _ gwA)⟩) (by rw [List.length_map,wsl,yl]) ⟨none,none,rfl,Same.new hpd,.nil⟩ ?_ ?_
  ·rintro i T x y zs σ H3 hx hy hzl ⟨o1,o2,rfl,s3,pzs⟩ g3 hT
   obtain ⟨ss,hss,hput⟩:=aA1 pyA hx
   have hil:=(List.getElem?_eq_some_iff.mp hx).1
   rw [List.getElem?_map,hws,List.getElem?_map,hss] at hy
   obtain rfl:V.int (wr (comeF (0,1,r0) rest ss))=y:=by simpa using hy
   have sT:=Same.new (o:=.tup [x,V.int (wr (comeF (0,1,r0) rest ss))]) hT
   have g3T:=sT _ _ g3
   have s3T:=s3.trans sT
   have pzT:=pr_kt (R:=Put) (fun v x h=>h.kt (KT.same sT)) pzs
   refine ⟨T,_,rfl,SqT.of zB,rfl,_,_,rfl,_,_,rfl,rfl,?_⟩
   generalize upd H3 T (.tup [x,V.int (wr (comeF (0,1,r0) rest ss))])=H4 at g3T s3T pzT ⊢
   refine ⟨_,rfl,_,rfl,rfl,_,rfl,?_⟩
   rw [dec_int]
   by_cases hc:wr (comeF (0,1,r0) rest ss)=wish
   ·rw [decide_eq_true hc]
    refine iteT ⟨_,rfl,zs,g3T,by rw [szl]; lia,zs++[x],(by rw [List.length_append]; show zs.length + 1≤i + 1; lia),⟨_,_,rfl,yD s3T hpd,?_⟩,zB⟩
    rw [zU hss,yy,if_pos (decide_eq_true hc)]
    exact aA0 (pr_kt (R:=Put) (fun v x h=>h.kt (KT.upd g3T)) pzT) ((hput.kt (KT.same s3T)).kt (KT.upd g3T))
   ·rw [decide_eq_false hc]
    refine iteF ⟨zs,by lia,⟨_,_,rfl,s3T,?_⟩,g3T⟩
    rw [zU hss,yy,if_neg (by simpa using hc)]
    exact pzT
  rintro zs σ H3 ⟨o1,o2,rfl,s3,pzs⟩ gd
  rw [show ys.length=(chs sg rest.length).length by rw [yA,yl],List.take_length] at pzs
  have pdue:Paired (Put H3) zs (due sg r0 rest wish):=pzs
  have zl:=pdue.length
  have dl:(due sg r0 rest wish).length≤6561:=Nat.le_trans (List.length_filter_le ..) (by rw [yA]; exact pw2)
  have sB:=sA.trans s3
  have grB:=sB _ _ gr7
  have gzB:=s3 _ _ gA
  clear pzs gcA gwA pyA hpd sx fp
  have rw3:door=0→sg=sg3∧RowOk sg3 (r0 :: rest):=fun h=>by
   rcases hdo with ⟨_,rfl,rfl,_⟩ | ⟨e,_⟩ | ⟨e,_⟩
   ·exact ⟨rfl,aIs (by lia) h99⟩
   ·lia
   ·lia
  have rw2:door=1→sg=sg2∧RowS rest:=fun h=>by
   rcases hdo with ⟨e,_⟩ | ⟨_,rfl,rfl,_⟩ | ⟨e,_⟩
   ·lia
   ·exact ⟨rfl,by lia,fun n hn=>h99 n (List.mem_cons_of_mem _ hn)⟩
   ·lia
  have rw1:door=2→sg=figs∧RowOk figs (r0 :: rest):=fun h=>by
   rcases hdo with ⟨e,_⟩ | ⟨e,_⟩ | ⟨_,rfl,rfl,rfl⟩
   ·lia
   ·lia
   ·exact ⟨rfl,aHl (by lia) hrow⟩
  dsimp only [gName]
  refine qE (fun σ' H'=>σ'=[some (.ref a),some (.int k),some (.int door),some (.ref pg),some (.int ((rest.length + 1:Nat):Int)),some (.ref pr),some (.ref pc),some (.ref pw),some (.int wish),some (.ref pd)]∧Same H3 H') ?_ ?_
  case refine_2 =>
   intro X' hX
   refine ⟨_,rfl,rfl,_,rfl,ite2 (fun c=>?_) (fun c=>iteF (hX _ _ ⟨rfl,fun _ _ e=>e⟩))⟩
   obtain ⟨rfl,rok⟩:=rw3 (V.int.inj (of_decide_eq_true c))
   refine ⟨_,rfl,_,rfl,pr,r0,rest,wish,rfl,fun H' s'=>SqT.of (s' _ _ grB),rok,fun pf yf H4 s4 _ gf pyf=>?_⟩
   refine ⟨_,rfl,_,_,.inl ⟨⟨pf,_,rfl,SqL.of gf,qO pyf⟩,⟨pd,_,rfl,SqL.of (s4 _ _ gd),qO (pr_kt (R:=Put) (fun v x h=>h.kt (KT.same s4)) pdue)⟩⟩,aAH _,_,rfl,ite_f (by rw [if_pos rfl,eqDs_refl]; rfl) (hX _ _ ⟨rfl,s4⟩)⟩
  rintro σ' H4 ⟨rfl,s4⟩
  refine qE (fun σ' H'=>σ'=[some (.ref a),some (.int k),some (.int door),some (.ref pg),some (.int ((rest.length + 1:Nat):Int)),some (.ref pr),some (.ref pc),some (.ref pw),some (.int wish),some (.ref pd)]∧Same H3 H') ?_ ?_
  case refine_2 =>
   intro X' hX
   refine ⟨_,rfl,rfl,_,rfl,ite2 (fun c=>?_) (fun c=>iteF (hX _ _ ⟨rfl,s4⟩))⟩
   obtain ⟨rfl,rok⟩:=rw3 (V.int.inj (of_decide_eq_true c))
   refine ⟨_,rfl,_,rfl,pr,r0,rest,wish,rfl,fun H' s'=>SqT.of (s' _ _ (s4 _ _ grB)),rok,fun H5 s5=>?_⟩
   exact ⟨_,rfl,pd,_,rfl,.inl (SqL.of ((s4.trans s5) _ _ gd)),_,_,rfl,_,rfl,ite_f (by rw [decide_eq_true (by rw [zl])]; rfl) (hX _ _ ⟨rfl,s4.trans s5⟩)⟩
  clear s4 H4
  rintro σ' H4 ⟨rfl,s4⟩
  refine qE (fun σ' H'=>σ'=[some (.ref a),some (.int k),some (.int door),some (.ref pg),some (.int ((rest.length + 1:Nat):Int)),some (.ref pr),some (.ref pc),some (.ref pw),some (.int wish),some (.ref pd)]∧Same H3 H') ?_ ?_
  case refine_2 =>
   intro X' hX
   refine ⟨_,rfl,rfl,_,rfl,ite2 (fun c=>?_) (fun c=>iteF (hX _ _ ⟨rfl,s4⟩))⟩
   obtain ⟨rfl,rok⟩:=rw2 (V.int.inj (of_decide_eq_true c))
   refine ⟨_,rfl,_,rfl,pr,r0,rest,wish,rfl,fun H' s'=>SqT.of (s' _ _ (s4 _ _ grB)),rok,fun H5 s5=>?_⟩
   exact ⟨_,rfl,pd,_,rfl,.inl (SqL.of ((s4.trans s5) _ _ gd)),_,_,rfl,_,rfl,ite_f (by rw [decide_eq_true (by rw [zl,aH7])]; rfl) (hX _ _ ⟨rfl,s4.trans s5⟩)⟩
  clear s4 H4
  rintro σ' H4 ⟨rfl,s4⟩
  refine qE (fun σ' H'=>σ'=[some (.ref a),some (.int k),some (.int door),some (.ref pg),some (.int ((rest.length + 1:Nat):Int)),some (.ref pr),some (.ref pc),some (.ref pw),some (.int wish),some (.ref pd)]∧Same H3 H') ?_ ?_
  case refine_2 =>
   intro X' hX
   refine ⟨_,rfl,rfl,_,rfl,ite2 (fun c=>?_) (fun c=>iteF (hX _ _ ⟨rfl,s4⟩))⟩
   obtain ⟨rfl,rok⟩:=rw1 (V.int.inj (of_decide_eq_true c))
   refine ⟨_,rfl,_,rfl,pr,r0,rest,wish,rfl,fun H' s'=>SqT.of (s' _ _ (s4 _ _ grB)),rok,fun pf yf H5 s5 _ gf pyf=>?_⟩
   refine ⟨_,rfl,_,_,.inl ⟨⟨pf,_,rfl,SqL.of gf,qO pyf⟩,⟨pd,_,rfl,SqL.of ((s4.trans s5) _ _ gd),qO (pr_kt (R:=Put) (fun v x h=>h.kt (KT.same (s4.trans s5))) pdue)⟩⟩,aAH _,_,rfl,ite_f (by rw [if_pos rfl,eqDs_refl]; rfl) (hX _ _ ⟨rfl,s4.trans s5⟩)⟩
  clear s4 H4
  rintro σ' H4 ⟨rfl,s4⟩
  refine ⟨_,rfl,_,_,rfl,rfl,_,rfl,ite2 (fun c=>?_) (fun c=>iteF ⟨_,_,rfl,sB.trans s4,s4 _ _ gzB⟩)⟩
  have c':door < 2:=of_decide_eq_true c
  have dL:DoorL door r0 rest wish (due sg r0 rest wish):=by
   rcases hdo with ⟨e,_⟩ | ⟨e,_⟩ | ⟨e,_⟩
   ·obtain ⟨rfl,rok⟩:=rw3 e
    exact .inl ⟨e,rok,rfl⟩
   ·obtain ⟨rfl,rok⟩:=rw2 e
    exact .inr ⟨e,rok,aH7 ..⟩
   ·lia
  refine ⟨_,rfl,_,rfl,_,_,rfl,rfl,_,rfl,_,rfl,_,rfl,_,rfl,a,pr,pd,ns,_,door,r0,rest,wish,_,zs,rfl,keepS _ (sH7.trans (sB.trans s4)),hl,by lia,by lia,s4 _ _ grB,dL,s4 _ _ gd,pr_kt (R:=Put) (fun v x h=>h.kt (KT.same s4)) pdue,by lia,fun H5 s5=>?_⟩
  exact ⟨_,rfl,iteF ⟨_,_,rfl,sB.trans (s4.trans s5),(s4.trans s5) _ _ gzB⟩⟩
 ·rintro σ HA ⟨z1,z2,rfl,sA,gA⟩
  by_cases h1:door=1
  ·obtain ⟨rfl,rfl,hR⟩:sg=sg2∧mm=12∧RowS rest:=by
    rcases hdo with ⟨e,_⟩ | ⟨_,rfl,rfl,_⟩ | ⟨e,_⟩
    ·lia
    ·exact ⟨rfl,rfl,by lia,fun n hn=>h99 n (List.mem_cons_of_mem _ hn)⟩
    ·lia
   refine ⟨_,rfl,rfl,_,rfl,ite_f (by rw [h1]; decide +kernel) ?_⟩
   refine ⟨_,rfl,pr,r0,rest,rfl,fun H' s'=>SqT.of (s' _ _ (sA _ _ gr7)),hR,fun pm ms H9 s9 gm hms mms=>?_⟩
   have wl4:ws.length≤4000:=by
    rw [wsl]
    exact Nat.le_trans (Nat.pow_le_pow_right (by decide) (show rest.length≤11 by lia)) (by decide)
   refine ⟨_,rfl,pw,ws,rfl,(sA.trans s9) _ _ gw,wl4,fun pk ks H10 s10 gk hks mks=>?_⟩
   have emk:ks=ms:=qC hks hms fun x=>by
    rw [mks,mms,hws,List.mem_map]
    constructor
    ·rintro ⟨ss,h1,h2⟩; exact ⟨ss,h1,by rw [← h2,aH6 h1]⟩
    ·rintro ⟨ss,h1,h2⟩; exact ⟨ss,h1,by rw [← h2,aH6 h1]⟩
   subst emk
   refine ⟨pk,_,rfl,.inl ⟨SqL.of gk,fun pq2 hpq=>?_⟩⟩
   have sq:=Same.new (o:=.tup (ks.map V.int)) hpq
   refine ⟨ks.map L2.D.int,ks.map L2.D.int,.inr ⟨⟨pm,_,rfl,SqT.of ((s10.trans sq) _ _ gm),qP ks⟩,⟨pq2,_,rfl,SqT.of zB,qP ks⟩⟩,by rw [aAI]; decide,?_⟩
   rw [if_neg (by decide),eqDs_refl]
   exact q _ (sH7.trans (sA.trans (s9.trans (s10.trans sq))))
  ·refine ⟨_,rfl,rfl,_,rfl,ite_t ?_ ?_⟩
   ·rw [dec_int,decide_eq_false h1]; rfl
   ·exact q _ (sH7.trans sA)
end
end Law
namespace Law
open PySem L2
section
variable {P:Program} {w:World} {K:PySem.W.Frag} {mg:Str→Option Value} {base:Heap}
noncomputable abbrev s_law:Stmt:=top 37
theorem sc_law:FnScope ["script","door"] ["script"] (zF s_law):=⟨rfl,rfl,rfl,by decide +kernel,rfl,by decide +kernel,by decide +kernel⟩
theorem aJm {f:Addr} {fd:FuncData} (F:Fun K "law" "law" s_law f fd) (B:Blt mg) (Gsr:Def P w K mg base CX0 20 "_law_short_right" (spSr K)) (Glr:Def P w K mg base CX0 15 "_law_long_right" (spLr K)):FnOk P w K mg base CX0 30 f fd ["script"] (spLaw K):=by
 refine F.ok (k:=29) sc_law (fun vs H Q E h=>?_) (fun cdv A outer s H vs Q E hr h=>?_)
 ·obtain ⟨a,ns,rfl,_⟩:=h
  rfl
 obtain ⟨a,ns,rfl,hS,hl,q⟩:=h
 refine ⟨_,(zG (yW PassesOwn.never rfl (ql rfl B.range (zA zD zE)) (zM (i:=1) sc_law.nd rfl (by first | exact Or.inl rfl | exact Or.inr rfl)) (zI (ps_if (qk (qY (zR Gsr (hr.mono (by lia)) (zA (pv 0) (zA (pe_op yQ zD (pv 1)) (zA (pv 1) zE)))))) (zI (zT pe_bl)) yJ)))
   (zI (zT (zR Glr (hr.mono (by lia)) (zA (pv 0) (zA zD zE)))))),?_⟩
 have keepS:∀ H',Same H H'→SqL K H' a (ns.map V.int):=fun H' s'=>aB3 s' hS
 refine ⟨_,rfl,by decide,by decide,jr (n:=3) (fun i σ H'=>∃ z:Option V,σ=[some (.ref a),z]∧Same H H') ⟨none,rfl,fun _ _ e=>e⟩ ?_ ?_⟩
 ·rintro i σ H1 hi ⟨z,rfl,s1⟩
  have hd:∃ (sg:List Str) (mm:Nat) (M:Int),DoorD (0 + (i:Int)) sg mm M:=by
   match i,hi with
   | 0,_=>exact ⟨_,_,_,.inl ⟨rfl,rfl,rfl,rfl⟩⟩
   | 1,_=>exact ⟨_,_,_,.inr (.inl ⟨rfl,rfl,rfl,rfl⟩)⟩
   | 2,_=>exact ⟨_,_,_,.inr (.inr ⟨rfl,rfl,rfl,rfl⟩)⟩
   | n + 3,h=>exact absurd h (by lia)
  obtain ⟨sg,mm,M,hd⟩:=hd
  refine ⟨_,rfl,_,rfl,_,_,rfl,rfl,.inl ⟨by decide,by decide⟩,_,rfl,a,ns,_,_,sg,mm,M,rfl,keepS _ s1,hl,by lia,by lia,hd,fun H2 s2=>?_⟩
  exact ⟨_,rfl,iteF ⟨_,rfl,s1.trans s2⟩⟩
 ·rintro σ H1 ⟨z,rfl,s1⟩
  exact ⟨_,rfl,a,ns,100,rfl,keepS _ s1,hl,by decide,by decide,fun H2 s2=>q _⟩
end
end Law
namespace Law
open PySem L2
noncomputable def famS (a b c d:Addr) (s:Str):Addr:=if s="+" then a else if s="-" then b else if s="*" then c else d
theorem famS1 (a b c d:Addr):famS a b c d "+"=a:=by unfold famS; rw [if_pos rfl]
theorem famS2 (a b c d:Addr):famS a b c d "-"=b:=by unfold famS; rw [if_neg (by decide +kernel),if_pos rfl]
theorem famS3 (a b c d:Addr):famS a b c d "*"=c:=by unfold famS; rw [if_neg (by decide +kernel),if_neg (by decide +kernel),if_pos rfl]
theorem famS4 (a b c d:Addr):famS a b c d ""=d:=by unfold famS; rw [if_neg (by decide +kernel),if_neg (by decide +kernel),if_neg (by decide +kernel)]
theorem all_mk {l:PySem.W.OpenLaw} {w:World} {K:PySem.W.Frag} {h:Heap} {mg:Str→Option Value} {fa:Addr} (X:K.In h) (G:h.Ns mainGlobals mg) (hfa:mg "law"=some (.ref fa))
  {f_plus:Addr} {od_plus an_plus:Option Addr} {sl_plus:Array (Option Value)} {oc_plus kV_plus dc_plus pm_plus cd_plus ct_plus:Value}
  {f_less:Addr} {od_less an_less:Option Addr} {sl_less:Array (Option Value)} {oc_less kV_less dc_less pm_less cd_less ct_less:Value}
  {f_times:Addr} {od_times an_times:Option Addr} {sl_times:Array (Option Value)} {oc_times kV_times dc_times pm_times cd_times ct_times:Value}
  {f_together:Addr} {od_together an_together:Option Addr} {sl_together:Array (Option Value)} {oc_together kV_together dc_together pm_together cd_together ct_together:Value}
  {f_ways_between:Addr} {od_ways_between an_ways_between:Option Addr} {sl_ways_between:Array (Option Value)} {oc_ways_between kV_ways_between dc_ways_between pm_ways_between cd_ways_between ct_ways_between:Value}
  {f_put_next:Addr} {od_put_next an_put_next:Option Addr} {sl_put_next:Array (Option Value)} {oc_put_next kV_put_next dc_put_next pm_put_next cd_put_next ct_put_next:Value}
  {f_signs_many:Addr} {od_signs_many an_signs_many:Option Addr} {sl_signs_many:Array (Option Value)} {oc_signs_many kV_signs_many dc_signs_many pm_signs_many cd_signs_many ct_signs_many:Value}
  {f_signs_all:Addr} {od_signs_all an_signs_all:Option Addr} {sl_signs_all:Array (Option Value)} {oc_signs_all kV_signs_all dc_signs_all pm_signs_all cd_signs_all ct_signs_all:Value}
  {f_signs_at:Addr} {od_signs_at an_signs_at:Option Addr} {sl_signs_at:Array (Option Value)} {oc_signs_at kV_signs_at dc_signs_at pm_signs_at cd_signs_at ct_signs_at:Value}
  {f_check_place:Addr} {od_check_place an_check_place:Option Addr} {sl_check_place:Array (Option Value)} {oc_check_place kV_check_place dc_check_place pm_check_place cd_check_place ct_check_place:Value}
  {f_figures_all:Addr} {od_figures_all an_figures_all:Option Addr} {sl_figures_all:Array (Option Value)} {oc_figures_all kV_figures_all dc_figures_all pm_figures_all cd_figures_all ct_figures_all:Value}
  {f_sides_many:Addr} {od_sides_many an_sides_many:Option Addr} {sl_sides_many:Array (Option Value)} {oc_sides_many kV_sides_many dc_sides_many pm_sides_many cd_sides_many ct_sides_many:Value}
  {f_sides_at:Addr} {od_sides_at an_sides_at:Option Addr} {sl_sides_at:Array (Option Value)} {oc_sides_at kV_sides_at dc_sides_at pm_sides_at cd_sides_at ct_sides_at:Value}
  {f_sides_met:Addr} {od_sides_met an_sides_met:Option Addr} {sl_sides_met:Array (Option Value)} {oc_sides_met kV_sides_met dc_sides_met pm_sides_met cd_sides_met ct_sides_met:Value}
  {f_sums_behind:Addr} {od_sums_behind an_sums_behind:Option Addr} {sl_sums_behind:Array (Option Value)} {oc_sums_behind kV_sums_behind dc_sums_behind pm_sums_behind cd_sums_behind ct_sums_behind:Value}
  {f_with_either_sign:Addr} {od_with_either_sign an_with_either_sign:Option Addr} {sl_with_either_sign:Array (Option Value)} {oc_with_either_sign kV_with_either_sign dc_with_either_sign pm_with_either_sign cd_with_either_sign ct_with_either_sign:Value}
  {f_law_number:Addr} {od_law_number an_law_number:Option Addr} {sl_law_number:Array (Option Value)} {oc_law_number kV_law_number dc_law_number pm_law_number cd_law_number ct_law_number:Value}
  {f_law_row:Addr} {od_law_row an_law_row:Option Addr} {sl_law_row:Array (Option Value)} {oc_law_row kV_law_row dc_law_row pm_law_row cd_law_row ct_law_row:Value}
  {f_law_choices:Addr} {od_law_choices an_law_choices:Option Addr} {sl_law_choices:Array (Option Value)} {oc_law_choices kV_law_choices dc_law_choices pm_law_choices cd_law_choices ct_law_choices:Value}
  {f_law_worth:Addr} {od_law_worth an_law_worth:Option Addr} {sl_law_worth:Array (Option Value)} {oc_law_worth kV_law_worth dc_law_worth pm_law_worth cd_law_worth ct_law_worth:Value}
  {f_law_wishes:Addr} {od_law_wishes an_law_wishes:Option Addr} {sl_law_wishes:Array (Option Value)} {oc_law_wishes kV_law_wishes dc_law_wishes pm_law_wishes cd_law_wishes ct_law_wishes:Value}
  {f_law_refused:Addr} {od_law_refused an_law_refused:Option Addr} {sl_law_refused:Array (Option Value)} {oc_law_refused kV_law_refused dc_law_refused pm_law_refused cd_law_refused ct_law_refused:Value}
  {f_law_at:Addr} {od_law_at an_law_at:Option Addr} {sl_law_at:Array (Option Value)} {oc_law_at kV_law_at dc_law_at pm_law_at cd_law_at ct_law_at:Value}
  {f_law_places_right:Addr} {od_law_places_right an_law_places_right:Option Addr} {sl_law_places_right:Array (Option Value)} {oc_law_places_right kV_law_places_right dc_law_places_right pm_law_places_right cd_law_places_right ct_law_places_right:Value}
  {f_law_whole:Addr} {od_law_whole an_law_whole:Option Addr} {sl_law_whole:Array (Option Value)} {oc_law_whole kV_law_whole dc_law_whole pm_law_whole cd_law_whole ct_law_whole:Value}
  {f_law_short_right:Addr} {od_law_short_right an_law_short_right:Option Addr} {sl_law_short_right:Array (Option Value)} {oc_law_short_right kV_law_short_right dc_law_short_right pm_law_short_right cd_law_short_right ct_law_short_right:Value}
  {f_law_long_right:Addr} {od_law_long_right an_law_long_right:Option Addr} {sl_law_long_right:Array (Option Value)} {oc_law_long_right kV_law_long_right dc_law_long_right pm_law_long_right cd_law_long_right ct_law_long_right:Value}
  {f_law:Addr} {od_law an_law:Option Addr} {sl_law:Array (Option Value)} {oc_law kV_law dc_law pm_law cd_law ct_law:Value}
  {d_PUT:Addr} {es_PUT:Array DictEntry} {n_PUT:Nat}
  {C_WishError N_WishError:Addr} {nm_WishError qn_WishError:Str} {bs_WishError sub_WishError:List Value} {sn_WishError:List Str} {ab_WishError:Bool} {col_WishError:Option Bool} {dd_WishError:Option Addr} {k0_WishError k1_WishError k2_WishError k3_WishError k5_WishError:Option Value}
  {C_NoText N_NoText:Addr} {nm_NoText qn_NoText:Str} {bs_NoText sub_NoText:List Value} {sn_NoText:List Str} {ab_NoText:Bool} {col_NoText:Option Bool} {dd_NoText:Option Addr} {k0_NoText k1_NoText k2_NoText k3_NoText k5_NoText:Option Value} {bm_NoText:List Value}
  {C_NoAsk N_NoAsk:Addr} {nm_NoAsk qn_NoAsk:Str} {bs_NoAsk sub_NoAsk:List Value} {sn_NoAsk:List Str} {ab_NoAsk:Bool} {col_NoAsk:Option Bool} {dd_NoAsk:Option Addr} {k0_NoAsk k1_NoAsk k2_NoAsk k3_NoAsk k5_NoAsk:Option Value} {bm_NoAsk:List Value}
  {C_NoWay N_NoWay:Addr} {nm_NoWay qn_NoWay:Str} {bs_NoWay sub_NoWay:List Value} {sn_NoWay:List Str} {ab_NoWay:Bool} {col_NoWay:Option Bool} {dd_NoWay:Option Addr} {k0_NoWay k1_NoWay k2_NoWay k3_NoWay k5_NoWay:Option Value} {bm_NoWay:List Value}
  {f_init:Addr}
  {od_init an_init:Option Addr} {sl_init:Array (Option Value)} {oc_init kV_init dc_init pm_init cd_init ct_init:Value}
  {t_SIGNS:Addr} {ttSIGNS0 ttSIGNS1 ttSIGNS2:Tok} {ns_SIGNS:Nat} {od_SIGNS:Option Addr} {sl_SIGNS:Array (Option Value)}
  {t_FIGURE_SIGNS:Addr} {ttFIGURE_SIGNS0 ttFIGURE_SIGNS1 ttFIGURE_SIGNS2:Tok} {ns_FIGURE_SIGNS:Nat} {od_FIGURE_SIGNS:Option Addr} {sl_FIGURE_SIGNS:Array (Option Value)}
  (a_plus:PySem.W.nsIn K mainGlobals "plus"=some (some (.ref f_plus))) (l_plus:K.lookup f_plus=some ⟨oc_plus,od_plus,.func (PySem.W.fnOf "plus" "plus" (zQ aAS) (zO aAS) (zF aAS) .none kV_plus dc_plus pm_plus an_plus cd_plus ct_plus),sl_plus⟩) (c_plus:PySem.W.codeIn K cd_plus "plus"=true) (k_plus:PySem.W.keepIn K (.ref f_plus)=true)
  (a_less:PySem.W.nsIn K mainGlobals "less"=some (some (.ref f_less))) (l_less:K.lookup f_less=some ⟨oc_less,od_less,.func (PySem.W.fnOf "less" "less" (zQ aAT) (zO aAT) (zF aAT) .none kV_less dc_less pm_less an_less cd_less ct_less),sl_less⟩) (c_less:PySem.W.codeIn K cd_less "less"=true) (k_less:PySem.W.keepIn K (.ref f_less)=true)
  (a_times:PySem.W.nsIn K mainGlobals "times"=some (some (.ref f_times))) (l_times:K.lookup f_times=some ⟨oc_times,od_times,.func (PySem.W.fnOf "times" "times" (zQ jX) (zO jX) (zF jX) .none kV_times dc_times pm_times an_times cd_times ct_times),sl_times⟩) (c_times:PySem.W.codeIn K cd_times "times"=true) (k_times:PySem.W.keepIn K (.ref f_times)=true)
  (a_together:PySem.W.nsIn K mainGlobals "together"=some (some (.ref f_together))) (l_together:K.lookup f_together=some ⟨oc_together,od_together,.func (PySem.W.fnOf "together" "together" (zQ ye) (zO ye) (zF ye) .none kV_together dc_together pm_together an_together cd_together ct_together),sl_together⟩) (c_together:PySem.W.codeIn K cd_together "together"=true) (k_together:PySem.W.keepIn K (.ref f_together)=true)
  (a_ways_between:PySem.W.nsIn K mainGlobals "ways_between"=some (some (.ref f_ways_between))) (l_ways_between:K.lookup f_ways_between=some ⟨oc_ways_between,od_ways_between,.func (PySem.W.fnOf "ways_between" "ways_between" (zQ zt) (zO zt) (zF zt) .none kV_ways_between dc_ways_between pm_ways_between an_ways_between cd_ways_between ct_ways_between),sl_ways_between⟩) (c_ways_between:PySem.W.codeIn K cd_ways_between "ways_between"=true) (k_ways_between:PySem.W.keepIn K (.ref f_ways_between)=true)
  (a_put_next:PySem.W.nsIn K mainGlobals "put_next"=some (some (.ref f_put_next))) (l_put_next:K.lookup f_put_next=some ⟨oc_put_next,od_put_next,.func (PySem.W.fnOf "put_next" "put_next" (zQ yg) (zO yg) (zF yg) .none kV_put_next dc_put_next pm_put_next an_put_next cd_put_next ct_put_next),sl_put_next⟩) (c_put_next:PySem.W.codeIn K cd_put_next "put_next"=true) (k_put_next:PySem.W.keepIn K (.ref f_put_next)=true)
  (a_signs_many:PySem.W.nsIn K mainGlobals "signs_many"=some (some (.ref f_signs_many))) (l_signs_many:K.lookup f_signs_many=some ⟨oc_signs_many,od_signs_many,.func (PySem.W.fnOf "signs_many" "signs_many" (zQ yK) (zO yK) (zF yK) .none kV_signs_many dc_signs_many pm_signs_many an_signs_many cd_signs_many ct_signs_many),sl_signs_many⟩) (c_signs_many:PySem.W.codeIn K cd_signs_many "signs_many"=true) (k_signs_many:PySem.W.keepIn K (.ref f_signs_many)=true)
  (a_signs_all:PySem.W.nsIn K mainGlobals "signs_all"=some (some (.ref f_signs_all))) (l_signs_all:K.lookup f_signs_all=some ⟨oc_signs_all,od_signs_all,.func (PySem.W.fnOf "signs_all" "signs_all" (zQ yS) (zO yS) (zF yS) .none kV_signs_all dc_signs_all pm_signs_all an_signs_all cd_signs_all ct_signs_all),sl_signs_all⟩) (c_signs_all:PySem.W.codeIn K cd_signs_all "signs_all"=true) (k_signs_all:PySem.W.keepIn K (.ref f_signs_all)=true)
  (a_signs_at:PySem.W.nsIn K mainGlobals "signs_at"=some (some (.ref f_signs_at))) (l_signs_at:K.lookup f_signs_at=some ⟨oc_signs_at,od_signs_at,.func (PySem.W.fnOf "signs_at" "signs_at" (zQ yh) (zO yh) (zF yh) .none kV_signs_at dc_signs_at pm_signs_at an_signs_at cd_signs_at ct_signs_at),sl_signs_at⟩) (c_signs_at:PySem.W.codeIn K cd_signs_at "signs_at"=true) (k_signs_at:PySem.W.keepIn K (.ref f_signs_at)=true)
  (a_check_place:PySem.W.nsIn K mainGlobals "check_place"=some (some (.ref f_check_place))) (l_check_place:K.lookup f_check_place=some ⟨oc_check_place,od_check_place,.func (PySem.W.fnOf "check_place" "check_place" (zQ yE) (zO yE) (zF yE) .none kV_check_place dc_check_place pm_check_place an_check_place cd_check_place ct_check_place),sl_check_place⟩) (c_check_place:PySem.W.codeIn K cd_check_place "check_place"=true) (k_check_place:PySem.W.keepIn K (.ref f_check_place)=true)
  (a_figures_all:PySem.W.nsIn K mainGlobals "figures_all"=some (some (.ref f_figures_all))) (l_figures_all:K.lookup f_figures_all=some ⟨oc_figures_all,od_figures_all,.func (PySem.W.fnOf "figures_all" "figures_all" (zQ yF) (zO yF) (zF yF) .none kV_figures_all dc_figures_all pm_figures_all an_figures_all cd_figures_all ct_figures_all),sl_figures_all⟩) (c_figures_all:PySem.W.codeIn K cd_figures_all "figures_all"=true) (k_figures_all:PySem.W.keepIn K (.ref f_figures_all)=true)
  (a_sides_many:PySem.W.nsIn K mainGlobals "sides_many"=some (some (.ref f_sides_many))) (l_sides_many:K.lookup f_sides_many=some ⟨oc_sides_many,od_sides_many,.func (PySem.W.fnOf "sides_many" "sides_many" (zQ Sd.s_sides_many) (zO Sd.s_sides_many) (zF Sd.s_sides_many) .none kV_sides_many dc_sides_many pm_sides_many an_sides_many cd_sides_many ct_sides_many),sl_sides_many⟩) (c_sides_many:PySem.W.codeIn K cd_sides_many "sides_many"=true) (k_sides_many:PySem.W.keepIn K (.ref f_sides_many)=true)
  (a_sides_at:PySem.W.nsIn K mainGlobals "sides_at"=some (some (.ref f_sides_at))) (l_sides_at:K.lookup f_sides_at=some ⟨oc_sides_at,od_sides_at,.func (PySem.W.fnOf "sides_at" "sides_at" (zQ Sd.s_sides_at) (zO Sd.s_sides_at) (zF Sd.s_sides_at) .none kV_sides_at dc_sides_at pm_sides_at an_sides_at cd_sides_at ct_sides_at),sl_sides_at⟩) (c_sides_at:PySem.W.codeIn K cd_sides_at "sides_at"=true) (k_sides_at:PySem.W.keepIn K (.ref f_sides_at)=true)
  (a_sides_met:PySem.W.nsIn K mainGlobals "sides_met"=some (some (.ref f_sides_met))) (l_sides_met:K.lookup f_sides_met=some ⟨oc_sides_met,od_sides_met,.func (PySem.W.fnOf "sides_met" "sides_met" (zQ Sd.s_sides_met) (zO Sd.s_sides_met) (zF Sd.s_sides_met) .none kV_sides_met dc_sides_met pm_sides_met an_sides_met cd_sides_met ct_sides_met),sl_sides_met⟩) (c_sides_met:PySem.W.codeIn K cd_sides_met "sides_met"=true) (k_sides_met:PySem.W.keepIn K (.ref f_sides_met)=true)
  (a_sums_behind:PySem.W.nsIn K mainGlobals "sums_behind"=some (some (.ref f_sums_behind))) (l_sums_behind:K.lookup f_sums_behind=some ⟨oc_sums_behind,od_sums_behind,.func (PySem.W.fnOf "sums_behind" "sums_behind" (zQ Sd.s_sums_behind) (zO Sd.s_sums_behind) (zF Sd.s_sums_behind) .none kV_sums_behind dc_sums_behind pm_sums_behind an_sums_behind cd_sums_behind ct_sums_behind),sl_sums_behind⟩) (c_sums_behind:PySem.W.codeIn K cd_sums_behind "sums_behind"=true) (k_sums_behind:PySem.W.keepIn K (.ref f_sums_behind)=true)
  (a_with_either_sign:PySem.W.nsIn K mainGlobals "with_either_sign"=some (some (.ref f_with_either_sign))) (l_with_either_sign:K.lookup f_with_either_sign=some ⟨oc_with_either_sign,od_with_either_sign,.func (PySem.W.fnOf "with_either_sign" "with_either_sign" (zQ Sd.s_with_either_sign) (zO Sd.s_with_either_sign) (zF Sd.s_with_either_sign) .none kV_with_either_sign dc_with_either_sign pm_with_either_sign an_with_either_sign cd_with_either_sign ct_with_either_sign),sl_with_either_sign⟩) (c_with_either_sign:PySem.W.codeIn K cd_with_either_sign "with_either_sign"=true) (k_with_either_sign:PySem.W.keepIn K (.ref f_with_either_sign)=true)
  (a_law_number:PySem.W.nsIn K mainGlobals "_law_number"=some (some (.ref f_law_number))) (l_law_number:K.lookup f_law_number=some ⟨oc_law_number,od_law_number,.func (PySem.W.fnOf "_law_number" "_law_number" (zQ yL) (zO yL) (zF yL) .none kV_law_number dc_law_number pm_law_number an_law_number cd_law_number ct_law_number),sl_law_number⟩) (c_law_number:PySem.W.codeIn K cd_law_number "_law_number"=true) (k_law_number:PySem.W.keepIn K (.ref f_law_number)=true)
  (a_law_row:PySem.W.nsIn K mainGlobals "_law_row"=some (some (.ref f_law_row))) (l_law_row:K.lookup f_law_row=some ⟨oc_law_row,od_law_row,.func (PySem.W.fnOf "_law_row" "_law_row" (zQ yr) (zO yr) (zF yr) .none kV_law_row dc_law_row pm_law_row an_law_row cd_law_row ct_law_row),sl_law_row⟩) (c_law_row:PySem.W.codeIn K cd_law_row "_law_row"=true) (k_law_row:PySem.W.keepIn K (.ref f_law_row)=true)
  (a_law_choices:PySem.W.nsIn K mainGlobals "_law_choices"=some (some (.ref f_law_choices))) (l_law_choices:K.lookup f_law_choices=some ⟨oc_law_choices,od_law_choices,.func (PySem.W.fnOf "_law_choices" "_law_choices" (zQ yG) (zO yG) (zF yG) .none kV_law_choices dc_law_choices pm_law_choices an_law_choices cd_law_choices ct_law_choices),sl_law_choices⟩) (c_law_choices:PySem.W.codeIn K cd_law_choices "_law_choices"=true) (k_law_choices:PySem.W.keepIn K (.ref f_law_choices)=true)
  (a_law_worth:PySem.W.nsIn K mainGlobals "_law_worth"=some (some (.ref f_law_worth))) (l_law_worth:K.lookup f_law_worth=some ⟨oc_law_worth,od_law_worth,.func (PySem.W.fnOf "_law_worth" "_law_worth" (zQ yT) (zO yT) (zF yT) .none kV_law_worth dc_law_worth pm_law_worth an_law_worth cd_law_worth ct_law_worth),sl_law_worth⟩) (c_law_worth:PySem.W.codeIn K cd_law_worth "_law_worth"=true) (k_law_worth:PySem.W.keepIn K (.ref f_law_worth)=true)
  (a_law_wishes:PySem.W.nsIn K mainGlobals "_law_wishes"=some (some (.ref f_law_wishes))) (l_law_wishes:K.lookup f_law_wishes=some ⟨oc_law_wishes,od_law_wishes,.func (PySem.W.fnOf "_law_wishes" "_law_wishes" (zQ yM) (zO yM) (zF yM) .none kV_law_wishes dc_law_wishes pm_law_wishes an_law_wishes cd_law_wishes ct_law_wishes),sl_law_wishes⟩) (c_law_wishes:PySem.W.codeIn K cd_law_wishes "_law_wishes"=true) (k_law_wishes:PySem.W.keepIn K (.ref f_law_wishes)=true)
  (a_law_refused:PySem.W.nsIn K mainGlobals "_law_refused"=some (some (.ref f_law_refused))) (l_law_refused:K.lookup f_law_refused=some ⟨oc_law_refused,od_law_refused,.func (PySem.W.fnOf "_law_refused" "_law_refused" (zQ yH) (zO yH) (zF yH) .none kV_law_refused dc_law_refused pm_law_refused an_law_refused cd_law_refused ct_law_refused),sl_law_refused⟩) (c_law_refused:PySem.W.codeIn K cd_law_refused "_law_refused"=true) (k_law_refused:PySem.W.keepIn K (.ref f_law_refused)=true)
  (a_law_at:PySem.W.nsIn K mainGlobals "_law_at"=some (some (.ref f_law_at))) (l_law_at:K.lookup f_law_at=some ⟨oc_law_at,od_law_at,.func (PySem.W.fnOf "_law_at" "_law_at" (zQ qX) (zO qX) (zF qX) .none kV_law_at dc_law_at pm_law_at an_law_at cd_law_at ct_law_at),sl_law_at⟩) (c_law_at:PySem.W.codeIn K cd_law_at "_law_at"=true) (k_law_at:PySem.W.keepIn K (.ref f_law_at)=true)
  (a_law_places_right:PySem.W.nsIn K mainGlobals "_law_places_right"=some (some (.ref f_law_places_right))) (l_law_places_right:K.lookup f_law_places_right=some ⟨oc_law_places_right,od_law_places_right,.func (PySem.W.fnOf "_law_places_right" "_law_places_right" (zQ zZ) (zO zZ) (zF zZ) .none kV_law_places_right dc_law_places_right pm_law_places_right an_law_places_right cd_law_places_right ct_law_places_right),sl_law_places_right⟩) (c_law_places_right:PySem.W.codeIn K cd_law_places_right "_law_places_right"=true) (k_law_places_right:PySem.W.keepIn K (.ref f_law_places_right)=true)
  (a_law_whole:PySem.W.nsIn K mainGlobals "_law_whole"=some (some (.ref f_law_whole))) (l_law_whole:K.lookup f_law_whole=some ⟨oc_law_whole,od_law_whole,.func (PySem.W.fnOf "_law_whole" "_law_whole" (zQ yU) (zO yU) (zF yU) .none kV_law_whole dc_law_whole pm_law_whole an_law_whole cd_law_whole ct_law_whole),sl_law_whole⟩) (c_law_whole:PySem.W.codeIn K cd_law_whole "_law_whole"=true) (k_law_whole:PySem.W.keepIn K (.ref f_law_whole)=true)
  (a_law_short_right:PySem.W.nsIn K mainGlobals "_law_short_right"=some (some (.ref f_law_short_right))) (l_law_short_right:K.lookup f_law_short_right=some ⟨oc_law_short_right,od_law_short_right,.func (PySem.W.fnOf "_law_short_right" "_law_short_right" (zQ zc) (zO zc) (zF zc) .none kV_law_short_right dc_law_short_right pm_law_short_right an_law_short_right cd_law_short_right ct_law_short_right),sl_law_short_right⟩) (c_law_short_right:PySem.W.codeIn K cd_law_short_right "_law_short_right"=true) (k_law_short_right:PySem.W.keepIn K (.ref f_law_short_right)=true)
  (a_law_long_right:PySem.W.nsIn K mainGlobals "_law_long_right"=some (some (.ref f_law_long_right))) (l_law_long_right:K.lookup f_law_long_right=some ⟨oc_law_long_right,od_law_long_right,.func (PySem.W.fnOf "_law_long_right" "_law_long_right" (zQ zh) (zO zh) (zF zh) .none kV_law_long_right dc_law_long_right pm_law_long_right an_law_long_right cd_law_long_right ct_law_long_right),sl_law_long_right⟩) (c_law_long_right:PySem.W.codeIn K cd_law_long_right "_law_long_right"=true) (k_law_long_right:PySem.W.keepIn K (.ref f_law_long_right)=true)
  (a_law:PySem.W.nsIn K mainGlobals "law"=some (some (.ref f_law))) (l_law:K.lookup f_law=some ⟨oc_law,od_law,.func (PySem.W.fnOf "law" "law" (zQ s_law) (zO s_law) (zF s_law) .none kV_law dc_law pm_law an_law cd_law ct_law),sl_law⟩) (c_law:PySem.W.codeIn K cd_law "law"=true) (k_law:PySem.W.keepIn K (.ref f_law)=true)
  (a_PUT:PySem.W.nsIn K mainGlobals "PUT"=some (some (.ref d_PUT))) (l_PUT:K.lookup d_PUT=some ⟨.type "dict",none,.dict es_PUT n_PUT,#[]⟩) (k_PUT:PySem.W.KeysLit w.params es_PUT.toList)
  (e_PUT_plus:PySem.W.nsIn K d_PUT "+"=some (some (.ref f_plus)))
  (e_PUT_less:PySem.W.nsIn K d_PUT "-"=some (some (.ref f_less)))
  (e_PUT_times:PySem.W.nsIn K d_PUT "*"=some (some (.ref f_times)))
  (e_PUT_fig:PySem.W.nsIn K d_PUT ""=some (some (.ref f_together)))
  (a_WishError:PySem.W.nsIn K mainGlobals "WishError"=some (some (.ref C_WishError)))
  (l_WishError:K.lookup C_WishError=some (excClassObj nm_WishError qn_WishError C_WishError N_WishError bs_WishError vMro true sn_WishError sub_WishError ab_WishError col_WishError dd_WishError k0_WishError k1_WishError k2_WishError k3_WishError k5_WishError "ValueError.__new__"))
  (t_WishError:PySem.W.tailIn K vMro vMro=true)
  (kp_WishError:PySem.W.keepIn K (.ref C_WishError)=true)
  (ga_WishError:PySem.W.findIn K (.ref C_WishError) "__getattribute__"=some (some (.builtin "BaseException.__getattribute__")))
  (gh_WishError:PySem.W.findIn K (.ref C_WishError) "__getattr__"=some none)
  (gc_WishError:PySem.W.findIn K (.ref C_WishError) "__class__"=some (some (.builtin "object.__class__")))
  (sa_WishError:PySem.W.findIn K (.ref C_WishError) "__setattr__"=some (some (.builtin "object.__setattr__")))
  (a_NoText:PySem.W.nsIn K mainGlobals "NoText"=some (some (.ref C_NoText)))
  (l_NoText:K.lookup C_NoText=some (excClassObj nm_NoText qn_NoText C_NoText N_NoText bs_NoText bm_NoText true sn_NoText sub_NoText ab_NoText col_NoText dd_NoText k0_NoText k1_NoText k2_NoText k3_NoText k5_NoText "ValueError.__new__"))
  (t_NoText:PySem.W.tailIn K vMro bm_NoText=true)
  (kp_NoText:PySem.W.keepIn K (.ref C_NoText)=true)
  (ga_NoText:PySem.W.findIn K (.ref C_NoText) "__getattribute__"=some (some (.builtin "BaseException.__getattribute__")))
  (gh_NoText:PySem.W.findIn K (.ref C_NoText) "__getattr__"=some none)
  (gc_NoText:PySem.W.findIn K (.ref C_NoText) "__class__"=some (some (.builtin "object.__class__")))
  (sa_NoText:PySem.W.findIn K (.ref C_NoText) "__setattr__"=some (some (.builtin "object.__setattr__")))
  (a_NoAsk:PySem.W.nsIn K mainGlobals "NoAsk"=some (some (.ref C_NoAsk)))
  (l_NoAsk:K.lookup C_NoAsk=some (excClassObj nm_NoAsk qn_NoAsk C_NoAsk N_NoAsk bs_NoAsk bm_NoAsk true sn_NoAsk sub_NoAsk ab_NoAsk col_NoAsk dd_NoAsk k0_NoAsk k1_NoAsk k2_NoAsk k3_NoAsk k5_NoAsk "ValueError.__new__"))
  (t_NoAsk:PySem.W.tailIn K vMro bm_NoAsk=true)
  (kp_NoAsk:PySem.W.keepIn K (.ref C_NoAsk)=true)
  (ga_NoAsk:PySem.W.findIn K (.ref C_NoAsk) "__getattribute__"=some (some (.builtin "BaseException.__getattribute__")))
  (gh_NoAsk:PySem.W.findIn K (.ref C_NoAsk) "__getattr__"=some none)
  (gc_NoAsk:PySem.W.findIn K (.ref C_NoAsk) "__class__"=some (some (.builtin "object.__class__")))
  (sa_NoAsk:PySem.W.findIn K (.ref C_NoAsk) "__setattr__"=some (some (.builtin "object.__setattr__")))
  (a_NoWay:PySem.W.nsIn K mainGlobals "NoWay"=some (some (.ref C_NoWay)))
  (l_NoWay:K.lookup C_NoWay=some (excClassObj nm_NoWay qn_NoWay C_NoWay N_NoWay bs_NoWay bm_NoWay true sn_NoWay sub_NoWay ab_NoWay col_NoWay dd_NoWay k0_NoWay k1_NoWay k2_NoWay k3_NoWay k5_NoWay "ValueError.__new__"))
  (t_NoWay:PySem.W.tailIn K vMro bm_NoWay=true)
  (kp_NoWay:PySem.W.keepIn K (.ref C_NoWay)=true)
  (ga_NoWay:PySem.W.findIn K (.ref C_NoWay) "__getattribute__"=some (some (.builtin "BaseException.__getattribute__")))
  (gh_NoWay:PySem.W.findIn K (.ref C_NoWay) "__getattr__"=some none)
  (gc_NoWay:PySem.W.findIn K (.ref C_NoWay) "__class__"=some (some (.builtin "object.__class__")))
  (sa_NoWay:PySem.W.findIn K (.ref C_NoWay) "__setattr__"=some (some (.builtin "object.__setattr__")))
  (i_NoText:PySem.W.findIn K (.ref C_NoText) "__init__"=some (some (.builtin "ValueError.__init__")))
  (i_NoAsk:PySem.W.findIn K (.ref C_NoAsk) "__init__"=some (some (.builtin "ValueError.__init__")))
  (i_NoWay:PySem.W.findIn K (.ref C_NoWay) "__init__"=some (some (.ref f_init)))
  (y_init:PySem.W.typeIn K (.ref f_init)=some (.type "function"))
  (l_init:K.lookup f_init=some ⟨oc_init,od_init,.func (PySem.W.fnOf "__init__" "NoWay.__init__" (zQ aAU) (zO aAU) (zF aAU) .none kV_init dc_init pm_init an_init cd_init ct_init),sl_init⟩)
  (cd_ok_init:PySem.W.codeIn K cd_init "NoWay.__init__"=true)
  (k_init:PySem.W.keepIn K (.ref f_init)=true)
  (w_NoWay:PySem.W.findIn K (.ref C_NoWay) "word"=some none)
  (n_W:(Value.ref C_NoWay :: bm_NoWay).contains (.ref C_WishError)=true)
  (n_T:(Value.ref C_NoWay :: bm_NoWay).contains (.ref C_NoText)=false)
  (n_S:(Value.ref C_NoWay :: bm_NoWay).contains (.ref C_NoAsk)=false)
  (t_W:(Value.ref C_NoText :: bm_NoText).contains (.ref C_WishError)=true)
  (t_S:(Value.ref C_NoText :: bm_NoText).contains (.ref C_NoAsk)=false)
  (t_N:(Value.ref C_NoText :: bm_NoText).contains (.ref C_NoWay)=false)
  (s_W:(Value.ref C_NoAsk :: bm_NoAsk).contains (.ref C_WishError)=true)
  (s_T:(Value.ref C_NoAsk :: bm_NoAsk).contains (.ref C_NoText)=false)
  (s_N:(Value.ref C_NoAsk :: bm_NoAsk).contains (.ref C_NoWay)=false)
  (z_ValueError:PySem.W.nsIn K mainGlobals "ValueError"=some none)
  (z_max:PySem.W.nsIn K mainGlobals "max"=some none)
  (z_min:PySem.W.nsIn K mainGlobals "min"=some none)
  (z_list:PySem.W.nsIn K mainGlobals "list"=some none)
  (z_sorted:PySem.W.nsIn K mainGlobals "sorted"=some none)
  (z_set:PySem.W.nsIn K mainGlobals "set"=some none)
  (at_SIGNS:PySem.W.nsIn K mainGlobals "SIGNS"=some (some (.ref t_SIGNS)))
  (lt_SIGNS:K.lookup t_SIGNS=some ⟨.type "tuple",od_SIGNS,.seq #[.str "+" ttSIGNS0,.str "-" ttSIGNS1,.str "*" ttSIGNS2] ns_SIGNS,sl_SIGNS⟩)
  (at_FIGURE_SIGNS:PySem.W.nsIn K mainGlobals "FIGURE_SIGNS"=some (some (.ref t_FIGURE_SIGNS)))
  (lt_FIGURE_SIGNS:K.lookup t_FIGURE_SIGNS=some ⟨.type "tuple",od_FIGURE_SIGNS,.seq #[.str "" ttFIGURE_SIGNS0,.str "+" ttFIGURE_SIGNS1,.str "-" ttFIGURE_SIGNS2] ns_FIGURE_SIGNS,sl_FIGURE_SIGNS⟩)
  (z_len:PySem.W.nsIn K mainGlobals "len"=some none)
  (z_sum:PySem.W.nsIn K mainGlobals "sum"=some none)
  (z_range:PySem.W.nsIn K mainGlobals "range"=some none)
  (z_isinstance:PySem.W.nsIn K mainGlobals "isinstance"=some none)
  (z_int:PySem.W.nsIn K mainGlobals "int"=some none)
  (z_str:PySem.W.nsIn K mainGlobals "str"=some none)
  (z_bool:PySem.W.nsIn K mainGlobals "bool"=some none)
  (z_tuple:PySem.W.nsIn K mainGlobals "tuple"=some none)
  (z_zip:PySem.W.nsIn K mainGlobals "zip"=some none) :
  ∃ fd:FuncData,(∀ (s:Shared) (v:Value),BindsTo s fd ⟨[v],[]⟩ [("script",v)])∧∀ base:Heap,K.In base→base.Ns mainGlobals mg→FnOk l.prog w K mg base CX0 30 fa fd ["script"] (spLaw K):=by
 have e:=hfa.symm.trans (PySem.W.mg_of X G a_law)
 cases e
 have F_plus:=zj (st:=aAS) l_plus c_plus k_plus
 have b_plus:=F_plus.binds (ps:=["done","side","last","number"]) fun _ _ _ _ _ _ us hl=>match us,hl with | [_,_,_,_],_=>rfl
 have m_plus:=PySem.W.mg_of X G a_plus
 have F_less:=zj (st:=aAT) l_less c_less k_less
 have b_less:=F_less.binds (ps:=["done","side","last","number"]) fun _ _ _ _ _ _ us hl=>match us,hl with | [_,_,_,_],_=>rfl
 have m_less:=PySem.W.mg_of X G a_less
 have F_times:=zj (st:=jX) l_times c_times k_times
 have b_times:=F_times.binds (ps:=["done","side","last","number"]) fun _ _ _ _ _ _ us hl=>match us,hl with | [_,_,_,_],_=>rfl
 have m_times:=PySem.W.mg_of X G a_times
 have F_together:=zj (st:=ye) l_together c_together k_together
 have b_together:=F_together.binds (ps:=["done","side","last","number"]) fun _ _ _ _ _ _ us hl=>match us,hl with | [_,_,_,_],_=>rfl
 have m_together:=PySem.W.mg_of X G a_together
 have F_ways_between:=zj (st:=zt) l_ways_between c_ways_between k_ways_between
 have b_ways_between:=F_ways_between.binds (ps:=["row","signs","wish"]) fun _ _ _ _ _ _ us hl=>match us,hl with | [_,_,_],_=>rfl
 have m_ways_between:=PySem.W.mg_of X G a_ways_between
 have F_put_next:=zj (st:=yg) l_put_next c_put_next k_put_next
 have b_put_next:=F_put_next.binds (ps:=["sign","come","number"]) fun _ _ _ _ _ _ us hl=>match us,hl with | [_,_,_],_=>rfl
 have m_put_next:=PySem.W.mg_of X G a_put_next
 have F_signs_many:=zj (st:=yK) l_signs_many c_signs_many k_signs_many
 have b_signs_many:=F_signs_many.binds (ps:=["row","wish"]) fun _ _ _ _ _ _ us hl=>match us,hl with | [_,_],_=>rfl
 have m_signs_many:=PySem.W.mg_of X G a_signs_many
 have F_signs_all:=zj (st:=yS) l_signs_all c_signs_all k_signs_all
 have b_signs_all:=F_signs_all.binds (ps:=["row","wish"]) fun _ _ _ _ _ _ us hl=>match us,hl with | [_,_],_=>rfl
 have m_signs_all:=PySem.W.mg_of X G a_signs_all
 have F_signs_at:=zj (st:=yh) l_signs_at c_signs_at k_signs_at
 have b_signs_at:=F_signs_at.binds (ps:=["row","wish","place"]) fun _ _ _ _ _ _ us hl=>match us,hl with | [_,_,_],_=>rfl
 have m_signs_at:=PySem.W.mg_of X G a_signs_at
 have F_check_place:=zj (st:=yE) l_check_place c_check_place k_check_place
 have b_check_place:=F_check_place.binds (ps:=["place","many"]) fun _ _ _ _ _ _ us hl=>match us,hl with | [_,_],_=>rfl
 have m_check_place:=PySem.W.mg_of X G a_check_place
 have F_figures_all:=zj (st:=yF) l_figures_all c_figures_all k_figures_all
 have b_figures_all:=F_figures_all.binds (ps:=["row","wish"]) fun _ _ _ _ _ _ us hl=>match us,hl with | [_,_],_=>rfl
 have m_figures_all:=PySem.W.mg_of X G a_figures_all
 have F_sides_many:=zj (st:=Sd.s_sides_many) l_sides_many c_sides_many k_sides_many
 have b_sides_many:=F_sides_many.binds (ps:=["row","wish"]) fun _ _ _ _ _ _ us hl=>match us,hl with | [_,_],_=>rfl
 have m_sides_many:=PySem.W.mg_of X G a_sides_many
 have F_sides_at:=zj (st:=Sd.s_sides_at) l_sides_at c_sides_at k_sides_at
 have b_sides_at:=F_sides_at.binds (ps:=["row","wish","place"]) fun _ _ _ _ _ _ us hl=>match us,hl with | [_,_,_],_=>rfl
 have m_sides_at:=PySem.W.mg_of X G a_sides_at
 have F_sides_met:=zj (st:=Sd.s_sides_met) l_sides_met c_sides_met k_sides_met
 have b_sides_met:=F_sides_met.binds (ps:=["row"]) fun _ _ _ _ _ _ us hl=>match us,hl with | [_],_=>rfl
 have m_sides_met:=PySem.W.mg_of X G a_sides_met
 have F_sums_behind:=zj (st:=Sd.s_sums_behind) l_sums_behind c_sums_behind k_sums_behind
 have b_sums_behind:=F_sums_behind.binds (ps:=["row"]) fun _ _ _ _ _ _ us hl=>match us,hl with | [_],_=>rfl
 have m_sums_behind:=PySem.W.mg_of X G a_sums_behind
 have F_with_either_sign:=zj (st:=Sd.s_with_either_sign) l_with_either_sign c_with_either_sign k_with_either_sign
 have b_with_either_sign:=F_with_either_sign.binds (ps:=["many","number"]) fun _ _ _ _ _ _ us hl=>match us,hl with | [_,_],_=>rfl
 have m_with_either_sign:=PySem.W.mg_of X G a_with_either_sign
 have F_law_number:=zj (st:=yL) l_law_number c_law_number k_law_number
 have b_law_number:=F_law_number.binds (ps:=["script","k"]) fun _ _ _ _ _ _ us hl=>match us,hl with | [_,_],_=>rfl
 have m_law_number:=PySem.W.mg_of X G a_law_number
 have F_law_row:=zj (st:=yr) l_law_row c_law_row k_law_row
 have b_law_row:=F_law_row.binds (ps:=["script","start","many","mosts"]) fun _ _ _ _ _ _ us hl=>match us,hl with | [_,_,_,_],_=>rfl
 have m_law_row:=PySem.W.mg_of X G a_law_row
 have F_law_choices:=zj (st:=yG) l_law_choices c_law_choices k_law_choices
 have b_law_choices:=F_law_choices.binds (ps:=["many","signs"]) fun _ _ _ _ _ _ us hl=>match us,hl with | [_,_],_=>rfl
 have m_law_choices:=PySem.W.mg_of X G a_law_choices
 have F_law_worth:=zj (st:=yT) l_law_worth c_law_worth k_law_worth
 have b_law_worth:=F_law_worth.binds (ps:=["row","signs"]) fun _ _ _ _ _ _ us hl=>match us,hl with | [_,_],_=>rfl
 have m_law_worth:=PySem.W.mg_of X G a_law_worth
 have F_law_wishes:=zj (st:=yM) l_law_wishes c_law_wishes k_law_wishes
 have b_law_wishes:=F_law_wishes.binds (ps:=["script","start","worths"]) fun _ _ _ _ _ _ us hl=>match us,hl with | [_,_,_],_=>rfl
 have m_law_wishes:=PySem.W.mg_of X G a_law_wishes
 have F_law_refused:=zj (st:=yH) l_law_refused c_law_refused k_law_refused
 have b_law_refused:=F_law_refused.binds (ps:=["door","row","wish","place"]) fun _ _ _ _ _ _ us hl=>match us,hl with | [_,_,_,_],_=>rfl
 have m_law_refused:=PySem.W.mg_of X G a_law_refused
 have F_law_at:=zj (st:=qX) l_law_at c_law_at k_law_at
 have b_law_at:=F_law_at.binds (ps:=["door","row","wish","place"]) fun _ _ _ _ _ _ us hl=>match us,hl with | [_,_,_,_],_=>rfl
 have m_law_at:=PySem.W.mg_of X G a_law_at
 have F_law_places_right:=zj (st:=zZ) l_law_places_right c_law_places_right k_law_places_right
 have b_law_places_right:=F_law_places_right.binds (ps:=["script","k","door","row","wish","due"]) fun _ _ _ _ _ _ us hl=>match us,hl with | [_,_,_,_,_,_],_=>rfl
 have m_law_places_right:=PySem.W.mg_of X G a_law_places_right
 have F_law_whole:=zj (st:=yU) l_law_whole c_law_whole k_law_whole
 have b_law_whole:=F_law_whole.binds (ps:=["found","due"]) fun _ _ _ _ _ _ us hl=>match us,hl with | [_,_],_=>rfl
 have m_law_whole:=PySem.W.mg_of X G a_law_whole
 have F_law_short_right:=zj (st:=zc) l_law_short_right c_law_short_right k_law_short_right
 have b_law_short_right:=F_law_short_right.binds (ps:=["script","k","door"]) fun _ _ _ _ _ _ us hl=>match us,hl with | [_,_,_],_=>rfl
 have m_law_short_right:=PySem.W.mg_of X G a_law_short_right
 have F_law_long_right:=zj (st:=zh) l_law_long_right c_law_long_right k_law_long_right
 have b_law_long_right:=F_law_long_right.binds (ps:=["script","k"]) fun _ _ _ _ _ _ us hl=>match us,hl with | [_,_],_=>rfl
 have m_law_long_right:=PySem.W.mg_of X G a_law_long_right
 have F_law:=zj (st:=s_law) l_law c_law k_law
 have b_law:=F_law.binds (ps:=["script"]) fun _ _ _ _ _ _ us hl=>match us,hl with | [_],_=>rfl
 have m_law:=PySem.W.mg_of X G a_law
 have B:Blt mg:=⟨PySem.W.mg_none_of X G z_len,PySem.W.mg_none_of X G z_sum,PySem.W.mg_none_of X G z_range,PySem.W.mg_none_of X G z_isinstance,PySem.W.mg_none_of X G z_int,PySem.W.mg_none_of X G z_str,PySem.W.mg_none_of X G z_bool,PySem.W.mg_none_of X G z_tuple,PySem.W.mg_none_of X G z_zip⟩
 refine ⟨PySem.W.fnOf "law" "law" (zQ s_law) (zO s_law) (zF s_law) .none kV_law dc_law pm_law an_law cd_law ct_law,fun s v=>.of_eq rfl,fun base _ _=>?_⟩
 have c_WishError:XC K C_WishError vMro:=⟨⟨_,_,_,_,_,_,_,_,_,_,_,_,_,_,l_WishError⟩,t_WishError,kp_WishError,ga_WishError,gh_WishError,gc_WishError,sa_WishError⟩
 have c_NoText:XC K C_NoText bm_NoText:=⟨⟨_,_,_,_,_,_,_,_,_,_,_,_,_,_,l_NoText⟩,t_NoText,kp_NoText,ga_NoText,gh_NoText,gc_NoText,sa_NoText⟩
 have c_NoAsk:XC K C_NoAsk bm_NoAsk:=⟨⟨_,_,_,_,_,_,_,_,_,_,_,_,_,_,l_NoAsk⟩,t_NoAsk,kp_NoAsk,ga_NoAsk,gh_NoAsk,gc_NoAsk,sa_NoAsk⟩
 have c_NoWay:XC K C_NoWay bm_NoWay:=⟨⟨_,_,_,_,_,_,_,_,_,_,_,_,_,_,l_NoWay⟩,t_NoWay,kp_NoWay,ga_NoWay,gh_NoWay,gc_NoWay,sa_NoWay⟩
 have F_init:=zj (st:=aAU) l_init cd_ok_init k_init
 have b_init:=F_init.binds (ps:=["self","word"]) fun _ _ _ _ _ _ us hl=>match us,hl with | [_,_],_=>rfl
 have R:Refs l.prog w K mg base C_WishError C_NoText C_NoAsk C_NoWay bm_NoText bm_NoAsk bm_NoWay :=
  ⟨c_WishError,c_NoText,c_NoAsk,c_NoWay,PySem.W.mg_of X G a_WishError,PySem.W.mg_of X G a_NoText,PySem.W.mg_of X G a_NoAsk,PySem.W.mg_of X G a_NoWay,i_NoText,i_NoAsk,⟨f_init,_,_,i_NoWay,y_init,aIn F_init c_NoWay w_NoWay,b_init⟩,w_NoWay,n_W,n_T,n_S,t_W,t_S,t_N,s_W,s_T,s_N⟩
 have Bmax:mg "max"=none:=PySem.W.mg_none_of X G z_max
 have Bmin:mg "min"=none:=PySem.W.mg_none_of X G z_min
 have Blist:mg "list"=none:=PySem.W.mg_none_of X G z_list
 have De:PutD l.prog w K mg base d_PUT (famS f_plus f_less f_times f_together):=by
  refine ⟨⟨_,_,l_PUT,k_PUT⟩,PySem.W.mg_of X G a_PUT,fun s hs=>?_,fun s hs=>?_⟩
  ·rcases hs with rfl | rfl | rfl | rfl
   ·rw [famS1]; exact e_PUT_plus
   ·rw [famS2]; exact e_PUT_less
   ·rw [famS3]; exact e_PUT_times
   ·rw [famS4]; exact e_PUT_fig
  ·rcases hs with rfl | rfl | rfl | rfl
   ·rw [famS1]; exact ⟨⟨_,_,aIi F_plus,b_plus⟩,k_plus⟩
   ·rw [famS2]; exact ⟨⟨_,_,aIk F_less,b_less⟩,k_less⟩
   ·rw [famS3]; exact ⟨⟨_,_,aHh F_times,b_times⟩,k_times⟩
   ·rw [famS4]; exact ⟨⟨_,_,aEH F_together B,b_together⟩,k_together⟩
 have Gputn:=mkDef (aIl F_put_next De) b_put_next m_put_next k_put_next
 have Gwb:=mkDef (ok_wb F_ways_between B Gputn) b_ways_between m_ways_between k_ways_between
 have TS:SigT K t_SIGNS:=fun _=>.inr ⟨_,_,_,lt_SIGNS,rfl,rfl,by show 3≤sizeLine; decide,.cons ⟨ttSIGNS0,rfl⟩ (.cons ⟨ttSIGNS1,rfl⟩ (.cons ⟨ttSIGNS2,rfl⟩ .nil))⟩
 have TF:FigT K t_FIGURE_SIGNS:=fun _=>.inr ⟨_,_,_,lt_FIGURE_SIGNS,rfl,rfl,by show 3≤sizeLine; decide,.cons ⟨ttFIGURE_SIGNS0,rfl⟩ (.cons ⟨ttFIGURE_SIGNS1,rfl⟩ (.cons ⟨ttFIGURE_SIGNS2,rfl⟩ .nil))⟩
 have Bsorted:=PySem.W.mg_none_of X G z_sorted
 have Bset:=PySem.W.mg_none_of X G z_set
 have Gall:=mkDef (aJf F_signs_all (PySem.W.mg_of X G at_SIGNS) TS Gwb) b_signs_all m_signs_all k_signs_all
 have Gmany:=mkDef (ok_many F_signs_many B Gall) b_signs_many m_signs_many k_signs_many
 have Gcheck:=mkDef (aHi F_check_place R) b_check_place m_check_place k_check_place
 have oat:=okX_at F_signs_at B Gall Gcheck
 have GatX:=mkDef (oat) b_signs_at m_signs_at k_signs_at
 have Gat:=mkDef (ok_at oat) b_signs_at m_signs_at k_signs_at
 have Gfig:=mkDef (aJg F_figures_all (PySem.W.mg_of X G at_FIGURE_SIGNS) TF Gwb) b_figures_all m_figures_all k_figures_all
 have Gwes:=mkDef (Sd.ok_wes (P:=l.prog) (w:=w) (mg:=mg) (base:=base) F_with_either_sign) b_with_either_sign m_with_either_sign k_with_either_sign
 have Gsb:=mkDef (Sd.ok_sb F_sums_behind Gwes) b_sums_behind m_sums_behind k_sums_behind
 have Gsmany:=mkDef (Sd.ok_many F_sides_many B Gsb) b_sides_many m_sides_many k_sides_many
 have Gsmet:=mkDef (Sd.ok_met F_sides_met B Bsorted Gsb) b_sides_met m_sides_met k_sides_met
 have osat:=Sd.okX_at F_sides_at B Gsb Gcheck
 have GsatX:=mkDef (osat) b_sides_at m_sides_at k_sides_at
 have Gsat:=mkDef (Sd.ok_at osat) b_sides_at m_sides_at k_sides_at
 have Gnum:=mkDef (aJi (P:=l.prog) (w:=w) (base:=base) F_law_number B Bmax Bmin Blist) b_law_number m_law_number k_law_number
 have Grow:=mkDef (aJj F_law_row B Gnum) b_law_row m_law_row k_law_row
 have Gch:=mkDef (ok_ch (P:=l.prog) (w:=w) (base:=base) F_law_choices B) b_law_choices m_law_choices k_law_choices
 have Glw:=mkDef (ok_lw (P:=l.prog) (w:=w) (base:=base) F_law_worth B) b_law_worth m_law_worth k_law_worth
 have Gwi:=mkDef (ok_wi F_law_wishes B Bmax Bmin Gnum) b_law_wishes m_law_wishes k_law_wishes
 have Gref:=mkDef (aJk F_law_refused B R GatX GsatX (PySem.W.mg_none_of X G z_ValueError)) b_law_refused m_law_refused k_law_refused
 have Glat:=mkDef (aJl F_law_at Gat Gsat) b_law_at m_law_at k_law_at
 have Gwh:=mkDef (ok_wh (P:=l.prog) (w:=w) (base:=base) F_law_whole B) b_law_whole m_law_whole k_law_whole
 have Gpr:=mkDef (ok_pr F_law_places_right B Bmax Bsorted Bset Gnum Glat Gref) b_law_places_right m_law_places_right k_law_places_right
 have Gsr:=mkDef (ok_sr F_law_short_right B Bsorted Bset Gnum Grow Gch Glw Gwi Gwh Gpr Gall Gmany Gfig Gsmany Gsmet) b_law_short_right m_law_short_right k_law_short_right
 have Glr:=mkDef (ok_lr F_law_long_right B Bsorted Gnum Grow Gwi Gwh Gref Gsmany Gsmet) b_law_long_right m_law_long_right k_law_long_right
 exact aJm F_law B Gsr Glr
theorem walk {l:PySem.W.OpenLaw} {q:Program} {loose:List Str} {XP:(Str→Option Value)→Heap→Prop} {YP:World→Heap→Prop} {d:DefRec} {K:Params→PySem.W.Frag} (hn:l.most=some 63) (hdf:d.params.defaults=[])
  (hY:∀ (w:World) (h:Heap),YP w h→(K w.params).In h)
  (F:∀ (w:World) (mg:Str→Option Value) (fa:Addr) (h:Heap),(K w.params).In h→h.Ns mainGlobals mg→mg d.name=some (.ref fa) →
   ∃ fd:FuncData,(∀ (s:Shared) (u:Value),BindsTo s fd ⟨[u],[]⟩ [("script",u)])∧∀ base:Heap,(K w.params).In base→base.Ns mainGlobals mg→FnOk l.prog w (K w.params) mg base CX0 30 fa fd ["script"] (spLaw (K w.params))) :
  PySem.W.WalkO q loose XP YP l.row.toRowW d [] (fun f vs=>PySem.call f vs) :=
 L2.walk_of (n:=63) (k:=30) (x:="script") (CX:=fun _=>CX0) (sp:=fun w=>spLaw (K w.params)) hn (by decide) hdf ⟨rfl,by decide,by decide⟩ hY F (fun _ _ a ns hl _ hS=>⟨a,ns,rfl,hS,hl,fun _=>rfl⟩) fun _ _ _ _ _ z=>z
end Law
open PySem PySem.W PyProof.Rows
namespace PySem.W.Fast
def tw338658808420843175:Unit:=()
def tw38984043390742187:Unit:=()
def tw8161047415005523502:Unit:=()
def tw5218875032760289953:Unit:=()
def tw17679831246033644983:Unit:=()
def tw17947642285415895230:Unit:=()
def tw9776380404155907704:Unit:=()
def tw10767918286541038139:Unit:=()
def tw8629788161791881186:Unit:=()
def tw15173900051360319464:Unit:=()
def tw10527973830728898329:Unit:=()
def tw5004974360729022169:Unit:=()
def tw14251976102698889886:Unit:=()
def tw4217777590285427097:Unit:=()
def tw7339797957855960598:Unit:=()
def tw11232277964232113407:Unit:=()
def tw7949400584130170149:Unit:=()
def tw13468316887536267781:Unit:=()
def tw15848656773829851583:Unit:=()
def tw12250377529857288313:Unit:=()
def tw12075526821858688202:Unit:=()
def tw7999095877130659301:Unit:=()
def tw10750649183076946579:Unit:=()
def tw3212324648946849720:Unit:=()
def tw9844681498871837663:Unit:=()
def tw11098885508390016295:Unit:=()
def tw5128069414187150662:Unit:=()
def tw8817330568422533676:Unit:=()
def tw10550533996534676660:Unit:=()
def tw5218261621884774711:Unit:=()
def tw17229127978537569464:Unit:=()
def tw16242359684949300825:Unit:=()
def tw15127732788676428093:Unit:=()
def tw14998632402161198263:Unit:=()
def tw16743397987606307891:Unit:=()
def tw10309356288265907429:Unit:=()
def tw16534088176279752369:Unit:=()
def tw794864287171466932:Unit:=()
def tw16931210760408085628:Unit:=()
def tw5472055857900215886:Unit:=()
def tw12530755138929225515:Unit:=()
def tw11262758731617039117:Unit:=()
def tw15160189573142716532:Unit:=()
def tw9527387292580595123:Unit:=()
def tw4904113236633808071:Unit:=()
def tw16539927321842284584:Unit:=()
def tw9799589913024113856:Unit:=()
def tw16024736329706842301:Unit:=()
def tw413269899219555440:Unit:=()
def tw2253316368352515910:Unit:=()
def tw13774492307066213464:Unit:=()
def tw13944749317974106658:Unit:=()
def tw4163543631638476843:Unit:=()
def tw786112103446334143:Unit:=()
def tw13740456071480331059:Unit:=()
def tw15845995115069786232:Unit:=()
def tw9471018824198897877:Unit:=()
def tw11588636990122045503:Unit:=()
def tw7982927575764716666:Unit:=()
def tw1241659217857865953:Unit:=()
def tw8443668843954351099:Unit:=()
def tw12196198017408808445:Unit:=()
def tw17751008721219719348:Unit:=()
def tw1632135204632102265:Unit:=()
def tw168318304777720547:Unit:=()
def tw652773261122175473:Unit:=()
def tw2949038209775505183:Unit:=()
def tw9118170051147202825:Unit:=()
def tw2255940143134375122:Unit:=()
def tw15097512049201478091:Unit:=()
def tw4756435698981670075:Unit:=()
def tw11918072118961966351:Unit:=()
def tw9479963118165411443:Unit:=()
def tw7131404622027429710:Unit:=()
def tw17327332680271928526:Unit:=()
def tw9403692106417991628:Unit:=()
def tw6347408712119436590:Unit:=()
def tw10270702993352041975:Unit:=()
def tw11273541397553397680:Unit:=()
def tw2355232077032341969:Unit:=()
def tw11984339644636780504:Unit:=()
def tw16478863465042754756:Unit:=()
def tw2627288362070011745:Unit:=()
def tw13924294736516054729:Unit:=()
def tw1973826407131385817:Unit:=()
def tw6807032250310901601:Unit:=()
def tw3072476433535430711:Unit:=()
def tw4464860374965350900:Unit:=()
def tw15606155080537375433:Unit:=()
def tw6475341726783451840:Unit:=()
def tw8354882000828364944:Unit:=()
def tw17280041576458348976:Unit:=()
def tw17307037558334210531:Unit:=()
def tw12865868262725494298:Unit:=()
def tw18097344086000035856:Unit:=()
def tw11109633950950182577:Unit:=()
def tw13501349113785676073:Unit:=()
def tw17203411610704310500:Unit:=()
def tw13693583392412968074:Unit:=()
def tw12720175417694155298:Unit:=()
def tw1796402751930229602:Unit:=()
def tw10979296111805670425:Unit:=()
def tw7460101478970399845:Unit:=()
def tw17462003649213889374:Unit:=()
def tw11548495161755793657:Unit:=()
def tw12198264444026259717:Unit:=()
def tw10129821066268382120:Unit:=()
def tw6133015446113022278:Unit:=()
def tw107198661824163068:Unit:=()
def tw5950513731216493306:Unit:=()
def tw5632443431722251937:Unit:=()
def tw9226461416723202937:Unit:=()
def tw3775010199907069914:Unit:=()
def tw12464634523924281750:Unit:=()
def tw6489038592927057839:Unit:=()
def tw6684325144280277531:Unit:=()
def tw3065372372797773269:Unit:=()
def tw12990687296672155819:Unit:=()
def tw1113955308594255455:Unit:=()
def tw632905932356718533:Unit:=()
def tw4879324431600833984:Unit:=()
def tw17564138396689382020:Unit:=()
def tw9406420100413166636:Unit:=()
def tw17445625690833673052:Unit:=()
def tw1209460121144895604:Unit:=()
def tw9969843827790524152:Unit:=()
def tw5626753210607328134:Unit:=()
def tw5446654260063926385:Unit:=()
def tw8893196752136753522:Unit:=()
def tw15417048085469569050:Unit:=()
def tw7372141093306591959:Unit:=()
def tw17871342956159278910:Unit:=()
def tw2182081105891161132:Unit:=()
def tw10732116380336273079:Unit:=()
def tw11760832453535526629:Unit:=()
def tw18150629831416794602:Unit:=()
def tw14894408443531693977:Unit:=()
def tw16611902325576988946:Unit:=()
def tw14837184718253610240:Unit:=()
def tw6715897859419442968:Unit:=()
def tw5627635064579010381:Unit:=()
def tw7439271308030705836:Unit:=()
def tw4516430403408931553:Unit:=()
def tw13896239357332404157:Unit:=()
def tw9578026232058577105:Unit:=()
def tw7778404829806412297:Unit:=()
def tw15275914487614742043:Unit:=()
def tw2559667749121823454:Unit:=()
def tw16415124276155757912:Unit:=()
end PySem.W.Fast
set_option maxRecDepth 100000 in
set_option maxHeartbeats 0 in
theorem PySem.Challenge.cw_ledtowish_k40_far_wishes_of_signs_holds : PySem.Challenge.rw_ledtowish_k40_far_wishes_of_signs.Holds := by
 w_on; o_law; k_head; (case hw=>w_witness2)
 k_fill
 refine Law.walk (l:=PySem.Challenge.rw_ledtowish_k40_far_wishes_of_signs) rfl rfl (fun w h Y=>PySem.W.kIn_of Y) ?F
 case F =>
  intro w mg fa h KX G hmg
  refine' Law.all_mk KX G hmg ?a_plus ?l_plus ?c_plus ?k_plus ?a_less ?l_less ?c_less ?k_less ?a_times ?l_times ?c_times ?k_times ?a_together ?l_together ?c_together ?k_together ?a_ways_between ?l_ways_between ?c_ways_between ?k_ways_between ?a_put_next ?l_put_next ?c_put_next ?k_put_next ?a_signs_many ?l_signs_many ?c_signs_many ?k_signs_many ?a_signs_all ?l_signs_all ?c_signs_all ?k_signs_all ?a_signs_at ?l_signs_at ?c_signs_at ?k_signs_at ?a_check_place ?l_check_place ?c_check_place ?k_check_place ?a_figures_all ?l_figures_all ?c_figures_all ?k_figures_all ?a_sides_many ?l_sides_many ?c_sides_many ?k_sides_many ?a_sides_at ?l_sides_at ?c_sides_at ?k_sides_at ?a_sides_met ?l_sides_met ?c_sides_met ?k_sides_met ?a_sums_behind ?l_sums_behind ?c_sums_behind ?k_sums_behind ?a_with_either_sign ?l_with_either_sign ?c_with_either_sign ?k_with_either_sign ?a_law_number ?l_law_number ?c_law_number ?k_law_number ?a_law_row ?l_law_row ?c_law_row ?k_law_row ?a_law_choices ?l_law_choices ?c_law_choices ?k_law_choices ?a_law_worth ?l_law_worth ?c_law_worth ?k_law_worth ?a_law_wishes ?l_law_wishes ?c_law_wishes ?k_law_wishes ?a_law_refused ?l_law_refused ?c_law_refused ?k_law_refused ?a_law_at ?l_law_at ?c_law_at ?k_law_at ?a_law_places_right ?l_law_places_right ?c_law_places_right ?k_law_places_right ?a_law_whole ?l_law_whole ?c_law_whole ?k_law_whole ?a_law_short_right ?l_law_short_right ?c_law_short_right ?k_law_short_right ?a_law_long_right ?l_law_long_right ?c_law_long_right ?k_law_long_right ?a_law ?l_law ?c_law ?k_law ?a_PUT ?l_PUT ?k_PUT ?e_PUT_plus ?e_PUT_less ?e_PUT_times ?e_PUT_fig ?a_WishError ?l_WishError ?t_WishError ?kp_WishError ?ga_WishError ?gh_WishError ?gc_WishError ?sa_WishError ?a_NoText ?l_NoText ?t_NoText ?kp_NoText ?ga_NoText ?gh_NoText ?gc_NoText ?sa_NoText ?a_NoAsk ?l_NoAsk ?t_NoAsk ?kp_NoAsk ?ga_NoAsk ?gh_NoAsk ?gc_NoAsk ?sa_NoAsk ?a_NoWay ?l_NoWay ?t_NoWay ?kp_NoWay ?ga_NoWay ?gh_NoWay ?gc_NoWay ?sa_NoWay ?i_NoText ?i_NoAsk ?i_NoWay ?y_init ?l_init ?cd_ok_init ?k_init ?w_NoWay ?n_W ?n_T ?n_S ?t_W ?t_S ?t_N ?s_W ?s_T ?s_N ?z_ValueError ?z_max ?z_min ?z_list ?z_sorted ?z_set ?at_SIGNS ?lt_SIGNS ?at_FIGURE_SIGNS ?lt_FIGURE_SIGNS ?z_len ?z_sum ?z_range ?z_isinstance ?z_int ?z_str ?z_bool ?z_tuple ?z_zip
  (case a_plus=>k_is)
  (case l_plus=>k_is)
  (case c_plus=>k_is)
  (case k_plus=>k_is)
  (case a_less=>k_is)
  (case l_less=>k_is)
  (case c_less=>k_is)
  (case k_less=>k_is)
  (case a_times=>k_is)
  (case l_times=>k_is)
  (case c_times=>k_is)
  (case k_times=>k_is)
  (case a_together=>k_is)
  (case l_together=>k_is)
  (case c_together=>k_is)
  (case k_together=>k_is)
  (case a_ways_between=>k_is)
  (case l_ways_between=>k_is)
  (case c_ways_between=>k_is)
  (case k_ways_between=>k_is)
  (case a_put_next=>k_is)
  (case l_put_next=>k_is)
  (case c_put_next=>k_is)
  (case k_put_next=>k_is)
  (case a_signs_many=>k_is)
  (case l_signs_many=>k_is)
  (case c_signs_many=>k_is)
  (case k_signs_many=>k_is)
  (case a_signs_all=>k_is)
  (case l_signs_all=>k_is)
  (case c_signs_all=>k_is)
  (case k_signs_all=>k_is)
  (case a_signs_at=>k_is)
  (case l_signs_at=>k_is)
  (case c_signs_at=>k_is)
  (case k_signs_at=>k_is)
  (case a_check_place=>k_is)
  (case l_check_place=>k_is)
  (case c_check_place=>k_is)
  (case k_check_place=>k_is)
  (case a_figures_all=>k_is)
  (case l_figures_all=>k_is)
  (case c_figures_all=>k_is)
  (case k_figures_all=>k_is)
  (case a_sides_many=>k_is)
  (case l_sides_many=>k_is)
  (case c_sides_many=>k_is)
  (case k_sides_many=>k_is)
  (case a_sides_at=>k_is)
  (case l_sides_at=>k_is)
  (case c_sides_at=>k_is)
  (case k_sides_at=>k_is)
  (case a_sides_met=>k_is)
  (case l_sides_met=>k_is)
  (case c_sides_met=>k_is)
  (case k_sides_met=>k_is)
  (case a_sums_behind=>k_is)
  (case l_sums_behind=>k_is)
  (case c_sums_behind=>k_is)
  (case k_sums_behind=>k_is)
  (case a_with_either_sign=>k_is)
  (case l_with_either_sign=>k_is)
  (case c_with_either_sign=>k_is)
  (case k_with_either_sign=>k_is)
  (case a_law_number=>k_is)
  (case l_law_number=>k_is)
  (case c_law_number=>k_is)
  (case k_law_number=>k_is)
  (case a_law_row=>k_is)
  (case l_law_row=>k_is)
  (case c_law_row=>k_is)
  (case k_law_row=>k_is)
  (case a_law_choices=>k_is)
  (case l_law_choices=>k_is)
  (case c_law_choices=>k_is)
  (case k_law_choices=>k_is)
  (case a_law_worth=>k_is)
  (case l_law_worth=>k_is)
  (case c_law_worth=>k_is)
  (case k_law_worth=>k_is)
  (case a_law_wishes=>k_is)
  (case l_law_wishes=>k_is)
  (case c_law_wishes=>k_is)
  (case k_law_wishes=>k_is)
  (case a_law_refused=>k_is)
  (case l_law_refused=>k_is)
  (case c_law_refused=>k_is)
  (case k_law_refused=>k_is)
  (case a_law_at=>k_is)
  (case l_law_at=>k_is)
  (case c_law_at=>k_is)
  (case k_law_at=>k_is)
  (case a_law_places_right=>k_is)
  (case l_law_places_right=>k_is)
  (case c_law_places_right=>k_is)
  (case k_law_places_right=>k_is)
  (case a_law_whole=>k_is)
  (case l_law_whole=>k_is)
  (case c_law_whole=>k_is)
  (case k_law_whole=>k_is)
  (case a_law_short_right=>k_is)
  (case l_law_short_right=>k_is)
  (case c_law_short_right=>k_is)
  (case k_law_short_right=>k_is)
  (case a_law_long_right=>k_is)
  (case l_law_long_right=>k_is)
  (case c_law_long_right=>k_is)
  (case k_law_long_right=>k_is)
  (case a_law=>k_is)
  (case l_law=>k_is)
  (case c_law=>k_is)
  (case k_law=>k_is)
  (case a_PUT=>k_is)
  (case l_PUT=>k_is)
  (case k_PUT=>k_keys)
  (case e_PUT_plus=>k_is)
  (case e_PUT_less=>k_is)
  (case e_PUT_times=>k_is)
  (case e_PUT_fig=>k_is)
  (case a_WishError=>k_is)
  (case l_WishError=>k_is)
  (case t_WishError=>kernel_rfl)
  (case kp_WishError=>k_is)
  (case ga_WishError=>k_is)
  (case gh_WishError=>k_is)
  (case gc_WishError=>k_is)
  (case sa_WishError=>k_is)
  (case a_NoText=>k_is)
  (case l_NoText=>k_is)
  (case t_NoText=>kernel_rfl)
  (case kp_NoText=>k_is)
  (case ga_NoText=>k_is)
  (case gh_NoText=>k_is)
  (case gc_NoText=>k_is)
  (case sa_NoText=>k_is)
  (case a_NoAsk=>k_is)
  (case l_NoAsk=>k_is)
  (case t_NoAsk=>kernel_rfl)
  (case kp_NoAsk=>k_is)
  (case ga_NoAsk=>k_is)
  (case gh_NoAsk=>k_is)
  (case gc_NoAsk=>k_is)
  (case sa_NoAsk=>k_is)
  (case a_NoWay=>k_is)
  (case l_NoWay=>k_is)
  (case t_NoWay=>kernel_rfl)
  (case kp_NoWay=>k_is)
  (case ga_NoWay=>k_is)
  (case gh_NoWay=>k_is)
  (case gc_NoWay=>k_is)
  (case sa_NoWay=>k_is)
  (case i_NoText=>k_is)
  (case i_NoAsk=>k_is)
  (case i_NoWay=>k_is)
  (case y_init=>k_is)
  (case l_init=>k_is)
  (case cd_ok_init=>k_is)
  (case k_init=>k_is)
  (case w_NoWay=>k_is)
  (case n_W=>decide +kernel)
  (case n_T=>decide +kernel)
  (case n_S=>decide +kernel)
  (case t_W=>decide +kernel)
  (case t_S=>decide +kernel)
  (case t_N=>decide +kernel)
  (case s_W=>decide +kernel)
  (case s_T=>decide +kernel)
  (case s_N=>decide +kernel)
  (case z_ValueError=>k_is)
  (case z_max=>k_is)
  (case z_min=>k_is)
  (case z_list=>k_is)
  (case z_sorted=>k_is)
  (case z_set=>k_is)
  (case at_SIGNS=>k_is)
  (case lt_SIGNS=>k_is)
  (case at_FIGURE_SIGNS=>k_is)
  (case lt_FIGURE_SIGNS=>k_is)
  (case z_len=>k_is)
  (case z_sum=>k_is)
  (case z_range=>k_is)
  (case z_isinstance=>k_is)
  (case z_int=>k_is)
  (case z_str=>k_is)
  (case z_bool=>k_is)
  (case z_tuple=>k_is)
  (case z_zip=>k_is)
#print axioms PySem.Challenge.cw_ledtowish_k40_far_wishes_of_signs_holds
