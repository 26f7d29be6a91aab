import PyProof.Rows.All
import Wide.All
import OpenK.AllK
import Wide.FinOn
import Lean
import PyProof.EqAt
import PyProof.EqKinds
import PyProof.TupleCall
import PyProof.NeKinds
import PyProof.ZipIter
import KE.KIntText
import PyProof.StrLawsIn
import PyProof.DictItems
import PyProof.Draws
import PyProof.EnumStmt
import PyProof.Rows.SortShellK
import PyProof.Rows.CallKwBuiltin
import PyProof.Rows.TupIn
import PyProof.NsDelKeeps
import PyProof.StrWalks
import PyProof.StrCalls6
import PyProof.MeetsStr3
import PySem.Challenge.RW_ledtowish_k09_forms_let
set_option Elab.async false
set_option linter.all false
set_option maxRecDepth 100000
namespace L2
open PySem PySem.Spec PyProof.Rows
noncomputable abbrev Key:=Sum Int Str
noncomputable def keyIs:Key→Value→Bool
 | .inl k,v=>Value.isInt k v
 | .inr x,v=>Value.isStrOf x v
noncomputable def keyH (w:World):Key→Int
 | .inl k=>hashInt k
 | .inr x=>hashStr w x
theorem keyIs_shape:∀ {k:Key} {v:Value},keyIs k v=true→(∃ i t,k=Sum.inl i∧v=Value.int i t)∨(∃ x t,k=Sum.inr x∧v=Value.str x t)
 | .inl i,v,h=>by
  obtain ⟨t,e⟩:=Value.isInt_shape (k:=i) (v:=v) h
  exact .inl ⟨i,t,rfl,e⟩
 | .inr x,v,h=>by
  obtain ⟨t,e⟩:=Value.isStrOf_shape (x:=x) (v:=v) h
  exact .inr ⟨x,t,rfl,e⟩
theorem key_ll (a b:Int):decide ((Sum.inl a:Key)=Sum.inl b)=(a == b):=by
 by_cases e:a=b
 ·subst e; simp
 ·have h:¬ (Sum.inl a:Key)=Sum.inl b:=fun q=>e (Sum.inl.inj q)
  rw [decide_eq_false h]
  exact (beq_eq_false_iff_ne.mpr e).symm
theorem key_rr (a b:Str):decide ((Sum.inr a:Key)=Sum.inr b)=decide (a=b):=by
 by_cases e:a=b
 ·subst e; simp
 ·have h:¬ (Sum.inr a:Key)=Sum.inr b:=fun q=>e (Sum.inr.inj q)
  rw [decide_eq_false h,decide_eq_false e]
theorem key_lr (a:Int) (b:Str):decide ((Sum.inl a:Key)=Sum.inr b)=false:=decide_eq_false (fun q=>nomatch q)
theorem key_rl (a:Str) (b:Int):decide ((Sum.inr a:Key)=Sum.inl b)=false:=decide_eq_false (fun q=>nomatch q)
noncomputable def mixKind (prog:Program) (w:World):PySem.KeyKind prog w Key where
 is:=keyIs
 hash:=keyH w
 inj:=fun v a b ha hb=>by
  rcases keyIs_shape ha with ⟨i,t,rfl,rfl⟩ | ⟨x,t,rfl,rfl⟩
  ·rcases keyIs_shape hb with ⟨j,u,rfl,e⟩ | ⟨y,u,rfl,e⟩
   ·injection e with e1 _; rw [e1]
   ·exact nomatch e
  ·rcases keyIs_shape hb with ⟨j,u,rfl,e⟩ | ⟨y,u,rfl,e⟩
   ·exact nomatch e
   ·injection e with e1 _; rw [e1]
 byValue:=fun k v h=>by
  rcases keyIs_shape h with ⟨i,t,rfl,rfl⟩ | ⟨x,t,rfl,rfl⟩ <;> rfl
 pyHash:=fun hv h=>by
  rcases keyIs_shape hv with ⟨i,t,rfl,rfl⟩ | ⟨x,t,rfl,rfl⟩
  ·exact wpAny_pyHash_int h
  ·exact wpAny_pyHash_str h
 eqBool:=fun hu hv h=>by
  rcases keyIs_shape hu with ⟨i,t,rfl,rfl⟩ | ⟨x,t,rfl,rfl⟩
  ·rcases keyIs_shape hv with ⟨j,u,rfl,rfl⟩ | ⟨y,u,rfl,rfl⟩
   ·rw [key_ll] at h; exact wpAny_eqBool_int h
   ·rw [key_lr] at h; exact SeqAt.EqAt.int_str i t y u _ _ _ _ h
  ·rcases keyIs_shape hv with ⟨j,u,rfl,rfl⟩ | ⟨y,u,rfl,rfl⟩
   ·rw [key_rl] at h; exact SeqAt.EqAt.str_int x t j u _ _ _ _ h
   ·rw [key_rr] at h; exact wpAny_eqBool_str h
 «strs»:=fun k x t v h=>by
  rcases keyIs_shape h with ⟨i,u,rfl,e⟩ | ⟨y,u,rfl,e⟩
  ·exact nomatch e
  ·injection e with e1 _
   subst e1
   cases v <;> rfl
end L2
namespace L2
open PySem PySem.Spec PyProof.Rows
inductive V where
 | non | bl (b:Bool) | int (i:Int) | str (x:Str) | byt (b:Array UInt8) | flt (b:UInt64) | ref (a:Addr) | ty (n:String)
 deriving DecidableEq
noncomputable def RelV:V→Value→Prop
 | .non,u=>u=Value.none
 | .bl b,u=>u=Value.bool b
 | .int i,u=>∃ t,u=Value.int i t
 | .str x,u=>∃ t,u=Value.str x t
 | .byt b,u=>∃ t,u=Value.bytes b t
 | .flt b,u=>∃ t,u=Value.float b t
 | .ref a,u=>u=Value.ref a
 | .ty n,u=>u=Value.type n
noncomputable abbrev Vals:List V→List Value→Prop:=Paired RelV
theorem Vals.length {xs:List V} {us:List Value} (r:Vals xs us):xs.length=us.length:=Paired.length r
theorem Vals.get:∀ {xs:List V} {us:List Value} {i:Nat} {x:V},Vals xs us→xs[i]?=some x→∃ u,us[i]?=some u∧RelV x u
 | _,_,_,_,.nil,e=>by simp at e
 | _,_,0,_,.cons r _,e=>by simp at e; subst e; exact ⟨_,rfl,r⟩
 | _,_,i + 1,x,.cons _ t,e=>by
  obtain ⟨u,h1,h2⟩:=Vals.get (i:=i) (x:=x) t (by simpa using e)
  exact ⟨u,by simpa using h1,h2⟩
theorem Vals.set {x:V} {u:Value} (r:RelV x u):∀ {xs:List V} {us:List Value} (i:Nat),Vals xs us→Vals (xs.set i x) (us.set i u)
 | _,_,_,.nil=>.nil
 | _,_,0,.cons _ t=>.cons r t
 | _,_,i + 1,.cons q t=>.cons q (Vals.set r i t)
theorem Vals.append:∀ {xs ys:List V} {us ws:List Value},Vals xs us→Vals ys ws→Vals (xs++ys) (us++ws)
 | _,_,_,_,.nil,s=>s
 | _,_,_,_,.cons r t,s=>.cons r (Vals.append t s)
theorem Vals.take:∀ {xs:List V} {us:List Value} (n:Nat),Vals xs us→Vals (xs.take n) (us.take n)
 | _,_,0,_=>.nil
 | _,_,_ + 1,.nil=>.nil
 | _,_,n + 1,.cons r t=>.cons r (Vals.take n t)
theorem Vals.drop:∀ {xs:List V} {us:List Value} (n:Nat),Vals xs us→Vals (xs.drop n) (us.drop n)
 | _,_,0,r=>r
 | _,_,_ + 1,.nil=>.nil
 | _,_,n + 1,.cons _ t=>Vals.drop n t
noncomputable def RelO:Option V→Option Value→Prop
 | some v,some u=>RelV v u
 | none,none=>True
 | _,_=>False
noncomputable def KV {κ:Type}:List (κ×V)→List (κ×Value)→Prop:=Paired fun (p:κ×V) (q:κ×Value)=>p.1=q.1∧RelV p.2 q.2
noncomputable def kV:Key→V
 | .inl i=>.int i
 | .inr x=>.str x
inductive HO where
 | lst (xs:List V)
 | tup (xs:List V)
 | dK (kvs:List (Key×V)) | dT (kvs:List (List Key×V))
 | set (S:Int→Bool) (n:Nat)
 | ins (C dx:Addr) (fs:List (Str×V))
 | own (x:Addr)
 | xd (fs:List (Str×V))
 | met (f x:Addr)
 | rng (lo hi:Int)
 | frz (o:Obj) (u:HO)
 | tbl (ps:Array Value)
 | ext (φ:Heap→Prop)
noncomputable abbrev Hp:=Addr→Option HO
noncomputable def upd (H:Hp) (a:Addr) (o:HO):Hp:=fun b=>if b=a then some o else H b
theorem upd_same {H:Hp} {a:Addr} {o:HO}:upd H a o a=some o:=by unfold upd; rw [if_pos rfl]
theorem upd_ne {H:Hp} {a b:Addr} {o:HO} (h:b≠a):upd H a o b=H b:=by unfold upd; rw [if_neg h]
theorem upd_upd {H:Hp} {a:Addr} {o u:HO}:upd (upd H a o) a u=upd H a u:=by
 funext b; unfold upd; split <;> rfl
theorem ne_of_none {H:Hp} {a b:Addr} {o:HO} (h:H a=some o) (h':H b=none):a≠b:=by
 intro e; subst e; rw [h] at h'; cases h'
section
variable (P:Program) (w:World)
noncomputable def ObjOk (H:Hp) (h:Heap) (a:Addr):HO→Prop
 | .lst xs=>xs.length≤sizeLine∧∃ (its:List Value) (n:Nat),Vals xs its∧h.get? a=some { cls:=.type "list",data:=.seq its.toArray n }
 | .tup xs=>xs.length≤sizeLine∧∃ its:List Value,Vals xs its∧IsTup h a its.toArray
 | .dK kvs=>kvs.length≤sizeLine∧(a == sysModules)=false∧∃ vs,KV kvs vs∧h.DictOf (mixKind P w) a vs
 | .dT kvs=>kvs.length≤sizeLine∧(a == sysModules)=false∧∃ xs:List (List Key×Addr×Value),
   Paired (fun (p:List Key×V) (q:List Key×Addr×Value)=>p.1=q.1∧H q.2.1=some (.tup (p.1.map kV))∧RelV p.2 q.2.2) kvs xs ∧
   ∃ o es ep,h.get? a=some o∧o.ExactDict∧o.data=.dict es ep∧es.toList=xs.map (entryOfKey (tupleKind (mixKind P w)))∧(xs.map (·.1)).Nodup
 | .set S n=>h.SetOf (intKind P w) a S n
 | .ins C dx fs=>H dx=some (.own a)∧fs.length≤1000∧dx≠a∧h.get? a=some (PySem.W.instObj C dx) ∧
   ∃ mA,h.Ns1 dx mA∧(∀ f,RelO (fs.lookup f) (mA f))∧PySem.Within mA (fs.map (·.1))
 | .own _=>∃ o,h.get? a=some o
 | .xd fs=>∃ mA,h.Ns1 a mA∧∀ f,RelO (fs.lookup f) (mA f)
 | .rng lo hi=>∃ t u v,h.get? a=some { cls:=.type "range",data:=.fields #[.int lo t,.int hi u,.int 1 v] }
 | .frz o u=>h.get? a=some o∧ObjOk H h a u
 | .tbl ps=>h.get? a=some { cls:=.none,data:=.fields ps }
 | .met f x=>h.get? a=some (PySem.W.methodObj (.ref f) (.ref x))
 | .ext φ=>φ h∧(∃ o,h.get? a=some o)∧∀ h1 h2:Heap,φ h1→(∀ o,h1.get? a=some o→h2.get? a=some o)→φ h2
noncomputable def HOk (H:Hp) (h:Heap):Prop:=∀ a o,H a=some o→ObjOk P w H h a o
end
section
variable {P:Program} {w:World} {H H':Hp} {h h':Heap} {a:Addr} {o:HO}
theorem ObjOk.lt (x:ObjOk P w H h a o):a < h.objs.size:=by
 cases o with
 | lst xs=>obtain ⟨_,_,_,_,e⟩:=x; exact Heap.lt_size e
 | tup xs=>obtain ⟨_,_,_,p⟩:=x; exact p.lt
 | dK kvs=>obtain ⟨_,_,_,_,o,_,_,e,_⟩:=x; exact Heap.lt_size e
 | dT kvs=>obtain ⟨_,_,_,_,o,_,_,e,_⟩:=x; exact Heap.lt_size e
 | set S n=>obtain ⟨o,_,_,_,e,_⟩:=x; exact Heap.lt_size e
 | ins C dx fs=>obtain ⟨_,_,_,e,_⟩:=x; exact Heap.lt_size e
 | own y=>obtain ⟨_,e⟩:=x; exact Heap.lt_size e
 | xd fs=>obtain ⟨_,⟨_,_,_,e,_⟩,_⟩:=x; exact Heap.lt_size e
 | rng lo hi=>obtain ⟨_,_,_,e⟩:=x; exact Heap.lt_size e
 | frz ob u=>obtain ⟨e,_⟩:=x; exact Heap.lt_size e
 | tbl ps=>exact Heap.lt_size (show h.get? a=some _ from x)
 | met f y=>exact Heap.lt_size (show h.get? a=some _ from x)
 | ext φ=>obtain ⟨_,⟨_,e⟩,_⟩:=x; exact Heap.lt_size e
theorem Paired.mapP {α β:Type} {F G:α→β→Prop}:∀ {l₁:List α} {l₂:List β},Paired F l₁ l₂→(∀ a b,F a b→G a b)→Paired G l₁ l₂
 | _,_,.nil,_=>.nil
 | _,_,.cons r t,f=>.cons (f _ _ r) (Paired.mapP t f)
theorem ObjOk.stay (x:ObjOk P w H h a o) (k:∀ b u,(b=a∨H b=some (.own a))→h.get? b=some u→h'.get? b=some u)
  (ho:∀ b,H b=some (.own a)→H' b=some (.own a)) (ht:∀ b xs,H b=some (.tup xs)→H' b=some (.tup xs)):ObjOk P w H' h' a o:=by
 induction o with
 | lst xs=>obtain ⟨z,its,n,r,e⟩:=x; exact ⟨z,its,n,r,k _ _ (.inl rfl) e⟩
 | tup xs=>obtain ⟨z,its,r,ob,e,c⟩:=x; exact ⟨z,its,r,ob,k _ _ (.inl rfl) e,c⟩
 | dK kvs=>obtain ⟨z,y,vs,r,ob,es,ep,e,c⟩:=x; exact ⟨z,y,vs,r,ob,es,ep,k _ _ (.inl rfl) e,c⟩
 | dT kvs =>
  obtain ⟨z,y,xs,r,ob,es,ep,e,c⟩:=x
  exact ⟨z,y,xs,Paired.mapP r fun p q z=>⟨z.1,ht _ _ z.2.1,z.2.2⟩,ob,es,ep,k _ _ (.inl rfl) e,c⟩
 | set S n=>obtain ⟨ob,es,ep,t,e,c⟩:=x; exact ⟨ob,es,ep,t,k _ _ (.inl rfl) e,c⟩
 | ins C dx fs =>
  obtain ⟨d,z,ne,e,mA,⟨od,es,ep,e2,c⟩,r⟩:=x
  exact ⟨ho _ d,z,ne,k _ _ (.inl rfl) e,mA,⟨od,es,ep,k _ _ (.inr d) e2,c⟩,r⟩
 | own y=>obtain ⟨ob,e⟩:=x; exact ⟨ob,k _ _ (.inl rfl) e⟩
 | xd fs=>obtain ⟨mA,⟨od,es,ep,e,c⟩,r⟩:=x; exact ⟨mA,⟨od,es,ep,k _ _ (.inl rfl) e,c⟩,r⟩
 | rng lo hi=>obtain ⟨t,u,v,e⟩:=x; exact ⟨t,u,v,k _ _ (.inl rfl) e⟩
 | frz ob u ih=>obtain ⟨e,q⟩:=x; exact ⟨k _ _ (.inl rfl) e,ih q⟩
 | tbl ps =>
  have e:h.get? a=some { cls:=.none,data:=.fields ps }:=x
  show h'.get? a=some { cls:=.none,data:=.fields ps }
  exact k a _ (.inl rfl) e
 | met f y =>
  have e:h.get? a=some (PySem.W.methodObj (.ref f) (.ref y)):=x
  show h'.get? a=some (PySem.W.methodObj (.ref f) (.ref y))
  exact k a _ (.inl rfl) e
 | ext φ=>obtain ⟨p,⟨o,e⟩,st⟩:=x; exact ⟨st _ _ p fun o q=>k _ _ (.inl rfl) q,⟨o,k _ _ (.inl rfl) e⟩,st⟩
theorem HOk.lt (x:HOk P w H h) (e:H a=some o):a < h.objs.size:=(x a o e).lt
theorem HOk.fresh (x:HOk P w H h) (e:h.objs.size≤a):H a=none:=by
 cases q:H a with
 | none=>rfl
 | some u=>exact absurd (Nat.lt_of_lt_of_le (x.lt q) e) (Nat.lt_irrefl _)
theorem HOk.kept (x:HOk P w H h) (k:∀ b u,h.get? b=some u→h'.get? b=some u):HOk P w H h':=fun a o e =>
 (x a o e).stay (fun b u _ q=>k b u q) (fun _ q=>q) fun _ _ q=>q
theorem HOk.laid (x:HOk P w H h) (k:∀ b u,h.get? b=some u→h'.get? b=some u) (hp:h.objs.size≤a) (new:ObjOk P w (upd H a o) h' a o):HOk P w (upd H a o) h':=fun b u e=>by
 have hn:=x.fresh hp
 by_cases hb:b=a
 ·subst hb; rw [upd_same] at e; cases e; exact new
 ·rw [upd_ne hb] at e
  exact (x b u e).stay (fun c v _ q=>k c v q) (fun c q=>by rw [upd_ne (ne_of_none q hn)]; exact q) fun c xs q=>by rw [upd_ne (ne_of_none q hn)]; exact q
end
noncomputable def Rd (H:Hp) (a:Addr) (u:HO):Prop:=H a=some u∨∃ o,H a=some (.frz o u)
theorem Rd.ok {P:Program} {w:World} {H:Hp} {h:Heap} {a:Addr} {u:HO} (r:Rd H a u) (x:HOk P w H h):ObjOk P w H h a u:=by
 rcases r with r | ⟨o,r⟩
 ·exact x a u r
 ·obtain ⟨_,q⟩:=x a _ r
  exact q
noncomputable def Mut:Option HO→Prop
 | some (.lst _)=>True
 | some (.dK _)=>True
 | some (.dT _)=>True
 | some (.set _ _)=>True
 | some (.ins _ _ _)=>True
 | some (.ext _)=>True
 | _=>False
section
variable {P:Program} {w:World} {H:Hp} {h h':Heap} {x e:Addr} {o':HO}
theorem HOk.write (ok:HOk P w H h) (mu:Mut (H x)) (he:e=x∨H e=some (.own x)) (k:∀ b u,b≠e→h.get? b=some u→h'.get? b=some u) (heo:∃ u,h'.get? e=some u)
  (new:ObjOk P w (upd H x o') h' x o'):HOk P w (upd H x o') h':=fun b u q=>by
 have nown:∀ c y,H c=some (.own y)→c≠x:=fun c y r z=>by subst z; rw [r] at mu; exact mu
 have ntup:∀ c xs,H c=some (.tup xs)→c≠x:=fun c xs r z=>by subst z; rw [r] at mu; exact mu
 by_cases hb:b=x
 ·subst hb; rw [upd_same] at q; cases q; exact new
 ·rw [upd_ne hb] at q
  by_cases hbe:b=e
  ·have q':H b=some (.own x):=by
    rcases he with z | z
    ·exact absurd (hbe.trans z) hb
    ·rw [hbe]; exact z
   rw [q] at q'; cases q'
   obtain ⟨v,hv⟩:=heo
   exact ⟨v,by rw [hbe]; exact hv⟩
  ·refine (ok b u q).stay (fun c v hc r=>k c v ?_ r) (fun c r=>by rw [upd_ne (nown c b r)]; exact r) fun c xs r=>by rw [upd_ne (ntup c xs r)]; exact r
   rcases hc with rfl | hc
   ·exact hbe
   ·rintro rfl
    rcases he with z | z
    ·exact nown c b hc z
    ·rw [hc] at z; cases z; exact hb rfl
end
structure Un (fs ex:List Addr) (H H':Hp) (h h':Heap):Prop where
 keep:∀ b o,h.get? b=some o→H b=none→b ∉ fs→b ∉ ex→h'.get? b=some o
 slot:∀ b o,h.get? b=some o→H b=none→b∈fs→b ∉ ex→∃ sl,h'.get? b=some { o with slots:=sl }
 free:∀ b o,h.get? b=some o→H b=none→b ∉ ex→H' b=none
 there:∀ b o,h.get? b=some o→b ∉ ex→∃ o',h'.get? b=some o'
 tups:∀ b xs,H b=some (.tup xs)→H' b=some (.tup xs)
 frzs:∀ b o u,H b=some (.frz o u)→H' b=some (.frz o u)
 tbls:∀ b ps,H b=some (.tbl ps)→∃ more,H' b=some (.tbl (ps++more))
section
variable {fs fs' ex ex':List Addr} {H H1 H2:Hp} {h h1 h2 h':Heap} {a x e:Addr} {o:HO}
theorem Un.any (u:Un fs ex H H1 h h1) {b:Addr} {ob:Obj} (q:h.get? b=some ob) (n:H b=none) (hx:b ∉ ex):∃ sl,h1.get? b=some { ob with slots:=sl }:=by
 by_cases hb:b∈fs
 ·exact u.slot b ob q n hb hx
 ·exact ⟨ob.slots,u.keep b ob q n hb hx⟩
theorem Un.kept (k:∀ b u,h.get? b=some u→h'.get? b=some u):Un fs ex H H h h' :=
 ⟨fun b ob q _ _ _=>k b ob q,fun b ob q _ _ _=>⟨ob.slots,k b ob q⟩,fun _ _ _ n _=>n,fun b ob q _=>⟨ob,k b ob q⟩,fun _ _ q=>q,fun _ _ _ q=>q,fun _ ps q=>⟨#[],by rw [q]; simp⟩⟩
theorem Un.refl:Un fs ex H H h h:=Un.kept fun _ _ q=>q
theorem Un.laid (k:∀ b u,h.get? b=some u→h'.get? b=some u) (hp:h.objs.size≤a) (hn:H a=none):Un fs ex H (upd H a o) h h' where
 keep:=fun b u q _ _ _=>k b u q
 slot:=fun b u q _ _ _=>⟨u.slots,k b u q⟩
 free:=fun b u q n _=>by rw [upd_ne (Nat.ne_of_lt (Nat.lt_of_lt_of_le (Heap.lt_size q) hp))]; exact n
 there:=fun b u q _=>⟨u,k b u q⟩
 tups:=fun b xs q=>by rw [upd_ne (ne_of_none q hn)]; exact q
 frzs:=fun b u xs q=>by rw [upd_ne (ne_of_none q hn)]; exact q
 tbls:=fun b ps q=>⟨#[],by rw [upd_ne (ne_of_none q hn),q]; simp⟩
theorem Un.write (mu:Mut (H x)) (he:e=x∨H e=some (.own x)) (k:∀ b u,b≠e→h.get? b=some u→h'.get? b=some u) (heo:∃ u,h'.get? e=some u):Un fs ex H (upd H x o) h h':=by
 have hx:∀ b,H b=none→b≠x:=fun b n z=>by subst z; rw [n] at mu; exact mu
 have hb:∀ b,H b=none→b≠e:=fun b n z=>by
  subst z
  rcases he with r | r
  ·exact hx b n r
  ·rw [n] at r; cases r
 have hm:∀ b u,H b=some u→¬ Mut (some u)→b≠x:=fun b u q nm z=>by subst z; rw [q] at mu; exact nm mu
 refine ⟨fun b u q n _ _=>k b u (hb b n) q,fun b u q n _ _=>⟨u.slots,k b u (hb b n) q⟩,fun b u q n _=>by rw [upd_ne (hx b n)]; exact n,fun b u q _=>?_,
  fun b xs q=>by rw [upd_ne (hm b _ q fun z=>z)]; exact q,fun b u xs q=>by rw [upd_ne (hm b _ q fun z=>z)]; exact q,fun b ps q=>⟨#[],by rw [upd_ne (hm b _ q fun z=>z),q]; simp⟩⟩
 by_cases hbe:b=e
 ·subst hbe; exact heo
 ·exact ⟨u,k b u hbe q⟩
end
noncomputable def trk (h:Heap) (H:Hp):List Addr:=(List.range h.objs.size).filter fun a=>(H a).isSome
noncomputable def hidT (h:Heap) (H:Hp):Heap:=PySem.W.hideAll h (trk h H)
theorem hidT_size (h:Heap) (H:Hp):(hidT h H).objs.size=h.objs.size:=PySem.W.hideAll_size _ _
theorem hidT_get {h:Heap} {H:Hp} {b:Addr} {o:Obj} (e:h.get? b=some o) (n:H b=none):(hidT h H).get? b=some o :=
 PySem.W.hideAll_get _ e fun hm=>by
  have q:(H b).isSome=true:=(List.mem_filter.mp hm).2
  rw [n] at q; simp at q
theorem of_hidT {h:Heap} {H:Hp} {b:Addr} {o:Obj} (e:(hidT h H).get? b=some o):h.get? b=some o∧H b=none:=by
 have e':h.get? b=some o:=PySem.W.of_hideAll (trk h H) e
 refine ⟨e',?_⟩
 cases q:H b with
 | none=>rfl
 | some x =>
  have hm:b∈trk h H:=List.mem_filter.mpr ⟨List.mem_range.mpr (Heap.lt_size e'),by simp [q]⟩
  have z:(hidT h H).get? b=none:=PySem.W.hideAll_none (trk h H) hm
  rw [z] at e; cases e
end L2
namespace L2
open PySem PySem.Spec PyProof.Rows
structure Mod (K:PySem.W.Frag) (mg:Str→Option Value) (base:Heap):Prop where
 kin:K.In base
 glob:base.Ns mainGlobals mg
 blt:∃ mb,base.Ns builtinsNs mb∧∀ x:Str,x≠"__name__"→mb x=bootBuiltins x
 nolimit:base.NoLimit
structure Cx where
 prog:Program
 w:World
 K:PySem.W.Frag
 mg:Str→Option Value
 base:Heap
 A:Around
 N:List Str
 s₀:Shared
 H₀:Hp
 env:Env
 outer:List Env
 stack:List Env
 ex:List Addr
 fn:Str→Bool
 calm:Bool
 pn:List (Addr×Obj)
 xe:Value→Shared→Prop
noncomputable def frs (l:List Env):List Addr:=l.filterMap (·.frame)
noncomputable abbrev Cx.fs (X:Cx):List Addr:=frs X.outer
noncomputable def Vis (sc:Scope) (x:Str):Prop:=sc.names.lookup x=some .local∨sc.names.lookup x=some .cell∨sc.names.lookup x=some .free
noncomputable def Loc (sc:Scope) (x:Str):Prop:=sc.names.lookup x=some .local∨sc.names.lookup x=some .cell
noncomputable def Look (env:Env) (h:Heap) (m:Str→Option Value) (x:Str) (u:Value):Prop :=
 (env.kindOf x=some .local∧m x=some u)∨((env.kindOf x=some .cell∨env.kindOf x=some .free)∧∃ c,env.cells.lookup x=some c∧h.IsCell c (some u))
structure Cx.Ok (X:Cx):Prop where
 mod:Mod X.K X.mg X.base
 kind:X.env.scope.kind=.function
 glob:X.env.globals=mainGlobals
 blt:X.env.builtins=builtinsNs
 above:X.s₀.heap.objs.size≤X.env.locals
 inj:∀ x y c,X.env.cells.lookup x=some c→X.env.cells.lookup y=some c→x=y
 has:∀ x,(X.env.kindOf x=some .cell∨X.env.kindOf x=some .free)→∃ c,X.env.cells.lookup x=some c
 cab:∀ x c,X.fn x=true→X.env.cells.lookup x=some c→X.s₀.heap.objs.size≤c
 hd:X.calm=true→X.A.handled=none
 frames:X.A.frames=some X.stack
 stk:X.stack=X.outer∨(X.stack=X.env :: X.outer∧X.env.frame=some X.env.locals)
 exf:∀ b∈X.ex,b≠X.env.locals∧∀ x c,X.env.cells.lookup x=some c→c≠b
 bs:∀ b o,X.base.get? b=some o→X.s₀.heap.get? b=some o∧X.H₀ b=none
 bsz:X.base.objs.size≤X.s₀.heap.objs.size
 noex:∀ b o,X.base.get? b=some o→b ∉ X.ex
 exfs:∀ b∈X.ex,b ∉ X.fs
 funs:X.s₀.heap.FunFrames X.base X.outer
 frf:∀ b∈X.fs,X.H₀ b=none
structure Inv (X:Cx) (pins:List (Addr×Obj)) (σ:List (Option V)) (H:Hp) (s:Shared):Prop where
 ok:X.Ok
 os:s.os=X.s₀.os
 bare:AllBare s.gens
 base:Un X.fs X.ex X.H₀ H X.s₀.heap s.heap
 loc:∃ m,s.heap.Ns X.env.locals m∧∀ (i:Nat) (x:Str) (v:V),X.N[i]?=some x→σ[i]?=some (some v)→Vis X.env.scope x→∃ u,RelV v u∧Look X.env s.heap m x u
 cell:∀ x c,X.env.cells.lookup x=some c→∃ v,s.heap.IsCell c v
 free:H X.env.locals=none
 freeC:∀ x c,X.env.cells.lookup x=some c→H c=none
 pin:∀ p∈X.pn++pins,s.heap.get? p.1=some p.2∧H p.1=none∧p.1≠X.env.locals∧p.1 ∉ X.fs∧∀ v,p.2.data≠.cell v
 hok:HOk X.prog X.w H s.heap
 len:σ.length=X.N.length
section
variable {X:Cx} {pins:List (Addr×Obj)} {σ:List (Option V)} {H H':Hp} {s:Shared} {h':Heap}
theorem Cx.Ok.nofr (ok:X.Ok) {b:Addr} {o:Obj} (e:X.base.get? b=some o):b ∉ X.fs:=fun hb=>by
 have:=(ok.funs.mem hb).1
 rw [e] at this; cases this
theorem Inv.bs (I:Inv X pins σ H s):∀ b o,X.base.get? b=some o→s.heap.get? b=some o∧H b=none:=fun b o e =>
 ⟨I.base.keep b o (I.ok.bs b o e).1 (I.ok.bs b o e).2 (I.ok.nofr e) (I.ok.noex b o e),I.base.free b o (I.ok.bs b o e).1 (I.ok.bs b o e).2 (I.ok.noex b o e)⟩
theorem Inv.bk (I:Inv X pins σ H s):∀ b o,X.base.get? b=some o→s.heap.get? b=some o:=fun b o e=>(I.bs b o e).1
theorem Inv.mod (I:Inv X pins σ H s):Mod X.K X.mg X.base:=I.ok.mod
theorem Inv.kIn (I:Inv X pins σ H s):X.K.In s.heap:=I.ok.mod.kin.keeps I.bk
theorem Inv.fr (I:Inv X pins σ H s):∃ m,Fr X.base X.env.locals s.heap m :=
 let ⟨m,hn,_⟩:=I.loc
 ⟨m,hn,I.bk,Nat.le_trans I.ok.bsz I.ok.above⟩
theorem Inv.lt (I:Inv X pins σ H s):X.env.locals < s.heap.objs.size:=let ⟨_,hn,_⟩:=I.loc; hn.lt
theorem Inv.sz (I:Inv X pins σ H s):X.s₀.heap.objs.size≤s.heap.objs.size:=Nat.le_trans I.ok.above (Nat.le_of_lt I.lt)
theorem Inv.nofs (I:Inv X pins σ H s) {a:Addr} (h:s.heap.objs.size≤a):a ∉ X.fs:=fun hb=>by
 obtain ⟨_,o,ho,_⟩:=I.ok.funs.mem hb
 exact absurd (Nat.lt_of_lt_of_le (Heap.lt_size ho) (Nat.le_trans I.sz h)) (Nat.lt_irrefl _)
theorem Inv.cne (I:Inv X pins σ H s):∀ x c,X.env.cells.lookup x=some c→c≠X.env.locals:=fun x c e z=>by
 obtain ⟨v,o,ho,hd⟩:=I.cell x c e
 obtain ⟨m,⟨o',es,ep,ho',hd',_⟩,_⟩:=I.loc
 rw [z,ho'] at ho; cases ho; rw [hd'] at hd; cases hd
theorem Inv.funs (I:Inv X pins σ H s):s.heap.FunFrames X.base X.outer:=by
 have all:∀ (l:List Env),(∀ b∈frs l,b∈X.fs)→X.s₀.heap.FunFrames X.base l→s.heap.FunFrames X.base l:=by
  intro l
  induction l with
  | nil=>intro _ _; trivial
  | cons env r ih =>
   intro hs hl
   obtain ⟨hk,⟨L,o,hf,hn,ho,hd⟩,hr⟩:=hl
   have hL:L∈X.fs:=hs L (by unfold frs; rw [List.filterMap_cons,hf]; exact List.mem_cons_self)
   obtain ⟨sl,e⟩:=I.base.slot L o ho (I.ok.frf L hL) hL fun z=>I.ok.exfs L z hL
   exact ⟨hk,⟨L,_,hf,hn,e,hd⟩,ih (fun b hb=>hs b (by unfold frs; rw [List.filterMap_cons,hf]; exact List.mem_cons_of_mem _ hb)) hr⟩
 exact all X.outer (fun _ hb=>hb) I.ok.funs
theorem Inv.stack (I:Inv X pins σ H s):s.heap.FunFrames X.base X.stack:=by
 rcases I.ok.stk with e | ⟨e,hf⟩
 ·rw [e]; exact I.funs
 ·rw [e]
  obtain ⟨m,hn,_⟩:=I.loc
  refine .cons (by rw [I.ok.kind]; decide) hf hn ?_ I.funs
  exact Heap.get?_none_of_le (Nat.le_trans I.ok.bsz I.ok.above)
theorem Inv.stkSub (I:Inv X pins σ H s):∀ b∈frs X.stack,b∈X.env.locals :: X.fs:=fun b hb=>by
 rcases I.ok.stk with e | ⟨e,hf⟩
 ·rw [e] at hb; exact List.mem_cons_of_mem _ hb
 ·rw [e] at hb
  unfold frs at hb
  rw [List.filterMap_cons,hf] at hb
  exact hb
theorem Inv.stkFree (I:Inv X pins σ H s):∀ b∈frs X.stack,H b=none:=fun b hb=>by
 rcases List.mem_cons.mp (I.stkSub b hb) with e | hb
 ·rw [e]; exact I.free
 ·obtain ⟨_,o,ho,_⟩:=I.ok.funs.mem hb
  exact I.base.free b o ho (I.ok.frf b hb) fun z=>I.ok.exfs b z hb
theorem Inv.step {g':Array GenState} {t':Nat} {d':Drawn} {ch:List Addr} (I:Inv X pins σ H s)
  (hch:∀ b∈ch,(b∈X.ex∨X.s₀.heap.objs.size≤b)∧b≠X.env.locals∧(∀ x c,X.env.cells.lookup x=some c→c≠b)∧∀ p∈X.pn++pins,p.1≠b)
  (keep:∀ b o,b≠X.env.locals→b ∉ X.fs→b ∉ ch→s.heap.get? b=some o→H b=none→h'.get? b=some o)
  (slot:∀ b o,b≠X.env.locals→b∈X.fs→b ∉ ch→s.heap.get? b=some o→H b=none→∃ sl,h'.get? b=some { o with slots:=sl }) (free:∀ b o,b ∉ ch→s.heap.get? b=some o→H b=none→H' b=none)
  (there:∀ b o,b ∉ ch→s.heap.get? b=some o→∃ o',h'.get? b=some o')
  (tups:∀ b xs,H b=some (.tup xs)→H' b=some (.tup xs)) (frzs:∀ b o u,H b=some (.frz o u)→H' b=some (.frz o u)) (tbls:∀ b ps,H b=some (.tbl ps)→∃ more,H' b=some (.tbl (ps++more)))
  (ns:∀ m,s.heap.Ns X.env.locals m→h'.Ns X.env.locals m) (hok:HOk X.prog X.w H' h') (hg:AllBare g') :
  Inv X pins σ H' { s with heap:=h',gens:=g',drawn:=d',toks:=t' }:=by
 have neL:∀ b o,X.s₀.heap.get? b=some o→b≠X.env.locals:=fun b o e=>Nat.ne_of_lt (Nat.lt_of_lt_of_le (Heap.lt_size e) I.ok.above)
 have neC:∀ b o,X.s₀.heap.get? b=some o→b ∉ X.ex→b ∉ ch:=fun b o e hx hb=>by
  rcases (hch b hb).1 with z | z
  ·exact hx z
  ·exact absurd (Nat.lt_of_lt_of_le (Heap.lt_size e) z) (Nat.lt_irrefl _)
 have cellK:∀ x c,X.env.cells.lookup x=some c→∀ v,s.heap.IsCell c v→h'.IsCell c v:=fun x c e v ⟨o,ho,hd⟩=>by
  have nch:c ∉ ch:=fun z=>(hch c z).2.2.1 x c e rfl
  by_cases hc:c∈X.fs
  ·obtain ⟨sl,q⟩:=slot c o (I.cne x c e) hc nch ho (I.freeC x c e)
   exact ⟨_,q,hd⟩
  ·exact ⟨o,keep c o (I.cne x c e) hc nch ho (I.freeC x c e),hd⟩
 refine ⟨I.ok,I.os,hg,⟨fun b o e n hb hx=>?_,fun b o e n hb hx=>?_,fun b o e n hx=>?_,fun b o e hx=>?_,fun b xs e=>tups b xs (I.base.tups b xs e),fun b o xs e=>frzs b o xs (I.base.frzs b o xs e),fun b ps e=>?_⟩,?_,fun x c e=>?_,?_,fun x c e=>?_,fun p hp=>?_,hok,I.len⟩
 ·exact keep b o (neL b o e) hb (neC b o e hx) (I.base.keep b o e n hb hx) (I.base.free b o e n hx)
 ·obtain ⟨sl,e1⟩:=I.base.slot b o e n hb hx
  obtain ⟨sl',e2⟩:=slot b _ (neL b o e) hb (neC b o e hx) e1 (I.base.free b o e n hx)
  exact ⟨sl',e2⟩
 ·obtain ⟨o',e1⟩:=I.base.there b o e hx
  exact free b o' (neC b o e hx) e1 (I.base.free b o e n hx)
 ·obtain ⟨o',e1⟩:=I.base.there b o e hx
  exact there b o' (neC b o e hx) e1
 ·obtain ⟨m1,e1⟩:=I.base.tbls b ps e
  obtain ⟨m2,e2⟩:=tbls b _ e1
  exact ⟨m1++m2,by rw [e2,Array.append_assoc]⟩
 ·obtain ⟨m,hn,hl⟩:=I.loc
  refine ⟨m,ns m hn,fun i x v e1 e2 e3=>?_⟩
  obtain ⟨u,r,l⟩:=hl i x v e1 e2 e3
  refine ⟨u,r,?_⟩
  rcases l with l | ⟨k,c,e,z⟩
  ·exact .inl l
  ·exact .inr ⟨k,c,e,cellK x c e _ z⟩
 ·obtain ⟨v,z⟩:=I.cell x c e
  exact ⟨v,cellK x c e v z⟩
 ·obtain ⟨m,⟨o,_,_,ho,_⟩,_⟩:=I.loc
  exact free _ o (fun z=>(hch _ z).2.1 rfl) ho I.free
 ·obtain ⟨v,o,ho,hd⟩:=I.cell x c e
  exact free c o (fun z=>(hch c z).2.2.1 x c e rfl) ho (I.freeC x c e)
 ·obtain ⟨e,n,ne,nf,d⟩:=I.pin p hp
  have nch:p.1 ∉ ch:=fun z=>(hch p.1 z).2.2.2 p hp rfl
  exact ⟨keep p.1 p.2 ne nf nch e n,free p.1 p.2 nch e n,ne,nf,d⟩
theorem Inv.un {t':Nat} (I:Inv X pins σ H s) (u:Un X.fs [] H H' s.heap h') (hok:HOk X.prog X.w H' h'):Inv X pins σ H' { s with heap:=h',toks:=t' }:=by
 obtain ⟨m,⟨o,es,ep,ho,r⟩,_⟩:=id I.loc
 obtain ⟨sl,hL⟩:=u.any ho I.free (by simp)
 exact I.step (g':=s.gens) (d':=s.drawn) (ch:=[]) (fun _ z=>nomatch z) (fun b o _ hb _ e n=>u.keep b o e n hb (by simp)) (fun b o _ hb _ e n=>u.slot b o e n hb (by simp)) (fun b o _ e n=>u.free b o e n (by simp)) (fun b o _ e=>u.there b o e (by simp)) u.tups u.frzs u.tbls (fun m' hm=>by
  obtain ⟨o',es',ep',ho',r'⟩:=hm
  rw [ho] at ho'; cases ho'
  exact ⟨_,es',ep',hL,r'⟩) hok I.bare
theorem Inv.call {g':Array GenState} {t':Nat} {d':Drawn} {ch:List Addr} (I:Inv X pins σ H s) (u:Un (frs X.stack) ch H H' s.heap h') (hok:HOk X.prog X.w H' h') (hg:AllBare g')
  (hch:∀ b∈ch,(b∈X.ex∨X.s₀.heap.objs.size≤b)∧b≠X.env.locals∧(∀ x c,X.env.cells.lookup x=some c→c≠b)∧∀ p∈X.pn++pins,p.1≠b) :
  Inv X pins σ H' { s with heap:=h',gens:=g',drawn:=d',toks:=t' }:=by
 obtain ⟨m,⟨o,es,ep,ho,r⟩,_⟩:=id I.loc
 obtain ⟨sl,hL⟩:=u.any ho I.free fun z=>(hch _ z).2.1 rfl
 exact I.step (ch:=ch) hch (fun b o hL hb hc e n=>u.keep b o e n (fun z=>(List.mem_cons.mp (I.stkSub b z)).elim hL hb) hc) (fun b o _ _ hc e n=>u.any e n hc) (fun b o hc e n=>u.free b o e n hc) (fun b o hc e=>u.there b o e hc) u.tups u.frzs u.tbls (fun m' hm=>by
  obtain ⟨o',es',ep',ho',r'⟩:=hm
  rw [ho] at ho'; cases ho'
  exact ⟨_,es',ep',hL,r'⟩) hok hg
theorem Inv.turned {t':Nat} {it:Addr} (I:Inv X pins σ H s) (k:∀ b o,b≠it→s.heap.get? b=some o→h'.get? b=some o) (hn:H it=none) (hL:it≠X.env.locals)
  (h1:it∈X.ex∨X.s₀.heap.objs.size≤it) (h2:∀ x c,X.env.cells.lookup x=some c→c≠it) (h3:∀ p∈X.pn++pins,p.1≠it):Inv X pins σ H { s with heap:=h',toks:=t' }:=by
 have nit:∀ b u,H b=some u→b≠it:=fun b u e z=>by rw [z,hn] at e; cases e
 refine I.step (g':=s.gens) (d':=s.drawn) (ch:=[it]) (fun b hb=>?_) (fun b o _ _ hc e _=>k b o (fun z=>hc (by simp [z])) e) (fun b o _ _ hc e _=>⟨o.slots,k b o (fun z=>hc (by simp [z])) e⟩) (fun _ _ _ _ n=>n)
  (fun b o hc e=>⟨o,k b o (fun z=>hc (by simp [z])) e⟩) (fun _ _ e=>e) (fun _ _ _ e=>e) (fun b ps e=>⟨#[],by rw [e]; simp⟩) (fun m hm=>?_) (fun b u e=>?_) I.bare
 ·have e:b=it:=by simpa using hb
  subst e
  exact ⟨h1,hL,h2,h3⟩
 ·obtain ⟨o,es,ep,ho,r⟩:=hm
  exact ⟨o,es,ep,k _ o (Ne.symm hL) ho,r⟩
 ·refine (I.hok b u e).stay (fun c v hc q=>k c v ?_ q) (fun _ q=>q) fun _ _ q=>q
  rcases hc with z | z
  ·rw [z]; exact nit b u e
  ·exact nit c _ z
theorem Inv.tok (I:Inv X pins σ H s) (t:Nat):Inv X pins σ H { s with toks:=t }:=I.un (h':=s.heap) (t':=t) Un.refl I.hok
theorem Inv.kept {t':Nat} (I:Inv X pins σ H s) (k:∀ b u,s.heap.get? b=some u→h'.get? b=some u):Inv X pins σ H { s with heap:=h',toks:=t' }:=I.un (Un.kept k) (I.hok.kept k)
theorem Inv.laid {a:Addr} {o:HO} {t':Nat} (I:Inv X pins σ H s) (k:∀ b u,s.heap.get? b=some u→h'.get? b=some u) (hp:s.heap.objs.size≤a) (new:ObjOk X.prog X.w (upd H a o) h' a o) :
  Inv X pins σ (upd H a o) { s with heap:=h',toks:=t' }:=I.un (Un.laid k hp (I.hok.fresh hp)) (I.hok.laid k hp new)
theorem Inv.write {x e:Addr} {o:HO} {t':Nat} (I:Inv X pins σ H s) (mu:Mut (H x)) (he:e=x∨H e=some (.own x)) (k:∀ b u,b≠e→s.heap.get? b=some u→h'.get? b=some u) (heo:∃ u,h'.get? e=some u)
  (new:ObjOk X.prog X.w (upd H x o) h' x o):Inv X pins σ (upd H x o) { s with heap:=h',toks:=t' }:=I.un (Un.write mu he k heo) (I.hok.write mu he k heo new)
theorem Inv.pins_of {pins':List (Addr×Obj)} (I:Inv X pins σ H s) (h:∀ p∈pins',s.heap.get? p.1=some p.2∧H p.1=none∧p.1≠X.env.locals∧p.1 ∉ X.fs∧∀ v,p.2.data≠.cell v):Inv X pins' σ H s :=
 ⟨I.ok,I.os,I.bare,I.base,I.loc,I.cell,I.free,I.freeC,fun p hp=>(List.mem_append.mp hp).elim (fun z=>I.pin p (List.mem_append_left _ z)) (h p),I.hok,I.len⟩
theorem nodup_ix {N:List Str} (hN:N.Nodup) {i j:Nat} {x:Str} (a:N[i]?=some x) (b:N[j]?=some x):i=j:=by
 obtain ⟨h1,e1⟩:=List.getElem?_eq_some_iff.mp a
 obtain ⟨h2,e2⟩:=List.getElem?_eq_some_iff.mp b
 exact (List.getElem_inj hN).mp (e1.trans e2.symm)
theorem store_ok2 {M:Model} {A:Around} {E:Value→Shared→Prop} {i:Nat} {x:Str} {v:V} {u:Value} {Q:Unit→Shared→Prop} (I:Inv X pins σ H s) (hN:X.N.Nodup) (hi:X.N[i]?=some x) (hx:Loc X.env.scope x) (r:RelV v u)
  (h:∀ s',Inv X pins (σ.set i (some v)) H s'→(∃ a,Heap.SameBut a s.heap s'.heap∧(a=X.env.locals∨X.env.cells.lookup x=some a))→Q () s') (hf:X.fn x=true∨X.env.scope.names.lookup x=some .local:=by first | exact .inl rfl | exact .inr rfl | assumption):wpAny M A (storeName X.env x u) Q E s:=by
 obtain ⟨m,hn,hl⟩:=id I.loc
 have hcls:(X.env.scope.kind == .class || (X.env.scope.kind == .module && X.env.locals != X.env.globals))=false:=by rw [I.ok.kind]; rfl
 have hiσ:i < σ.length:=by rw [I.len]; exact (List.getElem?_eq_some_iff.mp hi).1
 have cne:=I.cne
 have tracked:∀ {a:Addr} {h':Heap},(∃ o,s.heap.get? a=some o∧H a=none)→Heap.SameBut a s.heap h'→HOk X.prog X.w H h':=fun {a h'} ha hs b ob e=>by
  obtain ⟨_,_,hfree⟩:=ha
  refine (I.hok b ob e).stay (fun c w' hc q=>(hs.2 c ?_).trans q) (fun _ q=>q) fun _ _ q=>q
  rintro rfl
  rcases hc with rfl | hc
  ·rw [hfree] at e; cases e
  ·rw [hfree] at hc; cases hc
 rcases hx with hk | hk
 ·refine wpAny_storeName_local hk hn (fun h' hn' hs=>?_) hcls
  obtain ⟨oL,_,_,hoL,_⟩:=id hn
  refine h _ ⟨I.ok,I.os,I.bare,⟨fun b o e n hb hx=>?_,fun b o e n hb hx=>?_,I.base.free,fun b o e hx=>?_,I.base.tups,I.base.frzs,I.base.tbls⟩,⟨_,hn',fun j y v' e1 e2 e3=>?_⟩,fun y c e=>?_,I.free,I.freeC,fun p hp=>?_,tracked ⟨oL,hoL,I.free⟩ hs,by simpa using I.len⟩ ⟨_,hs,.inl rfl⟩
  ·exact (hs.2 b (Nat.ne_of_lt (Nat.lt_of_lt_of_le (Heap.lt_size e) I.ok.above))).trans (I.base.keep b o e n hb hx)
  ·obtain ⟨sl,e1⟩:=I.base.slot b o e n hb hx
   exact ⟨sl,(hs.2 b (Nat.ne_of_lt (Nat.lt_of_lt_of_le (Heap.lt_size e) I.ok.above))).trans e1⟩
  ·obtain ⟨o',e1⟩:=I.base.there b o e hx
   exact ⟨o',(hs.2 b (Nat.ne_of_lt (Nat.lt_of_lt_of_le (Heap.lt_size e) I.ok.above))).trans e1⟩
  ·by_cases hj:j=i
   ·subst hj
    rw [hi] at e1; cases e1
    rw [List.getElem?_set_self hiσ] at e2
    cases e2
    exact ⟨u,r,.inl ⟨hk,by simp⟩⟩
   ·rw [List.getElem?_set_ne (Ne.symm hj)] at e2
    obtain ⟨u',r',q⟩:=hl j y v' e1 e2 e3
    refine ⟨u',r',?_⟩
    rcases q with ⟨k,e⟩ | ⟨k,c,e,z⟩
    ·refine .inl ⟨k,?_⟩
     have:y≠x:=fun e=>hj (nodup_ix hN e1 (e ▸ hi))
     simp [this,e]
    ·exact .inr ⟨k,c,e,z.sameBut hs (cne y c e)⟩
  ·obtain ⟨w',z⟩:=I.cell y c e
   exact ⟨w',z.sameBut hs (cne y c e)⟩
  ·obtain ⟨e,n,ne,nf,d⟩:=I.pin p hp
   exact ⟨(hs.2 p.1 ne).trans e,n,ne,nf,d⟩
 ·have hfn:X.fn x=true:=by
   rcases hf with z | z
   ·exact z
   ·rw [z] at hk; cases hk
  obtain ⟨c,hc⟩:=I.ok.has x (.inl hk)
  obtain ⟨w',z⟩:=I.cell x c hc
  refine wpAny_storeName_cell I.ok.kind hk hc z (fun h' hc' hs=>?_)
  obtain ⟨oc,hoc,hocd⟩:=id z
  refine h { s with heap:=h' } ⟨I.ok,I.os,I.bare,⟨fun b o e n hb hx=>?_,fun b o e n hb hx=>?_,I.base.free,fun b o e hx=>?_,I.base.tups,I.base.frzs,I.base.tbls⟩,⟨m,hn.sameBut hs (Ne.symm (cne x c hc)),fun j y v' e1 e2 e3=>?_⟩,fun y c' e=>?_,I.free,I.freeC,fun p hp=>?_,tracked ⟨oc,hoc,I.freeC x c hc⟩ hs,by simpa using I.len⟩ ⟨c,hs,.inr hc⟩
  ·exact (hs.2 b (Nat.ne_of_lt (Nat.lt_of_lt_of_le (Heap.lt_size e) (I.ok.cab x c hfn hc)))).trans (I.base.keep b o e n hb hx)
  ·obtain ⟨sl,e1⟩:=I.base.slot b o e n hb hx
   exact ⟨sl,(hs.2 b (Nat.ne_of_lt (Nat.lt_of_lt_of_le (Heap.lt_size e) (I.ok.cab x c hfn hc)))).trans e1⟩
  ·obtain ⟨o',e1⟩:=I.base.there b o e hx
   exact ⟨o',(hs.2 b (Nat.ne_of_lt (Nat.lt_of_lt_of_le (Heap.lt_size e) (I.ok.cab x c hfn hc)))).trans e1⟩
  ·by_cases hj:j=i
   ·subst hj
    rw [hi] at e1; cases e1
    rw [List.getElem?_set_self hiσ] at e2
    cases e2
    exact ⟨u,r,.inr ⟨.inl hk,c,hc,hc'⟩⟩
   ·rw [List.getElem?_set_ne (Ne.symm hj)] at e2
    obtain ⟨u',r',q⟩:=hl j y v' e1 e2 e3
    refine ⟨u',r',?_⟩
    rcases q with q | ⟨k,c',e,z'⟩
    ·exact .inl q
    ·refine .inr ⟨k,c',e,z'.sameBut hs ?_⟩
     rintro rfl
     exact hj (nodup_ix hN e1 (I.ok.inj _ _ _ e hc ▸ hi))
  ·by_cases hcc:c'=c
   ·subst hcc; exact ⟨_,hc'⟩
   ·obtain ⟨w2,z2⟩:=I.cell y c' e
    exact ⟨w2,z2.sameBut hs hcc⟩
  ·obtain ⟨e,n,ne,nf,d⟩:=I.pin p hp
   refine ⟨(hs.2 p.1 ?_).trans e,n,ne,nf,d⟩
   intro q
   rw [q,hoc] at e
   have q':oc=p.2:=Option.some.inj e
   exact d w' (by rw [← q']; exact hocd)
theorem store_ok {M:Model} {A:Around} {E:Value→Shared→Prop} {i:Nat} {x:Str} {v:V} {u:Value} {Q:Unit→Shared→Prop} (I:Inv X pins σ H s) (hN:X.N.Nodup) (hi:X.N[i]?=some x) (hx:Loc X.env.scope x) (r:RelV v u)
  (h:∀ s',Inv X pins (σ.set i (some v)) H s'→Q () s') (hf:X.fn x=true∨X.env.scope.names.lookup x=some .local:=by first | exact .inl rfl | exact .inr rfl | assumption):wpAny M A (storeName X.env x u) Q E s :=
 store_ok2 I hN hi hx r (fun s' I' _=>h s' I') hf
theorem Inv.call' {s':Shared} {ch:List Addr} (I:Inv X pins σ H s) (ho:s'.os=s.os) (u:Un (frs X.stack) ch H H' s.heap s'.heap) (hok:HOk X.prog X.w H' s'.heap) (hg:AllBare s'.gens)
  (hch:∀ b∈ch,(b∈X.ex∨X.s₀.heap.objs.size≤b)∧b≠X.env.locals∧(∀ x c,X.env.cells.lookup x=some c→c≠b)∧∀ p∈X.pn++pins,p.1≠b):Inv X pins σ H' s':=by
 obtain ⟨h',g',d',t',o'⟩:=s'
 have e:o'=s.os:=ho
 subst e
 exact I.call (g':=g') (t':=t') (d':=d') u hok hg hch
end
noncomputable abbrev XK:=Value→Option Addr→Hp→Prop
noncomputable abbrev St:=List (Option V)
noncomputable abbrev VK:=V→Hp→Prop
noncomputable abbrev TE:=St→Hp→VK→Prop
noncomputable abbrev TT:=St→Hp→(Bool→Hp→Prop)→Prop
noncomputable abbrev TA:=St→Hp→(List V→Hp→Prop)→Prop
structure Ends where
 nx:St→Hp→Prop
 rt:VK
 bk:St→Hp→Prop:=fun _ _=>False
 ct:St→Hp→Prop:=fun _ _=>False
noncomputable abbrev TS:=Ends→St→Hp→Prop
noncomputable def EP (X:Cx) (pins:List (Addr×Obj)) (σ:St) (Q:VK) (u:Value) (s':Shared):Prop:=∃ v H',Inv X pins σ H' s'∧RelV v u∧Q v H'
noncomputable def TP (X:Cx) (pins:List (Addr×Obj)) (σ:St) (Q:Bool→Hp→Prop) (b:Bool) (s':Shared):Prop:=∃ H',Inv X pins σ H' s'∧Q b H'
noncomputable def AP (X:Cx) (pins:List (Addr×Obj)) (σ:St) (Q:List V→Hp→Prop) (us:List Value) (s':Shared):Prop:=∃ vs H',Inv X pins σ H' s'∧Vals vs us∧Q vs H'
noncomputable def SP (X:Cx) (pins:List (Addr×Obj)) (D:Ends) (f:Flow) (s':Shared):Prop :=
 match f with
 | .next=>∃ σ' H',Inv X pins σ' H' s'∧D.nx σ' H'
 | .brk=>∃ σ' H',Inv X pins σ' H' s'∧D.bk σ' H'
 | .cont=>∃ σ' H',Inv X pins σ' H' s'∧D.ct σ' H'
 | .ret u=>∃ v σ' H',Inv X pins σ' H' s'∧RelV v u∧D.rt v H'
noncomputable def PE (X:Cx) (e:Expr) (t:TE):Prop :=
 ∀ (pins:List (Addr×Obj)) (s:Shared) (σ:St) (H:Hp) (Q:VK),Inv X pins σ H s→t σ H Q→wpAny (model X.prog X.w) X.A (eval e X.env) (EP X pins σ Q) X.xe s
noncomputable def PT (X:Cx) (e:Expr) (t:TT):Prop :=
 ∀ (pins:List (Addr×Obj)) (s:Shared) (σ:St) (H:Hp) (Q:Bool→Hp→Prop),Inv X pins σ H s→t σ H Q→wpAny (model X.prog X.w) X.A (isTrue e X.env (eval e X.env)) (TP X pins σ Q) X.xe s
noncomputable def PW (X:Cx) (e:Expr) (t:TT):Prop :=
 ∀ (whole:Sem Value) (pins:List (Addr×Obj)) (s:Shared) (σ:St) (H:Hp) (Q:Bool→Hp→Prop),Inv X pins σ H s→t σ H Q→wpAny (model X.prog X.w) X.A (isTrue e X.env whole) (TP X pins σ Q) X.xe s
theorem PW.pt {X:Cx} {e:Expr} {t:TT} (h:PW X e t):PT X e t:=h _
noncomputable def PA (X:Cx) (es:List Expr) (t:TA):Prop :=
 ∀ (pos:Pos) (pins:List (Addr×Obj)) (s:Shared) (σ:St) (H:Hp) (Q:List V→Hp→Prop),Inv X pins σ H s→t σ H Q→wpAny (model X.prog X.w) X.A (spliced (backTo pos (starEach es X.env))) (AP X pins σ Q) X.xe s
noncomputable def PS (X:Cx) (st:Stmt) (t:TS):Prop :=
 ∀ (pins:List (Addr×Obj)) (s:Shared) (σ:St) (H:Hp) (D:Ends),Inv X pins σ H s→t D σ H→wpAny (model X.prog X.w) X.A (exec st X.env) (SP X pins D) X.xe s
noncomputable def PSs (X:Cx) (st:List Stmt) (t:TS):Prop :=
 ∀ (pins:List (Addr×Obj)) (s:Shared) (σ:St) (H:Hp) (D:Ends),Inv X pins σ H s→t D σ H→wpAny (model X.prog X.w) X.A (execs st X.env) (SP X pins D) X.xe s
theorem thn {α:Type} {t:Sem α} {Q Q':α→Shared→Prop} {M:Model} {A:Around} {E:Value→Shared→Prop} {s:Shared} (h:wpAny M A t Q E s) (hQ:∀ a s,Q a s→Q' a s):wpAny M A t Q' E s:=wpAny_mono h hQ fun _ _ x=>x
end L2
namespace L2
open PySem PySem.Spec PyProof.Rows
section
variable {X:Cx}
noncomputable def tVar (i:Nat):TE:=fun σ H Q=>∃ v,σ[i]?=some (some v)∧Q v H
noncomputable def tC (v:V):TE:=fun _ H Q=>Q v H
theorem pe_var {i:Nat} {x:Str} {pos:Pos} (hN:X.N[i]?=some x) (hv:Vis X.env.scope x) (hd:(x == ("__debug__":Str))=false:=by decide) (hcd:(x == ("__classdict__":Str))=false:=by decide):PE X (.Name x pos) (tVar i):=by
 intro pins s σ H Q I h
 obtain ⟨v,e,h⟩:=h
 obtain ⟨m,hn,hl⟩:=I.loc
 obtain ⟨u,r,l⟩:=hl i x v hN e hv
 have fin:EP X pins σ Q u s:=⟨v,H,I,r,h⟩
 rcases l with ⟨hk,hm⟩ | ⟨hk,c,hc,hcell⟩
 ·exact wpAny_Name (wpAny_loadName_local I.ok.kind hk hn hm fin) hd
 ·rcases hk with hk | hk
  ·exact wpAny_Name (wpAny_loadName_cell I.ok.kind hk hc hcell fin) hd
  ·exact wpAny_Name (wpAny_loadName_free I.ok.kind hk hc hcell fin hcd) hd
theorem pe_int {i j pos}:PE X (.Constant (.int i) j pos) (tC (.int i)):=fun _ _ _ H _ I h=>wpAny_Constant_int ⟨.int i,H,I.tok _,⟨_,rfl⟩,h⟩
theorem pe_bl {b j pos}:PE X (.Constant (.bool b) j pos) (tC (.bl b)):=fun _ _ _ H _ I h=>Constant_bool ⟨.bl b,H,I,rfl,h⟩
theorem pe_non {j pos}:PE X (.Constant .none j pos) (tC .non):=fun _ _ _ H _ I h=>Constant_none ⟨.non,H,I,rfl,h⟩
theorem pe_str {x j pos}:PE X (.Constant (.str x) j pos) (tC (.str x)):=fun _ _ _ H _ I h=>Calls.Constant_str ⟨.str x,H,I.tok _,⟨_,rfl⟩,h⟩
noncomputable def Gl (X:Cx) (x:Str):Prop:=X.env.kindOf x=some .globalImplicit
theorem ld_glob {E:Value→Shared→Prop} {pins:List (Addr×Obj)} {s:Shared} {σ:St} {H:Hp} {x:Str} {u:Value} {pos:Pos} {Q:Value→Shared→Prop} (I:Inv X pins σ H s) (hg:Gl X x) (hm:X.mg x=some u) (h:Q u s)
  (hd:(x == ("__debug__":Str))=false:=by decide):wpAny (model X.prog X.w) X.A (eval (.Name x pos) X.env) Q E s :=
 Calls.Name_function_global I.ok.kind hg (Calls.loadGlobal_global (by rw [I.ok.glob]; exact I.mod.glob.keeps I.bk) hm h) hd
theorem ld_blt {E:Value→Shared→Prop} {pins:List (Addr×Obj)} {s:Shared} {σ:St} {H:Hp} {x:Str} {u:Value} {pos:Pos} {Q:Value→Shared→Prop} (I:Inv X pins σ H s) (hg:Gl X x) (hm:X.mg x=none) (hv:bootBuiltins x=some u) (h:Q u s)
  (hn:x≠"__name__":=by decide) (hd:(x == ("__debug__":Str))=false:=by decide):wpAny (model X.prog X.w) X.A (eval (.Name x pos) X.env) Q E s:=by
 obtain ⟨mb,h1,h2⟩:=I.mod.blt
 exact Calls.Name_function_global I.ok.kind hg (Calls.loadGlobal_builtin (by rw [I.ok.glob]; exact I.mod.glob.keeps I.bk) hm (by rw [I.ok.blt]; exact h1.keeps I.bk) ((h2 x hn).trans hv) h) hd
theorem pe_glob {x:Str} {v:V} {u:Value} {pos:Pos} (hg:Gl X x) (hm:X.mg x=some u) (r:RelV v u) (hd:(x == ("__debug__":Str))=false:=by decide):PE X (.Name x pos) (tC v) :=
 fun _ _ _ H _ I h=>ld_glob I hg hm ⟨v,H,I,r,h⟩ hd
theorem pe_bltn {x:Str} {v:V} {u:Value} {pos:Pos} (hg:Gl X x) (hm:X.mg x=none) (hv:bootBuiltins x=some u) (r:RelV v u) (hn:x≠"__name__":=by decide) (hd:(x == ("__debug__":Str))=false:=by decide):PE X (.Name x pos) (tC v) :=
 fun _ _ _ H _ I h=>ld_blt I hg hm hv ⟨v,H,I,r,h⟩ hn hd
variable {a b:Expr} {ta tb:TE} {pos:Pos}
noncomputable def tB (t:TE):TT:=fun σ H Q=>t σ H fun x H1=>∃ c,x=.bl c∧Q c H1
theorem pt_val {e:Expr} {t:TE} (h:PE X e t) (he:∀ whole,isTrue e X.env whole=(do let v ← whole; standAt e.pos; holding [v] (truthy v)):=by intro _; rfl):PT X e (tB t):=by
 intro pins s σ H Q I hw
 refine isTrue_plain (thn (h pins s σ H _ I hw) fun v s1 ⟨x,H1,I1,r1,q1⟩=>?_) (he _)
 obtain ⟨d,rfl,q⟩:=q1
 cases r1
 exact wpAny_truthy_bool ⟨H1,I1,q⟩
variable {tA tB':TT} {rest:List Expr}
noncomputable def tAnd (t u:TT):TT:=fun σ H Q=>t σ H fun c H1=>if c=true then u σ H1 Q else Q false H1
noncomputable def tOr (t u:TT):TT:=fun σ H Q=>t σ H fun c H1=>if c=true then Q true H1 else u σ H1 Q
noncomputable def tNot (t:TT):TT:=fun σ H Q=>t σ H fun c H1=>Q (!c) H1
theorem pw_and1 (ha:PT X a tA):PW X (.BoolOp .And [a] pos) tA:=by
 intro wh pins s σ H Q I h
 refine isTrue_and (thn (ha pins s σ H Q I h) fun c s1 e=>?_)
 cases c with
 | true=>exact isTrue_and_nil e
 | false=>exact e
theorem pw_or1 (ha:PT X a tA):PW X (.BoolOp .Or [a] pos) tA:=by
 intro wh pins s σ H Q I h
 refine isTrue_or (thn (ha pins s σ H Q I h) fun c s1 e=>?_)
 cases c with
 | false=>exact isTrue_or_nil e
 | true=>exact e
theorem pw_and (ha:PT X a tA) (hb:PW X (.BoolOp .And (b :: rest) pos) tB'):PW X (.BoolOp .And (a :: b :: rest) pos) (tAnd tA tB'):=by
 intro wh pins s σ H Q I h
 refine isTrue_and (thn (ha pins s σ H _ I h) fun c s1 ⟨H1,I1,q1⟩=>?_)
 cases c with
 | true=>exact hb wh pins s1 σ H1 Q I1 q1
 | false=>exact ⟨H1,I1,q1⟩
theorem pw_or (ha:PT X a tA) (hb:PW X (.BoolOp .Or (b :: rest) pos) tB'):PW X (.BoolOp .Or (a :: b :: rest) pos) (tOr tA tB'):=by
 intro wh pins s σ H Q I h
 refine isTrue_or (thn (ha pins s σ H _ I h) fun c s1 ⟨H1,I1,q1⟩=>?_)
 cases c with
 | true=>exact ⟨H1,I1,q1⟩
 | false=>exact hb wh pins s1 σ H1 Q I1 q1
theorem pt_not (ha:PT X a tA):PT X (.UnaryOp .Not a pos) (tNot tA):=by
 intro pins s σ H Q I h
 exact isTrue_not (ha pins s σ H (fun c H1=>Q (!c) H1) I h)
noncomputable def tAndV (ta tb:TE):TE:=fun σ H Q=>ta σ H fun x H1=>∃ c,x=.bl c∧if c=true then tb σ H1 Q else Q (.bl false) H1
noncomputable def tNotV (ta:TE):TE:=fun σ H Q=>ta σ H fun x H1=>∃ c,x=.bl c∧Q (.bl (!c)) H1
theorem pe_one {op} {t:TE} (h:PE X a t):PE X (.BoolOp op [a] pos) t:=fun pins s σ H Q I hw=>BoolOp_one (h pins s σ H Q I hw)
theorem pe_and (ha:PE X a ta) (hb:PE X (.BoolOp .And (b :: rest) pos) tb):PE X (.BoolOp .And (a :: b :: rest) pos) (tAndV ta tb):=by
 intro pins s σ H Q I h
 refine BoolOp_and (thn (ha pins s σ H _ I h) fun v s1 ⟨x,H1,I1,r1,q1⟩=>?_)
 obtain ⟨c,rfl,q1⟩:=q1
 cases r1
 refine wpAny_truthy_bool ?_
 cases c with
 | true=>exact hb pins s1 σ H1 Q I1 q1
 | false=>exact ⟨.bl false,H1,I1,rfl,q1⟩
theorem pe_not (ha:PE X a ta):PE X (.UnaryOp .Not a pos) (tNotV ta):=by
 intro pins s σ H Q I h
 refine UnaryOp_ (thn (ha pins s σ H _ I h) fun v s1 ⟨x,H1,I1,r1,q1⟩=>?_)
 obtain ⟨c,rfl,q1⟩:=q1
 cases r1
 exact not_of (wpAny_truthy_bool ⟨.bl (!c),H1,I1,rfl,q1⟩)
end
end L2
namespace L2
open PySem PySem.Spec PyProof.Rows
noncomputable def SqL (K:PySem.W.Frag) (H:Hp) (a:Addr) (xs:List V):Prop :=
 Rd H a (.lst xs) ∨
  ∃ (o:Obj) (its:Array Value) (n:Nat),K.lookup a=some o∧o.cls=.type "list"∧o.dict=none∧o.data=.seq its n∧its.size≤sizeLine∧Vals xs its.toList
noncomputable def SqT (K:PySem.W.Frag) (H:Hp) (a:Addr) (xs:List V):Prop :=
 Rd H a (.tup xs) ∨
  ∃ (o:Obj) (its:Array Value) (n:Nat),K.lookup a=some o∧o.cls=.type "tuple"∧o.data=.seq its n∧its.size≤sizeLine∧Vals xs its.toList
noncomputable def absV:Value→Option V
 | .none=>some .non
 | .bool b=>some (.bl b)
 | .int i _=>some (.int i)
 | .str x _=>some (.str x)
 | .bytes b _=>some (.byt b)
 | .float b _=>some (.flt b)
 | .ref a=>some (.ref a)
 | .type n=>some (.ty n)
 | _=>none
theorem RelV.abs {x:V} {u:Value} (r:RelV x u):absV u=some x:=by
 cases x with
 | non=>cases r; rfl
 | bl _=>cases r; rfl
 | int _=>obtain ⟨t,rfl⟩:=r; rfl
 | str _=>obtain ⟨t,rfl⟩:=r; rfl
 | byt _=>obtain ⟨t,rfl⟩:=r; rfl
 | flt _=>obtain ⟨t,rfl⟩:=r; rfl
 | ref _=>cases r; rfl
 | ty _=>cases r; rfl
theorem RelV.inj {x y:V} {u:Value} (r:RelV x u) (q:RelV y u):x=y:=Option.some.inj (r.abs.symm.trans q.abs)
theorem Vals.inj:∀ {xs ys:List V} {us:List Value},Vals xs us→Vals ys us→xs=ys
 | _,_,_,.nil,.nil=>rfl
 | _,_,_,.cons r t,.cons r' t'=>by rw [r.inj r',Vals.inj t t']
section
variable {X:Cx} {pins:List (Addr×Obj)} {σ:St} {H:Hp} {s:Shared} {a:Addr} {xs ys:List V}
theorem SqL.of {K:PySem.W.Frag} (h:H a=some (.lst xs)):SqL K H a xs:=.inl (.inl h)
theorem SqT.of {K:PySem.W.Frag} (h:H a=some (.tup xs)):SqT K H a xs:=.inl (.inl h)
theorem Inv.list (I:Inv X pins σ H s) (h:SqL X.K H a xs):∃ its:List Value,Vals xs its∧PlainL s.heap a its.toArray∧xs.length≤sizeLine:=by
 rcases h with h | ⟨o,its,n,hk,hc,hd,hs,hz,r⟩
 ·obtain ⟨z,its,n,r,e⟩:=h.ok I.hok
  exact ⟨its,r,⟨_,n,e,rfl,rfl,rfl⟩,z⟩
 ·refine ⟨its.toList,r,⟨o,n,I.kIn a o hk,hc,hd,by simpa using hs⟩,?_⟩
  have e:=r.length
  simp only [Array.length_toList] at e
  lia
theorem Inv.tuple (I:Inv X pins σ H s) (h:SqT X.K H a xs):∃ its:List Value,Vals xs its∧IsTup s.heap a its.toArray∧xs.length≤sizeLine:=by
 rcases h with h | ⟨o,its,n,hk,hc,hs,hz,r⟩
 ·obtain ⟨z,its,r,p⟩:=h.ok I.hok
  exact ⟨its,r,p,z⟩
 ·refine ⟨its.toList,r,⟨o,I.kIn a o hk,hc,n,by simpa using hs⟩,?_⟩
  have e:=r.length
  simp only [Array.length_toList] at e
  lia
theorem Inv.list_inj (I:Inv X pins σ H s) (h:SqL X.K H a xs) (h':SqL X.K H a ys):xs=ys:=by
 obtain ⟨its,r,⟨o,n,e,_,_,d⟩,_⟩:=I.list h
 obtain ⟨its',r',⟨o',n',e',_,_,d'⟩,_⟩:=I.list h'
 rw [e] at e'; cases e'
 rw [d] at d'
 injection d' with d1 _
 have:its=its':=by simpa using congrArg Array.toList d1
 subst this
 exact r.inj r'
theorem Inv.tuple_inj (I:Inv X pins σ H s) (h:SqT X.K H a xs) (h':SqT X.K H a ys):xs=ys:=by
 obtain ⟨its,r,⟨o,e,_,n,d⟩,_⟩:=I.tuple h
 obtain ⟨its',r',⟨o',e',_,n',d'⟩,_⟩:=I.tuple h'
 rw [e] at e'; cases e'
 rw [d] at d'
 injection d' with d1 _
 have:its=its':=by simpa using congrArg Array.toList d1
 subst this
 exact r.inj r'
end
noncomputable abbrev Cx.wish (X:Cx) (E:Value→Shared→Prop):Cx:={ X with xe:=E }
noncomputable abbrev Cx.nox (X:Cx):Cx:=X.wish fun _ _=>False
theorem Cx.Ok.wish {X:Cx} (ok:X.Ok) (E:Value→Shared→Prop):(X.wish E).Ok :=
 ⟨ok.mod,ok.kind,ok.glob,ok.blt,ok.above,ok.inj,ok.has,ok.cab,ok.hd,ok.frames,ok.stk,ok.exf,ok.bs,ok.bsz,ok.noex,ok.exfs,ok.funs,ok.frf⟩
theorem Cx.Ok.unwish {X:Cx} {E:Value→Shared→Prop} (ok:(X.wish E).Ok):X.Ok :=
 ⟨ok.mod,ok.kind,ok.glob,ok.blt,ok.above,ok.inj,ok.has,ok.cab,ok.hd,ok.frames,ok.stk,ok.exf,ok.bs,ok.bsz,ok.noex,ok.exfs,ok.funs,ok.frf⟩
section
variable {X:Cx} {pins:List (Addr×Obj)} {σ:St} {H:Hp} {s:Shared} {E:Value→Shared→Prop}
theorem Inv.wish (I:Inv X pins σ H s) (E:Value→Shared→Prop):Inv (X.wish E) pins σ H s:=⟨I.ok.wish E,I.os,I.bare,I.base,I.loc,I.cell,I.free,I.freeC,I.pin,I.hok,I.len⟩
theorem Inv.unwish (I:Inv (X.wish E) pins σ H s):Inv X pins σ H s:=⟨I.ok.unwish,I.os,I.bare,I.base,I.loc,I.cell,I.free,I.freeC,I.pin,I.hok,I.len⟩
theorem SP.unwish {D:Ends} {f:Flow} {s':Shared} (h:SP (X.wish E) pins D f s'):SP X pins D f s':=by
 cases f with
 | next=>obtain ⟨σ',H',I,q⟩:=h; exact ⟨σ',H',I.unwish,q⟩
 | brk=>obtain ⟨σ',H',I,q⟩:=h; exact ⟨σ',H',I.unwish,q⟩
 | cont=>obtain ⟨σ',H',I,q⟩:=h; exact ⟨σ',H',I.unwish,q⟩
 | ret u=>obtain ⟨v,σ',H',I,r,q⟩:=h; exact ⟨v,σ',H',I.unwish,r,q⟩
theorem PSs.nox {st:List Stmt} {t:TS} (h:PSs X.nox st t):PSs X st t:=fun pins s σ H D I hw =>
 wpAny_mono (h pins s σ H D (I.wish _) hw) (fun _ _ q=>q.unwish) fun _ _ z=>False.elim z
end
section
variable {X:Cx} {st:Stmt} {rest:List Stmt} {t u:TS} {e:Expr} {te:TE} {pos:Pos}
noncomputable def tNext:TS:=fun D σ H=>D.nx σ H
noncomputable def tSeq (t u:TS):TS:=fun D σ H=>t { D with nx:=u D } σ H
theorem pss_nil:PSs X [] tNext:=fun _ _ σ H _ I h=>wpAny_execs_nil ⟨σ,H,I,h⟩
theorem pss_cons (h1:PS X st t) (h2:PSs X rest u):PSs X (st :: rest) (tSeq t u):=by
 intro pins s σ H D I h
 refine wpAny_execs_cons (thn (h1 pins s σ H { D with nx:=u D } I h) fun f s1 q=>?_)
 cases f with
 | next =>
  obtain ⟨σ',H',I',q⟩:=q
  exact h2 pins s1 σ' H' D I' q
 | ret v=>exact q
 | brk=>exact q
 | cont=>exact q
theorem pss_one (h1:PS X st t):PSs X [st] t:=by
 intro pins s σ H D I h
 refine wpAny_execs_cons (thn (h1 pins s σ H D I h) fun f s1 q=>?_)
 cases f with
 | next=>exact wpAny_execs_nil q
 | ret v=>exact q
 | brk=>exact q
 | cont=>exact q
theorem Inv.quiet {pins:List (Addr×Obj)} {σ:St} {H:Hp} {s:Shared} (I:Inv X pins σ H s):interactive X.env=false:=by simp [interactive,I.ok.kind]
noncomputable def tDrop (te:TE):TS:=fun D σ H=>te σ H fun _ H1=>D.nx σ H1
theorem ps_expr (he:PE X e te) (hs:swapsWith e none pos.line X.env=pure false:=by rfl):PS X (.Expr e pos) (tDrop te):=by
 intro pins s σ H D I h
 exact wpAny_Expr_any (thn (he pins s σ H _ I h) fun v s1 ⟨x,H1,I1,r1,q1⟩=>⟨σ,H1,I1,q1⟩) I.quiet hs
noncomputable def tRet (te:TE):TS:=fun D σ H=>te σ H D.rt
theorem ps_ret (he:PE X e te):PS X (.Return (some e) pos) (tRet te):=by
 intro pins s σ H D I h
 exact wpAny_Return_some (thn (he pins s σ H _ I h) fun v s1 ⟨x,H1,I1,r1,q1⟩=>⟨x,σ,H1,I1,r1,q1⟩)
noncomputable def tIfS (c:TT) (t u:TS):TS:=fun D σ H=>c σ H fun b H1=>if b=true then t D σ H1 else u D σ H1
theorem ps_if {c:Expr} {a b:List Stmt} {tc:TT} (hc:PT X c tc) (ha:PSs X a t) (hb:PSs X b u):PS X (.If c a b pos) (tIfS tc t u):=by
 intro pins s σ H D I h
 refine wpAny_If (thn (hc pins s σ H _ I h) fun d s1 ⟨H1,I1,q1⟩=>?_)
 cases d with
 | true=>exact ha pins s1 σ H1 D I1 q1
 | false=>exact hb pins s1 σ H1 D I1 q1
end
noncomputable abbrev TG:=V→St→Hp→(St→Hp→Prop)→Prop
noncomputable abbrev TGs:=List V→St→Hp→(St→Hp→Prop)→Prop
noncomputable def PG (X:Cx) (target:Expr) (t:TG):Prop :=
 ∀ (pins:List (Addr×Obj)) (s:Shared) (σ:St) (H:Hp) (v:V) (u:Value) (Q:St→Hp→Prop),Inv X pins σ H s→RelV v u→t v σ H Q →
  wpAny (model X.prog X.w) X.A (assign target X.env u) (fun _ s'=>∃ σ' H',Inv X pins σ' H' s'∧Q σ' H') X.xe s
noncomputable def PGs (X:Cx) (ts:List Expr) (t:TGs):Prop :=
 ∀ (pins:List (Addr×Obj)) (s:Shared) (σ:St) (H:Hp) (vs:List V) (us:List Value) (Q:St→Hp→Prop),Inv X pins σ H s→Vals vs us→t vs σ H Q →
  wpAny (model X.prog X.w) X.A (assignInOrder ((assignEach ts X.env).map (·.2)) us) (fun _ s'=>∃ σ' H',Inv X pins σ' H' s'∧Q σ' H') X.xe s
noncomputable abbrev TSet:=V→V→V→Hp→(Hp→Prop)→Prop
noncomputable def PSet (X:Cx) (t:TSet):Prop :=
 ∀ (pins:List (Addr×Obj)) (s:Shared) (σ:St) (H:Hp) (o i v:V) (ov iv u:Value) (Q:Hp→Prop),Inv X pins σ H s→RelV o ov→RelV i iv→RelV v u→t o i v H Q →
  wpAny (model X.prog X.w) X.A (setItem ov iv u) (fun _ s'=>∃ H',Inv X pins σ H' s'∧Q H') X.xe s
section
variable {X:Cx} {pos:Pos}
noncomputable def gName (i:Nat):TG:=fun v σ H Q=>Q (σ.set i (some v)) H
theorem pg_name {i:Nat} {x:Str} (hN:X.N.Nodup) (hi:X.N[i]?=some x) (hx:Loc X.env.scope x) (hf:X.fn x=true∨X.env.scope.names.lookup x=some .local:=by first | exact .inl rfl | exact .inr rfl | assumption):PG X (.Name x pos) (gName i):=by
 intro pins s σ H v u Q I r h
 exact wpAny_assign_Name (store_ok I hN hi hx r (fun s' I'=>⟨_,H,I',h⟩) hf)
noncomputable def gNil:TGs:=fun vs σ H Q=>vs=[]∧Q σ H
noncomputable def gCons (t:TG) (u:TGs):TGs:=fun vs σ H Q=>∃ v r,vs=v :: r∧t v σ H fun σ' H'=>u r σ' H' Q
theorem pgs_nil:PGs X [] gNil:=by
 intro pins s σ H vs us Q I r h
 obtain ⟨e,h⟩:=h
 subst e
 cases r
 exact assignInOrder_nil ⟨σ,H,I,h⟩
theorem pgs_cons {e:Expr} {es:List Expr} {t:TG} {u:TGs} (h1:PG X e t) (h2:PGs X es u)
  (hs:(assignEach (e :: es) X.env).map (·.2)=assign e X.env :: (assignEach es X.env).map (·.2):=by rfl):PGs X (e :: es) (gCons t u):=by
 intro pins s σ H vs us Q I r h
 obtain ⟨v,vr,e1,h⟩:=h
 subst e1
 cases r with
 | cons r rr =>
  rw [hs]
  refine assignInOrder_cons (thn (h1 pins s σ H _ _ _ I r h) fun _ s1 ⟨σ1,H1,I1,q1⟩=>?_)
  exact h2 pins s1 σ1 H1 _ _ Q I1 rr q1
noncomputable def gTup (K:PySem.W.Frag) (n:Nat) (t:TGs):TG:=fun v σ H Q=>∃ a xs,v=.ref a∧SqT K H a xs∧xs.length=n∧t xs σ H Q
theorem pg_tup {es:List Expr} {k:Nat} {t:TGs} {n:Nat} (hc:X.calm=true) (h:PGs X es t)
  (hn:(assignEach es X.env).length=n:=by rfl) (hst:(assignEach es X.env).findIdx? (·.1)=none:=by rfl):PG X (.Tuple es k pos) (gTup X.K n t):=by
 intro pins s σ H v u Q I r hw
 obtain ⟨a,xs,e1,hq,hl,hw⟩:=hw
 subst e1
 cases r
 obtain ⟨its,rv,ht,hz⟩:=I.tuple hq
 refine assign_Tuple_tuple (I.ok.hd hc) ht (by simp [hn,← hl,rv.length]) hst fun h' hx=>?_
 have I1:Inv X pins σ H { s with heap:=h' }:=I.kept (t':=s.toks) fun b o e=>hx b o (Nat.ne_of_lt (Heap.lt_size e)) e
 exact h pins _ σ H xs _ Q I1 (by simpa using rv) hw
noncomputable def gSub (to ti:TE) (t:TSet):TG:=fun v σ H Q=>to σ H fun o H1=>ti σ H1 fun i H2=>t o i v H2 fun H3=>Q σ H3
theorem pg_sub {o i:Expr} {to ti:TE} {t:TSet} (ho:PE X o to) (hi:PE X i ti) (hs:PSet X t)
  (ha:∀ v,assign (.Subscript o i pos) X.env v=(do
   let ov ← holding [v] (eval o X.env)
   let iv ← holding [v,ov] (eval i X.env)
   standAt pos
   holding [v,ov,iv] (setItem ov iv v)
   release [v,ov,iv] []):=by intro _; rfl):PG X (.Subscript o i pos) (gSub to ti t):=by
 intro pins s σ H v u Q I r h
 rw [ha]
 refine wpAny_bind (wpAny_holding (thn (ho pins s σ H _ I h) fun ov s1 ⟨x,H1,I1,r1,q1⟩=>?_))
 refine wpAny_bind (wpAny_holding (thn (hi pins s1 σ H1 _ I1 q1) fun iv s2 ⟨y,H2,I2,r2,q2⟩=>?_))
 refine wpAny_bind (wpAny_standAt (wpAny_bind (wpAny_holding (thn (hs pins s2 σ H2 x y v ov iv u _ I2 r1 r2 r q2) fun _ s3 ⟨H3,I3,q3⟩=>?_))))
 exact wpAny_release ⟨σ,H3,I3,q3⟩
noncomputable def tAsg (te:TE) (g:TG):TS:=fun D σ H=>te σ H fun x H1=>g x σ H1 D.nx
theorem ps_asg {tg e:Expr} {te:TE} {g:TG} (he:PE X e te) (hg:PG X tg g) (hs:swapsWithSole [tg] e pos.line X.env=pure false:=by rfl) (hw:swappedStores [tg] e X.env=pure none:=by rfl)
  (h1:(assignEach [tg] X.env).map (·.2)=[assign tg X.env]:=by rfl):PS X (.Assign [tg] e pos) (tAsg te g):=by
 intro pins s σ H D I h
 refine wpAny_Assign_stores (thn (he pins s σ H _ I h) fun v s1 ⟨x,H1,I1,r1,q1⟩=>?_) hs hw
 rw [h1]
 exact thn (hg pins s1 σ H1 x v _ I1 r1 q1) fun _ s2 q=>q
theorem ps_set {i:Nat} {x:Str} {e:Expr} {te:TE} {pos':Pos} (hN:X.N.Nodup) (hi:X.N[i]?=some x) (hx:Loc X.env.scope x) (he:PE X e te) (hs:swapsWith e (some (.Name x pos')) pos.line X.env=pure false:=by rfl) (hf:X.fn x=true∨X.env.scope.names.lookup x=some .local:=by first | exact .inl rfl | exact .inr rfl | assumption) :
  PS X (.Assign [.Name x pos'] e pos) (tAsg te (gName i)):=by
 intro pins s σ H D I h
 refine wpAny_Assign_Name (thn (he pins s σ H _ I h) fun v s1 ⟨y,H1,I1,r1,q1⟩=>?_) hs
 exact store_ok I1 hN hi hx r1 (fun s2 I2=>⟨_,H1,I2,q1⟩) hf
end
section
variable {X:Cx} {pos:Pos}
noncomputable def tWhile (c:TT) (tb:TS):TS:=fun D σ H=>∃ W:Nat→St→Hp→Prop,(∃ m,W m σ H)∧∀ m σ H,W m σ H →
 c σ H fun b H1=>if b=true then ∃ N:St→Hp→Prop,(∀ σ' H',N σ' H'→∃ m',m' < m∧W m' σ' H')∧tb { D with nx:=N,ct:=N,bk:=D.nx } σ H1 else D.nx σ H1
theorem ps_while {c:Expr} {body:List Stmt} {tc:TT} {tb:TS} (hp:PassesOwn (model X.prog X.w) X.A X.env X.xe) (hc:PT X c tc) (hb:PSs X body tb):PS X (.While c body [] pos) (tWhile tc tb):=by
 intro pins s σ H D I h
 obtain ⟨W,⟨m0,w0⟩,turn⟩:=h
 refine wpAny_While (codeAny_whileLoop (fun n s'=>∃ σ' H',Inv X pins σ' H' s'∧W n σ' H') ?_ m0 ⟨σ,H,I,w0⟩)
 rintro n s1 ⟨σ1,H1,I1,w1⟩
 refine wpAny_passesOwn hp (thn (hc pins s1 σ1 H1 _ I1 (turn n σ1 H1 w1)) fun b s2 ⟨H2,I2,q2⟩=>?_)
 cases b with
 | true =>
  obtain ⟨N,hN,q2⟩:=q2
  rw [if_pos rfl]
  refine wpAny_passesOwn hp (thn (hb pins s2 σ1 H2 _ I2 q2) fun f s3 q3=>?_)
  cases f with
  | next =>
   obtain ⟨σ3,H3,I3,n3⟩:=q3
   obtain ⟨m',hm,w3⟩:=hN σ3 H3 n3
   exact ⟨m',hm,σ3,H3,I3,w3⟩
  | cont =>
   obtain ⟨σ3,H3,I3,n3⟩:=q3
   obtain ⟨m',hm,w3⟩:=hN σ3 H3 n3
   exact ⟨m',hm,σ3,H3,I3,w3⟩
  | brk=>exact q3
  | ret v=>exact q3
 | false =>
  rw [if_neg Bool.false_ne_true]
  exact wpAny_execs_nil ⟨σ1,H2,I2,q2⟩
end
structure It where
 go:Nat→Hp→Prop
 yld:Nat→Hp→V→Hp→Prop
 stop:Nat→Hp→Prop
noncomputable def FpOk (X:Cx) (pins:List (Addr×Obj)) (H:Hp) (b:Addr):Prop :=
 H b=none∧b≠X.env.locals∧b ∉ X.fs∧(b∈X.ex∨X.s₀.heap.objs.size≤b)∧(∀ x c,X.env.cells.lookup x=some c→c≠b)∧∀ p∈X.pn++pins,p.1≠b
theorem Inv.fpOk {X:Cx} {pins:List (Addr×Obj)} {σ:St} {H H':Hp} {s:Shared} {b:Addr} (I:Inv X pins σ H s) (hb:s.heap.objs.size≤b) (hn:H' b=none):FpOk X pins H' b:=by
 refine ⟨hn,Nat.ne_of_gt (Nat.lt_of_lt_of_le I.lt hb),I.nofs hb,.inr (Nat.le_trans I.sz hb),fun x c e z=>?_,fun p hp z=>?_⟩
 ·obtain ⟨v,q⟩:=I.cell x c e
  exact absurd (Nat.lt_of_lt_of_le q.lt (by rw [z]; exact hb)) (Nat.lt_irrefl _)
 ·exact absurd (Nat.lt_of_lt_of_le (Heap.lt_size (I.pin p hp).1) (by rw [z]; exact hb)) (Nat.lt_irrefl _)
structure Turn (P:Program) (w:World) (K:PySem.W.Frag) (tg:Expr) (J:It) (fp:List Addr) (it:Addr) (tn:Nat→Heap→Prop):Prop where
 mem:it∈fp
 obj:∀ i h,tn i h→∀ b∈fp,∃ o,h.get? b=some o∧∀ v,o.data≠.cell v
 keep:∀ i h h',tn i h→(∀ b∈fp,∀ o,h.get? b=some o→h'.get? b=some o)→tn i h'
 item:∀ (X:Cx),X.prog=P→X.w=w→X.K=K→X.calm=true→∀ (i:Nat) (pins:List (Addr×Obj)) (s:Shared) (σ:St) (H:Hp) (E:Value→Shared→Prop),Inv X pins σ H s→(∀ b∈fp,FpOk X pins H b)→tn i s.heap→J.go i H →
  wpAny (model P w) X.A (pyNext (.ref it)) (fun r s1=>∃ u,r=some u ∧
   wpAny (model P w) X.A (letOwnedTupleGo tg (.ref it) u) (fun _ s2=>∃ x H',Inv X pins σ H' s2∧RelV x u∧J.yld i H x H'∧tn (i + 1) s2.heap∧∀ b∈fp,H' b=none) E s1) E s
 done:∀ (X:Cx),X.prog=P→X.w=w→X.K=K→X.calm=true→∀ (i:Nat) (pins:List (Addr×Obj)) (s:Shared) (σ:St) (H:Hp) (E:Value→Shared→Prop),Inv X pins σ H s→(∀ b∈fp,FpOk X pins H b)→tn i s.heap→J.stop i H →
  wpAny (model P w) X.A (pyNext (.ref it)) (fun r s1=>r=none∧Inv X pins σ H s1) E s
 self:∀ (A:Around) (i:Nat) (s:Shared) (Q:Value→Shared→Prop) (E:Value→Shared→Prop),tn i s.heap→Q (.ref it) s→wpAny (model P w) A (pyIter (.ref it)) Q E s
noncomputable abbrev TI:=St→Hp→(It→Hp→Prop)→Prop
noncomputable def PIE (X:Cx) (pins:List (Addr×Obj)) (σ:St) (tg:Expr) (R:It→Hp→Prop) (itv:Value) (s2:Shared):Prop :=
 ∃ (it:Addr) (fp:List Addr) (tn:Nat→Heap→Prop) (J:It) (H':Hp),itv=.ref it∧Inv X pins σ H' s2∧Turn X.prog X.w X.K tg J fp it tn∧tn 0 s2.heap∧(∀ b∈fp,FpOk X pins H' b)∧R J H'
noncomputable def PI (X:Cx) (tg iter:Expr) (wi:TI):Prop :=
 ∀ (pins:List (Addr×Obj)) (s:Shared) (σ:St) (H:Hp) (R:It→Hp→Prop),Inv X pins σ H s→wi σ H R →
  wpAny (model X.prog X.w) X.A (eval iter X.env) (fun v s1=>wpAny (model X.prog X.w) X.A (pyIter v) (PIE X pins σ tg R) X.xe s1) X.xe s
theorem go_of {M:Model} {A:Around} {E:Value→Shared→Prop} {s:Shared} {tg:Expr} {it:Addr} {u:Value} {o:Obj} {n:String} {vs:Array Value} {Q:Unit→Shared→Prop} (ho:s.heap.get? it=some o) (hc:o.cls=.type n) (hd:o.data=.fields vs)
    (hn:["enumerate","zip","dict_itemiterator","dict_reverseitemiterator","odict_iterator","itertools.zip_longest","itertools.pairwise"].contains n=false) (hQ:Q () s):wpAny M A (letOwnedTupleGo tg (.ref it) u) Q E s:=by
  unfold letOwnedTupleGo
  cases tg <;> first
    | exact wpAny_pure hQ
    | (cases u <;> first
        | exact wpAny_pure hQ
        | (refine wpAny_bind (wpAny_load ho ?_)
           rw [hc,hd]
           show wpAny M A (if (["enumerate","zip","dict_itemiterator","dict_reverseitemiterator","odict_iterator","itertools.zip_longest","itertools.pairwise"].contains n && vs[0]? == some (rawInt _))=true then _ else _) Q E s
           rw [if_neg (by intro h; rw [hn,Bool.false_and] at h; cases h)]
           exact wpAny_pure hQ))
noncomputable def Itl (K:PySem.W.Frag) (a:Addr):It :=
 ⟨fun i H=>∃ xs x,SqL K H a xs∧xs[i]?=some x,fun i H x H'=>H'=H∧∀ xs,SqL K H a xs→xs[i]?=some x,fun i H=>∃ xs,SqL K H a xs∧xs.length≤i⟩
noncomputable def Itt (K:PySem.W.Frag) (a:Addr):It :=
 ⟨fun i H=>∃ xs x,SqT K H a xs∧xs[i]?=some x,fun i H x H'=>H'=H∧∀ xs,SqT K H a xs→xs[i]?=some x,fun i H=>∃ xs,SqT K H a xs∧xs.length≤i⟩
noncomputable def Itr (lo:Int) (n:Nat):It:=⟨fun i _=>i < n,fun i H x H'=>H'=H∧x=.int (lo + i),fun i _=>n≤i⟩
theorem turn_list {P:Program} {w:World} {K:PySem.W.Frag} {tg:Expr} (a it:Addr):Turn P w K tg (Itl K a) [it] it (fun i h=>h.IsListIter it a i) where
 mem:=by simp
 obj:=fun i h st b hb=>by
  have e:b=it:=by simpa using hb
  subst e
  obtain ⟨o,e,c,d⟩:=st
  exact ⟨o,e,fun v z=>by rw [d] at z; cases z⟩
 keep:=fun i h h' st k=>st.at fun o e=>k it (by simp) o e
 item:=by
  intro X hP hw hK hc i pins s σ H E I hf st hg
  subst hP hw hK
  obtain ⟨xs,x,hq,hx⟩:=hg
  obtain ⟨its,rv,p,hz⟩:=I.list hq
  obtain ⟨u,hu,ru⟩:=rv.get hx
  obtain ⟨f0,f1,f2,f3,f4,f5⟩:=hf it (by simp)
  refine wpAny_pyNext_list_item st p.isList (x:=u) (by simpa using hu) fun h' st' sb=>?_
  have I1:Inv X pins σ H { s with heap:=h' }:=I.turned (t':=s.toks) (fun b o hb e=>(sb.2 b hb).trans e) f0 f1 f3 f4 f5
  obtain ⟨o,e,c,d⟩:=id st'
  exact ⟨u,rfl,go_of (s:={ s with heap:=h' }) e c d (by decide) ⟨x,H,I1,ru,⟨rfl,fun ys hy=>by rw [I.list_inj hy hq]; exact hx⟩,st',fun b hb=>(hf b hb).1⟩⟩
 done:=by
  intro X hP hw hK hc i pins s σ H E I hf st hg
  subst hP hw hK
  obtain ⟨xs,hq,hx⟩:=hg
  obtain ⟨its,rv,p,hz⟩:=I.list hq
  obtain ⟨f0,f1,f2,f3,f4,f5⟩:=hf it (by simp)
  have hl:=rv.length
  exact wpAny_pyNext_list_end (I.ok.hd hc) st p.isList (by simp; lia) fun h' eb=>⟨rfl,I.turned (t':=s.toks) (fun b o hb e=>eb b o hb e) f0 f1 f3 f4 f5⟩
 self:=fun _ _ _ _ _ st h=>wpAny_pyIter_listiter st h
theorem turn_tuple {P:Program} {w:World} {K:PySem.W.Frag} {tg:Expr} (a it:Addr):Turn P w K tg (Itt K a) [it] it (fun i h=>h.IsTupleIter it a i) where
 mem:=by simp
 obj:=fun i h st b hb=>by
  have e:b=it:=by simpa using hb
  subst e
  obtain ⟨o,e,c,d⟩:=st
  exact ⟨o,e,fun v z=>by rw [d] at z; cases z⟩
 keep:=fun i h h' st k=>st.at fun o e=>k it (by simp) o e
 item:=by
  intro X hP hw hK hc i pins s σ H E I hf st hg
  subst hP hw hK
  obtain ⟨xs,x,hq,hx⟩:=hg
  obtain ⟨its,rv,p,hz⟩:=I.tuple hq
  obtain ⟨u,hu,ru⟩:=rv.get hx
  obtain ⟨f0,f1,f2,f3,f4,f5⟩:=hf it (by simp)
  refine wpAny_pyNext_tuple_item st (show s.heap.IsTuple a its.toArray from p) (x:=u) (by simpa using hu) fun h' st' sb=>?_
  have I1:Inv X pins σ H { s with heap:=h' }:=I.turned (t':=s.toks) (fun b o hb e=>(sb.2 b hb).trans e) f0 f1 f3 f4 f5
  obtain ⟨o,e,c,d⟩:=id st'
  exact ⟨u,rfl,go_of (s:={ s with heap:=h' }) e c d (by decide) ⟨x,H,I1,ru,⟨rfl,fun ys hy=>by rw [I.tuple_inj hy hq]; exact hx⟩,st',fun b hb=>(hf b hb).1⟩⟩
 done:=by
  intro X hP hw hK hc i pins s σ H E I hf st hg
  subst hP hw hK
  obtain ⟨xs,hq,hx⟩:=hg
  obtain ⟨its,rv,p,hz⟩:=I.tuple hq
  obtain ⟨f0,f1,f2,f3,f4,f5⟩:=hf it (by simp)
  have hl:=rv.length
  exact wpAny_pyNext_tuple_end (I.ok.hd hc) st (show s.heap.IsTuple a its.toArray from p) (by simp; lia) fun h' eb=>⟨rfl,I.turned (t':=s.toks) (fun b o hb e=>eb b o hb e) f0 f1 f3 f4 f5⟩
 self:=fun _ _ _ _ _ st h=>wpAny_pyIter_tupleiter st h
theorem turn_range {P:Program} {w:World} {K:PySem.W.Frag} {tg:Expr} (it:Addr) (lo:Int) (n:Nat):Turn P w K tg (Itr lo n) [it] it (fun i h=>IsRangeIter h it (lo + (i:Nat) * 1) ((n:Int) - (i:Nat)) 1) where
 mem:=by simp
 obj:=fun i h st b hb=>by
  have e:b=it:=by simpa using hb
  subst e
  exact ⟨_,st,fun v z=>by
   have z':Data.fields _=Data.cell v:=z
   cases z'⟩
 keep:=fun i h h' st k=>k it (by simp) _ st
 item:=by
  intro X hP hw hK hc i pins s σ H E I hf st hg
  subst hP hw hK
  obtain ⟨f0,f1,f2,f3,f4,f5⟩:=hf it (by simp)
  have W:=Walks.range (prog:=X.prog) (w:=X.w) (I.ok.hd hc) it lo 1 n
  refine W.item i s _ _ hg st fun v h' tk hv st' kk=>?_
  obtain ⟨t,rfl⟩:=hv
  have I1:Inv X pins σ H { s with heap:=h',toks:=tk }:=I.turned (fun b o hb e=>kk b o (by simpa using hb) e) f0 f1 f3 f4 f5
  refine ⟨_,rfl,go_of (s:={ s with heap:=h',toks:=tk }) (n:="range_iterator") st' rfl rfl (by decide) ⟨.int (lo + i),H,I1,⟨t,?_⟩,⟨rfl,rfl⟩,st',fun b hb=>(hf b hb).1⟩⟩
  rw [Int.mul_one]
 done:=by
  intro X hP hw hK hc i pins s σ H E I hf st hg
  subst hP hw hK
  obtain ⟨f0,f1,f2,f3,f4,f5⟩:=hf it (by simp)
  exact wpAny_pyNext_range_end (I.ok.hd hc) st (by have:n≤i:=hg; lia) fun h' eb=>⟨rfl,I.turned (t':=s.toks) (fun b o hb e=>eb b o hb e) f0 f1 f3 f4 f5⟩
 self:=fun _ _ _ _ _ st h=>wpAny_pyIter_rangeiter st h
end L2
namespace L2
open PySem PySem.Spec PyProof.Rows
section
variable {X:Cx} {tg:Expr}
noncomputable def iList (K:PySem.W.Frag) (tl:TE):TI:=fun σ H R=>tl σ H fun x H1=>∃ a,x=.ref a∧(∃ xs,SqL K H1 a xs)∧R (Itl K a) H1
noncomputable def iTup (K:PySem.W.Frag) (tl:TE):TI:=fun σ H R=>tl σ H fun x H1=>∃ a,x=.ref a∧(∃ xs,SqT K H1 a xs)∧R (Itt K a) H1
theorem pi_list {l:Expr} {tl:TE} (hl:PE X l tl):PI X tg l (iList X.K tl):=by
 intro pins s σ H R I h
 refine thn (hl pins s σ H _ I h) fun v s1 ⟨x,H1,I1,r1,q1⟩=>?_
 obtain ⟨a,e,⟨xs,hq⟩,q⟩:=q1
 subst e
 cases r1
 obtain ⟨its,rv,p,hz⟩:=I1.list hq
 refine wpAny_pyIter_list p.isList ?_
 refine ⟨s1.heap.objs.size,[s1.heap.objs.size],_,_,H1,rfl,I1.kept (t':=s1.toks) fun b o e=>Heap.get?_push_of_some _ e,turn_list a _,⟨_,Heap.get?_push_size _ rfl,rfl,rfl⟩,fun b hb=>?_,q⟩
 have e:b=s1.heap.objs.size:=by simpa using hb
 subst e
 exact I1.fpOk (Nat.le_refl _) (I1.hok.fresh (Nat.le_refl _))
theorem pi_tup {l:Expr} {tl:TE} (hl:PE X l tl):PI X tg l (iTup X.K tl):=by
 intro pins s σ H R I h
 refine thn (hl pins s σ H _ I h) fun v s1 ⟨x,H1,I1,r1,q1⟩=>?_
 obtain ⟨a,e,⟨xs,hq⟩,q⟩:=q1
 subst e
 cases r1
 obtain ⟨its,rv,p,hz⟩:=I1.tuple hq
 refine wpAny_pyIter_tuple (show s1.heap.IsTuple a its.toArray from p) ?_
 refine ⟨s1.heap.objs.size,[s1.heap.objs.size],_,_,H1,rfl,I1.kept (t':=s1.toks) fun b o e=>Heap.get?_push_of_some _ e,turn_tuple a _,⟨_,Heap.get?_push_size _ rfl,rfl,rfl⟩,fun b hb=>?_,q⟩
 have e:b=s1.heap.objs.size:=by simpa using hb
 subst e
 exact I1.fpOk (Nat.le_refl _) (I1.hok.fresh (Nat.le_refl _))
theorem range_it {pins:List (Addr×Obj)} {σ:St} {H:Hp} {s:Shared} {R:It→Hp→Prop} {E:Value→Shared→Prop} {lo hi:Int} {t u v:Tok} {tk:Nat} (I:Inv X pins σ H s) (h1:-(2 ^ 62)≤lo) (h2:lo < 2 ^ 62) (h3:-(2 ^ 62)≤hi) (h4:hi < 2 ^ 62)
  (q:R (Itr lo (hi - lo).toNat) H):wpAny (model X.prog X.w) X.A (pyIter (.ref s.heap.objs.size)) (PIE X pins σ tg R) E { s with heap:=s.heap.push { cls:=.type "range",data:=.fields #[.int lo t,.int hi u,.int 1 v] },toks:=tk }:=by
 refine wpAny_pyIter_range (IsRange.new ..) (small_one h1 h2 h3 h4) ?_
 have I1:Inv X pins σ H { s with heap:=s.heap.push { cls:=.type "range",data:=.fields #[.int lo t,.int hi u,.int 1 v] },toks:=tk }:=I.kept fun b o e=>Heap.get?_push_of_some _ e
 refine ⟨(s.heap.push { cls:=.type "range",data:=.fields #[.int lo t,.int hi u,.int 1 v] }).objs.size,[(s.heap.push { cls:=.type "range",data:=.fields #[.int lo t,.int hi u,.int 1 v] }).objs.size],_,_,H,rfl,
  I1.kept (t':=tk) fun b o e=>Heap.get?_push_of_some _ e,turn_range _ lo (hi - lo).toNat,?_,fun b hb=>?_,q⟩
 ·have e1:lo + ((0:Nat):Int) * 1=lo:=by simp
  have e2:(((hi - lo).toNat:Nat):Int) - ((0:Nat):Int)=Builtin.Range.rangeSize lo hi 1:=by rw [rangeSize_one]; split <;> lia
  show IsRangeIter _ _ (lo + ((0:Nat):Int) * 1) ((((hi - lo).toNat:Nat):Int) - ((0:Nat):Int)) 1
  rw [e1,e2]
  exact Heap.get?_push_size _ rfl
 ·have e:b=(s.heap.push { cls:=.type "range",data:=.fields #[.int lo t,.int hi u,.int 1 v] }).objs.size:=by simpa using hb
  subst e
  exact I1.fpOk (Nat.le_refl _) (I1.hok.fresh (Nat.le_refl _))
noncomputable def iRng1 (ta:TA):TI:=fun σ H R=>ta σ H fun vs H1=>∃ j:Int,vs=[.int j]∧-(2 ^ 62)≤j∧j < 2 ^ 62∧R (Itr 0 j.toNat) H1
theorem pi_range1 {a:Expr} {ta:TA} {p pos:Pos} (hg:Gl X "range") (hm:X.mg "range"=none) (ha:PA X [a] ta) (hs:starEach [a] X.env=[(false,eval a X.env)]:=by rfl):PI X tg (.Call (.Name "range" p) [a] [] pos) (iRng1 ta):=by
 intro pins s σ H R I h
 refine Call_ (ld_blt I hg hm boot_range (PyProof.Rows.callWith_type1 (thn (ha pos pins s σ H _ I h) fun us s1 ⟨vs,H1,I1,r1,q1⟩=>?_) hs rfl))
 obtain ⟨j,e,q1,q2,q⟩:=q1
 subst e
 cases r1 with
 | cons r rr =>
  cases rr
  obtain ⟨t,rfl⟩:=r
  exact call_range_1 (range_it I1 (by lia) (by lia) q1 q2 (by simpa using q))
noncomputable def tFor (wi:TI) (g:TG) (tb:TS):TS:=fun D σ H=>wi σ H fun J H1=>∃ W:Nat→Nat→St→Hp→Prop,(∃ m,W 0 m σ H1)∧∀ i m σ H,W i m σ H →
 (J.stop i H∧D.nx σ H)∨(J.go i H∧∃ N:St→Hp→Prop,(∀ σ' H',N σ' H'→∃ m',m' < m∧W (i + 1) m' σ' H')∧∀ x H',J.yld i H x H'→g x σ H' fun σ2 H2=>tb { D with nx:=N,ct:=N,bk:=D.nx } σ2 H2)
noncomputable def pinsAt (fp:List Addr) (h:Heap):List (Addr×Obj):=fp.filterMap fun b=>(h.get? b).map fun o=>(b,o)
theorem mem_pinsAt {fp:List Addr} {h:Heap} {b:Addr} {o:Obj} (hb:b∈fp) (e:h.get? b=some o):(b,o)∈pinsAt fp h:=List.mem_filterMap.mpr ⟨b,hb,by rw [e]; rfl⟩
theorem of_pinsAt {fp:List Addr} {h:Heap} {p:Addr×Obj} (hp:p∈pinsAt fp h):p.1∈fp∧h.get? p.1=some p.2:=by
 obtain ⟨b,hb,e⟩:=List.mem_filterMap.mp hp
 cases q:h.get? b with
 | none=>rw [q] at e; cases e
 | some o =>
  rw [q] at e
  have e':(b,o)=p:=Option.some.inj e
  subst e'
  exact ⟨hb,q⟩
theorem Inv.pinned {pins:List (Addr×Obj)} {σ:St} {H:Hp} {s:Shared} {fp:List Addr} (I:Inv X pins σ H s) (hf:∀ b∈fp,FpOk X pins H b) (ho:∀ b∈fp,∃ o,s.heap.get? b=some o∧∀ v,o.data≠.cell v):Inv X (pins++pinsAt fp s.heap) σ H s :=
 I.pins_of fun p hp=>(List.mem_append.mp hp).elim (fun z=>I.pin p (List.mem_append_right _ z)) fun z=>by
  obtain ⟨hb,e⟩:=of_pinsAt z
  obtain ⟨f0,f1,f2,_⟩:=hf p.1 hb
  obtain ⟨o,e',d⟩:=ho p.1 hb
  rw [e] at e'; cases e'
  exact ⟨e,f0,f1,f2,d⟩
theorem Inv.unpinned {pins pl:List (Addr×Obj)} {σ:St} {H:Hp} {s:Shared} (I:Inv X (pins++pl) σ H s):Inv X pins σ H s:=I.pins_of fun p hp=>I.pin p (List.mem_append_right _ (List.mem_append_left _ hp))
theorem ps_for {iter:Expr} {body:List Stmt} {wi:TI} {g:TG} {tb:TS} {pos:Pos} (hp:PassesOwn (model X.prog X.w) X.A X.env X.xe) (hc:X.calm=true) (hi:PI X tg iter wi) (hg:PG X tg g) (hb:PSs X body tb)
  (hs:∀ x,foldedSetIterable iter X.env x=pure x:=by intro _; rfl):PS X (.For tg iter body [] pos) (tFor wi g tb):=by
 intro pins s σ H D I h
 refine wpAny_For (thn (hi pins s σ H _ I h) fun v s1 h1=>thn h1 fun itv s2 h2=>?_) hs
 obtain ⟨it,fp,tn,J,H2,e,I2,T,st2,f2,W,⟨m0,w0⟩,turn⟩:=h2
 subst e
 have stat:∀ {H':Hp},(∀ b∈fp,H' b=none)→∀ b∈fp,FpOk X pins H' b:=fun hn b hb=>⟨hn b hb,(f2 b hb).2⟩
 refine codeAny_forLoop_any (fun n s'=>∃ i σ' H',Inv X pins σ' H' s'∧tn i s'.heap∧(∀ b∈fp,H' b=none)∧W i n σ' H') ?_ m0 ⟨0,σ,H2,I2,st2,fun b hb=>(f2 b hb).1,w0⟩
 rintro n s3 ⟨i,σ3,H3,I3,st3,fr3,w3⟩
 rcases turn i n σ3 H3 w3 with ⟨stop,qn⟩ | ⟨go,N,hN,step⟩
 ·refine wpAny_passesOwn hp (thn (T.done X rfl rfl rfl hc i pins s3 σ3 H3 X.xe I3 (stat fr3) st3 stop) fun r s4 ⟨hr,I4⟩=>?_)
  subst hr
  exact wpAny_execs_nil ⟨σ3,H3,I4,qn⟩
 ·refine wpAny_passesOwn hp (thn (T.item X rfl rfl rfl hc i pins s3 σ3 H3 X.xe I3 (stat fr3) st3 go) fun r s4 ⟨u,hr,h4⟩=>?_)
  subst hr
  refine wpAny_passesOwn hp (thn h4 fun _ s5 ⟨x,H5,I5,r5,y5,st5,fr5⟩=>?_)
  have I5':=I5.pinned (stat fr5) (T.obj _ _ st5)
  refine wpAny_passesOwn hp (thn (hg _ s5 σ3 H5 x u _ I5' r5 (step x H5 y5)) fun _ s6 ⟨σ6,H6,I6,q6⟩=>?_)
  refine wpAny_passesOwn hp (thn (hb _ s6 σ6 H6 _ I6 q6) fun f s7 q7=>?_)
  have again:∀ {σ7:St} {H7:Hp},Inv X (pins++pinsAt fp s5.heap) σ7 H7 s7→N σ7 H7→∃ m,m < n∧∃ i σ' H',Inv X pins σ' H' s7∧tn i s7.heap∧(∀ b∈fp,H' b=none)∧W i m σ' H':=fun {σ7 H7} I7 n7=>by
   obtain ⟨m',hm,w7⟩:=hN σ7 H7 n7
   refine ⟨m',hm,i + 1,σ7,H7,I7.unpinned,T.keep _ _ _ st5 fun b hb o e=>(I7.pin (b,o) (List.mem_append_right _ (List.mem_append_right _ (mem_pinsAt hb e)))).1,fun b hb=>?_,w7⟩
   obtain ⟨o,e,d⟩:=T.obj _ _ st5 b hb
   exact (I7.pin (b,o) (List.mem_append_right _ (List.mem_append_right _ (mem_pinsAt hb e)))).2.1
  cases f with
  | next=>obtain ⟨σ7,H7,I7,n7⟩:=q7; exact again I7 n7
  | cont=>obtain ⟨σ7,H7,I7,n7⟩:=q7; exact again I7 n7
  | brk=>obtain ⟨σ7,H7,I7,q7⟩:=q7; exact ⟨σ7,H7,I7.unpinned,q7⟩
  | ret v=>obtain ⟨x7,σ7,H7,I7,r7,q7⟩:=q7; exact ⟨x7,σ7,H7,I7.unpinned,r7,q7⟩
end
theorem for_list {K:PySem.W.Frag} {a:Addr} {xs:List V} {g:TG} {tb:TS} {D:Ends} {σ:St} {H:Hp} (Pv:Nat→St→Hp→Prop) (h0:Pv 0 σ H) (hl:∀ i σ H,i≤xs.length→Pv i σ H→SqL K H a xs)
  (hs:∀ i x σ H,xs[i]?=some x→Pv i σ H→g x σ H fun σ2 H2=>tb { D with nx:=Pv (i + 1),ct:=Pv (i + 1),bk:=D.nx } σ2 H2) (hd:∀ σ H,Pv xs.length σ H→D.nx σ H) :
  ∃ W:Nat→Nat→St→Hp→Prop,(∃ m,W 0 m σ H)∧∀ i m σ H,W i m σ H →
   ((Itl K a).stop i H∧D.nx σ H)∨((Itl K a).go i H∧∃ N:St→Hp→Prop,(∀ σ' H',N σ' H'→∃ m',m' < m∧W (i + 1) m' σ' H')∧∀ x H',(Itl K a).yld i H x H'→g x σ H' fun σ2 H2=>tb { D with nx:=N,ct:=N,bk:=D.nx } σ2 H2):=by
 refine ⟨fun i m σ H=>m=xs.length - i∧i≤xs.length∧Pv i σ H,⟨xs.length,by simp,Nat.zero_le _,h0⟩,?_⟩
 rintro i m σ H ⟨rfl,hi,p⟩
 have q:=hl i σ H hi p
 by_cases hlt:i < xs.length
 ·refine .inr ⟨⟨xs,xs[i],q,by simp [hlt]⟩,Pv (i + 1),fun σ' H' p'=>⟨xs.length - (i + 1),by lia,rfl,hlt,p'⟩,fun x H' y=>?_⟩
  obtain ⟨e,y⟩:=y
  subst e
  exact hs i x σ _ (y xs q) p
 ·have e:i=xs.length:=by lia
  subst e
  exact .inl ⟨⟨xs,q,Nat.le_refl _⟩,hd σ H p⟩
theorem for_tup {K:PySem.W.Frag} {a:Addr} {xs:List V} {g:TG} {tb:TS} {D:Ends} {σ:St} {H:Hp} (Pv:Nat→St→Hp→Prop) (h0:Pv 0 σ H) (hl:∀ i σ H,i≤xs.length→Pv i σ H→SqT K H a xs)
  (hs:∀ i x σ H,xs[i]?=some x→Pv i σ H→g x σ H fun σ2 H2=>tb { D with nx:=Pv (i + 1),ct:=Pv (i + 1),bk:=D.nx } σ2 H2) (hd:∀ σ H,Pv xs.length σ H→D.nx σ H) :
  ∃ W:Nat→Nat→St→Hp→Prop,(∃ m,W 0 m σ H)∧∀ i m σ H,W i m σ H →
   ((Itt K a).stop i H∧D.nx σ H)∨((Itt K a).go i H∧∃ N:St→Hp→Prop,(∀ σ' H',N σ' H'→∃ m',m' < m∧W (i + 1) m' σ' H')∧∀ x H',(Itt K a).yld i H x H'→g x σ H' fun σ2 H2=>tb { D with nx:=N,ct:=N,bk:=D.nx } σ2 H2):=by
 refine ⟨fun i m σ H=>m=xs.length - i∧i≤xs.length∧Pv i σ H,⟨xs.length,by simp,Nat.zero_le _,h0⟩,?_⟩
 rintro i m σ H ⟨rfl,hi,p⟩
 have q:=hl i σ H hi p
 by_cases hlt:i < xs.length
 ·refine .inr ⟨⟨xs,xs[i],q,by simp [hlt]⟩,Pv (i + 1),fun σ' H' p'=>⟨xs.length - (i + 1),by lia,rfl,hlt,p'⟩,fun x H' y=>?_⟩
  obtain ⟨e,y⟩:=y
  subst e
  exact hs i x σ _ (y xs q) p
 ·have e:i=xs.length:=by lia
  subst e
  exact .inl ⟨⟨xs,q,Nat.le_refl _⟩,hd σ H p⟩
theorem for_range {lo:Int} {n:Nat} {g:TG} {tb:TS} {D:Ends} {σ:St} {H:Hp} (Pv:Nat→St→Hp→Prop) (h0:Pv 0 σ H)
  (hs:∀ i σ H,i < n→Pv i σ H→g (.int (lo + i)) σ H fun σ2 H2=>tb { D with nx:=Pv (i + 1),ct:=Pv (i + 1),bk:=D.nx } σ2 H2) (hd:∀ σ H,Pv n σ H→D.nx σ H) :
  ∃ W:Nat→Nat→St→Hp→Prop,(∃ m,W 0 m σ H)∧∀ i m σ H,W i m σ H →
   ((Itr lo n).stop i H∧D.nx σ H)∨((Itr lo n).go i H∧∃ N:St→Hp→Prop,(∀ σ' H',N σ' H'→∃ m',m' < m∧W (i + 1) m' σ' H')∧∀ x H',(Itr lo n).yld i H x H'→g x σ H' fun σ2 H2=>tb { D with nx:=N,ct:=N,bk:=D.nx } σ2 H2):=by
 refine ⟨fun i m σ H=>m=n - i∧i≤n∧Pv i σ H,⟨n,by simp,Nat.zero_le _,h0⟩,?_⟩
 rintro i m σ H ⟨rfl,hi,p⟩
 by_cases hlt:i < n
 ·refine .inr ⟨hlt,Pv (i + 1),fun σ' H' p'=>⟨n - (i + 1),by lia,rfl,hlt,p'⟩,fun x H' y=>?_⟩
  obtain ⟨e,y⟩:=y
  subst e y
  exact hs i σ _ hlt p
 ·have e:i=n:=by lia
  subst e
  exact .inl ⟨Nat.le_refl _,hd σ H p⟩
end L2
namespace L2
open PySem PySem.Spec PyProof.Rows
noncomputable abbrev R2:=V→V→Hp→VK→Prop
noncomputable def OpR (X:Cx) (f:Value→Value→Sem Value) (r:R2):Prop :=
 ∀ (pins:List (Addr×Obj)) (s:Shared) (σ:St) (H:Hp) (x y:V) (v u:Value) (Q:VK),Inv X pins σ H s→RelV x v→RelV y u→r x y H Q →
  wpAny (model X.prog X.w) X.A (f v u) (EP X pins σ Q) X.xe s
noncomputable def UnR (X:Cx) (f:Value→Sem Value) (r:V→Hp→VK→Prop):Prop :=
 ∀ (pins:List (Addr×Obj)) (s:Shared) (σ:St) (H:Hp) (x:V) (v:Value) (Q:VK),Inv X pins σ H s→RelV x v→r x H Q →
  wpAny (model X.prog X.w) X.A (f v) (EP X pins σ Q) X.xe s
noncomputable def CallR (X:Cx) (f:Value) (r:List V→Hp→VK→Prop):Prop :=
 ∀ (pins:List (Addr×Obj)) (s:Shared) (σ:St) (H:Hp) (xs:List V) (us:List Value) (Q:VK),Inv X pins σ H s→Vals xs us→r xs H Q →
  wpAny (model X.prog X.w) X.A (call f us) (EP X pins σ Q) X.xe s
noncomputable def TruR (X:Cx) (r:V→Hp→(Bool→Hp→Prop)→Prop):Prop :=
 ∀ (pins:List (Addr×Obj)) (s:Shared) (σ:St) (H:Hp) (x:V) (v:Value) (Q:Bool→Hp→Prop),Inv X pins σ H s→RelV x v→r x H Q →
  wpAny (model X.prog X.w) X.A (truthy v) (TP X pins σ Q) X.xe s
noncomputable def tOp (r:R2) (ta tb:TE):TE:=fun σ H Q=>ta σ H fun x H1=>tb σ H1 fun y H2=>r x y H2 Q
noncomputable def tUn (r:V→Hp→VK→Prop) (ta:TE):TE:=fun σ H Q=>ta σ H fun x H1=>r x H1 Q
noncomputable def rI (C:Int→Int→Prop) (g:Int→Int→V):R2:=fun x y H Q=>∃ i j,x=.int i∧y=.int j∧C i j∧Q (g i j) H
noncomputable def rI0 (g:Int→Int→V):R2:=fun x y H Q=>∃ i j,x=.int i∧y=.int j∧Q (g i j) H
noncomputable def rU (g:Int→V):V→Hp→VK→Prop:=fun x H Q=>∃ i,x=.int i∧Q (g i) H
section
variable {X:Cx} {a b c:Expr} {ta tb tc:TE} {pos:Pos}
theorem binT (ha:PE X a ta) (hb:PE X b tb) {pins:List (Addr×Obj)} {s:Shared} {σ:St} {H:Hp} {R:V→V→Hp→Prop} (I:Inv X pins σ H s)
  (h:ta σ H fun x H1=>tb σ H1 fun y H2=>R x y H2) {Q:Value→Shared→Prop} {f:Value→Value→Sem Value}
  (hf:∀ v u s2 x y H2,Inv X pins σ H2 s2→RelV x v→RelV y u→R x y H2→wpAny (model X.prog X.w) X.A (f v u) Q X.xe s2) :
  wpAny (model X.prog X.w) X.A (eval a X.env) (fun v s₁=>wpAny (model X.prog X.w) X.A (eval b X.env) (fun u s₂=>wpAny (model X.prog X.w) X.A (f v u) Q X.xe s₂) X.xe s₁) X.xe s:=by
 refine thn (ha pins s σ H _ I h) fun v s1 ⟨x,H1,I1,r1,q1⟩=>?_
 refine thn (hb pins s1 σ H1 _ I1 q1) fun u s2 ⟨y,H2,I2,r2,q2⟩=>?_
 exact hf v u s2 x y H2 I2 r1 r2 q2
theorem pe_op {op:Operator} {r:R2} (ho:OpR X (binaryOp op) r) (ha:PE X a ta) (hb:PE X b tb):PE X (.BinOp a op b pos) (tOp r ta tb):=by
 intro pins s σ H Q I h
 exact wpAny_BinOp (binT ha hb I h fun v u s2 x y H2 I2 rx ry q=>ho pins s2 σ H2 x y v u Q I2 rx ry q)
theorem pe_un {op:UnaryOp} {r:V→Hp→VK→Prop} (ho:UnR X (unaryOp op) r) (ha:PE X a ta):PE X (.UnaryOp op a pos) (tUn r ta):=by
 intro pins s σ H Q I h
 exact UnaryOp_ (thn (ha pins s σ H _ I h) fun v s1 ⟨x,H1,I1,r1,q1⟩=>ho pins s1 σ H1 x v Q I1 r1 q1)
theorem opI {f:Value→Value→Sem Value} {C:Int→Int→Prop} {g:Int→Int→Int}
  (rule:∀ (i j:Int) (t u:Tok) (s:Shared) (Q:Value→Shared→Prop) (E:Value→Shared→Prop),C i j→Q (.int (g i j) s.toks) { s with toks:=s.toks + 1 }→wpAny (model X.prog X.w) X.A (f (.int i t) (.int j u)) Q E s) :
  OpR X f (rI C fun i j=>.int (g i j)):=by
 intro pins s σ H x y v u Q I rx ry h
 obtain ⟨i,j,rfl,rfl,hc,q⟩:=h
 obtain ⟨t,rfl⟩:=rx
 obtain ⟨t',rfl⟩:=ry
 exact rule i j t t' s _ _ hc ⟨.int (g i j),H,I.tok _,⟨_,rfl⟩,q⟩
theorem opI0 {f:Value→Value→Sem Value} {g:Int→Int→Int}
  (rule:∀ (i j:Int) (t u:Tok) (s:Shared) (Q:Value→Shared→Prop) (E:Value→Shared→Prop),Q (.int (g i j) s.toks) { s with toks:=s.toks + 1 }→wpAny (model X.prog X.w) X.A (f (.int i t) (.int j u)) Q E s) :
  OpR X f (rI0 fun i j=>.int (g i j)):=by
 intro pins s σ H x y v u Q I rx ry h
 obtain ⟨i,j,rfl,rfl,q⟩:=h
 obtain ⟨t,rfl⟩:=rx
 obtain ⟨t',rfl⟩:=ry
 exact rule i j t t' s _ _ ⟨.int (g i j),H,I.tok _,⟨_,rfl⟩,q⟩
theorem opB0 {f:Value→Value→Sem Value} {g:Int→Int→Bool}
  (rule:∀ (i j:Int) (t u:Tok) (s:Shared) (Q:Value→Shared→Prop) (E:Value→Shared→Prop),Q (.bool (g i j)) s→wpAny (model X.prog X.w) X.A (f (.int i t) (.int j u)) Q E s) :
  OpR X f (rI0 fun i j=>.bl (g i j)):=by
 intro pins s σ H x y v u Q I rx ry h
 obtain ⟨i,j,rfl,rfl,q⟩:=h
 obtain ⟨t,rfl⟩:=rx
 obtain ⟨t',rfl⟩:=ry
 exact rule i j t t' s _ _ ⟨.bl (g i j),H,I,rfl,q⟩
noncomputable def CDiv (i j:Int):Prop:=0 < j∧j < 1073741824
noncomputable def CPow (i j:Int):Prop:=0≤j∧j≤1000000∧i.natAbs < 2 ^ 64
noncomputable def CMul (i j:Int):Prop:=(-(2 ^ 64) < i∧i < 2 ^ 64)∨(-(2 ^ 64) < j∧j < 2 ^ 64)
theorem CMul.ok {i j:Int} (h:CMul i j):IntMulOk i j:=by
 rcases h with ⟨h1,h2⟩ | ⟨h1,h2⟩
 ·exact .of_left (intBits_le_64 h1 h2)
 ·exact .of_right (intBits_le_64 h1 h2)
theorem op_add:OpR X (binaryOp .Add) (rI0 fun i j=>.int (i + j)):=opI0 fun _ _ _ _ _ _ _ q=>add_int q
theorem op_sub:OpR X (binaryOp .Sub) (rI0 fun i j=>.int (i - j)):=opI0 fun _ _ _ _ _ _ _ q=>sub_int q
theorem op_mul:OpR X (binaryOp .Mult) (rI CMul fun i j=>.int (i * j)):=opI fun _ _ _ _ _ _ _ hc q=>mul_int q hc.ok
theorem op_fdiv:OpR X (binaryOp .FloorDiv) (rI CDiv fun i j=>.int (i / j)):=opI fun i j _ _ _ _ _ hc q=>by
 have h1:(0:Int) < j:=hc.1
 have h2:j < 1073741824:=hc.2
 exact floordiv_int (by lia) (by rw [Int.fdiv_eq_ediv_of_nonneg i (by lia)]; exact q) (.inl (PyProof.noPylong_small (by lia)))
theorem op_mod:OpR X (binaryOp .Mod) (rI (fun _ j=>0 < j) fun i j=>.int (i % j)):=opI fun i j _ _ _ _ _ hc q=>by
 have h1:(0:Int) < j:=hc
 exact mod_int' (by lia) (by rw [Int.fmod_eq_emod_of_nonneg i (by lia)]; exact q)
theorem op_pow:OpR X (binaryOp .Pow) (rI CPow fun i j=>.int (i ^ j.toNat)):=opI fun _ _ _ _ _ _ _ hc q=>pow_int_small hc.1 hc.2.1 hc.2.2 q
theorem unI {f:Value→Sem Value} {g:Int→Int}
  (rule:∀ (i:Int) (t:Tok) (s:Shared) (Q:Value→Shared→Prop) (E:Value→Shared→Prop),Q (.int (g i) s.toks) { s with toks:=s.toks + 1 }→wpAny (model X.prog X.w) X.A (f (.int i t)) Q E s) :
  UnR X f (rU fun i=>.int (g i)):=by
 intro pins s σ H x v Q I rx h
 obtain ⟨i,rfl,q⟩:=h
 obtain ⟨t,rfl⟩:=rx
 exact rule i t s _ _ ⟨.int (g i),H,I.tok _,⟨_,rfl⟩,q⟩
theorem un_neg:UnR X (unaryOp .USub) (rU fun i=>.int (-i)):=unI fun _ _ _ _ _ q=>neg_int q
end
noncomputable def scal:V→V→Bool
 | .non,.non=>true | .non,.int _=>true | .int _,.non=>true | .non,.bl _=>true | .bl _,.non=>true | .non,.str _=>true | .str _,.non=>true
 | .int _,.int _=>true | .bl _,.bl _=>true | .str _,.str _=>true | .byt _,.byt _=>true
 | .int _,.str _=>true | .str _,.int _=>true | .bl _,.str _=>true | .str _,.bl _=>true
 | _,_=>false
noncomputable def rEq:R2:=fun x y H Q=>scal x y=true∧Q (.bl (decide (x=y))) H
noncomputable def rNe:R2:=fun x y H Q=>scal x y=true∧Q (.bl (!decide (x=y))) H
theorem dec_int {i j:Int}:decide (V.int i=V.int j)=(i == j):=by
 rw [Bool.eq_iff_iff]
 simp
theorem dec_bl {i j:Bool}:decide (V.bl i=V.bl j)=(i == j):=by
 rw [Bool.eq_iff_iff]
 simp
theorem dec_str {i j:Str}:decide (V.str i=V.str j)=(i == j):=by
 rw [Bool.eq_iff_iff]
 simp
theorem dec_byt {i j:Array UInt8}:decide (V.byt i=V.byt j)=(i.toList == j.toList):=by
 rw [Bool.eq_iff_iff]
 cases i
 cases j
 simp
section
variable {X:Cx} {a b c:Expr} {ta tb tc:TE} {pos:Pos}
theorem fin_bl {pins:List (Addr×Obj)} {σ:St} {H:Hp} {s:Shared} {Q:VK} {k k':Bool} (I:Inv X pins σ H s) (q:Q (.bl k) H) (e:k=k'):EP X pins σ Q (.bool k') s:=by
 subst e
 exact ⟨.bl k,H,I,rfl,q⟩
theorem op_eq:OpR X (compareOp .Eq) rEq:=by
 intro pins s σ H x y v u Q I rx ry h
 obtain ⟨hs,q⟩:=h
 cases x with
 | non =>
  cases rx
  cases y with
  | non=>cases ry; exact PySem.EqNone.eq_none_none (fin_bl I q (by simp))
  | bl j=>cases ry; exact PySem.EqNone.eq_none_bool (fin_bl I q (by simp))
  | int j=>obtain ⟨t',rfl⟩:=ry; exact PySem.EqNone.eq_none_int (fin_bl I q (by simp))
  | str j=>obtain ⟨t',rfl⟩:=ry; exact PySem.EqNone.eq_none_str (fin_bl I q (by simp))
  | _=>exact absurd (show false=true from hs) Bool.false_ne_true
 | bl i =>
  cases rx
  cases y with
  | non=>cases ry; exact PySem.EqNone.eq_bool_none (fin_bl I q (by simp))
  | bl j=>cases ry; exact eq_bool (fin_bl I q dec_bl)
  | str j=>obtain ⟨t',rfl⟩:=ry; exact PySem.EqMixed.eq_bool_str (fin_bl I q (by simp))
  | _=>exact absurd (show false=true from hs) Bool.false_ne_true
 | int i =>
  obtain ⟨t,rfl⟩:=rx
  cases y with
  | non=>cases ry; exact PySem.EqNone.eq_int_none (fin_bl I q (by simp))
  | int j=>obtain ⟨t',rfl⟩:=ry; exact eq_int (fin_bl I q dec_int)
  | str j=>obtain ⟨t',rfl⟩:=ry; exact PySem.EqMixed.eq_int_str (fin_bl I q (by simp))
  | _=>exact absurd (show false=true from hs) Bool.false_ne_true
 | str i =>
  obtain ⟨t,rfl⟩:=rx
  cases y with
  | non=>cases ry; exact PySem.EqNone.eq_str_none (fin_bl I q (by simp))
  | bl j=>cases ry; exact PySem.EqMixed.eq_str_bool (fin_bl I q (by simp))
  | int j=>obtain ⟨t',rfl⟩:=ry; exact PySem.EqMixed.eq_str_int (fin_bl I q (by simp))
  | str j=>obtain ⟨t',rfl⟩:=ry; exact eq_str (fin_bl I q dec_str)
  | _=>exact absurd (show false=true from hs) Bool.false_ne_true
 | byt i =>
  obtain ⟨t,rfl⟩:=rx
  cases y with
  | byt j=>obtain ⟨t',rfl⟩:=ry; exact PySem.W.eq_bytes (fin_bl I q dec_byt)
  | _=>exact absurd (show false=true from hs) Bool.false_ne_true
 | _=>cases y <;> exact absurd (show false=true from hs) Bool.false_ne_true
theorem op_ne:OpR X (compareOp .NotEq) rNe:=by
 intro pins s σ H x y v u Q I rx ry h
 obtain ⟨hs,q⟩:=h
 cases x with
 | non =>
  cases rx
  cases y with
  | non=>cases ry; exact PySem.EqNone.ne_none_none (fin_bl I q (by simp))
  | bl j=>cases ry; exact PySem.EqNone.ne_none_bool (fin_bl I q (by simp))
  | int j=>obtain ⟨t',rfl⟩:=ry; exact PySem.EqNone.ne_none_int (fin_bl I q (by simp))
  | str j=>obtain ⟨t',rfl⟩:=ry; exact PySem.EqNone.ne_none_str (fin_bl I q (by simp))
  | _=>exact absurd (show false=true from hs) Bool.false_ne_true
 | bl i =>
  cases rx
  cases y with
  | non=>cases ry; exact PySem.EqNone.ne_bool_none (fin_bl I q (by simp))
  | bl j=>cases ry; exact ne_bool (fin_bl I q (congrArg not dec_bl))
  | str j=>obtain ⟨t',rfl⟩:=ry; exact PySem.EqMixed.ne_bool_str (fin_bl I q (by simp))
  | _=>exact absurd (show false=true from hs) Bool.false_ne_true
 | int i =>
  obtain ⟨t,rfl⟩:=rx
  cases y with
  | non=>cases ry; exact PySem.EqNone.ne_int_none (fin_bl I q (by simp))
  | int j=>obtain ⟨t',rfl⟩:=ry; exact ne_int (fin_bl I q (congrArg not dec_int))
  | str j=>obtain ⟨t',rfl⟩:=ry; exact PySem.EqMixed.ne_int_str (fin_bl I q (by simp))
  | _=>exact absurd (show false=true from hs) Bool.false_ne_true
 | str i =>
  obtain ⟨t,rfl⟩:=rx
  cases y with
  | non=>cases ry; exact PySem.EqNone.ne_str_none (fin_bl I q (by simp))
  | bl j=>cases ry; exact PySem.EqMixed.ne_str_bool (fin_bl I q (by simp))
  | int j=>obtain ⟨t',rfl⟩:=ry; exact PySem.EqMixed.ne_str_int (fin_bl I q (by simp))
  | str j=>obtain ⟨t',rfl⟩:=ry; exact ne_str (fin_bl I q (congrArg not dec_str))
  | _=>exact absurd (show false=true from hs) Bool.false_ne_true
 | byt i =>
  obtain ⟨t,rfl⟩:=rx
  cases y with
  | byt j=>obtain ⟨t',rfl⟩:=ry; exact PySem.W.ne_bytes (fin_bl I q (congrArg not dec_byt))
  | _=>exact absurd (show false=true from hs) Bool.false_ne_true
 | _=>cases y <;> exact absurd (show false=true from hs) Bool.false_ne_true
theorem op_lt:OpR X (compareOp .Lt) (rI0 fun i j=>.bl (decide (i < j))):=opB0 fun _ _ _ _ _ _ _ q=>lt_int q
theorem op_le:OpR X (compareOp .LtE) (rI0 fun i j=>.bl (decide (i≤j))):=opB0 fun _ _ _ _ _ _ _ q=>le_int q
theorem op_gt:OpR X (compareOp .Gt) (rI0 fun i j=>.bl (decide (j < i))):=opB0 fun _ _ _ _ _ _ _ q=>gt_int q
theorem op_ge:OpR X (compareOp .GtE) (rI0 fun i j=>.bl (decide (j≤i))):=opB0 fun _ _ _ _ _ _ _ q=>ge_int q
theorem op_isN:OpR X (compareOp .Is) (fun x y H Q=>y=.non∧Q (.bl (decide (x=.non))) H):=by
  intro pins s σ H x y v u Q I rx ry h
  obtain ⟨rfl,q⟩:=h
  cases ry
  refine is_none_gen (fin_bl I q ?_)
  cases x <;> first
    | (cases rx; rfl)
    | (obtain ⟨t,rfl⟩:=rx; rfl)
theorem op_notN:OpR X (compareOp .IsNot) (fun x y H Q=>y=.non∧Q (.bl (!decide (x=.non))) H):=by
  intro pins s σ H x y v u Q I rx ry h
  obtain ⟨rfl,q⟩:=h
  cases ry
  refine isnot_none_gen (fin_bl I q ?_)
  cases x <;> first
    | (cases rx; rfl)
    | (obtain ⟨t,rfl⟩:=rx; rfl)
theorem nomark (b:Expr) {op:CmpOp} (h:op≠.In:=by decide) (h2:op≠.NotIn:=by decide):behindInMarks op b=false:=by
 have e1:(op == CmpOp.In)=false:=by cases op <;> first | rfl | exact absurd rfl h
 have e2:(op == CmpOp.NotIn)=false:=by cases op <;> first | rfl | exact absurd rfl h2
 cases b <;> simp [behindInMarks,e1,e2]
theorem pe_cmpR {op:CmpOp} {r:R2} (ho:OpR X (compareOp op) r) (ha:PE X a ta) (hb:PE X b tb) (hm:behindInMarks op b=false):PE X (.Compare a [op] [b] pos) (tOp r ta tb):=by
 intro pins s σ H Q I h
 exact wpAny_Compare1 (binT ha hb I h fun v u s2 x y H2 I2 rx ry q=>ho pins s2 σ H2 x y v u Q I2 rx ry q) hm
noncomputable def tTest (t:TE):TT:=fun σ H Q=>t σ H fun x H'=>∃ k,x=.bl k∧Q k H'
theorem pt_cmpR {op:CmpOp} {r:R2} (ho:OpR X (compareOp op) r) (ha:PE X a ta) (hb:PE X b tb) (hm:behindInMarks op b=false):PT X (.Compare a [op] [b] pos) (tTest (tOp r ta tb)):=by
 intro pins s σ H Q I h
 refine wpAny_isTrue_Compare1 (thn (ha pins s σ H _ I h) fun v s1 ⟨x,H1,I1,r1,q1⟩=>thn (hb pins s1 σ H1 _ I1 q1) fun u s2 ⟨y,H2,I2,r2,q2⟩ =>
  thn (ho pins s2 σ H2 x y v u _ I2 r1 r2 q2) fun c s3 ⟨z,H3,I3,r3,k,e,q3⟩=>?_) hm
 subst e
 cases r3
 exact wpAny_truthy_bool ⟨H3,I3,q3⟩
noncomputable def TruV (K:PySem.W.Frag) (x:V) (H:Hp) (k:Bool):Prop :=
 match x with
 | .non=>k=false
 | .bl b=>k=b
 | .int i=>k=(i != 0)
 | .str y=>y.length≤sizeLine∧k=((y.length:Int) != 0)
 | .byt y=>y.size≤sizeLine∧k=((y.size:Int) != 0)
 | .ref p=>(∃ xs,SqL K H p xs∧k=!xs.isEmpty)∨(∃ xs,SqT K H p xs∧k=!xs.isEmpty)∨∃ kvs,H p=some (.dK kvs)∧k=!kvs.isEmpty
 | _=>False
theorem isEmpty_kv {κ:Type} {kvs:List (κ×V)} {vs:List (κ×Value)} (r:KV kvs vs):(!vs.isEmpty)=!kvs.isEmpty:=by
 cases r <;> rfl
theorem isEmpty_of {xs:List V} {its:List Value} (r:Vals xs its):(!its.toArray.isEmpty)=!xs.isEmpty:=by
 cases r <;> simp
theorem line63:(sizeLine:Nat) < 2 ^ 63:=by rw [sizeLine_eq]; decide
theorem tru_ok:TruR X (fun x H Q=>∃ k,TruV X.K x H k∧Q k H):=by
 intro pins s σ H x v Q I rx h
 obtain ⟨k,e,q⟩:=h
 have hl:=line63
 have hs:sizeLine=16777216:=sizeLine_eq
 cases x with
 | non =>
  cases rx
  have e':k=false:=e
  subst e'
  exact truthy_none ⟨H,I,q⟩
 | bl b =>
  cases rx
  have e':k=b:=e
  subst e'
  exact wpAny_truthy_bool ⟨H,I,q⟩
 | int i =>
  obtain ⟨t,rfl⟩:=rx
  have e':k=(i != 0):=e
  subst e'
  exact PySem.P.truthy_int ⟨H,I,q⟩
 | str y =>
  obtain ⟨t,rfl⟩:=rx
  obtain ⟨hy,e'⟩:y.length≤sizeLine∧k=((y.length:Int) != 0):=e
  subst e'
  exact PySem.P.truthy_str (by lia) ⟨H,I.tok _,q⟩
 | byt y =>
  obtain ⟨t,rfl⟩:=rx
  obtain ⟨hy,e'⟩:y.size≤sizeLine∧k=((y.size:Int) != 0):=e
  subst e'
  exact PySem.W.truthy_bytes (by lia) ⟨H,I.tok _,q⟩
 | ref p =>
  cases rx
  have e':(∃ xs,SqL X.K H p xs∧k=!xs.isEmpty)∨(∃ xs,SqT X.K H p xs∧k=!xs.isEmpty)∨∃ kvs,H p=some (.dK kvs)∧k=!kvs.isEmpty:=e
  rcases e' with ⟨xs,hx,e'⟩ | ⟨xs,hx,e'⟩ | ⟨kvs,hx,e'⟩
  ·subst e'
   obtain ⟨its,r,pl,hz⟩:=I.list hx
   have hlen:=r.length
   exact wpAny_truthy_list pl.isList (by simp only [List.size_toArray]; lia) ⟨H,I.tok _,by rw [isEmpty_of r]; exact q⟩
  ·subst e'
   obtain ⟨its,r,pl,hz⟩:=I.tuple hx
   have hlen:=r.length
   exact truthy_tuple pl (by simp only [List.size_toArray]; lia) ⟨H,I.tok _,by rw [isEmpty_of r]; exact q⟩
  ·subst e'
   obtain ⟨hz,hS,vs,r,m⟩:kvs.length≤sizeLine∧(p == sysModules)=false∧∃ vs,KV kvs vs∧s.heap.DictOf (mixKind X.prog X.w) p vs:=I.hok p _ hx
   have hlen:kvs.length=vs.length:=Paired.length r
   exact wpAny_truthy_dict hS m (by lia) ⟨H,I.tok _,by rw [isEmpty_kv r]; exact q⟩
 | _=>exact (show False from e).elim
theorem pt_truth (ha:PE X a ta) (he:∀ whole,isTrue a X.env whole=(do let v ← whole; standAt a.pos; holding [v] (truthy v))) :
  PT X a (fun σ H Q=>ta σ H fun x H'=>∃ k,TruV X.K x H' k∧Q k H'):=by
 intro pins s σ H Q I h
 exact isTrue_plain (thn (ha pins s σ H _ I h) fun v s1 ⟨x,H1,I1,r1,q1⟩=>tru_ok pins s1 σ H1 x v Q I1 r1 q1) (he _)
theorem vals1 {x:V} {us:List Value} (r:Vals [x] us):∃ u,us=[u]∧RelV x u:=by
 cases r with
 | cons r1 r2=>cases r2; exact ⟨_,rfl,r1⟩
theorem vals2 {x y:V} {us:List Value} (r:Vals [x,y] us):∃ u w',us=[u,w']∧RelV x u∧RelV y w':=by
 cases r with
 | cons r1 r2 =>
  cases r2 with
  | cons r3 r4=>cases r4; exact ⟨_,_,rfl,r1,r3⟩
theorem call_min2 (hc:X.calm=true):CallR X (.builtin "min") (fun xs H Q=>∃ i j,xs=[.int i,.int j]∧Q (.int (if j < i then j else i)) H):=by
 intro pins s σ H xs us Q I r h
 obtain ⟨i,j,rfl,q⟩:=h
 obtain ⟨u,w',rfl,⟨t,rfl⟩,⟨t',rfl⟩⟩:=vals2 r
 refine min_two_ints (I.ok.hd hc) fun h' tk k=>⟨_,H,I.kept k,?_,q⟩
 by_cases hj:j < i
 ·rw [if_pos hj,if_pos hj]; exact ⟨_,rfl⟩
 ·rw [if_neg hj,if_neg hj]; exact ⟨_,rfl⟩
theorem call_int1:CallR X (.type "int") (fun xs H Q=>(∃ i,xs=[.int i]∧Q (.int i) H)∨∃ k,xs=[.bl k]∧Q (.int (if k then 1 else 0)) H):=by
 intro pins s σ H xs us Q I r h
 rcases h with ⟨i,rfl,q⟩ | ⟨k,rfl,q⟩
 ·obtain ⟨u,rfl,t,rfl⟩:=vals1 r
  exact call_int_int ⟨.int i,H,I,⟨_,rfl⟩,q⟩
 ·obtain ⟨u,rfl,r1⟩:=vals1 r
  cases r1
  exact call_int_bool ⟨.int (if k then 1 else 0),H,I.tok _,⟨_,rfl⟩,q⟩
end
end L2
namespace L2
open PySem PySem.Spec PyProof.Rows
structure ObjM (h:Heap) (x dx C:Addr) (mA:Str→Option Value):Prop where
 obj:h.get? x=some (PySem.W.instObj C dx)
 ns:h.Ns1 dx mA
 ne:dx≠x
theorem lookIn_ns {h:Heap} {dx:Addr} {mA:Str→Option Value} (n:h.Ns1 dx mA):∃ od,h.get? dx=some od∧∀ name,PySem.W.lookIn name od=some (mA name):=by
 obtain ⟨o,es,ep,ho,hd,hk,_,hm⟩:=n
 refine ⟨o,ho,fun name=>?_⟩
 have e:=hm name
 unfold nsFind findBy at e
 rw [← Array.find?_toList] at e
 unfold PySem.W.lookIn
 rw [hd]
 dsimp only
 split
 ·rename_i y q
  rw [q] at e
  exact congrArg some e
 ·rename_i q
  rw [q] at e
  have a:es.toList.any (·.refKey)=false:=by
   rw [List.any_eq_false]
   intro y hy
   obtain ⟨z,t,hkey⟩:=hk y (Array.mem_toList_iff.mp hy)
   simp [DictEntry.refKey,hkey]
  have a':¬ es.toList.any (·.refKey)=true:=by rw [a]; exact Bool.false_ne_true
  rw [if_neg a']
  exact congrArg some e
theorem ObjM.look {h:Heap} {x dx C:Addr} {mA:Str→Option Value} (I:ObjM h x dx C mA):∃ od,PySem.W.InstAt h x (PySem.W.instObj C dx) C (some od)∧∀ name,PySem.W.lookIn name od=some (mA name) :=
 let ⟨od,ho,hl⟩:=lookIn_ns I.ns
 ⟨od,⟨I.obj,rfl,rfl,ho⟩,hl⟩
section
variable {prog:Program} {w:World} {A:Around} {E:Value→Shared→Prop} {s:Shared} {K:PySem.W.Frag} {x dx C f:Addr} {mA:Str→Option Value} {name:Str} {v:Value}
end
section
variable {P:Program} {w:World} {H H':Hp} {h h':Heap} {a C dx:Addr} {fs fs':List (Str×V)}
theorem ins_get (hok:HOk P w H h) (e:H a=some (.ins C dx fs)):∃ mA,ObjM h a dx C mA∧(∀ f,RelO (fs.lookup f) (mA f))∧PySem.Within mA (fs.map (·.1))∧fs.length≤1000∧H dx=some (.own a):=by
 obtain ⟨d,z,ne,ob,mA,n,r,q⟩:=(show ObjOk P w H h a (.ins C dx fs) from hok a _ e)
 exact ⟨mA,⟨ob,n,ne⟩,r,q,z,d⟩
end
structure Cls (K:PySem.W.Frag) (C:Addr):Prop where
 pg:PySem.W.plainGet K C Str.empty=true
 hd:PySem.W.hasDictIn K C=true
 po:PySem.W.plainOver K C=true
 sa:PySem.W.findIn K (.ref C) "__setattr__"=some (some (.builtin "object.__setattr__"))
theorem Cls.get {K:PySem.W.Frag} {C:Addr} (c:Cls K C) (f:Str):PySem.W.plainGet K C f=true:=c.pg
noncomputable def NoAttr (K:PySem.W.Frag) (C:Addr) (f:Str):Prop:=PySem.W.findIn K (.ref C) f=some none
section
variable {X:Cx} {pins:List (Addr×Obj)} {σ:St} {H:Hp} {s:Shared} {a C dx:Addr} {fs:List (Str×V)} {f:Str} {v:V} {A:Around} {E:Value→Shared→Prop}
end
section
variable {X:Cx} {o e value:Expr} {f:Str} {pos pos' tpos:Pos} {ta tv:TE}
end
section
variable {X:Cx} {pins:List (Addr×Obj)} {σ:St} {H:Hp} {s:Shared} {A:Around} {E:Value→Shared→Prop} {Q:Value→Shared→Prop} {c:Value} {b:Bool}
inductive TyOf (K:PySem.W.Frag) (H:Hp):V→Value→Prop where
 | non:TyOf K H .non (.type "NoneType")
 | bl (x:Bool):TyOf K H (.bl x) (.type "bool")
 | int (i:Int):TyOf K H (.int i) (.type "int")
 | str (x:Str):TyOf K H (.str x) (.type "str")
 | flt (x:UInt64):TyOf K H (.flt x) (.type "float")
 | lst {a:Addr} {xs:List V} (e:H a=some (.lst xs)):TyOf K H (.ref a) (.type "list")
 | frz {a:Addr} {o:Obj} {xs:List V} (e:H a=some (.frz o (.lst xs))):TyOf K H (.ref a) (.type "list")
 | tup {a:Addr} {xs:List V} (e:H a=some (.tup xs)):TyOf K H (.ref a) (.type "tuple")
 | dK {a:Addr} {kvs:List (Key×V)} (e:H a=some (.dK kvs)):TyOf K H (.ref a) (.type "dict")
 | dT {a:Addr} {kvs:List (List Key×V)} (e:H a=some (.dT kvs)):TyOf K H (.ref a) (.type "dict")
 | ins {a C dx:Addr} {fs:List (Str×V)} (e:H a=some (.ins C dx fs)) (cl:Cls K C) (ha:PySem.W.findIn K (.ref C) "__class__"=some (some (.builtin "object.__class__")))
   (hn:PySem.W.specialIn K (.builtin "object.__class__") "__get__"=some (some (.builtin "getset_descriptor.__get__"))) (htk:PySem.W.takesIn K (.builtin "object.__class__")=some true)
   (hm:PySem.W.mroIn K C (.type "object")=some true):TyOf K H (.ref a) (.ref C)
theorem isinst_ok {x:V} {u t:Value} (I:Inv X pins σ H s) (rx:RelV x u) (ty:TyOf X.K H x t) (e:PySem.W.kitOne X.K t c=some b) (h:∀ tk,Q (.bool b) { s with toks:=tk }) :
  wpAny (model X.prog X.w) A (call (.builtin "isinstance") [u,c]) Q E s:=by
 cases ty with
 | non=>cases (show u=Value.none from rx); exact PySem.W.kia_one PySem.W.kitx_none I.kIn True.intro e (fun z=>nomatch z) h
 | bl y=>cases (show u=Value.bool y from rx); exact PySem.W.kia_one PySem.W.kitx_bool I.kIn True.intro e (fun z=>nomatch z) h
 | int i=>obtain ⟨t,q⟩:=(show ∃ t,u=Value.int i t from rx); cases q; exact PySem.W.kia_one PySem.W.kitx_int I.kIn True.intro e (fun z=>nomatch z) h
 | str y=>obtain ⟨t,q⟩:=(show ∃ t,u=Value.str y t from rx); cases q; exact PySem.W.kia_one PySem.W.kitx_str I.kIn True.intro e (fun z=>nomatch z) h
 | flt y=>obtain ⟨t,q⟩:=(show ∃ t,u=Value.float y t from rx); cases q; exact PySem.W.kia_one PySem.W.kitx_float I.kIn True.intro e (fun z=>nomatch z) h
 | @lst a xs ea =>
  cases (show u=Value.ref a from rx)
  obtain ⟨_,_,n,_,h1⟩:=(show ObjOk X.prog X.w H s.heap a (.lst xs) from I.hok a _ ea)
  exact PySem.W.kia_one PySem.W.kitx_list I.kIn ⟨_,h1,rfl⟩ e (fun z=>nomatch z) h
 | @frz a ob xs ea =>
  cases (show u=Value.ref a from rx)
  obtain ⟨_,_,_,n,_,h1⟩:=(show ObjOk X.prog X.w H s.heap a (.frz ob (.lst xs)) from I.hok a _ ea)
  exact PySem.W.kia_one PySem.W.kitx_list I.kIn ⟨_,h1,rfl⟩ e (fun z=>nomatch z) h
 | @tup a xs ea =>
  cases (show u=Value.ref a from rx)
  obtain ⟨_,_,_,p⟩:=(show ObjOk X.prog X.w H s.heap a (.tup xs) from I.hok a _ ea)
  obtain ⟨o,h1,h2,_⟩:=p
  exact PySem.W.kia_one PySem.W.kitx_tuple I.kIn ⟨o,h1,h2⟩ e (fun z=>nomatch z) h
 | @dK a kvs ea =>
  cases (show u=Value.ref a from rx)
  obtain ⟨_,_,vs,_,p⟩:=(show ObjOk X.prog X.w H s.heap a (.dK kvs) from I.hok a _ ea)
  obtain ⟨o,es,ep,h1,h2,_⟩:=p
  exact PySem.W.kia_one PySem.W.kitx_dict I.kIn ⟨o,h1,h2.1⟩ e (fun z=>nomatch z) h
 | @dT a kvs ea =>
  cases (show u=Value.ref a from rx)
  obtain ⟨_,_,xs,_,o,es,ep,h1,h2,_⟩:=(show ObjOk X.prog X.w H s.heap a (.dT kvs) from I.hok a _ ea)
  exact PySem.W.kia_one PySem.W.kitx_dict I.kIn ⟨o,h1,h2.1⟩ e (fun z=>nomatch z) h
 | @ins a C dx fs ea cl ha hn htk hm =>
  cases (show u=Value.ref a from rx)
  obtain ⟨mA,O,_⟩:=ins_get I.hok ea
  obtain ⟨od,J,_⟩:=O.look
  exact PySem.W.kia_one (PySem.W.kitx_own (cl.get _) cl.hd ha hn htk hm) I.kIn J e (fun z=>nomatch z) h
end
end L2
namespace L2
open PySem PySem.Spec PyProof.Rows
structure Room (k:Nat) (A:Around):Prop where
 hd:A.handled=none
 dp:A.depth + 3 * k + 5 < recursionLimit
 un:A.units + 16 * k + 200 < cLine
theorem Room.mono {j k:Nat} {A:Around} (r:Room k A) (h:j≤k):Room j A:=⟨r.hd,by have:=r.dp; lia,by have:=r.un; lia⟩
theorem Room.deeper {k:Nat} {A:Around} (r:Room (k + 1) A) (env:Env):Room k (A.deeper env) :=
 ⟨r.hd,by have:=r.dp; show A.depth + 1 + 3 * k + 5 < _; lia,by have:=r.un; show A.units + 3 + 16 * k + 200 < _; lia⟩
theorem make_depth {A:Around} {C:Addr} {us:List Value} {kw:List (Str×Value)}:(A.under (.builtin "type.__call__" ⟨.ref C :: us,kw⟩)).depth=A.depth + 1:=by
 first | rfl | simp [Around.under,Code.weight,Code.isCreation,Code.isGuard,Code.isCaller,Code.frames,Code.isFrame,guardIds]
theorem make_units {A:Around} {C:Addr} {us:List Value} {kw:List (Str×Value)}:(A.under (.builtin "type.__call__" ⟨.ref C :: us,kw⟩)).units=A.units + 1:=by
 first | rfl | simp [Around.under,Code.cUnits,Code.frames,Code.isFrame]
theorem Room.make {k:Nat} {A:Around} (r:Room (k + 1) A) (C:Addr) (us:List Value) (kw:List (Str×Value)):Room k (A.under (.builtin "type.__call__" ⟨.ref C :: us,kw⟩)) :=
 ⟨r.hd,by have:=r.dp; rw [make_depth]; lia,by have:=r.un; rw [make_units]; lia⟩
theorem Room.depth {k:Nat} {A:Around} (r:Room k A):A.depth < recursionLimit:=by have:=r.dp; lia
theorem Room.units {k:Nat} {A:Around} (r:Room k A):A.units + 64 < cLine:=by have:=r.un; lia
noncomputable def tNil:TA:=fun _ H Q=>Q [] H
noncomputable def tCons (ta:TE) (tr:TA):TA:=fun σ H Q=>ta σ H fun x H1=>tr σ H1 fun xs H2=>Q (x :: xs) H2
section
variable {X:Cx} {e:Expr} {es:List Expr} {te:TE} {t:TA} {pos:Pos}
theorem pa_nil:PA X [] tNil:=fun _ _ _ _ H Q I h=>Calls.spliced_nil ⟨[],H,I,.nil,h⟩
theorem pa_cons (ha:PE X e te) (hr:PA X es t) (hs:starEach (e :: es) X.env=(false,eval e X.env) :: starEach es X.env:=by rfl):PA X (e :: es) (tCons te t):=by
 intro pos pins s σ H Q I h
 rw [hs]
 show wpAny _ _ (spliced ((false,eval e X.env) :: backTo pos (starEach es X.env))) _ _ s
 refine Calls.spliced_cons (thn (ha pins s σ H _ I h) fun u s1 ⟨x,H1,I1,r1,q1⟩=>?_)
 exact thn (hr pos pins s1 σ H1 _ I1 q1) fun us s2 ⟨xs,H2,I2,r2,q2⟩=>⟨x :: xs,H2,I2,.cons r1 r2,q2⟩
noncomputable def tTup (t:TA):TE:=fun σ H Q=>t σ H fun xs H1=>xs.length≤sizeLine∧∀ p,H1 p=none→Q (.ref p) (upd H1 p (.tup xs))
noncomputable def tLst (t:TA):TE:=fun σ H Q=>t σ H fun xs H1=>xs.length≤sizeLine∧∀ p,H1 p=none→Q (.ref p) (upd H1 p (.lst xs))
theorem pe_tup {x1} (h:PA X es t):PE X (.Tuple es x1 pos) (tTup t):=by
 intro pins s σ H Q I hq
 refine wpAny_Tuple_spliced (thn (h pos pins s σ H _ I hq) fun us s1 ⟨xs,H1,I1,r,z,q⟩=>⟨by rw [← r.length]; exact z,?_⟩)
 have hf:H1 s1.heap.objs.size=none:=I1.hok.fresh (Nat.le_refl _)
 refine ⟨.ref s1.heap.objs.size,upd H1 s1.heap.objs.size (.tup xs),I1.laid (t':=s1.toks) (fun b u e=>Heap.get?_push_of_some _ e) (Nat.le_refl _) ?_,rfl,q _ hf⟩
 exact ⟨z,us,r,⟨_,Heap.get?_push_size _ rfl,rfl,_,rfl⟩⟩
theorem pe_lst (h:PA X es t):PE X (.List es pos) (tLst t):=by
 intro pins s σ H Q I hq
 refine wpAny_List_spliced (thn (h pos pins s σ H _ I hq) fun us s1 ⟨xs,H1,I1,r,z,q⟩=>⟨by rw [← r.length]; exact z,?_⟩)
 have hf:H1 s1.heap.objs.size=none:=I1.hok.fresh (Nat.le_refl _)
 refine ⟨.ref s1.heap.objs.size,upd H1 s1.heap.objs.size (.lst xs),I1.laid (t':=s1.toks) (fun b u e=>Heap.get?_push_of_some _ e) (Nat.le_refl _) ?_,rfl,q _ hf⟩
 exact ⟨z,us,0,r,Heap.get?_push_size _ rfl⟩
end
noncomputable abbrev Sp:=List V→Hp→VK→XK→Prop
noncomputable abbrev CXT:=List Env→Hp→Shared→XK→Value→Shared→Prop
structure Env0 (P:Program) (w:World) (K:PySem.W.Frag) (mg:Str→Option Value) (base:Heap) (A:Around) (outer:List Env) (s:Shared) (H:Hp):Prop where
 frames:A.frames=some outer
 mod:Mod K mg base
 bs:∀ b o,base.get? b=some o→s.heap.get? b=some o∧H b=none
 bsz:base.objs.size≤s.heap.objs.size
 funs:s.heap.FunFrames base outer
 frf:∀ b∈frs outer,H b=none
 hok:HOk P w H s.heap
 bare:AllBare s.gens
noncomputable def CE (outer:List Env) (P:Program) (w:World) (H:Hp) (s:Shared) (Q:VK) (u:Value) (s':Shared):Prop :=
 ∃ v H',s'.os=s.os∧AllBare s'.gens∧Un (frs outer) [] H H' s.heap s'.heap∧HOk P w H' s'.heap∧RelV v u∧Q v H'
noncomputable def CR (CX:CXT) (outer:List Env) (P:Program) (w:World) (H:Hp) (s:Shared) (Q:VK) (E:XK) (r:Result) (s':Shared):Prop :=
 match r with
 | .ok (.ret u)=>CE outer P w H s Q u s'
 | .ok _=>False
 | .error e=>CX outer H s E e s'
structure FnOk (P:Program) (w:World) (K:PySem.W.Frag) (mg:Str→Option Value) (base:Heap) (CX:CXT) (k:Nat) (f:Addr) (fd:FuncData) (ps:List Str) (sp:Sp):Prop where
 len:∀ vs H Q E,sp vs H Q E→vs.length=ps.length
 run:∀ (A:Around) (outer:List Env) (s:Shared) (H:Hp) (args:Args) (us:List Value) (vs:List V) (Q:VK) (E:XK),Room k A→Env0 P w K mg base A outer s H→BindsTo s fd args (ps.zip us)→Vals vs us→sp vs H Q E →
  codeAny (model P w) A (.call (.ref f) args) (CR CX outer P w H s Q E) s
theorem FnOk.imp {P:Program} {w:World} {K:PySem.W.Frag} {mg:Str→Option Value} {base:Heap} {CX:CXT} {k:Nat} {f:Addr} {fd:FuncData} {ps:List Str} {sp sp':Sp} (F:FnOk P w K mg base CX k f fd ps sp)
  (h:∀ vs H Q E,sp' vs H Q E→sp vs H Q E):FnOk P w K mg base CX k f fd ps sp' :=
 ⟨fun vs H Q E q=>F.len vs H Q E (h _ _ _ _ q),fun A outer s H args us vs Q E hr he hb hv hs=>F.run A outer s H args us vs Q E hr he hb hv (h _ _ _ _ hs)⟩
theorem Env0.make {P:Program} {w:World} {K:PySem.W.Frag} {mg:Str→Option Value} {base:Heap} {A:Around} {outer:List Env} {s:Shared} {H:Hp} (e:Env0 P w K mg base A outer s H) (C:Addr) (us:List Value) (kw:List (Str×Value)) :
  Env0 P w K mg base (A.under (.builtin "type.__call__" ⟨.ref C :: us,kw⟩)) outer s H:=⟨by first | exact e.frames | (simpa [Around.under,Code.envs,Code.isFrame,pushEnvs] using e.frames),e.mod,e.bs,e.bsz,e.funs,e.frf,e.hok,e.bare⟩
section
variable {X:Cx} {pins:List (Addr×Obj)} {σ:St} {H:Hp} {s s':Shared}
theorem Inv.env0 (I:Inv X pins σ H s):Env0 X.prog X.w X.K X.mg X.base X.A X.stack s H :=
 ⟨I.ok.frames,I.ok.mod,I.bs,Nat.le_trans I.ok.bsz I.sz,I.stack,I.stkFree,I.hok,I.bare⟩
theorem Inv.after {Q:VK} {u:Value} (I:Inv X pins σ H s) (h:CE X.stack X.prog X.w H s Q u s'):EP X pins σ Q u s':=by
 obtain ⟨v,H',os,bare,un,hok,r,q⟩:=h
 obtain ⟨hh,g,d,t,os'⟩:=s'
 obtain rfl:os'=s.os:=os
 exact ⟨v,H',I.call (h':=hh) (g':=g) (d':=d) (t':=t) (ch:=[]) un hok bare (fun b z=>absurd z (by simp)),r,q⟩
end
noncomputable def tCall (sp:Sp) (dvs:List V) (E:XK) (t:TA):TE:=fun σ H Q=>t σ H fun vs H1=>sp (vs++dvs) H1 Q E
noncomputable def Binds (K:PySem.W.Frag) (fd:FuncData) (ps:List Str) (ds:List Value):Prop :=
 ∀ (s:Shared) (us:List Value),K.In s.heap→(us++ds).length=ps.length→BindsTo s fd ⟨us,[]⟩ (ps.zip (us++ds))
theorem Binds.all {K:PySem.W.Frag} {fd:FuncData} {ps:List Str} (h:∀ us:List Value,us.length=ps.length→bindArgs fd ⟨us,[]⟩=pure (ps.zip us)):Binds K fd ps []:=fun s us _ hl=>by
 rw [List.append_nil] at hl ⊢
 exact .of_eq (h us hl)
noncomputable def Passes (CX:CXT) (X:Cx) (E:XK):Prop:=∀ (pins:List (Addr×Obj)) (σ:St) (H:Hp) (s:Shared) (e:Value) (s':Shared),Inv X pins σ H s→CX X.stack H s E e s'→X.xe e s'
section
variable {X:Cx} {CX:CXT} {k:Nat} {f C:Addr} {fd:FuncData} {ps:List Str} {sp:Sp} {dvs:List V} {ds:List Value} {E:XK} {x m:Str} {p pos apos:Pos} {e o:Expr} {es:List Expr} {ta:TE} {t:TA}
theorem run_fn {pins:List (Addr×Obj)} {σ:St} {H:Hp} {s:Shared} {Q:VK} {us:List Value} {vs:List V} (F:FnOk X.prog X.w X.K X.mg X.base CX k f fd ps sp) (hr:Room k X.A) (hb:Binds X.K fd ps ds) (hd:Vals dvs ds) (hx:Passes CX X E)
  (I:Inv X pins σ H s) (r:Vals vs us) (h:sp (vs++dvs) H Q E):wpAny (model X.prog X.w) X.A (call (.ref f) us) (EP X pins σ Q) X.xe s:=by
 have r2:Vals (vs++dvs) (us++ds):=r.append hd
 have hl:(us++ds).length=ps.length:=by rw [← r2.length]; exact F.len _ _ _ _ h
 refine wpAny_call (codeAny_mono (F.run X.A X.stack s H ⟨us,[]⟩ (us++ds) (vs++dvs) Q E hr I.env0 (hb s us I.kIn hl) r2 h) fun r s' hq=>?_)
 cases r with
 | error e=>exact hx pins σ H s e s' I hq
 | ok fl =>
  cases fl with
  | ret u=>exact I.after hq
  | next=>exact False.elim hq
  | brk=>exact False.elim hq
  | cont=>exact False.elim hq
theorem pe_call (F:FnOk X.prog X.w X.K X.mg X.base CX k f fd ps sp) (hr:Room k X.A) (hg:Gl X x) (hm:X.mg x=some (.ref f)) (hk:PySem.W.keepIn X.K (.ref f)=true) (hb:Binds X.K fd ps ds) (hd:Vals dvs ds) (hx:Passes CX X E)
  (ha:PA X (e :: es) t) (hdb:(x == ("__debug__":Str))=false:=by decide) (he:starEach (e :: es) X.env=(false,eval e X.env) :: starEach es X.env:=by rfl) (hpl:(backTo pos (starEach es X.env)).any (·.1)=false:=by rfl) :
  PE X (.Call (.Name x p) (e :: es) [] pos) (tCall sp dvs E t):=by
 intro pins s σ H Q I h
 refine wpAny_Call_Name_kw (ld_glob I hg hm ?_ hdb)
 refine PySem.W.callWith_K (h₀:=X.base) I.ok.mod.kin hk (thn (ha pos pins s σ H _ I h) fun us s1 ⟨vs,H1,I1,r,q⟩=>⟨I1.kIn,?_⟩) he hpl
 exact run_fn F hr hb hd hx I1 r q
end
section
variable {X:Cx} {CX:CXT} {k:Nat} {f C:Addr} {fd:FuncData} {ps ks:List Str} {sp:Sp} {E:XK} {x m:Str} {p pos apos kpos:Pos} {e o:Expr} {es:List Expr} {kws:List Keyword} {te ta:TE} {t tk:TA} {nm:Option Str}
variable {g:List Value→List Value→List Value} {gV:List V→List V→List V}
end
structure FnScope (N P:List Str) (sc:Scope):Prop where
 kind:sc.kind=.function
 co:sc.isCoroutine=false
 gen:sc.isGenerator=false
 nd:N.Nodup
 pre:N.take P.length=P
 par:∀ x∈P,sc.names.lookup x=some .local∨sc.names.lookup x=some .cell
 nofree:∀ y∈sc.names,y.2≠.free
theorem bindL_out {kindOf:Str→Option NameKind} {x:Str}:∀ {binds:List (Str×Value)} {m:Str→Option Value},(∀ v,(x,v) ∉ binds)→bindL kindOf binds m x=m x
 | [],_,_=>rfl
 | (n,v) :: r,m,h=>by
  unfold bindL
  rw [bindL_out fun w hw=>h w (List.mem_cons_of_mem _ hw)]
  split
  ·have:x≠n:=by rintro rfl; exact h v List.mem_cons_self
   simp [this]
  ·rfl
theorem bindC_out {kindOf:Str→Option NameKind} {x:Str}:∀ {binds:List (Str×Value)} {m:Str→Option Value},(∀ v,(x,v) ∉ binds)→bindC kindOf binds m x=m x
 | [],_,_=>rfl
 | (n,v) :: r,m,h=>by
  unfold bindC
  rw [bindC_out fun w hw=>h w (List.mem_cons_of_mem _ hw)]
  split
  ·rfl
  ·have:x≠n:=by rintro rfl; exact h v List.mem_cons_self
   simp [this]
theorem bindL_get {kindOf:Str→Option NameKind} {x:Str} {v:Value}:∀ {P:List Str} {vs:List Value} {i:Nat} {m:Str→Option Value},P.Nodup→P[i]?=some x→vs[i]?=some v→kindOf x=some .local →
  bindL kindOf (P.zip vs) m x=some v
 | [],_,_,_,_,h,_,_=>by simp at h
 | _ :: _,[],_,_,_,_,h,_=>by simp at h
 | p :: P,w :: vs,0,m,nd,h1,h2,hk=>by
  simp at h1 h2; subst h1; subst h2
  show bindL kindOf ((p,w) :: P.zip vs) m p=_
  unfold bindL
  rw [bindL_out fun v hv=>(List.nodup_cons.mp nd).1 (List.of_mem_zip hv).1,if_pos hk]
  simp
 | p :: P,w :: vs,i + 1,m,nd,h1,h2,hk=>by
  show bindL kindOf ((p,w) :: P.zip vs) m x=_
  unfold bindL
  exact bindL_get (i:=i) (List.nodup_cons.mp nd).2 (by simpa using h1) (by simpa using h2) hk
theorem bindC_get {kindOf:Str→Option NameKind} {x:Str} {v:Value}:∀ {P:List Str} {vs:List Value} {i:Nat} {m:Str→Option Value},P.Nodup→P[i]?=some x→vs[i]?=some v→kindOf x≠some .local →
  bindC kindOf (P.zip vs) m x=some v
 | [],_,_,_,_,h,_,_=>by simp at h
 | _ :: _,[],_,_,_,_,h,_=>by simp at h
 | p :: P,w :: vs,0,m,nd,h1,h2,hk=>by
  simp at h1 h2; subst h1; subst h2
  show bindC kindOf ((p,w) :: P.zip vs) m p=_
  unfold bindC
  rw [bindC_out fun v hv=>(List.nodup_cons.mp nd).1 (List.of_mem_zip hv).1,if_neg hk]
  simp
 | p :: P,w :: vs,i + 1,m,nd,h1,h2,hk=>by
  show bindC kindOf ((p,w) :: P.zip vs) m x=_
  unfold bindC
  exact bindC_get (i:=i) (List.nodup_cons.mp nd).2 (by simpa using h1) (by simpa using h2) hk
noncomputable def start (N:List Str) (vs:List V):St:=vs.map some++List.replicate (N.length - vs.length) none
noncomputable def cxOf (CX:CXT) (P:Program) (w:World) (K:PySem.W.Frag) (mg:Str→Option Value) (base:Heap) (N:List Str) (qual:Str) (scope:Scope) (f:Addr) (cd:Value) (A:Around) (outer:List Env) (s:Shared) (H:Hp) (E:XK):Cx where
 prog:=P
 w:=w
 K:=K
 mg:=mg
 base:=base
 A:=A.deeper (envOfC qual scope s.heap.objs.size f cd)
 N:=N
 s₀:=s
 H₀:=H
 env:=envOfC qual scope s.heap.objs.size f cd
 outer:=outer
 stack:=envOfC qual scope s.heap.objs.size f cd :: outer
 ex:=[]
 calm:=true
 fn:=fun _=>true
 pn:=[]
 xe:=fun e s'=>wpAny (model P w) (A.deeper (envOfC qual scope s.heap.objs.size f cd)) (leaving (envOfC qual scope s.heap.objs.size f cd) e) (fun _ s''=>CX outer H s E e s'') (fun e' s''=>CX outer H s E e' s'') s'
theorem cell_has {sc:Scope} {n:Nat} {x:Str} (h:sc.names.lookup x=some .cell):∃ c,(cellsFrom n sc.names []).lookup x=some c:=by
 have q:=PySem.W.cellsFrom_some sc.names n [] (.inl h)
 exact Option.isSome_iff_exists.mp q
theorem inv_start {CX:CXT} {P:Program} {w:World} {K:PySem.W.Frag} {mg:Str→Option Value} {base:Heap} {N ps:List Str} {qual:Str} {scope:Scope} {f:Addr} {cd:Value} {A:Around} {outer:List Env} {s s1:Shared} {H:Hp} {E:XK} {us:List Value} {vs:List V}
  (S:FnScope N ps scope) (hd:A.handled=none) (e0:Env0 P w K mg base A outer s H) (hl:vs.length=ps.length) (r:Vals vs us)
  (x:InCallC s s.heap.objs.size (bindL (envOfC qual scope s.heap.objs.size f cd).kindOf (ps.zip us) fun _=>none) (cellsFrom (s.heap.objs.size + 1) scope.names []) (bindC (envOfC qual scope s.heap.objs.size f cd).kindOf (ps.zip us) fun _=>none) s1) :
  Inv (cxOf CX P w K mg base N qual scope f cd A outer s H E) [] (start N vs) H s1:=by
 have hpl:ps.length≤N.length:=by have:=congrArg List.length S.pre; rw [List.length_take] at this; lia
 obtain ⟨h1,tk,rfl,hk⟩:=x.done
 have noA:∀ b:Addr,b ∉ (cxOf CX P w K mg base N qual scope f cd A outer s H E).ex:=fun b z=>absurd (show b∈([]:List Addr) from z) (by simp)
 refine ⟨⟨e0.mod,S.kind,rfl,rfl,Nat.le_refl _,fun y z c h1 h2=>?_,fun y hy=>?_,fun y c _ h=>?_,fun _=>hd,Around.frames_deeper e0.frames,.inr ⟨rfl,rfl⟩,fun b z=>absurd z (noA b),e0.bs,e0.bsz,fun b _ _=>noA b,fun b z=>absurd z (noA b),e0.funs,e0.frf⟩,
  rfl,e0.bare,Un.kept hk,⟨_,x.toInCall.ns,fun i y v h1 h2 h3=>?_⟩,fun y c h=>⟨_,x.cell y c h⟩,e0.hok.fresh (Nat.le_refl _),fun y c h=>?_,fun p hp=>absurd (show p∈([]:List (Addr×Obj)) from hp) (by simp),e0.hok.kept hk,?_⟩
 ·exact name_of_addr x.apart (PySem.mem_of_lookup h1) (PySem.mem_of_lookup h2)
 ·have hy:scope.names.lookup y=some .cell∨scope.names.lookup y=some .free:=hy
  rcases hy with hy | hy
  ·exact cell_has hy
  ·exact absurd rfl (S.nofree _ (PySem.mem_of_lookup hy))
 ·exact Nat.le_of_lt (x.above y c (PySem.mem_of_lookup h))
 ·have hi:i < vs.length:=by
   unfold start at h2
   by_cases hi:i < vs.length
   ·exact hi
   ·rw [List.getElem?_append_right (by simpa using hi)] at h2
    rw [List.getElem?_replicate] at h2
    split at h2 <;> cases h2
  have ha:vs[i]?=some v:=by
   unfold start at h2
   rw [List.getElem?_append_left (by simpa using hi),List.getElem?_map] at h2
   cases e:vs[i]? with
   | none=>rw [e] at h2; cases h2
   | some a=>rw [e] at h2; cases h2; rfl
  obtain ⟨u,hu,rv⟩:=r.get ha
  have hp:ps[i]?=some y:=by
   rw [← S.pre,List.getElem?_take_of_lt (by lia)]; exact h1
  have ndP:ps.Nodup:=by rw [← S.pre]; exact S.nd.sublist (List.take_sublist _ _)
  refine ⟨u,rv,?_⟩
  rcases S.par y (List.mem_of_getElem? hp) with k | k
  ·exact .inl ⟨k,bindL_get ndP hp hu k⟩
  ·obtain ⟨c,e⟩:=cell_has (n:=s.heap.objs.size + 1) k
   refine .inr ⟨.inl k,c,e,?_⟩
   have q:=x.cell y c e
   rw [bindC_get ndP hp hu (by show scope.names.lookup y≠_; rw [k]; decide)] at q
   exact q
 ·exact e0.hok.fresh (Nat.le_of_lt (x.above y c (PySem.mem_of_lookup h)))
 ·unfold start
  show _=N.length
  rw [List.length_append,List.length_map,List.length_replicate]
  lia
theorem fn_of {CX:CXT} {P:Program} {w:World} {K:PySem.W.Frag} {mg:Str→Option Value} {base:Heap} {k:Nat} {f:Addr} {name qual:Str} {params:Arguments} {body:List Stmt} {scope:Scope} {dV kV doc pm cdv ct oc:Value} {an od:Option Addr}
  {osl:Array (Option Value)} {N ps:List Str} {sp:Sp} (lk:K.lookup f=some ⟨oc,od,.func (PySem.W.fnOf name qual params body scope dV kV doc pm an cdv ct),osl⟩) (hcd:PySem.W.codeIn K cdv qual=true) (S:FnScope N ps scope)
  (len:∀ vs H Q E,sp vs H Q E→vs.length=ps.length)
  (hbody:∀ (A:Around) (outer:List Env) (s:Shared) (H:Hp) (vs:List V) (Q:VK) (E:XK),Room k (A.deeper (envOfC qual scope s.heap.objs.size f cdv))→sp vs H Q E →
   ∃ t,PSs (cxOf CX P w K mg base N qual scope f cdv A outer s H E) body t∧t { nx:=fun _ H'=>Q .non H',rt:=Q } (start N vs) H) :
  FnOk P w K mg base CX (k + 1) f (PySem.W.fnOf name qual params body scope dV kV doc pm an cdv ct) ps sp:=by
 refine ⟨len,fun A outer s H args us vs Q E hr e0 hb r hsp=>?_⟩
 have hl:=len _ _ _ _ hsp
 have KX:K.In s.heap:=e0.mod.kin.keeps fun b o e=>(e0.bs b o e).1
 have lim:s.heap.NoLimit:=e0.mod.nolimit.keeps fun b o e=>(e0.bs b o e).1
 have hkind:∀ y∈ps.zip us,scope.names.lookup y.1=some .local∨(scope.names.lookup y.1=some .cell∧((cellsFrom (s.heap.objs.size + 1) scope.names []).lookup y.1).isSome=true):=fun ⟨n,v⟩ hy=>by
  rcases S.par n (List.of_mem_zip hy).1 with q | q
  ·exact .inl q
  ·exact .inr ⟨q,PySem.W.cellsFrom_some _ _ _ (.inl q)⟩
 refine codeAny_call_function hr.depth (KX _ _ lk) rfl S.co S.gen rfl (PySem.W.codeRec_of KX hcd) (hb _ _ _ _ ?_)
 refine wpAny_newFunctionEnv_cells S.kind hkind fun env he s1 x=>?_
 subst he
 refine ⟨lim.keeps x.toInCall.keep,codeAny_func ?_⟩
 obtain ⟨t,ht,hq⟩:=hbody A outer s H vs Q E (hr.deeper _) hsp
 have I:Inv (cxOf CX P w K mg base N qual scope f cdv A outer s H E) [] (start N vs) H s1:=inv_start S hr.hd e0 hl r x
 refine wpAny_mono (ht [] s1 (start N vs) H _ I hq) (fun fl s' hs=>?_) fun e s' hs=>hs
 have fin:∀ {σ':St} {H':Hp} {v:V} {u:Value},Inv (cxOf CX P w K mg base N qual scope f cdv A outer s H E) [] σ' H' s'→RelV v u→Q v H'→CE outer P w H s Q u s' :=
  fun {σ' H' v u} J rv q=>⟨v,H',J.os,J.bare,J.base,J.hok,rv,q⟩
 cases fl with
 | ret u =>
  obtain ⟨v,σ',H',J,rv,q⟩:=hs
  exact fin J rv q
 | next =>
  obtain ⟨σ',H',J,q⟩:=hs
  exact fin (v:=V.non) (u:=Value.none) J rfl q
 | brk =>
  obtain ⟨_,_,_,q⟩:=hs
  exact False.elim q
 | cont =>
  obtain ⟨_,_,_,q⟩:=hs
  exact False.elim q
end L2
namespace L2
open PySem PySem.Spec PyProof.Rows
section
variable {X:Cx} {x:Str} {p pos:Pos} {e:Expr} {es:List Expr} {t:TA} {id T:String} {r:List V→Hp→VK→Prop}
noncomputable def tCB (r:List V→Hp→VK→Prop) (t:TA):TE:=fun σ H Q=>t σ H fun vs H1=>r vs H1 Q
theorem pe_callB (hc:CallR X (.builtin id) r) (hg:Gl X x) (hm:X.mg x=none) (hv:bootBuiltins x=some (.builtin id)) (ha:PA X (e :: es) t) (hn:x≠"__name__":=by decide) (hdb:(x == ("__debug__":Str))=false:=by decide)
  (he:starEach (e :: es) X.env=(false,eval e X.env) :: starEach es X.env:=by rfl) (hpl:(backTo pos (starEach es X.env)).any (·.1)=false:=by rfl):PE X (.Call (.Name x p) (e :: es) [] pos) (tCB r t):=by
 intro pins s σ H Q I h
 refine wpAny_Call_Name_kw (ld_blt I hg hm hv ?_ hn hdb)
 exact PyProof.Rows.callWith_builtin1 (thn (ha pos pins s σ H _ I h) fun us s1 ⟨vs,H1,I1,r1,q1⟩=>hc pins s1 σ H1 vs us Q I1 r1 q1) he hpl
theorem pe_callTy (hc:CallR X (.type T) r) (hg:Gl X x) (hm:X.mg x=none) (hv:bootBuiltins x=some (.type T)) (ha:PA X (e :: es) t) (hn:x≠"__name__":=by decide) (hdb:(x == ("__debug__":Str))=false:=by decide)
  (he:starEach (e :: es) X.env=(false,eval e X.env) :: starEach es X.env:=by rfl) (hpl:(backTo pos (starEach es X.env)).any (·.1)=false:=by rfl):PE X (.Call (.Name x p) (e :: es) [] pos) (tCB r t):=by
 intro pins s σ H Q I h
 refine wpAny_Call_Name_kw (ld_blt I hg hm hv ?_ hn hdb)
 exact PyProof.Rows.callWith_type1 (thn (ha pos pins s σ H _ I h) fun us s1 ⟨vs,H1,I1,r1,q1⟩=>hc pins s1 σ H1 vs us Q I1 r1 q1) he hpl
end
end L2
namespace HT
open PySem PyProof.Rows
theorem rcLt_int (A:Around) (s:Shared) (a:Int) (t:Tok) (c:Int) (u:Tok) (prog:Program) (w:World) (E:Value→Shared→Prop) (Q:Value→Shared→Prop) (h:Q (.bool (decide (a < c))) s) :
  wpAny (model prog w) A (richCompare .Lt (.int a t) (.int c u)) Q E s :=
 (PyProof.Rows.lt_int h:wpAny (model prog w) A (compareOp .Lt (.int a t) (.int c u)) Q E s)
section
open PySem.SeqAt
open PySem.AutoSeq1 (wpAny_loadPart')
open PySem.MeetsSeq PySem.MeetsSeq2 PySem.MeetsSeq3
end
section
variable {prog:Program} {w:World} {A:Around} {E:Value→Shared→Prop} {s:Shared}
theorem cat_tup {t b:Addr} {vs ws:List Value} {Q:Value→Shared→Prop} (ht:IsTup s.heap t vs.toArray) (hb:IsTup s.heap b ws.toArray) (hv:vs≠[])
  (h1:ws=[]→Q (.ref t) s) (h2:ws≠[]→Q (.ref s.heap.objs.size) { s with heap:=s.heap.push { cls:=.type "tuple",data:=.seq (vs++ws).toArray } })
  (hsz:vs.length + ws.length≤sizeLine):wpAny (model prog w) A (binaryOp .Add (.ref t) (.ref b)) Q E s:=by
 obtain ⟨⟨cls,dd,data,sl⟩,ho,hc,n,hd⟩:=id ht
 obtain ⟨⟨cls2,dd2,data2,sl2⟩,ho2,hc2,n2,hd2⟩:=id hb
 simp only at hc hd hc2 hd2
 subst hc hd hc2 hd2
 have e:vs.toArray++ws.toArray=(vs++ws).toArray:=by simp
 by_cases hw:ws=[]
 ·exact concat_meets ⟨_,ho,rfl⟩ ⟨_,ho2,rfl⟩ noFill_tuple_add seq_tuple_add PySem.F.slot_tuple_add PySem.F.entry_tuple_add (PySem.F.args_tuple_add_2 _ _)
   (tuple_addW1 t b vs.toArray ws.toArray n n2 dd dd2 sl sl2 (by simpa using hv) (by simp [hw])) ⟨ho,ho2,h1 hw⟩
 ·refine concat_meets ⟨_,ho,rfl⟩ ⟨_,ho2,rfl⟩ noFill_tuple_add seq_tuple_add PySem.F.slot_tuple_add PySem.F.entry_tuple_add (PySem.F.args_tuple_add_2 _ _)
   (tuple_addW2 t b vs.toArray ws.toArray n n2 dd dd2 sl sl2 (by simpa using hv) (by simpa using hw) (by rw [List.size_toArray,List.size_toArray]; exact hsz)) ⟨ho,ho2,?_⟩
  rw [e]
  exact h2 hw
noncomputable def sIx (n d:Nat):Option Int→Nat
 | none=>d
 | some v=>if v < 0 then (v + (n:Int)).toNat else min v.toNat n
theorem sIx_none (n d:Nat):sIx n d none=d:=rfl
theorem sIx_nat (n d k:Nat):sIx n d (some (k:Int))=min k n:=by
 show (if (k:Int) < 0 then ((k:Int) + (n:Int)).toNat else min (k:Int).toNat n)=min k n
 rw [if_neg (by lia),Int.toNat_natCast]
theorem sIx_le (n d:Nat) (hd:d≤n) (o:Option Int):sIx n d o≤n:=by
 cases o with
 | none=>exact hd
 | some v =>
  show (if v < 0 then (v + (n:Int)).toNat else min v.toNat n)≤n
  by_cases hv:v < 0
  ·rw [if_pos hv]; lia
  ·rw [if_neg hv]; exact Nat.min_le_right _ _
theorem clip_eq (v:Int) (n d:Nat):(if v < 0 then max (v + (n:Int)) 0 else min v (n:Int))=((sIx n d (some v):Nat):Int):=by
 show (if v < 0 then max (v + (n:Int)) 0 else min v (n:Int))=(((if v < 0 then (v + (n:Int)).toNat else min v.toNat n):Nat):Int)
 by_cases hv:v < 0
 ·simp only [if_pos hv]; lia
 ·simp only [if_neg hv]; lia
theorem adjust_gen (lo hi:Option Int) (n:Nat):Builtin.Slice.sliceAdjust lo hi 1 (n:Int)=(((sIx n 0 lo:Nat):Int),((sIx n n hi:Nat):Int)):=by
 have h1:¬ ((1:Int) < 0):=by lia
 unfold Builtin.Slice.sliceAdjust
 simp only [h1,if_false]
 refine Prod.ext ?_ ?_
 ·cases lo with
  | none=>rfl
  | some v=>exact clip_eq v n 0
 ·cases hi with
  | none=>rfl
  | some v=>exact clip_eq v n n
theorem places_gen (i j:Nat):Builtin.Slice.slicePlaces (i:Int) (j:Int) 1=j - i:=by
 unfold Builtin.Slice.slicePlaces
 have h1:(1:Int) > 0:=by lia
 simp only [h1,if_true,Int.ediv_one]
 split <;> lia
theorem slicePart_ {v:Value} {o:Option Int} {Q:Option Int→Shared→Prop} (p:IsPart v o) (h:Q o s):wpAny (model prog w) A (Builtin.Slice.slicePartIndex v) Q E s:=by
 cases p with
 | none=>exact slicePart_none h
 | int i t=>exact slicePart_int h
theorem sliceApplied_gen {sl:Addr} {vl vu:Value} {lo hi:Option Int} {n:Nat} {Q:Int×Int×Nat→Shared→Prop} (hs:s.heap.IsSliceOf sl vl vu .none) (pl:IsPart vl lo) (pu:IsPart vu hi)
  (h:Q (((sIx n 0 lo:Nat):Int),1,sIx n n hi - sIx n 0 lo) s):wpAny (model prog w) A (Builtin.Slice.sliceApplied (.ref sl) (pure (n:Int))) Q E s:=by
 obtain ⟨os,hos,hcs,hds⟩:=id hs
 unfold Builtin.Slice.sliceApplied Builtin.Slice.sliceFields
 refine wpAny_bind (wpAny_bind (wpAny_field hos hds (x:=vl) rfl (wpAny_bind (wpAny_field hos hds (x:=vu) rfl (wpAny_bind (wpAny_field hos hds (x:=.none) rfl (wpAny_pure ?_)))))))
 refine wpAny_bind (slicePart_none ?_)
 show wpAny _ _ (if ((1:Int) == 0)=true then _ else _) _ _ s
 rw [if_neg (by decide)]
 refine wpAny_bind (slicePart_ pl (wpAny_bind (slicePart_ pu (wpAny_bind (wpAny_pure ?_)))))
 show wpAny _ _ (match Builtin.Slice.sliceAdjust lo hi 1 (n:Int) with | (lo,hi)=>pure (lo,(1:Int),Builtin.Slice.slicePlaces lo hi 1)) _ _ s
 rw [adjust_gen lo hi n]
 show wpAny _ _ (pure (((sIx n 0 lo:Nat):Int),(1:Int),Builtin.Slice.slicePlaces ((sIx n 0 lo:Nat):Int) ((sIx n n hi:Nat):Int) 1)) _ _ s
 rw [places_gen]
 exact wpAny_pure h
theorem pick_gen (xs:Array Value) (i k:Nat):((List.range k).filterMap fun (m:Nat)=>xs[((i:Int) + (m:Int) * 1).toNat]?).toArray=((xs.toList.drop i).take k).toArray:=by
 have e:(fun (m:Nat)=>xs[((i:Int) + (m:Int) * 1).toNat]?)=fun m=>xs[i + m]?:=by
  funext m
  have:((i:Int) + (m:Int) * 1).toNat=i + m:=by lia
  rw [this]
 rw [e]
 have:=pick_run xs i k
 rw [List.filterMap_map] at this
 have e2:((fun x=>xs[x]?) ∘ fun x=>i + x)=fun m=>xs[i + m]?:=rfl
 rw [e2] at this
 rw [this]
theorem getItem_tuple_cut {t sl:Addr} {items:Array Value} {vl vu:Value} {lo hi:Option Int} {Q:Value→Shared→Prop} (ht:IsTup s.heap t items) (hs:s.heap.IsSliceOf sl vl vu .none) (pl:IsPart vl lo) (pu:IsPart vu hi)
    (hw:¬ (sIx items.size 0 lo=0∧sIx items.size items.size hi=items.size))
    (h:Q (.ref s.heap.objs.size) { s with heap:=s.heap.push { cls:=.type "tuple",data:=.seq ((items.toList.drop (sIx items.size 0 lo)).take (sIx items.size items.size hi - sIx items.size 0 lo)).toArray } })
    (hsz:items.size≤sizeLine):wpAny (model prog w) A (getItem (.ref t) (.ref sl)) Q E s:=by
  have htake:sizeOk (.seq ((items.toList.drop (sIx items.size 0 lo)).take (sIx items.size items.size hi - sIx items.size 0 lo)).toArray):=by
    show ((items.toList.drop (sIx items.size 0 lo)).take (sIx items.size items.size hi - sIx items.size 0 lo)).toArray.size≤sizeLine
    rw [List.size_toArray,List.length_take,List.length_drop,Array.length_toList]
    lia
  have hj:sIx items.size items.size hi≤items.size:=sIx_le _ _ (Nat.le_refl _) hi
  obtain ⟨os,hos,hcs,hds⟩:=id hs
  have hTs:s.TypeIs (.ref sl) "slice":=⟨os,hos,hcs⟩
  unfold getItem
  try with_reducible refine wpAny_holding ?_
  first | refine wpAny_bind (wpAny_pure ?_) | skip
  refine wpAny_bind (wpAny_sequenceKey ht.typeIs (by decide) ?_)
  refine wpAny_bind (wpAny_callSpecial?_slot (name:=Str.ofString "__getitem__") ht.typeIs PyProof.Rows.slot_tuple_getitem
    (wpAny_call_entry PyProof.Rows.slot_tuple_getitem ht.typeIs entry_tuple_getitem ?_ (args_tuple_getitem _ _)))
  show wpAny _ _ (Builtin.Tuple.tupleItemsOf (.ref t) >>= _) _ _ s
  refine wpAny_bind (tupleItemsOf_ ht ?_)
  refine wpAny_bind (wpAny_typeOf hTs ?_)
  rw [if_pos (by decide)]
  refine wpAny_bind (sliceApplied_gen hs pl pu ?_)
  have hno:¬ ((((sIx items.size 0 lo:Nat):Int) == 0 && (1:Int) == 1 && (sIx items.size items.size hi - sIx items.size 0 lo) == items.size)=true):=by
    intro q
    rw [Bool.and_eq_true,Bool.and_eq_true] at q
    have q1:((sIx items.size 0 lo:Nat):Int)=0:=eq_of_beq q.1.1
    have q2:sIx items.size items.size hi - sIx items.size 0 lo=items.size:=eq_of_beq q.2
    exact hw ⟨by lia,by lia⟩
  show wpAny _ _ (if (((sIx items.size 0 lo:Nat):Int) == 0 && (1:Int) == 1 && (sIx items.size items.size hi - sIx items.size 0 lo) == items.size)=true then _ else _) _ _ s
  rw [if_neg hno,pick_gen]
  first
    | exact wpAny_bind (m:=Builtin.Tuple.tupleExact _) (wpAny_newObj_type (wpAny_pure ⟨_,rfl,wpAny_pure h⟩) htake)
    | exact wpAny_bind (m:=Builtin.Tuple.tupleExact _) (wpAny_newObj_type (wpAny_bind (wpAny_pure (wpAny_pure ⟨_,rfl,wpAny_pure h⟩))) htake)
    | exact wpAny_bind (wpAny_bind (m:=Builtin.Tuple.tupleExact _) (wpAny_newObj_type (wpAny_pure (wpAny_pure ⟨_,rfl,wpAny_pure h⟩)) htake))
    | exact wpAny_bind (wpAny_bind (m:=Builtin.Tuple.tupleExact _) (wpAny_newObj_type (wpAny_pure ⟨_,rfl,wpAny_pure h⟩) htake))
end
end HT
namespace L2
open PySem PySem.Spec PyProof.Rows
noncomputable abbrev TO:=St→Hp→(Option Int→Hp→Prop)→Prop
noncomputable def PO (X:Cx) (e:Option Expr) (t:TO):Prop :=
 ∀ (pins:List (Addr×Obj)) (s:Shared) (σ:St) (H:Hp) (Q:Option Int→Hp→Prop),Inv X pins σ H s→t σ H Q →
  wpAny (model X.prog X.w) X.A (evalPart e X.env) (fun u s'=>∃ o H',Inv X pins σ H' s'∧IsPart u o∧Q o H') X.xe s
noncomputable def tNoPart:TO:=fun _ H Q=>Q none H
noncomputable def tPart (t:TE):TO:=fun σ H Q=>t σ H fun x H1=>∃ i,x=.int i∧Q (some i) H1
theorem intsAre_of {ns:List Int}:∀ {us:List Value},Vals (ns.map V.int) us→IntsAre us ns:=by
 induction ns with
 | nil=>intro us r; rw [List.map_nil] at r; cases r; exact .nil
 | cons n ns ih =>
  intro us r
  rw [List.map_cons] at r
  cases r with
  | cons r1 r2 =>
   obtain ⟨t,e⟩:=r1
   subst e
   exact .cons n t (ih r2)
section
variable {X:Cx} {e:Expr} {te:TE} {lo hi:Option Expr} {tl th:TO} {pos p2:Pos}
theorem po_none:PO X none tNoPart:=by
 intro pins s σ H Q I h
 rw [evalPart_none]
 exact wpAny_pure ⟨none,H,I,.none,h⟩
theorem po_some (h:PE X e te):PO X (some e) (tPart te):=by
 intro pins s σ H Q I hw
 rw [evalPart_some]
 refine thn (h pins s σ H _ I hw) fun u s1 ⟨x,H1,I1,r1,q1⟩=>?_
 obtain ⟨i,rfl,q⟩:=q1
 obtain ⟨t,rfl⟩:=r1
 exact ⟨some i,H1,I1,.int i t,q⟩
noncomputable def SlR (X:Cx) (r:V→Option Int→Option Int→Hp→VK→Prop):Prop :=
 ∀ (pins:List (Addr×Obj)) (s:Shared) (σ:St) (H:Hp) (x:V) (v vl vu:Value) (lo hi:Option Int) (sl:Addr) (Q:VK),Inv X pins σ H s→RelV x v→s.heap.IsSliceOf sl vl vu .none→IsPart vl lo→IsPart vu hi→r x lo hi H Q →
  ∃ T id,typeLookup (.type T) "__getitem__"=pure (some (.builtin id))∧s.TypeIs v T∧wpAny (model X.prog X.w) X.A (getItem v (.ref sl)) (EP X pins σ Q) X.xe s
noncomputable def tSl (r:V→Option Int→Option Int→Hp→VK→Prop) (te:TE) (tl th:TO):TE:=fun σ H Q=>te σ H fun x H1=>tl σ H1 fun l H2=>th σ H2 fun u H3=>r x l u H3 Q
theorem pe_slice {r:V→Option Int→Option Int→Hp→VK→Prop} (hr:SlR X r) (he:PE X e te) (hl:PO X lo tl) (hu:PO X hi th):PE X (.Subscript e (.Slice lo hi none p2) pos) (tSl r te tl th):=by
 intro pins s σ H Q I h
 refine Subscript_ (thn (he pins s σ H _ I h) fun v s1 ⟨x,H1,I1,r1,q1⟩=>?_)
 refine wpAny_Slice (thn (hl pins s1 σ H1 _ I1 q1) fun vl s2 ⟨l,H2,I2,pl,q2⟩=>thn (hu pins s2 σ H2 _ I2 q2) fun vu s3 ⟨u,H3,I3,pu,q3⟩=>?_)
 rw [evalPart_none]
 refine wpAny_pure ?_
 have I4:Inv X pins σ H3 { s3 with heap:=s3.heap.push { cls:=.type "slice",data:=.fields #[vl,vu,.none] } }:=I3.kept (t':=s3.toks) fun b ob q=>Heap.get?_push_of_some _ q
 obtain ⟨T,id,hT,ht,hg⟩:=hr pins { s3 with heap:=s3.heap.push { cls:=.type "slice",data:=.fields #[vl,vu,.none] } } σ H3 x v vl vu l u s3.heap.objs.size Q I4 r1 (Heap.IsSliceOf.new ..) pl pu q3
 show wpAny (model X.prog X.w) X.A (subscriptTail e (.Slice lo hi none p2) v (.ref s3.heap.objs.size)) (EP X pins σ Q) X.xe { s3 with heap:=s3.heap.push { cls:=.type "slice",data:=.fields #[vl,vu,.none] } }
 exact tail_any (ops:=[.ref s3.heap.objs.size,v]) ht hT hg (by with_unfolding_all rfl)
noncomputable def cutV (xs:List V) (lo hi:Option Int):List V:=(xs.drop (HT.sIx xs.length 0 lo)).take (HT.sIx xs.length xs.length hi - HT.sIx xs.length 0 lo)
theorem cutV_length (xs:List V) (lo hi:Option Int):(cutV xs lo hi).length≤xs.length:=by
 unfold cutV
 rw [List.length_take,List.length_drop]
 lia
noncomputable def rSlT (K:PySem.W.Frag):V→Option Int→Option Int→Hp→VK→Prop:=fun x lo hi H Q=>∃ a xs,x=.ref a∧SqT K H a xs ∧
 ¬ (HT.sIx xs.length 0 lo=0∧HT.sIx xs.length xs.length hi=xs.length)∧∀ p,H p=none→Q (.ref p) (upd H p (.tup (cutV xs lo hi)))
theorem sl_tup:SlR X (rSlT X.K):=by
 intro pins s σ H x v vl vu lo hi sl Q I rx hs pl pu h
 obtain ⟨a,xs,rfl,hx,hw,q⟩:=h
 cases rx
 obtain ⟨its,r,ht,hz⟩:=I.tuple hx
 have hlen:its.toArray.size=xs.length:=by rw [List.size_toArray]; exact r.length.symm
 refine ⟨"tuple",_,PyProof.Rows.slot_tuple_getitem.lookup,ht.typeIs,?_⟩
 refine HT.getItem_tuple_cut ht hs pl pu (by rw [hlen]; exact hw) ?_ (by rw [hlen]; exact hz)
 rw [hlen]
 refine ⟨.ref s.heap.objs.size,_,I.laid (t':=s.toks) (o:=.tup (cutV xs lo hi)) (fun b ob q=>Heap.get?_push_of_some _ q) (Nat.le_refl _) ?_,rfl,q _ (I.hok.fresh (Nat.le_refl _))⟩
 exact ⟨Nat.le_trans (cutV_length xs lo hi) hz,_,(r.drop (HT.sIx xs.length 0 lo)).take (HT.sIx xs.length xs.length hi - HT.sIx xs.length 0 lo),IsTup.new _ _⟩
noncomputable def rCatT (K:PySem.W.Frag):R2:=fun x y H Q=>∃ a b xs ys,x=.ref a∧y=.ref b∧SqT K H a xs∧SqT K H b ys∧xs≠[]∧xs.length + ys.length≤sizeLine ∧
 (ys=[]→Q (.ref a) H)∧(ys≠[]→∀ p,H p=none→Q (.ref p) (upd H p (.tup (xs++ys))))
theorem Vals.nil_iff {xs:List V} {us:List Value} (r:Vals xs us):us=[]↔xs=[]:=by
 cases r with
 | nil=>simp
 | cons _ _=>simp
theorem op_catT:OpR X (binaryOp .Add) (rCatT X.K):=by
 intro pins s σ H x y v u Q I rx ry h
 obtain ⟨a,b,xs,ys,rfl,rfl,ha,hb,hx,hz,q1,q2⟩:=h
 cases rx
 cases ry
 obtain ⟨its,r1,p1,_⟩:=I.tuple ha
 obtain ⟨its2,r2,p2,_⟩:=I.tuple hb
 refine HT.cat_tup p1 p2 (fun z=>hx (r1.nil_iff.mp z)) (fun z=>⟨.ref a,H,I,rfl,q1 (r2.nil_iff.mp z)⟩) (fun z=>?_) (by rw [← r1.length,← r2.length]; exact hz)
 refine ⟨.ref s.heap.objs.size,_,I.laid (t':=s.toks) (o:=.tup (xs++ys)) (fun b ob q=>Heap.get?_push_of_some _ q) (Nat.le_refl _) ?_,rfl,q2 (fun w=>z (r2.nil_iff.mpr w)) _ (I.hok.fresh (Nat.le_refl _))⟩
 exact ⟨by rw [List.length_append]; exact hz,_,r1.append r2,IsTup.new _ _⟩
end
end L2
namespace L2
open PySem PySem.Spec PyProof.Rows
noncomputable def ixN (n:Nat) (i:Int):Option Nat:=if 0≤i then (if i < n then some i.toNat else none) else if -(n:Int)≤i then some (i + n).toNat else none
noncomputable def atI {α:Type} (xs:List α) (i:Int):Option α:=(ixN xs.length i).bind fun j=>xs[j]?
theorem ixN_seq {n:Nat} {i:Int} {j:Nat} (h:ixN n i=some j):seqIndex? i n=some j∧j < n∧-(n:Int)≤i∧i < n:=by
 unfold ixN at h
 by_cases h0:0≤i
 ·rw [if_pos h0] at h
  by_cases h1:i < n
  ·rw [if_pos h1] at h
   have e:i.toNat=j:=Option.some.inj h
   exact ⟨by rw [seqIndex_of h0 h1,e],by lia,by lia,h1⟩
  ·rw [if_neg h1] at h; cases h
 ·rw [if_neg h0] at h
  by_cases h1:-(n:Int)≤i
  ·rw [if_pos h1] at h
   have e:(i + n).toNat=j:=Option.some.inj h
   exact ⟨by rw [seqIndex_neg (by lia) h1,e],by lia,h1,by lia⟩
  ·rw [if_neg h1] at h; cases h
theorem atI_get {α:Type} {xs:List α} {i:Int} {v:α} (h:atI xs i=some v):∃ j,seqIndex? i xs.length=some j∧xs[j]?=some v∧j < xs.length∧-(xs.length:Int)≤i∧i < xs.length:=by
 unfold atI at h
 cases e:ixN xs.length i with
 | none=>rw [e] at h; cases h
 | some j =>
  rw [e] at h
  obtain ⟨h1,h2,h3,h4⟩:=ixN_seq e
  exact ⟨j,h1,h,h2,h3,h4⟩
theorem atI_nat {α:Type} {xs:List α} {j:Nat} {v:α} (h:xs[j]?=some v):atI xs (j:Int)=some v:=by
 have hj:j < xs.length:=(List.getElem?_eq_some_iff.mp h).1
 have e:ixN xs.length (j:Int)=some j:=by
  unfold ixN
  rw [if_pos (by lia),if_pos (by lia)]; simp
 unfold atI; rw [e]; exact h
noncomputable def PlainIx (b:Expr):Prop:=∀ o i,subscripted b false o i=operate [o,i] (getItem o i)
noncomputable def IxR (X:Cx) (r:R2):Prop :=
 ∀ (value slice:Expr) (pins:List (Addr×Obj)) (s:Shared) (σ:St) (H:Hp) (x y:V) (v u:Value) (Q:VK),Inv X pins σ H s→RelV x v→RelV y u→r x y H Q →
  subscripted slice false v u=operate [v,u] (getItem v u)→wpAny (model X.prog X.w) X.A (subscriptTail value slice v u) (EP X pins σ Q) X.xe s
noncomputable def MtR (X:Cx) (id:String) (r:V→List V→Hp→VK→Prop):Prop :=
 ∀ (pins:List (Addr×Obj)) (s:Shared) (σ:St) (H:Hp) (x:V) (xs:List V) (v:Value) (us:List Value) (Q:VK),Inv X pins σ H s→RelV x v→Vals xs us→r x xs H Q →
  wpAny (model X.prog X.w) X.A (call (.builtin id) (v :: us)) (EP X pins σ Q) X.xe s
section
variable {X:Cx} {a b:Expr} {ta tb:TE} {pos:Pos}
theorem pe_ix {r:R2} (hr:IxR X r) (ha:PE X a ta) (hb:PE X b tb) (hs:PlainIx b):PE X (.Subscript a b pos) (tOp r ta tb):=by
 intro pins s σ H Q I h
 exact Subscript_ (binT ha hb I h fun v u s2 x y H2 I2 rx ry q=>hr a b pins s2 σ H2 x y v u Q I2 rx ry q (hs _ _))
noncomputable def rIxL (K:PySem.W.Frag):R2:=fun x y H Q=>∃ p xs i v,x=.ref p∧y=.int i∧SqL K H p xs∧atI xs i=some v∧Q v H
noncomputable def rIxT (K:PySem.W.Frag):R2:=fun x y H Q=>∃ p xs i v,x=.ref p∧y=.int i∧SqT K H p xs∧atI xs i=some v∧Q v H
theorem ix_list:IxR X (rIxL X.K):=by
 intro value slice pins s σ H x y v u Q I rx ry h hs
 obtain ⟨p,xs,i,z,rfl,rfl,hq,he,q⟩:=h
 cases rx
 obtain ⟨t,rfl⟩:=ry
 obtain ⟨its,r,pl,hz⟩:=I.list hq
 obtain ⟨j,h1,h2,h3,h4,h5⟩:=atI_get he
 obtain ⟨w,ew,rw'⟩:=r.get h2
 have hl:=r.length
 have hn:=line63
 have fin:EP X pins σ Q w s:=⟨z,H,I,rw',q⟩
 by_cases h0:0≤i
 ·have hj:i.toNat=j:=by
   rw [seqIndex_of h0 h5] at h1
   exact Option.some.inj h1
  exact item_listR pl.isList h0 (by lia) (by rw [hj]; simpa using ew) fin hs
 ·have hj:(i + (its.toArray.size:Int)).toNat=j:=by
   rw [seqIndex_neg (by lia) h4] at h1
   rw [List.size_toArray,← hl]
   exact Option.some.inj h1
  exact subscriptTail_builtinR (x:=w) pl.isList.typeIs slot_list_getitem.lookup
   (wpAny_getItem_list_neg (Q:=fun r s'=>r=w∧EP X pins σ Q r s') pl.isList (by lia) (by rw [List.size_toArray] <;> lia) (by lia) (by rw [hj]; simpa using ew) ⟨rfl,fin⟩) hs
theorem ix_tup:IxR X (rIxT X.K):=by
 intro value slice pins s σ H x y v u Q I rx ry h hs
 obtain ⟨p,xs,i,z,rfl,rfl,hq,he,q⟩:=h
 cases rx
 obtain ⟨t,rfl⟩:=ry
 obtain ⟨its,r,pl,hz⟩:=I.tuple hq
 obtain ⟨j,h1,h2,h3,h4,h5⟩:=atI_get he
 obtain ⟨w,ew,rw'⟩:=r.get h2
 have hl:=r.length
 have hn:=line63
 have fin:EP X pins σ Q w s:=⟨z,H,I,rw',q⟩
 exact subscriptTail_builtinR (x:=w) pl.typeIs slot_tuple_getitem.lookup
  (getItem_tuple (j:=j) (Q:=fun r s'=>r=w∧EP X pins σ Q r s') pl (by lia) (by lia) (by rw [List.size_toArray,← hl]; exact h1) (by simpa using ew) ⟨rfl,fin⟩) hs
theorem mapSeq_set (its:List Value) (n j:Nat) (u:Value):Obj.mapSeq (·.setIfInBounds j u) { cls:=.type "list",data:=.seq its.toArray n }={ cls:=.type "list",data:=.seq (its.set j u).toArray n }:=by
 simp [Obj.mapSeq]
theorem Inv.lst {pins:List (Addr×Obj)} {σ:St} {H:Hp} {s:Shared} {p:Addr} {xs:List V} (I:Inv X pins σ H s) (h:H p=some (.lst xs)) :
  ∃ (its:List Value) (n:Nat),Vals xs its∧s.heap.get? p=some { cls:=.type "list",data:=.seq its.toArray n }∧xs.length≤sizeLine:=by
 obtain ⟨z,its,n,r,e⟩:=I.hok p _ h
 exact ⟨its,n,r,e,z⟩
theorem Inv.lstUpd {pins:List (Addr×Obj)} {σ:St} {H:Hp} {s:Shared} {p:Addr} {xs ys:List V} {its its':List Value} {n n':Nat} {f:Obj→Obj} (I:Inv X pins σ H s) (h:H p=some (.lst xs))
  (ho:s.heap.get? p=some { cls:=.type "list",data:=.seq its.toArray n }) (hf:f { cls:=.type "list",data:=.seq its.toArray n }={ cls:=.type "list",data:=.seq its'.toArray n' }) (r:Vals ys its') (hz:ys.length≤sizeLine) (t:Nat) :
  Inv X pins σ (upd H p (.lst ys)) { s with heap:=s.heap.update p f,toks:=t }:=by
 have e:(s.heap.update p f).get? p=some { cls:=.type "list",data:=.seq its'.toArray n' }:=by
  rw [Heap.get?_update_self f ho (by rw [hf] <;> rfl),hf]
 refine I.write (x:=p) (e:=p) (by rw [h]; trivial) (.inl rfl) (fun b u hb q=>(Heap.get?_update_other _ _ (Ne.symm hb)).trans q) ⟨_,e⟩ ?_
 exact ⟨hz,its',n',r,e⟩
noncomputable def rSetL:V→V→V→Hp→(Hp→Prop)→Prop:=fun o i v H Q=>∃ p xs k j,o=.ref p∧i=.int k∧H p=some (.lst xs)∧ixN xs.length k=some j∧Q (upd H p (.lst (xs.set j v)))
theorem set_list:PSet X rSetL:=by
 intro pins s σ H o i v ov iv u Q I ro ri rv h
 obtain ⟨p,xs,k,j,rfl,rfl,hp,hj,q⟩:=h
 cases ro
 obtain ⟨t,rfl⟩:=ri
 obtain ⟨its,n,r,ho,hz⟩:=I.lst hp
 obtain ⟨h1,h2,h3,h4⟩:=ixN_seq hj
 have hl:=r.length
 have hn:=line63
 have I':Inv X pins σ (upd H p (.lst (xs.set j v))) { s with heap:=s.heap.update p (Obj.mapSeq (·.setIfInBounds j u)) } :=
  I.lstUpd hp ho (mapSeq_set its n j u) (r.set rv j) (by rw [List.length_set]; exact hz) s.toks
 by_cases h0:0≤k
 ·have hk:k.toNat=j:=by
   rw [seqIndex_of h0 h4] at h1
   exact Option.some.inj h1
  exact PySem.W.ki_setAt ho h0 (by lia) (by rw [List.size_toArray,← hl]; exact h4) (by rw [hk]; exact ⟨_,I',q⟩)
 ·have hk:(k + (its.toArray.size:Int)).toNat=j:=by
   rw [seqIndex_neg (by lia) h3] at h1
   rw [List.size_toArray,← hl]
   exact Option.some.inj h1
  exact PySem.W.ki_setBack ho (by lia) (by rw [List.size_toArray,← hl]; exact h3) (by lia) (by rw [hk]; exact ⟨_,I',q⟩)
theorem slice_bounds (lo hi:Option Int) (n:Nat):(sliceBounds lo hi none n).1=((HT.sIx n 0 lo:Nat):Int)∧(sliceBounds lo hi none n).2.1=((HT.sIx n n hi:Nat):Int)∧(sliceBounds lo hi none n).2.2=1:=by
 refine ⟨?_,?_,rfl⟩
 ·cases lo with
  | none=>simp [sliceBounds,HT.sIx]
  | some i =>
   simp only [sliceBounds,HT.sIx,Option.getD_none,show (1:Int) > 0 by decide,if_true]
   by_cases h:i < 0
   ·simp only [h,if_true] <;> lia
   ·simp only [h,if_false] <;> lia
 ·cases hi with
  | none=>simp [sliceBounds,HT.sIx]
  | some i =>
   simp only [sliceBounds,HT.sIx,Option.getD_none,show (1:Int) > 0 by decide,if_true]
   by_cases h:i < 0
   ·simp only [h,if_true] <;> lia
   ·simp only [h,if_false] <;> lia
theorem slicePick_cut (its:List Value) (lo hi:Option Int):slicePick its.toArray lo hi none=((its.drop (HT.sIx its.length 0 lo)).take (HT.sIx its.length its.length hi - HT.sIx its.length 0 lo)).toArray:=by
 obtain ⟨h1,h2,h3⟩:=slice_bounds lo hi its.toArray.size
 unfold slicePick
 rw [h1,h2,h3]
 simp only [sliceRange_one,pick_run,List.size_toArray] <;> rfl
noncomputable def rSlL (K:PySem.W.Frag):V→Option Int→Option Int→Hp→VK→Prop:=fun x lo hi H Q=>∃ a xs,x=.ref a∧SqL K H a xs∧∀ p,H p=none→Q (.ref p) (upd H p (.lst (cutV xs lo hi)))
theorem sl_list:SlR X (rSlL X.K):=by
 intro pins s σ H x v vl vu lo hi sl Q I rx hs pl pu h
 obtain ⟨a,xs,rfl,hx,q⟩:=h
 cases rx
 obtain ⟨its,r,ht,hz⟩:=I.list hx
 have hlen:=r.length
 refine ⟨"list",_,slot_list_getitem.lookup,ht.isList.typeIs,?_⟩
 refine wpAny_getItem_list_slice ht.isList hs pl pu .none (by simp) ?_ (by rw [List.size_toArray] <;> lia)
 rw [slicePick_cut,← hlen]
 refine ⟨.ref s.heap.objs.size,_,I.laid (t':=s.toks) (o:=.lst (cutV xs lo hi)) (fun b ob q=>Heap.get?_push_of_some _ q) (Nat.le_refl _) ?_,rfl,q _ (I.hok.fresh (Nat.le_refl _))⟩
 exact ⟨Nat.le_trans (cutV_length xs lo hi) hz,_,0,(r.drop (HT.sIx xs.length 0 lo)).take (HT.sIx xs.length xs.length hi - HT.sIx xs.length 0 lo),Heap.get?_push_size _ rfl⟩
noncomputable def flatV:V→Bool
 | .non=>true
 | .bl _=>true
 | .int _=>true
 | .str _=>true
 | _=>false
noncomputable def eqV:V→V→Bool
 | .non,.non=>true
 | .bl a,.bl b=>a == b
 | .bl a,.int b=>(if a then 1 else 0) == b
 | .int a,.bl b=>a == (if b then 1 else 0)
 | .int a,.int b=>a == b
 | .str a,.str b=>a == b
 | _,_=>false
theorem eqAt_V {A:Around} {s:Shared} {y x:V} {u v:Value} (ry:RelV y u) (rx:RelV x v) (fy:flatV y=true) (fx:flatV x=true):SeqAt.EqAt A s u v (eqV y x):=by
 cases y with
 | non =>
  cases ry
  cases x with
  | non=>cases rx; exact SeqAt.EqAt.same _
  | bl b=>cases rx; exact SeqAt.EqAt.none_bool b
  | int b=>obtain ⟨t,rfl⟩:=rx; exact SeqAt.EqAt.none_int b t
  | str b=>obtain ⟨t,rfl⟩:=rx; exact SeqAt.EqAt.none_str b t
  | _=>exact absurd (show false=true from fx) Bool.false_ne_true
 | bl a =>
  cases ry
  cases x with
  | non=>cases rx; exact SeqAt.EqAt.bool_none a
  | bl b=>cases rx; exact SeqAt.EqAt.bool_bool a b
  | int b=>obtain ⟨t,rfl⟩:=rx; exact SeqAt.EqAt.bool_int a b t
  | str b=>obtain ⟨t,rfl⟩:=rx; exact SeqAt.EqAt.bool_str a b t
  | _=>exact absurd (show false=true from fx) Bool.false_ne_true
 | int a =>
  obtain ⟨t',rfl⟩:=ry
  cases x with
  | non=>cases rx; exact SeqAt.EqAt.int_none a t'
  | bl b=>cases rx; exact SeqAt.EqAt.int_bool a t' b
  | int b=>obtain ⟨t,rfl⟩:=rx; exact SeqAt.EqAt.int_int a t' b t
  | str b=>obtain ⟨t,rfl⟩:=rx; exact SeqAt.EqAt.int_str a t' b t
  | _=>exact absurd (show false=true from fx) Bool.false_ne_true
 | str a =>
  obtain ⟨t',rfl⟩:=ry
  cases x with
  | non=>cases rx; exact SeqAt.EqAt.str_none a t'
  | bl b=>cases rx; exact SeqAt.EqAt.str_bool a t' b
  | int b=>obtain ⟨t,rfl⟩:=rx; exact SeqAt.EqAt.str_int a t' b t
  | str b=>obtain ⟨t,rfl⟩:=rx; exact SeqAt.EqAt.str_str a t' b t
  | _=>exact absurd (show false=true from fx) Bool.false_ne_true
 | _=>exact absurd (show false=true from fy) Bool.false_ne_true
noncomputable def eqU (x:V) (u:Value):Bool:=match u with
 | .none=>eqV .non x
 | .bool b=>eqV (.bl b) x
 | .int i _=>eqV (.int i) x
 | .str z _=>eqV (.str z) x
 | _=>false
theorem eqU_of {x y:V} {u:Value} (r:RelV y u) (f:flatV y=true):eqU x u=eqV y x:=by
 cases y with
 | non=>cases r; rfl
 | bl b=>cases r; rfl
 | int i=>obtain ⟨t,rfl⟩:=r; rfl
 | str z=>obtain ⟨t,rfl⟩:=r; rfl
 | _=>exact absurd (show false=true from f) Bool.false_ne_true
theorem any_eqU {x:V}:∀ {xs:List V} {us:List Value},Vals xs us→xs.all flatV=true→us.any (eqU x)=xs.any fun y=>eqV y x
 | _,_,.nil,_=>rfl
 | y :: xs,u :: us,.cons r t,f=>by
  rw [List.all_cons,Bool.and_eq_true] at f
  rw [List.any_cons,List.any_cons,eqU_of r f.1,any_eqU t f.2]
theorem mem_eqAt {A:Around} {s:Shared} {x:V} {v:Value} (rx:RelV x v) (fx:flatV x=true):∀ {xs:List V} {us:List Value},Vals xs us→xs.all flatV=true→∀ u∈us,SeqAt.EqAt A s u v (eqU x u)
 | _,_,.nil,_=>fun u hu=>by cases hu
 | y :: xs,u :: us,.cons r t,f=>fun u' hu=>by
  rw [List.all_cons,Bool.and_eq_true] at f
  rcases List.mem_cons.mp hu with rfl | hu
  ·rw [eqU_of r f.1]; exact eqAt_V r rx f.1 fx
  ·exact mem_eqAt rx fx t f.2 u' hu
noncomputable def inV (x:V) (xs:List V):Bool:=xs.any fun y=>eqV y x
noncomputable def rIn (K:PySem.W.Frag) (neg:Bool):R2:=fun x y H Q=>∃ p xs,y=.ref p∧(SqL K H p xs∨SqT K H p xs)∧flatV x=true∧xs.all flatV=true∧Q (.bl (if neg then !inV x xs else inV x xs)) H
theorem op_in_seq:OpR X (compareOp .In) (rIn X.K false):=by
 intro pins s σ H x y v u Q I rx ry h
 obtain ⟨p,xs,rfl,hq,fx,fs,q⟩:=h
 cases ry
 rcases hq with hq | hq
 ·obtain ⟨its,r,pl,hz⟩:=I.list hq
  refine SeqAt.in_listAt (eqU x) pl.isList (fun w hw=>mem_eqAt rx fx r fs w (by simpa using hw)) ⟨.bl _,H,I,rfl,?_⟩
  rw [show its.toArray.any (eqU x)=its.any (eqU x) by simp,any_eqU r fs]
  exact q
 ·obtain ⟨its,r,pl,hz⟩:=I.tuple hq
  refine SeqAt.in_tupleAt (eqU x) pl (fun w hw=>mem_eqAt rx fx r fs w (by simpa using hw)) ⟨.bl _,H,I,rfl,?_⟩
  rw [show its.toArray.any (eqU x)=its.any (eqU x) by simp,any_eqU r fs]
  exact q
theorem op_notIn_seq:OpR X (compareOp .NotIn) (rIn X.K true):=by
 intro pins s σ H x y v u Q I rx ry h
 obtain ⟨p,xs,rfl,hq,fx,fs,q⟩:=h
 cases ry
 rcases hq with hq | hq
 ·obtain ⟨its,r,pl,hz⟩:=I.list hq
  refine SeqAt.notIn_listAt (eqU x) pl.isList (fun w hw=>mem_eqAt rx fx r fs w (by simpa using hw)) ⟨.bl _,H,I,rfl,?_⟩
  rw [show its.toArray.any (eqU x)=its.any (eqU x) by simp,any_eqU r fs]
  exact q
 ·obtain ⟨its,r,pl,hz⟩:=I.tuple hq
  refine SeqAt.notIn_tupleAt (eqU x) pl (fun w hw=>mem_eqAt rx fx r fs w (by simpa using hw)) ⟨.bl _,H,I,rfl,?_⟩
  rw [show its.toArray.any (eqU x)=its.any (eqU x) by simp,any_eqU r fs]
  exact q
theorem call_len_seq:CallR X (.builtin "len") (fun xs H Q=>∃ p ys,xs=[.ref p]∧(SqL X.K H p ys∨SqT X.K H p ys)∧Q (.int ys.length) H):=by
 intro pins s σ H xs us Q I r h
 obtain ⟨p,ys,rfl,hq,q⟩:=h
 obtain ⟨u,rfl,rx⟩:=vals1 r
 cases rx
 have hn:=line63
 rcases hq with hq | hq
 ·obtain ⟨its,r',pl,hz⟩:=I.list hq
  have hlen:=r'.length
  exact Calls.call_len_list pl.isList (by simp only [List.size_toArray] <;> lia) ⟨.int ys.length,H,I.tok _,⟨s.toks + 1,by rw [List.size_toArray,hlen]⟩,q⟩
 ·obtain ⟨its,r',pl,hz⟩:=I.tuple hq
  have hlen:=r'.length
  exact len_tuple pl (by simp only [List.size_toArray] <;> lia) ⟨.int ys.length,H,I.tok _,⟨s.toks + 1,by rw [List.size_toArray,hlen]⟩,q⟩
theorem call_list_of:CallR X (.type "list") (fun xs H Q=>∃ p ys,xs=[.ref p]∧(SqL X.K H p ys∨SqT X.K H p ys)∧∀ l,H l=none→Q (.ref l) (upd H l (.lst ys))):=by
 intro pins s σ H xs us Q I r h
 obtain ⟨p,ys,rfl,hq,q⟩:=h
 obtain ⟨u,rfl,rx⟩:=vals1 r
 cases rx
 have fin:∀ (its:List Value),Vals ys its→ys.length≤sizeLine→∀ (h':Heap) (c':Nat),(∀ b o',s.heap.get? b=some o'→h'.get? b=some o') →
   h'.get? s.heap.objs.size=some { cls:=.type "list",dict:=none,data:=.seq its.toArray c',slots:=#[] }→EP X pins σ Q (.ref s.heap.objs.size) { s with heap:=h' }:=fun its r' hz h' c' kp e =>
  ⟨.ref s.heap.objs.size,_,I.laid (t':=s.toks) kp (Nat.le_refl _) (show ObjOk X.prog X.w _ h' _ (.lst ys) from ⟨hz,its,c',r',e⟩),rfl,q _ (I.hok.fresh (Nat.le_refl _))⟩
 rcases hq with hq | hq
 ·obtain ⟨its,r',pl,hz⟩:=I.list hq
  have hlen:=r'.length
  obtain ⟨o,ho,hc,n,hd⟩:=pl.isList
  exact call_list_seq p (.inl rfl) ho hc hd (fun h' c' kp e=>fin its r' hz h' c' kp e) (by simp only [List.size_toArray] <;> lia)
 ·obtain ⟨its,r',pl,hz⟩:=I.tuple hq
  have hlen:=r'.length
  obtain ⟨o,ho,hc,n,hd⟩:=pl
  exact call_list_seq p (.inr rfl) ho hc hd (fun h' c' kp e=>fin its r' hz h' c' kp e) (by simp only [List.size_toArray] <;> lia)
theorem call_tuple_of:CallR X (.type "tuple") (fun xs H Q=>∃ p ys,xs=[.ref p]∧((SqL X.K H p ys∧∀ l,H l=none→Q (.ref l) (upd H l (.tup ys)))∨(SqT X.K H p ys∧Q (.ref p) H))):=by
 intro pins s σ H xs us Q I r h
 obtain ⟨p,ys,rfl,h⟩:=h
 obtain ⟨u,rfl,rx⟩:=vals1 r
 cases rx
 rcases h with ⟨hq,q⟩ | ⟨hq,q⟩
 ·obtain ⟨its,r',pl,hz⟩:=I.list hq
  have hlen:=r'.length
  refine call_tuple_list pl.isList (fun h' kp=>?_) (by simp only [List.size_toArray] <;> lia)
  have I1:Inv X pins σ H { s with heap:=h' }:=I.kept (t':=s.toks) kp
  have I2:Inv X pins σ (upd H h'.objs.size (.tup ys)) { s with heap:=h'.push { cls:=.type "tuple",data:=.seq its.toArray } } :=
   I1.laid (t':=s.toks) (fun b o e=>Heap.get?_push_of_some _ e) (Nat.le_refl _) (show ObjOk X.prog X.w _ _ _ (.tup ys) from ⟨hz,its,r',IsTup.new _ _⟩)
  exact ⟨.ref h'.objs.size,_,I2,rfl,q _ (I1.hok.fresh (Nat.le_refl _))⟩
 ·obtain ⟨its,r',pl,hz⟩:=I.tuple hq
  exact call_tuple_same pl ⟨.ref p,H,I,rfl,q⟩
noncomputable def tyV (K:PySem.W.Frag) (T:String) (x:V) (H:Hp):Prop:=match x with
 | .str _=>T="str"
 | .int _=>T="int"
 | .ref p=>(T="list"∧∃ xs,SqL K H p xs)∨(T="tuple"∧∃ o,K.lookup p=some o∧o.cls=.type "tuple"∧o.dict=none) ∨
   (T="dict"∧((∃ kvs,H p=some (.dK kvs))∨∃ kvs,H p=some (.dT kvs)))∨(T="set"∧∃ S n,H p=some (.set S n))
 | _=>False
theorem tyV_is {pins:List (Addr×Obj)} {σ:St} {H:Hp} {s:Shared} {T:String} {x:V} {v:Value} (I:Inv X pins σ H s) (r:RelV x v) (ty:tyV X.K T x H) :
  s.TypeIs v T∧∀ a,v=.ref a→∃ ob,s.heap.get? a=some ob∧ob.dict=none:=by
 cases x with
 | str z =>
  obtain ⟨t,rfl⟩:=r
  cases (show T="str" from ty)
  exact ⟨typeIs_str s z t,fun _ e=>nomatch e⟩
 | int i =>
  obtain ⟨t,rfl⟩:=r
  cases (show T="int" from ty)
  exact ⟨typeIs_int s i t,fun _ e=>nomatch e⟩
 | ref p =>
  cases r
  rcases ty with ⟨rfl,xs,hq⟩ | ⟨rfl,o,hk,hc,hd⟩ | ⟨rfl,hk⟩ | ⟨rfl,S,n,hk⟩
  ·obtain ⟨its,_,pl,_⟩:=I.list hq
   refine ⟨pl.isList.typeIs,fun a e=>?_⟩
   cases e
   obtain ⟨o,n,e,c,hd,_⟩:=pl
   exact ⟨o,e,hd⟩
  ·refine ⟨⟨o,I.kIn p o hk,hc⟩,fun a e=>?_⟩
   cases e
   exact ⟨o,I.kIn _ o hk,hd⟩
  ·have z:∃ o,s.heap.get? p=some o∧o.ExactDict:=by
    rcases hk with ⟨kvs,hk⟩ | ⟨kvs,hk⟩
    ·obtain ⟨_,_,_,_,o,_,_,e,ex,_⟩:=I.hok p _ hk
     exact ⟨o,e,ex⟩
    ·obtain ⟨_,_,_,_,o,_,_,e,ex,_⟩:=I.hok p _ hk
     exact ⟨o,e,ex⟩
   obtain ⟨o,e,ex⟩:=z
   refine ⟨⟨o,e,ex.1⟩,fun a e2=>?_⟩
   cases e2
   exact ⟨o,e,ex.2.1⟩
  ·obtain ⟨o,_,_,_,e,ex,_⟩:=I.hok p _ hk
   refine ⟨⟨o,e,ex.1⟩,fun a e2=>?_⟩
   cases e2
   exact ⟨o,e,ex.2.1⟩
 | _=>exact False.elim ty
noncomputable def tBM0 (K:PySem.W.Frag) (T:String) (r:V→List V→Hp→VK→Prop) (to:TE):TE:=fun σ H Q=>to σ H fun x H1=>tyV K T x H1∧r x [] H1 Q
noncomputable def tBM (K:PySem.W.Frag) (T:String) (r:V→List V→Hp→VK→Prop) (to:TE) (t:TA):TE:=fun σ H Q=>to σ H fun x H1=>tyV K T x H1∧t σ H1 fun xs H2=>r x xs H2 Q
variable {o e:Expr} {es:List Expr} {to:TE} {t:TA} {name:Str} {apos cpos:Pos} {T id:String} {r:V→List V→Hp→VK→Prop}
theorem pe_bm0 (pa:PlainAttrs T) (slot:Slot T name id) (hty:typeOf (.builtin id)=pure (.type "method_descriptor")) (hm:MtR X id r) (ho:PE X o to)
  (hbase:attributeBase o name X.env (eval o X.env)=eval o X.env:=by rfl) (hline:(apos.endLine == cpos.line)=true:=by rfl):PE X (.Call (.Attribute o name apos) [] [] cpos) (tBM0 X.K T r to):=by
 intro pins s σ H Q I h
 refine wpAny_Call_method0_late hbase hline (thn (ho pins s σ H _ I h) fun v s1 ⟨x,H1,I1,r1,ty,q1⟩=>?_)
 obtain ⟨h1,h2⟩:=tyV_is I1 r1 ty
 exact ⟨T,id,pa,slot,hty,h1,h2,Calls.callWith_builtin rfl (PySem.evalArgs_none (hm pins s1 σ H1 x [] v [] Q I1 r1 .nil q1))⟩
theorem pe_bm (pa:PlainAttrs T) (slot:Slot T name id) (hty:typeOf (.builtin id)=pure (.type "method_descriptor")) (hm:MtR X id r) (ho:PE X o to) (ha:PA X (e :: es) t)
  (hbase:attributeBase o name X.env (eval o X.env)=eval o X.env:=by rfl)
  (hfew:((backTo cpos (starEach (e :: es) X.env)).all (fun x=>!x.1) && (backToKw cpos (keywordEach [] X.env)).all (fun x=>x.1.isSome)
   && decide ((e :: es).length + ([]:List Keyword).length + (if ([]:List Keyword).isEmpty then 0 else 1) < 30))=true:=by rfl)
  (hline:(apos.endLine == cpos.line)=true:=by rfl) (hs:starEach (e :: es) X.env=(false,eval e X.env) :: starEach es X.env:=by rfl) (hplain:(backTo cpos (starEach es X.env)).any (·.1)=false:=by rfl) :
  PE X (.Call (.Attribute o name apos) (e :: es) [] cpos) (tBM X.K T r to t):=by
 intro pins s σ H Q I h
 refine wpAny_Call_method_late hbase hfew hline rfl (thn (ho pins s σ H _ I h) fun v s1 ⟨x,H1,I1,r1,ty,q1⟩=>?_)
 obtain ⟨h1,h2⟩:=tyV_is I1 r1 ty
 refine ⟨T,id,pa,slot,hty,h1,h2,?_⟩
 have hA:=ha cpos pins s1 σ H1 _ I1 q1
 rw [hs] at hA ⊢
 refine Calls.callWith_builtin (by show (false || (backTo cpos (starEach es X.env)).any (·.1))=false; rw [hplain] <;> rfl) (Calls.evalArgs_plain ?_)
 exact thn hA fun us s2 ⟨vs,H2,I2,r2,q2⟩=>hm pins s2 σ H2 x vs v us Q I2 r1 r2 q2
end
end L2
namespace L2
open PySem PySem.Spec PyProof.Rows
noncomputable def MtM (X:Cx) (id:String) (r:V→List V→Hp→VK→Prop):Prop :=
 ∀ (pins:List (Addr×Obj)) (s:Shared) (σ:St) (H:Hp) (x:V) (xs:List V) (v:Value) (us:List Value) (Q:VK),Inv X pins σ H s→RelV x v→Vals xs us→r x xs H Q →
  wpAny (model X.prog X.w) X.A (call (.builtin id) (v :: us)) (EP X pins σ Q) X.xe s
theorem Vals.one:∀ {x:V} {us:List Value},Vals [x] us→∃ u,us=[u]∧RelV x u
 | _,_,.cons r .nil=>⟨_,rfl,r⟩
theorem Vals.zero:∀ {us:List Value},Vals [] us→us=[]
 | _,.nil=>rfl
theorem Vals.dropLast {xs:List V} {us:List Value} (h:Vals xs us):Vals xs.dropLast us.dropLast:=by
 induction h with
 | nil=>exact .nil
 | cons r t ih =>
  cases t with
  | nil=>exact .nil
  | cons q t'=>exact .cons r ih
theorem Vals.eraseIdx:∀ {xs:List V} {us:List Value} (i:Nat),Vals xs us→Vals (xs.eraseIdx i) (us.eraseIdx i)
 | _,_,_,.nil=>.nil
 | _,_,0,.cons _ t=>t
 | _,_,i + 1,.cons r t=>.cons r (Vals.eraseIdx i t)
theorem Vals.reverse {xs:List V} {us:List Value} (h:Vals xs us):Vals xs.reverse us.reverse:=by
 induction h with
 | nil=>exact .nil
 | cons r t ih=>rw [List.reverse_cons,List.reverse_cons]; exact Vals.append ih (.cons r .nil)
theorem erase_last {α:Type} (l:List α):l.eraseIdx (l.length - 1)=l.dropLast:=by
 induction l with
 | nil=>rfl
 | cons a r ih =>
  cases r with
  | nil=>rfl
  | cons b r =>
   have e:(a :: b :: r).length - 1=((b :: r).length - 1) + 1:=by
    have h1:(a :: b :: r).length=r.length + 2:=rfl
    have h2:(b :: r).length=r.length + 1:=rfl
    lia
   rw [e,List.eraseIdx_cons_succ,ih]
   all_goals rfl
theorem len_erase {α:Type}:∀ (l:List α) (i:Nat),(l.eraseIdx i).length≤l.length
 | [],_=>Nat.le_refl _
 | _ :: _,0=>Nat.le_succ _
 | _ :: r,i + 1=>Nat.succ_le_succ (len_erase r i)
section
variable {X:Cx} {pins:List (Addr×Obj)} {σ:St} {H:Hp} {s:Shared} {l b:Addr} {xs ys zs:List V}
theorem Inv.lset {its its':List Value} {n:Nat} {f:Array Value→Array Value} {t':Nat} (I:Inv X pins σ H s) (hH:H l=some (.lst xs))
  (e:s.heap.get? l=some { cls:=.type "list",data:=.seq its.toArray n }) (hf:f its.toArray=its'.toArray) (hv:Vals ys its') (hz:ys.length≤sizeLine) :
  Inv X pins σ (upd H l (.lst ys)) { s with heap:=s.heap.update l (Obj.mapSeq f),toks:=t' }:=by
 have q:=PySem.IsL.update e f
 rw [hf] at q
 refine I.write (x:=l) (e:=l) (by rw [hH]; exact trivial) (.inl rfl) (fun b' u hb hu=>(Heap.get?_update_other s.heap (Obj.mapSeq f) (Ne.symm hb)).trans hu) ⟨_,q⟩ ?_
 exact ⟨hz,its',_,hv,q⟩
theorem Inv.lnew {its:List Value} {t':Nat} (I:Inv X pins σ H s) (hv:Vals ys its) (hz:ys.length≤sizeLine) :
  Inv X pins σ (upd H s.heap.objs.size (.lst ys)) { s with heap:=s.heap.push { cls:=.type "list",data:=.seq its.toArray },toks:=t' } :=
 I.laid (fun _ _ q=>Heap.get?_push_of_some _ q) (Nat.le_refl _) ⟨hz,its,0,hv,Heap.get?_push_size _ rfl⟩
theorem Inv.fresh (I:Inv X pins σ H s):H s.heap.objs.size=none:=I.hok.fresh (Nat.le_refl _)
theorem Inv.lstM (I:Inv X pins σ H s) (hH:H l=some (.lst xs)):xs.length≤sizeLine∧∃ (its:List Value) (n:Nat),Vals xs its∧xs.length=its.length∧s.heap.get? l=some { cls:=.type "list",data:=.seq its.toArray n }:=by
 obtain ⟨z,its,n,r,e⟩:=I.hok l _ hH
 exact ⟨z,its,n,r,r.length,e⟩
theorem notLongL {n:Nat} (h:n≤sizeLine):Builtin.List.listTooLong n=false:=by
 unfold Builtin.List.listTooLong
 exact decide_eq_false (by lia)
end
section
variable {X:Cx}
noncomputable def rAppend:V→List V→Hp→VK→Prop:=fun x vs H Q=>∃ l xs y,x=.ref l∧vs=[y]∧H l=some (.lst xs)∧xs.length < sizeLine∧Q .non (upd H l (.lst (xs++[y])))
theorem mt_append:MtM X "list.append" rAppend:=by
 intro pins s σ H x vs v us Q I rx rv h
 obtain ⟨l,xs,y,rfl,rfl,hH,hz,q⟩:=h
 cases rx
 obtain ⟨u,rfl,ru⟩:=rv.one
 obtain ⟨z,its,n,r,hl,e⟩:=I.lstM hH
 refine call_meets F.slot_list_append ⟨_,e,rfl⟩ F.entry_list_append (F.args_list_append_2 _ _) (PySem.list_append l its.toArray n u (by rw [List.size_toArray]; lia)) ⟨e,?_⟩
 refine ⟨.non,_,I.lset (its':=its++[u]) hH e (by simp) (r.append (.cons ru .nil)) ?_,rfl,q⟩
 rw [List.length_append,List.length_singleton]
 lia
noncomputable def rExtend:V→List V→Hp→VK→Prop:=fun x vs H Q=>∃ l b xs zs,x=.ref l∧vs=[.ref b]∧H l=some (.lst xs)∧H b=some (.lst zs)∧xs.length + zs.length≤sizeLine∧Q .non (upd H l (.lst (xs++zs)))
theorem mt_extend:MtM X "list.extend" rExtend:=by
 intro pins s σ H x vs v us Q I rx rv h
 obtain ⟨l,b,xs,zs,rfl,rfl,hH,hB,hz,q⟩:=h
 cases rx
 obtain ⟨u,rfl,ru⟩:=rv.one
 cases ru
 obtain ⟨z,its,n,r,hl,e⟩:=I.lstM hH
 obtain ⟨z2,its2,n2,r2,hl2,e2⟩:=I.lstM hB
 have hsz:its.toArray.size + its2.toArray.size≤sizeLine:=by rw [List.size_toArray,List.size_toArray]; lia
 have hlong:¬ (!its.toArray.isEmpty && Builtin.List.listTooLong (its.toArray.size + its2.toArray.size))=true:=by
  rw [notLongL hsz,Bool.and_false]
  exact Bool.false_ne_true
 refine call_meets F.slot_list_extend ⟨_,e,rfl⟩ F.entry_list_extend (F.args_list_extend_2 _ _)
  (AutoSeq1.list_extend_list_list_0 l its.toArray n b its2.toArray n2 hlong (by rw [List.size_toArray]; lia) (by lia)) ⟨e,e2,?_⟩
 refine ⟨.non,_,I.lset (its':=its++its2) hH e (by simp) (r.append r2) ?_,rfl,q⟩
 rw [List.length_append]
 lia
noncomputable def rPop:V→List V→Hp→VK→Prop:=fun x vs H Q=>∃ l xs y,x=.ref l∧vs=[]∧H l=some (.lst xs)∧xs[xs.length - 1]?=some y∧Q y (upd H l (.lst xs.dropLast))
theorem mt_pop:MtM X "list.pop" rPop:=by
 intro pins s σ H x vs v us Q I rx rv h
 obtain ⟨l,xs,y,rfl,rfl,hH,hy,q⟩:=h
 cases rx
 have hus:=rv.zero
 subst hus
 obtain ⟨z,its,n,r,hl,e⟩:=I.lstM hH
 obtain ⟨u,hu,ru⟩:=r.get hy
 have hy':its.toArray[its.toArray.size - 1]?=some u:=by
  show its.toArray[its.length - 1]?=some u
  rw [← Array.getElem?_toList,← hl]
  exact hu
 refine call_meets F.slot_list_pop ⟨_,e,rfl⟩ F.entry_list_pop (F.args_list_pop_1 _) (MeetsSeq.list_pop_last l its.toArray n u hy' (by rw [List.size_toArray]; lia)) ⟨e,?_⟩
 refine ⟨y,_,I.lset (its':=its.dropLast) hH e ?_ r.dropLast ?_,ru,q⟩
 ·show its.toArray.eraseIdxIfInBounds (its.toArray.size - 1)=its.dropLast.toArray
  rw [List.size_toArray,List.eraseIdxIfInBounds_toArray,erase_last]
 ·rw [List.length_dropLast]
  lia
noncomputable def rPopAt:V→List V→Hp→VK→Prop:=fun x vs H Q=>∃ l xs i k y,x=.ref l∧vs=[.int i]∧H l=some (.lst xs)∧-(2 ^ 63)≤i∧i < 2 ^ 63∧seqIndex? i xs.length=some k∧xs[k]?=some y∧Q y (upd H l (.lst (xs.eraseIdx k)))
theorem mt_popAt:MtM X "list.pop" rPopAt:=by
 intro pins s σ H x vs v us Q I rx rv h
 obtain ⟨l,xs,i,k,y,rfl,rfl,hH,h1,h2,hk,hy,q⟩:=h
 cases rx
 obtain ⟨u,rfl,ru⟩:=rv.one
 obtain ⟨t,rfl⟩:=ru
 obtain ⟨z,its,n,r,hl,e⟩:=I.lstM hH
 obtain ⟨w,hw,rw'⟩:=r.get hy
 refine call_meets F.slot_list_pop ⟨_,e,rfl⟩ F.entry_list_pop (F.args_list_pop_2 _ _)
  (MeetsSeq.list_pop_at l its.toArray n i t k w (fitsIndex_both h1 h2) (by rw [List.size_toArray,← hl]; exact hk) (by rw [← Array.getElem?_toList]; exact hw) (by rw [List.size_toArray]; lia)) ⟨e,?_⟩
 refine ⟨y,_,I.lset (its':=its.eraseIdx k) hH e ?_ (r.eraseIdx k) ?_,rw',q⟩
 ·show its.toArray.eraseIdxIfInBounds k=(its.eraseIdx k).toArray
  rw [List.eraseIdxIfInBounds_toArray]
 ·have:=len_erase xs k
  lia
noncomputable def rCat:R2:=fun x y H Q=>∃ l b xs zs,x=.ref l∧y=.ref b∧H l=some (.lst xs)∧H b=some (.lst zs)∧xs.length + zs.length≤sizeLine∧∀ p,H p=none→Q (.ref p) (upd H p (.lst (xs++zs)))
theorem op_cat:OpR X (binaryOp .Add) rCat:=by
 intro pins s σ H x y v u Q I rx ry h
 obtain ⟨l,b,xs,zs,rfl,rfl,hH,hB,hz,q⟩:=h
 cases rx
 cases ry
 obtain ⟨z,its,n,r,hl,e⟩:=I.lstM hH
 obtain ⟨z2,its2,n2,r2,hl2,e2⟩:=I.lstM hB
 refine PySem.P.add_list e e2 ?_ (by rw [List.size_toArray,List.size_toArray]; lia)
 have ea:its.toArray++its2.toArray=(its++its2).toArray:=by simp
 rw [ea]
 exact ⟨.ref _,_,I.lnew (t':=s.toks) (r.append r2) (by rw [List.length_append]; lia),rfl,q _ I.fresh⟩
end
section
variable {prog:Program} {w:World} {A:Around} {E:Value→Shared→Prop} {s:Shared}
set_option maxRecDepth 100000 in
end
section
variable {X:Cx}
end
end L2
namespace Att
open PySem PySem.W PySem.Calls PyProof.Rows
theorem ints_of_wellAll {P:Params} {h:Heap}:∀ (ns:List Int) (vs:List Value),WellAll P h vs (ns.map WData.int)→IntsAre vs ns:=by
 intro ns
 induction ns with
 | nil =>
  intro vs w
  rw [List.map_nil] at w
  cases w
  exact .nil
 | cons n ns ih =>
  intro vs w
  rw [List.map_cons] at w
  cases w with
  | cons a b =>
   cases a
   exact .cons _ _ (ih _ b)
theorem script_of {l:OpenLaw} {n:Nat} (hn:l.most=some n) {P:Params} {h:Heap} {args:List WData} {vals:List Value}
    (hpre:l.row.toRowW.claim.pre args=true) (hwl:WellAll P h vals args) :
    ∃ a vs ns,vals=[Value.ref a]∧args=[WData.list (ns.map WData.int)]∧h.get? a=some { cls:=.type "list",data:=.seq vs.toArray }∧IntsAre vs ns∧ns.length≤n:=by
  have hsh:WShape.hasAll [] args [.list .int]=true:=(pre_splitW hpre).1
  have hc:l.pre.holds [] { args:=args }=true:=(pre_splitW hpre).2
  obtain ⟨d,r,rfl,h1,h2⟩:=hasAllW_cons hsh
  obtain rfl:=hasAllW_nil h2
  obtain ⟨xs,rfl,h3⟩:=hasW_list h1
  obtain ⟨ns,rfl⟩:=items_int h3
  have hlen:ns.length≤n:=by
    unfold OpenLaw.pre at hc
    have h4:(WTm.not (.lt (.lit (.int (n:Int))) (.len (.arg 0)))).holds [] { args:=[.list (ns.map .int)] }=true:=by
      have h4:=(holds_andW hc).1
      rw [hn] at h4
      exact h4
    have h5:=condW_of h4 (w_not (w_lt w_lit (w_len_list (w_arg rfl))))
    rw [List.length_map] at h5
    refine Nat.le_of_not_lt fun q=>?_
    have q':(n:Int) < ((ns.length:Nat):Int):=by lia
    first
      | (rw [decide_eq_true q'] at h5; exact absurd h5 (by decide))
      | (simp at h5; lia)
  cases hwl with
  | cons w1 w2 =>
    cases w2
    cases w1 with
    | list ho hall=>exact ⟨_,_,ns,rfl,rfl,ho,ints_of_wellAll ns _ hall,hlen⟩
theorem post_true (l:OpenLaw) (args:List WData):l.row.toRowW.claim.post args (.bool true) args=true :=
 postW_of (r:=l.row.toRowW) (X:=(true == true))
  (show WShape.has [] (.bool true) .bool=true by first | rfl | decide | simp [WShape.has,WShape.arms,WShape.armsAll])
  (show (WTm.eq .res (.lit (.bool true))).value [] { args:=args,res:=some (.bool true),after:=args }=some (.bool (true == true)) from w_eq_bool (w_res rfl) w_lit) rfl
theorem attach_call {l:OpenLaw} {n:Nat} {q:Program} {loose:List Str} {XP:(Str→Option Value)→Heap→Prop} {YP:World→Heap→Prop} {d:DefRec}
  (hn:l.most=some n) (hdf:d.params.defaults=[])
  (call:∀ (w:World) (s₀ s₁:Shared) (mg mb:Str→Option Value) (fa:Addr) (o:Obj) (pm cd doc:Value) (a:Addr) (vs:List Value) (ns:List Int),
   Ground q loose [] XP w s₀ mg mb s₁.heap→YP w s₁.heap →
   s₁.heap.get? fa=some o→o.data=.func (docDef d.name d.params d.body d.scope pm cd doc)→s₁.heap.CodeRec cd d.name→mg d.name=some (.ref fa) →
   s₁.heap.get? a=some { cls:=.type "list",data:=.seq vs.toArray }→IntsAre vs ns→ns.length≤n→s₁.gens=#[] →
   codeAny (model l.prog w) callerA (.call (.ref fa) ⟨[.ref a],[]⟩) (fun r s'=>r=.ok (.ret (.bool true))∧OldK s₁.heap s'.heap∧s'.os=s₁.os∧AllBare s'.gens) s₁) :
  WalkO q loose XP YP l.row.toRowW d [] (fun f vs=>PySem.call f vs):=by
 intro w s₀ s₁ mg mb G Y fa o pm cd doc dV kV ho hd hcd hD hmg hg args vals as hpre hlay hrd hwl hlo
 obtain rfl:dV=.none:=Dflts.none hD hdf
 obtain rfl:kV=.none:=Dflts.noKw hD
 obtain ⟨a,vs,ns,rfl,rfl,hobj,hints,hlen⟩:=script_of hn hpre hwl
 refine enter_call (codeAny_mono (call w s₀ s₁ mg mb fa o pm cd doc a vs ns G Y ho (fd_plain hd) hcd hmg hobj hints hlen hg) fun r s' hq=>?_)
 obtain ⟨rfl,h2,h3,h4⟩:=hq
 exact ⟨.inl ⟨.bool true,.bool true,[],rfl,fun _=>rfl,.bool true,post_true l _,fun _=>⟨List.Pairwise.nil,fun _ hm=>(nomatch hm)⟩⟩,h2,h3,h4⟩
section
variable {prog:Program} {w:World} {A:Around} {E:Value→Shared→Prop} {s:Shared} {K:Frag}
end
end Att
namespace L2
open PySem PySem.Spec PyProof.Rows
theorem vals_ints:∀ {vs:List Value} {ns:List Int},IntsAre vs ns→Vals (ns.map V.int) vs
 | _,_,.nil=>.nil
 | _,_,.cons n t h=>.cons ⟨t,rfl⟩ (vals_ints h)
noncomputable def Only (H:Hp):Prop:=∀ b,H b=none∨∃ o xs,H b=some (.frz o (.lst xs))
theorem law_call {P:Program} {w:World} {K:PySem.W.Frag} {mg mb:Str→Option Value} {CX:CXT} {k:Nat} {fa a:Addr} {fd:FuncData} {x:Str} {sp:Sp} {s₁:Shared} {vs:List Value} {ns:List Int}
  (KX:K.In s₁.heap) (hns:s₁.heap.Ns mainGlobals mg) (hb:s₁.heap.Ns builtinsNs mb) (hbb:∀ x:Str,x≠"__name__"→mb x=bootBuiltins x) (hlim:s₁.heap.NoLimit) (hg:s₁.gens=#[])
  (ha:s₁.heap.get? a=some { cls:=.type "list",data:=.seq vs.toArray }) (hi:IntsAre vs ns) (hl:ns.length≤sizeLine) (hr:Room k callerA)
  (F:∀ base:Heap,K.In base→base.Ns mainGlobals mg→FnOk P w K mg base CX k fa fd [x] sp) (hbind:∀ (s:Shared) (u:Value),BindsTo s fd ⟨[u],[]⟩ [(x,u)])
  (hsp:∀ H:Hp,Only H→SqL K H a (ns.map V.int)→sp [.ref a] H (fun v _=>v=.bl true) fun _ _ _=>False)
  (hCX:∀ H e s',CX [] H s₁ (fun _ _ _=>False) e s'→False) :
  codeAny (model P w) callerA (.call (.ref fa) ⟨[.ref a],[]⟩) (fun r s'=>r=.ok (.ret (.bool true))∧OldK s₁.heap s'.heap∧s'.os=s₁.os∧AllBare s'.gens) s₁:=by
 have rv:=vals_ints hi
 have lenV:=hi.length
 have core:∀ H:Hp,Only H→SqL K H a (ns.map V.int)→HOk P w H s₁.heap→(∀ b,H b≠none→b=a)→(H a≠none→K.lookup a=none) →
   codeAny (model P w) callerA (.call (.ref fa) ⟨[.ref a],[]⟩) (fun r s'=>r=.ok (.ret (.bool true))∧OldK s₁.heap s'.heap∧s'.os=s₁.os∧AllBare s'.gens) s₁:=by
  intro H hO hS hok hA hK
  have base_of:∀ {b:Addr} {o:Obj},s₁.heap.get? b=some o→H b=none→(hidT s₁.heap H).get? b=some o:=fun e n=>hidT_get e n
  have noA:∀ {b:Addr} {o:Obj} {es:Array DictEntry} {ep:Nat},s₁.heap.get? b=some o→o.data=.dict es ep→H b=none:=fun {b o es ep} e d=>by
   cases q:H b with
   | none=>rfl
   | some u =>
    have e':b=a:=hA b (by rw [q]; simp)
    subst e'
    rw [ha] at e; cases e
    have d':Data.seq vs.toArray _=Data.dict es ep:=d
    cases d'
  have nsK:∀ {b:Addr} {m:Str→Option Value},s₁.heap.Ns b m→(hidT s₁.heap H).Ns b m:=fun {b m} ⟨o,es,ep,e,d,r⟩=>⟨o,es,ep,base_of e (noA e d),d,r⟩
  have hKb:K.In (hidT s₁.heap H):=fun b o e=>base_of (KX b o e) (by
   cases q:H b with
   | none=>rfl
   | some u =>
    have e':b=a:=hA b (by rw [q]; simp)
    subst e'
    rw [hK (by rw [q]; simp)] at e; cases e)
  have hM:Mod K mg (hidT s₁.heap H):=⟨hKb,nsK hns,⟨mb,nsK hb,hbb⟩,let ⟨mc,h1,h2⟩:=hlim; ⟨mc,nsK h1,h2⟩⟩
  have e0:Env0 P w K mg (hidT s₁.heap H) callerA [] s₁ H:=⟨rfl,hM,fun b o e=>of_hidT e,Nat.le_of_eq (hidT_size _ _),trivial,fun b hb=>absurd (show b∈([]:List Addr) from hb) (by simp),hok,.of_eq hg⟩
  refine codeAny_mono ((F _ hKb (nsK hns)).run callerA [] s₁ H ⟨[.ref a],[]⟩ [.ref a] [.ref a] _ _ hr e0 (hbind s₁ (.ref a)) (.cons rfl .nil) (hsp H hO hS)) fun r s' h=>?_
  cases r with
  | error e=>exact (hCX H e s' h).elim
  | ok fl =>
   cases fl with
   | next=>exact False.elim h
   | brk=>exact False.elim h
   | cont=>exact False.elim h
   | ret u =>
    obtain ⟨v,H',os,bare,un,hok',r',q⟩:=h
    have q':v=.bl true:=q
    subst q'
    obtain rfl:u=Value.bool true:=r'
    refine ⟨rfl,OldK.of_keep fun b o e=>?_,os,bare⟩
    cases q:H b with
    | none=>exact un.keep b o e q (by intro z; exact absurd (show b∈([]:List Addr) from z) (by simp)) (by simp)
    | some u =>
     rcases hO b with z | ⟨ob,xs,z⟩
     ·rw [q] at z; cases z
     ·have z2:=un.frzs b ob _ z
      obtain ⟨e1,_⟩:=hok b _ z
      obtain ⟨e2,_⟩:=hok' b _ z2
      rw [e] at e1; cases e1
      exact e2
 cases hk:K.lookup a with
 | some o =>
  have e:=KX a o hk
  rw [ha] at e
  cases e
  refine core (fun _=>none) (fun _=>.inl rfl) (.inr ⟨_,vs.toArray,_,hk,rfl,rfl,rfl,by rw [List.size_toArray,lenV]; exact hl,by simpa using rv⟩) (fun b u z=>by have z':(none:Option HO)=some u:=z; cases z') (fun b z=>absurd rfl z) fun z=>absurd rfl z
 | none =>
  refine core (fun b=>if b=a then some (.frz { cls:=.type "list",data:=.seq vs.toArray } (.lst (ns.map V.int))) else none) (fun b=>?_) (.inl (.inr ⟨{ cls:=.type "list",data:=.seq vs.toArray },if_pos rfl⟩)) (fun b u z=>?_) (fun b z=>?_) fun _=>hk
  ·by_cases hb:b=a
   ·exact .inr ⟨_,_,if_pos hb⟩
   ·exact .inl (if_neg hb)
  ·by_cases hb:b=a
   ·have z':=(if_pos hb).symm.trans z
    cases z'
    subst hb
    exact ⟨ha,by rw [List.length_map]; exact hl,vs,_,rv,ha⟩
   ·have z':=(if_neg hb).symm.trans z
    cases z'
  ·by_cases hb:b=a
   ·exact hb
   ·exact absurd (if_neg hb) z
end L2
namespace L2
open PySem PySem.Spec PyProof.Rows
theorem walk_of {l:PySem.W.OpenLaw} {n k:Nat} {q:Program} {loose:List Str} {XP:(Str→Option Value)→Heap→Prop} {YP:World→Heap→Prop} {d:DefRec} {K:Params→PySem.W.Frag} {CX:World→CXT} {sp:World→Sp} {x:Str}
  (hn:l.most=some n) (hn2:n≤sizeLine) (hdf:d.params.defaults=[]) (hr:Room k callerA)
  (hY:∀ (w:World) (h:Heap),YP w h→(K w.params).In h)
  (F:∀ (w:World) (mg:Str→Option Value) (fa:Addr) (h:Heap),(K w.params).In h→h.Ns mainGlobals mg→mg d.name=some (.ref fa) →
   ∃ fd:FuncData,(∀ (s:Shared) (u:Value),BindsTo s fd ⟨[u],[]⟩ [(x,u)]) ∧
    ∀ base:Heap,(K w.params).In base→base.Ns mainGlobals mg→FnOk l.prog w (K w.params) mg base (CX w) k fa fd [x] (sp w))
  (hsp:∀ (w:World) (H:Hp) (a:Addr) (ns:List Int),ns.length≤n→Only H→SqL (K w.params) H a (ns.map V.int)→sp w [.ref a] H (fun v _=>v=.bl true) fun _ _ _=>False)
  (hCX:∀ (w:World) (H:Hp) (s:Shared) (e:Value) (s':Shared),CX w [] H s (fun _ _ _=>False) e s'→False) :
  PySem.W.WalkO q loose XP YP l.row.toRowW d [] (fun f vs=>PySem.call f vs):=by
 refine Att.attach_call hn hdf fun w s₀ s₁ mg mb fa o pm cd doc a vs ns G Y ho hd hcd hmg hobj hints hlen hg=>?_
 have KX:=hY w _ Y
 obtain ⟨fd,hb,hF⟩:=F w mg fa _ KX G.T.g hmg
 exact law_call KX G.T.g G.T.b G.T.builtins G.T.nolimit hg hobj hints (Nat.le_trans hlen hn2) hr hF hb (fun H hO hS=>hsp w H a ns hlen hO hS) fun H e s'=>hCX w H s₁ e s'
end L2
namespace L2
open PySem PySem.Spec PyProof.Rows
noncomputable def inClass (s:Stmt) (j:Nat):Stmt:=match s with
 | .ClassDef _ _ _ body _ _ _ _ _ _ _=>body.getD j (.Pass ⟨0,0,0,0⟩)
 | _=>.Pass ⟨0,0,0,0⟩
noncomputable def defArgs (s:Stmt):Arguments:=match s with
 | .FunctionDef _ a _ _ _ _ _ _ _ _=>a
 | _=>{ posonlyargs:=[],args:=[],vararg:=none,kwonlyargs:=[],kw_defaults:=[],kwarg:=none,defaults:=[] }
noncomputable def defBody (s:Stmt):List Stmt:=match s with
 | .FunctionDef _ _ b _ _ _ _ _ _ _=>b
 | _=>[]
noncomputable def defScope (s:Stmt):Scope:=match s with
 | .FunctionDef _ _ _ _ _ _ sc _ _ _=>sc
 | _=>{ kind:=.function,names:=[],isGenerator:=false,isCoroutine:=false }
noncomputable abbrev CX0:CXT:=fun _ _ _ _ _ _=>False
noncomputable abbrev E0:XK:=fun _ _ _=>False
theorem pass0 {X:Cx}:Passes CX0 X E0:=fun _ _ _ _ _ _ _ h=>h.elim
structure Fun (K:PySem.W.Frag) (x qual:Str) (st:Stmt) (f:Addr) (fd:FuncData):Prop where
 ex:∃ (oc:Value) (od:Option Addr) (kV doc pm:Value) (an:Option Addr) (cdv ct:Value) (osl:Array (Option Value)),
  fd=PySem.W.fnOf x qual (defArgs st) (defBody st) (defScope st) .none kV doc pm an cdv ct∧K.lookup f=some ⟨oc,od,.func fd,osl⟩∧PySem.W.codeIn K cdv qual=true
 kp:PySem.W.keepIn K (.ref f)=true
section
variable {P:Program} {w:World} {K:PySem.W.Frag} {mg:Str→Option Value} {base:Heap}
theorem Fun.ok {x qual:Str} {st:Stmt} {f:Addr} {fd:FuncData} {N ps:List Str} {k:Nat} {sp:Sp} (F:Fun K x qual st f fd) (S:FnScope N ps (defScope st)) (len:∀ vs H Q E,sp vs H Q E→vs.length=ps.length)
  (hbody:∀ (cdv:Value) (A:Around) (outer:List Env) (s:Shared) (H:Hp) (vs:List V) (Q:VK) (E:XK),Room k (A.deeper (envOfC qual (defScope st) s.heap.objs.size f cdv))→sp vs H Q E →
   ∃ t,PSs (cxOf CX0 P w K mg base N qual (defScope st) f cdv A outer s H E).nox (defBody st) t∧t { nx:=fun _ H'=>Q .non H',rt:=Q } (start N vs) H):FnOk P w K mg base CX0 (k + 1) f fd ps sp:=by
 obtain ⟨oc,od,kV,doc,pm,an,cdv,ct,osl,rfl,lk,hcd⟩:=F.ex
 refine fn_of lk hcd S len fun A outer s H vs Q E hr hsp=>?_
 obtain ⟨t,h,q⟩:=hbody cdv A outer s H vs Q E hr hsp
 exact ⟨t,h.nox,q⟩
theorem Fun.binds {x qual:Str} {st:Stmt} {f:Addr} {fd:FuncData} {ps:List Str} (F:Fun K x qual st f fd)
  (h:∀ (kV doc pm:Value) (an:Option Addr) (cdv ct:Value) (us:List Value),us.length=ps.length→bindArgs (PySem.W.fnOf x qual (defArgs st) (defBody st) (defScope st) .none kV doc pm an cdv ct) ⟨us,[]⟩=pure (ps.zip us)):Binds K fd ps []:=by
 obtain ⟨oc,od,kV,doc,pm,an,cdv,ct,osl,rfl,lk,hcd⟩:=F.ex
 exact .all (h kV doc pm an cdv ct)
theorem fun_mk {x qual:Str} {st:Stmt} {f:Addr} {oc:Value} {od an:Option Addr} {osl:Array (Option Value)} {kV doc pm cdv ct:Value} (l:K.lookup f=some ⟨oc,od,.func (PySem.W.fnOf x qual (defArgs st) (defBody st) (defScope st) .none kV doc pm an cdv ct),osl⟩)
  (c:PySem.W.codeIn K cdv qual=true) (k:PySem.W.keepIn K (.ref f)=true):Fun K x qual st f (PySem.W.fnOf x qual (defArgs st) (defBody st) (defScope st) .none kV doc pm an cdv ct):=⟨⟨oc,od,kV,doc,pm,an,cdv,ct,osl,rfl,l,c⟩,k⟩
end
theorem small1000 {n:Nat} (h:n≤1000):n < sizeLine:=Nat.lt_of_le_of_lt h (by decide)
section
variable {X:Cx}
theorem pv (i:Nat) {x:Str} {pos:Pos} (hN:X.N[i]?=some x:=by rfl) (hv:Vis X.env.scope x:=by first | exact Or.inl rfl | exact Or.inr (Or.inl rfl) | exact Or.inr (Or.inr rfl)) (hd:(x == ("__debug__":Str))=false:=by decide)
  (hcd:(x == ("__classdict__":Str))=false:=by decide):PE X (.Name x pos) (tVar i):=pe_var hN hv hd hcd
end
theorem iteF {A B:Prop} (h:B):if false=true then A else B:=by
 rw [if_neg Bool.false_ne_true]
 exact h
theorem iteT {A B:Prop} (h:A):if true=true then A else B:=by
 rw [if_pos rfl]
 exact h
theorem ite2 {c A B:Prop} [Decidable c] (h1:c→A) (h2:¬ c→B):if c then A else B:=by
 by_cases h:c
 ·rw [if_pos h]
  exact h1 h
 ·rw [if_neg h]
  exact h2 h
theorem iteNS {c A B:Prop} [Decidable c] (hc:c) (h:B):if (!decide c)=true then A else B:=by
 rw [decide_eq_true hc]
 exact iteF h
noncomputable def Same (H H':Hp):Prop:=∀ b o,H b=some o→H' b=some o
theorem Same.refl (H:Hp):Same H H:=fun _ _ h=>h
theorem Same.trans {H H1 H2:Hp} (a:Same H H1) (b:Same H1 H2):Same H H2:=fun c o h=>b c o (a c o h)
theorem Same.free {H H':Hp} (e:Same H H') {l:Addr} (h:H' l=Option.none):H l=Option.none:=by
 cases q:H l with
 | none=>rfl
 | some o =>
  rw [e l o q] at h
  cases h
theorem Same.seq {K:PySem.W.Frag} {H H':Hp} {a:Addr} {xs:List V} (e:Same H H') (h:SqL K H a xs):SqL K H' a xs:=by
 rcases h with (h | ⟨o,h⟩) | h
 ·exact .inl (.inl (e _ _ h))
 ·exact .inl (.inr ⟨o,e _ _ h⟩)
 ·exact .inr h
end L2
namespace L2
open PySem PySem.Spec PyProof.Rows
section
variable {X:Cx}
theorem op_mulB:OpR X (binaryOp .Mult) (rI IntMulOk fun i j=>.int (i * j)):=opI fun _ _ _ _ _ _ _ hc q=>mul_int q hc
theorem log2_lt_of {n k:Nat} (hk:0 < k) (h:n < 2 ^ k):n.log2 < k:=by
 rcases Nat.eq_zero_or_pos n with h0 | hp
 ·rw [h0]; simpa using hk
 ·exact (Nat.log2_lt (Nat.ne_of_gt hp)).mpr h
theorem mulOk_of {a b:Int} (ha:a.natAbs < 2 ^ 4000) (hb:b.natAbs < 2 ^ 4000):IntMulOk a b:=by
 have l:∀ {z:Int},z.natAbs < 2 ^ 4000→Builtin.Int.intBits z≤4000:=by
  intro z hz
  unfold Builtin.Int.intBits
  split
  ·exact Nat.zero_le _
  ·have:=log2_lt_of (by decide:0 < 4000) hz
   lia
 have h1:=l ha
 have h2:=l hb
 unfold IntMulOk
 have:Builtin.Int.intTooBig ((Builtin.Int.intBits a:Int) + (Builtin.Int.intBits b:Int))=false:=by
  unfold Builtin.Int.intTooBig bitsLine
  exact decide_eq_false (by lia)
 rw [this]; simp
noncomputable def CDivB (i j:Int):Prop:=0 < j∧j.natAbs < 2 ^ 4000
theorem op_fdivB:OpR X (binaryOp .FloorDiv) (rI CDivB fun i j=>.int (i / j)):=opI fun i j _ _ _ _ _ hc q=>by
 have h1:(0:Int) < j:=hc.1
 have h2:=log2_lt_of (by decide:0 < 4000) hc.2
 exact floordiv_int (by lia) (by rw [Int.fdiv_eq_ediv_of_nonneg i (by lia)]; exact q) (.inl (PyProof.noPylong_of_log2 (by lia)))
theorem call_isinst:CallR X (.builtin "isinstance") (fun xs H Q=>∃ x T t b,xs=[x,.ty T]∧TyOf X.K H x t∧PySem.W.kitOne X.K t (.type T)=some b∧Q (.bl b) H):=by
 intro pins s σ H xs us Q I r h
 obtain ⟨x,T,t,b,rfl,ty,e,q⟩:=h
 obtain ⟨u,u2,rfl,rx,r2⟩:=vals2 r
 obtain rfl:u2=Value.type T:=r2
 exact isinst_ok I rx ty e fun tk=>⟨.bl b,H,I.tok tk,rfl,q⟩
theorem kit_int_int (K:PySem.W.Frag):PySem.W.kitOne K (.type "int") (.type "int")=some true:=by with_unfolding_all rfl
theorem kit_int_str (K:PySem.W.Frag):PySem.W.kitOne K (.type "int") (.type "str")=some false:=by with_unfolding_all rfl
theorem kit_int_bool (K:PySem.W.Frag):PySem.W.kitOne K (.type "int") (.type "bool")=some false:=by with_unfolding_all rfl
theorem kit_int_tuple (K:PySem.W.Frag):PySem.W.kitOne K (.type "int") (.type "tuple")=some false:=by with_unfolding_all rfl
theorem kit_str_str (K:PySem.W.Frag):PySem.W.kitOne K (.type "str") (.type "str")=some true:=by with_unfolding_all rfl
theorem kit_str_tuple (K:PySem.W.Frag):PySem.W.kitOne K (.type "str") (.type "tuple")=some false:=by with_unfolding_all rfl
theorem kit_tup_int (K:PySem.W.Frag):PySem.W.kitOne K (.type "tuple") (.type "int")=some false:=by with_unfolding_all rfl
theorem kit_tup_tup (K:PySem.W.Frag):PySem.W.kitOne K (.type "tuple") (.type "tuple")=some true:=by with_unfolding_all rfl
theorem call_sum (hc:X.calm=true):CallR X (.builtin "sum") (fun xs H Q=>∃ (p:Addr) (ns:List Int),xs=[.ref p]∧SqL X.K H p (ns.map V.int)∧Q (.int ns.sum) H):=by
 intro pins s σ H xs us Q I r h
 obtain ⟨p,ns,rfl,hS,q⟩:=h
 obtain ⟨u,rfl,rx⟩:=vals1 r
 obtain rfl:u=Value.ref p:=rx
 obtain ⟨its,rv,pl,hz⟩:=I.list hS
 have hi:=intsAre_of rv
 obtain ⟨xs,e⟩:=hi.allInts.items
 have e2:(xs.toList.map (·.1))=ns:=by
  rw [← nums_intItems,← e]
  exact hi.numsOf
 refine sum_intListG (xs:=xs) (I.ok.hd hc) (by rw [← e]; exact pl.isList) fun h' tk t' hk=>⟨.int ns.sum,H,I.kept hk,⟨t',?_⟩,q⟩
 rw [preSum_eq,List.take_of_length_le (by simp),e2]
noncomputable def tRev (K:PySem.W.Frag) (te:TE):TE:=fun σ H Q=>te σ H fun x H1=>∃ a xs,x=.ref a∧SqL K H1 a xs∧∀ p,H1 p=none→Q (.ref p) (upd H1 p (.lst xs.reverse))
theorem pe_rev {e:Expr} {te:TE} {j} {p2 p3 p4 pos:Pos} (he:PE X e te):PE X (.Subscript e (.Slice none none (some (.UnaryOp .USub (.Constant (.int 1) j p3) p4)) p2) pos) (tRev X.K te):=by
 intro pins s σ H Q I h
 refine Subscript_ (thn (he pins s σ H _ I h) fun v s1 ⟨x,H1,I1,r1,q1⟩=>?_)
 obtain ⟨a,xs,rfl,hx,q⟩:=q1
 obtain rfl:v=Value.ref a:=r1
 refine wpAny_Slice ?_
 rw [evalPart_none]
 refine wpAny_pure ?_
 refine wpAny_pure ?_
 refine thn (po_some (X:=X) (pe_un un_neg pe_int) pins s1 σ H1 (fun o H'=>o=some (-1)∧H'=H1) I1 ⟨1,rfl,-1,rfl,rfl,rfl⟩) fun vs s2 ⟨o,H2,I2,ip,eo,eH⟩=>?_
 subst eo eH
 obtain ⟨its,r,ht,hz⟩:=I2.list hx
 have hlen:=r.length
 have I4:Inv X pins σ H2 { s2 with heap:=s2.heap.push { cls:=.type "slice",data:=.fields #[.none,.none,vs] } }:=I2.kept (t':=s2.toks) fun b ob q=>Heap.get?_push_of_some _ q
 have ht4:PlainL (s2.heap.push { cls:=.type "slice",data:=.fields #[.none,.none,vs] }) a its.toArray:=by
  obtain ⟨o,n,e1,e2⟩:=ht
  exact ⟨o,n,Heap.get?_push_of_some _ e1,e2⟩
 refine tail_any (ops:=[.ref a,.ref s2.heap.objs.size]) ht4.isList.typeIs slot_list_getitem.lookup ?_ (by with_unfolding_all rfl)
 refine wpAny_getItem_list_slice ht4.isList (Heap.IsSliceOf.new ..) .none .none ip (by simp) ?_ (by rw [List.size_toArray] <;> lia)
 rw [PySem.W.krv_pick]
 refine ⟨.ref _,_,I4.laid (t':=s2.toks) (o:=.lst xs.reverse) (fun b ob q=>Heap.get?_push_of_some _ q) (Nat.le_refl _) ?_,rfl,q _ (I4.hok.fresh (Nat.le_refl _))⟩
 exact ⟨by rw [List.length_reverse]; exact hz,its.reverse,0,r.reverse,Heap.get?_push_size _ rfl⟩
noncomputable def TopDict (w:World) (K:PySem.W.Frag) (a:Addr):Prop:=∃ es n,K.lookup a=some ⟨.type "dict",none,.dict es n,#[]⟩∧PySem.W.KeysLit w.params es.toList
noncomputable def rIxD (w:World) (K:PySem.W.Frag):R2:=fun x y H Q=>∃ a z v u,x=.ref a∧y=.str z∧TopDict w K a∧PySem.W.nsIn K a z=some (some u)∧RelV v u∧Q v H
theorem ix_top:IxR X (rIxD X.w X.K):=by
 intro value slice pins s σ H x y v u Q I rx ry h hs
 obtain ⟨a,z,v',u',rfl,rfl,⟨es,n,hl,hk⟩,e,r,q⟩:=h
 obtain rfl:v=Value.ref a:=rx
 obtain ⟨t,rfl⟩:=ry
 obtain ⟨m,F⟩:=I.fr
 exact PySem.W.topItem_K F I.mod.kin hl hk e ⟨v',H,I.tok _,r,q⟩ hs
structure Callee (P:Program) (w:World) (K:PySem.W.Frag) (mg:Str→Option Value) (base:Heap) (CX:CXT) (k:Nat) (f:Addr) (sp:Sp):Prop where
 ok:∃ fd ps,FnOk P w K mg base CX k f fd ps sp∧Binds K fd ps []
 kp:PySem.W.keepIn K (.ref f)=true
noncomputable def tCallV (Fam:Addr→Sp→Prop) (E:XK) (tf:TE) (t:TA):TE:=fun σ H Q=>tf σ H fun x H1=>∃ f sp,x=.ref f∧Fam f sp∧t σ H1 fun vs H2=>sp vs H2 Q E
theorem pe_callV {CX:CXT} {k:Nat} {Fam:Addr→Sp→Prop} {E:XK} {x:Str} {p pos:Pos} {e:Expr} {es:List Expr} {tf:TE} {t:TA} (hF:∀ f sp,Fam f sp→Callee X.prog X.w X.K X.mg X.base CX k f sp) (hr:Room k X.A) (hx:Passes CX X E) (hf:PE X (.Name x p) tf) (ha:PA X (e :: es) t)
  (he:starEach (e :: es) X.env=(false,eval e X.env) :: starEach es X.env:=by rfl) (hpl:(backTo pos (starEach es X.env)).any (·.1)=false:=by rfl) :
  PE X (.Call (.Name x p) (e :: es) [] pos) (tCallV Fam E tf t):=by
 intro pins s σ H Q I h
 refine wpAny_Call_Name_kw (thn (hf pins s σ H _ I h) fun u s1 ⟨y,H1,I1,r1,f,sp,ey,fam,q⟩=>?_)
 subst ey
 obtain rfl:u=Value.ref f:=r1
 obtain ⟨⟨fd,ps,F,hb⟩,hk⟩:=hF f sp fam
 refine PySem.W.callWith_K (h₀:=X.base) I.ok.mod.kin hk (thn (ha pos pins s1 σ H1 _ I1 q) fun us s2 ⟨vs,H2,I2,r,q2⟩=>⟨I2.kIn,?_⟩) he hpl
 exact run_fn (dvs:=[]) (ds:=[]) F hr hb .nil hx I2 r (by rw [List.append_nil]; exact q2)
end
end L2
namespace L2
open PySem PySem.Spec PyProof.Rows
theorem bt_len:bootBuiltins "len"=some (.builtin "len"):=by decide +kernel
theorem bt_sum:bootBuiltins "sum"=some (.builtin "sum"):=by decide +kernel
theorem bt_isinstance:bootBuiltins "isinstance"=some (.builtin "isinstance"):=by decide +kernel
theorem bt_int:bootBuiltins "int"=some (.type "int"):=by decide +kernel
theorem bt_str:bootBuiltins "str"=some (.type "str"):=by decide +kernel
theorem bt_bool:bootBuiltins "bool"=some (.type "bool"):=by decide +kernel
theorem bt_tuple:bootBuiltins "tuple"=some (.type "tuple"):=by decide +kernel
theorem bt_list:bootBuiltins "list"=some (.type "list"):=by decide +kernel
structure Def (P:Program) (w:World) (K:PySem.W.Frag) (mg:Str→Option Value) (base:Heap) (CX:CXT) (k:Nat) (x:Str) (sp:Sp):Prop where
 ex:∃ f fd ps,FnOk P w K mg base CX k f fd ps sp∧Binds K fd ps []∧mg x=some (.ref f)∧PySem.W.keepIn K (.ref f)=true
section
variable {X:Cx} {CX:CXT} {k:Nat} {sp:Sp} {x:Str} {p pos:Pos} {e:Expr} {es:List Expr} {t:TA}
theorem pe_def (G:Def X.prog X.w X.K X.mg X.base CX0 k x sp) (hr:Room k X.A) (ha:PA X (e :: es) t) (hg:Gl X x:=by rfl) (hdb:(x == ("__debug__":Str))=false:=by decide)
  (he:starEach (e :: es) X.env=(false,eval e X.env) :: starEach es X.env:=by rfl) (hpl:(backTo pos (starEach es X.env)).any (·.1)=false:=by rfl) :
  PE X (.Call (.Name x p) (e :: es) [] pos) (tCall sp [] E0 t):=by
 obtain ⟨f,fd,ps,a,b,c,d⟩:=G.ex
 exact pe_call a hr hg c d b .nil pass0 ha hdb he hpl
noncomputable def rIsin (K:PySem.W.Frag):List V→Hp→VK→Prop:=fun xs H Q=>match xs with
 | [x,.ty T]=>∃ t b,TyOf K H x t∧PySem.W.kitOne K t (.type T)=some b∧Q (.bl b) H
 | _=>False
theorem call_isin:CallR X (.builtin "isinstance") (rIsin X.K):=by
 intro pins s σ H xs us Q I r h
 unfold rIsin at h
 split at h
 ·obtain ⟨t,b,ty,e,q⟩:=h
  exact call_isinst pins s σ H _ us Q I r ⟨_,_,t,b,rfl,ty,e,q⟩
 ·exact h.elim
theorem pe_isin {T:Str} {TT:String} {a:Expr} {ta:TE} {p2:Pos} (hm:X.mg "isinstance"=none) (hT:X.mg T=none) (hv:bootBuiltins T=some (.type TT)) (ha:PE X a ta) (hg:Gl X "isinstance":=by rfl) (hg2:Gl X T:=by rfl) (hn:T≠"__name__":=by decide) (hd:(T == ("__debug__":Str))=false:=by decide)
  (he:starEach [a,.Name T p2] X.env=(false,eval a X.env) :: starEach [.Name T p2] X.env:=by rfl) (hpl:(backTo pos (starEach [.Name T p2] X.env)).any (·.1)=false:=by rfl) (he2:starEach [.Name T p2] X.env=[(false,eval (.Name T p2) X.env)]:=by rfl) :
  PE X (.Call (.Name "isinstance" p) [a,.Name T p2] [] pos) (fun σ H Q=>ta σ H fun x H1=>∃ t b,TyOf X.K H1 x t∧PySem.W.kitOne X.K t (.type TT)=some b∧Q (.bl b) H1) :=
 pe_callB call_isin hg hm bt_isinstance (pa_cons ha (pa_cons (pe_bltn (v:=.ty TT) hg2 hT hv rfl hn hd) pa_nil he2) he) (by decide) (by decide) he hpl
end
end L2
set_option maxHeartbeats 4000000
namespace L2
open PySem PySem.Spec PyProof.Rows
noncomputable def closes (cells:List (Str×Addr)):List (Str×NameKind)→List (Str×Addr)→Option (List (Str×Addr))
 | [],acc=>some acc
 | (n,k) :: r,acc=>if (k == .free)=true then (match cells.lookup n with
  | some a=>closes cells r ((n,a) :: acc)
  | none=>none) else closes cells r acc
theorem closureFor_of {scope:Scope} {env:Env} {cl:List (Str×Addr)} (h:closes env.cells scope.names []=some cl):closureFor scope env=pure cl:=by
 have gen:∀ (l:List (Str×NameKind)) (acc cl:List (Str×Addr)),closes env.cells l acc=some cl →
   (forIn (m:=Sem) l acc fun (x:Str×NameKind) (cs:List (Str×Addr))=>if (x.2 == .free)=true then (do let c ← cellOf env x.1; pure (ForInStep.yield ((x.1,c) :: cs))) else pure (ForInStep.yield cs))=pure cl:=by
  intro l
  induction l with
  | nil=>intro acc cl h; cases h; rfl
  | cons y r ih =>
   intro acc cl h
   obtain ⟨n,k⟩:=y
   unfold closes at h
   rw [List.forIn_cons]
   by_cases hk:(k == .free)=true
   ·rw [if_pos hk] at h
    dsimp only
    rw [if_pos hk]
    cases e:env.cells.lookup n with
    | none=>rw [e] at h; cases h
    | some a =>
     rw [e] at h
     have ec:cellOf env n=pure a:=by unfold cellOf; rw [e]
     rw [ec,pure_bind,pure_bind]
     exact ih _ _ h
   ·rw [if_neg hk] at h
    dsimp only
    rw [if_neg hk,pure_bind]
    exact ih _ _ h
 unfold closureFor
 exact (bind_pure _).trans (gen scope.names [] cl h)
theorem closes_mem {cells:List (Str×Addr)}:∀ {l:List (Str×NameKind)} {acc cl:List (Str×Addr)},closes cells l acc=some cl→(∀ p∈acc,cells.lookup p.1=some p.2)→∀ p∈cl,cells.lookup p.1=some p.2
 | [],acc,cl,h,ha=>by cases h; exact ha
 | (n,k) :: r,acc,cl,h,ha=>by
  unfold closes at h
  split at h
  ·cases e:cells.lookup n with
   | none=>rw [e] at h; cases h
   | some a =>
    rw [e] at h
    refine closes_mem h fun p hp=>?_
    rcases List.mem_cons.mp hp with q | q
    ·subst q; exact e
    ·exact ha p q
  ·exact closes_mem h ha
theorem closes_has {cells:List (Str×Addr)} {x:Str}:∀ {l:List (Str×NameKind)} {acc cl:List (Str×Addr)},closes cells l acc=some cl→((x,NameKind.free)∈l∨∃ c,(x,c)∈acc)→∃ c,(x,c)∈cl
 | [],acc,cl,h,hx=>by
  cases h
  rcases hx with q | q
  ·cases q
  ·exact q
 | (n,k) :: r,acc,cl,h,hx=>by
  unfold closes at h
  split at h
  ·cases e:cells.lookup n with
   | none=>rw [e] at h; cases h
   | some a =>
    rw [e] at h
    refine closes_has h ?_
    rcases hx with q | ⟨c,q⟩
    ·rcases List.mem_cons.mp q with z | z
     ·cases z; exact .inr ⟨a,List.mem_cons_self⟩
     ·exact .inl z
    ·exact .inr ⟨c,List.mem_cons_of_mem _ q⟩
  ·rename_i hk
   refine closes_has h ?_
   rcases hx with q | q
   ·rcases List.mem_cons.mp q with z | z
    ·cases z; exact absurd rfl hk
    ·exact .inl z
   ·exact .inr q
theorem lookup_of_mem {α:Type} {x:Str} {c:α}:∀ {l:List (Str×α)},(x,c)∈l→∃ d,l.lookup x=some d∧(x,d)∈l
 | (n,a) :: r,h=>by
  rw [List.lookup_cons]
  by_cases e:(x == n)=true
  ·rw [e]
   have e':x=n:=by simpa using e
   exact ⟨a,rfl,by rw [e']; exact List.mem_cons_self⟩
  ·have e2:(x == n)=false:=by simpa using e
   rw [e2]
   rcases List.mem_cons.mp h with z | z
   ·cases z; simp at e
   ·obtain ⟨d,h1,h2⟩:=lookup_of_mem z
    exact ⟨d,h1,List.mem_cons_of_mem _ h2⟩
noncomputable def cxC (X:Cx) (N:List Str) (scope:Scope) (cl:List (Str×Addr)) (C:Addr) (s2:Shared) (H2:Hp) (fp:List Addr):Cx where
 prog:=X.prog
 w:=X.w
 K:=X.K
 mg:=X.mg
 base:=X.base
 A:=X.A
 N:=N
 s₀:=s2
 H₀:=H2
 env:=compEnvC scope cl C X.env
 outer:=X.stack
 stack:=X.stack
 ex:=fp
 fn:=fun _=>false
 calm:=X.calm
 pn:=[]
 xe:=fun _ _=>False
noncomputable def compStart0 (mp:List (Option Nat)) (σ:St):St:=mp.map fun o=>match o with
 | some j=>(σ[j]?).bind id
 | none=>none
structure CompScope (X:Cx) (N:List Str) (mp:List (Option Nat)) (scope:Scope):Prop where
 kind:scope.kind=.function
 nocell:∀ y∈scope.names,y.2≠.cell
 names:∀ y∈scope.names,y.2=.local→scope.names.lookup y.1=some .local
 len:mp.length=N.length
 out:∀ (i j:Nat),mp[i]?=some (some j)→∃ x,N[i]?=some x∧X.N[j]?=some x∧(X.env.scope.names.lookup x=some .cell∨X.env.scope.names.lookup x=some .free)∧scope.names.lookup x=some .free
noncomputable def PTL (X:Cx) (ifs:List Expr) (t:TT):Prop :=
 ∀ (pins:List (Addr×Obj)) (s:Shared) (σ:St) (H:Hp) (Q:Bool→Hp→Prop),Inv X pins σ H s→t σ H Q →
  wpAny (model X.prog X.w) X.A (forIn ifs true fun c r=>if r=true then do let ok ← isTrue c X.env (eval c X.env); pure (ForInStep.yield ok) else pure (ForInStep.yield r)) (TP X pins σ Q) X.xe s
section
variable {prog:Program} {w:World} {A:Around} {R:Result→Shared→Prop} {s:Shared}
theorem compLoop_go {elt target iter:Expr} {ifs:List Expr} {scope:Scope} {pos:Pos} {it acc:Value} {env:Env} (I:Nat→Shared→Prop)
  (turn:∀ n s,I n s→wpAny (model prog w) A (pyNext it) (fun r s₁=>match r with
   | none=>R (.ok .next) s₁
   | some v=>wpAny (model prog w) A (letOwnedTupleGo target it v) (fun _ s1=>wpAny (model prog w) A (assign target env v) (fun _ s₂ =>
     wpAny (model prog w) A (forIn ifs true fun c r=>if r=true then do let ok ← isTrue c env (eval c env); pure (ForInStep.yield ok) else pure (ForInStep.yield r)) (fun ok s₃ =>
      if ok=true then wpAny (model prog w) A (eval elt env) (fun x s₄ =>
       wpAny (model prog w) A (call (.builtin "list.append") [acc,x]) (fun _ s₅=>∃ m,m < n∧I m s₅) (fun _ _=>False) s₄) (fun _ _=>False) s₃
      else ∃ m,m < n∧I m s₃) (fun _ _=>False) s₂) (fun _ _=>False) s1) (fun _ _=>False) s₁) (fun _ _=>False) s)
  (n:Nat) (h:I n s) :
  codeAny (model prog w) A (.compLoop (.ListComp elt [⟨target,iter,ifs,0⟩] scope pos) 0 it acc env) R s:=by
 refine codeAny_loop rfl I (fun n s hI=>?_) n h
 show wpAny _ A ((compTurn (.ListComp elt [⟨target,iter,ifs,0⟩] scope pos) 0 it acc env).onRaise (fun x=>do noteFrame x env; theTreesLotGoes x)) _ _ s
 refine wpAny_noted ?_
 rw [compTurn_list]
 refine wpAny_bind (wpAny_standAt (wpAny_bind (wpAny_mono (turn n s hI) (fun r s₁ h₁=>?_) fun _ _ h'=>h'.elim)))
 cases r with
 | none=>exact wpAny_pure h₁
 | some v =>
  refine wpAny_bind (wpAny_mono h₁ (fun _ s1 h1=>wpAny_bind (wpAny_mono h1 (fun _ s₂ h₂=>wpAny_bind (wpAny_mono h₂ (fun ok s₃ h₃=>?_) fun _ _ h'=>h'.elim)) fun _ _ h'=>h'.elim)) fun _ _ h'=>h'.elim)
  cases ok with
  | false=>exact wpAny_pure ⟨rfl,h₃⟩
  | true =>
   exact wpAny_bind (wpAny_bind (wpAny_mono h₃ (fun x s₄ h₄=>wpAny_bind (wpAny_mono h₄ (fun _ s₅ h₅=>wpAny_pure (wpAny_pure ⟨rfl,h₅⟩)) fun _ _ h'=>h'.elim)) fun _ _ h'=>h'.elim))
end
section
variable {X:Cx}
theorem ptl_nil:PTL X [] (fun _ H Q=>Q true H):=fun pins s σ H Q I h=>wpAny_tests_nil ⟨H,I,h⟩
theorem ptl_one {c:Expr} {t:TT} (h:PT X c t):PTL X [c] t:=fun pins s σ H Q I hq=>wpAny_tests_one (h pins s σ H Q I hq)
theorem comp_inv {pins:List (Addr×Obj)} {σ:St} {H:Hp} {s2:Shared} {N:List Str} {mp:List (Option Nat)} {scope:Scope} {cl:List (Str×Addr)} {fp:List Addr} {h1:Heap} {tk:Nat} (I:Inv X pins σ H s2) (S:CompScope X N mp scope)
  (hcl:closes X.env.cells scope.names []=some cl) (hfp:∀ b∈fp,FpOk X pins H b) (hfo:∀ b∈fp,∃ o,s2.heap.get? b=some o)
  (old:∀ b o,s2.heap.get? b=some o→h1.get? b=some o) (hD:h1.get? s2.heap.objs.size=some { cls:=.type "list",data:=.seq ([]:List Value).toArray }) {m:Str→Option Value} (hC:h1.Ns (s2.heap.objs.size + 1) m) :
  Inv (cxC X N scope cl (s2.heap.objs.size + 1) s2 H fp) [] (compStart0 mp σ) (upd H s2.heap.objs.size (.lst [])) { s2 with heap:=h1,toks:=tk }:=by
 have clm:∀ {x:Str} {c:Addr},cl.lookup x=some c→X.env.cells.lookup x=some c:=fun {x c} e=>closes_mem hcl (fun p z=>absurd z (by simp)) (x,c) (PySem.mem_of_lookup e)
 have hn:H s2.heap.objs.size=none:=I.hok.fresh (Nat.le_refl _)
 have hnC:H (s2.heap.objs.size + 1)=none:=I.hok.fresh (Nat.le_succ _)
 have cellLt:∀ {x:Str} {c:Addr},X.env.cells.lookup x=some c→c < s2.heap.objs.size:=fun {x c} e=>by
  obtain ⟨v,q⟩:=I.cell x c e
  exact q.lt
 have freeOf:∀ x,((relabel scope X.env).names.lookup x=some .cell∨(relabel scope X.env).names.lookup x=some .free)→(x,NameKind.free)∈scope.names:=fun x hx=>by
  have hm:(x,NameKind.cell)∈(relabel scope X.env).names∨(x,NameKind.free)∈(relabel scope X.env).names:=hx.elim (fun z=>.inl (PySem.mem_of_lookup z)) fun z=>.inr (PySem.mem_of_lookup z)
  have conv:∀ k,(x,k)∈(relabel scope X.env).names→(k=.cell∨k=.free)→(x,NameKind.free)∈scope.names:=fun k hm hk=>by
   obtain ⟨⟨n,k'⟩,hy,e⟩:=List.mem_map.mp hm
   dsimp only at e
   split at e
   ·rename_i hc
    simp only [Bool.and_eq_true,beq_iff_eq] at hc
    cases e
    rw [hc.1.1] at hy
    exact hy
   ·cases e
    rcases hk with z | z
    ·subst z; exact absurd rfl (S.nocell _ hy)
    ·subst z; exact hy
  exact hm.elim (fun z=>conv _ z (.inl rfl)) fun z=>conv _ z (.inr rfl)
 have ok:(cxC X N scope cl (s2.heap.objs.size + 1) s2 H fp).Ok:=by
  refine ⟨I.ok.mod,S.kind,I.ok.glob,I.ok.blt,Nat.le_succ _,fun x y c e1 e2=>I.ok.inj x y c (clm e1) (clm e2),fun x hx=>?_,(fun x c z=>nomatch z),I.ok.hd,I.ok.frames,.inl rfl,fun b hb=>⟨?_,fun x c e=>(hfp b hb).2.2.2.2.1 x c (clm e)⟩,I.bs,Nat.le_trans I.ok.bsz I.sz,fun b o e hb=>?_,fun b hb z=>?_,I.stack,I.stkFree⟩
  ·obtain ⟨c,hc⟩:=closes_has hcl (.inl (freeOf x hx))
   obtain ⟨d,hd,_⟩:=lookup_of_mem hc
   exact ⟨d,hd⟩
  ·obtain ⟨o,e⟩:=hfo b hb
   exact Nat.ne_of_lt (Nat.lt_succ_of_lt (Heap.lt_size e))
  ·rcases (hfp b hb).2.2.2.1 with z | z
   ·exact I.ok.noex b o e z
   ·exact absurd (Nat.lt_of_lt_of_le (Heap.lt_size e) (Nat.le_trans I.ok.bsz z)) (Nat.lt_irrefl _)
  ·rcases List.mem_cons.mp (I.stkSub b z) with q | q
   ·exact (hfp b hb).2.1 q
   ·exact (hfp b hb).2.2.1 q
 refine ⟨ok,rfl,I.bare,Un.laid old (Nat.le_refl _) hn,⟨m,hC,fun i x v e1 e2 e3=>?_⟩,fun x c e=>?_,?_,fun x c e=>?_,(fun p hp=>nomatch hp),?_,?_⟩
 ·
  unfold compStart0 at e2
  rw [List.getElem?_map] at e2
  cases em:mp[i]? with
  | none=>rw [em] at e2; cases e2
  | some o =>
   rw [em] at e2
   cases o with
   | none=>cases e2
   | some j =>
    have e2':(σ[j]?).bind id=some v:=Option.some.inj e2
    obtain ⟨x',n1,n2,n3,n4⟩:=S.out i j em
    rw [show (cxC X N scope cl (s2.heap.objs.size + 1) s2 H fp).N[i]?=N[i]? from rfl,n1] at e1
    cases e1
    have sj:σ[j]?=some (some v):=by
     cases ej:σ[j]? with
     | none=>rw [ej] at e2'; cases e2'
     | some o=>rw [ej] at e2'; exact congrArg some e2'
    obtain ⟨m0,hm0,hl⟩:=I.loc
    obtain ⟨u,ru,lk⟩:=hl j x v n2 sj (.inr n3)
    refine ⟨u,ru,.inr ⟨?_,?_⟩⟩
    ·have hf:(x,NameKind.free)∈scope.names:=PySem.mem_of_lookup n4
     have key:∀ l:List (Str×NameKind),l.lookup x=some .free→((l.map fun (n,k)=>if (k == NameKind.free && X.env.scope.kind == .function && X.env.kindOf n == some .cell) then (n,NameKind.cell) else (n,k)).lookup x=some .cell ∨
       (l.map fun (n,k)=>if (k == NameKind.free && X.env.scope.kind == .function && X.env.kindOf n == some .cell) then (n,NameKind.cell) else (n,k)).lookup x=some .free):=by
      intro l
      induction l with
      | nil=>intro z; cases z
      | cons y r ih =>
       obtain ⟨n,k⟩:=y
       intro z
       rw [List.lookup_cons] at z
       rw [List.map_cons]
       dsimp only
       by_cases en:(x == n)=true
       ·rw [en] at z
        dsimp only at z
        cases z
        split
        ·exact .inl (by rw [List.lookup_cons,en])
        ·exact .inr (by rw [List.lookup_cons,en])
       ·have en2:(x == n)=false:=by simpa using en
        rw [en2] at z
        dsimp only at z
        split
        ·rw [List.lookup_cons,en2]; exact ih z
        ·rw [List.lookup_cons,en2]; exact ih z
     exact key scope.names n4
    ·have hf:(x,NameKind.free)∈scope.names:=PySem.mem_of_lookup n4
     obtain ⟨c,hc⟩:=closes_has hcl (.inl hf)
     obtain ⟨d,hd,_⟩:=lookup_of_mem hc
     rcases lk with ⟨k1,_⟩ | ⟨_,c',hc',z⟩
     ·have k1':X.env.scope.names.lookup x=some .local:=k1
      rcases n3 with z | z <;> (rw [k1'] at z; cases z)
     ·have e:=clm hd
      rw [hc'] at e
      have e3:c'=d:=Option.some.inj e
      obtain ⟨o,ho,hdt⟩:=z
      rw [e3] at ho
      exact ⟨d,hd,o,old _ _ ho,hdt⟩
 ·obtain ⟨v,o,ho,hdt⟩:=I.cell x c (clm e)
  exact ⟨v,o,old _ _ ho,hdt⟩
 ·show upd H s2.heap.objs.size (.lst []) (s2.heap.objs.size + 1)=none
  rw [upd_ne (Nat.ne_of_gt (Nat.lt_succ_self _))]; exact hnC
 ·show upd H s2.heap.objs.size (.lst []) c=none
  rw [upd_ne (Nat.ne_of_lt (cellLt (clm e)))]
  exact I.freeC x c (clm e)
 ·exact I.hok.laid old (Nat.le_refl _) ⟨by show 0≤sizeLine; exact Nat.zero_le _,[],0,.nil,hD⟩
 ·show (compStart0 mp σ).length=N.length
  unfold compStart0
  rw [List.length_map]; exact S.len
noncomputable def tComp (mp:List (Option Nat)) (wi:TI) (g:Addr→Shared→Hp→List Addr→TG) (tt:Addr→Shared→Hp→List Addr→TT) (te:Addr→Shared→Hp→List Addr→TE):TE:=fun σ H Q=>wi σ H fun J H1=>∀ (D:Addr),H1 D=none→∀ (C:Addr) (s2:Shared) (fp:List Addr),
 ∃ W:Nat→Nat→St→Hp→Prop,(∃ m,W 0 m (compStart0 mp σ) (upd H1 D (.lst [])))∧∀ i m σ2 H2,W i m σ2 H2 →
  (J.stop i H2∧Q (.ref D) H2)∨(J.go i H2∧∃ N:St→Hp→Prop,(∀ σ' H',N σ' H'→∃ m',m' < m∧W (i + 1) m' σ' H')∧∀ x H',J.yld i H2 x H'→g C s2 H1 fp x σ2 H' fun σ3 H3=>tt C s2 H1 fp σ3 H3 fun b H4 =>
   if b=true then te C s2 H1 fp σ3 H4 fun y H5=>∃ xs,H5 D=some (.lst xs)∧xs.length < sizeLine∧N σ3 (upd H5 D (.lst (xs++[y]))) else N σ3 H4)
theorem pe_comp {elt iter tg:Expr} {ifs:List Expr} {scope:Scope} {pos:Pos} {N:List Str} {mp:List (Option Nat)} {cl:List (Str×Addr)} {wi:TI} {g:Addr→Shared→Hp→List Addr→TG} {tt:Addr→Shared→Hp→List Addr→TT} {te:Addr→Shared→Hp→List Addr→TE}
  (hc:X.calm=true) (S:CompScope X N mp scope) (hcl:closes X.env.cells scope.names []=some cl) (hi:PI X tg iter wi)
  (hg:∀ C s2 H2 fp,PG (cxC X N scope cl C s2 H2 fp) tg (g C s2 H2 fp)) (ht:∀ C s2 H2 fp,PTL (cxC X N scope cl C s2 H2 fp) ifs (tt C s2 H2 fp)) (he:∀ C s2 H2 fp,PE (cxC X N scope cl C s2 H2 fp) elt (te C s2 H2 fp))
  (hs:∀ x,foldedSetIterable iter X.env x=pure x:=by intro _; rfl) :
  PE X (.ListComp elt [⟨tg,iter,ifs,0⟩] scope pos) (tComp mp wi g tt te):=by
 intro pins s σ H Q I h
 rw [eval_ListComp]
 refine wpAny_comprehension_free (use:=none) rfl hs (closureFor_of hcl) S.kind S.names (thn (hi pins s σ H _ I h) fun v s1 h1=>thn h1 fun itv s2 h2=>?_)
 obtain ⟨it,fp,tn,J,H2,e,I2,T,st2,f2,h3⟩:=h2
 subst e
 refine wpAny_newObj_type (wpAny_newFunctionEnv S.nocell (by intro y hy; simp at hy) (fun h₁ hns₁ hsb₁=>?_) S.kind)
 dsimp only at hns₁ hsb₁ ⊢
 have hn2:H2 s2.heap.objs.size=none:=I2.hok.fresh (Nat.le_refl _)
 generalize hH2:s2.heap.push { cls:=.type "list",dict:=none,data:=.seq ([]:List Value).toArray }=G2 at hns₁ hsb₁ ⊢
 have hC:G2.objs.size=s2.heap.objs.size + 1:=by rw [← hH2,Heap.size_push]
 have old:∀ b o,s2.heap.get? b=some o→h₁.get? b=some o:=fun b o e=>hsb₁.extBut b o (by rw [hC]; exact Nat.ne_of_lt (Nat.lt_succ_of_lt (Heap.lt_size e))) (Heap.get?_push_of_some _ (hH2 ▸ Heap.get?_push_of_some _ e))
 have hD1:h₁.get? s2.heap.objs.size=some { cls:=.type "list",data:=.seq ([]:List Value).toArray }:=hsb₁.extBut _ _ (by rw [hC]; exact Nat.ne_of_lt (Nat.lt_succ_self _)) (Heap.get?_push_of_some _ (hH2 ▸ Heap.get?_push_size _ rfl))
 rw [hC] at hns₁
 obtain ⟨W,⟨m0,w0⟩,turn⟩:=h3 s2.heap.objs.size hn2 (s2.heap.objs.size + 1) s2 fp
 have I4:=comp_inv (tk:=s2.toks + ([]:List (Str×Value)).length) I2 S hcl f2 (fun b hb=>let ⟨o,e,_⟩:=T.obj _ _ st2 b hb; ⟨o,e⟩) old hD1 hns₁
 have st4:tn 0 h₁:=T.keep _ _ _ st2 fun b hb o e=>old b o e
 have stat:∀ {pl:List (Addr×Obj)} {H':Hp},(∀ b∈fp,H' b=none)→(∀ p∈pl,p.1 ∉ fp)→∀ b∈fp,FpOk (cxC X N scope cl (s2.heap.objs.size + 1) s2 H2 fp) pl H' b:=fun {pl H'} hn hp b hb =>
  ⟨hn b hb,(I4.ok.exf b hb).1,I4.ok.exfs b hb,.inl hb,(I4.ok.exf b hb).2,fun p z q=>hp p (by simpa [cxC] using z) (by rw [q]; exact hb)⟩
 have fr0:∀ b∈fp,(upd H2 s2.heap.objs.size (.lst [])) b=none:=fun b hb=>by
  obtain ⟨o,e,_⟩:=T.obj _ _ st2 b hb
  rw [upd_ne (Nat.ne_of_lt (Heap.lt_size e))]
  exact (f2 b hb).1
 have envEq:(newEnv scope G2.objs.size X.env.globals cl X.env.qual none .none (some X.env) X.env.builtins)=(newEnv scope (s2.heap.objs.size + 1) X.env.globals cl X.env.qual none .none (some X.env) X.env.builtins):=by rw [hC]
 have fin:∀ {σ':St} {H':Hp} {s':Shared},Inv (cxC X N scope cl (s2.heap.objs.size + 1) s2 H2 fp) [] σ' H' s'→Q (.ref s2.heap.objs.size) H'→compPost (model X.prog X.w) X.A X.xe none (EP X pins σ Q) (.ref s2.heap.objs.size) (s2.heap.objs.size + 1) (.ok .next) s':=by
  intro σ' H' s' J' q
  obtain ⟨m,hm,_⟩:=id J'.loc
  refine ⟨m,hm,fun h'' sb=>?_⟩
  have keepC:∀ b o,b≠s2.heap.objs.size + 1→s'.heap.get? b=some o→h''.get? b=some o:=fun b o hb e=>sb.extBut b o hb e
  have u0:=J'.base
  have neC:∀ b o,s2.heap.get? b=some o→b≠s2.heap.objs.size + 1:=fun b o e=>Nat.ne_of_lt (Nat.lt_succ_of_lt (Heap.lt_size e))
  have u:Un (frs X.stack) fp H2 H' s2.heap h'':=⟨fun b o e n hb hx=>keepC b o (neC b o e) (u0.keep b o e n hb hx),fun b o e n hb hx=>by
    obtain ⟨sl,e1⟩:=u0.slot b o e n hb hx
    exact ⟨sl,keepC b _ (neC b o e) e1⟩,u0.free,fun b o e hx=>by
    obtain ⟨o',e1⟩:=u0.there b o e hx
    exact ⟨o',keepC b o' (neC b o e) e1⟩,u0.tups,u0.frzs,u0.tbls⟩
  have freeC:H' (s2.heap.objs.size + 1)=none:=J'.free
  have hok:HOk X.prog X.w H' h'':=fun b o e=>(J'.hok b o e).stay (fun c v hcc r=>keepC c v (by
    intro z
    rcases hcc with q1 | q1
    ·rw [← q1,z,freeC] at e; cases e
    ·rw [z,freeC] at q1; cases q1) r) (fun _ z=>z) fun _ _ z=>z
  exact ⟨.ref s2.heap.objs.size,H',I2.call' (s':={ s' with heap:=h'' }) J'.os u hok J'.bare fun b hb=>⟨(f2 b hb).2.2.2.1,(f2 b hb).2.1,(f2 b hb).2.2.2.2.1,(f2 b hb).2.2.2.2.2⟩,rfl,q⟩
 have loop:codeAny (model X.prog X.w) X.A (.compLoop (.ListComp elt [⟨tg,iter,ifs,0⟩] scope pos) 0 (.ref it) (.ref s2.heap.objs.size) (compEnvC scope cl (s2.heap.objs.size + 1) X.env))
   (compPost (model X.prog X.w) X.A X.xe none (EP X pins σ Q) (.ref s2.heap.objs.size) (s2.heap.objs.size + 1)) { s2 with heap:=h₁,toks:=s2.toks + ([]:List (Str×Value)).length }:=by
  refine compLoop_go (fun n s'=>∃ i σ' H',Inv (cxC X N scope cl (s2.heap.objs.size + 1) s2 H2 fp) [] σ' H' s'∧tn i s'.heap∧(∀ b∈fp,H' b=none)∧W i n σ' H') ?_ m0 ⟨0,_,_,I4,st4,fr0,w0⟩
  rintro n s3 ⟨i,σ3,H3,I3,st3,fr3,w3⟩
  rcases turn i n σ3 H3 w3 with ⟨stop,qn⟩ | ⟨go,N',hN,step⟩
  ·refine (thn (T.done (cxC X N scope cl (s2.heap.objs.size + 1) s2 H2 fp) rfl rfl rfl hc i [] s3 σ3 H3 (fun _ _=>False) I3 (stat fr3 (fun _ z=>nomatch z)) st3 stop) fun r s4 ⟨hr,I4'⟩=>?_)
   subst hr
   exact fin I4' qn
  ·refine (thn (T.item (cxC X N scope cl (s2.heap.objs.size + 1) s2 H2 fp) rfl rfl rfl hc i [] s3 σ3 H3 (fun _ _=>False) I3 (stat fr3 (fun _ z=>nomatch z)) st3 go) fun r s4 ⟨u,hr,h4⟩=>?_)
   subst hr
   refine thn h4 fun _ s5 ⟨x,H5,I5,r5,y5,st5,fr5⟩=>?_
   have I5':=I5.pinned (pins:=[]) (stat fr5 (fun _ z=>nomatch z)) (T.obj _ _ st5)
   refine (thn (hg (s2.heap.objs.size + 1) s2 H2 fp _ s5 σ3 H5 x u _ I5' r5 (step x H5 y5)) fun _ s6 ⟨σ6,H6,I6,q6⟩=>?_)
   refine (thn (ht (s2.heap.objs.size + 1) s2 H2 fp _ s6 σ6 H6 _ I6 q6) fun b s7 ⟨H7,I7,q7⟩=>?_)
   have again:∀ {σ7:St} {H7:Hp} {s7:Shared},Inv (cxC X N scope cl (s2.heap.objs.size + 1) s2 H2 fp) ([]++pinsAt fp s5.heap) σ7 H7 s7→N' σ7 H7→∃ m,m < n∧∃ i σ' H',Inv (cxC X N scope cl (s2.heap.objs.size + 1) s2 H2 fp) [] σ' H' s7∧tn i s7.heap∧(∀ b∈fp,H' b=none)∧W i m σ' H':=fun {σ7 H7 s7} I7 n7=>by
    obtain ⟨m',hm,w7⟩:=hN σ7 H7 n7
    refine ⟨m',hm,i + 1,σ7,H7,I7.unpinned,T.keep _ _ _ st5 fun b hb o e=>(I7.pin (b,o) (List.mem_append_right _ (List.mem_append_right _ (mem_pinsAt hb e)))).1,fun b hb=>?_,w7⟩
    obtain ⟨o,e,d⟩:=T.obj _ _ st5 b hb
    exact (I7.pin (b,o) (List.mem_append_right _ (List.mem_append_right _ (mem_pinsAt hb e)))).2.1
   cases b with
   | false =>
    rw [if_neg Bool.false_ne_true] at q7 ⊢
    exact again I7 q7
   | true =>
    rw [if_pos rfl] at q7 ⊢
    refine (thn (he (s2.heap.objs.size + 1) s2 H2 fp _ s7 σ6 H7 _ I7 q7) fun y s8 ⟨yv,H8,I8,ry,xs,hx,hz,n8⟩=>?_)
    refine (thn (mt_append (X:=cxC X N scope cl (s2.heap.objs.size + 1) s2 H2 fp) _ s8 σ6 H8 (.ref s2.heap.objs.size) [yv] (.ref s2.heap.objs.size) [y] (fun _ H'=>N' σ6 H') I8 rfl (.cons ry .nil) ⟨_,xs,yv,rfl,rfl,hx,hz,n8⟩) fun _ s9 ⟨_,H9,I9,_,n9⟩=>?_)
    exact again I9 n9
 have goal:=codeAny_compStart_list loop (T.self X.A 0 { s2 with heap:=h₁,toks:=s2.toks + ([]:List (Str×Value)).length } _ _ st4 loop)
 rw [hC]
 exact goal
end
end L2
namespace L2
open PySem PySem.Spec PyProof.Rows
inductive D where
 | non
 | bl (b:Bool)
 | int (i:Int)
 | str (x:Str)
 | tup (l:List D)
 | lst (l:List D)
mutual
noncomputable def Rep (K:PySem.W.Frag) (H:Hp):D→V→Prop
 | .non,v=>v=.non
 | .bl b,v=>v=.bl b
 | .int i,v=>v=.int i
 | .str x,v=>v=.str x
 | .tup ds,v=>∃ p xs,v=.ref p∧SqT K H p xs∧Reps K H ds xs
 | .lst ds,v=>∃ p xs,v=.ref p∧SqL K H p xs∧Reps K H ds xs
noncomputable def Reps (K:PySem.W.Frag) (H:Hp):List D→List V→Prop
 | [],xs=>xs=[]
 | d :: ds,xs=>∃ x r,xs=x :: r∧Rep K H d x∧Reps K H ds r
end
mutual
noncomputable def eqD:D→D→Bool
 | .non,.non=>true
 | .bl a,.bl b=>a == b
 | .bl a,.int b=>(if a then 1 else 0) == b
 | .int a,.bl b=>a == (if b then 1 else 0)
 | .int a,.int b=>a == b
 | .str a,.str b=>a == b
 | .tup a,.tup b=>eqDs a b
 | .lst a,.lst b=>eqDs a b
 | _,_=>false
noncomputable def eqDs:List D→List D→Bool
 | [],[]=>true
 | a :: r,b :: t=>eqD a b && eqDs r t
 | _,_=>false
end
mutual
noncomputable def D.dep:D→Nat
 | .tup l=>deps l + 1
 | .lst l=>deps l + 1
 | _=>0
noncomputable def deps:List D→Nat
 | []=>0
 | d :: r=>max d.dep (deps r)
end
theorem Reps.len {K:PySem.W.Frag} {H:Hp}:∀ {ds:List D} {xs:List V},Reps K H ds xs→ds.length=xs.length
 | [],xs,h=>by
  unfold Reps at h; subst h; rfl
 | d :: ds,xs,h=>by
  unfold Reps at h
  obtain ⟨x,r,rfl,_,h⟩:=h
  rw [List.length_cons,List.length_cons,Reps.len h]
theorem Reps.get {K:PySem.W.Frag} {H:Hp}:∀ {ds:List D} {xs:List V} {j:Nat} {d:D},Reps K H ds xs→ds[j]?=some d→∃ x,xs[j]?=some x∧Rep K H d x
 | [],xs,j,d,h,e=>by cases e
 | a :: ds,xs,j,d,h,e=>by
  unfold Reps at h
  obtain ⟨x,r,rfl,h1,h2⟩:=h
  match j,e with
  | 0,e=>cases e; exact ⟨x,rfl,h1⟩
  | j + 1,e=>exact Reps.get (ds:=ds) (j:=j) h2 (by simpa using e)
mutual
theorem eqD_refl:∀ d:D,eqD d d=true
 | .non=>rfl
 | .bl b=>by unfold eqD; simp
 | .int i=>by unfold eqD; simp
 | .str x=>by unfold eqD; simp
 | .tup l=>by unfold eqD; exact eqDs_refl l
 | .lst l=>by unfold eqD; exact eqDs_refl l
theorem eqDs_refl:∀ l:List D,eqDs l l=true
 | []=>by unfold eqDs; rfl
 | d :: r=>by unfold eqDs; rw [eqD_refl d,eqDs_refl r]; rfl
end
section
variable {X:Cx} {pins:List (Addr×Obj)} {σ:St} {H:Hp} {s:Shared}
theorem Inv.list_tup (I:Inv X pins σ H s) {a:Addr} {xs ys:List V} (h1:SqL X.K H a xs) (h2:SqT X.K H a ys):False:=by
 obtain ⟨its,_,⟨o,n,e1,c1,_⟩,_⟩:=I.list h1
 obtain ⟨its2,_,⟨o2,e2,c2,_⟩,_⟩:=I.tuple h2
 rw [e1] at e2; cases e2
 rw [c1] at c2
 injection c2 with c3
 exact absurd c3 (by decide)
mutual
theorem rep_inj (I:Inv X pins σ H s):∀ (d e:D) (v:V),Rep X.K H d v→Rep X.K H e v→d=e
  | .non,e,v,h1,h2=>by
    unfold Rep at h1; subst h1
    cases e <;> (unfold Rep at h2; first | rfl | (obtain ⟨_,_,z,_⟩:=h2; cases z; done) | cases h2)
  | .bl b,e,v,h1,h2=>by
    unfold Rep at h1; subst h1
    cases e <;> (unfold Rep at h2; first | (obtain ⟨_,_,z,_⟩:=h2; cases z; done) | (cases h2; rfl) | cases h2)
  | .int b,e,v,h1,h2=>by
    unfold Rep at h1; subst h1
    cases e <;> (unfold Rep at h2; first | (obtain ⟨_,_,z,_⟩:=h2; cases z; done) | (cases h2; rfl) | cases h2)
  | .str b,e,v,h1,h2=>by
    unfold Rep at h1; subst h1
    cases e <;> (unfold Rep at h2; first | (obtain ⟨_,_,z,_⟩:=h2; cases z; done) | (cases h2; rfl) | cases h2)
  | .tup l,e,v,h1,h2=>by
    unfold Rep at h1
    obtain ⟨p,xs,rfl,q,r⟩:=h1
    cases e with
    | tup l2 =>
      unfold Rep at h2
      obtain ⟨p2,xs2,z,q2,r2⟩:=h2
      cases z
      rw [I.tuple_inj q2 q] at r2
      rw [reps_inj I l l2 xs r r2]
    | lst l2 =>
      unfold Rep at h2
      obtain ⟨p2,xs2,z,q2,r2⟩:=h2
      cases z
      exact (I.list_tup q2 q).elim
    | _=>unfold Rep at h2; cases h2
  | .lst l,e,v,h1,h2=>by
    unfold Rep at h1
    obtain ⟨p,xs,rfl,q,r⟩:=h1
    cases e with
    | lst l2 =>
      unfold Rep at h2
      obtain ⟨p2,xs2,z,q2,r2⟩:=h2
      cases z
      rw [I.list_inj q2 q] at r2
      rw [reps_inj I l l2 xs r r2]
    | tup l2 =>
      unfold Rep at h2
      obtain ⟨p2,xs2,z,q2,r2⟩:=h2
      cases z
      exact (I.list_tup q q2).elim
    | _=>unfold Rep at h2; cases h2
theorem reps_inj (I:Inv X pins σ H s):∀ (ds es:List D) (xs:List V),Reps X.K H ds xs→Reps X.K H es xs→ds=es
 | [],es,xs,h1,h2=>by
  unfold Reps at h1; subst h1
  cases es with
  | nil=>rfl
  | cons e es=>unfold Reps at h2; obtain ⟨_,_,z,_⟩:=h2; cases z
 | d :: ds,es,xs,h1,h2=>by
  unfold Reps at h1
  obtain ⟨x,r,rfl,a,b⟩:=h1
  cases es with
  | nil=>unfold Reps at h2; cases h2
  | cons e es =>
   unfold Reps at h2
   obtain ⟨x2,r2,z,a2,b2⟩:=h2
   cases z
   rw [rep_inj I d e x a a2,reps_inj I ds es r b b2]
end
theorem eqDs_all:∀ (ds es:List D),ds.length=es.length→(List.range ds.length).all (fun j=>match ds[j]?,es[j]? with
  | some d,some e=>eqD d e
  | _,_=>false)=eqDs ds es
 | [],[],_=>by unfold eqDs; rfl
 | d :: ds,e :: es,h=>by
  rw [List.length_cons,List.range_succ_eq_map,List.all_cons,List.all_map]
  unfold eqDs
  rw [← eqDs_all ds es (by simpa using h)]
  rfl
theorem eqDs_len:∀ (ds es:List D),ds.length≠es.length→eqDs ds es=false
 | [],[],h=>absurd rfl h
 | [],_ :: _,_=>by unfold eqDs; rfl
 | _ :: _,[],_=>by unfold eqDs; rfl
 | d :: ds,e :: es,h=>by
  unfold eqDs
  rw [eqDs_len ds es (by simpa using h),Bool.and_false]
noncomputable def eAt (ds es:List D) (j:Nat):Bool:=match ds[j]?,es[j]? with
  | some d,some e=>eqD d e
  | _,_=>false
theorem items_eq {A:Around} {ds es:List D} {xs ys:List V} {us vs:List Value} (r1:Reps X.K H ds xs) (r2:Reps X.K H es ys) (v1:Vals xs us) (v2:Vals ys vs)
  (ih:∀ (j:Nat) (d e:D) (x y:V) (u v:Value),ds[j]?=some d→es[j]?=some e→Rep X.K H d x→Rep X.K H e y→RelV x u→RelV y v→SeqAt.EqAt A s u v (eqD d e)) :
  ∀ j (h1:j < us.toArray.size) (h2:j < vs.toArray.size),SeqAt.EqAt A s us.toArray[j] vs.toArray[j] (eAt ds es j):=by
 intro j h1 h2
 rw [List.size_toArray] at h1 h2
 have l1:=r1.len
 have l2:=r2.len
 have l3:=v1.length
 have l4:=v2.length
 have e1:ds[j]?=some (ds[j]'(by lia)):=List.getElem?_eq_getElem _
 have e2:es[j]?=some (es[j]'(by lia)):=List.getElem?_eq_getElem _
 obtain ⟨x,hx,px⟩:=r1.get e1
 obtain ⟨y,hy,py⟩:=r2.get e2
 obtain ⟨u,hu,ru⟩:=v1.get hx
 obtain ⟨v,hv,rv⟩:=v2.get hy
 have q:=ih j _ _ x y u v e1 e2 px py ru rv
 have hu':us.toArray[j]'(by simpa using h1)=u:=by
  have:=List.getElem?_eq_getElem h1
  rw [hu] at this
  simpa using (Option.some.inj this).symm
 have hv':vs.toArray[j]'(by simpa using h2)=v:=by
  have:=List.getElem?_eq_getElem h2
  rw [hv] at this
  simpa using (Option.some.inj this).symm
 rw [hu',hv']
 unfold eAt
 rw [e1,e2]
 exact q
theorem range_lst {ds es:List D} {n:Nat} (h:ds.length=n) (h2:es.length=n):(List.range n).all (eAt ds es)=eqDs ds es:=by
 rw [← h,← eqDs_all ds es (h.trans h2.symm)]
 rfl
theorem range_tup {ds es:List D} {n m:Nat} (h:ds.length=n) (h2:es.length=m):((List.range (min n m)).all (eAt ds es) && (n == m))=eqDs ds es:=by
 by_cases e:n=m
 ·subst e
  rw [Nat.min_self,range_lst h h2]
  simp
 ·have e2:(n == m)=false:=by simpa using e
  rw [e2,Bool.and_false,eqDs_len ds es (by rw [h,h2]; exact e)]
theorem rc_lists {A:Around} {l b:Addr} {ds es:List D} {xs ys:List V} (I:Inv X pins σ H s) (h1:SqL X.K H l xs) (h2:SqL X.K H b ys) (r1:Reps X.K H ds xs) (r2:Reps X.K H es ys) (hu:A.units < cLine)
  (ih:∀ (j:Nat) (d e:D) (x y:V) (u v:Value),ds[j]?=some d→es[j]?=some e→Rep X.K H d x→Rep X.K H e y→RelV x u→RelV y v→SeqAt.EqAt A.in1 s u v (eqD d e)) :
  SeqAt.RcAt A s (.ref l) (.ref b) (eqDs ds es)∧SeqAt.RcNeAt A s (.ref l) (.ref b) (!eqDs ds es):=by
 obtain ⟨us,v1,p1,z1⟩:=I.list h1
 obtain ⟨vs,v2,p2,z2⟩:=I.list h2
 have l1:=r1.len
 have l2:=r2.len
 have l3:=v1.length
 have l4:=v2.length
 by_cases e:us.length=vs.length
 ·have it:=items_eq r1 r2 v1 v2 ih
  have a1:=SeqAt.RcAt.lists (A:=A) p1.isList p2.isList (by simpa using e) hu it
  have a2:=SeqAt.RcNeAt.lists (A:=A) p1.isList p2.isList (by simpa using e) hu it
  rw [range_lst (ds:=ds) (es:=es) (by simp; lia) (by simp; lia)] at a1 a2
  exact ⟨a1,a2⟩
 ·have ne:(us.toArray.size != vs.toArray.size)=true:=by simpa using e
  rw [eqDs_len ds es (by lia)]
  exact ⟨SeqAt.RcAt.lists_lengths p1.isList p2.isList ne hu,SeqAt.RcNeAt.lists_lengths p1.isList p2.isList ne hu⟩
theorem rc_tups {A:Around} {l b:Addr} {ds es:List D} {xs ys:List V} (I:Inv X pins σ H s) (h1:SqT X.K H l xs) (h2:SqT X.K H b ys) (r1:Reps X.K H ds xs) (r2:Reps X.K H es ys) (hu:A.units < cLine)
  (ih:∀ (j:Nat) (d e:D) (x y:V) (u v:Value),ds[j]?=some d→es[j]?=some e→Rep X.K H d x→Rep X.K H e y→RelV x u→RelV y v→SeqAt.EqAt A.in1 s u v (eqD d e)) :
  SeqAt.RcAt A s (.ref l) (.ref b) (eqDs ds es)∧SeqAt.RcNeAt A s (.ref l) (.ref b) (!eqDs ds es):=by
 obtain ⟨us,v1,p1,z1⟩:=I.tuple h1
 obtain ⟨vs,v2,p2,z2⟩:=I.tuple h2
 have l1:=r1.len
 have l2:=r2.len
 have l3:=v1.length
 have l4:=v2.length
 have it:=items_eq r1 r2 v1 v2 ih
 have a1:=SeqAt.RcAt.tuples (A:=A) (show s.heap.IsTuple l us.toArray from p1) (show s.heap.IsTuple b vs.toArray from p2) hu it
 have a2:=SeqAt.RcNeAt.tuples (A:=A) (show s.heap.IsTuple l us.toArray from p1) (show s.heap.IsTuple b vs.toArray from p2) hu it
 rw [range_tup (ds:=ds) (es:=es) (by simp; lia) (by simp; lia)] at a1 a2
 exact ⟨a1,a2⟩
theorem deps_get:∀ {l:List D} {j:Nat} {d:D},l[j]?=some d→d.dep≤deps l
 | a :: l,0,d,e=>by cases e; unfold deps; lia
 | a :: l,j + 1,d,e=>by
  have:=deps_get (l:=l) (j:=j) (d:=d) (by simpa using e)
  unfold deps; lia
theorem rep_eq (I:Inv X pins σ H s):∀ (n:Nat) (A:Around) (d e:D) (x y:V) (u v:Value),d.dep≤n→A.units + n < cLine→Rep X.K H d x→Rep X.K H e y→RelV x u→RelV y v→SeqAt.EqAt A s u v (eqD d e):=by
 intro n
 induction n with
 | zero =>
  intro A d e x y u v hd hu r1 r2 ru rv
  have hu0:A.units < cLine:=by lia
  cases d with
  | tup l=>unfold D.dep at hd; lia
  | lst l=>unfold D.dep at hd; lia
  | non =>
   unfold Rep at r1; subst r1; cases ru
   cases e with
   | non=>unfold Rep at r2; subst r2; cases rv; exact SeqAt.EqAt.same _
   | bl b=>unfold Rep at r2; subst r2; cases rv; exact SeqAt.EqAt.none_bool b
   | int b=>unfold Rep at r2; subst r2; obtain ⟨t,rfl⟩:=rv; exact SeqAt.EqAt.none_int b t
   | str b=>unfold Rep at r2; subst r2; obtain ⟨t,rfl⟩:=rv; exact SeqAt.EqAt.none_str b t
   | tup l=>unfold Rep at r2; obtain ⟨p,xs,rfl,q,_⟩:=r2; cases rv; obtain ⟨us,_,pt,_⟩:=I.tuple q; exact SeqAt.EqAt.none_tuple (show s.heap.IsTuple p us.toArray from pt) hu0
   | lst l=>unfold Rep at r2; obtain ⟨p,xs,rfl,q,_⟩:=r2; cases rv; obtain ⟨us,_,pt,_⟩:=I.list q; exact SeqAt.EqAt.none_list pt.isList hu0
  | bl a =>
   unfold Rep at r1; subst r1; cases ru
   cases e with
   | non=>unfold Rep at r2; subst r2; cases rv; exact SeqAt.EqAt.bool_none a
   | bl b=>unfold Rep at r2; subst r2; cases rv; exact SeqAt.EqAt.bool_bool a b
   | int b=>unfold Rep at r2; subst r2; obtain ⟨t,rfl⟩:=rv; exact SeqAt.EqAt.bool_int a b t
   | str b=>unfold Rep at r2; subst r2; obtain ⟨t,rfl⟩:=rv; exact SeqAt.EqAt.bool_str a b t
   | tup l=>unfold Rep at r2; obtain ⟨p,xs,rfl,q,_⟩:=r2; cases rv; obtain ⟨us,_,pt,_⟩:=I.tuple q; exact SeqAt.EqAt.bool_tuple a (show s.heap.IsTuple p us.toArray from pt) hu0
   | lst l=>unfold Rep at r2; obtain ⟨p,xs,rfl,q,_⟩:=r2; cases rv; obtain ⟨us,_,pt,_⟩:=I.list q; exact SeqAt.EqAt.bool_list a pt.isList hu0
  | int a =>
   unfold Rep at r1; subst r1; obtain ⟨t1,rfl⟩:=ru
   cases e with
   | non=>unfold Rep at r2; subst r2; cases rv; exact SeqAt.EqAt.int_none a t1
   | bl b=>unfold Rep at r2; subst r2; cases rv; exact SeqAt.EqAt.int_bool a t1 b
   | int b=>unfold Rep at r2; subst r2; obtain ⟨t,rfl⟩:=rv; exact SeqAt.EqAt.int_int a t1 b t
   | str b=>unfold Rep at r2; subst r2; obtain ⟨t,rfl⟩:=rv; exact SeqAt.EqAt.int_str a t1 b t
   | tup l=>unfold Rep at r2; obtain ⟨p,xs,rfl,q,_⟩:=r2; cases rv; obtain ⟨us,_,pt,_⟩:=I.tuple q; exact SeqAt.EqAt.int_tuple a t1 (show s.heap.IsTuple p us.toArray from pt) hu0
   | lst l=>unfold Rep at r2; obtain ⟨p,xs,rfl,q,_⟩:=r2; cases rv; obtain ⟨us,_,pt,_⟩:=I.list q; exact SeqAt.EqAt.int_list a t1 pt.isList hu0
  | str a =>
   unfold Rep at r1; subst r1; obtain ⟨t1,rfl⟩:=ru
   cases e with
   | non=>unfold Rep at r2; subst r2; cases rv; exact SeqAt.EqAt.str_none a t1
   | bl b=>unfold Rep at r2; subst r2; cases rv; exact SeqAt.EqAt.str_bool a t1 b
   | int b=>unfold Rep at r2; subst r2; obtain ⟨t,rfl⟩:=rv; exact SeqAt.EqAt.str_int a t1 b t
   | str b=>unfold Rep at r2; subst r2; obtain ⟨t,rfl⟩:=rv; exact SeqAt.EqAt.str_str a t1 b t
   | tup l=>unfold Rep at r2; obtain ⟨p,xs,rfl,q,_⟩:=r2; cases rv; obtain ⟨us,_,pt,_⟩:=I.tuple q; exact SeqAt.EqAt.str_tuple a t1 (show s.heap.IsTuple p us.toArray from pt) hu0
   | lst l=>unfold Rep at r2; obtain ⟨p,xs,rfl,q,_⟩:=r2; cases rv; obtain ⟨us,_,pt,_⟩:=I.list q; exact SeqAt.EqAt.str_list a t1 pt.isList hu0
 | succ n ihn =>
  intro A d e x y u v hd hu r1 r2 ru rv
  have hu0:A.units < cLine:=by lia
  have hu1:A.in1.units + n < cLine:=by show A.units + 1 + n < cLine; lia
  cases d with
  | tup l =>
   have r1':=r1
   unfold Rep at r1
   obtain ⟨p,xs,rfl,q,rs⟩:=r1
   cases ru
   have hd':deps l≤n:=by unfold D.dep at hd; lia
   obtain ⟨us,_,pt,_⟩:=id (I.tuple q)
   cases e with
   | non=>unfold Rep at r2; subst r2; cases rv; exact SeqAt.EqAt.tuple_none (show s.heap.IsTuple p us.toArray from pt) hu0
   | bl b=>unfold Rep at r2; subst r2; cases rv; exact SeqAt.EqAt.tuple_bool b (show s.heap.IsTuple p us.toArray from pt) hu0
   | int b=>unfold Rep at r2; subst r2; obtain ⟨t,rfl⟩:=rv; exact SeqAt.EqAt.tuple_int b t (show s.heap.IsTuple p us.toArray from pt) hu0
   | str b=>unfold Rep at r2; subst r2; obtain ⟨t,rfl⟩:=rv; exact SeqAt.EqAt.tuple_str b t (show s.heap.IsTuple p us.toArray from pt) hu0
   | tup l2 =>
    have r2':=r2
    unfold Rep at r2
    obtain ⟨p2,xs2,rfl,q2,rs2⟩:=r2
    cases rv
    by_cases hp:p=p2
    ·subst hp
     rw [rep_inj I _ _ _ r1' r2',eqD_refl]
     exact SeqAt.EqAt.same _
    ·unfold eqD
     exact SeqAt.EqAt.of_refs hp (rc_tups I q q2 rs rs2 hu0 fun j d e x y u v e1 e2 a b c f=>ihn A.in1 d e x y u v (Nat.le_trans (deps_get e1) hd') hu1 a b c f).1
   | lst l2 =>
    unfold Rep at r2
    obtain ⟨p2,xs2,rfl,q2,rs2⟩:=r2
    cases rv
    obtain ⟨us2,_,pt2,_⟩:=I.list q2
    exact SeqAt.EqAt.tuple_list (show s.heap.IsTuple p us.toArray from pt) pt2.isList hu0
  | lst l =>
   have r1':=r1
   unfold Rep at r1
   obtain ⟨p,xs,rfl,q,rs⟩:=r1
   cases ru
   have hd':deps l≤n:=by unfold D.dep at hd; lia
   obtain ⟨us,_,pt,_⟩:=id (I.list q)
   cases e with
   | non=>unfold Rep at r2; subst r2; cases rv; exact SeqAt.EqAt.list_none pt.isList hu0
   | bl b=>unfold Rep at r2; subst r2; cases rv; exact SeqAt.EqAt.list_bool b pt.isList hu0
   | int b=>unfold Rep at r2; subst r2; obtain ⟨t,rfl⟩:=rv; exact SeqAt.EqAt.list_int b t pt.isList hu0
   | str b=>unfold Rep at r2; subst r2; obtain ⟨t,rfl⟩:=rv; exact SeqAt.EqAt.list_str b t pt.isList hu0
   | lst l2 =>
    have r2':=r2
    unfold Rep at r2
    obtain ⟨p2,xs2,rfl,q2,rs2⟩:=r2
    cases rv
    by_cases hp:p=p2
    ·subst hp
     rw [rep_inj I _ _ _ r1' r2',eqD_refl]
     exact SeqAt.EqAt.same _
    ·unfold eqD
     exact SeqAt.EqAt.of_refs hp (rc_lists I q q2 rs rs2 hu0 fun j d e x y u v e1 e2 a b c f=>ihn A.in1 d e x y u v (Nat.le_trans (deps_get e1) hd') hu1 a b c f).1
   | tup l2 =>
    unfold Rep at r2
    obtain ⟨p2,xs2,rfl,q2,rs2⟩:=r2
    cases rv
    obtain ⟨us2,_,pt2,_⟩:=I.tuple q2
    exact SeqAt.EqAt.list_tuple pt.isList (show s.heap.IsTuple p2 us2.toArray from pt2) hu0
  | _=>exact ihn A _ e x y u v (by unfold D.dep; exact Nat.zero_le _) (by lia) r1 r2 ru rv
noncomputable def rEqS (K:PySem.W.Frag) (neg:Bool):R2:=fun x y H Q=>∃ ds es,((Rep K H (.lst ds) x∧Rep K H (.lst es) y)∨(Rep K H (.tup ds) x∧Rep K H (.tup es) y))∧deps ds≤50∧Q (.bl (if neg then !eqDs ds es else eqDs ds es)) H
theorem rc_both (I:Inv X pins σ H s) {x y:V} {u v:Value} {ds es:List D} (hA:X.A.units + 60 < cLine) (ru:RelV x u) (rv:RelV y v) (h:(Rep X.K H (.lst ds) x∧Rep X.K H (.lst es) y)∨(Rep X.K H (.tup ds) x∧Rep X.K H (.tup es) y)) (hd:deps ds≤50) :
  SeqAt.RcAt X.A s u v (eqDs ds es)∧SeqAt.RcNeAt X.A s u v (!eqDs ds es):=by
 have ih:∀ (j:Nat) (d e:D) (x y:V) (u v:Value),ds[j]?=some d→es[j]?=some e→Rep X.K H d x→Rep X.K H e y→RelV x u→RelV y v→SeqAt.EqAt X.A.in1 s u v (eqD d e) :=
  fun j d e x y u v e1 e2 a b c f=>rep_eq I 50 X.A.in1 d e x y u v (Nat.le_trans (deps_get e1) hd) (by show X.A.units + 1 + 50 < cLine; lia) a b c f
 rcases h with ⟨h1,h2⟩ | ⟨h1,h2⟩
 ·unfold Rep at h1 h2
  obtain ⟨p,xs,rfl,q,rs⟩:=h1
  obtain ⟨p2,xs2,rfl,q2,rs2⟩:=h2
  cases ru; cases rv
  exact rc_lists I q q2 rs rs2 (by lia) ih
 ·unfold Rep at h1 h2
  obtain ⟨p,xs,rfl,q,rs⟩:=h1
  obtain ⟨p2,xs2,rfl,q2,rs2⟩:=h2
  cases ru; cases rv
  exact rc_tups I q q2 rs rs2 (by lia) ih
theorem op_eqS (hA:X.A.units + 60 < cLine):OpR X (compareOp .Eq) (rEqS X.K false):=by
 intro pins s σ H x y u v Q I ru rv h
 obtain ⟨ds,es,h,hd,q⟩:=h
 exact (rc_both I hA ru rv h hd).1 X.prog X.w X.xe _ ⟨.bl (eqDs ds es),H,I,rfl,q⟩
theorem op_neS (hA:X.A.units + 60 < cLine):OpR X (compareOp .NotEq) (rEqS X.K true):=by
 intro pins s σ H x y u v Q I ru rv h
 obtain ⟨ds,es,h,hd,q⟩:=h
 exact (rc_both I hA ru rv h hd).2 X.prog X.w X.xe _ ⟨.bl (!eqDs ds es),H,I,rfl,q⟩
theorem op_neNil (hA:X.A.units + 60 < cLine):OpR X (compareOp .NotEq) (fun x y H Q=>∃ p b xs,x=.ref p∧y=.ref b∧SqL X.K H p xs∧SqL X.K H b []∧Q (.bl (!xs.isEmpty)) H):=by
 intro pins s σ H x y u v Q I ru rv h
 obtain ⟨p,b,xs,rfl,rfl,q1,q2,q⟩:=h
 cases ru; cases rv
 obtain ⟨us,v1,p1,_⟩:=I.list q1
 obtain ⟨vs,v2,p2,_⟩:=I.list q2
 cases v2
 cases v1 with
 | nil =>
  have a:=SeqAt.RcNeAt.lists (A:=X.A) (e:=fun _=>true) p1.isList p2.isList rfl (by lia) (fun j h1 _=>absurd h1 (by simp))
  exact a X.prog X.w X.xe _ ⟨.bl false,H,I,rfl,q⟩
 | cons r1 r2 =>
  exact SeqAt.RcNeAt.lists_lengths (A:=X.A) p1.isList p2.isList (by simp) (by lia) X.prog X.w X.xe _ ⟨.bl true,H,I,rfl,q⟩
theorem op_eqNil (hA:X.A.units + 60 < cLine):OpR X (compareOp .Eq) (fun x y H Q=>∃ p b xs,x=.ref p∧y=.ref b∧SqL X.K H p xs∧SqL X.K H b []∧Q (.bl xs.isEmpty) H):=by
 intro pins s σ H x y u v Q I ru rv h
 obtain ⟨p,b,xs,rfl,rfl,q1,q2,q⟩:=h
 cases ru; cases rv
 obtain ⟨us,v1,p1,_⟩:=I.list q1
 obtain ⟨vs,v2,p2,_⟩:=I.list q2
 cases v2
 cases v1 with
 | nil =>
  have a:=SeqAt.RcAt.lists (A:=X.A) (e:=fun _=>true) p1.isList p2.isList rfl (by lia) (fun j h1 _=>absurd h1 (by simp))
  exact a X.prog X.w X.xe _ ⟨.bl true,H,I,rfl,q⟩
 | cons r1 r2 =>
  exact SeqAt.RcAt.lists_lengths (A:=X.A) p1.isList p2.isList (by simp) (by lia) X.prog X.w X.xe _ ⟨.bl false,H,I,rfl,q⟩
theorem eqDs_ints:∀ ns ms:List Int,eqDs (ns.map D.int) (ms.map D.int)=decide (ns=ms)
 | [],[]=>by rw [List.map_nil]; unfold eqDs; rfl
 | [],_ :: _=>by rw [List.map_nil,List.map_cons]; unfold eqDs; rfl
 | _ :: _,[]=>by rw [List.map_nil,List.map_cons]; unfold eqDs; rfl
 | n :: ns,m :: ms=>by
  rw [List.map_cons,List.map_cons]
  unfold eqDs
  rw [eqDs_ints ns ms]
  unfold eqD
  by_cases h:n=m
  ·subst h
   by_cases h2:ns=ms
   ·subst h2; simp
   ·simp [h2]
  ·simp [h]
end
end L2
namespace L2
open PySem PySem.Spec PyProof.Rows
section
variable {X:Cx} {pos:Pos}
theorem hu60 {k:Nat} {A:Around} (hr:Room k A):A.units + 60 < cLine:=by have:=hr.units; lia
noncomputable def outChk (XN:List Str) (xn:List (Str×NameKind)) (N:List Str) (cn:List (Str×NameKind)):List (Option Nat)→Nat→Bool
 | [],_=>true
 | none :: r,i=>outChk XN xn N cn r (i + 1)
 | some j :: r,i=>(match N[i]? with
  | some x=>XN[j]? == some x && (xn.lookup x == some .cell || xn.lookup x == some .free) && cn.lookup x == some .free
  | none=>false) && outChk XN xn N cn r (i + 1)
theorem outChk_ok {XN:List Str} {xn:List (Str×NameKind)} {N:List Str} {cn:List (Str×NameKind)}:∀ {mp:List (Option Nat)} {k:Nat},outChk XN xn N cn mp k=true→∀ (i j:Nat),mp[i]?=some (some j)→∃ x,N[k + i]?=some x∧XN[j]?=some x∧(xn.lookup x=some .cell∨xn.lookup x=some .free)∧cn.lookup x=some .free
 | [],k,h,i,j,e=>by cases e
 | none :: r,k,h,0,j,e=>by cases e
 | none :: r,k,h,i + 1,j,e=>by
  have:=outChk_ok (mp:=r) (k:=k + 1) h i j (by simpa using e)
  rw [show k + (i + 1)=k + 1 + i by lia]; exact this
 | some m :: r,k,h,0,j,e=>by
  cases e
  unfold outChk at h
  rw [Bool.and_eq_true] at h
  have h1:=h.1
  cases en:N[k]? with
  | none=>rw [en] at h1; cases h1
  | some x =>
   rw [en] at h1
   simp only [Bool.and_eq_true,Bool.or_eq_true,beq_iff_eq] at h1
   exact ⟨x,rfl,h1.1.1,h1.1.2,h1.2⟩
 | some m :: r,k,h,i + 1,j,e=>by
  unfold outChk at h
  rw [Bool.and_eq_true] at h
  have:=outChk_ok (mp:=r) (k:=k + 1) h.2 i j (by simpa using e)
  rw [show k + (i + 1)=k + 1 + i by lia]; exact this
theorem cs_of {N:List Str} {scope:Scope} (mp:List (Option Nat)) (h1:scope.kind=.function) (h2:∀ y∈scope.names,y.2≠.cell) (h3:∀ y∈scope.names,y.2=.local→scope.names.lookup y.1=some .local) (h4:mp.length=N.length)
  (h5:outChk X.N X.env.scope.names N scope.names mp 0=true):CompScope X N mp scope :=
 ⟨h1,h2,h3,h4,fun i j e=>by
  obtain ⟨x,a,b,c,d⟩:=outChk_ok h5 i j e
  exact ⟨x,by simpa using a,b,c,d⟩⟩
noncomputable def NextC (Pv:Nat→List V→St→Hp→Prop) (D:Addr) (i:Nat):St→Hp→Prop:=fun σ' H'=>∃ ys,ys.length≤i + 1∧Pv (i + 1) ys σ' H'∧H' D=some (.lst ys)
theorem comp_list {K:PySem.W.Frag} {a:Addr} {xs:List V} {H1:Hp} {D:Addr} {σ0:St} {g:TG} {tt:TT} {te:TE} {R:Hp→Prop}
  (Pv:Nat→List V→St→Hp→Prop) (hl:∀ i ys σ H2,Pv i ys σ H2→SqL K H2 a xs) (h0:Pv 0 [] σ0 (upd H1 D (.lst [])))
  (hs:∀ i x ys σ H2,xs[i]?=some x→ys.length≤i→Pv i ys σ H2→H2 D=some (.lst ys)→g x σ H2 fun σ3 H3=>tt σ3 H3 fun b H4=>if b=true then te σ3 H4 fun y H5=>∃ zs,H5 D=some (.lst zs)∧zs.length < sizeLine∧NextC Pv D i σ3 (upd H5 D (.lst (zs++[y]))) else NextC Pv D i σ3 H4)
  (hd:∀ ys σ H2,Pv xs.length ys σ H2→H2 D=some (.lst ys)→R H2) :
  ∃ W:Nat→Nat→St→Hp→Prop,(∃ m,W 0 m σ0 (upd H1 D (.lst [])))∧∀ i m σ2 H2,W i m σ2 H2 →
  ((Itl K a).stop i H2∧R H2)∨((Itl K a).go i H2∧∃ N:St→Hp→Prop,(∀ σ' H',N σ' H'→∃ m',m' < m∧W (i + 1) m' σ' H')∧∀ x H',(Itl K a).yld i H2 x H'→g x σ2 H' fun σ3 H3=>tt σ3 H3 fun b H4 =>
   if b=true then te σ3 H4 fun y H5=>∃ xs,H5 D=some (.lst xs)∧xs.length < sizeLine∧N σ3 (upd H5 D (.lst (xs++[y]))) else N σ3 H4):=by
 refine ⟨fun i m σ H'=>m=xs.length - i∧i≤xs.length∧∃ ys,ys.length≤i∧Pv i ys σ H'∧H' D=some (.lst ys),⟨xs.length,by simp,Nat.zero_le _,[],Nat.le_refl _,h0,upd_same⟩,?_⟩
 rintro i m σ2 H2 ⟨rfl,hi,ys,hy,p,e⟩
 have q:=hl i ys σ2 H2 p
 by_cases hlt:i < xs.length
 ·refine .inr ⟨⟨xs,xs[i],q,by simp [hlt]⟩,NextC Pv D i,fun σ' H' ⟨ys',l',p',e'⟩=>⟨xs.length - (i + 1),by lia,rfl,hlt,ys',l',p',e'⟩,fun x' H' y=>?_⟩
  obtain ⟨e1,y⟩:=y
  subst e1
  exact hs i x' ys σ2 _ (y xs q) hy p e
 ·have ei:i=xs.length:=by lia
  subst ei
  exact .inl ⟨⟨xs,q,Nat.le_refl _⟩,hd ys σ2 H2 p e⟩
theorem comp_tup {K:PySem.W.Frag} {a:Addr} {xs:List V} {H1:Hp} {D:Addr} {σ0:St} {g:TG} {tt:TT} {te:TE} {R:Hp→Prop}
  (Pv:Nat→List V→St→Hp→Prop) (hl:∀ i ys σ H2,Pv i ys σ H2→SqT K H2 a xs) (h0:Pv 0 [] σ0 (upd H1 D (.lst [])))
  (hs:∀ i x ys σ H2,xs[i]?=some x→ys.length≤i→Pv i ys σ H2→H2 D=some (.lst ys)→g x σ H2 fun σ3 H3=>tt σ3 H3 fun b H4=>if b=true then te σ3 H4 fun y H5=>∃ zs,H5 D=some (.lst zs)∧zs.length < sizeLine∧NextC Pv D i σ3 (upd H5 D (.lst (zs++[y]))) else NextC Pv D i σ3 H4)
  (hd:∀ ys σ H2,Pv xs.length ys σ H2→H2 D=some (.lst ys)→R H2) :
  ∃ W:Nat→Nat→St→Hp→Prop,(∃ m,W 0 m σ0 (upd H1 D (.lst [])))∧∀ i m σ2 H2,W i m σ2 H2 →
  ((Itt K a).stop i H2∧R H2)∨((Itt K a).go i H2∧∃ N:St→Hp→Prop,(∀ σ' H',N σ' H'→∃ m',m' < m∧W (i + 1) m' σ' H')∧∀ x H',(Itt K a).yld i H2 x H'→g x σ2 H' fun σ3 H3=>tt σ3 H3 fun b H4 =>
   if b=true then te σ3 H4 fun y H5=>∃ xs,H5 D=some (.lst xs)∧xs.length < sizeLine∧N σ3 (upd H5 D (.lst (xs++[y]))) else N σ3 H4):=by
 refine ⟨fun i m σ H'=>m=xs.length - i∧i≤xs.length∧∃ ys,ys.length≤i∧Pv i ys σ H'∧H' D=some (.lst ys),⟨xs.length,by simp,Nat.zero_le _,[],Nat.le_refl _,h0,upd_same⟩,?_⟩
 rintro i m σ2 H2 ⟨rfl,hi,ys,hy,p,e⟩
 have q:=hl i ys σ2 H2 p
 by_cases hlt:i < xs.length
 ·refine .inr ⟨⟨xs,xs[i],q,by simp [hlt]⟩,NextC Pv D i,fun σ' H' ⟨ys',l',p',e'⟩=>⟨xs.length - (i + 1),by lia,rfl,hlt,ys',l',p',e'⟩,fun x' H' y=>?_⟩
  obtain ⟨e1,y⟩:=y
  subst e1
  exact hs i x' ys σ2 _ (y xs q) hy p e
 ·have ei:i=xs.length:=by lia
  subst ei
  exact .inl ⟨⟨xs,q,Nat.le_refl _⟩,hd ys σ2 H2 p e⟩
theorem comp_range {lo:Int} {n:Nat} {H1:Hp} {D:Addr} {σ0:St} {g:TG} {tt:TT} {te:TE} {R:Hp→Prop}
  (Pv:Nat→List V→St→Hp→Prop) (h0:Pv 0 [] σ0 (upd H1 D (.lst [])))
  (hs:∀ i ys σ H2,i < n→ys.length≤i→Pv i ys σ H2→H2 D=some (.lst ys)→g (.int (lo + i)) σ H2 fun σ3 H3=>tt σ3 H3 fun b H4=>if b=true then te σ3 H4 fun y H5=>∃ zs,H5 D=some (.lst zs)∧zs.length < sizeLine∧NextC Pv D i σ3 (upd H5 D (.lst (zs++[y]))) else NextC Pv D i σ3 H4)
  (hd:∀ ys σ H2,Pv n ys σ H2→H2 D=some (.lst ys)→R H2) :
  ∃ W:Nat→Nat→St→Hp→Prop,(∃ m,W 0 m σ0 (upd H1 D (.lst [])))∧∀ i m σ2 H2,W i m σ2 H2 →
  ((Itr lo n).stop i H2∧R H2)∨((Itr lo n).go i H2∧∃ N:St→Hp→Prop,(∀ σ' H',N σ' H'→∃ m',m' < m∧W (i + 1) m' σ' H')∧∀ x H',(Itr lo n).yld i H2 x H'→g x σ2 H' fun σ3 H3=>tt σ3 H3 fun b H4 =>
   if b=true then te σ3 H4 fun y H5=>∃ xs,H5 D=some (.lst xs)∧xs.length < sizeLine∧N σ3 (upd H5 D (.lst (xs++[y]))) else N σ3 H4):=by
 refine ⟨fun i m σ H'=>m=n - i∧i≤n∧∃ ys,ys.length≤i∧Pv i ys σ H'∧H' D=some (.lst ys),⟨n,by simp,Nat.zero_le _,[],Nat.le_refl _,h0,upd_same⟩,?_⟩
 rintro i m σ2 H2 ⟨rfl,hi,ys,hy,p,e⟩
 by_cases hlt:i < n
 ·refine .inr ⟨hlt,NextC Pv D i,fun σ' H' ⟨ys',l',p',e'⟩=>⟨n - (i + 1),by lia,rfl,hlt,ys',l',p',e'⟩,fun x' H' y=>?_⟩
  obtain ⟨e1,y⟩:=y
  subst e1 y
  exact hs i ys σ2 _ hlt hy p e
 ·have ei:i=n:=by lia
  subst ei
  exact .inl ⟨Nat.le_refl _,hd ys σ2 H2 p e⟩
end
end L2
namespace L2
open PySem PySem.Spec PyProof.Rows
section
variable {prog:Program} {w:World} {A:Around} {E:Value→Shared→Prop} {s:Shared}
theorem nextT_item {ti tt:Addr} {k:Nat} {vs:Array Value} {v:Value} {Q:Value→Shared→Prop} (hp:s.heap.IsTupleIter ti tt k) (hc:s.heap.IsTuple tt vs) (hv:vs[k]?=some v)
  (hq:∀ g,g.IsTupleIter ti tt (k + 1)→Heap.SameBut ti s.heap g→Q v { s with heap:=g }):wpAny (model prog w) A (Builtin.SmallTypes.nextOf (.ref ti)) Q E s:=by
 obtain ⟨ob,e0,e1,e2⟩:=id hp
 obtain ⟨oc,c0,_,nc,c2⟩:=hc
 unfold Builtin.SmallTypes.nextOf
 refine wpAny_bind (wpAny_callSpecial?_slot (name:=Str.ofString "__next__") hp.typeIs F.slot_tuple_iterator_next (wpAny_call_entry F.slot_tuple_iterator_next hp.typeIs F.entry_tuple_iterator_next ?_ (F.args_tuple_iterator_next_1 _)))
 show wpAny _ _ (field (.ref ti) 0 >>= _) _ _ s
 refine wpAny_bind (wpAny_field e0 e2 (x:=.ref tt) rfl ?_)
 show wpAny _ _ (if (Value.ref tt == Value.none)=true then _ else _) _ _ s
 rw [if_neg (show ¬ ((Value.ref tt == Value.none)=true) from Bool.false_ne_true)]
 show wpAny _ _ (field (.ref ti) 1 >>= _) _ _ s
 refine wpAny_bind (wpAny_field e0 e2 (x:=.int k 0) rfl ?_)
 show wpAny _ _ (seqItems? (.ref tt) >>= _) _ _ s
 refine wpAny_bind (wpAny_seqItems c0 c2 ?_)
 simp only [Int.toNat_natCast,hv]
 refine wpAny_bind (wpAny_setField e0 e2 (by simp) (wpAny_pure ⟨v,rfl,wpAny_pure (hq _ ?_ (Heap.SameBut.update ..))⟩))
 exact ⟨_,Heap.get?_update_self _ e0 (Obj.isFreed_of_fields (Obj.data_mapFields e2 _)),(Obj.cls_mapFields ..).trans e1,by rw [Obj.data_mapFields e2]; simp [rawInt]⟩
theorem nextT_stop {ti tt:Addr} {k:Nat} {vs:Array Value} {Q:Value→Shared→Prop} (hh:A.handled=none) (hp:s.heap.IsTupleIter ti tt k) (hc:s.heap.IsTuple tt vs) (hv:vs[k]?=none)
  (hE:∀ g e,Heap.ExtBut ti s.heap g→(∃ o,g.get? e=some o∧o.cls=.type "StopIteration")→E (.ref e) { s with heap:=g }):wpAny (model prog w) A (Builtin.SmallTypes.nextOf (.ref ti)) Q E s:=by
 obtain ⟨ob,e0,e1,e2⟩:=id hp
 obtain ⟨oc,c0,_,nc,c2⟩:=hc
 unfold Builtin.SmallTypes.nextOf
 refine wpAny_bind (wpAny_callSpecial?_slot (name:=Str.ofString "__next__") hp.typeIs F.slot_tuple_iterator_next (wpAny_call_entry F.slot_tuple_iterator_next hp.typeIs F.entry_tuple_iterator_next ?_ (F.args_tuple_iterator_next_1 _)))
 show wpAny _ _ (field (.ref ti) 0 >>= _) _ _ s
 refine wpAny_bind (wpAny_field e0 e2 (x:=.ref tt) rfl ?_)
 show wpAny _ _ (if (Value.ref tt == Value.none)=true then _ else _) _ _ s
 rw [if_neg (show ¬ ((Value.ref tt == Value.none)=true) from Bool.false_ne_true)]
 show wpAny _ _ (field (.ref ti) 1 >>= _) _ _ s
 refine wpAny_bind (wpAny_field e0 e2 (x:=.int k 0) rfl ?_)
 show wpAny _ _ (seqItems? (.ref tt) >>= _) _ _ s
 refine wpAny_bind (wpAny_seqItems c0 c2 ?_)
 simp only [Int.toNat_natCast,hv]
 refine wpAny_bind (wpAny_rule (wpAny_bind (wpAny_setField e0 e2 (by simp) ?_)))
 show wpAny _ _ (newExc (.type "StopIteration") [] >>= _) _ _ _
 refine wpAny_bind ?_
 simp only [newExc,newTuple]
 refine wpAny_bind (wpAny_newObj_type ?_ (by size_fits))
 refine wpAny_bind (m:=firstArgMember _ _) (wpAny_of_eq (a:=Value.none) (by first | rfl | (simp only [firstArgMember]; done)) ?_)
 refine wpAny_newObj_type ?_ (by size_fits)
 simp only [raiseNew]
 refine wpAny_bind (wpAny_handled ?_)
 first | rw [show A.in1.handled=none from hh] | rw [hh]
 refine wpAny_bind (wpAny_pure (wpAny_throw ?_))
 exact hE _ _ (((Heap.SameBut.update ..).extBut.push _).push _) ⟨_,Heap.get?_push_size _ rfl,rfl⟩
structure ZT (h:Heap) (z ti to i j a b:Addr) (f0:Value) (k:Nat):Prop where
 zz:IsZip h z ti to f0
 pi:IsPair h ti (.ref i) (.ref j)
 po:∃ x y,IsPair h to x y
 ia:h.IsTupleIter i a k
 jb:h.IsTupleIter j b k
theorem zipT_item {z ti to i j a b:Addr} {k:Nat} {xs ys:Array Value} {x y:Value} {Q:Value→Shared→Prop} (D:ZipApart z ti to i j a b) (Z:ZT s.heap z ti to i j a b .none k)
  (ha:s.heap.IsTuple a xs) (hb:s.heap.IsTuple b ys) (hx:xs[k]?=some x) (hy:ys[k]?=some y)
  (hq:∀ g,ZT g z ti to i j a b (rawInt s.heap.objs.size) (k + 1)→IsPair g s.heap.objs.size x y→g.objs.size=s.heap.objs.size + 1 →
   (∀ c o,c≠z→c≠to→c≠i→c≠j→s.heap.get? c=some o→g.get? c=some o)→Q (.ref s.heap.objs.size) { s with heap:=g }) :
  wpAny (model prog w) A (Builtin.«zip.__next__» ⟨[.ref z],[]⟩) (fun fin s'=>∃ v,fin=.done (.ret v)∧Q v s') E s:=by
 obtain ⟨Zz,Zi,⟨u,v,Zo⟩,Za,Zb⟩:=Z
 show wpAny _ _ (field (.ref z) 2 >>= _) _ _ _
 refine wpAny_bind (wpAny_field Zz rfl (x:=.bool false) rfl ?_)
 show wpAny _ _ (field (.ref z) 3 >>= _) _ _ _
 refine wpAny_bind (wpAny_field Zz rfl (x:=.ref ti) rfl (wpAny_bind (wpAny_seqItems Zi rfl ?_)))
 show wpAny _ _ (Builtin.SmallTypes.ownedTupleIsFree (.ref z) >>= _) _ _ _
 refine wpAny_bind ?_
 unfold Builtin.SmallTypes.ownedTupleIsFree
 refine wpAny_bind (wpAny_field Zz rfl (x:=.none) rfl (wpAny_pure ?_))
 simp only [if_true]
 refine wpAny_bind (wpAny_rule (wpAny_bind (wpAny_field Zz rfl (x:=.ref to) rfl (wpAny_bind (wpAny_setField_rec Zz (by simp) fun g1 z1 b1=>?_)))))
 replace z1:IsZip g1 z ti to .ellipsis:=z1
 refine wpAny_bind ?_
 simp only [List.zipIdx_cons,List.zipIdx_nil,List.forIn_cons,List.forIn_nil]
 refine wpAny_bind (wpAny_bind (wpAny_onRaise ?_))
 show wpAny _ _ (Builtin.SmallTypes.nextOf (.ref i) >>= _) _ _ _
 refine wpAny_bind (nextT_item (Za.extBut b1.extBut D.i1z) (ha.extBut b1.extBut D.l1z) hx fun g2 p2 b2=>wpAny_pure ?_)
 have o2:IsPair g2 to u v:=b2.extBut _ _ D.TOi1 (b1.extBut _ _ D.TOz Zo)
 refine wpAny_bind (wpAny_seqItems o2 rfl (wpAny_bind (wpAny_updateSeq_pair o2 fun g3 o3 b3=>?_)))
 replace o3:IsPair g3 to x v:=o3
 refine wpAny_bind (wpAny_letGo (wpAny_pure (wpAny_bind (wpAny_bind (wpAny_onRaise ?_)))))
 show wpAny _ _ (Builtin.SmallTypes.nextOf (.ref j) >>= _) _ _ _
 refine wpAny_bind (nextT_item (((Zb.extBut b1.extBut D.i2z).extBut b2.extBut D.i12.symm).extBut b3.extBut D.TOi2.symm) (((hb.extBut b1.extBut D.l2z).extBut b2.extBut D.l2i1).extBut b3.extBut D.l2TO) hy fun g4 p4 b4=>wpAny_pure ?_)
 have o4:IsPair g4 to x v:=b4.extBut _ _ D.TOi2 o3
 refine wpAny_bind (wpAny_seqItems o4 rfl (wpAny_bind (wpAny_updateSeq_pair o4 fun g5 o5 b5=>?_)))
 replace o5:IsPair g5 to x y:=o5
 refine wpAny_bind (wpAny_letGo (wpAny_pure (wpAny_pure (wpAny_bind (wpAny_seqItems o5 rfl (wpAny_bind (wpAny_newTuple ?_)))))))
 have sz:g5.objs.size=s.heap.objs.size:=by rw [b5.1,b4.1,b3.1,b2.1,b1.1]
 have z5:IsZip g5 z ti to .ellipsis:=b5.extBut _ _ D.TOz.symm (b4.extBut _ _ D.i2z.symm (b3.extBut _ _ D.TOz.symm (b2.extBut _ _ D.i1z.symm z1)))
 have keep5:∀ c o,c≠z→c≠to→c≠i→c≠j→s.heap.get? c=some o→g5.get? c=some o:=fun c o n1 n2 n3 n4 e=>b5.extBut _ _ n2 (b4.extBut _ _ n4 (b3.extBut _ _ n2 (b2.extBut _ _ n3 (b1.extBut _ _ n1 e))))
 have pa5:g5.IsTupleIter i a (k + 1):=((p2.extBut b3.extBut D.TOi1.symm).extBut b4.extBut D.i12).extBut b5.extBut D.TOi1.symm
 have pb5:g5.IsTupleIter j b (k + 1):=p4.extBut b5.extBut D.TOi2.symm
 have zlt:z < g5.objs.size:=Heap.lt_size z5
 show wpAny _ _ (Builtin.SmallTypes.ownedTupleHandOut (.ref z) (.ref g5.objs.size) >>= _) _ _ _
 refine wpAny_bind ?_
 unfold Builtin.SmallTypes.ownedTupleHandOut
 have z6:IsZip (g5.push { cls:=.type "tuple",data:=.seq #[x,y] }) z ti to .ellipsis:=Heap.get?_push_of_some _ z5
 refine wpAny_bind (wpAny_setField_rec z6 (by simp) fun g7 z7 b7=>?_)
 replace z7:IsZip g7 z ti to (rawInt g5.objs.size):=z7
 refine wpAny_setField_rec z7 (by simp) fun g8 z8 b8=>?_
 replace z8:IsZip g8 z ti to (rawInt g5.objs.size):=z8
 have keep8:∀ c o,c≠z→g5.get? c=some o→g8.get? c=some o:=fun c o n e=>b8.extBut _ _ n (b7.extBut _ _ n (Heap.get?_push_of_some _ e))
 have new8:IsPair g8 g5.objs.size x y:=b8.extBut _ _ (Nat.ne_of_gt zlt) (b7.extBut _ _ (Nat.ne_of_gt zlt) (Heap.get?_push_size _ rfl))
 have sz8:g8.objs.size=g5.objs.size + 1:=by rw [b8.1,b7.1,Heap.size_push]
 rw [sz] at z8 new8 sz8
 refine wpAny_pure ⟨_,rfl,?_⟩
 show Q (.ref g5.objs.size) _
 rw [sz]
 exact hq g8 ⟨z8,keep8 _ _ D.TIz (keep5 _ _ D.TIz D.TITO D.TIi1 D.TIi2 Zi),⟨x,y,keep8 _ _ D.TOz o5⟩,pa5.at fun o e=>keep8 _ o D.i1z e,pb5.at fun o e=>keep8 _ o D.i2z e⟩ new8 sz8 fun c o n1 n2 n3 n4 e=>keep8 c o n1 (keep5 c o n1 n2 n3 n4 e)
theorem zipT_stop {z ti to i j a b:Addr} {k:Nat} {xs ys:Array Value} {Q:PySem.Fin→Shared→Prop} (hh:A.handled=none) (D:ZipApart z ti to i j a b) (Z:ZT s.heap z ti to i j a b .none k)
  (ha:s.heap.IsTuple a xs) (hb:s.heap.IsTuple b ys) (hend:xs[k]?=none∨ys[k]?=none)
  (hE:∀ g e,(∀ c o,c≠z→c≠to→c≠i→c≠j→s.heap.get? c=some o→g.get? c=some o)→(∃ o,g.get? e=some o∧o.cls=.type "StopIteration")→E (.ref e) { s with heap:=g }) :
  wpAny (model prog w) A (Builtin.«zip.__next__» ⟨[.ref z],[]⟩) Q E s:=by
 obtain ⟨Zz,Zi,⟨u,v,Zo⟩,Za,Zb⟩:=Z
 show wpAny _ _ (field (.ref z) 2 >>= _) _ _ _
 refine wpAny_bind (wpAny_field Zz rfl (x:=.bool false) rfl ?_)
 show wpAny _ _ (field (.ref z) 3 >>= _) _ _ _
 refine wpAny_bind (wpAny_field Zz rfl (x:=.ref ti) rfl (wpAny_bind (wpAny_seqItems Zi rfl ?_)))
 show wpAny _ _ (Builtin.SmallTypes.ownedTupleIsFree (.ref z) >>= _) _ _ _
 refine wpAny_bind ?_
 unfold Builtin.SmallTypes.ownedTupleIsFree
 refine wpAny_bind (wpAny_field Zz rfl (x:=.none) rfl (wpAny_pure ?_))
 simp only [if_true]
 refine wpAny_bind (wpAny_rule (wpAny_bind (wpAny_field Zz rfl (x:=.ref to) rfl (wpAny_bind (wpAny_setField_rec Zz (by simp) fun g1 z1 b1=>?_)))))
 replace z1:IsZip g1 z ti to .ellipsis:=z1
 refine wpAny_bind ?_
 simp only [List.zipIdx_cons,List.zipIdx_nil,List.forIn_cons,List.forIn_nil]
 refine wpAny_bind (wpAny_bind (wpAny_onRaise ?_))
 show wpAny _ _ (Builtin.SmallTypes.nextOf (.ref i) >>= _) _ _ _
 cases hx:xs[k]? with
 | none =>
  refine wpAny_bind (nextT_stop hh (Za.extBut b1.extBut D.i1z) (ha.extBut b1.extBut D.l1z) hx fun g2 e b2 ⟨oe,q1,q2⟩=>?_)
  have z2:IsZip g2 z ti to .ellipsis:=b2 _ _ D.i1z.symm z1
  have ez:e≠z:=fun x=>by
   subst x
   rw [z2] at q1
   cases q1
   simp at q2
  exact wpAny_setField_rec z2 (by simp) fun g3 _ b3=>hE g3 e (fun c o n1 _ n3 _ x=>b3.extBut _ _ n1 (b2 _ _ n3 (b1.extBut _ _ n1 x))) ⟨oe,b3.extBut _ _ ez q1,q2⟩
 | some x =>
  have hy:ys[k]?=none:=hend.elim (fun h=>by rw [hx] at h; cases h) id
  refine wpAny_bind (nextT_item (Za.extBut b1.extBut D.i1z) (ha.extBut b1.extBut D.l1z) hx fun g2 p2 b2=>wpAny_pure ?_)
  have o2:IsPair g2 to u v:=b2.extBut _ _ D.TOi1 (b1.extBut _ _ D.TOz Zo)
  refine wpAny_bind (wpAny_seqItems o2 rfl (wpAny_bind (wpAny_updateSeq_pair o2 fun g3 o3 b3=>wpAny_bind (wpAny_letGo (wpAny_pure (wpAny_bind (wpAny_bind (wpAny_onRaise ?_))))))))
  show wpAny _ _ (Builtin.SmallTypes.nextOf (.ref j) >>= _) _ _ _
  refine wpAny_bind (nextT_stop hh (((Zb.extBut b1.extBut D.i2z).extBut b2.extBut D.i12.symm).extBut b3.extBut D.TOi2.symm) (((hb.extBut b1.extBut D.l2z).extBut b2.extBut D.l2i1).extBut b3.extBut D.l2TO) hy fun g4 e b4 ⟨oe,q1,q2⟩=>?_)
  have z4:IsZip g4 z ti to .ellipsis:=b4 _ _ D.i2z.symm (b3.extBut _ _ D.TOz.symm (b2.extBut _ _ D.i1z.symm z1))
  have ez:e≠z:=fun x=>by
   subst x
   rw [z4] at q1
   cases q1
   simp at q2
  exact wpAny_setField_rec z4 (by simp) fun g5 _ b5=>hE g5 e (fun c o n1 n2 n3 n4 x=>b5.extBut _ _ n1 (b4 _ _ n4 (b3.extBut _ _ n2 (b2.extBut _ _ n3 (b1.extBut _ _ n1 x))))) ⟨oe,b5.extBut _ _ ez q1,q2⟩
end
section
variable {prog:Program} {w:World} {A:Around} {E:Value→Shared→Prop} {s:Shared}
noncomputable abbrev zt1 (h:Heap) (a:Addr):Heap:=h.push { cls:=.type "tuple_iterator",data:=.fields #[.ref a,.int 0 0] }
noncomputable abbrev zt2 (h:Heap) (a b:Addr):Heap:=(zt1 h a).push { cls:=.type "tuple_iterator",data:=.fields #[.ref b,.int 0 0] }
noncomputable abbrev zt3 (h:Heap) (a b:Addr):Heap:=(zt2 h a b).push { cls:=.type "tuple",data:=.seq #[.ref h.objs.size,.ref (zt1 h a).objs.size] }
noncomputable abbrev zt4 (h:Heap) (a b:Addr):Heap:=(zt3 h a b).push { cls:=.type "tuple",data:=.seq #[.none,.none] }
noncomputable abbrev zt5 (h:Heap) (a b:Addr):Heap:=(zt4 h a b).push { cls:=.type "zip",data:=.fields #[.none,.bool false,.bool false,.ref (zt2 h a b).objs.size,.ref (zt3 h a b).objs.size] }
theorem meets_zipT (a b:Addr) (xs ys:Array Value):Meets (Builtin.«zip.__new__» ⟨[.type "zip",.ref a,.ref b],[]⟩)
  (fun _ R s=>s.heap.IsTuple a xs∧s.heap.IsTuple b ys∧R (.ok (.ret (.ref (zt4 s.heap a b).objs.size))) { s with heap:=zt5 s.heap a b }) :=
 .of_wp fun prog w A R s h=>by
  obtain ⟨hp,g,d,tk,os⟩:=s
  obtain ⟨h1,h2,h⟩:=h
  have hsub:=sub_zip
  have t1:Heap.IsTuple (Shared.heap ⟨hp,g,d,tk,os⟩) a xs:=h1
  have t2:Heap.IsTuple (Shared.heap ⟨hp.push { cls:=.type "tuple_iterator",data:=.fields #[.ref a,.int 0 0] },g,d,tk,os⟩) b ys:=Heap.IsTuple.push h2 _
  wp_walk using wpAny_pyIter_tuple t1,wpAny_pyIter_tuple t2
  exact ⟨_,rfl,h⟩
theorem call_zipT {a b:Addr} {xs ys:Array Value} {Q:Value→Shared→Prop} (ha:s.heap.IsTuple a xs) (hb:s.heap.IsTuple b ys)
  (h:∀ g,ZT g (s.heap.objs.size + 4) (s.heap.objs.size + 2) (s.heap.objs.size + 3) s.heap.objs.size (s.heap.objs.size + 1) a b .none 0→g.objs.size=s.heap.objs.size + 5→(∀ c o,s.heap.get? c=some o→g.get? c=some o) →
   Q (.ref (s.heap.objs.size + 4)) { s with heap:=g }):wpAny (model prog w) A (call (.type "zip") [.ref a,.ref b]) Q E s:=by
 refine callType_new F.called_zip (by decide) (F.typeCall_zip_2 _ _) (F.newCall_zip_2 _ _) (fun obj=>F.args_object_init_3 obj _ _) F.entry_zip_new (meets_zipT a b xs ys) ⟨ha,hb,?_⟩
 have z1:(zt1 s.heap a).objs.size=s.heap.objs.size + 1:=Heap.size_push ..
 have z2:(zt2 s.heap a b).objs.size=s.heap.objs.size + 2:=by rw [Heap.size_push,z1]
 have z3:(zt3 s.heap a b).objs.size=s.heap.objs.size + 3:=by rw [Heap.size_push,z2]
 have z4:(zt4 s.heap a b).objs.size=s.heap.objs.size + 4:=by rw [Heap.size_push,z3]
 have z5:(zt5 s.heap a b).objs.size=s.heap.objs.size + 5:=by rw [Heap.size_push,z4]
 have g5:(zt5 s.heap a b).get? (zt4 s.heap a b).objs.size=some _:=Heap.get?_push_size _ rfl
 have g4:(zt5 s.heap a b).get? (zt3 s.heap a b).objs.size=some _:=Heap.get?_push_of_some _ (Heap.get?_push_size _ rfl)
 have g3:(zt5 s.heap a b).get? (zt2 s.heap a b).objs.size=some _:=Heap.get?_push_of_some _ (Heap.get?_push_of_some _ (Heap.get?_push_size _ rfl))
 have g2:(zt5 s.heap a b).get? (zt1 s.heap a).objs.size=some _:=Heap.get?_push_of_some _ (Heap.get?_push_of_some _ (Heap.get?_push_of_some _ (Heap.get?_push_size _ rfl)))
 have g1:(zt5 s.heap a b).get? s.heap.objs.size=some _:=Heap.get?_push_of_some _ (Heap.get?_push_of_some _ (Heap.get?_push_of_some _ (Heap.get?_push_of_some _ (Heap.get?_push_size _ rfl))))
 show _∧_
 rw [z2,z3,z4] at g5
 rw [z1,z2] at g3
 rw [z3] at g4
 rw [z1] at g2
 rw [z4]
 exact ⟨⟨_,g5,rfl⟩,h _ ⟨g5,g3,⟨_,_,g4⟩,⟨_,g1,rfl,rfl⟩,⟨_,g2,rfl,rfl⟩⟩ z5 fun c o x=>Heap.get?_push_of_some _ (Heap.get?_push_of_some _ (Heap.get?_push_of_some _ (Heap.get?_push_of_some _ (Heap.get?_push_of_some _ x))))⟩
end
noncomputable def Itz (K:PySem.W.Frag) (p q:Addr):It :=
  ⟨fun i H=>∃ xs ys x y,SqT K H p xs∧SqT K H q ys∧xs[i]?=some x∧ys[i]?=some y,
   fun i H v H'=>∃ T x y,v=.ref T∧H T=none∧H'=upd H T (.tup [x,y])∧∀ xs ys,SqT K H p xs→SqT K H q ys→xs[i]?=some x∧ys[i]?=some y,
   fun i H=>∃ xs ys,SqT K H p xs∧SqT K H q ys∧(xs.length≤i∨ys.length≤i)⟩
theorem turn_zip {P:Program} {w:World} {K:PySem.W.Frag} {es:List Expr} {kk:Nat} {pos:Pos} (p q z ti to i j:Addr) (D:ZipApart z ti to i j p q) :
  Turn P w K (.Tuple es kk pos) (Itz K p q) [z,ti,to,i,j] z (fun k h=>ZT h z ti to i j p q .none k) where
 mem:=by simp
 obj:=fun k h st b hb=>by
  obtain ⟨a1,a2,⟨u,v,a3⟩,⟨o4,a4,c4,d4⟩,⟨o5,a5,c5,d5⟩⟩:=st
  simp only [List.mem_cons,List.not_mem_nil,or_false] at hb
  rcases hb with rfl | rfl | rfl | rfl | rfl
  ·exact ⟨_,a1,fun v e=>by cases e⟩
  ·exact ⟨_,a2,fun v e=>by cases e⟩
  ·exact ⟨_,a3,fun v e=>by cases e⟩
  ·exact ⟨_,a4,fun v e=>by rw [d4] at e; cases e⟩
  ·exact ⟨_,a5,fun v e=>by rw [d5] at e; cases e⟩
 keep:=fun k h h' st kp=>by
  obtain ⟨a1,a2,⟨u,v,a3⟩,a4,a5⟩:=st
  exact ⟨kp z (by simp) _ a1,kp ti (by simp) _ a2,⟨u,v,kp to (by simp) _ a3⟩,a4.at fun o e=>kp i (by simp) o e,a5.at fun o e=>kp j (by simp) o e⟩
 item:=by
  intro X hP hw hK hc k pins s σ H E I hf st hg
  subst hP hw hK
  obtain ⟨xs,ys,x,y,hp,hq,hx,hy⟩:=hg
  obtain ⟨us,ru,pu,_⟩:=I.tuple hp
  obtain ⟨vs,rv,pv,_⟩:=I.tuple hq
  obtain ⟨u,eu,r1⟩:=ru.get hx
  obtain ⟨v,ev,r2⟩:=rv.get hy
  have hT:s.TypeIs (.ref z) "zip":=⟨_,st.zz,rfl⟩
  unfold pyNext
  refine wpAny_bind (wpAny_attempt (wpAny_callSpecial?_slot (name:=Str.ofString "__next__") hT F.slot_zip_next (wpAny_call_entry F.slot_zip_next hT F.entry_zip_next (zipT_item D st (show s.heap.IsTuple p us.toArray from pu) (show s.heap.IsTuple q vs.toArray from pv) (by simpa using eu) (by simpa using ev) fun g Zg new sz kp=>wpAny_pure ?_) (F.args_zip_next_1 _))))
  refine ⟨_,rfl,?_⟩
  refine wpAny_letOwnedTupleGo_zip Zg.zz fun g' z' b'=>?_
  have fz:=hf z (by simp)
  have fo:=hf to (by simp)
  have fi:=hf i (by simp)
  have fj:=hf j (by simp)
  have nT:H s.heap.objs.size=none:=I.hok.fresh (Nat.le_refl _)
  have kp':∀ c o,c≠z→c≠to→c≠i→c≠j→s.heap.get? c=some o→g'.get? c=some o:=fun c o n1 n2 n3 n4 e=>b'.extBut _ _ n1 (kp c o n1 n2 n3 n4 e)
  have zne:s.heap.objs.size≠z:=Nat.ne_of_gt (Heap.lt_size st.zz)
  have new':IsPair g' s.heap.objs.size u v:=b'.extBut _ _ zne new
  have notch:∀ b,b ∉ [z,to,i,j]→b≠z∧b≠to∧b≠i∧b≠j:=fun b hb=>by simpa using hb
  have trk:∀ b o,H b=some o→b≠z∧b≠to∧b≠i∧b≠j:=fun b o e=>⟨ne_of_none e fz.1,ne_of_none e fo.1,ne_of_none e fi.1,ne_of_none e fj.1⟩
  have I1:Inv X pins σ (upd H s.heap.objs.size (.tup [x,y])) { s with heap:=g' }:=by
   refine I.step (g':=s.gens) (d':=s.drawn) (t':=s.toks) (ch:=[z,to,i,j]) (fun b hb=>?_) (fun b o _ _ hc e _=>?_) (fun b o _ _ hc e _=>?_) (fun b o hc e n=>?_) (fun b o hc e=>?_) (fun b xs e=>?_) (fun b o u e=>?_) (fun b ps e=>⟨#[],?_⟩) (fun m hm=>?_) (fun b o e=>?_) I.bare
   ·simp only [List.mem_cons,List.not_mem_nil,or_false] at hb
    rcases hb with rfl | rfl | rfl | rfl
    ·exact ⟨fz.2.2.2.1,fz.2.1,fz.2.2.2.2.1,fz.2.2.2.2.2⟩
    ·exact ⟨fo.2.2.2.1,fo.2.1,fo.2.2.2.2.1,fo.2.2.2.2.2⟩
    ·exact ⟨fi.2.2.2.1,fi.2.1,fi.2.2.2.2.1,fi.2.2.2.2.2⟩
    ·exact ⟨fj.2.2.2.1,fj.2.1,fj.2.2.2.2.1,fj.2.2.2.2.2⟩
   ·obtain ⟨n1,n2,n3,n4⟩:=notch b hc
    exact kp' b o n1 n2 n3 n4 e
   ·obtain ⟨n1,n2,n3,n4⟩:=notch b hc
    exact ⟨o.slots,kp' b o n1 n2 n3 n4 e⟩
   ·rw [upd_ne (Nat.ne_of_lt (Heap.lt_size e))]; exact n
   ·obtain ⟨n1,n2,n3,n4⟩:=notch b hc
    exact ⟨o,kp' b o n1 n2 n3 n4 e⟩
   ·rw [upd_ne (ne_of_none e nT)]; exact e
   ·rw [upd_ne (ne_of_none e nT)]; exact e
   ·rw [upd_ne (ne_of_none e nT),e]; simp
   ·obtain ⟨o,es,ep,ho,r⟩:=hm
    exact ⟨o,es,ep,kp' _ o (Ne.symm fz.2.1) (Ne.symm fo.2.1) (Ne.symm fi.2.1) (Ne.symm fj.2.1) ho,r⟩
   ·by_cases hb:b=s.heap.objs.size
    ·subst hb
     rw [upd_same] at e
     cases e
     exact ⟨by show 2≤sizeLine; rw [sizeLine_eq]; decide,[u,v],.cons r1 (.cons r2 .nil),⟨_,new',rfl,0,rfl⟩⟩
    ·rw [upd_ne hb] at e
     refine (I.hok b o e).stay (fun c v' hcc r=>?_) (fun c r=>by rw [upd_ne (ne_of_none r nT)]; exact r) fun c xs r=>by rw [upd_ne (ne_of_none r nT)]; exact r
     rcases hcc with rfl | hcc
     ·obtain ⟨n1,n2,n3,n4⟩:=trk c o e
      exact kp' c v' n1 n2 n3 n4 r
     ·obtain ⟨n1,n2,n3,n4⟩:=trk c _ hcc
      exact kp' c v' n1 n2 n3 n4 r
  refine ⟨.ref s.heap.objs.size,_,I1,rfl,⟨_,x,y,rfl,nT,rfl,fun xs' ys' h1 h2=>?_⟩,?_,fun b hb=>?_⟩
  ·rw [I.tuple_inj h1 hp,I.tuple_inj h2 hq]
   exact ⟨hx,hy⟩
  ·obtain ⟨a1,a2,⟨c1,c2,a3⟩,a4,a5⟩:=Zg
   exact ⟨z',b'.extBut _ _ D.TIz a2,⟨c1,c2,b'.extBut _ _ D.TOz a3⟩,a4.extBut b'.extBut D.i1z,a5.extBut b'.extBut D.i2z⟩
  ·have hb':∃ o,s.heap.get? b=some o:=by
    obtain ⟨a1,a2,⟨c1,c2,a3⟩,⟨o4,a4,_⟩,⟨o5,a5,_⟩⟩:=st
    simp only [List.mem_cons,List.not_mem_nil,or_false] at hb
    rcases hb with rfl | rfl | rfl | rfl | rfl
    ·exact ⟨_,a1⟩
    ·exact ⟨_,a2⟩
    ·exact ⟨_,a3⟩
    ·exact ⟨_,a4⟩
    ·exact ⟨_,a5⟩
   obtain ⟨o,e⟩:=hb'
   rw [upd_ne (Nat.ne_of_lt (Heap.lt_size e))]
   exact (hf b hb).1
 done:=by
  intro X hP hw hK hc k pins s σ H E I hf st hg
  subst hP hw hK
  obtain ⟨xs,ys,hp,hq,hend⟩:=hg
  obtain ⟨us,ru,pu,_⟩:=I.tuple hp
  obtain ⟨vs,rv,pv,_⟩:=I.tuple hq
  have l1:=ru.length
  have l2:=rv.length
  have hT:s.TypeIs (.ref z) "zip":=⟨_,st.zz,rfl⟩
  unfold pyNext
  refine wpAny_bind (wpAny_attempt (wpAny_callSpecial?_slot (name:=Str.ofString "__next__") hT F.slot_zip_next (wpAny_call_entry F.slot_zip_next hT F.entry_zip_next (zipT_stop (I.ok.hd hc) D st (show s.heap.IsTuple p us.toArray from pu) (show s.heap.IsTuple q vs.toArray from pv) ?_ fun g e kp ⟨o,ho,hcl⟩=>?_) (F.args_zip_next_1 _))))
  ·rcases hend with h | h
   ·exact .inl (by simp; lia)
   ·exact .inr (by simp; lia)
  ·refine wpAny_bind (wpAny_isInstance (T:="StopIteration") (b:=true) ⟨o,ho,hcl⟩ isSubtype_stop ?_)
   refine wpAny_pure ⟨rfl,?_⟩
   have fz:=hf z (by simp)
   have fo:=hf to (by simp)
   have fi:=hf i (by simp)
   have fj:=hf j (by simp)
   have notch:∀ b,b ∉ [z,to,i,j]→b≠z∧b≠to∧b≠i∧b≠j:=fun b hb=>by simpa using hb
   have trk:∀ b o,H b=some o→b≠z∧b≠to∧b≠i∧b≠j:=fun b o e=>⟨ne_of_none e fz.1,ne_of_none e fo.1,ne_of_none e fi.1,ne_of_none e fj.1⟩
   refine I.step (g':=s.gens) (d':=s.drawn) (t':=s.toks) (ch:=[z,to,i,j]) (fun b hb=>?_) (fun b o _ _ hc e _=>?_) (fun b o _ _ hc e _=>?_) (fun b o hc e n=>n) (fun b o hc e=>?_) (fun b xs e=>e) (fun b o u e=>e) (fun b ps e=>⟨#[],by rw [e]; simp⟩) (fun m hm=>?_) (fun b o e=>?_) I.bare
   ·simp only [List.mem_cons,List.not_mem_nil,or_false] at hb
    rcases hb with rfl | rfl | rfl | rfl
    ·exact ⟨fz.2.2.2.1,fz.2.1,fz.2.2.2.2.1,fz.2.2.2.2.2⟩
    ·exact ⟨fo.2.2.2.1,fo.2.1,fo.2.2.2.2.1,fo.2.2.2.2.2⟩
    ·exact ⟨fi.2.2.2.1,fi.2.1,fi.2.2.2.2.1,fi.2.2.2.2.2⟩
    ·exact ⟨fj.2.2.2.1,fj.2.1,fj.2.2.2.2.1,fj.2.2.2.2.2⟩
   ·obtain ⟨n1,n2,n3,n4⟩:=notch b hc
    exact kp b o n1 n2 n3 n4 e
   ·obtain ⟨n1,n2,n3,n4⟩:=notch b hc
    exact ⟨o.slots,kp b o n1 n2 n3 n4 e⟩
   ·obtain ⟨n1,n2,n3,n4⟩:=notch b hc
    exact ⟨o,kp b o n1 n2 n3 n4 e⟩
   ·obtain ⟨o,es,ep,ho,r⟩:=hm
    exact ⟨o,es,ep,kp _ o (Ne.symm fz.2.1) (Ne.symm fo.2.1) (Ne.symm fi.2.1) (Ne.symm fj.2.1) ho,r⟩
   ·refine (I.hok b o e).stay (fun c v' hcc r=>?_) (fun _ r=>r) fun _ _ r=>r
    rcases hcc with rfl | hcc
    ·obtain ⟨n1,n2,n3,n4⟩:=trk c o e
     exact kp c v' n1 n2 n3 n4 r
    ·obtain ⟨n1,n2,n3,n4⟩:=trk c _ hcc
     exact kp c v' n1 n2 n3 n4 r
 self:=fun _ _ _ _ _ st h=>wpAny_pyIter_zip st.zz h
theorem bt_zip:bootBuiltins "zip"=some (.type "zip"):=by decide +kernel
section
variable {X:Cx} {es:List Expr} {kk:Nat} {tpos:Pos}
noncomputable def iZip (K:PySem.W.Frag) (ta:TA):TI:=fun σ H R=>ta σ H fun vs H1=>∃ p q,vs=[.ref p,.ref q]∧(∃ xs,SqT K H1 p xs)∧(∃ ys,SqT K H1 q ys)∧R (Itz K p q) H1
theorem pi_zip {a b:Expr} {ta:TA} {p pos:Pos} (hm:X.mg "zip"=none) (ha:PA X [a,b] ta) (hg:Gl X "zip":=by rfl) (hs:starEach [a,b] X.env=[(false,eval a X.env),(false,eval b X.env)]:=by rfl) (hs2:starEach [b] X.env=[(false,eval b X.env)]:=by rfl) :
  PI X (.Tuple es kk tpos) (.Call (.Name "zip" p) [a,b] [] pos) (iZip X.K ta):=by
 intro pins s σ H R I h
 refine Call_ (ld_blt I hg hm bt_zip (PyProof.Rows.callWith_type1 (thn (ha pos pins s σ H _ I h) fun us s1 ⟨vs,H1,I1,r1,q1⟩=>?_) (by rw [hs,hs2]) (by rw [hs2]; rfl)))
 obtain ⟨x,y,e,⟨xs,hx⟩,⟨ys,hy⟩,q⟩:=q1
 subst e
 obtain ⟨u,v,rfl,ru,rv⟩:=vals2 r1
 cases ru; cases rv
 obtain ⟨us,_,px,_⟩:=I1.tuple hx
 obtain ⟨vs,_,py,_⟩:=I1.tuple hy
 have lx:x < s1.heap.objs.size:=px.lt
 have ly:y < s1.heap.objs.size:=py.lt
 refine call_zipT (show s1.heap.IsTuple x us.toArray from px) (show s1.heap.IsTuple y vs.toArray from py) fun g Zg sz kp=>?_
 refine wpAny_pyIter_zip Zg.zz ?_
 refine ⟨_,_,_,_,H1,rfl,I1.kept (t':=s1.toks) kp,turn_zip x y _ _ _ _ _ (zipApart_new lx ly),Zg,fun b hb=>?_,q⟩
 have hge:s1.heap.objs.size≤b:=by
  simp only [List.mem_cons,List.not_mem_nil,or_false] at hb
  rcases hb with rfl | rfl | rfl | rfl | rfl <;> lia
 exact I1.fpOk hge (I1.hok.fresh hge)
end
end L2
namespace L2
open PySem PySem.Spec PyProof.Rows PySem.Builtin.Str
section
variable {X:Cx}
theorem mt_index:MtR X "list.index" (fun x xs H Q=>∃ (p:Addr) (ys:List V) (y:V) (j:Nat),x=.ref p∧xs=[y]∧SqL X.K H p ys∧flatV y=true∧ys.all flatV=true∧(∃ z,ys[j]?=some z∧eqV z y=true)∧(∀ (m:Nat) (z:V),m < j→ys[m]?=some z→eqV z y=false)∧Q (.int j) H):=by
 intro pins s σ H x xs v us Q I rx rs h
 obtain ⟨p,ys,y,j,rfl,rfl,hS,fy,fys,⟨z,hz,ez⟩,hno,q⟩:=h
 cases rx
 obtain ⟨u,rfl,ru⟩:=vals1 rs
 obtain ⟨its,rv,pl,hzz⟩:=I.list hS
 obtain ⟨o,n,e,c,dn,d⟩:=id pl
 have hl:=rv.length
 have jl:j < its.length:=by have:=(List.getElem?_eq_some_iff.mp hz).1; lia
 have line:=line63
 have all:∀ u'∈its,SeqAt.EqAt X.A.in1 s u' u (eqU y u'):=mem_eqAt ru fy rv fys
 have at_:∀ (m:Nat) (hm:m < its.toArray.size) (z':V),ys[m]?=some z'→eqU y its.toArray[m]=eqV z' y:=by
  intro m hm z' hz'
  obtain ⟨u',hu',ru'⟩:=rv.get hz'
  have hf:flatV z'=true:=List.all_eq_true.mp fys z' (List.mem_of_getElem? hz')
  have e1:its.toArray[m]=u':=by
   have hm':m < its.length:=by simpa using hm
   have:=List.getElem?_eq_getElem hm'
   rw [hu'] at this
   simpa using (Option.some.inj this).symm
  rw [e1]
  exact eqU_of ru' hf
 obtain ⟨oc,od,ot,sl⟩:=o
 simp only at c dn d
 subst c dn d
 refine call_meets F.slot_list_index ⟨_,e,rfl⟩ F.entry_list_index (F.args_list_index_2 _ _) (SeqAt.list_indexAt p its.toArray n none sl u (eqU y) j (by simpa using jl) (by lia) ?_ ?_) ⟨e,fun u' hu'=>all u' (by simpa using hu'),?_⟩
 ·rw [at_ j (by simpa using jl) z hz]; exact ez
 ·intro m hm hlt
  obtain ⟨z',hz'⟩:∃ z',ys[m]?=some z':=⟨ys[m]'(by simp at hm; lia),List.getElem?_eq_getElem _⟩
  rw [at_ m hm z' hz']
  exact hno m z' hlt hz'
 ·exact ⟨.int j,H,I.tok _,⟨_,rfl⟩,q⟩
end
end L2
namespace L2
open PySem PySem.Spec PyProof.Rows PySem.Builtin.Str
section
variable {prog:Program} {w:World} {A:Around} {E:Value→Shared→Prop} {s:Shared}
end
section
variable {X:Cx} {pos p2:Pos}
end
end L2
namespace L2
open PySem PySem.Spec PyProof.Rows
section
variable {X:Cx}
theorem mt_insert:MtM X "list.insert" (fun x vs H Q=>∃ l xs y,∃ k:Nat,x=.ref l∧vs=[.int (k:Int),y]∧H l=some (.lst xs)∧k≤xs.length∧xs.length≤1000000∧Q .non (upd H l (.lst (xs.take k++y :: xs.drop k)))):=by
 intro pins s σ H x vs v us Q I rx rv h
 obtain ⟨l,xs,y,k,rfl,rfl,hH,hk,hz,q⟩:=h
 cases rx
 obtain ⟨u1,u,rfl,⟨t,rfl⟩,ru⟩:=vals2 rv
 obtain ⟨z,its,n,r,hl,e⟩:=I.lstM hH
 have sz:=sizeLine_eq
 have ll:xs.length=its.length:=hl
 generalize hj:(k:Int)=j
 have fit0:Builtin.List.listFitsIndex j=true:=by
  unfold Builtin.List.listFitsIndex
  rw [Bool.and_eq_true,decide_eq_true_eq,decide_eq_true_eq]
  lia
 have fit:¬ (!Builtin.List.listFitsIndex j)=true:=by rw [fit0]; exact Bool.false_ne_true
 have hs1:its.toArray.size≤sizeLine:=by rw [List.size_toArray]; lia
 refine call_meets F.slot_list_insert ⟨_,e,rfl⟩ F.entry_list_insert (F.args_list_insert_3 _ _ _) (AutoSeq1.list_insert_list_int_val_1 l its.toArray n j t u fit hs1) ⟨e,?_⟩
 refine ⟨.non,_,I.lset (its':=its.take k++u :: its.drop k) hH e ?_ ?_ ?_,rfl,q⟩
 ·have ek:(if j < 0 then (j + (its.toArray.size:Int)).toNat else min j.toNat its.toArray.size)=k:=by
   rw [if_neg (by lia),List.size_toArray]; lia
  show ((its.toArray.extract 0 (if j < 0 then (j + (its.toArray.size:Int)).toNat else min j.toNat its.toArray.size)).push u++its.toArray.extract (if j < 0 then (j + (its.toArray.size:Int)).toNat else min j.toNat its.toArray.size) its.toArray.size)=_
  rw [ek]
  apply Array.toList_inj.mp
  rw [Array.toList_append,Array.toList_push,Array.toList_extract,Array.toList_extract]
  show (List.take (k - 0) (List.drop 0 its)++[u])++List.take (its.length - k) (List.drop k its)=its.take k++u :: its.drop k
  rw [List.drop_zero,Nat.sub_zero,List.take_of_length_le (l:=List.drop k its) (by rw [List.length_drop]; exact Nat.le_refl _),List.append_assoc]
  rfl
 ·exact (r.take k).append (.cons ru (r.drop k))
 ·rw [List.length_append,List.length_cons,List.length_take,List.length_drop]; lia
end
theorem drawsT {P:Program} {w:World} {A:Around} (hh:A.handled=none) (it p:Addr) (hne:p≠it) (us:Array Value):Draws P w A it [it,p] us.size (fun i x=>us[i]?=some x) (fun i h=>h.IsTupleIter it p i∧h.IsTuple p us) where
 live:=fun i h st=>by
  obtain ⟨⟨o,ho,_⟩,_⟩:=st
  exact ⟨o,ho⟩
 frame:=fun i h h' st kp=>⟨st.1.at fun o e=>kp it (by simp) o e,st.2.at fun o e=>kp p (by simp) o e⟩
 item:=fun i s Q E hi st hQ=>nextT_item st.1 st.2 (v:=us[i]) (by simp [hi]) fun g h1 h2=>hQ _ g s.toks (by simp [hi]) ⟨h1,st.2.extBut h2.extBut hne⟩ h2
 done:=fun s Q E st hE=>nextT_stop hh st.1 st.2 (by simp) fun g e h1 h2=>hE g e h1 h2
section
variable {prog:Program} {w:World} {A:Around} {E:Value→Shared→Prop} {s:Shared}
noncomputable abbrev en1 (h:Heap) (p:Addr):Heap:=h.push { cls:=.type "tuple_iterator",data:=.fields #[.ref p,.int 0 0] }
noncomputable abbrev en2 (h:Heap) (p:Addr):Heap:=(en1 h p).push { cls:=.type "enumerate",data:=.fields #[.none,.bool false,.ref h.objs.size,rawInt 0,.none,.none] }
theorem meets_enumT (p:Addr) (us:Array Value):Meets (Builtin.«enumerate.__new__» ⟨[.type "enumerate",.ref p],[]⟩)
  (fun _ R s=>s.heap.IsTuple p us∧R (.ok (.ret (.ref (en1 s.heap p).objs.size))) { s with heap:=en2 s.heap p }) :=
 .of_wp fun prog w A R s h=>by
  obtain ⟨hp,g,d,tk,os⟩:=s
  obtain ⟨h1,h⟩:=h
  have hsub:=sub_enumerate
  have t1:Heap.IsTuple (Shared.heap ⟨hp,g,d,tk,os⟩) p us:=h1
  wp_walk using wpAny_pyIter_tuple t1
  refine wpAny_stack_any fun st=>wpAny_pure ?_
  split
  ·rename_i c _ _ _ _ _
   cases (c == Value.type "enumerate")
   ·wp_walk using wpAny_pyIter_tuple t1
    exact ⟨_,rfl,h⟩
   ·wp_walk using wpAny_pyIter_tuple t1
    exact ⟨_,rfl,h⟩
  ·wp_walk using wpAny_pyIter_tuple t1
   exact ⟨_,rfl,h⟩
theorem call_enumT {p:Addr} {us:Array Value} {Q:Value→Shared→Prop} (hp:s.heap.IsTuple p us)
  (h:∀ g,IsEnum g (s.heap.objs.size + 1) s.heap.objs.size 0 .none→g.IsTupleIter s.heap.objs.size p 0→g.objs.size=s.heap.objs.size + 2→(∀ c o,s.heap.get? c=some o→g.get? c=some o) →
   Q (.ref (s.heap.objs.size + 1)) { s with heap:=g }):wpAny (model prog w) A (call (.type "enumerate") [.ref p]) Q E s:=by
 refine callType_new F.called_enumerate (by decide) (F.typeCall_enumerate_1 _) (F.newCall_enumerate_1 _) (fun obj=>F.args_object_init_2 obj _) F.entry_enumerate_new (meets_enumT p us) ⟨hp,?_⟩
 have z1:(en1 s.heap p).objs.size=s.heap.objs.size + 1:=Heap.size_push ..
 have g2:(en2 s.heap p).get? (en1 s.heap p).objs.size=some _:=Heap.get?_push_size _ rfl
 have g1:(en2 s.heap p).get? s.heap.objs.size=some _:=Heap.get?_push_of_some _ (Heap.get?_push_size _ rfl)
 show _∧_
 rw [z1] at g2
 rw [z1]
 exact ⟨⟨_,g2,rfl⟩,h _ g2 ⟨_,g1,rfl,rfl⟩ (by rw [Heap.size_push,z1]) fun c o x=>Heap.get?_push_of_some _ (Heap.get?_push_of_some _ x)⟩
end
noncomputable def Ite (K:PySem.W.Frag) (p:Addr):It :=
  ⟨fun i H=>∃ xs x,SqT K H p xs∧xs[i]?=some x,
   fun i H v H'=>∃ T x,v=.ref T∧H T=none∧H'=upd H T (.tup [.int (i:Int),x])∧∀ xs,SqT K H p xs→xs[i]?=some x,
   fun i H=>∃ xs,SqT K H p xs∧xs.length=i⟩
theorem turn_enum {P:Program} {w:World} {K:PySem.W.Frag} {es:List Expr} {kk:Nat} {pos:Pos} (p e it:Addr) (hei:e≠it) (hpe:p≠e) (hpi:p≠it) :
  Turn P w K (.Tuple es kk pos) (Ite K p) [e,it] e (fun k h=>(∃ old,IsEnum h e it (k:Int) old)∧h.IsTupleIter it p k) where
 mem:=by simp
 obj:=fun k h st b hb=>by
  obtain ⟨⟨old,a1⟩,⟨o2,a2,c2,d2⟩⟩:=st
  simp only [List.mem_cons,List.not_mem_nil,or_false] at hb
  rcases hb with rfl | rfl
  ·exact ⟨_,a1,fun v e=>by cases e⟩
  ·exact ⟨_,a2,fun v e=>by rw [d2] at e; cases e⟩
 keep:=fun k h h' st kp=>by
  obtain ⟨⟨old,a1⟩,a2⟩:=st
  exact ⟨⟨old,kp e (by simp) _ a1⟩,a2.at fun o x=>kp it (by simp) o x⟩
 item:=by
  intro X hP hw hK hc k pins s σ H E I hf st hg
  subst hP hw hK
  obtain ⟨xs,x,hp,hx⟩:=hg
  obtain ⟨us,ru,pu,_⟩:=I.tuple hp
  obtain ⟨u,eu,r1⟩:=ru.get hx
  obtain ⟨⟨old,hE⟩,hI⟩:=st
  have hk:k < us.toArray.size:=by
   have:=(List.getElem?_eq_some_iff.mp eu).1
   rw [List.size_toArray]; exact this
  refine wpAny_pyNext_enum_itemD (drawsT (A:=X.A.in1) (I.ok.hd hc) it p hpi us.toArray) hE ⟨hI,pu⟩ hk hei (by simp [hei,Ne.symm hpe]) fun v g tk hv ho st' new sz kp=>⟨_,rfl,?_⟩
  have ev:v=u:=by
   have h1:us.toArray[k]?=some v:=hv
   rw [show us.toArray[k]?=us[k]? by simp] at h1
   rw [h1] at eu
   exact Option.some.inj eu
  subst ev
  refine wpAny_letOwnedTupleGo_enum ho fun g' z' b'=>?_
  have fe:=hf e (by simp)
  have fi:=hf it (by simp)
  have nT:H s.heap.objs.size=none:=I.hok.fresh (Nat.le_refl _)
  have kp':∀ c o,c≠e→c≠it→s.heap.get? c=some o→g'.get? c=some o:=fun c o n1 n2 x=>b'.extBut _ _ n1 (kp c o n1 n2 x)
  have ene:s.heap.objs.size≠e:=Nat.ne_of_gt (Heap.lt_size hE)
  have new':=b'.extBut _ _ ene new
  have notch:∀ b,b ∉ [e,it]→b≠e∧b≠it:=fun b hb=>by simpa using hb
  have trk:∀ b o,H b=some o→b≠e∧b≠it:=fun b o x=>⟨ne_of_none x fe.1,ne_of_none x fi.1⟩
  have I1:Inv X pins σ (upd H s.heap.objs.size (.tup [.int (k:Int),x])) { s with heap:=g',toks:=tk + 1 }:=by
   refine I.step (g':=s.gens) (d':=s.drawn) (t':=tk + 1) (ch:=[e,it]) (fun b hb=>?_) (fun b o _ _ hc e _=>?_) (fun b o _ _ hc e _=>?_) (fun b o hc e n=>?_) (fun b o hc e=>?_) (fun b xs e=>?_) (fun b o u e=>?_) (fun b ps e=>⟨#[],?_⟩) (fun m hm=>?_) (fun b o e=>?_) I.bare
   ·simp only [List.mem_cons,List.not_mem_nil,or_false] at hb
    rcases hb with rfl | rfl
    ·exact ⟨fe.2.2.2.1,fe.2.1,fe.2.2.2.2.1,fe.2.2.2.2.2⟩
    ·exact ⟨fi.2.2.2.1,fi.2.1,fi.2.2.2.2.1,fi.2.2.2.2.2⟩
   ·obtain ⟨n1,n2⟩:=notch b hc
    exact kp' b o n1 n2 e
   ·obtain ⟨n1,n2⟩:=notch b hc
    exact ⟨o.slots,kp' b o n1 n2 e⟩
   ·rw [upd_ne (Nat.ne_of_lt (Heap.lt_size e))]; exact n
   ·obtain ⟨n1,n2⟩:=notch b hc
    exact ⟨o,kp' b o n1 n2 e⟩
   ·rw [upd_ne (ne_of_none e nT)]; exact e
   ·rw [upd_ne (ne_of_none e nT)]; exact e
   ·rw [upd_ne (ne_of_none e nT),e]; simp
   ·obtain ⟨o,es,ep,ho,r⟩:=hm
    exact ⟨o,es,ep,kp' _ o (Ne.symm fe.2.1) (Ne.symm fi.2.1) ho,r⟩
   ·by_cases hb:b=s.heap.objs.size
    ·subst hb
     rw [upd_same] at e
     cases e
     exact ⟨by show 2≤sizeLine; rw [sizeLine_eq]; decide,[.int (k:Int) tk,v],.cons ⟨_,rfl⟩ (.cons r1 .nil),⟨_,new',rfl,0,rfl⟩⟩
    ·rw [upd_ne hb] at e
     refine (I.hok b o e).stay (fun c v' hcc r=>?_) (fun c r=>by rw [upd_ne (ne_of_none r nT)]; exact r) fun c xs r=>by rw [upd_ne (ne_of_none r nT)]; exact r
     rcases hcc with rfl | hcc
     ·obtain ⟨n1,n2⟩:=trk c o e
      exact kp' c v' n1 n2 r
     ·obtain ⟨n1,n2⟩:=trk c _ hcc
      exact kp' c v' n1 n2 r
  refine ⟨.ref s.heap.objs.size,_,I1,rfl,⟨_,x,rfl,nT,rfl,fun xs' h1=>?_⟩,⟨⟨_,z'⟩,st'.1.extBut b'.extBut (Ne.symm hei)⟩,fun b hb=>?_⟩
  ·rw [I.tuple_inj h1 hp]
   exact hx
  ·have hb':∃ o,s.heap.get? b=some o:=by
    obtain ⟨o2,a2,_⟩:=hI
    simp only [List.mem_cons,List.not_mem_nil,or_false] at hb
    rcases hb with rfl | rfl
    ·exact ⟨_,hE⟩
    ·exact ⟨_,a2⟩
   obtain ⟨o,e⟩:=hb'
   rw [upd_ne (Nat.ne_of_lt (Heap.lt_size e))]
   exact (hf b hb).1
 done:=by
  intro X hP hw hK hc k pins s σ H E I hf st hg
  subst hP hw hK
  obtain ⟨xs,hp,hend⟩:=hg
  obtain ⟨us,ru,pu,_⟩:=I.tuple hp
  obtain ⟨⟨old,hE⟩,hI⟩:=st
  have hk:k=us.toArray.size:=by
   have:=ru.length
   rw [List.size_toArray]; lia
  refine wpAny_pyNext_enum_endD (drawsT (A:=X.A.in1) (I.ok.hd hc) it p hpi us.toArray) hE ⟨hk ▸ hI,pu⟩ fun g kp=>⟨rfl,?_⟩
  have fi:=hf it (by simp)
  refine I.step (g':=s.gens) (d':=s.drawn) (t':=s.toks) (ch:=[it]) (fun b hb=>?_) (fun b o _ _ hc e _=>?_) (fun b o _ _ hc e _=>?_) (fun b o hc e n=>n) (fun b o hc e=>?_) (fun b xs e=>e) (fun b o u e=>e) (fun b ps e=>⟨#[],by rw [e]; simp⟩) (fun m hm=>?_) (fun b o e=>?_) I.bare
  ·rw [List.mem_singleton.mp hb]
   exact ⟨fi.2.2.2.1,fi.2.1,fi.2.2.2.2.1,fi.2.2.2.2.2⟩
  ·exact kp b o (by simpa using hc) e
  ·exact ⟨o.slots,kp b o (by simpa using hc) e⟩
  ·exact ⟨o,kp b o (by simpa using hc) e⟩
  ·obtain ⟨o,es,ep,ho,r⟩:=hm
   exact ⟨o,es,ep,kp _ o (Ne.symm fi.2.1) ho,r⟩
  ·refine (I.hok b o e).stay (fun c v' hcc r=>?_) (fun _ r=>r) fun _ _ r=>r
   rcases hcc with rfl | hcc
   ·exact kp c v' (ne_of_none e fi.1) r
   ·exact kp c v' (ne_of_none hcc fi.1) r
 self:=fun _ _ _ _ _ st h=>by
  obtain ⟨⟨old,hE⟩,_⟩:=st
  exact wpAny_pyIter_enum hE h
theorem bt_enumerate:bootBuiltins "enumerate"=some (.type "enumerate"):=by decide +kernel
section
variable {X:Cx} {es:List Expr} {kk:Nat} {tpos:Pos}
noncomputable def iEnum (K:PySem.W.Frag) (ta:TA):TI:=fun σ H R=>ta σ H fun vs H1=>∃ p,vs=[.ref p]∧(∃ xs,SqT K H1 p xs)∧R (Ite K p) H1
theorem pi_enum {a:Expr} {ta:TA} {p pos:Pos} (hm:X.mg "enumerate"=none) (ha:PA X [a] ta) (hg:Gl X "enumerate":=by rfl) (hs:starEach [a] X.env=[(false,eval a X.env)]:=by rfl) :
  PI X (.Tuple es kk tpos) (.Call (.Name "enumerate" p) [a] [] pos) (iEnum X.K ta):=by
 intro pins s σ H R I h
 refine Call_ (ld_blt I hg hm bt_enumerate (PyProof.Rows.callWith_type1 (thn (ha pos pins s σ H _ I h) fun us s1 ⟨vs,H1,I1,r1,q1⟩=>?_) hs rfl))
 obtain ⟨x,e,⟨xs,hx⟩,q⟩:=q1
 subst e
 obtain ⟨u,rfl,ru⟩:=vals1 r1
 cases ru
 obtain ⟨us,_,px,_⟩:=I1.tuple hx
 have lx:x < s1.heap.objs.size:=px.lt
 refine call_enumT (show s1.heap.IsTuple x us.toArray from px) fun g hE hI sz kp=>?_
 refine wpAny_pyIter_enum hE ?_
 refine ⟨_,_,_,_,H1,rfl,I1.kept (t':=s1.toks) kp,turn_enum x (s1.heap.objs.size + 1) s1.heap.objs.size (Nat.succ_ne_self _) (Nat.ne_of_lt (Nat.lt_succ_of_lt lx)) (Nat.ne_of_lt lx),⟨⟨_,hE⟩,hI⟩,fun b hb=>?_,q⟩
 have hge:s1.heap.objs.size≤b:=by
  simp only [List.mem_cons,List.not_mem_nil,or_false] at hb
  rcases hb with rfl | rfl <;> lia
 exact I1.fpOk hge (I1.hok.fresh hge)
end
theorem for_enum {K:PySem.W.Frag} {p:Addr} {xs:List V} {g:TG} {tb:TS} {D:Ends} {σ:St} {H:Hp} (Pv:Nat→St→Hp→Prop) (h0:Pv 0 σ H) (hl:∀ i σ H,i≤xs.length→Pv i σ H→SqT K H p xs)
  (hs:∀ i T x σ H,xs[i]?=some x→Pv i σ H→H T=none→g (.ref T) σ (upd H T (.tup [.int (i:Int),x])) fun σ2 H2=>tb { D with nx:=Pv (i + 1),ct:=Pv (i + 1),bk:=D.nx } σ2 H2) (hd:∀ σ H,Pv xs.length σ H→D.nx σ H) :
  ∃ W:Nat→Nat→St→Hp→Prop,(∃ m,W 0 m σ H)∧∀ i m σ H,W i m σ H →
   ((Ite K p).stop i H∧D.nx σ H)∨((Ite K p).go i H∧∃ N:St→Hp→Prop,(∀ σ' H',N σ' H'→∃ m',m' < m∧W (i + 1) m' σ' H')∧∀ x H',(Ite K p).yld i H x H'→g x σ H' fun σ2 H2=>tb { D with nx:=N,ct:=N,bk:=D.nx } σ2 H2):=by
 refine ⟨fun i m σ H=>m=xs.length - i∧i≤xs.length∧Pv i σ H,⟨xs.length,by simp,Nat.zero_le _,h0⟩,?_⟩
 rintro i m σ H ⟨rfl,hi,pp⟩
 have q:=hl i σ H hi pp
 by_cases hlt:i < xs.length
 ·refine .inr ⟨⟨xs,xs[i],q,by simp [hlt]⟩,Pv (i + 1),fun σ' H' p'=>⟨xs.length - (i + 1),by lia,rfl,hlt,p'⟩,fun v H' y=>?_⟩
  obtain ⟨T,x,rfl,hT,rfl,y⟩:=y
  exact hs i T x σ H (y xs q) pp hT
 ·have e:i=xs.length:=by lia
  subst e
  exact .inl ⟨⟨xs,q,rfl⟩,hd σ H pp⟩
theorem for_zip {K:PySem.W.Frag} {p r:Addr} {xs ys:List V} {n:Nat} {g:TG} {tb:TS} {D:Ends} {σ:St} {H:Hp} (hn:n=min xs.length ys.length) (Pv:Nat→St→Hp→Prop) (h0:Pv 0 σ H) (hl:∀ i σ H,i≤n→Pv i σ H→SqT K H p xs∧SqT K H r ys)
  (hs:∀ i T x y σ H,xs[i]?=some x→ys[i]?=some y→Pv i σ H→H T=none→g (.ref T) σ (upd H T (.tup [x,y])) fun σ2 H2=>tb { D with nx:=Pv (i + 1),ct:=Pv (i + 1),bk:=D.nx } σ2 H2) (hd:∀ σ H,Pv n σ H→D.nx σ H) :
  ∃ W:Nat→Nat→St→Hp→Prop,(∃ m,W 0 m σ H)∧∀ i m σ H,W i m σ H →
   ((Itz K p r).stop i H∧D.nx σ H)∨((Itz K p r).go i H∧∃ N:St→Hp→Prop,(∀ σ' H',N σ' H'→∃ m',m' < m∧W (i + 1) m' σ' H')∧∀ x H',(Itz K p r).yld i H x H'→g x σ H' fun σ2 H2=>tb { D with nx:=N,ct:=N,bk:=D.nx } σ2 H2):=by
 refine ⟨fun i m σ H=>m=n - i∧i≤n∧Pv i σ H,⟨n,by simp,Nat.zero_le _,h0⟩,?_⟩
 rintro i m σ H ⟨rfl,hi,pp⟩
 obtain ⟨q1,q2⟩:=hl i σ H hi pp
 by_cases hlt:i < n
 ·have l1:i < xs.length:=by lia
  have l2:i < ys.length:=by lia
  refine .inr ⟨⟨xs,ys,xs[i],ys[i],q1,q2,by simp [l1],by simp [l2]⟩,Pv (i + 1),fun σ' H' p'=>⟨n - (i + 1),by lia,rfl,hlt,p'⟩,fun v H' y=>?_⟩
  obtain ⟨T,x,y,rfl,hT,rfl,hxy⟩:=y
  obtain ⟨e1,e2⟩:=hxy xs ys q1 q2
  exact hs i T x y σ H e1 e2 pp hT
 ·have e:i=n:=by lia
  subst e
  exact .inl ⟨⟨xs,ys,q1,q2,by lia⟩,hd σ H pp⟩
end L2
namespace HT
open PySem PySem.Spec PyProof.Rows
section
variable {prog:Program} {w:World} {A:Around} {E:Value→Shared→Prop} {s:Shared}
theorem getItem_tuple_whole {t sl:Addr} {items:Array Value} {vl vu:Value} {lo hi:Option Int} {Q:Value→Shared→Prop} (ht:IsTup s.heap t items) (hs:s.heap.IsSliceOf sl vl vu .none) (pl:IsPart vl lo) (pu:IsPart vu hi)
    (h1:sIx items.size 0 lo=0) (h2:sIx items.size items.size hi=items.size)
    (h:Q (.ref t) s):wpAny (model prog w) A (getItem (.ref t) (.ref sl)) Q E s:=by
  obtain ⟨os,hos,hcs,hds⟩:=id hs
  have hTs:s.TypeIs (.ref sl) "slice":=⟨os,hos,hcs⟩
  unfold getItem
  try with_reducible refine wpAny_holding ?_
  first | refine wpAny_bind (wpAny_pure ?_) | skip
  refine wpAny_bind (wpAny_sequenceKey ht.typeIs (by decide) ?_)
  refine wpAny_bind (wpAny_callSpecial?_slot (name:=Str.ofString "__getitem__") ht.typeIs PyProof.Rows.slot_tuple_getitem
    (wpAny_call_entry PyProof.Rows.slot_tuple_getitem ht.typeIs entry_tuple_getitem ?_ (args_tuple_getitem _ _)))
  show wpAny _ _ (Builtin.Tuple.tupleItemsOf (.ref t) >>= _) _ _ s
  refine wpAny_bind (tupleItemsOf_ ht ?_)
  refine wpAny_bind (wpAny_typeOf hTs ?_)
  rw [if_pos (by decide)]
  refine wpAny_bind (sliceApplied_gen hs pl pu ?_)
  have hyes:(((sIx items.size 0 lo:Nat):Int) == 0 && (1:Int) == 1 && (sIx items.size items.size hi - sIx items.size 0 lo) == items.size)=true:=by
    rw [h1,h2]
    simp
  show wpAny _ _ (if (((sIx items.size 0 lo:Nat):Int) == 0 && (1:Int) == 1 && (sIx items.size items.size hi - sIx items.size 0 lo) == items.size)=true then _ else _) _ _ s
  rw [if_pos hyes]
  unfold Builtin.Tuple.tupleIsExact
  refine wpAny_bind (wpAny_bind (wpAny_typeOf ht.typeIs (wpAny_pure ?_)))
  show wpAny _ _ (if (Value.type "tuple" == Value.type "tuple")=true then _ else _) _ _ s
  rw [if_pos (by decide)]
  refine wpAny_bind (wpAny_rule ?_)
  first
    | exact wpAny_pure ⟨_,rfl,wpAny_pure h⟩
    | exact wpAny_bind (wpAny_pure (wpAny_pure ⟨_,rfl,wpAny_pure h⟩))
end
end HT
namespace L2
open PySem PySem.Spec PyProof.Rows
variable {X:Cx}
theorem sl_tupW:SlR X (fun x lo hi H Q=>∃ a xs,x=.ref a∧SqT X.K H a xs ∧
  ((HT.sIx xs.length 0 lo=0∧HT.sIx xs.length xs.length hi=xs.length)→Q (.ref a) H)∧(¬ (HT.sIx xs.length 0 lo=0∧HT.sIx xs.length xs.length hi=xs.length)→∀ p,H p=none→Q (.ref p) (upd H p (.tup (cutV xs lo hi))))):=by
 intro pins s σ H x v vl vu lo hi sl Q I rx hs pl pu h
 obtain ⟨a,xs,rfl,hx,q1,q2⟩:=h
 by_cases hw:HT.sIx xs.length 0 lo=0∧HT.sIx xs.length xs.length hi=xs.length
 ·cases rx
  obtain ⟨its,r,ht,hz⟩:=I.tuple hx
  have hlen:its.toArray.size=xs.length:=by rw [List.size_toArray]; exact r.length.symm
  refine ⟨"tuple",_,PyProof.Rows.slot_tuple_getitem.lookup,ht.typeIs,?_⟩
  exact HT.getItem_tuple_whole ht hs pl pu (by rw [hlen]; exact hw.1) (by rw [hlen]; exact hw.2) ⟨.ref a,H,I,rfl,q1 hw⟩
 ·exact sl_tup pins s σ H _ v vl vu lo hi sl Q I rx hs pl pu ⟨a,xs,rfl,hx,hw,q2 hw⟩
end L2
namespace L2
open PySem PySem.Spec PyProof.Rows
section
variable {O:KeyOrd}
noncomputable def Up (f:Nat→O.α) (n:Nat):Prop:=∀ i j,i≤j→j < n→O.kle (f i) (f j)
noncomputable def Dn (f:Nat→O.α) (n:Nat):Prop:=∀ i j,i≤j→j < n→O.kle (f j) (f i)
theorem Up.one (f:Nat→O.α):Up f 1:=fun i j a b=>by
 have e:i=j:=by lia
 rw [e]; exact KeyOrd.kle_refl _
theorem Dn.one (f:Nat→O.α):Dn f 1:=fun i j a b=>by
 have e:i=j:=by lia
 rw [e]; exact KeyOrd.kle_refl _
theorem Up.snoc {f:Nat→O.α} {n:Nat} (u:Up f n) (h:O.kle (f (n - 1)) (f n)):Up f (n + 1):=fun i j a b=>by
 rcases Nat.lt_or_ge j n with c | c
 ·exact u i j a c
 have ej:j=n:=by lia
 rw [ej]
 rcases Nat.lt_or_ge i n with c2 | c2
 ·exact KeyOrd.kle_trans (u i (n - 1) (by lia) (by lia)) h
 ·have ei:i=n:=by lia
  rw [ei]; exact KeyOrd.kle_refl _
theorem Dn.snoc {f:Nat→O.α} {n:Nat} (u:Dn f n) (h:O.kle (f n) (f (n - 1))):Dn f (n + 1):=fun i j a b=>by
 rcases Nat.lt_or_ge j n with c | c
 ·exact u i j a c
 have ej:j=n:=by lia
 rw [ej]
 rcases Nat.lt_or_ge i n with c2 | c2
 ·exact KeyOrd.kle_trans h (u i (n - 1) (by lia) (by lia))
 ·have ei:i=n:=by lia
  rw [ei]; exact KeyOrd.kle_refl _
theorem Dn.congr {f g:Nat→O.α} {n:Nat} (u:Dn f n) (h:∀ i,g i=f i):Dn g n:=fun i j a b=>by rw [h,h]; exact u i j a b
end
section
variable {O:KeyOrd} (κ:Keyed→O.α) (d:O.α)
noncomputable def fk (xs:Array Keyed) (i:Nat):O.α:=match xs[i]? with
 | some p=>κ p
 | none=>d
theorem fk_eq {xs ys:Array Keyed} {i j:Nat} (h:xs[i]?=ys[j]?):fk κ d xs i=fk κ d ys j:=by unfold fk; rw [h]
theorem fk_turn {xs:Array Keyed} {i j:Nat} (hj:j≤xs.size) (k:Nat):fk κ d (mirror xs i j ((j - i) / 2)) k=if i≤k∧k < j then fk κ d xs (i + j - 1 - k) else fk κ d xs k:=by
 have e:=getElem?_mirror_all (i:=i) hj k
 split at e
 ·rename_i c; rw [if_pos c]; exact fk_eq κ d e
 ·rename_i c; rw [if_neg c]; exact fk_eq κ d e
theorem fk_flat {xs:Array Keyed} {i j:Nat} (hj:j≤xs.size) (h:∀ k,i≤k→k < j→fk κ d xs k=fk κ d xs (j - 1)) (k:Nat):fk κ d (mirror xs i j ((j - i) / 2)) k=fk κ d xs k:=by
 rw [fk_turn κ d hj]
 split
 ·rename_i c
  rw [h _ (by lia) (by lia),← h k c.1 c.2]
 ·rfl
theorem fk_down {xs:Array Keyed} {a b:Nat} (ha:a < xs.size) (hb:b≤a) (k:Nat):fk κ d (bubble xs a b) k=if k=a - b then fk κ d xs a else if a - b < k∧k≤a then fk κ d xs (k - 1) else fk κ d xs k:=by
 have e:=getElem?_bubble ha b hb k
 split at e
 ·rename_i c; rw [if_pos c]; exact fk_eq κ d e
 ·rename_i c
  rw [if_neg c]
  split at e
  ·rename_i c2; rw [if_pos c2]; exact fk_eq κ d e
  ·rename_i c2; rw [if_neg c2]; exact fk_eq κ d e
end
structure Srt (M:Model) (A:Around) (E:Value→Shared→Prop) (s:Shared) {O:KeyOrd} (κ:Keyed→O.α) (d:O.α) (n:Nat) (Bs:SortSt→Prop):Prop where
 lt:∀ {st:SortSt} {i j:Nat} {Q:Option Bool→SortSt→Prop},Bs st→i < n→j < n→Q (some (O.blt (fk κ d (arrOf st) i) (fk κ d (arrOf st) j))) st→wpS M A E s (ltAt' i j) Q st
 put:∀ {st:SortSt} {xs:Array Keyed},Bs st→xs.Perm (arrOf st)→Bs (setArr st xs)
 sz:∀ {st:SortSt},Bs st→(arrOf st).size=n
section
variable {prog:Program} {w:World} {A:Around} {E:Value→Shared→Prop} {s:Shared} {O:KeyOrd} {κ:Keyed→O.α} {d:O.α} {n:Nat} {Bs:SortSt→Prop}
theorem srt_asc (S:Srt (model prog w) A E s κ d n Bs) {st:SortSt} (hb:Bs st) {a m:Nat} (h1:1≤a) (ham:a≤m) (hmn:m≤n) (up:Up (fk κ d (arrOf st)) a) {Q:AscSt→SortSt→Prop}
  (q:∀ k,a≤k→k≤m→Up (fk κ d (arrOf st)) k→(k=m∨O.klt (fk κ d (arrOf st) k) (fk κ d (arrOf st) (k - 1)))→Q (none,k) st):wpS (model prog w) A E s (ascLoop a m) Q st:=by
 unfold ascLoop
 refine wpS_forRange (fun x c st'=>st'=st∧c=(none,x)∧Up (fk κ d (arrOf st)) x) (fun x c st' hx hm hI=>?_) (fun c st' hI=>?_) ⟨rfl,rfl,up⟩
 ·obtain ⟨e1,e2,u⟩:=hI
  subst e1 e2
  refine wpS_bind (S.lt hb (show x < n by lia) (show x - 1 < n by lia) ?_)
  dsimp only
  cases e:O.blt (fk κ d (arrOf st') x) (fk κ d (arrOf st') (x - 1)) with
  | true=>rw [if_pos rfl]; exact wpS_pure (q x hx (by lia) u (.inr e))
  | false=>rw [if_neg Bool.false_ne_true]; exact wpS_pure ⟨rfl,rfl,u.snoc e⟩
 ·obtain ⟨e1,e2,u⟩:=hI
  subst e1 e2
  rw [Nat.max_eq_right ham] at u ⊢
  exact q m ham (Nat.le_refl m) u (.inl rfl)
theorem srt_tail (S:Srt (model prog w) A E s κ d n Bs) {st:SortSt} (hb:Bs st) {a m:Nat} (h1:1≤a) (ham:a≤m) (hmn:m≤n) (dn:Dn (fk κ d (arrOf st)) a) {Q:Option Nat→SortSt→Prop}
  (q:∀ k st',Bs st'→1≤k→k≤m→Up (fk κ d (arrOf st')) k→Q (some k) st'):wpS (model prog w) A E s (tail3 a m) Q st:=by
 have z:a≤(arrOf st).size:=by rw [S.sz hb]; lia
 unfold tail3
 refine wpS_bind (wpS_reverse ?_)
 have hb2:=S.put hb (mirror_perm (arrOf st) 0 a ((a - 0) / 2))
 have u2:Up (fk κ d (mirror (arrOf st) 0 a ((a - 0) / 2))) a:=fun i j c1 c2=>by
  rw [fk_turn κ d z,fk_turn κ d z,if_pos ⟨Nat.zero_le _,by lia⟩,if_pos ⟨Nat.zero_le _,c2⟩]
  exact dn _ _ (by lia) (by lia)
 exact wpS_bind (srt_asc S hb2 h1 ham hmn u2 fun k k1 k2 u _=>wpS_pure (q k _ hb2 (by lia) k2 u))
theorem srt_desc (S:Srt (model prog w) A E s κ d n Bs) {st:SortSt} (hb:Bs st) {a m:Nat} (h1:1≤a) (ham:a≤m) (hmn:m≤n) (dn:Dn (fk κ d (arrOf st)) a) {Q:DescSt→SortSt→Prop}
  (q:∀ k e st',Bs st'→a≤k→k≤m→Dn (fk κ d (arrOf st')) k→e + 1≤k→(∀ i,k - (e + 1)≤i→i < k→fk κ d (arrOf st') i=fk κ d (arrOf st') (k - 1))→Q (none,k,e) st'):wpS (model prog w) A E s (descLoop a m) Q st:=by
 unfold descLoop
 have one:∀ (xs:Array Keyed) (x:Nat),1≤x→∀ i,x - (0 + 1)≤i→i < x→fk κ d xs i=fk κ d xs (x - 1):=fun xs x hx i c1 c2=>by rw [show i=x - 1 by lia]
 refine wpS_forRange (fun x c st'=>∃ e,c=(none,x,e)∧Bs st'∧Dn (fk κ d (arrOf st')) x∧e + 1≤x∧∀ i,x - (e + 1)≤i→i < x→fk κ d (arrOf st') i=fk κ d (arrOf st') (x - 1)) (fun x c st' hx hm hI=>?_) (fun c st' hI=>?_) ⟨0,rfl,hb,dn,h1,one _ a h1⟩
 ·obtain ⟨e,rfl,b,u,le,fl⟩:=hI
  have z:x≤(arrOf st').size:=by rw [S.sz b]; lia
  refine wpS_bind (S.lt b (show x < n by lia) (show x - 1 < n by lia) ?_)
  dsimp only
  cases e1:O.blt (fk κ d (arrOf st') x) (fk κ d (arrOf st') (x - 1)) with
  | true =>
   rw [if_pos rfl]
   have u1:Dn (fk κ d (arrOf st')) (x + 1):=u.snoc (KeyOrd.kle_of_klt e1)
   by_cases c:e > 0
   ·rw [if_pos c]
    exact wpS_bind (wpS_reverse (wpS_pure ⟨0,rfl,S.put b (mirror_perm _ _ _ _),u1.congr (fk_flat κ d z fl),by lia,one _ (x + 1) (by lia)⟩))
   ·rw [if_neg c]
    exact wpS_pure ⟨0,rfl,b,u1,by lia,one _ (x + 1) (by lia)⟩
  | false =>
   rw [if_neg Bool.false_ne_true]
   refine wpS_bind (S.lt b (show x - 1 < n by lia) (show x < n by lia) ?_)
   dsimp only
   cases e2:O.blt (fk κ d (arrOf st') (x - 1)) (fk κ d (arrOf st') x) with
   | true=>rw [if_pos rfl]; exact wpS_pure (q x e st' b hx (by lia) u le fl)
   | false =>
    rw [if_neg Bool.false_ne_true]
    have same:fk κ d (arrOf st') x=fk κ d (arrOf st') (x - 1):=KeyOrd.kle_antisymm e2 e1
    refine wpS_pure ⟨e + 1,rfl,b,u.snoc (by rw [same]; exact KeyOrd.kle_refl _),by lia,fun i c1 c2=>?_⟩
    rw [Nat.add_sub_cancel]
    rcases Nat.lt_or_ge i x with c3 | c3
    ·rw [same]; exact fl i (by lia) c3
    ·rw [show i=x by lia]
 ·obtain ⟨e,rfl,b,u,le,fl⟩:=hI
  rw [Nat.max_eq_right ham] at u le fl ⊢
  exact q m e st' b ham (Nat.le_refl m) u le fl
theorem srt_descPart (S:Srt (model prog w) A E s κ d n Bs) {st:SortSt} (hb:Bs st) {a m:Nat} (ham:a + 1≤m) (hmn:m≤n) (dn:Dn (fk κ d (arrOf st)) (a + 1)) {Q:Option Nat→SortSt→Prop}
  (q:∀ k st',Bs st'→1≤k→k≤m→Up (fk κ d (arrOf st')) k→Q (some k) st'):wpS (model prog w) A E s (descPart a m) Q st:=by
 unfold descPart
 refine wpS_bind (wpS_lift (wpAny_rule ⟨rfl,?_⟩))
 refine wpS_bind (srt_desc S hb (by lia) ham hmn dn fun k e st' b k1 k2 u le fl=>?_)
 have z:k≤(arrOf st').size:=by rw [S.sz b]; lia
 dsimp only
 by_cases c:e > 0
 ·rw [if_pos c]
  exact wpS_bind (wpS_reverse (srt_tail S (S.put b (mirror_perm _ _ _ _)) (by lia) k2 hmn (u.congr (fk_flat κ d z fl)) q))
 ·rw [if_neg c]
  exact srt_tail S b (by lia) k2 hmn u q
theorem srt_count (S:Srt (model prog w) A E s κ d n Bs) {st:SortSt} (hb:Bs st) {m:Nat} (h1:1≤m) (hmn:m≤n) {Q:Option Nat→SortSt→Prop}
  (q:∀ k st',Bs st'→1≤k→k≤m→Up (fk κ d (arrOf st')) k→Q (some k) st'):wpS (model prog w) A E s (countRun' 0 m) Q st:=by
 rw [countRun0_eq]
 refine wpS_bind (srt_asc S hb (Nat.le_refl 1) h1 hmn (Up.one _) fun k k1 k2 u ends=>?_)
 have z:k≤(arrOf st).size:=by rw [S.sz hb]; lia
 dsimp only
 by_cases c:k=m
 ·rw [if_pos (beq_iff_eq.mpr c)]
  exact wpS_pure (q k st hb k1 k2 u)
 rw [if_neg (fun z=>c (beq_iff_eq.mp z))]
 have fall:=ends.resolve_left c
 by_cases c1:k > 1
 ·rw [if_pos c1]
  refine wpS_bind (S.lt hb (show 0 < n by lia) (show k - 1 < n by lia) ?_)
  dsimp only
  cases e:O.blt (fk κ d (arrOf st) 0) (fk κ d (arrOf st) (k - 1)) with
  | true=>rw [if_pos rfl]; exact wpS_pure (q k st hb k1 k2 u)
  | false =>
   rw [if_neg Bool.false_ne_true]
   have flat:∀ i,0≤i→i < k→fk κ d (arrOf st) i=fk κ d (arrOf st) (k - 1):=fun i _ ci =>
    KeyOrd.kle_antisymm (u i (k - 1) (by lia) (by lia)) (KeyOrd.kle_trans e (u 0 i (Nat.zero_le _) ci))
   have dn:Dn (fk κ d (arrOf st)) (k + 1):=by
    refine Dn.snoc (fun i j a b=>?_) (KeyOrd.kle_of_klt fall)
    rw [flat i (Nat.zero_le _) (by lia),flat j (Nat.zero_le _) b]
    exact KeyOrd.kle_refl _
   exact wpS_bind (wpS_reverse (srt_descPart S (S.put hb (mirror_perm _ _ _ _)) (by lia) hmn (dn.congr (fk_flat κ d z flat)) q))
 ·rw [if_neg c1]
  have e1:k=1:=by lia
  subst e1
  exact srt_descPart S hb (by lia) hmn (Dn.snoc (Dn.one _) (KeyOrd.kle_of_klt fall)) q
theorem srt_binary (S:Srt (model prog w) A E s κ d n Bs) {st:SortSt} (hb:Bs st) {a:Nat} (han:a≤n) (up:Up (fk κ d (arrOf st)) a) {Q:Bool→SortSt→Prop}
  (q:∀ st',Bs st'→Up (fk κ d (arrOf st')) n→Q true st'):wpS (model prog w) A E s (binarySort' 0 n a) Q st:=by
 rw [binarySort'_eq]
 simp only [Nat.zero_add]
 refine wpS_bind (wpS_mono (wpS_forRange (fun x c st'=>c=(none,())∧Bs st'∧Up (fk κ d (arrOf st')) (min x n)) (Q:=fun c st'=>c=(none,())∧Bs st'∧Up (fk κ d (arrOf st')) n) (fun x c st' hx hxn hI=>?_) (fun c st' hI=>?_) ⟨rfl,hb,?_⟩) ?_)
 ·obtain ⟨rfl,b,u⟩:=hI
  rw [Nat.min_eq_left (by lia)] at u
  refine wpS_bind (wpS_mono (wpS_forRange (fun y c st2=>st2=st'∧∃ l r,c=(none,l,r)∧l≤r∧r≤x∧r - l≤x - y∧(∀ i,i < l→O.kle (fk κ d (arrOf st') i) (fk κ d (arrOf st') x))∧∀ i,r≤i→i < x→O.klt (fk κ d (arrOf st') x) (fk κ d (arrOf st') i))
   (Q:=fun c st2=>st2=st'∧∃ l r,c=(none,l,r)∧l≤x∧(∀ i,i < l→O.kle (fk κ d (arrOf st') i) (fk κ d (arrOf st') x))∧∀ i,l≤i→i < x→O.klt (fk κ d (arrOf st') x) (fk κ d (arrOf st') i))
   (fun y c st2 _ hy hJ=>?_) (fun c st2 hJ=>?_) ⟨rfl,0,x,rfl,Nat.zero_le _,Nat.le_refl _,Nat.le_refl _,(fun i hi=>absurd hi (Nat.not_lt_zero i)),fun i c1 c2=>absurd c2 (Nat.not_lt.mpr c1)⟩) ?_)
  ·obtain ⟨rfl,l,r,rfl,lr,rx,dist,lo,hi⟩:=hJ
   dsimp only
   by_cases c:l ≥ r
   ·rw [if_pos c]
    exact wpS_pure ⟨rfl,l,r,rfl,by lia,lo,fun i c1 c2=>hi i (by lia) c2⟩
   rw [if_neg c]
   refine wpS_bind (S.lt b (show x < n by lia) (show (l + r) / 2 < n by lia) ?_)
   dsimp only
   cases e:O.blt (fk κ d (arrOf st2) x) (fk κ d (arrOf st2) ((l + r) / 2)) with
   | true =>
    rw [if_pos rfl]
    exact wpS_pure ⟨rfl,l,(l + r) / 2,rfl,by lia,by lia,by lia,lo,fun i c1 c2=>KeyOrd.klt_of_klt_of_kle e (u _ _ c1 c2)⟩
   | false =>
    rw [if_neg Bool.false_ne_true]
    exact wpS_pure ⟨rfl,(l + r) / 2 + 1,r,rfl,by lia,rx,by lia,fun i ci=>KeyOrd.kle_trans (u i ((l + r) / 2) (by lia) (by lia)) e,hi⟩
  ·obtain ⟨rfl,l,r,rfl,lr,rx,dist,lo,hi⟩:=hJ
   exact ⟨rfl,l,r,rfl,by lia,lo,fun i c1 c2=>hi i (by lia) c2⟩
  ·rintro c st2 ⟨rfl,l,r,rfl,lx,lo,hi⟩
   have z:x < (arrOf st2).size:=by rw [S.sz b]; exact hxn
   show wpS _ _ _ _ (moveDown' x l >>= fun _=>pure (ForInStep.yield (none,()))) _ _
   rw [moveDown'_eq]
   refine wpS_bind (wpS_modify (wpS_pure ⟨rfl,S.put b (bubble_perm _ _ _),?_⟩))
   rw [Nat.min_eq_left (by lia)]
   intro i j c1 c2
   show O.kle (fk κ d (bubble (arrOf st2) x (x - l)) i) (fk κ d (bubble (arrOf st2) x (x - l)) j)
   rw [fk_down κ d z (Nat.sub_le _ _),fk_down κ d z (Nat.sub_le _ _),show x - (x - l)=l by lia]
   by_cases a1:i=l
   ·rw [if_pos a1]
    by_cases a2:j=l
    ·rw [if_pos a2]; exact KeyOrd.kle_refl _
    ·rw [if_neg a2,if_pos ⟨by lia,by lia⟩]; exact KeyOrd.kle_of_klt (hi _ (by lia) (by lia))
   ·rw [if_neg a1]
    by_cases a3:l < i∧i≤x
    ·rw [if_pos a3,if_neg (by lia),if_pos ⟨by lia,by lia⟩]
     exact u _ _ (by lia) (by lia)
    ·rw [if_neg a3]
     by_cases a2:j=l
     ·rw [if_pos a2]; exact lo i (by lia)
     ·rw [if_neg a2]
      by_cases a4:l < j∧j≤x
      ·rw [if_pos a4]; exact u _ _ (by lia) (by lia)
      ·rw [if_neg a4]; exact u _ _ c1 (by lia)
 ·obtain ⟨rfl,b,u⟩:=hI
  rw [show min (max (max a 1) n) n=n by lia] at u
  exact ⟨rfl,b,u⟩
 ·intro i j c1 c2
  rcases Nat.lt_or_ge j a with c | c
  ·exact up i j c1 c
  ·have e:i=j:=by lia
   rw [e]; exact KeyOrd.kle_refl _
 ·rintro c st' ⟨rfl,b,u⟩
  exact wpS_pure (q st' b u)
end
end L2
namespace L2
open PySem PySem.Spec PyProof.Rows
structure TB (kd:SortKind) (a0:Array Keyed) (st:SortSt):Prop where
 kind:kindOf st=kd
 perm:(arrOf st).Perm a0
 pend:pendingOf st=#[]
 fail:failedOf st=none
section
variable {prog:Program} {w:World} {A:Around} {E:Value→Shared→Prop} {s:Shared} {O:KeyOrd} {κ:Keyed→O.α} {d:O.α} {kd:SortKind} {a0:Array Keyed}
theorem srt_runs (S:Srt (model prog w) A E s κ d a0.size (TB kd a0)) (h2:2≤a0.size) (h64:a0.size < 64) {st:SortSt} (hb:TB kd a0 st) {Q:Unit→SortSt→Prop}
  (q:∀ st',(arrOf st').Perm a0→failedOf st'=none→Up (fk κ d (arrOf st')) a0.size→Q () st'):wpS (model prog w) A E s sortRuns' Q st:=by
 have zst:=S.sz hb
 have mr:minRun' a0.size a0.size 0=a0.size:=by
  cases e:a0.size with
  | zero=>lia
  | succ k =>
   rw [minRun'_succ,if_pos (by lia)]
 rw [sortRuns'_eq]
 refine wpS_bind (wpS_get ?_)
 dsimp only
 rw [zst,mr]
 have laid:∀ st':SortSt,TB kd a0 st'→Up (fk κ d (arrOf st')) a0.size→(arrOf (setPending st' ((pendingOf st').push (0,a0.size,0)))).Perm a0∧failedOf (setPending st' ((pendingOf st').push (0,a0.size,0)))=none∧pendingOf (setPending st' ((pendingOf st').push (0,a0.size,0)))=#[(0,a0.size,0)]∧Up (fk κ d (arrOf (setPending st' ((pendingOf st').push (0,a0.size,0))))) a0.size:=fun st' b u =>
  ⟨b.perm,b.fail,(by show (pendingOf st').push (0,a0.size,0)=_; rw [b.pend]; rfl),u⟩
 refine wpS_bind (wpS_mono (wpS_forRange (fun x c st'=>(x=0∧c=(none,0)∧TB kd a0 st')∨(c=(none,a0.size)∧(arrOf st').Perm a0∧failedOf st'=none∧pendingOf st'=#[(0,a0.size,0)]∧Up (fk κ d (arrOf st')) a0.size))
  (Q:=fun c st'=>c=(none,a0.size)∧(arrOf st').Perm a0∧failedOf st'=none∧pendingOf st'=#[(0,a0.size,0)]∧Up (fk κ d (arrOf st')) a0.size) (fun x c st' _ hx hI=>?_) (fun c st' hI=>?_) (.inl ⟨rfl,rfl,hb⟩)) ?_)
 ·rcases hI with ⟨rfl,rfl,b⟩ | ⟨rfl,r⟩
  ·dsimp only
   rw [if_neg (by lia)]
   simp only [Nat.sub_zero,Nat.min_self,Nat.zero_add]
   refine wpS_bind (srt_count S b (by lia) (Nat.le_refl _) fun k st2 b2 k1 k2 u=>?_)
   dsimp only
   by_cases c:k < a0.size
   ·rw [if_pos c]
    refine wpS_bind (wpS_lift (wpAny_rule ⟨rfl,?_⟩))
    refine wpS_bind (srt_binary S b2 k2 u fun st3 b3 u3=>?_)
    simp only [Bool.not_true,Bool.false_eq_true,if_false]
    refine wpS_bind (wpS_get ?_)
    rw [show (pendingOf st3).back?=none by rw [b3.pend]; rfl]
    dsimp only
    exact wpS_bind (wpS_modify (wpS_pure (.inr ⟨rfl,laid st3 b3 u3⟩)))
   ·rw [if_neg c]
    have ek:k=a0.size:=by lia
    subst ek
    refine wpS_bind (wpS_get ?_)
    rw [show (pendingOf st2).back?=none by rw [b2.pend]; rfl]
    dsimp only
    exact wpS_bind (wpS_modify (wpS_pure (.inr ⟨rfl,laid st2 b2 u⟩)))
  ·dsimp only
   rw [if_pos (Nat.le_refl _)]
   exact wpS_pure ⟨rfl,r⟩
 ·rcases hI with ⟨h,_⟩ | h
  ·exact absurd h (by lia)
  ·exact h
 ·rintro c st' ⟨rfl,r1,r2,r3,r4⟩
  dsimp only
  refine wpS_bind (wpS_mono (wpS_forRange (fun _ c st2=>st2=st'∧c=(none,())) (Q:=fun c st2=>st2=st'∧c=(none,())) (fun x c st2 _ _ hJ=>?_) (fun c st2 hJ=>hJ) ⟨rfl,rfl⟩) ?_)
  ·obtain ⟨rfl,rfl⟩:=hJ
   refine wpS_bind (wpS_get ?_)
   rw [if_pos (by rw [r3]; exact Nat.le_refl 1)]
   exact wpS_pure ⟨rfl,rfl⟩
  ·rintro c st2 ⟨rfl,rfl⟩
   exact wpS_pure (q _ r1 r2 r4)
end
noncomputable def lx:List Int→List Int→Bool
 | [],[]=>false
 | [],_ :: _=>true
 | _ :: _,[]=>false
 | a :: x,b :: y=>if a=b then lx x y else decide (a < b)
theorem lx_cons (a b:Int) (x y:List Int):lx (a :: x) (b :: y)=if a=b then lx x y else decide (a < b):=by rw [lx]
theorem lx_irrefl:∀ x,lx x x=false
 | []=>rfl
 | a :: x=>by rw [lx_cons,if_pos rfl]; exact lx_irrefl x
theorem lx_total:∀ x y,lx x y=false→lx y x=false→x=y
 | [],[],_,_=>rfl
 | [],_ :: _,h,_=>by cases h
 | _ :: _,[],_,h=>by cases h
 | a :: x,b :: y,h1,h2=>by
  rw [lx_cons] at h1 h2
  by_cases e:a=b
  ·subst e
   rw [if_pos rfl] at h1 h2
   rw [lx_total x y h1 h2]
  ·rw [if_neg e] at h1
   rw [if_neg (Ne.symm e)] at h2
   have:=of_decide_eq_false h1
   have:=of_decide_eq_false h2
   lia
theorem lx_trans:∀ x y z,lx x y=true→lx y z=true→lx x z=true
 | [],[],_,h,_=>by cases h
 | [],_ :: _,[],_,h=>by cases h
 | [],_ :: _,_ :: _,_,_=>rfl
 | _ :: _,[],_,h,_=>by cases h
 | _ :: _,_ :: _,[],_,h=>by cases h
 | a :: x,b :: y,c :: z,h1,h2=>by
  rw [lx_cons] at h1 h2 ⊢
  by_cases e1:a=b
  ·subst e1
   rw [if_pos rfl] at h1
   by_cases e2:a=c
   ·subst e2
    rw [if_pos rfl] at h2 ⊢
    exact lx_trans x y z h1 h2
   ·rw [if_neg e2] at h2 ⊢; exact h2
  ·rw [if_neg e1] at h1
   have k1:=of_decide_eq_true h1
   by_cases e2:b=c
   ·subst e2
    rw [if_neg e1]; exact h1
   ·rw [if_neg e2] at h2
    have k2:=of_decide_eq_true h2
    rw [if_neg (by lia)]
    exact decide_eq_true (by lia)
theorem lx_neg:∀ x y z,lx x z=true→lx x y=true∨lx y z=true
 | [],[],_,h=>.inr h
 | [],_ :: _,_,_=>.inl rfl
 | _ :: _,_,[],h=>by cases h
 | _ :: _,[],_ :: _,_=>.inr rfl
 | a :: x,b :: y,c :: z,h=>by
  rw [lx_cons] at h ⊢
  rw [lx_cons]
  by_cases e1:a=b
  ·subst e1
   rw [if_pos rfl]
   by_cases e2:a=c
   ·subst e2
    rw [if_pos rfl] at h ⊢
    exact lx_neg x y z h
   ·rw [if_neg e2] at h ⊢; exact .inr h
  ·rw [if_neg e1]
   by_cases e2:b=c
   ·subst e2
    rw [if_neg e1] at h; exact .inl h
   ·rw [if_neg e2]
    by_cases e3:a < b
    ·exact .inl (decide_eq_true e3)
    ·refine .inr (decide_eq_true ?_)
     by_cases e4:a=c
     ·subst e4; lia
     ·rw [if_neg e4] at h
      have:=of_decide_eq_true h
      lia
noncomputable def lxO:KeyOrd:=⟨List Int,lx,lx_irrefl,lx_trans,fun a b c h=>lx_neg a b c h,lx_total⟩
noncomputable abbrev tupKind (b:Bool):SortKind:=(sortPriv% PySem.Builtin.KeyKind.tuples) b
noncomputable def TupI (h:Heap) (v:Value) (ns:List Int):Prop:=∃ (a:Addr) (us:List Value),v=.ref a∧h.IsTuple a us.toArray∧IntsAre us ns
theorem keyLt_tup (b:Bool) (x y:Value):keyLt' (tupKind b) x y=(do
  let xs ← Builtin.List.listItems x
  let ys ← Builtin.List.listItems y
  for ((p,q),i) in (xs.toList.zip ys.toList).zipIdx do
   if !(← eqBool p q) then return ← oneLt' (b && i == 0) p q
  return xs.size < ys.size):=rfl
section
variable {prog:Program} {w:World} {A:Around} {E:Value→Shared→Prop} {s:Shared}
theorem one_int (b:Bool) {m n:Int} {t u:Tok} {Q:Bool→Shared→Prop} (h:Q (decide (m < n)) s):wpAny (model prog w) A (oneLt' b (.int m t) (.int n u)) Q E s:=by
 cases b with
 | true=>exact oneLt_int h
 | false =>
  rw [oneLt'_eq]
  simp only [Bool.false_eq_true,if_false]
  exact wpAny_bind (HT.rcLt_int A s m t n u prog w E _ (wpAny_truthy_bool h))
noncomputable def lexO:List Int→List Int→Option Bool
 | a :: x,b :: y=>if a=b then lexO x y else some (decide (a < b))
 | _,_=>none
theorem lexO_cons (a b:Int) (x y:List Int):lexO (a :: x) (b :: y)=if a=b then lexO x y else some (decide (a < b)):=by rw [lexO]
theorem lx_lexO:∀ x y,lx x y=(lexO x y).getD (decide (x.length < y.length))
 | [],[]=>rfl
 | [],b :: y=>by
  have e:lexO [] (b :: y)=none:=by unfold lexO; rfl
  rw [e]
  exact (decide_eq_true (Nat.succ_pos y.length)).symm
 | _ :: _,[]=>rfl
 | a :: x,b :: y=>by
  rw [lx_cons,lexO_cons]
  by_cases e:a=b
  ·rw [if_pos e,if_pos e,lx_lexO x y,List.length_cons,List.length_cons]
   simp
  ·rw [if_neg e,if_neg e]; rfl
theorem lex_loop (b:Bool):∀ (us vs:List Value) (ns ms:List Int) (k:Nat) {Q:Option Bool×Unit→Shared→Prop},IntsAre us ns→IntsAre vs ms→Q (lexO ns ms,()) s →
  wpAny (model prog w) A (forIn ((us.zip vs).zipIdx k) ((none,()):Option Bool×Unit) fun x __s=>match x with
     | ((p,q),i)=>do
      let __do_lift ← eqBool p q
      if (!__do_lift)=true then do
        let __do_lift ← oneLt' (b && i == 0) p q
        pure (ForInStep.done (some __do_lift,()))
       else pure (ForInStep.yield (none,()))) Q E s
 | _,_,_,_,k,Q,.nil,_,h=>by
  rw [List.zip_nil_left,List.zipIdx_nil]
  exact wpAny_pure (by cases ‹IntsAre _ _› <;> exact h)
 | _,_,_,_,k,Q,.cons m t r,.nil,h=>by
  rw [List.zip_nil_right,List.zipIdx_nil]
  exact wpAny_pure h
 | _,_,_,_,k,Q,.cons m t (vs:=us) (ns:=ns) r,.cons n u (vs:=vs) (ns:=ms) r2,h=>by
  rw [List.zip_cons_cons,List.zipIdx_cons,List.forIn_cons]
  rw [lexO_cons] at h
  refine wpAny_bind (wpAny_bind (wpAny_eqBool_int ?_))
  by_cases e:m=n
  ·rw [if_pos e] at h
   rw [show (m == n)=true from beq_iff_eq.mpr e]
   exact wpAny_pure (lex_loop b us vs ns ms (k + 1) r r2 h)
  ·rw [if_neg e] at h
   rw [show (m == n)=false from beq_false_of_ne e]
   exact wpAny_bind (one_int _ (wpAny_pure (wpAny_pure h)))
theorem ints_len:∀ {us:List Value} {ns:List Int},IntsAre us ns→us.length=ns.length
 | _,_,.nil=>rfl
 | _,_,.cons _ _ r=>by rw [List.length_cons,List.length_cons,ints_len r]
theorem lt_tup (b:Bool) {x y:Value} {ns ms:List Int} {Q:Bool→Shared→Prop} (hx:TupI s.heap x ns) (hy:TupI s.heap y ms) (h:Q (lx ns ms) s):wpAny (model prog w) A (keyLt' (tupKind b) x y) Q E s:=by
 obtain ⟨a,us,rfl,⟨oa,ha,_,na,da⟩,iu⟩:=hx
 obtain ⟨c,vs,rfl,⟨oc,hc,_,nc,dc⟩,iv⟩:=hy
 have l1:=ints_len iu
 have l2:=ints_len iv
 rw [keyLt_tup]
 refine wpAny_bind (listItems_at ha da (wpAny_bind (listItems_at hc dc (wpAny_bind (lex_loop b us vs ns ms 0 iu iv ?_)))))
 rw [lx_lexO] at h
 cases e:lexO ns ms with
 | some r=>rw [e] at h; exact wpAny_pure h
 | none =>
  rw [e] at h
  refine wpAny_pure ?_
  rw [List.size_toArray,List.size_toArray,l1,l2]
  exact h
end
end L2
namespace L2
open PySem PySem.Spec PyProof.Rows
section
variable {prog:Program} {w:World} {A:Around} {E:Value→Shared→Prop} {s:Shared}
theorem mapM_wp {α β:Type} {f:α→Sem β} {r:α→β}:∀ (l:List α),(∀ x∈l,∀ {Q:β→Shared→Prop},Q (r x) s→wpAny (model prog w) A (f x) Q E s)→∀ {Q:List β→Shared→Prop},Q (l.map r) s→wpAny (model prog w) A (l.mapM f) Q E s
 | [],_,Q,h=>by rw [List.mapM_nil]; exact wpAny_pure h
 | x :: t,hf,Q,h=>by
  rw [List.mapM_cons]
  exact wpAny_bind (hf x (List.mem_cons_self ..) (wpAny_bind (mapM_wp t (fun y hy=>hf y (List.mem_cons_of_mem _ hy)) (wpAny_pure h))))
theorem kind_tup {ks:List Value} {f:Value→List Int} (hk:∀ v∈ks,TupI s.heap v (f v)∧f v≠[]) {Q:SortKind→Shared→Prop} (q:∀ b,Q (tupKind b) s):wpAny (model prog w) A (keyKind' ks.toArray) Q E s:=by
  have hf:∀ v∈ks,∃ m t,∀ {Q:Option Value→Shared→Prop},Q (some (.int m t)) s→wpAny (model prog w) A (firstOfTuple' v) Q E s:=fun v hv=>by
    obtain ⟨ht,ne⟩:=hk v hv
    cases e:f v with
    | nil=>exact absurd e ne
    | cons m r =>
      rw [e] at ht
      obtain ⟨a,us,rfl,hT,iu⟩:=ht
      cases iu with
      | cons m t r2 =>
        refine ⟨m,t,fun {Q} h=>?_⟩
        obtain ⟨o,ho,hc,n,hd⟩:=hT
        show wpAny _ _ (do if (← typeOf (.ref a)) != .type "tuple" then return none
                           return (← Builtin.List.listItems (.ref a))[0]?) _ _ s
        refine wpAny_bind (wpAny_typeOf (T:="tuple") ⟨o,ho,hc⟩ ?_)
        rw [if_neg (by decide)]
        exact wpAny_bind (listItems_at ho hd (wpAny_pure h))
  obtain ⟨g,hg⟩:∃ g:Value→Int×Tok,∀ v∈ks,∀ {Q:Option Value→Shared→Prop},Q (some (.int (g v).1 (g v).2)) s→wpAny (model prog w) A (firstOfTuple' v) Q E s:=by
    classical
    refine ⟨fun v=>if h:v∈ks then ((hf v h).choose,(hf v h).choose_spec.choose) else (0,0),fun v hv Q h=>?_⟩
    dsimp only at h
    rw [dif_pos hv] at h
    exact (hf v hv).choose_spec.choose_spec h
  rw [keyKind'_eq,List.mapM_toArray]
  rw [map_eq_pure_bind,bind_assoc]
  refine wpAny_bind (mapM_wp (r:=fun v=>some (.int (g v).1 (g v).2)) ks hg ?_)
  rw [pure_bind]
  rw [if_pos (by simp)]
  refine wpAny_bind (wpAny_rule ?_)
  have iz:∃ ns,IntsAre (ks.map fun v=>Value.int (g v).1 (g v).2) ns:=by
    clear hk hf hg q
    induction ks with
    | nil=>exact ⟨[],.nil⟩
    | cons v r ih =>
      obtain ⟨ns,h⟩:=ih
      exact ⟨_,.cons _ _ h⟩
  obtain ⟨ns,iz⟩:=iz
  have ef:(ks.map fun v=>some (Value.int (g v).1 (g v).2)).toArray.filterMap id=(ks.map fun v=>Value.int (g v).1 (g v).2).toArray:=by
    apply Array.toList_inj.mp
    rw [Array.toList_filterMap]
    show List.filterMap id (ks.map fun v=>some (Value.int (g v).1 (g v).2))=ks.map fun v=>Value.int (g v).1 (g v).2
    rw [List.filterMap_map]
    show List.filterMap (fun v=>some (Value.int (g v).1 (g v).2)) ks=_
    rw [List.filterMap_eq_map']
  rw [ef,oneTypeOnly'_eq,List.mapM_toArray,mapM_typeOf_ints iz,map_pure,pure_bind]
  cases hts:(List.map (fun x=>Value.type "int") (List.map (fun v=>Value.int (g v).fst (g v).snd) ks)).toArray[0]? with
  | none=>exact wpAny_bind (wpAny_pure (wpAny_pure (q _)))
  | some t=>exact wpAny_bind (wpAny_pure (wpAny_pure (q _)))
end
end L2
namespace L2
open PySem PySem.Spec PyProof.Rows
end L2
namespace L2
open PySem PySem.Spec PyProof.Rows
section
variable {X:Cx} {k:Nat} {f:Addr} {fd:FuncData} {ps:List Str} {sp:Sp}
end
section
variable {prog:Program} {w:World} {A:Around} {E:Value→Shared→Prop} {s:Shared}
open Classical in
noncomputable def keyAt (h:Heap) (v:Value):List Int:=if c:∃ ns,TupI h v ns then c.choose else []
theorem ints_one {us:List Value} {ns ms:List Int} (a:IntsAre us ns) (b:IntsAre us ms):ns=ms:=by
 induction a generalizing ms with
 | nil=>cases b; rfl
 | cons n t r ih=>cases b with | cons _ _ r2=>rw [ih r2]
theorem TupI.one {h:Heap} {v:Value} {ns ms:List Int} (a:TupI h v ns) (b:TupI h v ms):ns=ms:=by
 obtain ⟨p,us,rfl,⟨o,ho,_,n,hd⟩,iu⟩:=a
 obtain ⟨p2,vs,e,⟨o2,ho2,_,n2,hd2⟩,iv⟩:=b
 cases e
 rw [ho] at ho2
 cases ho2
 rw [hd] at hd2
 have e2:us.toArray=vs.toArray:=by injection hd2
 have e3:us=vs:=by simpa using e2
 subst e3
 exact ints_one iu iv
theorem keyAt_eq {h:Heap} {v:Value} {ns:List Int} (a:TupI h v ns):keyAt h v=ns:=by
 have c:∃ ns,TupI h v ns:=⟨ns,a⟩
 unfold keyAt
 rw [dif_pos c]
 exact c.choose_spec.one a
theorem srt_tup (b:Bool) {a0:Array Keyed} (hk:∀ p∈a0.toList,∃ ns,TupI s.heap p.1 ns):Srt (O:=lxO) (model prog w) A E s (fun p=>keyAt s.heap p.1) ([]:List Int) a0.size (TB (tupKind b) a0) where
 lt:=fun {st i j Q} hb hi hj q=>by
  have z:(arrOf st).size=a0.size:=hb.perm.size_eq
  have gi:(arrOf st)[i]?=some (arrOf st)[i]:=getElem?_pos _ i (by lia)
  have gj:(arrOf st)[j]?=some (arrOf st)[j]:=getElem?_pos _ j (by lia)
  have inn:∀ p,p∈(arrOf st).toList→∃ ns,TupI s.heap p.1 ns:=fun p hp=>hk p ((Array.perm_iff_toList_perm.mp hb.perm).mem_iff.mp hp)
  obtain ⟨ni,ti⟩:=inn (arrOf st)[i] (by simp)
  obtain ⟨nj,tj⟩:=inn (arrOf st)[j] (by simp)
  have q2:Q (some (lx ni nj)) st:=by
   have e1:fk (O:=lxO) (fun p=>keyAt s.heap p.1) ([]:List Int) (arrOf st) i=ni:=by unfold fk; rw [gi]; exact keyAt_eq ti
   have e2:fk (O:=lxO) (fun p=>keyAt s.heap p.1) ([]:List Int) (arrOf st) j=nj:=by unfold fk; rw [gj]; exact keyAt_eq tj
   rw [e1,e2] at q
   exact q
  rw [ltAt'_eq]
  refine wpS_bind (wpS_get ?_)
  show wpS _ _ _ _ (elem' (arrOf st) i >>= fun x=>elem' (arrOf st) j >>= fun y=>lt' x y) Q st
  rw [elem'_eq,elem'_eq,gi,gj]
  refine wpS_bind (wpS_pure (wpS_bind (wpS_pure ?_)))
  rw [lt'_eq]
  refine wpS_bind (wpS_get ?_)
  rw [hb.kind]
  exact wpS_bind (wpS_lift (wpAny_attempt (lt_tup b ti tj ⟨rfl,wpS_pure q2⟩)))
 put:=fun {st xs} hb hp=>⟨hb.kind,hp.trans hb.perm,hb.pend,hb.fail⟩
 sz:=fun {st} hb=>hb.perm.size_eq
end
end L2
namespace L2
open PySem PySem.Spec PyProof.Rows
theorem perm_lift {α β:Type} {g:α→β}:∀ {l m:List β},l.Perm m→∀ T:List α,T.map g=m→∃ T':List α,T'.Perm T∧T'.map g=l:=by
 intro l m h
 induction h with
 | nil=>intro T e; exact ⟨T,.refl _,e⟩
 | cons x _ ih =>
  intro T e
  cases T with
  | nil=>cases e
  | cons a r =>
   injection e with e1 e2
   obtain ⟨T',p,e3⟩:=ih r e2
   exact ⟨a :: T',.cons a p,by rw [List.map_cons,e1,e3]⟩
 | swap x y l =>
  intro T e
  match T,e with
  | a :: b :: r,e =>
   injection e with e1 e2
   injection e2 with e3 e4
   exact ⟨b :: a :: r,.swap a b r,by rw [List.map_cons,List.map_cons,e1,e3,e4]⟩
 | trans _ _ i1 i2 =>
  intro T e
  obtain ⟨T1,p1,e1⟩:=i2 T e
  obtain ⟨T2,p2,e2⟩:=i1 T1 e1
  exact ⟨T2,p2.trans p1,e2⟩
theorem vals_refs:∀ {ts:List Addr} {us:List Value},Vals (ts.map V.ref) us→us=ts.map Value.ref
 | [],_,.nil=>rfl
 | t :: r,_,.cons h h2=>by
  have e:_=Value.ref t:=h
  rw [List.map_cons,← vals_refs h2,e]
theorem vals_of {T:List (Keyed×V)} (h:∀ p∈T,RelV p.2 p.1.2):Vals (T.map (·.2)) (T.map (·.1.2)):=by
 induction T with
 | nil=>exact .nil
 | cons p r ih=>exact .cons (h p (List.mem_cons_self ..)) (ih fun x hx=>h x (List.mem_cons_of_mem _ hx))
theorem zip3 {R:Addr→V→Prop}:∀ {ts:List Addr} {xs:List V} {us:List Value},Paired R ts xs→Vals xs us →
  ((((ts.map Value.ref).zip us).zip xs).map (·.1)=(ts.map Value.ref).zip us)∧((((ts.map Value.ref).zip us).zip xs).map (·.2)=xs)∧∀ p∈((ts.map Value.ref).zip us).zip xs,RelV p.2 p.1.2∧∃ t,p.1.1=.ref t∧R t p.2
 | [],[],[],.nil,.nil=>⟨rfl,rfl,fun p hp=>by cases hp⟩
 | t :: ts,x :: xs,u :: us,.cons a r,.cons b r2=>by
  obtain ⟨h1,h2,h3⟩:=zip3 r r2
  refine ⟨by rw [List.map_cons,List.zip_cons_cons,List.zip_cons_cons,List.map_cons,h1],by rw [List.map_cons,List.zip_cons_cons,List.zip_cons_cons,List.map_cons,h2],fun p hp=>?_⟩
  rw [List.map_cons,List.zip_cons_cons,List.zip_cons_cons] at hp
  rcases List.mem_cons.mp hp with rfl | hp
  ·exact ⟨b,t,rfl,a⟩
  ·exact h3 p hp
theorem pr_app {α β:Type} {R:α→β→Prop}:∀ {a:List α} {b:List β} {c:List α} {d:List β},Paired R a b→Paired R c d→Paired R (a++c) (b++d)
 | _,_,_,_,.nil,h=>h
 | _,_,_,_,.cons x r,h=>.cons x (pr_app r h)
theorem order_out {h:Heap} {T:List (Keyed×V)} {a:Array Keyed} {key:V→List Int} (hp:a.toList.Perm (T.map (·.1))) (hT:∀ p∈T,RelV p.2 p.1.2∧TupI h p.1.1 (key p.2))
  (up:Up (O:=lxO) (fk (O:=lxO) (fun p=>keyAt h p.1) ([]:List Int) a) a.size):∃ ys:List V,ys.Perm (T.map (·.2))∧Vals ys (a.toList.map (·.2))∧ys.Pairwise (fun x y=>lx (key y) (key x)=false):=by
 obtain ⟨T',pT,eT⟩:=perm_lift (g:=fun p:Keyed×V=>p.1) hp T rfl
 have mem:∀ p∈T',RelV p.2 p.1.2∧TupI h p.1.1 (key p.2):=fun p hp=>hT p (pT.mem_iff.mp hp)
 have lenT:T'.length=a.size:=by
  have:=congrArg List.length eT
  rw [List.length_map,Array.length_toList] at this
  exact this
 refine ⟨T'.map (·.2),pT.map _,?_,?_⟩
 ·have e:a.toList.map (·.2)=T'.map (·.1.2):=by rw [← eT,List.map_map]; rfl
  rw [e]
  exact vals_of fun p hp=>(mem p hp).1
 ·rw [List.pairwise_map,List.pairwise_iff_getElem]
  intro i j hi hj hij
  have kk:∀ (m:Nat) (hm:m < T'.length),fk (O:=lxO) (fun p=>keyAt h p.1) ([]:List Int) a m=key T'[m].2:=fun m hm=>by
   have g:a[m]?=some T'[m].1:=by
    rw [← Array.getElem?_toList,← eT,List.getElem?_map,List.getElem?_eq_getElem hm]
    rfl
   unfold fk
   rw [g]
   exact keyAt_eq (mem T'[m] (List.getElem_mem hm)).2
  have u:=up i j (Nat.le_of_lt hij) (by lia)
  rw [kk i hi,kk j hj] at u
  exact u
section
variable {X:Cx} {k:Nat} {f:Addr} {fd:FuncData} {ps:List Str} {sp:Sp}
end
end L2
namespace L2
open PySem PySem.Spec PyProof.Rows
theorem bt_sorted:bootBuiltins "sorted"=some (.builtin "sorted"):=by decide +kernel
section
variable {X:Cx} {k:Nat} {f:Addr} {fd:FuncData} {ps:List Str} {sp:Sp}
end
end L2
namespace Law
open PySem L2
noncomputable def Keep (S:List Addr) (H H':Hp):Prop:=∀ b o,H b=some o→b ∉ S→H' b=some o
theorem Keep.refl (S:List Addr) (H:Hp):Keep S H H:=fun _ _ h _=>h
theorem Keep.trans {S:List Addr} {H H1 H2:Hp} (a:Keep S H H1) (b:Keep S H1 H2):Keep S H H2:=fun c o h n=>b c o (a c o h n) n
theorem Keep.same {S:List Addr} {H H':Hp} (a:Same H H'):Keep S H H':=fun b o h _=>a b o h
theorem Keep.new {S:List Addr} {H:Hp} {p:Addr} {o:HO} (h:H p=none):Keep S H (upd H p o):=fun b u q _=>by rw [upd_ne (ne_of_none q h)]; exact q
theorem Keep.upd {S:List Addr} {H:Hp} {p:Addr} {o:HO} (h:p∈S):Keep S H (upd H p o):=fun b u q n=>by
 have hb:b≠p:=fun e=>n (by rw [e]; exact h)
 rw [upd_ne hb]; exact q
theorem Same.new {H:Hp} {p:Addr} {o:HO} (h:H p=none):Same H (L2.upd H p o):=fun b u q=>by rw [upd_ne (ne_of_none q h)]; exact q
noncomputable def KT (H H':Hp):Prop:=∀ p xs,H p=some (.tup xs)→H' p=some (.tup xs)
theorem KT.trans {H H1 H2:Hp} (a:KT H H1) (b:KT H1 H2):KT H H2:=fun p xs h=>b p xs (a p xs h)
theorem KT.same {H H':Hp} (a:Same H H'):KT H H':=fun p xs h=>a p _ h
theorem KT.upd {H:Hp} {p:Addr} {o:HO} {ys:List V} (h:H p=some (.lst ys)):KT H (L2.upd H p o):=fun b xs q=>by
 rw [upd_ne]; · exact q
 ·intro e; subst e; rw [h] at q; cases q
theorem KT.new {H:Hp} {p:Addr} {o:HO} (h:H p=none):KT H (L2.upd H p o):=KT.same (Same.new h)
noncomputable def DeckAt (H:Hp) (d c:Addr):Prop:=∃ (cells:List Int) (a seed:Int),H d=some (.lst [.ref c,.int a,.int seed])∧H c=some (.lst (cells.map V.int))∧0 < cells.length
theorem DeckAt.kt {H H':Hp} {d c:Addr} (D:DeckAt H d c) (k:Keep [d,c] H H'):KT H H':=by
 obtain ⟨cells,a,seed,h1,h2,_⟩:=D
 intro p xs h
 refine k p _ h ?_
 intro m
 rcases List.mem_cons.mp m with e | m
 ·subst e; rw [h1] at h; cases h
 ·rcases List.mem_cons.mp m with e | m
  ·subst e; rw [h2] at h; cases h
  ·cases m
theorem DeckAt.ne {H:Hp} {d c:Addr} (D:DeckAt H d c):d≠c:=by
 obtain ⟨cells,a,seed,h1,h2,h3⟩:=D
 intro e; subst e; rw [h1] at h2
 cases cells with
 | nil=>cases h3
 | cons n r=>cases h2
theorem DeckAt.same {H H':Hp} {d c:Addr} (D:DeckAt H d c) (s:Same H H'):DeckAt H' d c:=by
 obtain ⟨cells,a,seed,h1,h2,h3⟩:=D
 exact ⟨cells,a,seed,s _ _ h1,s _ _ h2,h3⟩
theorem DeckAt.new {H:Hp} {d c p:Addr} {o:HO} (D:DeckAt H d c) (h:H p=none):DeckAt (L2.upd H p o) d c:=D.same (Same.new h)
theorem DeckAt.nin {H:Hp} {d c p:Addr} (D:DeckAt H d c) (h:H p=none):p ∉ [d,c]:=by
 obtain ⟨cells,a,seed,h1,h2,_⟩:=D
 intro m
 rcases List.mem_cons.mp m with e | m
 ·subst e; rw [h1] at h; cases h
 ·rcases List.mem_cons.mp m with e | m
  ·subst e; rw [h2] at h; cases h
  ·cases m
theorem atI_mem {α:Type} {xs:List α} {r:Int} (h0:0≤r) (h1:r < (xs.length:Int)):∃ v,atI xs r=some v∧v∈xs:=by
 have hl:r.toNat < xs.length:=by lia
 have e:r=((r.toNat:Nat):Int):=by lia
 have h:atI xs ((r.toNat:Nat):Int)=some xs[r.toNat]:=atI_nat (List.getElem?_eq_getElem hl)
 rw [← e] at h
 exact ⟨xs[r.toNat],h,List.getElem_mem hl⟩
theorem ixN_of {n:Nat} {k:Int} (h0:0≤k) (h1:k < (n:Int)):ixN n k=some k.toNat:=by
 unfold ixN
 rw [if_pos h0,if_pos h1]
theorem cut_all {xs:List V} {k:Nat} (h:xs.length≤k):cutV xs none (some (k:Int))=xs:=by
 unfold cutV
 rw [HT.sIx_none,HT.sIx_nat,List.drop_zero]
 exact List.take_of_length_le (by lia)
theorem set_int {cells:List Int} {j:Nat} {z:Int}:(cells.map V.int).set j (V.int z)=(cells.set j z).map V.int:=by rw [List.map_set]
noncomputable def spTake:Sp:=fun vs H Q _=>∃ (d c:Addr) (many:Int),vs=[.ref d,.int many]∧DeckAt H d c∧0 < many∧many < 1073741824 ∧
 ∀ (r:Int) (H':Hp),0≤r→r < many→Keep [d,c] H H'→DeckAt H' d c→Q (.int r) H'
noncomputable def spDraw (top:Int):Sp:=fun vs H Q _=>∃ (d c:Addr),vs=[.ref d]∧DeckAt H d c ∧
 ∀ (r:Int) (H':Hp),1≤r→r≤top→Keep [d,c] H H'→DeckAt H' d c→Q (.int r) H'
noncomputable def spDeck (K:PySem.W.Frag):Sp:=fun vs H Q _=>∃ (a:Addr) (ns:List Int),vs=[.ref a]∧SqL K H a (ns.map V.int)∧ns.length≤63 ∧
 ∀ (d c:Addr) (H':Hp),Same H H'→H d=none→H c=none→DeckAt H' d c→Q (.ref d) H'
structure Blt (mg:Str→Option Value):Prop where
 len:mg "len"=none
 sum:mg "sum"=none
 range:mg "range"=none
 isinstance:mg "isinstance"=none
 int:mg "int"=none
 str:mg "str"=none
 bool:mg "bool"=none
 tuple:mg "tuple"=none
 zip:mg "zip"=none
end Law
namespace Law
open PySem L2
noncomputable def okWord (w:Str):Prop:=w="plus"∨w="less"∨w="times"∨w="share"
instance okWordDec (w:Str):Decidable (okWord w):=by unfold okWord; infer_instance
inductive Way where
 | num (n:Int)
 | op (w:Str) (a b:Way)
noncomputable def Way.size:Way→Nat
 | .num _=>1
 | .op _ a b=>a.size + b.size
noncomputable def Way.ht:Way→Nat
 | .num _=>0
 | .op _ a b=>max a.ht b.ht + 1
noncomputable def Way.nodes:Way→Nat
 | .num _=>1
 | .op _ a b=>a.nodes + b.nodes + 1
noncomputable def Way.ok (m:Int):Way→Prop
 | .num n=>1≤n∧n≤m
 | .op w a b=>okWord w∧a.ok m∧b.ok m
theorem Way.size_pos (x:Way):1≤x.size:=by
 induction x with
 | num n=>exact Nat.le_refl _
 | op w a b iha ihb=>show 1≤a.size + b.size; lia
theorem Way.ht_lt (x:Way):x.ht < x.size:=by
 induction x with
 | num n=>exact Nat.le_refl _
 | op w a b iha ihb =>
  have:=a.size_pos; have:=b.size_pos
  show max a.ht b.ht + 1 < a.size + b.size; lia
theorem Way.nodes_eq (x:Way):x.nodes + 1=2 * x.size:=by
 induction x with
 | num n=>rfl
 | op w a b iha ihb=>show a.nodes + b.nodes + 1 + 1=2 * (a.size + b.size); lia
noncomputable def byE (w:Str) (a b:Int):Sum Str Int :=
 if w="plus" then .inr (a + b) else if w="times" then .inr (a * b) else if w="less" then (if b < a then .inr (a - b) else .inl w) else (if a % b=0 then .inr (a / b) else .inl w)
noncomputable def worthE:Way→Sum Str Int
 | .num n=>.inr n
 | .op w a b=>match worthE a with
  | .inl e=>.inl e
  | .inr x=>match worthE b with
   | .inl e=>.inl e
   | .inr y=>byE w x y
theorem worthE_op (w:Str) (a b:Way):worthE (.op w a b)=match worthE a with
  | .inl e=>.inl e
  | .inr x=>match worthE b with
   | .inl e=>.inl e
   | .inr y=>byE w x y:=rfl
noncomputable def resV:Sum Str Int→V
 | .inl e=>.str e
 | .inr n=>.int n
theorem pow_ge {m:Int} (hm:2≤m) {k:Nat} (hk:1≤k):2≤m ^ k:=by
 induction k with
 | zero=>lia
 | succ k ih =>
  rw [Int.pow_succ]
  rcases Nat.eq_zero_or_pos k with h | h
  ·subst h; simpa using hm
  ·have:=ih h
   have h2:m ^ k * 1≤m ^ k * m:=Int.mul_le_mul_of_nonneg_left (by lia) (by lia)
   lia
theorem byE_bound {w:Str} {a b n X Y:Int} (ha:1≤a) (hb:1≤b) (hx:a≤X) (hy:b≤Y) (X2:2≤X) (Y2:2≤Y) (h:byE w a b=.inr n):1≤n∧n≤X * Y:=by
 have xy:X + Y≤X * Y:=by
  have:0≤(X - 1) * (Y - 1) - 1:=by
   have:1 * 1≤(X - 1) * (Y - 1):=Int.mul_le_mul (by lia) (by lia) (by lia) (by lia)
   lia
  have e:(X - 1) * (Y - 1)=X * Y - X - Y + 1:=by rw [Int.sub_mul,Int.mul_sub,Int.mul_one,Int.one_mul]; lia
  lia
 unfold byE at h
 split at h
 ·cases h; lia
 split at h
 ·cases h
  have h1:a * b≤X * Y:=Int.mul_le_mul hx hy (by lia) (by lia)
  have h2:1 * 1≤a * b:=Int.mul_le_mul ha hb (by lia) (by lia)
  lia
 split at h
 ·split at h
  ·cases h; lia
  ·cases h
 ·split at h
  ·rename_i e
   cases h
   have h1:=Int.emod_add_mul_ediv a b
   rw [e] at h1
   have h2:a / b≤a:=Int.ediv_le_self _ (by lia)
   have h3:0≤a / b:=Int.ediv_nonneg (by lia) (by lia)
   have h4:a / b≠0:=fun z=>by rw [z] at h1; lia
   lia
  ·cases h
theorem worth_bound {m:Int} (hm:2≤m):∀ {x:Way} {n:Int},x.ok m→worthE x=.inr n→1≤n∧n≤m ^ x.size:=by
 intro x
 induction x with
 | num k=>intro n ⟨h1,h2⟩ e; cases e; exact ⟨h1,by show k≤m ^ 1; rw [Int.pow_succ,Int.pow_zero,Int.one_mul]; exact h2⟩
 | op w a b iha ihb =>
  intro n ⟨hw,h1,h2⟩ e
  rw [worthE_op] at e
  split at e
  ·cases e
  ·rename_i x ex
   split at e
   ·cases e
   ·rename_i y ey
    obtain ⟨a1,a2⟩:=iha h1 ex
    obtain ⟨b1,b2⟩:=ihb h2 ey
    have:=byE_bound a1 b1 a2 b2 (pow_ge hm a.size_pos) (pow_ge hm b.size_pos) e
    rw [show (Way.op w a b).size=a.size + b.size from rfl,Int.pow_add]
    exact this
noncomputable def Way.fit (x:Way):Prop:=∃ m:Int,2≤m∧x.ok m∧m ^ x.size < 2 ^ 4000
theorem pow_le_pow {m:Int} (hm:2≤m) {i j:Nat} (h:i≤j):m ^ i≤m ^ j:=by
 induction h with
 | refl=>exact Int.le_refl _
 | step h ih =>
  rename_i k
  rw [Int.pow_succ]
  have:0≤m ^ k:=Int.pow_nonneg (by lia)
  have h2:m ^ k * 1≤m ^ k * m:=Int.mul_le_mul_of_nonneg_left (by lia) this
  lia
theorem Way.fit.sub {w:Str} {a b:Way} (h:(Way.op w a b).fit):okWord w∧a.fit∧b.fit:=by
 obtain ⟨m,h1,⟨h2,h3,h4⟩,h5⟩:=h
 have e:(Way.op w a b).size=a.size + b.size:=rfl
 have p1:=pow_le_pow h1 (show a.size≤(Way.op w a b).size by lia)
 have p2:=pow_le_pow h1 (show b.size≤(Way.op w a b).size by lia)
 exact ⟨h2,⟨m,h1,h3,by lia⟩,⟨m,h1,h4,by lia⟩⟩
theorem Way.fit.worth {x:Way} (h:x.fit) {n:Int} (e:worthE x=.inr n):1≤n∧n < 2 ^ 4000:=by
 obtain ⟨m,h1,h2,h5⟩:=h
 have:=worth_bound h1 h2 e
 lia
theorem fit_of {x:Way} (h:x.ok 1000000) (hs:x.size≤100):x.fit:=by
 refine ⟨1000000,by decide,h,?_⟩
 have:=pow_le_pow (m:=1000000) (by decide) hs
 have h2:(1000000:Int) ^ 100 < 2 ^ 4000:=by decide +kernel
 lia
noncomputable def spBy:Sp:=fun vs H Q _=>∃ (wd:Str) (a b:Int),vs=[.str wd,.int a,.int b]∧okWord wd∧1≤a∧a < 2 ^ 4000∧1≤b∧b < 2 ^ 4000∧∀ H',Same H H'→Q (resV (byE wd a b)) H'
inductive WayIn (H:Hp):V→Way→Prop where
 | num (n:Int):WayIn H (.int n) (.num n)
 | op {p:Addr} {w:Str} {x y:V} {a b:Way} (h:H p=some (.tup [.str w,x,y])) (ha:WayIn H x a) (hb:WayIn H y b):WayIn H (.ref p) (.op w a b)
theorem WayIn.kt {H H':Hp} {v:V} {x:Way} (h:WayIn H v x) (k:KT H H'):WayIn H' v x:=by
 induction h with
 | num n=>exact .num n
 | op h ha hb iha ihb=>exact .op (k _ _ h) iha ihb
noncomputable def post:Way→List V
 | .num n=>[.int n]
 | .op w a b=>post a++post b++[.str w]
theorem post_len (x:Way):(post x).length=x.nodes:=by
 induction x with
 | num n=>rfl
 | op w a b iha ihb=>simp only [post,List.length_append,iha,ihb,Way.nodes,List.length_cons,List.length_nil]
inductive Out where
 | bad
 | no (w:Str)
 | val (st:List Int)
noncomputable def stepsRun:List V→List Int→Out
 | [],st=>.val st
 | .int n :: r,st=>stepsRun r (n :: st)
 | .str w :: r,b :: a :: st=>if okWord w∧1≤a∧a < 2 ^ 4000∧1≤b∧b < 2 ^ 4000 then (match byE w a b with
  | .inr c=>stepsRun r (c :: st)
  | .inl e=>.no e) else .bad
 | _,_=>.bad
theorem run_str (w:Str) (r:List V) (a b:Int) (st:List Int):stepsRun (.str w :: r) (b :: a :: st)=if okWord w∧1≤a∧a < 2 ^ 4000∧1≤b∧b < 2 ^ 4000 then (match byE w a b with
  | .inr c=>stepsRun r (c :: st)
  | .inl e=>.no e) else .bad:=by rw [stepsRun]
theorem run_int (n:Int) (r:List V) (st:List Int):stepsRun (.int n :: r) st=stepsRun r (n :: st):=by rw [stepsRun]
theorem run_post {x:Way} (hx:x.fit):∀ (r:List V) (st:List Int),stepsRun (post x++r) st=match worthE x with
  | .inr n=>stepsRun r (n :: st)
  | .inl e=>.no e:=by
 induction x with
 | num n=>intro r st; rfl
 | op w a b iha ihb =>
  intro r st
  obtain ⟨hw,fa,fb⟩:=hx.sub
  rw [post,List.append_assoc,List.append_assoc,iha fa]
  rw [worthE_op]
  cases ea:worthE a with
  | inl e=>rfl
  | inr n =>
   dsimp only
   rw [ihb fb]
   cases eb:worthE b with
   | inl e=>rfl
   | inr k =>
    dsimp only
    have h1:=fa.worth ea
    have h2:=fb.worth eb
    show stepsRun (.str w :: r) (k :: n :: st)=_
    rw [run_str,if_pos ⟨hw,h1.1,h1.2,h2.1,h2.2⟩]
noncomputable def spWorth (n:Nat):Sp:=fun vs H Q _=>∃ (v:V) (x:Way),vs=[v]∧WayIn H v x∧x.fit∧x.ht < n∧∀ H',Same H H'→Q (resV (worthE x)) H'
noncomputable def spGood (n:Nat):Sp:=fun vs H Q _=>∃ (d c:Addr) (many:Int),vs=[.ref d,.int many]∧DeckAt H d c∧1≤many∧many≤8∧many≤(n:Int) ∧
 ∀ (v:V) (x:Way) (r:Int) (H':Hp),WayIn H' v x→x.ok 1000000→(x.size:Int)=many→worthE x=.inr r→Keep [d,c] H H'→DeckAt H' d c→Q v H'
noncomputable def spAny (n:Nat):Sp:=fun vs H Q _=>∃ (d c:Addr) (many:Int),vs=[.ref d,.int many]∧DeckAt H d c∧1≤many∧many≤8∧many≤(n:Int) ∧
 ∀ (v:V) (x:Way) (H':Hp),WayIn H' v x→x.ok 1000000→(x.size:Int)=many→Keep [d,c] H H'→DeckAt H' d c→Q v H'
noncomputable def spSteps:Sp:=fun vs H Q _=>∃ (v:V) (x:Way),vs=[v]∧WayIn H v x∧x.nodes≤1000∧∀ (r:Addr) (H':Hp),Same H H'→H' r=some (.lst (post x))→Q (.ref r) H'
noncomputable def spLaw (K:PySem.W.Frag):Sp:=fun vs H Q _=>∃ (a:Addr) (ns:List Int),vs=[.ref a]∧SqL K H a (ns.map V.int)∧ns.length≤63∧∀ H',Q (.bl true) H'
theorem mkDef {P:Program} {w:World} {K:PySem.W.Frag} {mg:Str→Option Value} {base:Heap} {CX:CXT} {k:Nat} {x:Str} {sp:Sp} {f:Addr} {fd:FuncData} {ps:List Str} (a:FnOk P w K mg base CX k f fd ps sp) (b:Binds K fd ps []) (c:mg x=some (.ref f)) (d:PySem.W.keepIn K (.ref f)=true):Def P w K mg base CX k x sp:=⟨f,fd,ps,a,b,c,d⟩
noncomputable def emit:Way→List V
 | .num n=>[.int n]
 | .op w a b=>.str w :: (emit b++emit a)
theorem emit_rev (x:Way):(emit x).reverse=post x:=by
 induction x with
 | num n=>rfl
 | op w a b iha ihb=>rw [emit,List.reverse_cons,List.reverse_append,iha,ihb,post]
theorem emit_len (x:Way):(emit x).length=x.nodes:=by rw [← post_len,← emit_rev,List.length_reverse]
noncomputable def sumNodes (ws:List Way):Nat:=(ws.map Way.nodes).sum
theorem emits_len (ws:List Way):(ws.flatMap emit).length=sumNodes ws:=by
 induction ws with
 | nil=>rfl
 | cons a r ih=>rw [List.flatMap_cons,List.length_append,emit_len,ih]; simp [sumNodes]
theorem nodes_pos (x:Way):1≤x.nodes:=by cases x <;> simp [Way.nodes]
theorem len_le_nodes (ws:List Way):ws.length≤sumNodes ws:=by
 induction ws with
 | nil=>exact Nat.le_refl _
 | cons a r ih =>
  have:=nodes_pos a
  have e:sumNodes (a :: r)=a.nodes + sumNodes r:=by simp [sumNodes]
  rw [e,List.length_cons]; lia
end Law
namespace L2
open PySem PySem.Spec PyProof.Rows
end L2
namespace Law
open PySem L2 PySem.NumText PyProof.Rows
mutual
noncomputable def Dat (H:Hp):D→V→Prop
 | .non,v=>v=.non
 | .bl b,v=>v=.bl b
 | .int i,v=>v=.int i
 | .str x,v=>v=.str x
 | .tup ds,v=>∃ p xs,v=.ref p∧H p=some (.tup xs)∧Dats H ds xs
 | .lst ds,v=>False
noncomputable def Dats (H:Hp):List D→List V→Prop
 | [],xs=>xs=[]
 | d :: ds,xs=>∃ x r,xs=x :: r∧Dat H d x∧Dats H ds r
end
mutual
theorem Dat.kt {H H':Hp} (k:KT H H'):∀ (d:D) {v:V},Dat H d v→Dat H' d v
 | .non,v,h=>by unfold Dat at h ⊢; exact h
 | .bl b,v,h=>by unfold Dat at h ⊢; exact h
 | .int b,v,h=>by unfold Dat at h ⊢; exact h
 | .str b,v,h=>by unfold Dat at h ⊢; exact h
 | .tup ds,v,h=>by
  unfold Dat at h ⊢
  obtain ⟨p,xs,e,hp,hs⟩:=h
  exact ⟨p,xs,e,k _ _ hp,Dats.kt k ds hs⟩
 | .lst ds,v,h=>by unfold Dat at h; exact h.elim
theorem Dats.kt {H H':Hp} (k:KT H H'):∀ (ds:List D) {vs:List V},Dats H ds vs→Dats H' ds vs
 | [],vs,h=>by unfold Dats at h ⊢; exact h
 | d :: ds,vs,h=>by
  unfold Dats at h ⊢
  obtain ⟨x,r,e,h1,h2⟩:=h
  exact ⟨x,r,e,Dat.kt k d h1,Dats.kt k ds h2⟩
end
mutual
theorem Dat.rep {K:PySem.W.Frag} {H:Hp}:∀ (d:D) {v:V},Dat H d v→Rep K H d v
 | .non,v,h=>by unfold Dat at h; unfold Rep; exact h
 | .bl b,v,h=>by unfold Dat at h; unfold Rep; exact h
 | .int b,v,h=>by unfold Dat at h; unfold Rep; exact h
 | .str b,v,h=>by unfold Dat at h; unfold Rep; exact h
 | .tup ds,v,h=>by
  unfold Dat at h; unfold Rep
  obtain ⟨p,xs,e,hp,hs⟩:=h
  exact ⟨p,xs,e,SqT.of hp,Dats.rep ds hs⟩
 | .lst ds,v,h=>by unfold Dat at h; exact h.elim
theorem Dats.rep {K:PySem.W.Frag} {H:Hp}:∀ (ds:List D) {vs:List V},Dats H ds vs→Reps K H ds vs
 | [],vs,h=>by unfold Dats at h; unfold Reps; exact h
 | d :: ds,vs,h=>by
  unfold Dats at h; unfold Reps
  obtain ⟨x,r,e,h1,h2⟩:=h
  exact ⟨x,r,e,Dat.rep d h1,Dats.rep ds h2⟩
end
theorem Dats.len {H:Hp}:∀ {ds:List D} {xs:List V},Dats H ds xs→ds.length=xs.length
 | [],xs,h=>by unfold Dats at h; subst h; rfl
 | d :: ds,xs,h=>by
  unfold Dats at h
  obtain ⟨x,r,rfl,_,h⟩:=h
  rw [List.length_cons,List.length_cons,Dats.len h]
theorem Dats.at {H:Hp}:∀ {ds:List D} {xs:List V} {j:Nat} {x:V},Dats H ds xs→xs[j]?=some x→∃ d,ds[j]?=some d∧Dat H d x
 | [],xs,j,x,h,e=>by unfold Dats at h; subst h; cases e
 | a :: ds,xs,j,x,h,e=>by
  unfold Dats at h
  obtain ⟨y,r,rfl,h1,h2⟩:=h
  match j,e with
  | 0,e=>cases e; exact ⟨a,rfl,h1⟩
  | j + 1,e=>exact Dats.at (ds:=ds) (j:=j) h2 (by simpa using e)
end Law
namespace Law
open PySem L2
inductive IsForm:D→Prop
 | num {i:Int} (h0:1≤i) (h1:i≤1000000):IsForm (.int i)
 | grp {k:Str} {m0:D} {more off:List D} (hk:k="sum"∨k="product") (h0:IsForm m0) (h1:∀ x∈more,IsForm x) (h2:∀ x∈off,IsForm x):IsForm (.tup [.str k,.tup (m0 :: more),.tup off])
mutual
noncomputable def lv:D→Nat
 | .int _=>1
 | .tup l=>lvs l
 | _=>0
noncomputable def lvs:List D→Nat
 | []=>0
 | d :: r=>lv d + lvs r
end
mutual
noncomputable def sz:D→Nat
 | .tup l=>1 + szs l
 | _=>1
noncomputable def szs:List D→Nat
 | []=>0
 | d :: r=>sz d + 1 + szs r
end
noncomputable def pt (k:Str):Str:=if k="sum" then "plus" else "times"
noncomputable def tk (k:Str):Str:=if k="sum" then "less" else "share"
inductive R where
 | w (x:Way)
 | s (k:Str)
 | l (xs:List Way)
noncomputable def toW:R→Way
 | .w x=>x
 | _=>.num 0
noncomputable def fold1 (w:Str) (a:Way) (xs:List Way):Way:=xs.foldl (fun acc x=>.op w acc x) a
noncomputable def comb:List R→R
 | [.s k,.l (m0 :: more),.l off]=>.w (fold1 (tk k) (fold1 (pt k) m0 more) off)
 | xs=>.l (xs.map toW)
mutual
noncomputable def fx:D→R
 | .int i=>.w (.num i)
 | .str k=>.s k
 | .tup l=>comb (fxs l)
 | _=>.w (.num 0)
noncomputable def fxs:List D→List R
 | []=>[]
 | d :: r=>fx d :: fxs r
end
noncomputable def fw (d:D):Way:=toW (fx d)
theorem fw_int (i:Int):fw (.int i)=.num i:=by unfold fw fx; rfl
theorem comb_ws (l:List Way):comb (l.map R.w)=.l l:=by
 have e:(l.map R.w).map toW=l:=by
  rw [List.map_map]
  show l.map (fun x=>x)=l
  simp
 cases l with
 | nil=>rfl
 | cons a r =>
  show R.l ((R.w a :: r.map R.w).map toW)=.l (a :: r)
  rw [show (R.w a :: r.map R.w)=(a :: r).map R.w from rfl,e]
theorem fxs_of:∀ {l:List D},(∀ x∈l,fx x=.w (fw x))→fxs l=(l.map fw).map R.w
 | [],_=>by unfold fxs; rfl
 | d :: r,h=>by
  unfold fxs
  rw [h d (List.mem_cons_self ..),fxs_of fun x hx=>h x (List.mem_cons_of_mem _ hx)]
  rfl
theorem fx_grp {k:Str} {m0:D} {more off:List D} (h0:fx m0=.w (fw m0)) (h1:∀ x∈more,fx x=.w (fw x)) (h2:∀ x∈off,fx x=.w (fw x)) :
  fx (.tup [.str k,.tup (m0 :: more),.tup off])=.w (fold1 (tk k) (fold1 (pt k) (fw m0) (more.map fw)) (off.map fw)):=by
 have a:fx (.tup (m0 :: more))=.l ((m0 :: more).map fw):=by
  unfold fx
  rw [fxs_of (l:=m0 :: more) (fun x hx=>by
   rcases List.mem_cons.mp hx with rfl | hx
   ·exact h0
   ·exact h1 x hx),comb_ws]
 have b:fx (.tup off)=.l (off.map fw):=by
  unfold fx
  rw [fxs_of h2,comb_ws]
 have c:fx (.str k)=.s k:=by unfold fx; rfl
 unfold fx
 unfold fxs
 unfold fxs
 unfold fxs
 unfold fxs
 rw [a,b,c]
 rfl
theorem fx_form {d:D} (h:IsForm d):fx d=.w (fw d):=by
 induction h with
 | num=>unfold fw fx; rfl
 | @grp k m0 more off hk h0 h1 h2 i0 i1 i2 =>
  have e:=fx_grp (k:=k) i0 i1 i2
  show _=R.w (toW (fx _))
  rw [e]
  rfl
theorem fw_grp {k:Str} {m0:D} {more off:List D} (h0:IsForm m0) (h1:∀ x∈more,IsForm x) (h2:∀ x∈off,IsForm x) :
  fw (.tup [.str k,.tup (m0 :: more),.tup off])=fold1 (tk k) (fold1 (pt k) (fw m0) (more.map fw)) (off.map fw):=by
 show toW (fx _)=_
 rw [fx_grp (fx_form h0) (fun x hx=>fx_form (h1 x hx)) fun x hx=>fx_form (h2 x hx)]
 rfl
theorem pt_ok (k:Str):okWord (pt k):=by unfold pt; split; exact .inl rfl; exact .inr (.inr (.inl rfl))
theorem tk_ok (k:Str):okWord (tk k):=by unfold tk; split; exact .inr (.inl rfl); exact .inr (.inr (.inr rfl))
theorem fold1_post (w:Str):∀ (xs:List Way) (a:Way),post (fold1 w a xs)=post a++xs.flatMap (fun x=>post x++[.str w])
 | [],a=>by simp [fold1]
 | x :: r,a=>by
  have ih:=fold1_post w r (.op w a x)
  show post (fold1 w (.op w a x) r)=_
  rw [ih]
  simp [post]
theorem fold1_size (w:Str):∀ (xs:List Way) (a:Way),(fold1 w a xs).size=a.size + (xs.map Way.size).sum
 | [],a=>by simp [fold1]
 | x :: r,a=>by
  have ih:=fold1_size w r (.op w a x)
  show (fold1 w (.op w a x) r).size=_
  rw [ih,List.map_cons,List.sum_cons]
  show a.size + x.size + _=_
  lia
theorem lvs_sum:∀ {l:List D},(∀ x∈l,(fw x).size=lv x)→((l.map fw).map Way.size).sum=lvs l
 | [],_=>by unfold lvs; rfl
 | d :: r,h=>by
  unfold lvs
  rw [List.map_cons,List.map_cons,List.sum_cons,h d (List.mem_cons_self ..),lvs_sum fun x hx=>h x (List.mem_cons_of_mem _ hx)]
theorem lv_grp (k:Str) (m0:D) (more off:List D):lv (.tup [.str k,.tup (m0 :: more),.tup off])=lv m0 + lvs more + lvs off:=by
 have e1:∀ l,lv (.tup l)=lvs l:=fun l=>by unfold lv; rfl
 have e2:lv (.str k)=0:=by unfold lv; rfl
 have e3:∀ (d:D) (r:List D),lvs (d :: r)=lv d + lvs r:=fun d r=>by rw [lvs]
 have e4:lvs []=0:=by unfold lvs; rfl
 rw [e1,e3,e3,e3,e4,e2,e1,e1,e3]
 lia
theorem fw_size {d:D} (h:IsForm d):(fw d).size=lv d:=by
 induction h with
 | num=>rw [fw_int]; unfold lv; rfl
 | grp hk h0 h1 h2 i0 i1 i2 =>
  rw [fw_grp h0 h1 h2,fold1_size,fold1_size,lvs_sum i1,lvs_sum i2,i0,lv_grp]
theorem deps_mem {l:List D} {d:D} (h:d∈l):d.dep≤deps l:=by
 obtain ⟨j,hj⟩:=List.getElem?_of_mem h
 exact deps_get hj
noncomputable def itV:D→List V
 | .str w=>[.str w]
 | d=>post (fw d)
noncomputable def unf:D→List D
 | .tup [.str k,.tup (m0 :: more),.tup off]=>m0 :: (more.flatMap (fun p=>[p,.str (pt k)])++off.flatMap (fun p=>[p,.str (tk k)]))
 | _=>[]
theorem itV_form {d:D} (h:IsForm d):itV d=post (fw d):=by cases h <;> rfl
theorem itV_pairs {w:Str}:∀ {l:List D},(∀ x∈l,IsForm x)→(l.flatMap (fun p=>[p,.str w])).flatMap itV=(l.map fw).flatMap (fun x=>post x++[.str w])
 | [],_=>rfl
 | d :: r,h=>by
  have ih:=itV_pairs (w:=w) (l:=r) fun x hx=>h x (List.mem_cons_of_mem _ hx)
  rw [List.flatMap_cons,List.flatMap_append,ih,List.map_cons,List.flatMap_cons]
  congr 1
  show itV d++(itV (.str w)++[])=_
  rw [itV_form (h d (List.mem_cons_self ..))]
  rfl
theorem unf_it {k:Str} {m0:D} {more off:List D} (h0:IsForm m0) (h1:∀ x∈more,IsForm x) (h2:∀ x∈off,IsForm x) :
  (unf (.tup [.str k,.tup (m0 :: more),.tup off])).flatMap itV=post (fw (.tup [.str k,.tup (m0 :: more),.tup off])):=by
 rw [fw_grp h0 h1 h2,fold1_post,fold1_post]
 show (m0 :: (_++_)).flatMap itV=_
 rw [List.flatMap_cons,List.flatMap_append,itV_pairs h1,itV_pairs h2,itV_form h0,List.append_assoc]
noncomputable def szl (l:List D):Nat:=(l.map sz).sum
theorem szl_pairs (w:Str):∀ l:List D,szl (l.flatMap (fun p=>[p,.str w]))=szs l
 | []=>by unfold szs; rfl
 | d :: r=>by
  have ih:=szl_pairs w r
  have e:sz (.str w)=1:=by unfold sz; rfl
  unfold szs
  rw [List.flatMap_cons]
  unfold szl at ih ⊢
  rw [List.map_append,List.sum_append,ih]
  show sz d + (sz (.str w) + 0) + szs r=_
  rw [e]
theorem szl_unf (k:Str) (m0:D) (more off:List D):szl (unf (.tup [.str k,.tup (m0 :: more),.tup off])) < sz (.tup [.str k,.tup (m0 :: more),.tup off]):=by
 have e1:∀ l,sz (.tup l)=1 + szs l:=fun l=>by rw [sz]
 have e3:∀ (d:D) (r:List D),szs (d :: r)=sz d + 1 + szs r:=fun d r=>by rw [szs]
 have e4:szs []=0:=by rw [szs]
 have a:=szl_pairs (pt k) more
 have b:=szl_pairs (tk k) off
 show szl (m0 :: (_++_)) < _
 unfold szl at a b ⊢
 rw [List.map_cons,List.sum_cons,List.map_append,List.sum_append,a,b,e1,e3,e3,e3,e4,e1,e1,e3]
 lia
theorem sz_pos (d:D):1≤sz d:=by cases d <;> unfold sz <;> lia
theorem lvs_app:∀ a b:List D,lvs (a++b)=lvs a + lvs b
 | [],b=>by rw [List.nil_append,show lvs []=0 by rw [lvs]]; lia
 | d :: r,b=>by
  have ih:=lvs_app r b
  rw [List.cons_append,lvs,lvs,ih]; lia
theorem lvs_perm {a b:List D} (h:a.Perm b):lvs a=lvs b:=by
 induction h with
 | nil=>rfl
 | cons x _ ih=>rw [lvs,lvs,ih]
 | swap x y l=>rw [lvs,lvs,lvs,lvs]; lia
 | trans _ _ i1 i2=>rw [i1,i2]
theorem deps_le {l:List D} {n:Nat} (h:∀ x∈l,x.dep≤n):deps l≤n:=by
 induction l with
 | nil=>rw [deps]; lia
 | cons d r ih =>
  have:=h d (List.mem_cons_self ..)
  have:=ih fun x hx=>h x (List.mem_cons_of_mem _ hx)
  rw [deps]; lia
end Law
namespace Law
open PySem L2
noncomputable def rkK (k:Str):Int:=if k="sum" then 2 else 3
mutual
noncomputable def kD:D→List Int
 | .int i=>[1,i]
 | .tup l=>kG l
 | _=>[]
noncomputable def kG:List D→List Int
 | .str k :: r=>rkK k :: kR r
 | _=>[]
noncomputable def kR:List D→List Int
 | []=>[]
 | d :: r=>kRow d++0 :: kR r
noncomputable def kRow:D→List Int
 | .tup l=>kS l
 | _=>[]
noncomputable def kS:List D→List Int
 | []=>[]
 | d :: r=>kD d++kS r
end
theorem kD_int (i:Int):kD (.int i)=[1,i]:=by rw [kD]
theorem kD_grp (k:Str) (more off:List D):kD (.tup [.str k,.tup more,.tup off])=rkK k :: (kS more++0 :: (kS off++[0])):=by
 rw [kD,kG,kR,kR,kR,kRow,kRow]
theorem kS_cons (d:D) (r:List D):kS (d :: r)=kD d++kS r:=by rw [kS]
theorem kS_nil:kS []=[]:=by rw [kS]
theorem kD_head {d:D} (h:IsForm d):∃ a r,kD d=a :: r∧0 < a:=by
 cases h with
 | num h0 h1=>rw [kD_int]; exact ⟨1,_,rfl,by decide⟩
 | @grp k m0 more off hk _ _ _=>rw [kD_grp]; exact ⟨_,_,rfl,by unfold rkK; split <;> decide⟩
noncomputable def sl (a b:List Int):Prop:=∃ (p:List Int) (u v:Int) (x y:List Int),a=p++u :: x∧b=p++v :: y∧u < v
theorem sl.app {a b:List Int} (h:sl a b) (x y:List Int):sl (a++x) (b++y):=by
 obtain ⟨p,u,v,x1,y1,rfl,rfl,l⟩:=h
 exact ⟨p,u,v,x1++x,y1++y,by simp,by simp,l⟩
theorem sl.pre {a b:List Int} (h:sl a b) (p:List Int):sl (p++a) (p++b):=by
 obtain ⟨p1,u,v,x1,y1,rfl,rfl,l⟩:=h
 exact ⟨p++p1,u,v,x1,y1,by simp,by simp,l⟩
theorem sl.cons {a b:List Int} (h:sl a b) (c:Int):sl (c :: a) (c :: b):=h.pre [c]
theorem sl_head {a b:Int} (h:a < b) (x y:List Int):sl (a :: x) (b :: y):=⟨[],a,b,x,y,rfl,rfl,h⟩
theorem sl.lx {a b:List Int} (h:sl a b):lx a b=true:=by
 obtain ⟨p,u,v,x,y,rfl,rfl,l⟩:=h
 induction p with
 | nil=>show L2.lx (u :: x) (v :: y)=true; rw [lx_cons,if_neg (by lia)]; exact decide_eq_true l
 | cons a p ih=>show L2.lx (a :: (p++u :: x)) (a :: (p++v :: y))=true; rw [lx_cons,if_pos rfl]; exact ih
theorem lx_not {a b:List Int} (h:L2.lx a b=true):L2.lx b a=false:=by
 cases e:L2.lx b a with
 | false=>rfl
 | true =>
  have:=lx_trans _ _ _ h e
  rw [lx_irrefl] at this
  cases this
noncomputable def Tri (d e:D):Prop:=d=e∨sl (kD d) (kD e)∨sl (kD e) (kD d)
theorem rows_tri:∀ {a b:List D},(∀ x∈a,IsForm x)→(∀ y∈b,IsForm y)→(∀ x∈a,∀ y∈b,Tri x y)→∀ (s t:List Int),a=b∨sl (kS a++0 :: s) (kS b++0 :: t)∨sl (kS b++0 :: t) (kS a++0 :: s)
 | [],[],_,_,_,s,t=>.inl rfl
 | [],y :: r,_,hb,_,s,t=>by
  obtain ⟨c,z,e,hc⟩:=kD_head (hb y (List.mem_cons_self ..))
  rw [kS_nil,kS_cons,e]
  exact .inr (.inl (sl_head hc _ _))
 | x :: r,[],ha,_,_,s,t=>by
  obtain ⟨c,z,e,hc⟩:=kD_head (ha x (List.mem_cons_self ..))
  rw [kS_nil,kS_cons,e]
  exact .inr (.inr (sl_head hc _ _))
 | x :: r,y :: q,ha,hb,ht,s,t=>by
  rw [kS_cons,kS_cons,List.append_assoc,List.append_assoc]
  rcases ht x (List.mem_cons_self ..) y (List.mem_cons_self ..) with rfl | h | h
  ·rcases rows_tri (fun z hz=>ha z (List.mem_cons_of_mem _ hz)) (fun z hz=>hb z (List.mem_cons_of_mem _ hz)) (fun z hz w hw=>ht z (List.mem_cons_of_mem _ hz) w (List.mem_cons_of_mem _ hw)) s t with rfl | h | h
   ·exact .inl rfl
   ·exact .inr (.inl (h.pre _))
   ·exact .inr (.inr (h.pre _))
  ·exact .inr (.inl (h.app _ _))
  ·exact .inr (.inr (h.app _ _))
theorem tri {d:D} (hd:IsForm d):∀ {e:D},IsForm e→Tri d e:=by
 induction hd with
 | @num i h0 h1 =>
  intro e he
  cases he with
  | @num j _ _ =>
   unfold Tri
   rw [kD_int,kD_int]
   rcases Int.lt_trichotomy i j with h | h | h
   ·exact .inr (.inl ((sl_head h [] []).cons 1))
   ·exact .inl (by rw [h])
   ·exact .inr (.inr ((sl_head h [] []).cons 1))
  | @grp k m0 more off hk _ _ _ =>
   refine .inr (.inl ?_)
   rw [kD_int,kD_grp]
   exact sl_head (by unfold rkK; split <;> decide) _ _
 | @grp k m0 more off hk h0 h1 h2 i0 i1 i2 =>
  intro e he
  cases he with
  | @num j _ _ =>
   refine .inr (.inr ?_)
   rw [kD_int,kD_grp]
   exact sl_head (by unfold rkK; split <;> decide) _ _
  | @grp k' m0' more' off' hk' h0' h1' h2' =>
   have f1:∀ x∈m0 :: more,IsForm x:=fun x hx=>by rcases List.mem_cons.mp hx with rfl | hx; exact h0; exact h1 x hx
   have f1':∀ x∈m0' :: more',IsForm x:=fun x hx=>by rcases List.mem_cons.mp hx with rfl | hx; exact h0'; exact h1' x hx
   have t1:∀ x∈m0 :: more,∀ y∈m0' :: more',Tri x y:=fun x hx y hy=>by
    rcases List.mem_cons.mp hx with rfl | hx
    ·exact i0 (f1' y hy)
    ·exact i1 x hx (f1' y hy)
   by_cases ek:k=k'
   ·subst ek
    unfold Tri
    rw [kD_grp,kD_grp]
    rcases rows_tri f1 f1' t1 (kS off++[0]) (kS off'++[0]) with e1 | h | h
    ·rcases rows_tri h2 h2' (fun x hx y hy=>i2 x hx (h2' y hy)) [] [] with e2 | h | h
     ·exact .inl (by rw [e1,e2])
     ·rw [e1]; exact .inr (.inl (((h.cons 0).pre _).cons _))
     ·rw [e1]; exact .inr (.inr (((h.cons 0).pre _).cons _))
    ·exact .inr (.inl (h.cons _))
    ·exact .inr (.inr (h.cons _))
   ·unfold Tri
    rw [kD_grp,kD_grp]
    rcases hk with rfl | rfl <;> rcases hk' with rfl | rfl
    ·exact absurd rfl ek
    ·exact .inr (.inl (sl_head (by decide) _ _))
    ·exact .inr (.inr (sl_head (by decide) _ _))
    ·exact absurd rfl ek
theorem kD_inj {d e:D} (hd:IsForm d) (he:IsForm e) (h:kD d=kD e):d=e:=by
 rcases tri hd he with r | r | r
 ·exact r
 ·have:=r.lx; rw [h,lx_irrefl] at this; cases this
 ·have:=r.lx; rw [h,lx_irrefl] at this; cases this
noncomputable def Le (a b:D):Prop:=L2.lx (kD b) (kD a)=false
noncomputable def Ord (l:List D):Prop:=l.Pairwise Le
theorem ord_unique:∀ {a b:List D},(∀ x∈a,IsForm x)→a.Perm b→Ord a→Ord b→a=b
 | [],b,_,p,_,_=>(List.nil_perm.mp p).symm
 | x :: r,b,hf,p,oa,ob=>by
  cases b with
  | nil=>exact absurd (p.length_eq) (by simp)
  | cons y q =>
   have hfb:∀ z∈y :: q,IsForm z:=fun z hz=>hf z (p.mem_iff.mpr hz)
   obtain ⟨a1,a2⟩:=List.pairwise_cons.mp oa
   obtain ⟨b1,b2⟩:=List.pairwise_cons.mp ob
   have e:x=y:=by
    by_cases c:x=y
    ·exact c
    have m1:x∈q:=by
     rcases List.mem_cons.mp (p.mem_iff.mp (List.mem_cons_self ..)) with h | h
     ·exact absurd h c
     ·exact h
    have m2:y∈r:=by
     rcases List.mem_cons.mp (p.mem_iff.mpr (List.mem_cons_self ..)) with h | h
     ·exact absurd h.symm c
     ·exact h
    exact kD_inj (hf x (List.mem_cons_self ..)) (hf y (List.mem_cons_of_mem _ m2)) (lx_total _ _ (b1 x m1) (a1 y m2))
   subst e
   rw [ord_unique (fun z hz=>hf z (List.mem_cons_of_mem _ hz)) (List.Perm.cons_inv p) a2 b2]
theorem ord_insert:∀ {l:List D} {x:D},Ord l→Ord (l.take (l.countP fun y=>!L2.lx (kD x) (kD y))++x :: l.drop (l.countP fun y=>!L2.lx (kD x) (kD y)))
 | [],x,_=>List.pairwise_singleton _ _
 | y :: r,x,o=>by
  obtain ⟨o1,o2⟩:=List.pairwise_cons.mp o
  have ih:=ord_insert (x:=x) o2
  rw [List.countP_cons]
  cases e:L2.lx (kD x) (kD y) with
  | false =>
   rw [if_pos (by rfl),List.take_succ_cons,List.drop_succ_cons,List.cons_append]
   refine List.pairwise_cons.mpr ⟨fun z hz=>?_,ih⟩
   have hz':z=x∨z∈r:=by
    rcases List.mem_append.mp hz with h | h
    ·exact .inr (List.mem_of_mem_take h)
    ·rcases List.mem_cons.mp h with h | h
     ·exact .inl h
     ·exact .inr (List.mem_of_mem_drop h)
   rcases hz' with rfl | h
   ·exact e
   ·exact o1 z h
  | true =>
   have none:(r.countP fun y=>!L2.lx (kD x) (kD y))=0:=List.countP_eq_zero.mpr fun z hz=>by
    have h1:=o1 z hz
    cases e2:L2.lx (kD x) (kD z) with
    | true=>decide
    | false =>
     rcases lx_neg _ (kD z) _ e with h | h
     ·rw [e2] at h; cases h
     ·have h1':L2.lx (kD z) (kD y)=false:=h1
      rw [h1'] at h; cases h
   rw [none,if_neg (by decide)]
   show Ord (x :: (y :: r))
   refine List.pairwise_cons.mpr ⟨fun z hz=>?_,o⟩
   rcases List.mem_cons.mp hz with rfl | hz
   ·exact lx_not e
   ·show L2.lx (kD z) (kD x)=false
    have h1:L2.lx (kD z) (kD y)=false:=o1 z hz
    cases e2:L2.lx (kD z) (kD x) with
    | false=>rfl
    | true=>have:=lx_trans _ _ _ e2 e; rw [h1] at this; cases this
end Law
namespace Law
open PySem L2
noncomputable def insD (l:List D) (x:D):List D:=l.take (l.countP fun y=>!L2.lx (kD x) (kD y))++x :: l.drop (l.countP fun y=>!L2.lx (kD x) (kD y))
theorem insD_perm (l:List D) (x:D):(insD l x).Perm (l++[x]):=by
 unfold insD
 refine List.perm_middle.trans ?_
 rw [List.take_append_drop]
 exact List.perm_append_comm (l₁:=[x])
noncomputable def srtD (l:List D):List D:=l.foldl insD []
theorem srt_fold:∀ (l acc:List D),Ord acc→Ord (l.foldl insD acc)∧(l.foldl insD acc).Perm (acc++l)
 | [],acc,o=>⟨o,by rw [List.append_nil]; exact .refl _⟩
 | x :: r,acc,o=>by
  obtain ⟨a,b⟩:=srt_fold r (insD acc x) (ord_insert o)
  refine ⟨a,b.trans ?_⟩
  have:=(insD_perm acc x).append_right r
  rw [List.append_assoc] at this
  exact this
theorem srtD_ord (l:List D):Ord (srtD l):=(srt_fold l [] List.Pairwise.nil).1
theorem srtD_perm (l:List D):(srtD l).Perm l:=by have:=(srt_fold l [] List.Pairwise.nil).2; rwa [List.nil_append] at this
theorem srtD_eq {l m:List D} (hf:∀ x∈l,IsForm x) (h:l.Perm m):srtD l=srtD m :=
 ord_unique (fun x hx=>hf x ((srtD_perm l).mem_iff.mp hx)) ((srtD_perm l).trans (h.trans (srtD_perm m).symm)) (srtD_ord l) (srtD_ord m)
noncomputable def knd (w:Str):Str:=if w="plus"∨w="less" then "sum" else "product"
noncomputable def trn (w:Str):Bool:=decide (w="less"∨w="share")
theorem knd_ok (w:Str):knd w="sum"∨knd w="product":=by unfold knd; split; exact .inl rfl; exact .inr rfl
noncomputable def pf (k:Str):D→List D×List D
 | .tup [.str k',.tup m,.tup o]=>if k'=k then (m,o) else ([.tup [.str k',.tup m,.tup o]],[])
 | d=>([d],[])
noncomputable def swp (b:Bool) (p:List D×List D):List D×List D:=if b then (p.2,p.1) else p
noncomputable def fP:Way→D
 | .num n=>.int n
 | .op w a b=>.tup [.str (knd w),.tup (srtD ((pf (knd w) (fP a)).1++(swp (trn w) (pf (knd w) (fP b))).1)),.tup (srtD ((pf (knd w) (fP a)).2++(swp (trn w) (pf (knd w) (fP b))).2))]
theorem pf_int (k:Str) (i:Int):pf k (.int i)=([.int i],[]):=rfl
theorem pf_grp (k k':Str) (m o:List D):pf k (.tup [.str k',.tup m,.tup o])=if k'=k then (m,o) else ([.tup [.str k',.tup m,.tup o]],[]):=rfl
theorem pf_form {k:Str} {d:D} (h:IsForm d):(∃ m0 r,(pf k d).1=m0 :: r)∧(∀ x∈(pf k d).1,IsForm x)∧∀ x∈(pf k d).2,IsForm x:=by
 have one:∀ x∈[d],IsForm x:=fun x hx=>by rw [List.mem_singleton.mp hx]; exact h
 cases h with
 | num h0 h1=>exact ⟨⟨_,_,rfl⟩,one,fun x hx=>by cases hx⟩
 | @grp k' m0 more off hk g0 g1 g2 =>
  rw [pf_grp]
  split
  ·refine ⟨⟨_,_,rfl⟩,fun x hx=>?_,g2⟩
   rcases List.mem_cons.mp hx with rfl | hx
   ·exact g0
   ·exact g1 x hx
  ·exact ⟨⟨_,_,rfl⟩,one,fun x hx=>by cases hx⟩
theorem srt_cons {l:List D} {m0:D} {r:List D} (h:l=m0 :: r):∃ x t,srtD l=x :: t:=by
 cases e:srtD l with
 | nil=>have:=(srtD_perm l).length_eq; rw [e,h] at this; cases this
 | cons x t=>exact ⟨x,t,rfl⟩
theorem swp_forms {b:Bool} {k:Str} {d:D} (h:IsForm d):(∀ x∈(swp b (pf k d)).1,IsForm x)∧∀ x∈(swp b (pf k d)).2,IsForm x:=by
 obtain ⟨_,h1,h2⟩:=pf_form (k:=k) h
 cases b
 ·exact ⟨h1,h2⟩
 ·exact ⟨h2,h1⟩
theorem fP_form:∀ {x:Way},x.ok 1000000→IsForm (fP x):=by
 intro x
 induction x with
 | num n=>intro h; exact .num h.1 h.2
 | op w a b ia ib =>
  intro h
  obtain ⟨_,ha,hb⟩:=h
  have fa:=ia ha
  have fb:=ib hb
  obtain ⟨⟨m0,r,e⟩,a1,a2⟩:=pf_form (k:=knd w) fa
  obtain ⟨b1,b2⟩:=swp_forms (b:=trn w) (k:=knd w) fb
  have f1:∀ x∈srtD ((pf (knd w) (fP a)).1++(swp (trn w) (pf (knd w) (fP b))).1),IsForm x:=fun x hx=>by
   rcases List.mem_append.mp ((srtD_perm _).mem_iff.mp hx) with h | h
   ·exact a1 x h
   ·exact b1 x h
  have f2:∀ x∈srtD ((pf (knd w) (fP a)).2++(swp (trn w) (pf (knd w) (fP b))).2),IsForm x:=fun x hx=>by
   rcases List.mem_append.mp ((srtD_perm _).mem_iff.mp hx) with h | h
   ·exact a2 x h
   ·exact b2 x h
  show IsForm (.tup [.str (knd w),.tup _,.tup _])
  obtain ⟨x,t,es⟩:=srt_cons (l:=(pf (knd w) (fP a)).1++(swp (trn w) (pf (knd w) (fP b))).1) (m0:=m0) (r:=r++(swp (trn w) (pf (knd w) (fP b))).1) (by rw [e]; rfl)
  rw [es] at f1 ⊢
  exact .grp (knd_ok w) (f1 x (List.mem_cons_self ..)) (fun y hy=>f1 y (List.mem_cons_of_mem _ hy)) f2
noncomputable def spr (k:Str):Way→Int→List (Way×Int)
 | .num n,sg=>[(.num n,sg)]
 | .op w a b,sg=>if knd w=k then spr k a sg++spr k b (sg * (if trn w then -1 else 1)) else [(.op w a b,sg)]
noncomputable def psF (l:List (Way×Int)):List D:=(l.filter fun p=>decide (0 < p.2)).map fun p=>fP p.1
noncomputable def ngF (l:List (Way×Int)):List D:=(l.filter fun p=>decide (p.2 < 0)).map fun p=>fP p.1
theorem psF_app (a b:List (Way×Int)):psF (a++b)=psF a++psF b:=by unfold psF; rw [List.filter_append,List.map_append]
theorem ngF_app (a b:List (Way×Int)):ngF (a++b)=ngF a++ngF b:=by unfold ngF; rw [List.filter_append,List.map_append]
theorem spr_pf (k:Str):∀ x:Way,((psF (spr k x 1)).Perm (pf k (fP x)).1∧(ngF (spr k x 1)).Perm (pf k (fP x)).2)∧((psF (spr k x (-1))).Perm (pf k (fP x)).2∧(ngF (spr k x (-1))).Perm (pf k (fP x)).1):=by
 intro x
 induction x with
 | num n =>
  refine ⟨⟨?_,?_⟩,?_,?_⟩ <;> exact List.Perm.refl _
 | op w a b ia ib =>
  by_cases e:knd w=k
  ·have es:∀ sg,spr k (.op w a b) sg=spr k a sg++spr k b (sg * (if trn w then -1 else 1)):=fun sg=>by rw [spr,if_pos e]
   have ef:pf k (fP (.op w a b))=(srtD ((pf k (fP a)).1++(swp (trn w) (pf k (fP b))).1),srtD ((pf k (fP a)).2++(swp (trn w) (pf k (fP b))).2)):=by
    rw [fP,pf_grp,if_pos e,e]
   rw [ef,es,es]
   obtain ⟨⟨a1,a2⟩,a3,a4⟩:=ia
   obtain ⟨⟨b1,b2⟩,b3,b4⟩:=ib
   rw [psF_app,ngF_app,psF_app,ngF_app]
   cases ht:trn w with
   | false =>
    simp only [Bool.false_eq_true,if_false,Int.mul_one]
    exact ⟨⟨(a1.append b1).trans (srtD_perm _).symm,(a2.append b2).trans (srtD_perm _).symm⟩,(a3.append b3).trans (srtD_perm _).symm,(a4.append b4).trans (srtD_perm _).symm⟩
   | true =>
    simp only [if_true]
    rw [show (1:Int) * -1=-1 by decide,show (-1:Int) * -1=1 by decide]
    exact ⟨⟨(a1.append b3).trans (srtD_perm _).symm,(a2.append b4).trans (srtD_perm _).symm⟩,(a3.append b1).trans (srtD_perm _).symm,(a4.append b2).trans (srtD_perm _).symm⟩
  ·have es:∀ sg,spr k (.op w a b) sg=[(.op w a b,sg)]:=fun sg=>by rw [spr,if_neg e]
   have ef:pf k (fP (.op w a b))=([fP (.op w a b)],[]):=by rw [fP,pf_grp,if_neg e]
   rw [ef,es,es]
   exact ⟨⟨.refl _,.refl _⟩,.refl _,.refl _⟩
theorem law_form {w:Str} {a b:Way} (h:(Way.op w a b).ok 1000000):D.tup [.str (knd w),.tup (srtD (psF (spr (knd w) (.op w a b) 1))),.tup (srtD (ngF (spr (knd w) (.op w a b) 1)))]=fP (.op w a b):=by
 obtain ⟨⟨h1,h2⟩,_⟩:=spr_pf (knd w) (.op w a b)
 have ef:pf (knd w) (fP (.op w a b))=(srtD ((pf (knd w) (fP a)).1++(swp (trn w) (pf (knd w) (fP b))).1),srtD ((pf (knd w) (fP a)).2++(swp (trn w) (pf (knd w) (fP b))).2)):=by rw [fP,pf_grp,if_pos rfl]
 rw [ef] at h1 h2
 have ff:=pf_form (k:=knd w) (fP_form h)
 rw [ef] at ff
 have g1:∀ x∈psF (spr (knd w) (.op w a b) 1),IsForm x:=fun x hx=>ff.2.1 x (h1.mem_iff.mp hx)
 have g2:∀ x∈ngF (spr (knd w) (.op w a b) 1),IsForm x:=fun x hx=>ff.2.2 x (h2.mem_iff.mp hx)
 rw [srtD_eq g1 (h1.trans (srtD_perm _)),srtD_eq g2 (h2.trans (srtD_perm _)),fP]
end Law
namespace Law
open PySem L2
noncomputable def valD (d:D):Int:=match worthE (fw d) with
 | .inr n=>n
 | .inl _=>0
noncomputable def okD (d:D):Prop:=∃ n,worthE (fw d)=.inr n∧1≤n
theorem valD_of {d:D} {n:Int} (h:worthE (fw d)=.inr n):valD d=n:=by unfold valD; rw [h]
theorem okD.val {d:D} (h:okD d):worthE (fw d)=.inr (valD d)∧1≤valD d:=by
 obtain ⟨n,h1,h2⟩:=h
 rw [valD_of h1]
 exact ⟨h1,h2⟩
noncomputable def sumD (l:List D):Int:=(l.map valD).sum
noncomputable def prodI:List Int→Int
 | []=>1
 | a :: r=>a * prodI r
noncomputable def prodD (l:List D):Int:=prodI (l.map valD)
theorem sumD_app (a b:List D):sumD (a++b)=sumD a + sumD b:=by unfold sumD; rw [List.map_append,List.sum_append]
theorem prodI_app:∀ a b:List Int,prodI (a++b)=prodI a * prodI b
 | [],b=>by show prodI b=1 * prodI b; rw [Int.one_mul]
 | x :: a,b=>by show x * prodI (a++b)=x * prodI a * prodI b; rw [prodI_app a b,Int.mul_assoc]
theorem prodD_app (a b:List D):prodD (a++b)=prodD a * prodD b:=by unfold prodD; rw [List.map_append,prodI_app]
theorem sumD_nn {l:List D} (h:∀ x∈l,okD x):0≤sumD l:=by
 induction l with
 | nil=>exact Int.le_refl _
 | cons d r ih =>
  show 0≤(valD d :: r.map valD).sum
  rw [List.sum_cons]
  have:=(h d (List.mem_cons_self ..)).val.2
  have:=ih fun x hx=>h x (List.mem_cons_of_mem _ hx)
  unfold sumD at this
  lia
theorem fold1_cons (w:Str) (a x:Way) (xs:List Way):fold1 w a (x :: xs)=fold1 w (.op w a x) xs:=rfl
theorem worth_two {w:Str} {a b:Way} {x y:Int} (h1:worthE a=.inr x) (h2:worthE b=.inr y):worthE (.op w a b)=byE w x y:=by rw [worthE_op,h1,h2]
theorem worth_parts {w:Str} {a b:Way} {n:Int} (h:worthE (.op w a b)=.inr n):∃ x y,worthE a=.inr x∧worthE b=.inr y∧byE w x y=.inr n:=by
 rw [worthE_op] at h
 cases e1:worthE a with
 | inl e=>rw [e1] at h; cases h
 | inr x =>
  rw [e1] at h
  cases e2:worthE b with
  | inl e=>rw [e2] at h; cases h
  | inr y=>rw [e2] at h; exact ⟨x,y,rfl,rfl,h⟩
theorem by_plus (a b:Int):byE "plus" a b=.inr (a + b):=by unfold byE; rw [if_pos rfl]
theorem by_times (a b:Int):byE "times" a b=.inr (a * b):=by unfold byE; rw [if_neg (by decide +kernel),if_pos rfl]
theorem by_less (a b:Int):byE "less" a b=if b < a then .inr (a - b) else .inl "less":=by unfold byE; rw [if_neg (by decide +kernel),if_neg (by decide +kernel),if_pos rfl]
theorem by_share (a b:Int):byE "share" a b=if a % b=0 then .inr (a / b) else .inl "share":=by unfold byE; rw [if_neg (by decide +kernel),if_neg (by decide +kernel),if_neg (by decide +kernel)]
theorem plus_fold:∀ (l:List D) (a:Way) (x:Int),worthE a=.inr x→(∀ d∈l,okD d)→worthE (fold1 "plus" a (l.map fw))=.inr (x + sumD l)
 | [],a,x,h,_=>by
  show worthE a=.inr (x + 0)
  rw [h,Int.add_zero]
 | d :: r,a,x,h,ho=>by
  rw [List.map_cons,fold1_cons,plus_fold r (.op "plus" a (fw d)) (x + valD d) (by rw [worth_two h (ho d (List.mem_cons_self ..)).val.1,by_plus]) fun z hz=>ho z (List.mem_cons_of_mem _ hz)]
  show Sum.inr (x + valD d + sumD r)=Sum.inr (x + (valD d :: r.map valD).sum)
  rw [List.sum_cons,Int.add_assoc]; rfl
theorem times_fold:∀ (l:List D) (a:Way) (x:Int),worthE a=.inr x→(∀ d∈l,okD d)→worthE (fold1 "times" a (l.map fw))=.inr (x * prodD l)
 | [],a,x,h,_=>by
  show worthE a=.inr (x * 1)
  rw [h,Int.mul_one]
 | d :: r,a,x,h,ho=>by
  rw [List.map_cons,fold1_cons,times_fold r (.op "times" a (fw d)) (x * valD d) (by rw [worth_two h (ho d (List.mem_cons_self ..)).val.1,by_times]) fun z hz=>ho z (List.mem_cons_of_mem _ hz)]
  show Sum.inr (x * valD d * prodD r)=Sum.inr (x * (valD d * prodI (r.map valD)))
  rw [Int.mul_assoc]; rfl
theorem less_fold:∀ (l:List D) (a:Way) (x:Int),worthE a=.inr x→(∀ d∈l,okD d)→1≤x - sumD l→worthE (fold1 "less" a (l.map fw))=.inr (x - sumD l)
 | [],a,x,h,_,_=>by
  show worthE a=.inr (x - 0)
  rw [h,Int.sub_zero]
 | d :: r,a,x,h,ho,hx=>by
  have e:sumD (d :: r)=valD d + sumD r:=by unfold sumD; rw [List.map_cons,List.sum_cons]
  have ho':∀ z∈r,okD z:=fun z hz=>ho z (List.mem_cons_of_mem _ hz)
  have hn:=sumD_nn ho'
  rw [e] at hx ⊢
  rw [List.map_cons,fold1_cons,less_fold r (.op "less" a (fw d)) (x - valD d) (by rw [worth_two h (ho d (List.mem_cons_self ..)).val.1,by_less,if_pos (by lia)]) ho' (by lia)]
  congr 1; lia
theorem share_fold:∀ (l:List D) (a:Way) (n:Int),worthE a=.inr (n * prodD l)→(∀ d∈l,okD d)→worthE (fold1 "share" a (l.map fw))=.inr n
 | [],a,n,h,_=>by
  show worthE a=.inr n
  rw [h]
  show Sum.inr (n * 1)=Sum.inr n
  rw [Int.mul_one]
 | d :: r,a,n,h,ho=>by
  have e:prodD (d :: r)=valD d * prodD r:=rfl
  have hd:=(ho d (List.mem_cons_self ..)).val
  have hne:valD d≠0:=by lia
  have e2:n * (valD d * prodD r)=(n * prodD r) * valD d:=by rw [Int.mul_comm (valD d),Int.mul_assoc]
  rw [e,e2] at h
  rw [List.map_cons,fold1_cons]
  refine share_fold r _ n ?_ fun z hz=>ho z (List.mem_cons_of_mem _ hz)
  rw [worth_two h hd.1,by_share,if_pos (Int.mul_emod_left ..),Int.mul_ediv_cancel _ hne]
theorem any_back (w:Str):∀ (l:List Way) (a:Way) (n:Int),worthE (fold1 w a l)=.inr n→∃ x,worthE a=.inr x∧(∀ y∈l,∃ z,worthE y=.inr z)
 | [],a,n,h=>⟨n,h,fun y hy=>by cases hy⟩
 | d :: r,a,n,h=>by
  rw [fold1_cons] at h
  obtain ⟨x,h1,h2⟩:=any_back w r _ n h
  obtain ⟨p,q,h3,h4,_⟩:=worth_parts h1
  exact ⟨p,h3,fun y hy=>by
   rcases List.mem_cons.mp hy with rfl | hy
   ·exact ⟨q,h4⟩
   ·exact h2 y hy⟩
theorem less_back:∀ (l:List D) (a:Way) (x n:Int),worthE a=.inr x→(∀ d∈l,okD d)→worthE (fold1 "less" a (l.map fw))=.inr n→n=x - sumD l
 | [],a,x,n,h,_,h2=>by
  have h2':worthE a=.inr n:=h2
  rw [h] at h2'
  cases h2'
  show x=x - 0
  lia
 | d :: r,a,x,n,h,ho,h2=>by
  have e:sumD (d :: r)=valD d + sumD r:=by unfold sumD; rw [List.map_cons,List.sum_cons]
  rw [List.map_cons,fold1_cons] at h2
  obtain ⟨y,h3,_⟩:=any_back "less" _ _ n h2
  have h4:=h3
  rw [worth_two h (ho d (List.mem_cons_self ..)).val.1,by_less] at h4
  split at h4
  ·cases h4
   have:=less_back r _ _ n h3 (fun z hz=>ho z (List.mem_cons_of_mem _ hz)) h2
   lia
  ·cases h4
theorem share_back:∀ (l:List D) (a:Way) (x n:Int),worthE a=.inr x→(∀ d∈l,okD d)→worthE (fold1 "share" a (l.map fw))=.inr n→n * prodD l=x
 | [],a,x,n,h,_,h2=>by
  have h2':worthE a=.inr n:=h2
  rw [h] at h2'
  cases h2'
  show x * 1=x
  exact Int.mul_one _
 | d :: r,a,x,n,h,ho,h2=>by
  rw [List.map_cons,fold1_cons] at h2
  obtain ⟨y,h3,_⟩:=any_back "share" _ _ n h2
  have h4:=h3
  rw [worth_two h (ho d (List.mem_cons_self ..)).val.1,by_share] at h4
  split at h4
  ·rename_i hm
   cases h4
   have ih:=share_back r _ _ n h3 (fun z hz=>ho z (List.mem_cons_of_mem _ hz)) h2
   show n * (valD d * prodD r)=x
   rw [Int.mul_left_comm,ih]
   exact Int.mul_ediv_cancel' (Int.dvd_of_emod_eq_zero hm)
  ·cases h4
noncomputable def Rel (k:Str) (m o:List D) (n:Int):Prop:=(k="sum"→n=sumD m - sumD o)∧(k="product"→n * prodD o=prodD m)
theorem grp_worth {k:Str} {m0:D} {more off:List D} {n:Int} (hk:k="sum"∨k="product") (h0:IsForm m0) (h1:∀ x∈more,IsForm x) (h2:∀ x∈off,IsForm x)
  (om:∀ x∈m0 :: more,okD x) (oo:∀ x∈off,okD x) (hn:1≤n) (hr:Rel k (m0 :: more) off n):worthE (fw (.tup [.str k,.tup (m0 :: more),.tup off]))=.inr n:=by
 rw [fw_grp h0 h1 h2]
 have hv:=(om m0 (List.mem_cons_self ..)).val.1
 have om':∀ x∈more,okD x:=fun x hx=>om x (List.mem_cons_of_mem _ hx)
 rcases hk with rfl | rfl
 ·have e:=hr.1 rfl
  have es:sumD (m0 :: more)=valD m0 + sumD more:=by unfold sumD; rw [List.map_cons,List.sum_cons]
  rw [es] at e
  rw [show pt "sum"="plus" by decide,show tk "sum"="less" by decide,less_fold off _ _ (plus_fold more _ _ hv om') oo (by lia),e]
 ·have e:=hr.2 rfl
  have es:prodD (m0 :: more)=valD m0 * prodD more:=rfl
  rw [es] at e
  rw [show pt "product"="times" by decide,show tk "product"="share" by decide]
  exact share_fold off _ n (by rw [times_fold more _ _ hv om',e]) oo
theorem form_pos {d:D} {n:Int} (h:IsForm d) (e:worthE (fw d)=.inr n):1≤n:=by
 have:(fw d).ok 1000000:=by
  induction h with
  | num h0 h1=>rw [fw_int]; exact ⟨h0,h1⟩
  | @grp k m0 more off hk g0 g1 g2 ih0 ih1 ih2 =>
   rw [fw_grp g0 g1 g2]
   have fo:∀ (w:Str) (l:List Way) (a:Way),okWord w→a.ok 1000000→(∀ y∈l,y.ok 1000000)→(fold1 w a l).ok 1000000:=by
    intro w l
    induction l with
    | nil=>intro a _ ha _; exact ha
    | cons x r ih=>intro a hw ha hl; rw [fold1_cons]; exact ih _ hw ⟨hw,ha,hl x (List.mem_cons_self ..)⟩ fun y hy=>hl y (List.mem_cons_of_mem _ hy)
   have all:∀ (x:D),(m0=x∨x∈more∨x∈off)→(fw x).ok 1000000:=fun x hx=>by
    have q:∀ (x:D),IsForm x→(fw x).ok 1000000:=fun x hx=>by
     clear ih0 ih1 ih2 hk g0 g1 g2 e
     induction hx with
     | num h0 h1=>rw [fw_int]; exact ⟨h0,h1⟩
     | @grp k m0 more off hk g0 g1 g2 ih0 ih1 ih2 =>
      rw [fw_grp g0 g1 g2]
      refine fo _ _ _ (tk_ok k) (fo _ _ _ (pt_ok k) ih0 fun y hy=>?_) fun y hy=>?_
      ·obtain ⟨z,hz,rfl⟩:=List.mem_map.mp hy; exact ih1 z hz
      ·obtain ⟨z,hz,rfl⟩:=List.mem_map.mp hy; exact ih2 z hz
    rcases hx with rfl | hx | hx
    ·exact q _ g0
    ·exact q _ (g1 x hx)
    ·exact q _ (g2 x hx)
   refine fo _ _ _ (tk_ok k) (fo _ _ _ (pt_ok k) (all m0 (.inl rfl)) fun y hy=>?_) fun y hy=>?_
   ·obtain ⟨z,hz,rfl⟩:=List.mem_map.mp hy; exact all z (.inr (.inl hz))
   ·obtain ⟨z,hz,rfl⟩:=List.mem_map.mp hy; exact all z (.inr (.inr hz))
 exact (worth_bound (by decide) this e).1
theorem grp_back {k:Str} {m0:D} {more off:List D} {n:Int} (hk:k="sum"∨k="product") (h0:IsForm m0) (h1:∀ x∈more,IsForm x) (h2:∀ x∈off,IsForm x) (e:worthE (fw (.tup [.str k,.tup (m0 :: more),.tup off]))=.inr n) :
  (∀ x∈m0 :: more,okD x)∧(∀ x∈off,okD x)∧Rel k (m0 :: more) off n:=by
 rw [fw_grp h0 h1 h2] at e
 obtain ⟨x,ex,eo⟩:=any_back (tk k) _ _ n e
 obtain ⟨y,ey,em⟩:=any_back (pt k) _ _ x ex
 have oo:∀ d∈off,okD d:=fun d hd=>by
  obtain ⟨z,hz⟩:=eo (fw d) (List.mem_map_of_mem hd)
  exact ⟨z,hz,form_pos (h2 d hd) hz⟩
 have om:∀ d∈more,okD d:=fun d hd=>by
  obtain ⟨z,hz⟩:=em (fw d) (List.mem_map_of_mem hd)
  exact ⟨z,hz,form_pos (h1 d hd) hz⟩
 have o0:okD m0:=⟨y,ey,form_pos h0 ey⟩
 refine ⟨fun d hd=>?_,oo,?_⟩
 ·rcases List.mem_cons.mp hd with rfl | hd
  ·exact o0
  ·exact om d hd
 ·rcases hk with rfl | rfl
  ·refine ⟨fun _=>?_,fun z=>absurd z (by decide)⟩
   have es:sumD (m0 :: more)=valD m0 + sumD more:=by unfold sumD; rw [List.map_cons,List.sum_cons]
   rw [show pt "sum"="plus" by decide] at ex e
   rw [show tk "sum"="less" by decide] at e
   have:=less_back off _ _ n (plus_fold more _ _ o0.val.1 om) oo e
   rw [es]; exact this
  ·refine ⟨fun z=>absurd z (by decide),fun _=>?_⟩
   have es:prodD (m0 :: more)=valD m0 * prodD more:=rfl
   rw [show pt "product"="times" by decide] at ex e
   rw [show tk "product"="share" by decide] at e
   have:=share_back off _ _ n (times_fold more _ _ o0.val.1 om) oo e
   rw [es]; exact this
end Law
namespace Law
open PySem L2
noncomputable def isK (k:Str):D→Bool
 | .tup (.str k' :: _)=>decide (k'=k)
 | _=>false
inductive Kept:D→Prop
 | num {i:Int} (h0:1≤i) (h1:i≤1000000):Kept (.int i)
 | grp {k:Str} {m0:D} {more off:List D} (hk:k="sum"∨k="product") (h2:1≤more.length + off.length) (nm:∀ x∈m0 :: more,isK k x=false) (no:∀ x∈off,isK k x=false) (om:Ord (m0 :: more)) (oo:Ord off)
   (g0:Kept m0) (g1:∀ x∈more,Kept x) (g2:∀ x∈off,Kept x):Kept (.tup [.str k,.tup (m0 :: more),.tup off])
theorem Kept.form {d:D} (h:Kept d):IsForm d:=by
 induction h with
 | num h0 h1=>exact .num h0 h1
 | grp hk _ _ _ _ _ _ _ _ i0 i1 i2=>exact .grp hk i0 i1 i2
theorem pf_kept {k:Str} {d:D} (h:Kept d):(∀ x∈(pf k d).1,Kept x∧isK k x=false)∧∀ x∈(pf k d).2,Kept x∧isK k x=false:=by
 cases h with
 | num h0 h1 =>
  rw [pf_int]
  exact ⟨fun x hx=>by rw [List.mem_singleton.mp hx]; exact ⟨.num h0 h1,rfl⟩,fun x hx=>by cases hx⟩
 | @grp k' m0 more off hk h2 nm no om oo g0 g1 g2 =>
  rw [pf_grp]
  by_cases e:k'=k
  ·rw [if_pos e]
   subst e
   refine ⟨fun x hx=>⟨?_,nm x hx⟩,fun x hx=>⟨g2 x hx,no x hx⟩⟩
   rcases List.mem_cons.mp hx with rfl | hx
   ·exact g0
   ·exact g1 x hx
  ·rw [if_neg e]
   refine ⟨fun x hx=>?_,fun x hx=>by cases hx⟩
   rw [List.mem_singleton.mp hx]
   exact ⟨.grp hk h2 nm no om oo g0 g1 g2,decide_eq_false e⟩
theorem form_kept:∀ {x:Way},x.ok 1000000→Kept (fP x):=by
 intro x
 induction x with
 | num n=>intro h; exact .num h.1 h.2
 | op w a b iha ihb =>
  intro h
  obtain ⟨hw,ha,hb⟩:=id h
  obtain ⟨a1,a2⟩:=pf_kept (k:=knd w) (iha ha)
  obtain ⟨b1,b2⟩:=pf_kept (k:=knd w) (ihb hb)
  obtain ⟨⟨m0,r0,em0⟩,_,_⟩:=pf_form (k:=knd w) (fP_form ha)
  obtain ⟨⟨m1,r1,em1⟩,_,_⟩:=pf_form (k:=knd w) (fP_form hb)
  have pm:=srtD_perm ((pf (knd w) (fP a)).1++(swp (trn w) (pf (knd w) (fP b))).1)
  have po:=srtD_perm ((pf (knd w) (fP a)).2++(swp (trn w) (pf (knd w) (fP b))).2)
  have s1:∀ x∈(swp (trn w) (pf (knd w) (fP b))).1,Kept x∧isK (knd w) x=false:=fun x hx=>by
   unfold swp at hx
   split at hx
   ·exact b2 x hx
   ·exact b1 x hx
  have s2:∀ x∈(swp (trn w) (pf (knd w) (fP b))).2,Kept x∧isK (knd w) x=false:=fun x hx=>by
   unfold swp at hx
   split at hx
   ·exact b1 x hx
   ·exact b2 x hx
  have sl:1≤(swp (trn w) (pf (knd w) (fP b))).1.length + (swp (trn w) (pf (knd w) (fP b))).2.length:=by
   have:1≤(pf (knd w) (fP b)).1.length:=by rw [em1,List.length_cons]; lia
   unfold swp
   split
   ·show 1≤(pf (knd w) (fP b)).2.length + (pf (knd w) (fP b)).1.length; lia
   ·lia
  obtain ⟨x0,t0,e0⟩:=srt_cons (l:=(pf (knd w) (fP a)).1++(swp (trn w) (pf (knd w) (fP b))).1) (m0:=m0) (r:=r0++(swp (trn w) (pf (knd w) (fP b))).1) (by rw [em0]; rfl)
  have lm:=pm.length_eq
  have lo:=po.length_eq
  have om:=srtD_ord ((pf (knd w) (fP a)).1++(swp (trn w) (pf (knd w) (fP b))).1)
  have hM:∀ x∈x0 :: t0,Kept x∧isK (knd w) x=false:=fun x hx=>by
   rw [← e0] at hx
   rcases List.mem_append.mp (pm.mem_iff.mp hx) with h | h
   ·exact a1 x h
   ·exact s1 x h
  have hO:∀ x∈srtD ((pf (knd w) (fP a)).2++(swp (trn w) (pf (knd w) (fP b))).2),Kept x∧isK (knd w) x=false:=fun x hx=>by
   rcases List.mem_append.mp (po.mem_iff.mp hx) with h | h
   ·exact a2 x h
   ·exact s2 x h
  show Kept (.tup [.str (knd w),.tup (srtD ((pf (knd w) (fP a)).1++(swp (trn w) (pf (knd w) (fP b))).1)),.tup (srtD ((pf (knd w) (fP a)).2++(swp (trn w) (pf (knd w) (fP b))).2))])
  rw [e0] at om lm ⊢
  refine .grp (knd_ok w) ?_ (fun x hx=>(hM x hx).2) (fun x hx=>(hO x hx).2) om (srtD_ord _) (hM x0 (List.mem_cons_self ..)).1 (fun x hx=>(hM x (List.mem_cons_of_mem _ hx)).1) fun x hx=>(hO x hx).1
  rw [List.length_append,em0,List.length_cons,List.length_cons] at lm
  rw [List.length_append] at lo
  lia
theorem lx_unique:∀ {a b:List (List Int)},a.Perm b→a.Pairwise (fun x y=>lx y x=false)→b.Pairwise (fun x y=>lx y x=false)→a=b
 | [],b,p,_,_=>(List.nil_perm.mp p).symm
 | x :: a,[],p,_,_=>absurd (List.perm_nil.mp p) (by simp)
 | x :: a,y :: b,p,ha,hb=>by
  obtain ⟨hx,ha'⟩:=List.pairwise_cons.mp ha
  obtain ⟨hy,hb'⟩:=List.pairwise_cons.mp hb
  have e:x=y:=by
   have h1:x∈y :: b:=p.mem_iff.mp (List.mem_cons_self ..)
   have h2:y∈x :: a:=p.mem_iff.mpr (List.mem_cons_self ..)
   rcases List.mem_cons.mp h1 with e | h1
   ·exact e
   rcases List.mem_cons.mp h2 with e | h2
   ·exact e.symm
   exact lx_total _ _ (hy x h1) (hx y h2)
  subst e
  rw [lx_unique ((List.perm_cons x).mp p) ha' hb']
theorem fw_ok {d:D} (h:IsForm d):(fw d).ok 1000000:=by
 induction h with
 | num h0 h1=>rw [fw_int]; exact ⟨h0,h1⟩
 | @grp k m0 more off hk g0 g1 g2 ih0 ih1 ih2 =>
  rw [fw_grp g0 g1 g2]
  have fo:∀ (w:Str) (l:List Way) (a:Way),okWord w→a.ok 1000000→(∀ y∈l,y.ok 1000000)→(fold1 w a l).ok 1000000:=by
   intro w l
   induction l with
   | nil=>intro a _ ha _; exact ha
   | cons x r ih=>intro a hw ha hl; rw [fold1_cons]; exact ih _ hw ⟨hw,ha,hl x (List.mem_cons_self ..)⟩ fun y hy=>hl y (List.mem_cons_of_mem _ hy)
  refine fo _ _ _ (tk_ok k) (fo _ _ _ (pt_ok k) ih0 fun y hy=>?_) fun y hy=>?_
  ·obtain ⟨z,hz,rfl⟩:=List.mem_map.mp hy; exact ih1 z hz
  ·obtain ⟨z,hz,rfl⟩:=List.mem_map.mp hy; exact ih2 z hz
end Law
namespace HT
open PySem PySem.Spec PyProof.Rows
theorem adj_rev (n:Nat):Builtin.Slice.sliceAdjust none none (-1) (n:Int)=((n:Int) - 1,-1):=by
 unfold Builtin.Slice.sliceAdjust
 rfl
theorem places_rev (n:Nat):Builtin.Slice.slicePlaces ((n:Int) - 1) (-1) (-1)=n:=by
 unfold Builtin.Slice.slicePlaces
 simp
 lia
theorem fm_congr {α β:Type} {f g:α→Option β}:∀ {l:List α},(∀ x∈l,f x=g x)→l.filterMap f=l.filterMap g
 | [],_=>rfl
 | a :: r,h=>by
  rw [List.filterMap_cons,List.filterMap_cons,h a (List.mem_cons_self ..),fm_congr fun x hx=>h x (List.mem_cons_of_mem _ hx)]
theorem pick_rev (xs:List Value):((List.range xs.length).filterMap fun (m:Nat)=>xs.toArray[(((xs.length:Int) - 1) + (m:Int) * (-1)).toNat]?).toArray=xs.reverse.toArray:=by
 have e:=pick_gen xs.reverse.toArray 0 xs.length
 have e2:(xs.reverse.toArray.toList.drop 0).take xs.length=xs.reverse:=by
  show (xs.reverse.drop 0).take xs.length=xs.reverse
  rw [List.drop_zero,← List.length_reverse,List.take_length]
 rw [e2] at e
 rw [← e]
 refine congrArg List.toArray (fm_congr fun m hm=>?_)
 have hm':m < xs.length:=List.mem_range.mp hm
 rw [show (((xs.length:Int) - 1) + (m:Int) * (-1)).toNat=xs.length - 1 - m by lia,show ((((0:Nat):Int)) + (m:Int) * 1).toNat=m by lia]
 rw [List.getElem?_toArray,List.getElem?_toArray,List.getElem?_reverse hm']
section
variable {prog:Program} {w:World} {A:Around} {E:Value→Shared→Prop} {s:Shared}
theorem sliceApplied_rev {sl:Addr} {vs:Value} {n:Nat} {Q:Int×Int×Nat→Shared→Prop} (hs:s.heap.IsSliceOf sl .none .none vs) (pv:IsPart vs (some (-1))) (h:Q ((n:Int) - 1,-1,n) s):wpAny (model prog w) A (Builtin.Slice.sliceApplied (.ref sl) (pure (n:Int))) Q E s:=by
 obtain ⟨os,hos,hcs,hds⟩:=id hs
 unfold Builtin.Slice.sliceApplied Builtin.Slice.sliceFields
 refine wpAny_bind (wpAny_bind (wpAny_field hos hds (x:=.none) rfl (wpAny_bind (wpAny_field hos hds (x:=.none) rfl (wpAny_bind (wpAny_field hos hds (x:=vs) rfl (wpAny_pure ?_)))))))
 refine wpAny_bind (slicePart_ pv ?_)
 show wpAny _ _ (if ((-1:Int) == 0)=true then _ else _) _ _ s
 rw [if_neg (by decide)]
 refine wpAny_bind (slicePart_none (wpAny_bind (slicePart_none (wpAny_bind (wpAny_pure ?_)))))
 show wpAny _ _ (match Builtin.Slice.sliceAdjust none none (-1) (n:Int) with | (lo,hi)=>pure (lo,(-1:Int),Builtin.Slice.slicePlaces lo hi (-1))) _ _ s
 rw [adj_rev n]
 show wpAny _ _ (pure ((n:Int) - 1,(-1:Int),Builtin.Slice.slicePlaces ((n:Int) - 1) (-1) (-1))) _ _ s
 rw [places_rev]
 exact wpAny_pure h
theorem getItem_tuple_rev {t sl:Addr} {us:List Value} {vs:Value} {Q:Value→Shared→Prop} (ht:IsTup s.heap t us.toArray) (hs:s.heap.IsSliceOf sl .none .none vs) (pv:IsPart vs (some (-1)))
    (h:Q (.ref s.heap.objs.size) { s with heap:=s.heap.push { cls:=.type "tuple",data:=.seq us.reverse.toArray } }) (hsz:us.length≤sizeLine):wpAny (model prog w) A (getItem (.ref t) (.ref sl)) Q E s:=by
  obtain ⟨os,hos,hcs,hds⟩:=id hs
  have hTs:s.TypeIs (.ref sl) "slice":=⟨os,hos,hcs⟩
  unfold getItem
  try with_reducible refine wpAny_holding ?_
  first | refine wpAny_bind (wpAny_pure ?_) | skip
  refine wpAny_bind (wpAny_sequenceKey ht.typeIs (by decide) ?_)
  refine wpAny_bind (wpAny_callSpecial?_slot (name:=Str.ofString "__getitem__") ht.typeIs PyProof.Rows.slot_tuple_getitem
    (wpAny_call_entry PyProof.Rows.slot_tuple_getitem ht.typeIs entry_tuple_getitem ?_ (args_tuple_getitem _ _)))
  show wpAny _ _ (Builtin.Tuple.tupleItemsOf (.ref t) >>= _) _ _ s
  refine wpAny_bind (tupleItemsOf_ ht ?_)
  refine wpAny_bind (wpAny_typeOf hTs ?_)
  rw [if_pos (by decide)]
  rw [show us.toArray.size=us.length from List.size_toArray ..]
  refine wpAny_bind (sliceApplied_rev hs pv ?_)
  show wpAny _ _ (if (((us.length:Int) - 1) == 0 && (-1:Int) == 1 && us.length == us.length)=true then _ else _) _ _ s
  rw [if_neg (by simp),pick_rev]
  have hk:sizeOk (.seq us.reverse.toArray):=by show us.reverse.toArray.size≤sizeLine; rw [List.size_toArray,List.length_reverse]; exact hsz
  first
    | exact wpAny_bind (m:=Builtin.Tuple.tupleExact _) (wpAny_newObj_type (wpAny_pure ⟨_,rfl,wpAny_pure h⟩) hk)
    | exact wpAny_bind (m:=Builtin.Tuple.tupleExact _) (wpAny_newObj_type (wpAny_bind (wpAny_pure (wpAny_pure ⟨_,rfl,wpAny_pure h⟩))) hk)
    | exact wpAny_bind (wpAny_bind (m:=Builtin.Tuple.tupleExact _) (wpAny_newObj_type (wpAny_pure (wpAny_pure ⟨_,rfl,wpAny_pure h⟩)) hk))
    | exact wpAny_bind (wpAny_bind (m:=Builtin.Tuple.tupleExact _) (wpAny_newObj_type (wpAny_pure ⟨_,rfl,wpAny_pure h⟩) hk))
end
end HT
namespace L2
open PySem PySem.Spec PyProof.Rows
variable {X:Cx}
theorem pe_revT {e:Expr} {te:TE} {j} {p2 p3 p4 pos:Pos} (he:PE X e te):PE X (.Subscript e (.Slice none none (some (.UnaryOp .USub (.Constant (.int 1) j p3) p4)) p2) pos) (fun σ H Q=>te σ H fun x H1=>∃ a xs,x=.ref a∧SqT X.K H1 a xs∧∀ p,H1 p=none→Q (.ref p) (upd H1 p (.tup xs.reverse))):=by
 intro pins s σ H Q I h
 refine Subscript_ (thn (he pins s σ H _ I h) fun v s1 ⟨x,H1,I1,r1,q1⟩=>?_)
 obtain ⟨a,xs,rfl,hx,q⟩:=q1
 obtain rfl:v=Value.ref a:=r1
 refine wpAny_Slice ?_
 rw [evalPart_none]
 refine wpAny_pure (wpAny_pure ?_)
 refine thn (po_some (X:=X) (pe_un un_neg pe_int) pins s1 σ H1 (fun o H'=>o=some (-1)∧H'=H1) I1 ⟨1,rfl,-1,rfl,rfl,rfl⟩) fun vs s2 ⟨o,H2,I2,ip,eo,eH⟩=>?_
 subst eo eH
 obtain ⟨its,r,ht,hz⟩:=I2.tuple hx
 have hlen:=r.length
 have I4:Inv X pins σ H2 { s2 with heap:=s2.heap.push { cls:=.type "slice",data:=.fields #[.none,.none,vs] } }:=I2.kept (t':=s2.toks) fun b ob q=>Heap.get?_push_of_some _ q
 obtain ⟨its4,r4,ht4,hz4⟩:=I4.tuple hx
 refine tail_any (ops:=[.ref a,.ref s2.heap.objs.size]) ht4.typeIs PyProof.Rows.slot_tuple_getitem.lookup ?_ (by with_unfolding_all rfl)
 refine HT.getItem_tuple_rev ht4 (Heap.IsSliceOf.new ..) ip ?_ (by rw [← r4.length]; exact hz4)
 refine ⟨.ref _,_,I4.laid (t':=s2.toks) (o:=.tup xs.reverse) (fun b ob q=>Heap.get?_push_of_some _ q) (Nat.le_refl _) ?_,rfl,q _ (I4.hok.fresh (Nat.le_refl _))⟩
 exact ⟨by rw [List.length_reverse]; exact hz,its4.reverse,r4.reverse,IsTup.new _ _⟩
theorem mt_extendT:MtM X "list.extend" (fun x vs H Q=>∃ l b xs zs,x=.ref l∧vs=[.ref b]∧H l=some (.lst xs)∧H b=some (.tup zs)∧xs.length + zs.length≤1000000∧Q .non (upd H l (.lst (xs++zs)))):=by
 intro pins s σ H x vs v us Q I rx rv h
 obtain ⟨l,b,xs,zs,rfl,rfl,hH,hB,hz,q⟩:=h
 cases rx
 obtain ⟨u,rfl,ru⟩:=rv.one
 cases ru
 have szl:=sizeLine_eq
 obtain ⟨z,its,n,r,hl,e⟩:=I.lstM hH
 obtain ⟨its2,r2,⟨o2,e2,c2,n2,d2⟩,z2⟩:=I.tuple (SqT.of hB)
 have l1:=r.length
 have l2:=r2.length
 refine wpAny_call_entry F.slot_list_extend ⟨_,e,rfl⟩ F.entry_list_extend ?_ (F.args_list_extend_2 _ _)
 show wpAny _ _ (Builtin.List.listExtendWith (.ref l) (.ref b) .none) _ _ s
 unfold Builtin.List.listExtendWith
 refine wpAny_bind (wpAny_typeOf (T:="tuple") ⟨o2,e2,c2⟩ ?_)
 rw [if_pos (by rw [show (Value.type "tuple" == Value.type "tuple")=true from rfl]; simp)]
 refine wpAny_bind (listItems_at e2 d2 (wpAny_bind (listItems_at e rfl ?_)))
 have nl:¬ (!its.toArray.isEmpty && Builtin.List.listTooLong (its.toArray.size + its2.toArray.size))=true:=by
  rw [notLongL (by rw [List.size_toArray,List.size_toArray]; lia),Bool.and_false]
  exact Bool.false_ne_true
 rw [if_neg nl]
 refine wpAny_bind (listUpdate_at e rfl ?_ (by rw [List.size_toArray]; lia) (by rw [Array.size_append,List.size_toArray,List.size_toArray]; lia))
 refine wpAny_pure ⟨_,rfl,.non,_,I.lset (t':=s.toks) (its':=its++its2) hH e (by simp) (r.append r2) (by rw [List.length_append]; lia),rfl,q⟩
theorem op_catG:OpR X (binaryOp .Add) (fun x y H Q=>∃ a b xs ys,x=.ref a∧y=.ref b∧H a=some (.tup xs)∧H b=some (.tup ys)∧xs.length + ys.length≤1000000∧∀ p H',Same H H'→H' p=some (.tup (xs++ys))→Q (.ref p) H'):=by
 intro pins s σ H x y v u Q I rx ry h
 obtain ⟨a,b,xs,ys,rfl,rfl,ha,hb,hz,q⟩:=h
 have szl:=sizeLine_eq
 by_cases hx:xs=[]
 ·subst hx
  cases rx
  cases ry
  obtain ⟨its,r1,⟨⟨cls,dd,data,sl⟩,ho,hc,n,hd⟩,_⟩:=I.tuple (SqT.of ha)
  obtain ⟨its2,r2,⟨⟨cls2,dd2,data2,sl2⟩,ho2,hc2,n2,hd2⟩,_⟩:=I.tuple (SqT.of hb)
  simp only at hc hd hc2 hd2
  subst hc hd hc2 hd2
  have e0:its=[]:=r1.nil_iff.mpr rfl
  exact concat_meets ⟨_,ho,rfl⟩ ⟨_,ho2,rfl⟩ noFill_tuple_add seq_tuple_add PySem.F.slot_tuple_add PySem.F.entry_tuple_add (PySem.F.args_tuple_add_2 _ _)
   (tuple_addW0 a b its.toArray its2.toArray n n2 dd dd2 sl sl2 (by simp [e0])) ⟨ho,ho2,⟨.ref b,H,I,rfl,q b H (Same.refl H) hb⟩⟩
 ·exact op_catT pins s σ H _ _ v u Q I rx ry ⟨a,b,xs,ys,rfl,rfl,SqT.of ha,SqT.of hb,hx,by lia,(fun e=>q a H (Same.refl H) (by rw [e,List.append_nil]; exact ha)),fun _ p hp=>q p _ (fun c o e=>by rw [upd_ne (ne_of_none e hp)]; exact e) upd_same⟩
end L2
namespace Law
open PySem L2
theorem Dats.nilI (H:Hp):Dats H [] []:=by unfold Dats; rfl
theorem Dats.consI {H:Hp} {d:D} {ds:List D} {x:V} {xs:List V} (a:Dat H d x) (b:Dats H ds xs):Dats H (d :: ds) (x :: xs):=by unfold Dats; exact ⟨x,xs,rfl,a,b⟩
theorem Dats.consE {H:Hp} {d:D} {ds:List D} {xs:List V} (h:Dats H (d :: ds) xs):∃ x r,xs=x :: r∧Dat H d x∧Dats H ds r:=by unfold Dats at h; exact h
theorem Dats.nilE {H:Hp} {xs:List V} (h:Dats H [] xs):xs=[]:=by unfold Dats at h; exact h
theorem Dats.app {H:Hp}:∀ {a b:List D} {xs ys:List V},Dats H a xs→Dats H b ys→Dats H (a++b) (xs++ys)
 | [],b,xs,ys,h,h2=>by rw [h.nilE]; exact h2
 | d :: r,b,xs,ys,h,h2=>by
  obtain ⟨x,t,rfl,h1,h3⟩:=h.consE
  exact .consI h1 (Dats.app h3 h2)
theorem Dat.tupI {H:Hp} {ds:List D} {p:Addr} {xs:List V} (h:H p=some (.tup xs)) (d:Dats H ds xs):Dat H (.tup ds) (.ref p):=by unfold Dat; exact ⟨p,xs,rfl,h,d⟩
theorem Dat.tupE {H:Hp} {ds:List D} {v:V} (h:Dat H (.tup ds) v):∃ p xs,v=.ref p∧H p=some (.tup xs)∧Dats H ds xs:=by unfold Dat at h; exact h
theorem Dat.strI {H:Hp} (x:Str):Dat H (.str x) (.str x):=by unfold Dat; rfl
theorem Dat.strE {H:Hp} {x:Str} {v:V} (h:Dat H (.str x) v):v=.str x:=by unfold Dat at h; exact h
theorem Dat.intI {H:Hp} (i:Int):Dat H (.int i) (.int i):=by unfold Dat; rfl
theorem Dat.intE {H:Hp} {i:Int} {v:V} (h:Dat H (.int i) v):v=.int i:=by unfold Dat at h; exact h
theorem szs_len:∀ l:List D,2 * l.length≤szs l
 | []=>Nat.zero_le _
 | d :: r=>by
  have:=szs_len r
  have:=sz_pos d
  rw [szs,List.length_cons]; lia
open Classical in
theorem kS_len:∀ {l:List D},(∀ x∈l,(kD x).length≤2 * sz x)→(kS l).length≤2 * szs l
 | [],_=>by rw [kS_nil]; exact Nat.zero_le _
 | d :: r,h=>by
  have ih:=kS_len (l:=r) fun x hx=>h x (List.mem_cons_of_mem _ hx)
  have:=h d (List.mem_cons_self ..)
  rw [kS_cons,szs,List.length_append]
  lia
theorem sz_grpE (k:Str) (more off:List D):sz (.tup [.str k,.tup more,.tup off])=szs more + szs off + 7:=by
 have e1:∀ l,sz (.tup l)=1 + szs l:=fun l=>by rw [sz]
 have e2:sz (.str k)=1:=by rw [sz]; all_goals simp
 have e3:∀ (d:D) (r:List D),szs (d :: r)=sz d + 1 + szs r:=fun d r=>by rw [szs]
 have e4:szs []=0:=by rw [szs]
 rw [e1,e3 (.str k),e3 (.tup more),e3 (.tup off),e4,e2,e1,e1]
 lia
end Law
namespace Law
open PySem L2
noncomputable def rk:D→Int
 | .tup (.str k :: _)=>if k="sum" then 1 else 2
 | _=>0
theorem rk_grp {k:Str} {l:List D}:rk (.tup (.str k :: l))=if k="sum" then 1 else 2:=rfl
theorem rk_pos {k:Str} {l:List D}:rk (.tup (.str k :: l))≠0:=by rw [rk_grp]; split <;> decide
theorem kS_app:∀ (a b:List D),kS (a++b)=kS a++kS b
 | [],b=>by rw [kS_nil]; rfl
 | d :: r,b=>by
  show kS (d :: (r++b))=_
  rw [kS_cons,kS_cons,kS_app r b,List.append_assoc]
theorem sl_irr {a:List Int} (h:sl a a):False:=by have:=h.lx; rw [lx_irrefl] at this; cases this
structure CR (r:Int) (d e:D):Prop where
 lt:r < 0→sl (kD d) (kD e)
 eq:r=0→d=e
 gt:0 < r→sl (kD e) (kD d)
theorem CR.le {r:Int} {d e:D} (h:CR r d e):decide (r≤0)=!L2.lx (kD e) (kD d):=by
 rcases Int.lt_trichotomy r 0 with c | c | c
 ·rw [decide_eq_true (by lia),lx_not (h.lt c).lx]; rfl
 ·rw [decide_eq_true (by lia),h.eq c,lx_irrefl]; rfl
 ·rw [decide_eq_false (by lia),(h.gt c).lx]; rfl
theorem CR.of_lt {d e:D} (h:sl (kD d) (kD e)):CR (-1) d e:=⟨fun _=>h,fun z=>absurd z (by decide),fun z=>absurd z (by decide)⟩
theorem CR.of_gt {d e:D} (h:sl (kD e) (kD d)):CR 1 d e:=⟨fun z=>absurd z (by decide),fun z=>absurd z (by decide),fun _=>h⟩
theorem rk_same {k k':Str} {l l':List D} (hk:k="sum"∨k="product") (hk':k'="sum"∨k'="product") (h:rk (.tup (.str k :: l))=rk (.tup (.str k' :: l'))):k=k':=by
 rw [rk_grp,rk_grp] at h
 rcases hk with rfl | rfl <;> rcases hk' with rfl | rfl
 ·rfl
 ·exact absurd h (by decide)
 ·exact absurd h (by decide)
 ·rfl
theorem num_cr (i j:Int):CR ((if decide (j < i)=true then 1 else 0) - (if decide (i < j)=true then 1 else 0)) (.int i) (.int j):=by
 rcases Int.lt_trichotomy i j with h | h | h
 ·rw [decide_eq_false (by lia),decide_eq_true h]
  refine CR.of_lt ?_
  rw [kD_int,kD_int]
  exact (sl_head h [] []).cons 1
 ·subst h
  rw [decide_eq_false (by lia)]
  exact ⟨fun z=>absurd z (by decide),fun _=>rfl,fun z=>absurd z (by decide)⟩
 ·rw [decide_eq_true h,decide_eq_false (by lia)]
  refine CR.of_gt ?_
  rw [kD_int,kD_int]
  exact (sl_head h [] []).cons 1
noncomputable def rwk (kk:Int) (m o:List D):List D:=if kk=1 then m else o
theorem sl_rows {k:Str} {m o m' o':List D} {kk:Int} (hk:kk=1∨kk=2) (h2:kk=2→m=m') {p r r':List D} {x y:D} (e1:rwk kk m o=p++x :: r) (e2:rwk kk m' o'=p++y :: r') (h:sl (kD x) (kD y)) :
  sl (kD (.tup [.str k,.tup m,.tup o])) (kD (.tup [.str k,.tup m',.tup o'])):=by
 rw [kD_grp,kD_grp]
 refine sl.cons ?_ _
 rcases hk with rfl | rfl
 ·have e1':m=p++x :: r:=e1
  have e2':m'=p++y :: r':=e2
  rw [e1',e2',kS_app,kS_app,kS_cons,kS_cons]
  simp only [List.append_assoc]
  exact (h.app _ _).pre _
 ·have e1':o=p++x :: r:=e1
  have e2':o'=p++y :: r':=e2
  rw [← h2 rfl,e1',e2',kS_app,kS_app,kS_cons,kS_cons]
  simp only [List.append_assoc]
  exact (((h.app _ _).pre _).cons 0).pre _
theorem split_at {α:Type} {l:List α} {j:Nat} {x:α} (h:l[j]?=some x):l=l.take j++x :: l.drop (j + 1):=by
 have hl:=(List.getElem?_eq_some_iff.mp h).1
 have e:=List.drop_eq_getElem_cons hl
 rw [(List.getElem?_eq_some_iff.mp h).2] at e
 rw [← e,List.take_append_drop]
theorem take_next {α:Type} {a b:List α} {j:Nat} {x:α} (h:a.take j=b.take j) (ha:a[j]?=some x) (hb:b[j]?=some x):a.take (j + 1)=b.take (j + 1):=by
 rw [List.take_succ,List.take_succ,h,ha,hb]
end Law
namespace Law
open PySem L2
inductive AF:D→Prop
 | num {i:Int} (h0:-2000000≤i) (h1:i≤1000000):AF (.int i)
 | grp {k:Str} {more off:List D} (hk:k="sum"∨k="product") (h1:∀ x∈more,AF x) (h2:∀ x∈off,AF x):AF (.tup [.str k,.tup more,.tup off])
theorem IsForm.af {d:D} (h:IsForm d):AF d:=by
 induction h with
 | num h0 h1=>exact .num (by lia) h1
 | grp hk _ _ _ i0 i1 i2=>exact .grp hk (fun x hx=>by rcases List.mem_cons.mp hx with rfl | hx; exact i0; exact i1 x hx) i2
theorem kD_headA {d:D} (h:AF d):∃ a r,kD d=a :: r∧0 < a:=by
 cases h with
 | num h0 h1=>rw [kD_int]; exact ⟨1,_,rfl,by decide⟩
 | @grp k more off hk _ _=>rw [kD_grp]; exact ⟨_,_,rfl,by unfold rkK; split <;> decide⟩
theorem rows_triA:∀ {a b:List D},(∀ x∈a,AF x)→(∀ y∈b,AF y)→(∀ x∈a,∀ y∈b,Tri x y)→∀ (s t:List Int),a=b∨sl (kS a++0 :: s) (kS b++0 :: t)∨sl (kS b++0 :: t) (kS a++0 :: s)
 | [],[],_,_,_,s,t=>.inl rfl
 | [],y :: r,_,hb,_,s,t=>by
  obtain ⟨c,z,e,hc⟩:=kD_headA (hb y (List.mem_cons_self ..))
  rw [kS_nil,kS_cons,e]
  exact .inr (.inl (sl_head hc _ _))
 | x :: r,[],ha,_,_,s,t=>by
  obtain ⟨c,z,e,hc⟩:=kD_headA (ha x (List.mem_cons_self ..))
  rw [kS_nil,kS_cons,e]
  exact .inr (.inr (sl_head hc _ _))
 | x :: r,y :: q,ha,hb,ht,s,t=>by
  rw [kS_cons,kS_cons,List.append_assoc,List.append_assoc]
  rcases ht x (List.mem_cons_self ..) y (List.mem_cons_self ..) with rfl | h | h
  ·rcases rows_triA (fun z hz=>ha z (List.mem_cons_of_mem _ hz)) (fun z hz=>hb z (List.mem_cons_of_mem _ hz)) (fun z hz w hw=>ht z (List.mem_cons_of_mem _ hz) w (List.mem_cons_of_mem _ hw)) s t with rfl | h | h
   ·exact .inl rfl
   ·exact .inr (.inl (h.pre _))
   ·exact .inr (.inr (h.pre _))
  ·exact .inr (.inl (h.app _ _))
  ·exact .inr (.inr (h.app _ _))
theorem triA {d:D} (hd:AF d):∀ {e:D},AF e→Tri d e:=by
 induction hd with
 | @num i h0 h1 =>
  intro e he
  cases he with
  | @num j _ _ =>
   unfold Tri
   rw [kD_int,kD_int]
   rcases Int.lt_trichotomy i j with h | h | h
   ·exact .inr (.inl ((sl_head h [] []).cons 1))
   ·exact .inl (by rw [h])
   ·exact .inr (.inr ((sl_head h [] []).cons 1))
  | @grp k more off hk _ _ =>
   refine .inr (.inl ?_)
   rw [kD_int,kD_grp]
   exact sl_head (by unfold rkK; split <;> decide) _ _
 | @grp k more off hk h1 h2 i1 i2 =>
  intro e he
  cases he with
  | @num j _ _ =>
   refine .inr (.inr ?_)
   rw [kD_int,kD_grp]
   exact sl_head (by unfold rkK; split <;> decide) _ _
  | @grp k' more' off' hk' h1' h2' =>
   have f1:∀ x∈more,AF x:=h1
   have f1':∀ x∈more',AF x:=h1'
   have t1:∀ x∈more,∀ y∈more',Tri x y:=fun x hx y hy=>i1 x hx (f1' y hy)
   by_cases ek:k=k'
   ·subst ek
    unfold Tri
    rw [kD_grp,kD_grp]
    rcases rows_triA f1 f1' t1 (kS off++[0]) (kS off'++[0]) with e1 | h | h
    ·rcases rows_triA h2 h2' (fun x hx y hy=>i2 x hx (h2' y hy)) [] [] with e2 | h | h
     ·exact .inl (by rw [e1,e2])
     ·rw [e1]; exact .inr (.inl (((h.cons 0).pre _).cons _))
     ·rw [e1]; exact .inr (.inr (((h.cons 0).pre _).cons _))
    ·exact .inr (.inl (h.cons _))
    ·exact .inr (.inr (h.cons _))
   ·unfold Tri
    rw [kD_grp,kD_grp]
    rcases hk with rfl | rfl <;> rcases hk' with rfl | rfl
    ·exact absurd rfl ek
    ·exact .inr (.inl (sl_head (by decide) _ _))
    ·exact .inr (.inr (sl_head (by decide) _ _))
    ·exact absurd rfl ek
theorem kD_injA {d e:D} (hd:AF d) (he:AF e) (h:kD d=kD e):d=e:=by
 rcases triA hd he with r | r | r
 ·exact r
 ·have:=r.lx; rw [h,lx_irrefl] at this; cases this
 ·have:=r.lx; rw [h,lx_irrefl] at this; cases this
theorem ord_uniqueA:∀ {a b:List D},(∀ x∈a,AF x)→a.Perm b→Ord a→Ord b→a=b
 | [],b,_,p,_,_=>(List.nil_perm.mp p).symm
 | x :: r,b,hf,p,oa,ob=>by
  cases b with
  | nil=>exact absurd (p.length_eq) (by simp)
  | cons y q =>
   have hfb:∀ z∈y :: q,AF z:=fun z hz=>hf z (p.mem_iff.mpr hz)
   obtain ⟨a1,a2⟩:=List.pairwise_cons.mp oa
   obtain ⟨b1,b2⟩:=List.pairwise_cons.mp ob
   have e:x=y:=by
    by_cases c:x=y
    ·exact c
    have m1:x∈q:=by
     rcases List.mem_cons.mp (p.mem_iff.mp (List.mem_cons_self ..)) with h | h
     ·exact absurd h c
     ·exact h
    have m2:y∈r:=by
     rcases List.mem_cons.mp (p.mem_iff.mpr (List.mem_cons_self ..)) with h | h
     ·exact absurd h.symm c
     ·exact h
    exact kD_injA (hf x (List.mem_cons_self ..)) (hf y (List.mem_cons_of_mem _ m2)) (lx_total _ _ (b1 x m1) (a1 y m2))
   subst e
   rw [ord_uniqueA (fun z hz=>hf z (List.mem_cons_of_mem _ hz)) (List.Perm.cons_inv p) a2 b2]
theorem rk_ltA {d e:D} (hd:AF d) (he:AF e) (h:rk d < rk e):sl (kD d) (kD e):=by
 cases hd with
 | num _ _ =>
  cases he with
  | num _ _=>exact absurd h (by show ¬ (0:Int) < 0; decide)
  | @grp k more off hk _ _=>rw [kD_int,kD_grp]; exact sl_head (by unfold rkK; split <;> decide) _ _
 | @grp k more off hk _ _ =>
  cases he with
  | num _ _ =>
   rw [rk_grp] at h
   split at h
   ·exact absurd h (by show ¬ (1:Int) < 0; decide)
   ·exact absurd h (by show ¬ (2:Int) < 0; decide)
  | @grp k' more' off' hk' _ _ =>
   rw [kD_grp,kD_grp]
   rw [rk_grp,rk_grp] at h
   refine sl_head ?_ _ _
   unfold rkK
   rcases hk with rfl | rfl <;> rcases hk' with rfl | rfl
   ·exact absurd h (by decide)
   ·decide
   ·exact absurd h (by decide)
   ·exact absurd h (by decide)
theorem sl_shortA {k:Str} {m o m' o':List D} {kk:Int} (hk:kk=1∨kk=2) (h2:kk=2→m=m') {p r':List D} {y:D} (e1:rwk kk m o=p) (e2:rwk kk m' o'=p++y :: r') (hy:AF y) :
  sl (kD (.tup [.str k,.tup m,.tup o])) (kD (.tup [.str k,.tup m',.tup o'])):=by
 obtain ⟨c,z,e,hc⟩:=kD_headA hy
 rw [kD_grp,kD_grp]
 refine sl.cons ?_ _
 rcases hk with rfl | rfl
 ·have e1':m=p:=e1
  have e2':m'=p++y :: r':=e2
  rw [e1',e2',kS_app,kS_cons,e]
  simp only [List.append_assoc]
  exact (sl_head hc _ _).pre _
 ·have e1':o=p:=e1
  have e2':o'=p++y :: r':=e2
  rw [← h2 rfl,e1',e2',kS_app,kS_cons,e]
  simp only [List.append_assoc]
  exact (((sl_head hc _ _).pre _).cons 0).pre _
theorem dat_grpA {H:Hp} {k:Str} {more off:List D} {v:V} (h:Dat H (.tup [.str k,.tup more,.tup off]) v):∃ (p pm po:Addr) (xm xo:List V),v=.ref p∧H p=some (.tup [.str k,.ref pm,.ref po])∧H pm=some (.tup xm)∧H po=some (.tup xo)∧Dats H more xm∧Dats H off xo:=by
 obtain ⟨p,xs,rfl,hp,h⟩:=h.tupE
 obtain ⟨a,r,rfl,ha,h⟩:=h.consE
 obtain ⟨b,r,rfl,hb,h⟩:=h.consE
 obtain ⟨c,r,rfl,hc,h⟩:=h.consE
 have:=h.nilE
 subst this
 have:=ha.strE
 subst this
 obtain ⟨pm,xm,rfl,hpm,hm⟩:=hb.tupE
 obtain ⟨po,xo,rfl,hpo,ho⟩:=hc.tupE
 exact ⟨p,pm,po,xm,xo,rfl,hp,hpm,hpo,hm,ho⟩
theorem ord_iff {l:List D} (h:∀ x∈l,AF x):srtD l=l↔Ord l :=
 ⟨fun e=>by rw [← e]; exact srtD_ord l,fun o=>ord_uniqueA (fun x hx=>h x ((srtD_perm l).mem_iff.mp hx)) (srtD_perm l) (srtD_ord l) o⟩
noncomputable def kpG (k:Str) (more off:List D):Prop:=more≠[]∧2≤more.length + off.length∧(∀ x∈more++off,isK k x=false)∧Ord more∧Ord off
theorem kept_grp {k:Str} {more off:List D} (hk:k="sum"∨k="product"):Kept (.tup [.str k,.tup more,.tup off])↔kpG k more off∧∀ x∈more++off,Kept x:=by
 constructor
 ·intro h
  cases h with
  | @grp _ m0 more off _ h2 nm no om oo g0 g1 g2 =>
   refine ⟨⟨by simp,by rw [List.length_cons]; lia,fun x hx=>?_,om,oo⟩,fun x hx=>?_⟩
   ·rcases List.mem_append.mp hx with h | h
    ·exact nm x h
    ·exact no x h
   ·rcases List.mem_append.mp hx with h | h
    ·rcases List.mem_cons.mp h with rfl | h
     ·exact g0
     ·exact g1 x h
    ·exact g2 x h
 ·rintro ⟨⟨h0,h2,nk,om,oo⟩,g⟩
  cases more with
  | nil=>exact absurd rfl h0
  | cons m0 more =>
   rw [List.length_cons] at h2
   exact .grp hk (by lia) (fun x hx=>nk x (List.mem_append_left _ hx)) (fun x hx=>nk x (List.mem_append_right _ hx)) om oo (g m0 (List.mem_append_left _ (List.mem_cons_self ..))) (fun x hx=>g x (List.mem_append_left _ (List.mem_cons_of_mem _ hx))) (fun x hx=>g x (List.mem_append_right _ hx))
theorem kept_int {i:Int} (h1:i≤1000000):Kept (.int i)↔1≤i:=⟨fun h=>by cases h; assumption,fun h=>.num h h1⟩
noncomputable def LetW (d:D) (n:Int):Prop:=Kept d∧worthE (fw d)=.inr n
theorem LetW.ok {d:D} {n:Int} (h:LetW d n):okD d∧valD d=n:=⟨⟨n,h.2,form_pos h.1.form h.2⟩,valD_of h.2⟩
theorem let_int {i n:Int} (h1:i≤1000000):LetW (.int i) n↔1≤i∧n=i:=by
 constructor
 ·rintro ⟨h,e⟩
  rw [fw_int] at e
  cases e
  exact ⟨(kept_int h1).mp h,rfl⟩
 ·rintro ⟨h,rfl⟩
  exact ⟨(kept_int h1).mpr h,by rw [fw_int]; rfl⟩
theorem let_grp {k:Str} {more off:List D} {n:Int} (hk:k="sum"∨k="product"):LetW (.tup [.str k,.tup more,.tup off]) n↔kpG k more off∧(∀ x∈more++off,∃ m,LetW x m)∧1≤n∧Rel k more off n:=by
 constructor
 ·rintro ⟨hK,e⟩
  obtain ⟨hg,ka⟩:=(kept_grp hk).mp hK
  cases hK with
  | @grp _ m0 more off _ h2 nm no om oo g0 g1 g2 =>
   obtain ⟨b1,b2,b3⟩:=grp_back hk g0.form (fun x hx=>(g1 x hx).form) (fun x hx=>(g2 x hx).form) e
   refine ⟨hg,fun x hx=>?_,form_pos (.grp hk g0.form (fun x hx=>(g1 x hx).form) (fun x hx=>(g2 x hx).form)) e,b3⟩
   have ok:okD x:=by
    rcases List.mem_append.mp hx with h | h
    ·exact b1 x h
    ·exact b2 x h
   exact ⟨_,ka x hx,ok.val.1⟩
 ·rintro ⟨hg,hp,hn,hr⟩
  have hK:Kept (.tup [.str k,.tup more,.tup off]):=(kept_grp hk).mpr ⟨hg,fun x hx=>(hp x hx).choose_spec.1⟩
  refine ⟨hK,?_⟩
  cases hK with
  | @grp _ m0 more off _ h2 nm no om oo g0 g1 g2 =>
   exact grp_worth hk g0.form (fun x hx=>(g1 x hx).form) (fun x hx=>(g2 x hx).form) (fun x hx=>(hp x (List.mem_append_left _ hx)).choose_spec.ok.1) (fun x hx=>(hp x (List.mem_append_right _ hx)).choose_spec.ok.1) hn hr
theorem dep_grpA (k:Str) (more off:List D):(D.tup [.str k,.tup more,.tup off]).dep=max (deps more + 1) (deps off + 1) + 1:=by
 have e1:∀ l,(D.tup l).dep=deps l + 1:=fun l=>by rw [D.dep]
 have e2:(D.str k).dep=0:=by rw [D.dep]; all_goals simp
 have e3:∀ (d:D) (r:List D),deps (d :: r)=max d.dep (deps r):=fun d r=>by rw [deps]
 have e4:deps []=0:=by rw [deps]
 rw [e1,e3,e3,e3,e4,e2,e1,e1]
 lia
theorem lv_grpA (k:Str) (more off:List D):lv (.tup [.str k,.tup more,.tup off])=lvs more + lvs off:=by
 have e1:∀ l,lv (.tup l)=lvs l:=fun l=>by unfold lv; rfl
 have e2:lv (.str k)=0:=by unfold lv; rfl
 have e3:∀ (d:D) (r:List D),lvs (d :: r)=lv d + lvs r:=fun d r=>by rw [lvs]
 have e4:lvs []=0:=by unfold lvs; rfl
 rw [e1,e3,e3,e3,e4,e2,e1,e1]
 lia
theorem kD_lenA {d:D} (h:AF d):(kD d).length≤2 * sz d:=by
 induction h with
 | @num i _ _=>rw [kD_int]; have:=sz_pos (.int i); show 2≤_; lia
 | @grp k more off hk h1 h2 i1 i2 =>
  have sg:=sz_grpE k more off
  have a:=kS_len i1
  have b:=kS_len i2
  rw [kD_grp,List.length_cons,List.length_append,List.length_cons,List.length_append]
  show _ + (_ + (1) + 1) + 1≤_
  lia
mutual
noncomputable def nn:D→Nat
 | .int _=>1
 | .tup l=>nG l
 | _=>0
noncomputable def nG:List D→Nat
 | .str _ :: r=>1 + nR r
 | _=>0
noncomputable def nR:List D→Nat
 | []=>0
 | d :: r=>nRow d + nR r
noncomputable def nRow:D→Nat
 | .tup l=>nS l
 | _=>0
noncomputable def nS:List D→Nat
 | []=>0
 | d :: r=>nn d + nS r
end
theorem nn_int (i:Int):nn (.int i)=1:=by rw [nn]
theorem nS_nil:nS []=0:=by rw [nS]
theorem nS_cons (d:D) (r:List D):nS (d :: r)=nn d + nS r:=by rw [nS]
theorem nn_grp (k:Str) (more off:List D):nn (.tup [.str k,.tup more,.tup off])=1 + (nS more + nS off):=by
 rw [nn,nG,nR,nR,nR,nRow,nRow,Nat.add_zero]
theorem nS_app:∀ a b:List D,nS (a++b)=nS a + nS b
 | [],b=>by rw [nS_nil,Nat.zero_add]; rfl
 | d :: r,b=>by rw [List.cons_append,nS_cons,nS_cons,nS_app r b]; lia
theorem nS_perm {a b:List D} (h:a.Perm b):nS a=nS b:=by
 induction h with
 | nil=>rfl
 | cons x _ ih=>rw [nS_cons,nS_cons,ih]
 | swap x y l=>rw [nS_cons,nS_cons,nS_cons,nS_cons]; lia
 | trans _ _ i j=>exact i.trans j
theorem nS_mem {l:List D} {x:D} (h:x∈l):nn x≤nS l:=by
 induction l with
 | nil=>cases h
 | cons d r ih =>
  rw [nS_cons]
  rcases List.mem_cons.mp h with rfl | h
  ·lia
  ·have:=ih h; lia
theorem nn_pos {d:D} (h:AF d):1≤nn d:=by
 cases h with
 | num _ _=>rw [nn_int]; exact Nat.le_refl _
 | grp hk _ _=>rw [nn_grp]; lia
theorem nS_len:∀ {l:List D},(∀ x∈l,AF x)→l.length≤nS l
 | [],_=>by rw [nS_nil]; exact Nat.le_refl _
 | d :: r,h=>by
  have:=nS_len fun x hx=>h x (List.mem_cons_of_mem _ hx)
  have:=nn_pos (h d (List.mem_cons_self ..))
  rw [nS_cons,List.length_cons]; lia
theorem szs_nn:∀ {l:List D},(∀ x∈l,sz x + 1≤8 * nn x)→szs l≤8 * nS l
 | [],_=>by rw [nS_nil,szs]; exact Nat.le_refl _
 | d :: r,h=>by
  have:=szs_nn fun x hx=>h x (List.mem_cons_of_mem _ hx)
  have:=h d (List.mem_cons_self ..)
  rw [nS_cons,szs]; lia
theorem sz_nn {d:D} (h:AF d):sz d + 1≤8 * nn d:=by
 induction h with
 | @num i _ _=>rw [nn_int,sz]; decide; all_goals simp
 | grp hk _ _ i1 i2 =>
  have a:=szs_nn i1
  have b:=szs_nn i2
  rw [sz_grpE,nn_grp]; lia
theorem lvs_kept:∀ {l:List D},(∀ x∈l,nn x + 1≤2 * lv x)→nS l + l.length≤2 * lvs l
 | [],_=>by rw [nS_nil,lvs]; exact Nat.le_refl _
 | d :: r,h=>by
  have:=lvs_kept fun x hx=>h x (List.mem_cons_of_mem _ hx)
  have:=h d (List.mem_cons_self ..)
  rw [nS_cons,lvs,List.length_cons]; lia
theorem kept_nn {d:D} (h:Kept d):nn d + 1≤2 * lv d:=by
 induction h with
 | @num i _ _=>rw [nn_int,lv]; exact Nat.le_refl _
 | @grp k m0 more off hk h2 nm no om oo g0 g1 g2 i0 i1 i2 =>
  have a:=lvs_kept (l:=m0 :: more) (fun x hx=>by rcases List.mem_cons.mp hx with rfl | hx; exact i0; exact i1 x hx)
  have b:=lvs_kept i2
  rw [List.length_cons] at a
  rw [nn_grp,lv_grpA]; lia
theorem dep_mem {k:Str} {more off:List D} {x:D} (h:x∈more++off):x.dep + 2≤(D.tup [.str k,.tup more,.tup off]).dep:=by
 rw [dep_grpA]
 rcases List.mem_append.mp h with h | h <;> (have:=deps_mem h; lia)
theorem AF.parts {k:Str} {more off:List D} (h:AF (.tup [.str k,.tup more,.tup off])):∀ x∈more++off,AF x:=by
 cases h with
 | grp hk h1 h2 =>
  intro x hx
  rcases List.mem_append.mp hx with h | h
  ·exact h1 x h
  ·exact h2 x h
end Law
namespace Law
open PySem L2
end Law
namespace L2
open PySem PySem.Spec PyProof.Rows
noncomputable def XAt (h:Heap) (e:Addr) (cls:Value) (dx:Option Addr) (tb:Value):Prop:=∃ oe vs,h.get? e=some oe∧oe.cls=cls∧oe.dict=dx∧oe.data=.fields vs∧vs[1]?=some tb
noncomputable def TbAt (h:Heap) (T:Addr) (fl:Value):Prop:=∃ oT ts,h.get? T=some oT∧oT.data=.fields ts∧ts[3]?=some fl
section
variable {M:Model} {A:Around} {E:Value→Shared→Prop} {s:Shared}
theorem frame_not_rec {h base:Heap} {l:List Env} (hl:h.FunFrames base l) {b:Addr} (hb:b∈frs l) {o:Obj} (ho:h.get? b=some o) (vs:Array Value):o.data≠.fields vs:=by
 obtain ⟨_,o2,h2,hn⟩:=hl.mem hb
 rw [ho] at h2
 cases h2
 exact hn vs
theorem entry_new {base:Heap} {env:Env} {outer:List Env} {L e:Addr} {oe:Obj} {vs:Array Value} {hd:Value} {hn:Bool} {Q:Unit→Shared→Prop} (hfr:A.frames=some (env :: outer)) (hl:s.heap.FunFrames base (env :: outer)) (hf:env.frame=some L)
  (he:s.heap.get? e=some oe) (hdat:oe.data=.fields vs) (hsz:1 < vs.size)
  (h:∀ h' T,(∀ b o,s.heap.get? b=some o→b ∉ frs (env :: outer)→b≠e→h'.get? b=some o)→(∀ b o,s.heap.get? b=some o→b≠e→∃ sl,h'.get? b=some { o with slots:=sl })→s.heap.objs.size≤T→T≠e→XAt h' e oe.cls oe.dict (.ref T)→TbAt h' T (rawInt L) →
   Q () { s with heap:=h' }) :
  wpAny M A (frameOf env >>= fun a=>entryPlaceOf L hn >>= fun pl=>EntryCells.newEntry hd a .none (rawInt L) .none pl >>= fun b=>setField (.ref e) 1 b) Q E s:=by
 have ne:e ∉ frs (env :: outer):=fun z=>frame_not_rec hl z he vs hdat
 refine wpAny_bind (wpAny_frameOf_fun hfr hl hf fun h1 so=>wpAny_bind (wpAny_entryPlaceOf fun pl isP=>?_))
 unfold EntryCells.newEntry newFields
 refine wpAny_bind (wpAny_newObj_type ?_ (isP.sizeOk5 _ _ _ _ _))
 generalize hts:([hd,.ref L,.none,rawInt L,.none]++(if pl.isEmpty then List.replicate 6 Value.none else pl)).toArray=ts
 have h3:ts[3]?=some (rawInt L):=by rw [← hts]; simp
 have ge:h1.get? e=some oe:=(so.2.1 e ne).trans he
 have lt:e < h1.objs.size:=Heap.lt_size ge
 refine wpAny_setField (Heap.get?_push_of_some _ ge) hdat hsz ?_
 refine h _ h1.objs.size (fun b o hb nb nbe=>?_) (fun b o hb nbe=>?_) (Nat.le_of_eq so.1.symm) (Nat.ne_of_gt lt) ?_ ?_
 ·rw [Heap.get?_update_other _ _ (Ne.symm nbe)]
  exact Heap.get?_push_of_some _ ((so.2.1 b nb).trans hb)
 ·obtain ⟨sl,q⟩:=so.2.2 b o hb
  exact ⟨sl,by rw [Heap.get?_update_other _ _ (Ne.symm nbe)]; exact Heap.get?_push_of_some _ q⟩
 ·have dm:=Obj.data_mapFields hdat (·.setIfInBounds 1 (Value.ref h1.objs.size))
  refine ⟨_,_,Heap.get?_update_self _ (Heap.get?_push_of_some _ ge) (Obj.isFreed_of_fields dm),Obj.cls_mapFields _ _,?_,dm,by simp [hsz]⟩
  obtain ⟨c,d,dt,sl⟩:=oe
  cases dt <;> first | rfl | cases hdat
 ·exact ⟨_,ts,by rw [Heap.get?_update_other _ _ (Nat.ne_of_lt lt)]; exact Heap.get?_push_size _ rfl,rfl,h3⟩
end
structure Chg (fs ch:List Addr) (h h':Heap):Prop where
 keep:∀ b o,h.get? b=some o→b ∉ fs→b ∉ ch→h'.get? b=some o
 slot:∀ b o,h.get? b=some o→b ∉ ch→∃ sl,h'.get? b=some { o with slots:=sl }
structure Own (X:Cx) (H:Hp) (b:Addr):Prop where
 free:H b=none
 new:X.s₀.heap.objs.size≤b
 loc:b≠X.env.locals
 cel:∀ x c,X.env.cells.lookup x=some c→c≠b
 pin:∀ p∈X.pn,p.1≠b
section
variable {X:Cx} {σ:St} {H:Hp} {s:Shared}
theorem Inv.chg {ch:List Addr} {h':Heap} (I:Inv X [] σ H s) (c:Chg (frs X.stack) ch s.heap h') (hc:∀ b∈ch,Own X H b):Inv X [] σ H { s with heap:=h' }:=by
 refine I.call (g':=s.gens) (t':=s.toks) (d':=s.drawn) (ch:=ch) (H':=H) ⟨fun b o e _ nf nc=>c.keep b o e nf nc,fun b o e _ _ nc=>c.slot b o e nc,fun _ _ _ n _=>n,fun b o e nc=>let ⟨sl,q⟩:=c.slot b o e nc; ⟨_,q⟩,fun _ _ e=>e,fun _ _ _ e=>e,fun b ps e=>⟨#[],by rw [e]; simp⟩⟩ (fun b u e=>?_) I.bare fun b hb=>⟨.inr (hc b hb).new,(hc b hb).loc,(hc b hb).cel,fun p hp=>(hc b hb).pin p (by simpa using hp)⟩
 refine (I.hok b u e).stay (fun c' v hh q=>c.keep c' v q (fun z=>?_) fun z=>?_) (fun _ q=>q) fun _ _ q=>q
 ·have:=I.stkFree c' z
  rcases hh with rfl | hh
  ·rw [this] at e; cases e
  ·rw [this] at hh; cases hh
 ·have:=(hc c' z).free
  rcases hh with rfl | hh
  ·rw [this] at e; cases e
  ·rw [this] at hh; cases hh
theorem Inv.own_new (I:Inv X [] σ H s) {b:Addr} (hb:s.heap.objs.size≤b):Own X H b where
 free:=I.hok.fresh hb
 new:=Nat.le_trans I.sz hb
 loc:=Nat.ne_of_gt (Nat.lt_of_lt_of_le I.lt hb)
 cel:=fun x c e z=>by
  obtain ⟨v,q⟩:=I.cell x c e
  exact absurd (Nat.lt_of_lt_of_le q.lt (by rw [z]; exact hb)) (Nat.lt_irrefl _)
 pin:=fun p hp z=>absurd (Nat.lt_of_lt_of_le (Heap.lt_size (I.pin p (by simpa using hp)).1) (by rw [z]; exact hb)) (Nat.lt_irrefl _)
end
noncomputable abbrev XS:=Value→Option Addr→St→Hp→Prop
noncomputable def FlOk (mk:Option Bool) (fl:Value) (L:Addr):Prop:=match mk with
 | none=>fl=.none∨fl=rawInt L
 | some true=>fl=rawInt L
 | some false=>fl=.none
theorem FlOk.any {mk:Option Bool} {fl:Value} {L:Addr} (h:FlOk mk fl L):fl=.none∨fl=rawInt L:=by
 match mk,h with
 | none,h=>exact h
 | some true,h=>exact .inr h
 | some false,h=>exact .inl h
noncomputable def XBe (X:Cx) (E:XS) (tb:Bool) (mk:Option Bool) (ev:Value) (s:Shared):Prop:=∃ e cls dx σ H,ev=.ref e∧Inv X [] σ H s∧Own X H e ∧
 ((tb=false∧XAt s.heap e cls dx .none)∨∃ T fl,XAt s.heap e cls dx (.ref T)∧Own X H T∧T≠e∧TbAt s.heap T fl∧FlOk mk fl X.env.locals)∧E cls dx σ H
noncomputable abbrev XIn (X:Cx) (E:XS):Value→Shared→Prop:=XBe X E false none
theorem XBe.weak {X:Cx} {E:XS} {tb:Bool} {mk:Option Bool} {ev:Value} {s:Shared} (h:XBe X E tb mk ev s):XIn X E ev s:=by
 obtain ⟨e,cls,dx,σ,H,h1,h2,h3,h4,h5⟩:=h
 refine ⟨e,cls,dx,σ,H,h1,h2,h3,?_,h5⟩
 rcases h4 with ⟨_,h4⟩ | ⟨T,fl,a,b,c,d,f⟩
 ·exact .inl ⟨rfl,h4⟩
 ·exact .inr ⟨T,fl,a,b,c,d,f.any⟩
section
variable {X:Cx} {E:XS} {M:Model} {A:Around} {F:Value→Shared→Prop} {s:Shared} {ev:Value} {tb:Bool} {mk:Option Bool}
theorem x_note {Q:Unit→Shared→Prop} (hA:A.frames=some X.stack) (hst:X.stack=X.env :: X.outer) (hf:X.env.frame=some X.env.locals) (h:XBe X E tb mk ev s) (hQ:∀ s',XBe X E true (some true) ev s'→Q () s'):wpAny M A (noteFrame ev X.env) Q F s:=by
 obtain ⟨e,cls,dx,σ,H,rfl,I,oe,ht,hE⟩:=h
 have fin:∀ {s1:Shared} {hd:Value} {ob:Obj} {vs:Array Value},Inv X [] σ H s1→s1.heap.get? e=some ob→ob.cls=cls→ob.dict=dx→ob.data=.fields vs→1 < vs.size →
   wpAny M A (frameOf X.env >>= fun a=>entryPlaceOf X.env.locals (hd != .none) >>= fun pl=>EntryCells.newEntry hd a .none (rawInt X.env.locals) .none pl >>= fun b=>setField (.ref e) 1 b) Q F s1:=by
  intro s1 hd ob vs I1 ge hcls hdx hdat hsz
  have fr:=I1.stack
  rw [hst] at fr
  refine entry_new (hA.trans (by rw [hst])) fr hf ge hdat hsz fun h' T k1 k2 hT ne xa ta=>?_
  rw [hcls,hdx] at xa
  have J:=I1.chg (ch:=[e]) (h':=h') ⟨fun b o q nf nc=>k1 b o q (by rw [← hst]; exact nf) (by simpa using nc),fun b o q nc=>k2 b o q (by simpa using nc)⟩ fun b hb=>by
   have:b=e:=by simpa using hb
   subst this; exact oe
  exact hQ _ ⟨e,cls,dx,σ,H,rfl,J,oe,.inr ⟨T,_,xa,I1.own_new hT,ne,ta,rfl⟩,hE⟩
 unfold noteFrame
 simp only [hf]
 rcases ht with ⟨_,ob,vs,ge,hcls,hdx,hdat,h1⟩ | ⟨T,fl,⟨ob,vs,ge,hcls,hdx,hdat,h1⟩,oT,ne,⟨ot,ts,gT,dT,h3⟩,hfl⟩
 ·refine wpAny_bind (wpAny_field ge hdat h1 ?_)
  rw [if_neg (by decide)]
  exact fin I ge hcls hdx hdat (Array.getElem?_eq_some_iff.mp h1).1
 ·refine wpAny_bind (wpAny_field ge hdat h1 ?_)
  rw [if_pos (show (Value.ref T != Value.none)=true by simp)]
  refine wpAny_bind (wpAny_field gT dT h3 ?_)
  rcases hfl.any with rfl | rfl
  ·rw [if_neg (show ¬ ((Value.none == rawInt X.env.locals)=true) by simp [rawInt])]
   refine wpAny_bind (wpAny_setField gT dT (Array.getElem?_eq_some_iff.mp h3).1 ?_)
   have J:=I.chg (ch:=[T]) (h':=s.heap.update T (Obj.mapFields (·.setIfInBounds 3 Value.none))) ⟨fun b o q _ nc=>(Heap.get?_update_other _ _ (fun z=>nc (by simp [z]))).trans q,fun b o q nc=>⟨o.slots,(Heap.get?_update_other _ _ (fun z=>nc (by simp [z]))).trans q⟩⟩ fun b hb=>by
    have:b=T:=by simpa using hb
    subst this; exact oT
   exact fin J ((Heap.get?_update_other _ _ ne).trans ge) hcls hdx hdat (Array.getElem?_eq_some_iff.mp h1).1
  ·rw [if_pos (show (rawInt X.env.locals == rawInt X.env.locals)=true by first | exact beq_self_eq_true _ | simp)]
   exact wpAny_pure (hQ s ⟨e,cls,dx,σ,H,rfl,I,oe,.inr ⟨T,_,⟨ob,vs,ge,hcls,hdx,hdat,h1⟩,oT,ne,⟨ot,ts,gT,dT,h3⟩,rfl⟩,hE⟩)
theorem x_flight {Q:Unit→Shared→Prop} {fr:Option Addr} (hfr:fr=none∨fr=some X.env.locals) (h:XBe X E true mk ev s) (hQ:∀ s',XBe X E true (some fr.isSome) ev s'→Q () s'):wpAny M A (setFlight ev fr) Q F s:=by
 obtain ⟨e,cls,dx,σ,H,rfl,I,oe,ht,hE⟩:=h
 rcases ht with ⟨z,_⟩ | ⟨T,fl,⟨ob,vs,ge,hcls,hdx,hdat,h1⟩,oT,ne,⟨ot,ts,gT,dT,h3⟩,hfl⟩
 ·cases z
 ·have h3s:=(Array.getElem?_eq_some_iff.mp h3).1
  unfold setFlight
  refine wpAny_bind (wpAny_field ge hdat h1 ?_)
  rw [if_pos (show (Value.ref T != Value.none)=true by simp)]
  refine wpAny_setField gT dT h3s (hQ _ ?_)
  generalize hx:(fr.elim Value.none fun f=>rawInt f)=x
  have J:=I.chg (ch:=[T]) (h':=s.heap.update T (Obj.mapFields (·.setIfInBounds 3 x))) ⟨fun b o q _ nc=>(Heap.get?_update_other _ _ (fun z=>nc (by simp [z]))).trans q,fun b o q nc=>⟨o.slots,(Heap.get?_update_other _ _ (fun z=>nc (by simp [z]))).trans q⟩⟩ fun b hb=>by
   have:b=T:=by simpa using hb
   subst this; exact oT
  have dm:=Obj.data_mapFields dT (·.setIfInBounds 3 x)
  refine ⟨e,cls,dx,σ,H,rfl,J,oe,.inr ⟨T,x,⟨ob,vs,(Heap.get?_update_other _ _ ne).trans ge,hcls,hdx,hdat,h1⟩,oT,ne,⟨_,_,Heap.get?_update_self _ gT (Obj.isFreed_of_fields dm),dm,by simp [h3s]⟩,?_⟩,hE⟩
  rcases hfr with rfl | rfl
  ·exact hx.symm
  ·exact hx.symm
theorem x_back {Q:Unit→Shared→Prop} (hf:X.env.frame=some X.env.locals) (h:XBe X E true mk ev s) (hQ:∀ s',XIn X E ev s'→Q () s') :
    wpAny M A (do if (← field ev 1) == .none then unsupported "frame.own-activation:exception-without-traceback"
                  setFlight ev X.env.frame) Q F s:=by
  obtain ⟨e,cls,dx,σ,H,rfl,I,oe,ht,hE⟩:=id h
  rcases ht with ⟨z,_⟩ | ⟨T,fl,⟨ob,vs,ge,hcls,hdx,hdat,h1⟩,r⟩
  · cases z
  · refine wpAny_bind (wpAny_field ge hdat h1 ?_)
    rw [if_neg (show ¬ ((Value.ref T == Value.none)=true) by simp)]
    first
      | exact x_flight (fr:=X.env.frame) (.inr hf) h fun s' q=>hQ s' q.weak
      | exact wpAny_bind (wpAny_pure (x_flight (fr:=X.env.frame) (.inr hf) h fun s' q=>hQ s' q.weak))
theorem XBe.frames (h:XBe X E tb mk ev s):X.A.frames=some X.stack:=by
 obtain ⟨_,_,_,_,_,_,I,_⟩:=h
 exact I.ok.frames
theorem x_passes (hst:X.stack=X.env :: X.outer) (hf:X.env.frame=some X.env.locals):PassesOwn M X.A X.env (XIn X E):=fun ev s h =>
 x_note h.frames hst hf h fun s' q=>x_back hf q fun s'' z=>z
end
noncomputable def CXF (P:Program) (w:World):CXT:=fun l H s E ev s'=>∃ e cls dx H' T,ev=.ref e∧s'.os=s.os∧AllBare s'.gens∧Un (frs l) [] H H' s.heap s'.heap∧HOk P w H' s'.heap∧H' e=none∧s.heap.objs.size≤e ∧
 XAt s'.heap e cls dx (.ref T)∧T≠e∧H' T=none∧s.heap.objs.size≤T∧TbAt s'.heap T .none∧E cls dx H'
section
variable {X:Cx} {E:XS}
theorem x_leave {EK:XK} {M:Model} {A:Around} {F:Value→Shared→Prop} {s:Shared} {ev:Value} {tb:Bool} {mk:Option Bool} (hA:A.frames=some X.stack) (hst:X.stack=X.env :: X.outer) (hf:X.env.frame=some X.env.locals) (hex:X.ex=[])
  (h:XBe X (fun cls dx _ H=>EK cls dx H) tb mk ev s):wpAny M A (leaving X.env ev) (fun _ s''=>CXF X.prog X.w X.outer X.H₀ X.s₀ EK ev s'') F s:=by
 unfold leaving
 refine wpAny_bind (x_note hA hst hf h fun s1 q=>x_flight (.inl rfl) q fun s2 q2=>?_)
 obtain ⟨e,cls,dx,σ,H,rfl,I,oe,ht,hE⟩:=q2
 rcases ht with ⟨z,_⟩ | ⟨T,fl,xa,oT,ne,ta,hfl⟩
 ·cases z
 ·have e1:fl=.none:=hfl
  subst e1
  have b:=I.base
  rw [hex] at b
  exact ⟨e,cls,dx,H,T,rfl,I.os,I.bare,b,I.hok,oe.free,oe.new,xa,ne,oT.free,oT.new,ta,hE⟩
theorem x_come {EK:XK} {pins:List (Addr×Obj)} {σ:St} {H:Hp} {s s':Shared} {ev:Value} (I:Inv X pins σ H s) (h:CXF X.prog X.w X.stack H s EK ev s') (hE:∀ cls dx H',EK cls dx H'→E cls dx σ H'):XIn X E ev s':=by
 obtain ⟨e,cls,dx,H',T,rfl,os,ba,un,hok,he,le,xa,ne,hT,lT,ta,q⟩:=h
 have J:=I.call' os un hok ba (fun b z=>absurd z (by simp))
 have J0:Inv X [] σ H' s':=J.pins_of fun p hp=>absurd hp (by simp)
 have own:∀ b,H' b=none→s.heap.objs.size≤b→Own X H' b:=fun b hb lb=>⟨hb,Nat.le_trans I.sz lb,Nat.ne_of_gt (Nat.lt_of_lt_of_le I.lt lb),fun x c e z=>by
  obtain ⟨v,q⟩:=I.cell x c e
  exact absurd (Nat.lt_of_lt_of_le q.lt (by rw [z]; exact lb)) (Nat.lt_irrefl _),fun p hp z=>absurd (Nat.lt_of_lt_of_le (Heap.lt_size (I.pin p (List.mem_append_left _ hp)).1) (by rw [z]; exact lb)) (Nat.lt_irrefl _)⟩
 exact ⟨e,cls,dx,σ,H',rfl,J0,own e he le,.inr ⟨T,.none,xa,own T hT lT,ne,ta,.inl rfl⟩,hE _ _ _ q⟩
end
noncomputable abbrev Cx.raises (X:Cx) (E:XS):Cx:=X.wish (XIn X E)
theorem PSs.wish {X:Cx} {f:Value→Shared→Prop} {st:List Stmt} {t:TS} (h:PSs (X.wish f) st t) (hf:∀ e s,f e s→X.xe e s):PSs X st t:=fun pins s σ H D I hw =>
 wpAny_mono (h pins s σ H D (I.wish _) hw) (fun _ _ q=>q.unwish) hf
section
variable {X:Cx} {E:XS} {k:Nat} {sp:Sp} {x:Str} {p pos:Pos} {e:Expr} {es:List Expr} {t:TA}
noncomputable def tCallX (sp:Sp) (E:XS) (t:TA):TE:=fun σ H Q=>t σ H fun vs H1=>sp vs H1 Q fun cls dx H'=>E cls dx σ H'
theorem pe_defX (G:Def X.prog X.w X.K X.mg X.base (CXF X.prog X.w) k x sp) (hr:Room k X.A) (ha:PA (X.raises E) (e :: es) t) (hg:Gl (X.raises E) x:=by rfl) (hdb:(x == ("__debug__":Str))=false:=by decide)
  (he:starEach (e :: es) X.env=(false,eval e X.env) :: starEach es X.env:=by rfl) (hpl:(backTo pos (starEach es X.env)).any (·.1)=false:=by rfl) :
  PE (X.raises E) (.Call (.Name x p) (e :: es) [] pos) (tCallX sp E t):=by
 obtain ⟨f,fd,ps,F,b,c,d⟩:=G.ex
 intro pins s σ H Q I h
 refine wpAny_Call_Name_kw (ld_glob I hg c (PySem.W.callWith_K (h₀:=X.base) I.ok.mod.kin d
  (thn (ha pos pins s σ H _ I h) fun us s1 ⟨vs,H1,I1,r,q⟩=>⟨I1.kIn,?_⟩) he hpl) hdb)
 have hl:us.length=ps.length:=by rw [← r.length]; exact F.len _ _ _ _ q
 have bd:=b s1 us I1.kIn (by simpa using hl)
 rw [List.append_nil] at bd
 refine wpAny_call (codeAny_mono (F.run X.A X.stack s1 H1 ⟨us,[]⟩ us vs Q (fun cls dx H'=>E cls dx σ H') hr I1.unwish.env0 bd r q) fun r s' hq=>?_)
 cases r with
 | error ev=>exact x_come I1.unwish hq fun _ _ _ z=>z
 | ok fl =>
  cases fl with
  | ret u=>exact (I1.after hq:EP (X.raises E) pins σ Q u s')
  | _=>exact False.elim hq
end
section
variable {P:Program} {w:World} {K:PySem.W.Frag} {mg:Str→Option Value} {base:Heap}
theorem Fun.okX {x qual:Str} {st:Stmt} {f:Addr} {fd:FuncData} {N ps:List Str} {k:Nat} {sp:Sp} (F:Fun K x qual st f fd) (S:FnScope N ps (defScope st)) (len:∀ vs H Q E,sp vs H Q E→vs.length=ps.length)
  (hbody:∀ (cdv:Value) (A:Around) (outer:List Env) (s:Shared) (H:Hp) (vs:List V) (Q:VK) (E:XK),Room k (A.deeper (envOfC qual (defScope st) s.heap.objs.size f cdv))→sp vs H Q E →
   ∃ t,PSs ((cxOf (CXF P w) P w K mg base N qual (defScope st) f cdv A outer s H E).raises fun cls dx _ H'=>E cls dx H') (defBody st) t∧t { nx:=fun _ H'=>Q .non H',rt:=Q } (start N vs) H):FnOk P w K mg base (CXF P w) (k + 1) f fd ps sp:=by
 obtain ⟨oc,od,kV,doc,pm,an,cdv,ct,osl,rfl,lk,hcd⟩:=F.ex
 refine fn_of lk hcd S len fun A outer s H vs Q E hr hsp=>?_
 obtain ⟨t,ht,q⟩:=hbody cdv A outer s H vs Q E hr hsp
 exact ⟨t,ht.wish fun ev s' z=>x_leave z.frames rfl rfl rfl z,q⟩
end
section
variable {X:Cx} {pins:List (Addr×Obj)} {σ:St} {H:Hp} {s:Shared}
noncomputable abbrev Cx.pinTo (X:Cx) (ps:List (Addr×Obj)):Cx:={ X with pn:=X.pn++ps }
noncomputable abbrev Cx.suite (X:Cx) (ev:Value) (ps:List (Addr×Obj)):Cx:={ X with pn:=X.pn++ps,A:=X.A.mark (some ev),calm:=false,xe:=fun _ _=>False }
theorem Inv.pinTo (I:Inv X pins σ H s):Inv (X.pinTo pins) [] σ H s:=by
 obtain ⟨ok,a1,a2,a3,a4,a5,a6,a7,a8,a9,a10⟩:=I
 exact ⟨⟨ok.mod,ok.kind,ok.glob,ok.blt,ok.above,ok.inj,ok.has,ok.cab,ok.hd,ok.frames,ok.stk,ok.exf,ok.bs,ok.bsz,ok.noex,ok.exfs,ok.funs,ok.frf⟩,a1,a2,a3,a4,a5,a6,a7,fun p hp=>a8 p (by simpa using hp),a9,a10⟩
theorem Inv.unpinTo (I:Inv (X.pinTo pins) [] σ H s):Inv X pins σ H s:=by
 obtain ⟨ok,a1,a2,a3,a4,a5,a6,a7,a8,a9,a10⟩:=I
 exact ⟨⟨ok.mod,ok.kind,ok.glob,ok.blt,ok.above,ok.inj,ok.has,ok.cab,ok.hd,ok.frames,ok.stk,ok.exf,ok.bs,ok.bsz,ok.noex,ok.exfs,ok.funs,ok.frf⟩,a1,a2,a3,a4,a5,a6,a7,fun p hp=>a8 p (by simpa using hp),a9,a10⟩
theorem Inv.insuite {ev:Value} {ps:List (Addr×Obj)} (I:Inv (X.pinTo pins) ps σ H s):Inv (X.suite ev pins) ps σ H s:=by
 obtain ⟨ok,a1,a2,a3,a4,a5,a6,a7,a8,a9,a10⟩:=I
 exact ⟨⟨ok.mod,ok.kind,ok.glob,ok.blt,ok.above,ok.inj,ok.has,ok.cab,(fun z=>by cases z),ok.frames,ok.stk,ok.exf,ok.bs,ok.bsz,ok.noex,ok.exfs,ok.funs,ok.frf⟩,a1,a2,a3,a4,a5,a6,a7,a8,a9,a10⟩
theorem Inv.outsuite {ev:Value} {ps:List (Addr×Obj)} (I:Inv (X.suite ev pins) ps σ H s) (h0:X.Ok):Inv (X.pinTo pins) ps σ H s:=by
 obtain ⟨ok,a1,a2,a3,a4,a5,a6,a7,a8,a9,a10⟩:=I
 exact ⟨⟨ok.mod,ok.kind,ok.glob,ok.blt,ok.above,ok.inj,ok.has,ok.cab,h0.hd,ok.frames,ok.stk,ok.exf,ok.bs,ok.bsz,ok.noex,ok.exfs,ok.funs,ok.frf⟩,a1,a2,a3,a4,a5,a6,a7,a8,a9,a10⟩
end
end L2
namespace L2
open PySem PySem.Spec PyProof.Rows
noncomputable def xO (fr:Bool) (cls:Value) (dx:Option Addr) (e:Addr):HO:=.ext fun h=>∃ oe vs,h.get? e=some oe∧oe.cls=cls∧oe.dict=dx∧oe.data=.fields vs∧(fr=true→∃ a0,vs=#[a0,.none,.none,.none,.bool false,.none])
theorem xO_ok {P:Program} {w:World} {H:Hp} {h:Heap} {fr:Bool} {cls:Value} {dx:Option Addr} {e:Addr} {oe:Obj} {vs:Array Value} (h1:h.get? e=some oe) (h2:oe.cls=cls) (h3:oe.dict=dx) (h4:oe.data=.fields vs)
  (h5:fr=true→∃ a0,vs=#[a0,.none,.none,.none,.bool false,.none]):ObjOk P w H h e (xO fr cls dx e):=⟨⟨oe,vs,h1,h2,h3,h4,h5⟩,⟨oe,h1⟩,fun _ _ ⟨o,vs,y1,y2⟩ k=>⟨o,vs,k o y1,y2⟩⟩
noncomputable def XCls (K:PySem.W.Frag) (C:Addr) (bm:List Value):Prop:=bm.contains (.type "BaseException")=true∧∃ nm q N bs hdct sn sub ab col dd k0 k1 k2 k3 k5 newId,K.lookup C=some (excClassObj nm q C N bs bm hdct sn sub ab col dd k0 k1 k2 k3 k5 newId)
section
variable {X:Cx} {pins:List (Addr×Obj)} {σ:St} {H:Hp} {s:Shared}
end
section
variable {M:Model} {A:Around} {E:Value→Shared→Prop}
theorem exc_matches {h:Heap} {g:Array GenState} {d:Drawn} {t:Nat} {os:OsState} {e C W:Addr} {oe:Obj} {bm bw:List Value} {Q:Bool→Shared→Prop} {nm q nm' q':Str} {N N':Addr} {bs bs':List Value} {hdct hdct':Bool} {sn sn':List Str} {sub sub':List Value} {ab ab':Bool} {col col':Option Bool} {dd dd':Option Addr} {k0 k1 k2 k3 k5 l0 l1 l2 l3 l5:Option Value} {newId newId':String}
    (hC:h.get? C=some (excClassObj nm q C N bs bm hdct sn sub ab col dd k0 k1 k2 k3 k5 newId)) (hW:h.get? W=some (excClassObj nm' q' W N' bs' bw hdct' sn' sub' ab' col' dd' l0 l1 l2 l3 l5 newId'))
    (he:h.get? e=some oe) (hcls:oe.cls=.ref C) (hb:bw.contains (.type "BaseException")=true) (hm:(Value.ref C :: bm).contains (.ref W)=true) (hq:Q true ⟨h,g,d,t,os⟩):wpAny M A (excMatches (.ref e) (.ref W)) Q E ⟨h,g,d,t,os⟩:=by
  have hwB:(Value.ref W :: bw).contains (.type "BaseException")=true:=by rw [List.contains_cons,hb,Bool.or_true]
  have nt:=tc_notTuple
  unfold excMatches
  repeat (first | (with_reducible refine wpAny_loadPart_at he ?_; rw [hcls]) | with_reducible refine wpAny_loadPart_at hW ?_
                | (with_reducible refine wpAny_isSubtype_exc hW ?_; rw [hwB]) | (with_reducible refine wpAny_isSubtype_exc hC ?_; rw [hm]) | wp_step)
  exact hq
end
section
variable {X:Cx} {i:Nat} {n x:Str} {C:Addr} {bw:List Value} {body suite:List Stmt} {b0:Stmt} {np hp pos:Pos} {tb:XS→TS} {ts:TS}
theorem SP.unpin {E:XS} {pins:List (Addr×Obj)} {D:Ends} {f:Flow} {s:Shared} (h:SP ((X.pinTo pins).raises E) [] D f s):SP X pins D f s:=by
 match f,h with
 | .next,⟨σ,H,I,q⟩=>exact ⟨σ,H,I.unwish.unpinTo,q⟩
 | .brk,⟨σ,H,I,q⟩=>exact ⟨σ,H,I.unwish.unpinTo,q⟩
 | .cont,⟨σ,H,I,q⟩=>exact ⟨σ,H,I.unwish.unpinTo,q⟩
 | .ret u,⟨v,σ,H,I,r,q⟩=>exact ⟨v,σ,H,I.unwish.unpinTo,r,q⟩
end
end L2
namespace L2
open PySem PySem.Spec PyProof.Rows
noncomputable abbrev vMro:List Value:=[.type "ValueError",.type "Exception",.type "BaseException",.type "object"]
theorem tail_has {K:PySem.W.Frag} {bB:List Value} {v:Value} (hv:bB.contains v=true):∀ {l:List Value},PySem.W.tailIn K bB l=true→l.contains v=true
 | [],e=>by
  have z:bB=[]:=beq_iff_eq.mp e
  rw [z] at hv
  exact hv
 | u :: r,e=>by
  unfold PySem.W.tailIn at e
  rcases Bool.or_eq_true_iff.mp e with q | q
  ·rw [beq_iff_eq.mp q]; exact hv
  ·split at q
   ·split at q
    ·simp only [Bool.and_eq_true] at q
     rw [List.contains_cons,tail_has hv q.2,Bool.or_true]
    ·cases q
   ·cases q
theorem tail_lets {K:PySem.W.Frag} (self:Value):∀ {l:List Value},PySem.W.tailIn K vMro l=true→refuseLoop self "__setattr__" l=pure ()
 | [],e=>by cases beq_iff_eq.mp e
 | u :: r,e=>by
  unfold PySem.W.tailIn at e
  rcases Bool.or_eq_true_iff.mp e with q | q
  ·rw [beq_iff_eq.mp q]; exact PySem.F.store_ValueError.passes self
  ·split at q
   ·split at q
    ·simp only [Bool.and_eq_true] at q
     rw [refuseLoop_ref]
     exact tail_lets self q.2
    ·cases q
   ·cases q
structure XC (K:PySem.W.Frag) (C:Addr) (bm:List Value):Prop where
 lk:∃ nm q N bs sn sub ab col dd k0 k1 k2 k3 k5,K.lookup C=some (excClassObj nm q C N bs bm true sn sub ab col dd k0 k1 k2 k3 k5 "ValueError.__new__")
 tl:PySem.W.tailIn K vMro bm=true
 kp:PySem.W.keepIn K (.ref C)=true
 ga:PySem.W.findIn K (.ref C) "__getattribute__"=some (some (.builtin "BaseException.__getattribute__"))
 gh:PySem.W.findIn K (.ref C) "__getattr__"=some none
 gc:PySem.W.findIn K (.ref C) "__class__"=some (some (.builtin "object.__class__"))
 sa:PySem.W.findIn K (.ref C) "__setattr__"=some (some (.builtin "object.__setattr__"))
section
variable {K:PySem.W.Frag} {C W:Addr} {bm bw:List Value}
theorem XC.cls (c:XC K C bm):∃ cd,PySem.W.clsIn K C=some cd∧cd.mro=.ref C :: bm∧cd.hasDict=true:=by
 obtain ⟨nm,q,N,bs,sn,sub,ab,col,dd,k0,k1,k2,k3,k5,lk⟩:=c.lk
 exact ⟨_,by unfold PySem.W.clsIn; rw [lk],rfl,rfl⟩
theorem XC.mro (c:XC K C bm) (v:Value):PySem.W.mroIn K C v=some ((Value.ref C :: bm).contains v):=by
 obtain ⟨cd,h1,h2,_⟩:=c.cls
 unfold PySem.W.mroIn
 rw [h1,Option.bind_some,h2,if_neg (by simp)]
theorem XC.has (c:XC K C bm) {v:Value} (hv:vMro.contains v=true):(Value.ref C :: bm).contains v=true:=by rw [List.contains_cons,tail_has hv c.tl,Bool.or_true]
theorem XC.xcls (c:XC K C bm):XCls K C bm:=by
 obtain ⟨nm,q,N,bs,sn,sub,ab,col,dd,k0,k1,k2,k3,k5,lk⟩:=c.lk
 exact ⟨tail_has (by decide) c.tl,_,_,_,_,_,_,_,_,_,_,_,_,_,_,_,_,lk⟩
theorem XC.tail (c:XC K C bm) {h:Heap} (X:K.In h):OwnTail h vMro bm:=PySem.W.tail_of_in X c.tl
end
noncomputable abbrev xTup (us:List Value):Obj:={ cls:=.type "tuple",data:=.seq us.toArray }
noncomputable abbrev xNew (C t:Addr):Obj:={ cls:=.ref C,data:=.fields #[.ref t,.none,.none,.none,.bool false,.none] }
noncomputable abbrev xHp (h:Heap) (C:Addr) (us:List Value):Heap:=(h.push (xTup us)).push (xNew C h.objs.size)
section
variable {prog:Program} {w:World} {A:Around} {E:Value→Shared→Prop} {h:Heap} {g:Array GenState} {d:Drawn} {t:Nat} {os:OsState} {K:PySem.W.Frag} {C:Addr} {bm us:List Value}
theorem xHp_keep {b:Addr} {o:Obj} (e:h.get? b=some o):(xHp h C us).get? b=some o:=Heap.get?_push_of_some _ (Heap.get?_push_of_some _ e)
theorem xHp_new:(xHp h C us).get? (h.objs.size + 1)=some (xNew C h.objs.size):=by
 have:=Heap.get?_push_size (h.push (xTup us)) (o:=xNew C h.objs.size) rfl
 rwa [Heap.size_push] at this
theorem x_born {init:Value} {Q:Fin→Shared→Prop} (X:K.In h) (c:XC K C bm) (hu:us.length≤sizeLine) (hi:PySem.W.Looks (model prog w) h (typeLookup (.ref C) "__init__") (some init))
    (hb:∀ self,PySem.W.Looks (model prog w) h (bindSpecial init self) (init,[self]))
    (go:wpAny (model prog w) A (call init (.ref (h.objs.size + 1) :: us)) (fun r s'=>r=.none∧Q (.done (.ret (.ref (h.objs.size + 1)))) s') E ⟨xHp h C us,g,d,t,os⟩) :
    wpAny (model prog w) A (Builtin.«type.__call__» ⟨.ref C :: us,[]⟩) Q E ⟨h,g,d,t,os⟩:=by
  have F:=PySem.F.excBase_ValueError
  have T:=c.tail X
  obtain ⟨nm,qn,N,bs,sn,sub,ab,col,dd,k0,k1,k2,k3,k5,lk⟩:=c.lk
  have cC:=X _ _ lk
  repeat (first
    | with_reducible refine wpAny_loadPart_at cC ?_
    | with_reducible refine wpAny_madeBy_exc cC ?_
    | wp_step)
  refine codeAny_call_builtin_code (Code.quiet_builtin _ F.quiet) (wpAny_check_new_subT F T cC ?_)
  refine codeAny_exc_new_subT F T cC ?_ hu
  show wpAny _ _ _ _ _ _
  have c2:=xHp_keep (C:=C) (us:=us) cC
  have n2:(xHp h C us).get? (h.objs.size + 1)=some (xNew C h.objs.size):=xHp_new
  have self:(Value.ref C :: bm).contains (.ref C)=true:=by simp
  unfold isInstance
  repeat (first
    | with_reducible refine wpAny_loadPart_at n2 ?_
    | (with_reducible refine wpAny_isSubtype_exc c2 ?_; rw [self])
    | wp_step)
  show wpAny _ _ (typeLookup (.ref C) _) _ _ _
  refine (hi.keeps fun _ _=>xHp_keep).at ?_
  refine wpAny_holding (wpAny_bind (((hb _).keeps fun _ _=>xHp_keep).at ?_))
  refine wpAny_bind (wpAny_mono go (fun r s' z=>?_) fun _ _ z=>z)
  obtain ⟨rfl,z⟩:=z
  wp_walk
  exact z
theorem x_call {init:Value} {Q:Value→Shared→Prop} (X:K.In h) (c:XC K C bm) (hu:us.length≤sizeLine) (hi:PySem.W.Looks (model prog w) h (typeLookup (.ref C) "__init__") (some init))
    (hb:∀ self,PySem.W.Looks (model prog w) h (bindSpecial init self) (init,[self]))
    (go:wpAny (model prog w) (A.under (.builtin "type.__call__" ⟨.ref C :: us,[]⟩)) (call init (.ref (h.objs.size + 1) :: us)) (fun r s'=>r=.none∧Q (.ref (h.objs.size + 1)) s') E ⟨xHp h C us,g,d,t,os⟩) :
    wpAny (model prog w) A (call (.ref C) us) Q E ⟨h,g,d,t,os⟩:=by
  obtain ⟨nm,qn,N,bs,sn,sub,ab,col,dd,k0,k1,k2,k3,k5,lk⟩:=c.lk
  have cC:=X _ _ lk
  have l1:=tc_lookup
  have l2:=tc_bind (.ref C)
  have ty:(⟨h,g,d,t,os⟩:Shared).TypeIs (.ref C) "type":=⟨_,cC,rfl⟩
  refine wpAny_call (codeAny_of_tree ?_)
  show wpAny _ _ (callAny (.ref C) _) _ _ _
  repeat (any_goals (first
    | assumption
    | with_reducible refine wpAny_loadPart_at cC ?_
    | wp_step))
  refine ⟨rfl,?_⟩
  exact codeAny_call_builtin_at (Code.quiet_builtin _ (by decide +kernel)) entry_typeCall (wpAny_check_type_call_sub cC (x_born X c hu hi hb go))
end
end L2
namespace L2
open PySem PySem.Spec PyProof.Rows
section
variable {prog:Program} {w:World} {A:Around} {E:Value→Shared→Prop} {s:Shared} {K:PySem.W.Frag} {C x:Addr} {bm:List Value} {ox:Obj} {od:Option Obj} {name:Str}
theorem x_set {v:Value} {vs:Array Value} {o:Obj} {Q:Unit→Shared→Prop} (X:K.In s.heap) (c:XC K C bm) (ha:PySem.W.findIn K (.ref C) name=some none) (hx:s.heap.get? x=some o) (hc:o.cls=.ref C) (hd:o.dict=none) (hv:o.data=.fields vs)
  (go:∀ h' tk,h'.get? x=some { o with dict:=some s.heap.objs.size }→h'.Ns1 s.heap.objs.size (fun y=>if y=name then some v else none)→(∀ b ob,b≠x→s.heap.get? b=some ob→h'.get? b=some ob)→Q () { s with heap:=h',toks:=tk }) :
  wpAny (model prog w) A (setAttr (.ref x) name v) Q E s:=by
 have I:PySem.W.InstAt s.heap x o C none:=⟨hx,hc,by unfold PySem.W.notCls; rw [hv],by rw [hd]; trivial⟩
 have SF:=PySem.F.store_object
 obtain ⟨cd,h1,h2,h3⟩:=c.cls
 have l0:=I.type (M:=model prog w)
 have l1:=PySem.W.looks_findIn (M:=model prog w) X ha
 have l2:PySem.W.Looks (model prog w) s.heap (mroOf (.ref C)) cd.mro:=(PySem.W.looks_clsIn X h1).andThen .now
 have l3:=PySem.W.looks_clsIn (M:=model prog w) X h1
 have lb:PySem.W.Looks (model prog w) s.heap (isInstance (.ref x) (.type "object")) true:=l0.andThen (PySem.W.looks_mroIn X (by rw [c.mro,c.has (by decide)]))
 refine PySem.W.set_plain X I c.sa ?_
 refine codeAny_call_builtin SF.slot.plain SF.entry (@PySem.W.check_slot (model prog w) _ _ { s with toks:=s.toks + 1 } "object.__setattr__" "object" "__setattr__" (.ref x) [.str name s.toks,v] [] _ SF.kind SF.split lb (SF.args (.ref x) (.str name s.toks) v) ?_)
 rw [PySem.W.osa_eq,refuse_eq]
 obtain ⟨hh,g,d,t,os⟩:=s
 refine wpAny_bind (wpAny_bind (l0.at (wpAny_bind (l2.at ?_))))
 rw [h2,refuseLoop_ref,tail_lets _ c.tl]
 refine wpAny_pure (wpAny_bind (l0.at (wpAny_bind (l1.at (wpAny_bind (wpAny_pure ?_))))))
 obtain ⟨oc,odi,oda,osl⟩:=o
 dsimp only at hc hd hv hx go
 subst hc hd hv
 show wpAny _ _ (Builtin.ObjectAttr.storeInOwnDict _ _ _ _ _ _) _ _ _
 unfold Builtin.ObjectAttr.storeInOwnDict
 refine wpAny_bind (wpAny_pure (wpAny_bind ?_))
 show wpAny _ _ (instanceDict x true) _ _ _
 unfold instanceDict
 refine wpAny_bind (wpAny_loadPart hx ?_)
 dsimp only
 refine wpAny_bind (l3.at ?_)
 rw [h3]
 have nsz:x≠hh.objs.size:=Nat.ne_of_lt (Heap.lt_size hx)
 have x1:=Heap.get?_push_of_some PySem.W.emptyDict hx
 refine wpAny_bind (wpAny_alloc' (wpAny_bind (wpAny_update' x1 ?_)))
 refine wpAny_pure ?_
 generalize hg:((hh.push PySem.W.emptyDict).update x fun o=>{ o with dict:=some hh.objs.size })=h2
 have xd:h2.get? x=some ⟨.ref C,some hh.objs.size,.fields vs,osl⟩:=by rw [← hg]; exact Heap.get?_update_self _ x1 rfl
 have dd:h2.get? hh.objs.size=some PySem.W.emptyDict:=by rw [← hg]; exact (Heap.get?_update_ne _ _ _ _ nsz.symm).trans (Heap.get?_push_at rfl rfl)
 have kp:∀ b ob,b≠x→hh.get? b=some ob→h2.get? b=some ob:=fun b ob nb q=>by rw [← hg]; exact (Heap.get?_update_ne _ _ _ _ nb).trans (Heap.get?_push_of_some _ q)
 have nd:h2.Ns hh.objs.size (fun _=>none):=⟨_,#[],_,dd,rfl,fun e he=>absurd he (by simp),fun _=>rfl⟩
 show wpAny _ _ (Builtin.ObjectAttr.storeInDict hh.objs.size _ name v) _ _ _
 unfold Builtin.ObjectAttr.storeInDict Builtin.ObjectAttr.newKeyGuard
 refine wpAny_bind (wpAny_pure (wpAny_bind (wpAny_nsSet1 (Heap.Ns1.of_empty nd) fun h' hn sb=>?_)))
 obtain ⟨oD,es,ep,g1,g2,g3⟩:=hn.count (Within.cons name v Within.nil)
 refine wpAny_bind (wpAny_lookBehind g1 (by rw [g2]; exact pastItsLine_dict (Nat.le_trans g3 (by rw [List.length_cons,List.length_nil,sizeLine_eq]; lia))) ?_)
 refine wpAny_pure ?_
 exact go h' _ ((sb.2 x nsz).trans xd) hn fun b ob nb q=>(sb.2 b (Nat.ne_of_lt (Heap.lt_size q))).trans (kp b ob nb q)
end
end L2
namespace L2
open PySem PySem.Spec PyProof.Rows
section
variable {X:Cx} {a c o e value:Expr} {ta tc tv:TE} {p pos pos':Pos} {f:Str}
noncomputable def sXFld (K:PySem.W.Frag) (ta tv:TE) (f:Str):TS:=fun D σ H=>tv σ H fun y H1=>ta σ H1 fun x H2=>∃ a C bm fr,x=.ref a∧XC K C bm∧H2 a=some (xO fr (.ref C) none a)∧NoAttr K C f ∧
 ∀ dx,H2 dx=none→dx≠a→D.nx σ (upd (upd H2 a (xO fr (.ref C) (some dx) a)) dx (.xd [(f,y)]))
theorem ps_xfld (ha:PE X o ta) (hv:PE X value tv) (hs:swapsWith value (some (.Attribute o f pos')) pos.line X.env=pure false):PS X (.Assign [.Attribute o f pos'] value pos) (sXFld X.K ta tv f):=by
 intro pins s σ H D I h
 refine plainObj_wpAny_Assign_Attribute (thn (hv pins s σ H _ I h) fun u s1 ⟨y,H1,I1,ry,q⟩=>thn (ha pins s1 σ H1 _ I1 q) fun ov s2 ⟨x,H2,I2,rx,a,C,bm,fr,ex,c,hA,n,q2⟩=>?_) hs
 subst ex
 obtain rfl:ov=Value.ref a:=rx
 obtain ⟨⟨oe,vs,g1,g2,g3,g4,g5⟩,_⟩:=(show ObjOk X.prog X.w H2 s2.heap a (xO fr (.ref C) none a) from I2.hok a _ hA)
 have fr0:H2 s2.heap.objs.size=none:=I2.hok.fresh (Nat.le_refl _)
 have na:s2.heap.objs.size≠a:=Ne.symm (Nat.ne_of_lt (Heap.lt_size g1))
 refine x_set I2.kIn c n g1 g2 g3 g4 fun h' tk k1 k2 k3=>⟨σ,_,?_,q2 _ fr0 na⟩
 have old:∀ b ob,H2 b=none→s2.heap.get? b=some ob→h'.get? b=some ob:=fun b ob hb e=>k3 b ob (fun z=>by rw [z,hA] at hb; cases hb) e
 have up:∀ b,b≠a→b≠s2.heap.objs.size→upd (upd H2 a (xO fr (.ref C) (some s2.heap.objs.size) a)) s2.heap.objs.size (.xd [(f,y)]) b=H2 b:=fun b n1 n2=>by rw [upd_ne n2,upd_ne n1]
 have lt:∀ b ob,s2.heap.get? b=some ob→b≠s2.heap.objs.size:=fun b ob e=>Nat.ne_of_lt (Heap.lt_size e)
 refine I2.un (t':=tk) ⟨fun b ob e n _ _=>old b ob n e,fun b ob e n _ _=>⟨ob.slots,old b ob n e⟩,fun b ob e n _=>?_,fun b ob e _=>?_,fun b xs e=>?_,fun b ob u e=>?_,fun b ps e=>⟨#[],?_⟩⟩ fun b u e=>?_
 ·rw [up b (fun z=>by rw [z,hA] at n; cases n) (lt b ob e)]; exact n
 ·by_cases hb:b=a
  ·subst hb; exact ⟨_,k1⟩
  ·exact ⟨ob,k3 b ob hb e⟩
 ·rw [up b (fun z=>by rw [z,hA] at e; cases e) (fun z=>by rw [z,fr0] at e; cases e)]; exact e
 ·rw [up b (fun z=>by rw [z,hA] at e; cases e) (fun z=>by rw [z,fr0] at e; cases e)]; exact e
 ·rw [up b (fun z=>by rw [z,hA] at e; cases e) (fun z=>by rw [z,fr0] at e; cases e),e]; simp
 ·by_cases hd:b=s2.heap.objs.size
  ·subst hd
   rw [upd_same] at e
   cases e
   refine ⟨_,k2,fun g=>?_⟩
   by_cases z:g=f
   ·subst z; simp [List.lookup,RelO]; exact ry
   ·have z2:(g == f)=false:=beq_eq_false_iff_ne.mpr z
    simp [List.lookup,z,z2,RelO]
  ·by_cases hb:b=a
   ·subst hb
    rw [upd_ne hd,upd_same] at e
    cases e
    exact xO_ok k1 g2 rfl g4 g5
   ·rw [up b hb hd] at e
    refine (I2.hok b u e).stay (fun x ox hh r=>k3 x ox (fun z=>?_) r) (fun x r=>?_) fun x xs r=>?_
    ·subst z
     rcases hh with hh | hh
     ·exact hb hh.symm
     ·rw [hA] at hh; cases hh
    ·rw [up x (fun z=>by rw [z,hA] at r; cases r) (fun z=>by rw [z,fr0] at r; cases r)]; exact r
    ·rw [up x (fun z=>by rw [z,hA] at r; cases r) (fun z=>by rw [z,fr0] at r; cases r)]; exact r
end
noncomputable def del (H:Hp) (e:Addr):Hp:=fun b=>if b=e then none else H b
theorem del_ne {H:Hp} {e b:Addr} (h:b≠e):del H e b=H b:=if_neg h
theorem del_same {H:Hp} {e:Addr}:del H e e=none:=if_pos rfl
theorem del_upd {H:Hp} {e:Addr} {o:HO} (h:H e=none):del (upd H e o) e=H:=by
 funext b
 by_cases q:b=e
 ·subst q; rw [del_same,h]
 ·rw [del_ne q,upd_ne q]
theorem del_upd_ne {H:Hp} {e d:Addr} {o:HO} (h:d≠e):del (upd H d o) e=upd (del H e) d o:=by
 funext b
 by_cases q:b=e
 ·subst q; rw [del_same,upd_ne (Ne.symm h),del_same]
 ·rw [del_ne q]
  by_cases z:b=d
  ·subst z; rw [upd_same,upd_same]
  ·rw [upd_ne z,upd_ne z,del_ne q]
section
variable {X:Cx} {pins:List (Addr×Obj)} {σ:St} {H:Hp} {s:Shared}
theorem Inv.untrack {e:Addr} {φ:Heap→Prop} (I:Inv X pins σ H s) (hx:H e=some (.ext φ)):Inv X pins σ (del H e) s:=by
 have nn:∀ b,H b=none→del H e b=none:=fun b n=>by
  by_cases q:b=e
  ·rw [q]; exact del_same
  ·rw [del_ne q]; exact n
 have ne:∀ {b:Addr} {o:HO},H b=some o→(∀ ψ,o≠.ext ψ)→del H e b=some o:=fun {b o} q n=>by
  rw [del_ne (fun z=>by rw [z,hx] at q; exact n φ (Option.some.inj q).symm)]; exact q
 refine ⟨I.ok,I.os,I.bare,⟨I.base.keep,I.base.slot,fun b o q n m=>nn b (I.base.free b o q n m),I.base.there,fun b xs q=>ne (I.base.tups b xs q) fun _ z=>(by cases z),fun b o u q=>ne (I.base.frzs b o u q) fun _ z=>(by cases z),fun b ps q=>?_⟩,I.loc,I.cell,nn _ I.free,fun y c q=>nn _ (I.freeC y c q),fun p hp=>?_,fun b u q=>?_,I.len⟩
 ·obtain ⟨more,z⟩:=I.base.tbls b ps q
  exact ⟨more,ne z fun _ z=>by cases z⟩
 ·obtain ⟨a,b,c⟩:=I.pin p hp
  exact ⟨a,nn _ b,c⟩
 ·by_cases z:b=e
  ·rw [z,del_same] at q; cases q
  ·rw [del_ne z] at q
   exact (I.hok b u q).stay (fun _ _ _ r=>r) (fun c r=>ne r fun _ z=>by cases z) fun c xs r=>ne r fun _ z=>by cases z
end
section
variable {X:Cx} {C f:Addr} {bm:List Value} {k:Nat} {fd:FuncData} {ps:List Str} {sp:Sp} {x:Str} {p pos rpos:Pos} {e:Expr} {es:List Expr} {t:TA}
structure XMk (P:Program) (w:World) (K:PySem.W.Frag) (mg:Str→Option Value) (base:Heap) (C:Addr) (k:Nat) (sp:Sp):Prop where
 ok:∃ f fd ps,PySem.W.findIn K (.ref C) "__init__"=some (some (.ref f))∧PySem.W.typeIn K (.ref f)=some (.type "function")∧FnOk P w K mg base CX0 k f fd ps sp∧Binds K fd ps []
theorem Inv.xborn {pins:List (Addr×Obj)} {σ:St} {H:Hp} {s:Shared} {us:List Value} (I:Inv X pins σ H s):Inv X pins σ (upd H (s.heap.objs.size + 1) (xO true (.ref C) none (s.heap.objs.size + 1))) { s with heap:=xHp s.heap C us } :=
 I.laid (a:=s.heap.objs.size + 1) (o:=xO true (.ref C) none (s.heap.objs.size + 1)) (t':=s.toks) (fun _ _=>xHp_keep) (Nat.le_succ _) (xO_ok xHp_new rfl rfl rfl fun _=>⟨_,rfl⟩)
theorem run_x {pins:List (Addr×Obj)} {σ:St} {H:Hp} {s:Shared} {Q:Addr→Hp→Prop} {us:List Value} {vs:List V} (c:XC X.K C bm) (M:XMk X.prog X.w X.K X.mg X.base C k sp) (hr:Room (k + 1) X.A) (I:Inv X pins σ H s) (r:Vals vs us) (hu:vs.length≤sizeLine)
  (h:∀ e,H e=none→sp (.ref e :: vs) (upd H e (xO true (.ref C) none e)) (fun v H2=>v=.non∧Q e H2) E0) :
  wpAny (model X.prog X.w) X.A (call (.ref C) us) (fun u s'=>∃ e H2,u=.ref e∧s.heap.objs.size≤e∧Inv X pins σ H2 s'∧Q e H2) X.xe s:=by
 obtain ⟨f,fd,ps,hi,hf,F,hb⟩:=M.ok
 have hq:=h (s.heap.objs.size + 1) (I.hok.fresh (Nat.le_succ _))
 have I2:=Inv.xborn (C:=C) (us:=us) I
 have r2:Vals (V.ref (s.heap.objs.size + 1) :: vs) (Value.ref (s.heap.objs.size + 1) :: us):=.cons rfl r
 have hl:(Value.ref (s.heap.objs.size + 1) :: us++[]).length=ps.length:=by
  rw [List.append_nil,← r2.length]
  exact F.len _ _ _ _ hq
 have bd:=hb _ (Value.ref (s.heap.objs.size + 1) :: us) I2.kIn hl
 rw [List.append_nil] at bd
 have run:=F.run _ X.stack _ _ ⟨Value.ref (s.heap.objs.size + 1) :: us,[]⟩ (Value.ref (s.heap.objs.size + 1) :: us) _ _ E0 (hr.make C us []) (I2.env0.make C us []) bd r2 hq
 have K0:=I.kIn
 have sz:s.heap.objs.size≤s.heap.objs.size + 1:=Nat.le_succ _
 obtain ⟨hh,g,d,tk,os⟩:=s
 refine x_call K0 c (by rw [← r.length]; exact hu) (PySem.W.looks_findIn K0 hi) (fun self=>PySem.W.bind_fn K0 self hf) ?_
 refine wpAny_call (codeAny_mono run fun rr s' z=>?_)
 cases rr with
 | error ev=>exact z.elim
 | ok fl =>
  cases fl with
  | ret u =>
   obtain ⟨v,H',I3,rv,ev,q3⟩:=I2.after z
   subst ev
   exact ⟨rv,_,H',rfl,sz,I3,q3⟩
  | _=>exact z.elim
theorem ev_exc {pins:List (Addr×Obj)} {σ:St} {H:Hp} {s:Shared} {R:List V→Hp→Prop} {Q:Value→Shared→Prop} (c:XC X.K C bm) (hg:Gl X x) (hm:X.mg x=some (.ref C)) (ha:PA X (e :: es) t) (I:Inv X pins σ H s) (h:t σ H R)
  (go:∀ us vs s1 H1,Inv X pins σ H1 s1→Vals vs us→R vs H1→X.s₀.heap.objs.size≤s1.heap.objs.size→wpAny (model X.prog X.w) X.A (call (.ref C) us) Q X.xe s1)
  (hdb:(x == ("__debug__":Str))=false:=by decide) (he:starEach (e :: es) X.env=(false,eval e X.env) :: starEach es X.env:=by rfl) (hpl:(backTo pos (starEach es X.env)).any (·.1)=false:=by rfl) :
  wpAny (model X.prog X.w) X.A (eval (.Call (.Name x p) (e :: es) [] pos) X.env) Q X.xe s:=by
 refine wpAny_Call_Name_kw (ld_glob I hg hm ?_ hdb)
 exact PySem.W.callWith_K (h₀:=X.base) I.ok.mod.kin c.kp (thn (ha pos pins s σ H _ I h) fun us s1 ⟨vs,H1,I1,r,q⟩=>⟨I1.kIn,go us vs s1 H1 I1 r q I1.sz⟩) he hpl
theorem x_raise {M:Model} {A:Around} {E:Value→Shared→Prop} {s:Shared} {env:Env} {v:Sem Value} {Q:Flow→Shared→Prop} {K:PySem.W.Frag} (hh:A.handled=none) (c:XC K C bm)
    (h:wpAny M A v (fun u s1=>∃ e oe a0,u=.ref e∧K.In s1.heap∧s1.heap.get? e=some oe∧oe.cls=.ref C∧oe.data=.fields #[a0,.none,.none,.none,.bool false,.none]∧E u s1) E s):wpAny M A (raiseStmt env (some v) none) Q E s:=by
  have hB:=c.has (v:=.type "BaseException") (by decide)
  obtain ⟨nm,qn,N,bs,sn,sub,ab,col,dd,k0,k1,k2,k3,k5,lk⟩:=c.lk
  unfold raiseStmt
  refine wpAny_bind (wpAny_mono h (fun u s1 z=>?_) fun _ _ z=>z)
  obtain ⟨e,oe,a0,rfl,X,he,hc,hd,hE⟩:=z
  have cC:=X _ _ lk
  obtain ⟨hp,g,d,tk,os⟩:=s1
  obtain ⟨oc,odi,oda,osl⟩:=oe
  dsimp only at hc hd
  subst hc hd
  repeat (first
    | with_reducible refine wpAny_loadPart_at he ?_
    | with_reducible refine wpAny_loadPart_at cC ?_
    | (with_reducible refine wpAny_isSubtype_exc cC ?_; rw [hB])
    | wp_step)
  exact wpAny_raiseNew_none hh hE
theorem XIn.fresh {E:XS} {σ:St} {H1 H2:Hp} {s1 s2:Shared} {pins:List (Addr×Obj)} {e:Addr} {dx:Option Addr} (I1:Inv X pins σ H1 s1) (I2:Inv X pins σ H2 s2) (le:s1.heap.objs.size≤e) (hx:H2 e=some (xO true (.ref C) dx e)) (hE:E (.ref C) dx σ (del H2 e)):XIn X E (.ref e) s2:=by
 obtain ⟨⟨oe,vs,g1,g2,g3,g4,g5⟩,_⟩:=(show ObjOk X.prog X.w H2 s2.heap e (xO true (.ref C) dx e) from I2.hok e _ hx)
 obtain ⟨a0,rfl⟩:=g5 rfl
 refine ⟨e,.ref C,dx,σ,del H2 e,rfl,(I2.untrack hx).pins_of fun p hp=>absurd hp (by simp),⟨del_same,Nat.le_trans I1.sz le,Nat.ne_of_gt (Nat.lt_of_lt_of_le I1.lt le),fun y c q z=>?_,fun p hp z=>?_⟩,.inl ⟨rfl,oe,_,g1,g2,g3,g4,rfl⟩,hE⟩
 ·obtain ⟨v,q⟩:=I1.cell y c q
  exact absurd (Nat.lt_of_lt_of_le q.lt (by rw [z]; exact le)) (Nat.lt_irrefl _)
 ·exact absurd (Nat.lt_of_lt_of_le (Heap.lt_size (I1.pin p (List.mem_append_left _ hp)).1) (by rw [z]; exact le)) (Nat.lt_irrefl _)
noncomputable def tRaise (C:Addr) (sp:Sp) (E:XS) (t:TA):TS:=fun _ σ H=>t σ H fun vs H1=>vs.length≤sizeLine∧∀ e,H1 e=none→sp (.ref e :: vs) (upd H1 e (xO true (.ref C) none e)) (fun v H2=>v=.non∧∃ dx,H2 e=some (xO true (.ref C) dx e)∧E (.ref C) dx σ (del H2 e)) E0
theorem ps_raise {E:XS} (hc:X.calm=true) (c:XC X.K C bm) (M:XMk X.prog X.w X.K X.mg X.base C k sp) (hr:Room (k + 1) X.A) (hm:X.mg x=some (.ref C)) (ha:PA (X.raises E) (e :: es) t) (hg:Gl X x:=by rfl)
  (hdb:(x == ("__debug__":Str))=false:=by decide) (he:starEach (e :: es) X.env=(false,eval e X.env) :: starEach es X.env:=by rfl) (hpl:(backTo pos (starEach es X.env)).any (·.1)=false:=by rfl) :
  PS (X.raises E) (.Raise (some (.Call (.Name x p) (e :: es) [] pos)) none rpos) (tRaise C sp E t):=by
 intro pins s σ H D I h
 rw [arm_exec_Raise]
 refine wpAny_bind (wpAny_standAt ?_)
 refine x_raise (K:=X.K) (I.ok.hd hc) c (wpAny_bind (ev_exc (X:=X.raises E) c hg hm ha I h (fun us vs s1 H1 I1 r ⟨z,q⟩ _=>thn (run_x (X:=X.raises E) (Q:=fun e H2=>∃ dx,H2 e=some (xO true (.ref C) dx e)∧E (.ref C) dx σ (del H2 e)) c M hr I1 r z q) fun u s2 ⟨e2,H2,eu,le,I2,dx,hx,hE⟩=>?_) hdb he hpl))
 subst eu
 obtain ⟨⟨oe,vs',g1,g2,g3,g4,g5⟩,_⟩:=(show ObjOk X.prog X.w H2 s2.heap e2 (xO true (.ref C) dx e2) from I2.hok e2 _ hx)
 obtain ⟨a0,rfl⟩:=g5 rfl
 exact wpAny_bind (wpAny_standAt (wpAny_pure ⟨e2,oe,a0,rfl,I2.kIn,g1,g2,g4,XIn.fresh I1.unwish I2.unwish le hx hE⟩))
end
section
variable {X:Cx} {E:XS} {k:Nat} {Fam:Addr→Sp→Prop} {x:Str} {p pos:Pos} {e:Expr} {es:List Expr} {tf:TE} {t:TA}
noncomputable def tCallVX (Fam:Addr→Sp→Prop) (E:XS) (tf:TE) (t:TA):TE:=fun σ H Q=>tf σ H fun x H1=>∃ f sp,x=.ref f∧Fam f sp∧t σ H1 fun vs H2=>sp vs H2 Q fun cls dx H'=>E cls dx σ H'
theorem pe_callVX (hF:∀ f sp,Fam f sp→Callee X.prog X.w X.K X.mg X.base (CXF X.prog X.w) k f sp) (hr:Room k X.A) (hf:PE (X.raises E) (.Name x p) tf) (ha:PA (X.raises E) (e :: es) t)
  (he:starEach (e :: es) X.env=(false,eval e X.env) :: starEach es X.env:=by rfl) (hpl:(backTo pos (starEach es X.env)).any (·.1)=false:=by rfl) :
  PE (X.raises E) (.Call (.Name x p) (e :: es) [] pos) (tCallVX Fam E tf t):=by
 intro pins s σ H Q I h
 refine wpAny_Call_Name_kw (thn (hf pins s σ H _ I h) fun u s1 ⟨y,H1,I1,r1,f,sp,ey,fam,q⟩=>?_)
 subst ey
 obtain rfl:u=Value.ref f:=r1
 obtain ⟨⟨fd,ps,F,hb⟩,hk⟩:=hF f sp fam
 refine PySem.W.callWith_K (h₀:=X.base) I.ok.mod.kin hk (thn (ha pos pins s1 σ H1 _ I1 q) fun us s2 ⟨vs,H2,I2,r,q2⟩=>⟨I2.kIn,?_⟩) he hpl
 have hl:us.length=ps.length:=by rw [← r.length]; exact F.len _ _ _ _ q2
 have bd:=hb s2 us I2.kIn (by simpa using hl)
 rw [List.append_nil] at bd
 refine wpAny_call (codeAny_mono (F.run X.A X.stack s2 H2 ⟨us,[]⟩ us vs Q (fun cls dx H'=>E cls dx σ H') hr I2.unwish.env0 bd r q2) fun rr s' z=>?_)
 cases rr with
 | error ev=>exact x_come I2.unwish z fun _ _ _ z=>z
 | ok fl =>
  cases fl with
  | ret u=>exact (I2.after z:EP (X.raises E) pins σ Q u s')
  | _=>exact z.elim
end
end L2
namespace L2
open PySem PySem.Spec PyProof.Rows
theorem cells_app:∀ (l:List (Str×NameKind)) (n:Nat) (acc:List (Str×Addr)),cellsFrom n l acc=cellsFrom n l []++acc
 | [],_,_=>rfl
 | (y,k) :: r,n,acc=>by
  unfold cellsFrom
  split
  ·rw [cells_app r (n + 1) ((y,n) :: acc),cells_app r (n + 1) [(y,n)],List.append_assoc]; rfl
  ·exact cells_app r n acc
theorem own_mem {x:Str} {c:Addr}:∀ {l:List (Str×NameKind)} {n:Nat} {acc:List (Str×Addr)},(x,c)∈cellsFrom n l acc→(x,NameKind.cell)∈l∨(x,c)∈acc
 | [],_,_,h=>.inr h
 | (y,k) :: r,n,acc,h=>by
  unfold cellsFrom at h
  split at h
  ·rename_i hk
   have hk':k=.cell:=by simpa using hk
   rcases own_mem h with q | q
   ·exact .inl (List.mem_cons_of_mem _ q)
   ·rcases List.mem_cons.mp q with z | z
    ·cases z; subst hk'; exact .inl List.mem_cons_self
    ·exact .inr z
  ·rcases own_mem h with q | q
   ·exact .inl (List.mem_cons_of_mem _ q)
   ·exact .inr q
theorem own_has {x:Str}:∀ {l:List (Str×NameKind)} {n:Nat} {acc:List (Str×Addr)},((x,NameKind.cell)∈l∨∃ c,(x,c)∈acc)→∃ c,(x,c)∈cellsFrom n l acc
 | [],_,_,h=>by
  rcases h with h | h
  ·cases h
  ·exact h
 | (y,k) :: r,n,acc,h=>by
  unfold cellsFrom
  split
  ·rename_i hk
   refine own_has ?_
   rcases h with h | ⟨c,h⟩
   ·rcases List.mem_cons.mp h with z | z
    ·cases z; exact .inr ⟨n,List.mem_cons_self⟩
    ·exact .inl z
   ·exact .inr ⟨c,List.mem_cons_of_mem _ h⟩
  ·rename_i hk
   refine own_has ?_
   rcases h with h | h
   ·rcases List.mem_cons.mp h with z | z
    ·cases z; exact absurd rfl hk
    ·exact .inl z
   ·exact .inr h
noncomputable abbrev ownCs (scope:Scope) (C:Addr):List (Str×Addr):=cellsFrom (C + 1) scope.names []
noncomputable def cxCC (X:Cx) (N:List Str) (scope:Scope) (cl:List (Str×Addr)) (C:Addr) (s2:Shared) (H2:Hp) (fp:List Addr):Cx:={ cxC X N scope (cellsFrom (C + 1) scope.names cl) C s2 H2 fp with fn:=fun x=>scope.names.lookup x == some .cell }
structure CompScopeC (X:Cx) (N:List Str) (mp:List (Option Nat)) (scope:Scope):Prop where
 kind:scope.kind=.function
 cells:∀ y∈scope.names,y.2=.cell→scope.names.lookup y.1=some .cell
 names:∀ y∈scope.names,y.2=.local→scope.names.lookup y.1=some .local
 len:mp.length=N.length
 out:∀ (i j:Nat),mp[i]?=some (some j)→∃ x,N[i]?=some x∧X.N[j]?=some x∧(X.env.scope.names.lookup x=some .cell∨X.env.scope.names.lookup x=some .free)∧scope.names.lookup x=some .free
section
variable {M:Model} {A:Around} {E:Value→Shared→Prop} {s:Shared}
theorem newEnv_cells {scope:Scope} {globals builtins:Addr} {cl:List (Str×Addr)} {qual:Str} {env:Env} {Q:Env→Shared→Prop}
  (h:Q (newEnv scope s.heap.objs.size globals (cellsFrom (s.heap.objs.size + 1) scope.names cl) qual none .none (some env) builtins) { s with heap:=pushCells (s.heap.push PySem.W.emptyDict) scope.names }) :
  wpAny M A (newFunctionEnv scope globals cl [] qual none .none (some env) builtins) Q E s:=by
 simp only [newFunctionEnv,Option.isSome_some,if_true]
 refine wpAny_bind (wpAny_alloc ?_)
 refine wpAny_bind (wpAny_layCells _ (fun name kind cells=>by cases hkc:kind == NameKind.cell <;> simp [hkc]) _ _ _ _ ?_)
 rw [show ({ s with heap:=s.heap.push { cls:=.type "dict",data:=.dict #[] } }:Shared).heap.objs.size=s.heap.objs.size + 1 from Heap.size_push ..]
 refine wpAny_bind (wpAny_pure ?_)
 exact wpAny_pure h
end
section
variable {X:Cx}
theorem comp_invO {pins:List (Addr×Obj)} {σ:St} {H:Hp} {s2:Shared} {N:List Str} {mp:List (Option Nat)} {scope:Scope} {cl:List (Str×Addr)} {fp:List Addr} {h1:Heap} {tk:Nat} (I:Inv X pins σ H s2) (S:CompScopeC X N mp scope)
  (hcl:closes X.env.cells scope.names []=some cl) (hfp:∀ b∈fp,FpOk X pins H b) (hfo:∀ b∈fp,∃ o,s2.heap.get? b=some o)
  (old:∀ b o,s2.heap.get? b=some o→h1.get? b=some o) {oo:HO} (hD:ObjOk X.prog X.w (upd H s2.heap.objs.size oo) h1 s2.heap.objs.size oo) {m:Str→Option Value} (hC:h1.Ns (s2.heap.objs.size + 1) m) (cok:CellsOk h1 (s2.heap.objs.size + 2) (ownCs scope (s2.heap.objs.size + 1))) :
  Inv (cxCC X N scope cl (s2.heap.objs.size + 1) s2 H fp) [] (compStart0 mp σ) (upd H s2.heap.objs.size oo) { s2 with heap:=h1,toks:=tk }:=by
 have clm:∀ {x:Str} {c:Addr},cl.lookup x=some c→X.env.cells.lookup x=some c:=fun {x c} e=>closes_mem hcl (fun p z=>absurd z (by simp)) (x,c) (PySem.mem_of_lookup e)
 have hn:H s2.heap.objs.size=none:=I.hok.fresh (Nat.le_refl _)
 have hnC:H (s2.heap.objs.size + 1)=none:=I.hok.fresh (Nat.le_succ _)
 have cellLt:∀ {x:Str} {c:Addr},X.env.cells.lookup x=some c→c < s2.heap.objs.size:=fun {x c} e=>by
  obtain ⟨v,q⟩:=I.cell x c e
  exact q.lt
 have freeOf:∀ x,((relabel scope X.env).names.lookup x=some .cell∨(relabel scope X.env).names.lookup x=some .free)→(x,NameKind.free)∈scope.names∨(x,NameKind.cell)∈scope.names:=fun x hx=>by
  have hm:(x,NameKind.cell)∈(relabel scope X.env).names∨(x,NameKind.free)∈(relabel scope X.env).names:=hx.elim (fun z=>.inl (PySem.mem_of_lookup z)) fun z=>.inr (PySem.mem_of_lookup z)
  have conv:∀ k,(x,k)∈(relabel scope X.env).names→(k=.cell∨k=.free)→(x,NameKind.free)∈scope.names∨(x,NameKind.cell)∈scope.names:=fun k hm hk=>by
   obtain ⟨⟨n,k'⟩,hy,e⟩:=List.mem_map.mp hm
   dsimp only at e
   split at e
   ·rename_i hc
    simp only [Bool.and_eq_true,beq_iff_eq] at hc
    cases e
    rw [hc.1.1] at hy
    exact .inl hy
   ·cases e
    rcases hk with z | z
    ·subst z; exact .inr hy
    ·subst z; exact .inl hy
  exact hm.elim (fun z=>conv _ z (.inl rfl)) fun z=>conv _ z (.inr rfl)
 have app:∀ x,(cellsFrom (s2.heap.objs.size + 1 + 1) scope.names cl).lookup x=((ownCs scope (s2.heap.objs.size + 1)).lookup x).or (cl.lookup x):=fun x=>by rw [cells_app,List.lookup_append]
 have two:∀ {x:Str} {c:Addr},(cellsFrom (s2.heap.objs.size + 1 + 1) scope.names cl).lookup x=some c→((ownCs scope (s2.heap.objs.size + 1)).lookup x=some c∧(h1.IsCell c none∧s2.heap.objs.size + 2≤c))∨X.env.cells.lookup x=some c:=fun {x c} e=>by
  rw [app] at e
  cases eo:(ownCs scope (s2.heap.objs.size + 1)).lookup x with
  | some d =>
   rw [eo] at e
   cases e
   exact .inl ⟨rfl,cok.empty _ _ (PySem.mem_of_lookup eo)⟩
  | none =>
   rw [eo] at e
   exact .inr (clm e)
 have ownHas:∀ {x:Str},(x,NameKind.cell)∈scope.names→∃ c,(ownCs scope (s2.heap.objs.size + 1)).lookup x=some c:=fun {x} hx=>by
  obtain ⟨c,hc⟩:=own_has (n:=s2.heap.objs.size + 1 + 1) (acc:=[]) (.inl hx)
  obtain ⟨d,hd,_⟩:=lookup_of_mem hc
  exact ⟨d,hd⟩
 have ok:(cxCC X N scope cl (s2.heap.objs.size + 1) s2 H fp).Ok:=by
  refine ⟨I.ok.mod,S.kind,I.ok.glob,I.ok.blt,Nat.le_succ _,fun x y c e1 e2=>?_,fun x hx=>?_,fun x c z e=>?_,I.ok.hd,I.ok.frames,.inl rfl,fun b hb=>⟨?_,fun x c e=>?_⟩,I.bs,Nat.le_trans I.ok.bsz I.sz,fun b o e hb=>?_,fun b hb z=>?_,I.stack,I.stkFree⟩
  ·rcases two e1 with ⟨o1,_,l1⟩ | o1 <;> rcases two e2 with ⟨o2,_,l2⟩ | o2
   ·exact name_of_addr cok.apart (PySem.mem_of_lookup o1) (PySem.mem_of_lookup o2)
   ·exact absurd (Nat.lt_of_lt_of_le (cellLt o2) (Nat.le_trans (Nat.le_add_right _ 2) l1)) (Nat.lt_irrefl _)
   ·exact absurd (Nat.lt_of_lt_of_le (cellLt o1) (Nat.le_trans (Nat.le_add_right _ 2) l2)) (Nat.lt_irrefl _)
   ·exact I.ok.inj x y c o1 o2
  ·show ∃ c,(cellsFrom (s2.heap.objs.size + 1 + 1) scope.names cl).lookup x=some c
   rcases freeOf x hx with q | q
   ·obtain ⟨c,hc⟩:=closes_has hcl (.inl q)
    obtain ⟨d,hd,_⟩:=lookup_of_mem hc
    rw [app,hd]
    cases (ownCs scope (s2.heap.objs.size + 1)).lookup x with
    | none=>exact ⟨d,rfl⟩
    | some c'=>exact ⟨c',rfl⟩
   ·obtain ⟨c,hc⟩:=ownHas q
    exact ⟨c,by rw [app,hc]; rfl⟩
  ·have z':scope.names.lookup x=some .cell:=beq_iff_eq.mp z
   obtain ⟨c',hc'⟩:=ownHas (PySem.mem_of_lookup z')
   have e':(cellsFrom (s2.heap.objs.size + 1 + 1) scope.names cl).lookup x=some c:=e
   rw [app,hc'] at e'
   cases e'
   exact Nat.le_trans (Nat.le_add_right _ 2) (cok.empty _ _ (PySem.mem_of_lookup hc')).2
  ·obtain ⟨o,e⟩:=hfo b hb
   exact Nat.ne_of_lt (Nat.lt_succ_of_lt (Heap.lt_size e))
  ·rcases two e with ⟨_,_,l⟩ | o
   ·obtain ⟨ob,eb⟩:=hfo b hb
    exact Ne.symm (Nat.ne_of_lt (Nat.lt_of_lt_of_le (Heap.lt_size eb) (Nat.le_trans (Nat.le_add_right _ 2) l)))
   ·exact (hfp b hb).2.2.2.2.1 x c o
  ·rcases (hfp b hb).2.2.2.1 with z | z
   ·exact I.ok.noex b o e z
   ·exact absurd (Nat.lt_of_lt_of_le (Heap.lt_size e) (Nat.le_trans I.ok.bsz z)) (Nat.lt_irrefl _)
  ·rcases List.mem_cons.mp (I.stkSub b z) with q | q
   ·exact (hfp b hb).2.1 q
   ·exact (hfp b hb).2.2.1 q
 refine ⟨ok,rfl,I.bare,Un.laid old (Nat.le_refl _) hn,⟨m,hC,fun i x v e1 e2 e3=>?_⟩,fun x c e=>?_,?_,fun x c e=>?_,(fun p hp=>nomatch hp),?_,?_⟩
 ·
  unfold compStart0 at e2
  rw [List.getElem?_map] at e2
  cases em:mp[i]? with
  | none=>rw [em] at e2; cases e2
  | some o =>
   rw [em] at e2
   cases o with
   | none=>cases e2
   | some j =>
    have e2':(σ[j]?).bind id=some v:=Option.some.inj e2
    obtain ⟨x',n1,n2,n3,n4⟩:=S.out i j em
    rw [show (cxCC X N scope cl (s2.heap.objs.size + 1) s2 H fp).N[i]?=N[i]? from rfl,n1] at e1
    cases e1
    have sj:σ[j]?=some (some v):=by
     cases ej:σ[j]? with
     | none=>rw [ej] at e2'; cases e2'
     | some o=>rw [ej] at e2'; exact congrArg some e2'
    obtain ⟨m0,hm0,hl⟩:=I.loc
    obtain ⟨u,ru,lk⟩:=hl j x v n2 sj (.inr n3)
    refine ⟨u,ru,.inr ⟨?_,?_⟩⟩
    ·have hf:(x,NameKind.free)∈scope.names:=PySem.mem_of_lookup n4
     have key:∀ l:List (Str×NameKind),l.lookup x=some .free→((l.map fun (n,k)=>if (k == NameKind.free && X.env.scope.kind == .function && X.env.kindOf n == some .cell) then (n,NameKind.cell) else (n,k)).lookup x=some .cell ∨
       (l.map fun (n,k)=>if (k == NameKind.free && X.env.scope.kind == .function && X.env.kindOf n == some .cell) then (n,NameKind.cell) else (n,k)).lookup x=some .free):=by
      intro l
      induction l with
      | nil=>intro z; cases z
      | cons y r ih =>
       obtain ⟨n,k⟩:=y
       intro z
       rw [List.lookup_cons] at z
       rw [List.map_cons]
       dsimp only
       by_cases en:(x == n)=true
       ·rw [en] at z
        dsimp only at z
        cases z
        split
        ·exact .inl (by rw [List.lookup_cons,en])
        ·exact .inr (by rw [List.lookup_cons,en])
       ·have en2:(x == n)=false:=by simpa using en
        rw [en2] at z
        dsimp only at z
        split
        ·rw [List.lookup_cons,en2]; exact ih z
        ·rw [List.lookup_cons,en2]; exact ih z
     exact key scope.names n4
    ·have hf:(x,NameKind.free)∈scope.names:=PySem.mem_of_lookup n4
     obtain ⟨c,hc⟩:=closes_has hcl (.inl hf)
     obtain ⟨d,hd,_⟩:=lookup_of_mem hc
     rcases lk with ⟨k1,_⟩ | ⟨_,c',hc',z⟩
     ·have k1':X.env.scope.names.lookup x=some .local:=k1
      rcases n3 with z | z <;> (rw [k1'] at z; cases z)
     ·have e:=clm hd
      rw [hc'] at e
      have e3:c'=d:=Option.some.inj e
      obtain ⟨o,ho,hdt⟩:=z
      rw [e3] at ho
      have no:(ownCs scope (s2.heap.objs.size + 1)).lookup x=none:=by
       cases eo:(ownCs scope (s2.heap.objs.size + 1)).lookup x with
       | none=>rfl
       | some c0 =>
        rcases own_mem (PySem.mem_of_lookup eo) with q | q
        ·have:=S.cells _ q rfl
         rw [n4] at this
         cases this
        ·cases q
      exact ⟨d,by show (cellsFrom (s2.heap.objs.size + 1 + 1) scope.names cl).lookup x=some d; rw [app,no]; exact hd,o,old _ _ ho,hdt⟩
 ·rcases two e with ⟨_,ic,_⟩ | q
  ·exact ⟨_,ic⟩
  ·obtain ⟨v,o,ho,hdt⟩:=I.cell x c q
   exact ⟨v,o,old _ _ ho,hdt⟩
 ·show upd H s2.heap.objs.size oo (s2.heap.objs.size + 1)=none
  rw [upd_ne (Nat.ne_of_gt (Nat.lt_succ_self _))]; exact hnC
 ·show upd H s2.heap.objs.size oo c=none
  rcases two e with ⟨_,_,l⟩ | q
  ·rw [upd_ne (Nat.ne_of_gt (Nat.lt_of_lt_of_le (Nat.lt_add_of_pos_right (by decide)) l))]
   exact I.hok.fresh (Nat.le_trans (Nat.le_add_right _ 2) l)
  ·rw [upd_ne (Nat.ne_of_lt (cellLt q))]
   exact I.freeC x c q
 ·exact I.hok.laid old (Nat.le_refl _) hD
 ·show (compStart0 mp σ).length=N.length
  unfold compStart0
  rw [List.length_map]; exact S.len
theorem comp_invC {pins:List (Addr×Obj)} {σ:St} {H:Hp} {s2:Shared} {N:List Str} {mp:List (Option Nat)} {scope:Scope} {cl:List (Str×Addr)} {fp:List Addr} {h1:Heap} {tk:Nat} (I:Inv X pins σ H s2) (S:CompScopeC X N mp scope)
  (hcl:closes X.env.cells scope.names []=some cl) (hfp:∀ b∈fp,FpOk X pins H b) (hfo:∀ b∈fp,∃ o,s2.heap.get? b=some o)
  (old:∀ b o,s2.heap.get? b=some o→h1.get? b=some o) (hD:h1.get? s2.heap.objs.size=some { cls:=.type "list",data:=.seq ([]:List Value).toArray }) {m:Str→Option Value} (hC:h1.Ns (s2.heap.objs.size + 1) m) (cok:CellsOk h1 (s2.heap.objs.size + 2) (ownCs scope (s2.heap.objs.size + 1))) :
  Inv (cxCC X N scope cl (s2.heap.objs.size + 1) s2 H fp) [] (compStart0 mp σ) (upd H s2.heap.objs.size (.lst [])) { s2 with heap:=h1,toks:=tk } :=
 comp_invO I S hcl hfp hfo old ⟨by show 0≤sizeLine; exact Nat.zero_le _,[],0,.nil,hD⟩ hC cok
theorem comp_run {elt iter tg:Expr} {ifs:List Expr} {scope:Scope} {pos:Pos} {N:List Str} {mp:List (Option Nat)} {cl:List (Str×Addr)} {wi:TI} {g:Addr→Shared→Hp→List Addr→TG} {tt:Addr→Shared→Hp→List Addr→TT} {te:Addr→Shared→Hp→List Addr→TE}
  (hc:X.calm=true) (S:CompScopeC X N mp scope) (hcl:closes X.env.cells scope.names []=some cl) (hi:PI X tg iter wi)
  (hg:∀ C s2 H2 fp,PG (cxCC X N scope cl C s2 H2 fp) tg (g C s2 H2 fp)) (ht:∀ C s2 H2 fp,PTL (cxCC X N scope cl C s2 H2 fp) ifs (tt C s2 H2 fp)) (he:∀ C s2 H2 fp,PE (cxCC X N scope cl C s2 H2 fp) elt (te C s2 H2 fp))
  (hs:∀ x,foldedSetIterable iter X.env x=pure x)
  {use:Option (Value→Sem Unit)} {PQ:Value→Shared→Prop} {pins:List (Addr×Obj)} {s:Shared} {σ:St} {H:Hp} {Q:VK} (I:Inv X pins σ H s) (h:tComp mp wi g tt te σ H Q)
  (fin:∀ (H2:Hp) (s2:Shared) (fp:List Addr) (σ':St) (H':Hp) (s':Shared),Inv X pins σ H2 s2→(∀ b∈fp,FpOk X pins H2 b)→Inv (cxCC X N scope cl (s2.heap.objs.size + 1) s2 H2 fp) [] σ' H' s'→Q (.ref s2.heap.objs.size) H' →
   compPost (model X.prog X.w) X.A X.xe use PQ (.ref s2.heap.objs.size) (s2.heap.objs.size + 1) (.ok .next) s') :
  wpAny (model X.prog X.w) X.A (comprehension (.ListComp elt [⟨tg,iter,ifs,0⟩] scope pos) scope X.env (firstIterPos [⟨tg,iter,ifs,0⟩] pos) (newList []) (firstAsync [⟨tg,iter,ifs,0⟩]) (firstIter [⟨tg,iter,ifs,0⟩] X.env) use) PQ X.xe s:=by
 refine wpAny_comprehension_free (use:=use) rfl hs (closureFor_of hcl) S.kind S.names (thn (hi pins s σ H _ I h) fun v s1 h1=>thn h1 fun itv s2 h2=>?_)
 obtain ⟨it,fp,tn,J,H2,e,I2,T,st2,f2,h3⟩:=h2
 subst e
 refine wpAny_newObj_type (newEnv_cells ?_)
 dsimp only
 have hn2:H2 s2.heap.objs.size=none:=I2.hok.fresh (Nat.le_refl _)
 generalize hH2:s2.heap.push { cls:=.type "list",dict:=none,data:=.seq ([]:List Value).toArray }=G2
 have hC:G2.objs.size=s2.heap.objs.size + 1:=by rw [← hH2,Heap.size_push]
 generalize hh1:pushCells (G2.push PySem.W.emptyDict) scope.names=h₁
 have old1:∀ b o,G2.get? b=some o→h₁.get? b=some o:=fun b o e=>by rw [← hh1]; exact pushCells_keeps _ _ b o (Heap.get?_push_of_some _ e)
 have old:∀ b o,s2.heap.get? b=some o→h₁.get? b=some o:=fun b o e=>old1 b o (hH2 ▸ Heap.get?_push_of_some _ e)
 have hD1:h₁.get? s2.heap.objs.size=some { cls:=.type "list",data:=.seq ([]:List Value).toArray }:=old1 _ _ (hH2 ▸ Heap.get?_push_size _ rfl)
 have hns₁:h₁.Ns (s2.heap.objs.size + 1) (fun _=>none):=by
  have e1:h₁.get? G2.objs.size=some PySem.W.emptyDict:=by rw [← hh1]; exact pushCells_keeps _ _ _ _ (Heap.get?_push_size _ rfl)
  rw [hC] at e1
  exact ⟨_,#[],_,e1,rfl,fun e he=>absurd he (by simp),fun _=>rfl⟩
 have cok:CellsOk h₁ (s2.heap.objs.size + 2) (ownCs scope (s2.heap.objs.size + 1)):=by
  have:=cellsFrom_ok scope.names (G2.push PySem.W.emptyDict) (s2.heap.objs.size + 2) [] ⟨fun _ _ hm=>(nomatch hm),List.Pairwise.nil⟩ (by rw [Heap.size_push,hC]; exact Nat.le_refl _)
  rw [Heap.size_push,hC,hh1] at this
  exact this
 obtain ⟨W,⟨m0,w0⟩,turn⟩:=h3 s2.heap.objs.size hn2 (s2.heap.objs.size + 1) s2 fp
 have I4:=comp_invC (tk:=s2.toks) I2 S hcl f2 (fun b hb=>let ⟨o,e,_⟩:=T.obj _ _ st2 b hb; ⟨o,e⟩) old hD1 hns₁ cok
 have st4:tn 0 h₁:=T.keep _ _ _ st2 fun b hb o e=>old b o e
 have stat:∀ {pl:List (Addr×Obj)} {H':Hp},(∀ b∈fp,H' b=none)→(∀ p∈pl,p.1 ∉ fp)→∀ b∈fp,FpOk (cxCC X N scope cl (s2.heap.objs.size + 1) s2 H2 fp) pl H' b:=fun {pl H'} hn hp b hb =>
  ⟨hn b hb,(I4.ok.exf b hb).1,I4.ok.exfs b hb,.inl hb,(I4.ok.exf b hb).2,fun p z q=>hp p (by simpa [cxC,cxCC] using z) (by rw [q]; exact hb)⟩
 have fr0:∀ b∈fp,(upd H2 s2.heap.objs.size (.lst [])) b=none:=fun b hb=>by
  obtain ⟨o,e,_⟩:=T.obj _ _ st2 b hb
  rw [upd_ne (Nat.ne_of_lt (Heap.lt_size e))]
  exact (f2 b hb).1
 have loop:codeAny (model X.prog X.w) X.A (.compLoop (.ListComp elt [⟨tg,iter,ifs,0⟩] scope pos) 0 (.ref it) (.ref s2.heap.objs.size) (compEnvC scope (cellsFrom (s2.heap.objs.size + 1 + 1) scope.names cl) (s2.heap.objs.size + 1) X.env))
   (compPost (model X.prog X.w) X.A X.xe use PQ (.ref s2.heap.objs.size) (s2.heap.objs.size + 1)) { s2 with heap:=h₁,toks:=s2.toks }:=by
  refine compLoop_go (fun n s'=>∃ i σ' H',Inv (cxCC X N scope cl (s2.heap.objs.size + 1) s2 H2 fp) [] σ' H' s'∧tn i s'.heap∧(∀ b∈fp,H' b=none)∧W i n σ' H') ?_ m0 ⟨0,_,_,I4,st4,fr0,w0⟩
  rintro n s3 ⟨i,σ3,H3,I3,st3,fr3,w3⟩
  rcases turn i n σ3 H3 w3 with ⟨stop,qn⟩ | ⟨go,N',hN,step⟩
  ·refine (thn (T.done (cxCC X N scope cl (s2.heap.objs.size + 1) s2 H2 fp) rfl rfl rfl hc i [] s3 σ3 H3 (fun _ _=>False) I3 (stat fr3 (fun _ z=>nomatch z)) st3 stop) fun r s4 ⟨hr,I4'⟩=>?_)
   subst hr
   exact fin H2 s2 fp _ _ _ I2 f2 I4' qn
  ·refine (thn (T.item (cxCC X N scope cl (s2.heap.objs.size + 1) s2 H2 fp) rfl rfl rfl hc i [] s3 σ3 H3 (fun _ _=>False) I3 (stat fr3 (fun _ z=>nomatch z)) st3 go) fun r s4 ⟨u,hr,h4⟩=>?_)
   subst hr
   refine thn h4 fun _ s5 ⟨x,H5,I5,r5,y5,st5,fr5⟩=>?_
   have I5':=I5.pinned (pins:=[]) (stat fr5 (fun _ z=>nomatch z)) (T.obj _ _ st5)
   refine (thn (hg (s2.heap.objs.size + 1) s2 H2 fp _ s5 σ3 H5 x u _ I5' r5 (step x H5 y5)) fun _ s6 ⟨σ6,H6,I6,q6⟩=>?_)
   refine (thn (ht (s2.heap.objs.size + 1) s2 H2 fp _ s6 σ6 H6 _ I6 q6) fun b s7 ⟨H7,I7,q7⟩=>?_)
   have again:∀ {σ7:St} {H7:Hp} {s7:Shared},Inv (cxCC X N scope cl (s2.heap.objs.size + 1) s2 H2 fp) ([]++pinsAt fp s5.heap) σ7 H7 s7→N' σ7 H7→∃ m,m < n∧∃ i σ' H',Inv (cxCC X N scope cl (s2.heap.objs.size + 1) s2 H2 fp) [] σ' H' s7∧tn i s7.heap∧(∀ b∈fp,H' b=none)∧W i m σ' H':=fun {σ7 H7 s7} I7 n7=>by
    obtain ⟨m',hm,w7⟩:=hN σ7 H7 n7
    refine ⟨m',hm,i + 1,σ7,H7,I7.unpinned,T.keep _ _ _ st5 fun b hb o e=>(I7.pin (b,o) (List.mem_append_right _ (List.mem_append_right _ (mem_pinsAt hb e)))).1,fun b hb=>?_,w7⟩
    obtain ⟨o,e,d⟩:=T.obj _ _ st5 b hb
    exact (I7.pin (b,o) (List.mem_append_right _ (List.mem_append_right _ (mem_pinsAt hb e)))).2.1
   cases b with
   | false =>
    rw [if_neg Bool.false_ne_true] at q7 ⊢
    exact again I7 q7
   | true =>
    rw [if_pos rfl] at q7 ⊢
    refine (thn (he (s2.heap.objs.size + 1) s2 H2 fp _ s7 σ6 H7 _ I7 q7) fun y s8 ⟨yv,H8,I8,ry,xs,hx,hz,n8⟩=>?_)
    refine (thn (mt_append (X:=cxCC X N scope cl (s2.heap.objs.size + 1) s2 H2 fp) _ s8 σ6 H8 (.ref s2.heap.objs.size) [yv] (.ref s2.heap.objs.size) [y] (fun _ H'=>N' σ6 H') I8 rfl (.cons ry .nil) ⟨_,xs,yv,rfl,rfl,hx,hz,n8⟩) fun _ s9 ⟨_,H9,I9,_,n9⟩=>?_)
    exact again I9 n9
 have goal:=codeAny_compStart_list loop (T.self X.A 0 { s2 with heap:=h₁,toks:=s2.toks } _ _ st4 loop)
 rw [hC]
 exact goal
theorem comp_back {N:List Str} {scope:Scope} {cl:List (Str×Addr)} {pins:List (Addr×Obj)} {σ σ':St} {H2 H':Hp} {s2 s':Shared} {fp:List Addr} {h'':Heap} (I2:Inv X pins σ H2 s2) (f2:∀ b∈fp,FpOk X pins H2 b) (J':Inv (cxCC X N scope cl (s2.heap.objs.size + 1) s2 H2 fp) [] σ' H' s')
  (keepC:∀ b o,b≠s2.heap.objs.size + 1→s'.heap.get? b=some o→h''.get? b=some o):Inv X pins σ H' { s' with heap:=h'' }:=by
 have u0:=J'.base
 have neC:∀ b o,s2.heap.get? b=some o→b≠s2.heap.objs.size + 1:=fun b o e=>Nat.ne_of_lt (Nat.lt_succ_of_lt (Heap.lt_size e))
 have u:Un (frs X.stack) fp H2 H' s2.heap h'':=⟨fun b o e n hb hx=>keepC b o (neC b o e) (u0.keep b o e n hb hx),fun b o e n hb hx=>by
   obtain ⟨sl,e1⟩:=u0.slot b o e n hb hx
   exact ⟨sl,keepC b _ (neC b o e) e1⟩,u0.free,fun b o e hx=>by
   obtain ⟨o',e1⟩:=u0.there b o e hx
   exact ⟨o',keepC b o' (neC b o e) e1⟩,u0.tups,u0.frzs,u0.tbls⟩
 have freeC:H' (s2.heap.objs.size + 1)=none:=J'.free
 have hok:HOk X.prog X.w H' h'':=fun b o e=>(J'.hok b o e).stay (fun c v hcc r=>keepC c v (by
   intro z
   rcases hcc with q1 | q1
   ·rw [← q1,z,freeC] at e; cases e
   ·rw [z,freeC] at q1; cases q1) r) (fun _ z=>z) fun _ _ z=>z
 exact I2.call' (s':={ s' with heap:=h'' }) J'.os u hok J'.bare fun b hb=>⟨(f2 b hb).2.2.2.1,(f2 b hb).2.1,(f2 b hb).2.2.2.2.1,(f2 b hb).2.2.2.2.2⟩
theorem pe_compC {elt iter tg:Expr} {ifs:List Expr} {scope:Scope} {pos:Pos} {N:List Str} {mp:List (Option Nat)} {cl:List (Str×Addr)} {wi:TI} {g:Addr→Shared→Hp→List Addr→TG} {tt:Addr→Shared→Hp→List Addr→TT} {te:Addr→Shared→Hp→List Addr→TE}
  (hc:X.calm=true) (S:CompScopeC X N mp scope) (hcl:closes X.env.cells scope.names []=some cl) (hi:PI X tg iter wi)
  (hg:∀ C s2 H2 fp,PG (cxCC X N scope cl C s2 H2 fp) tg (g C s2 H2 fp)) (ht:∀ C s2 H2 fp,PTL (cxCC X N scope cl C s2 H2 fp) ifs (tt C s2 H2 fp)) (he:∀ C s2 H2 fp,PE (cxCC X N scope cl C s2 H2 fp) elt (te C s2 H2 fp))
  (hs:∀ x,foldedSetIterable iter X.env x=pure x:=by intro _; rfl) :
  PE X (.ListComp elt [⟨tg,iter,ifs,0⟩] scope pos) (tComp mp wi g tt te):=by
 intro pins s σ H Q I h
 rw [eval_ListComp]
 refine comp_run hc S hcl hi hg ht he hs I h fun H2 s2 fp σ' H' s' I2 f2 J' q=>?_
 obtain ⟨m,hm,_⟩:=id J'.loc
 exact ⟨m,hm,fun h'' sb=>⟨.ref s2.heap.objs.size,H',comp_back I2 f2 J' fun b o hb e=>sb.extBut b o hb e,rfl,q⟩⟩
theorem ps_setC {i:Nat} {x:Str} {pos' spos:Pos} {elt iter tg:Expr} {ifs:List Expr} {scope:Scope} {pos:Pos} {N:List Str} {mp:List (Option Nat)} {cl:List (Str×Addr)} {wi:TI} {g:Addr→Shared→Hp→List Addr→TG} {tt:Addr→Shared→Hp→List Addr→TT} {te:Addr→Shared→Hp→List Addr→TE}
  (hN:X.N.Nodup) (hx:X.N[i]?=some x) (hl:Loc X.env.scope x) (hc:X.calm=true) (S:CompScopeC X N mp scope) (hcl:closes X.env.cells scope.names []=some cl) (hi:PI X tg iter wi)
  (hg:∀ C s2 H2 fp,PG (cxCC X N scope cl C s2 H2 fp) tg (g C s2 H2 fp)) (ht:∀ C s2 H2 fp,PTL (cxCC X N scope cl C s2 H2 fp) ifs (tt C s2 H2 fp)) (he:∀ C s2 H2 fp,PE (cxCC X N scope cl C s2 H2 fp) elt (te C s2 H2 fp))
  (hs:∀ x,foldedSetIterable iter X.env x=pure x:=by intro _; rfl)
  (hsw:swapsWith (.ListComp elt [⟨tg,iter,ifs,0⟩] scope pos) (some (.Name x pos')) spos.line X.env=pure true:=by rfl)
  (hf:X.fn x=true∨X.env.scope.names.lookup x=some .local:=by first | exact .inl rfl | exact .inr rfl | assumption) :
  PS X (.Assign [.Name x pos'] (.ListComp elt [⟨tg,iter,ifs,0⟩] scope pos) spos) (fun D σ H=>tComp mp wi g tt te σ H fun v H1=>D.nx (σ.set i (some v)) H1):=by
 intro pins s σ H D I h
 rw [exec_Assign_Name_used _ _ _ _ hsw]
 refine wpAny_bind (wpAny_standAt ?_)
 rw [arm_evalThenUse_ListComp]
 refine wpAny_bind (wpAny_bind (thn (comp_run hc S hcl hi hg ht he hs (PQ:=fun _ s'=>SP X pins D .next s') I h fun H2 s2 fp σ' H' s' I2 f2 J' q=>?_) fun _ _ z=>wpAny_pure (wpAny_pure z)))
 ·obtain ⟨m,⟨oC,es,ep,ho,r⟩,_⟩:=id J'.loc
  have I3:Inv X pins σ H' s':=comp_back (h'':=s'.heap) I2 f2 J' fun b o _ e=>e
  have nL:s2.heap.objs.size + 1≠X.env.locals:=Nat.ne_of_gt (Nat.lt_of_lt_of_le I2.lt (Nat.le_succ _))
  have nf:s2.heap.objs.size + 1 ∉ X.fs:=I2.nofs (Nat.le_succ _)
  have fp:=Inv.fpOk (H':=H') I2 (Nat.le_succ _) (b:=s2.heap.objs.size + 1) J'.free
  have I4:Inv X (pins++[(s2.heap.objs.size + 1,oC)]) σ H' s':=I3.pins_of fun p hp=>by
   rcases List.mem_append.mp hp with z | z
   ·exact I3.pin p (List.mem_append_right _ z)
   ·have e:p=(s2.heap.objs.size + 1,oC):=by simpa using z
    subst e
    exact ⟨ho,J'.free,nL,nf,fun v z=>by rw [r.1] at z; cases z⟩
  show wpAny _ _ (assign (.Name x pos') X.env _) _ _ _
  refine wpAny_bind (wpAny_standAt (wpAny_bindName (store_ok I4 hN hx hl (show RelV (.ref s2.heap.objs.size) (.ref s2.heap.objs.size) from rfl) (fun s5 I5=>?_) hf)))
  obtain ⟨hC,_⟩:=I5.pin (s2.heap.objs.size + 1,oC) (List.mem_append_right _ (List.mem_append_right _ (by simp)))
  refine ⟨m,⟨oC,es,ep,hC,r⟩,fun h' sb=>⟨_,H',?_,q⟩⟩
  have I6:Inv X pins (σ.set i (some (.ref s2.heap.objs.size))) H' s5:=I5.pins_of fun p hp=>I5.pin p (List.mem_append_right _ (List.mem_append_left _ hp))
  exact I6.turned (t':=s5.toks) (it:=s2.heap.objs.size + 1) (fun b o hb e=>sb.extBut b o hb e) fp.1 fp.2.1 fp.2.2.2.1 fp.2.2.2.2.1 fp.2.2.2.2.2
theorem csC_of {N:List Str} {scope:Scope} (mp:List (Option Nat)) (h1:scope.kind=.function) (h2:∀ y∈scope.names,y.2=.cell→scope.names.lookup y.1=some .cell) (h3:∀ y∈scope.names,y.2=.local→scope.names.lookup y.1=some .local) (h4:mp.length=N.length)
  (h5:outChk X.N X.env.scope.names N scope.names mp 0=true):CompScopeC X N mp scope :=
 ⟨h1,h2,h3,h4,fun i j e=>by
  obtain ⟨x,a,b,c,d⟩:=outChk_ok h5 i j e
  exact ⟨x,by simpa using a,b,c,d⟩⟩
end
end L2
namespace L2
open PySem PySem.Spec PyProof.Rows
section
variable {prog:Program} {w:World} {A:Around} {R:Result→Shared→Prop} {s:Shared}
end
section
variable {X:Cx}
end
end L2
namespace L2
open PySem PySem.Spec PyProof.Rows
section
variable {P:Program} {w:World} {K:PySem.W.Frag} {mg:Str→Option Value} {base:Heap}
end
end L2
namespace L2
open PySem PySem.Spec PyProof.Rows
section
variable {X:Cx} {tg:Expr}
end
end L2
namespace L2
open PySem PySem.Spec PyProof.Rows PySem.Builtin.Str
variable {X:Cx}
theorem bt_min:bootBuiltins "min"=some (.builtin "min"):=by decide +kernel
end L2
namespace L2
open PySem PySem.Spec PyProof.Rows PySem.Builtin.Str
variable {X:Cx}
end L2
namespace L2
open PySem PySem.Spec PyProof.Rows PySem.Builtin.Str
variable {X:Cx}
end L2
namespace L2
open PySem PySem.Spec PyProof.Rows
structure Wr (p:Prop):Prop where
 un:p
section
variable {X:Cx} {e:Expr} {es:List Expr} {te:TE} {t:TA} {pos:Pos} {a b:Expr} {ta tb:TE}
theorem w_str {x:Str} {j:Nat}:Wr (PE X (.Constant (.str x) j pos) (tC (.str x))):=⟨pe_str⟩
theorem w_int {i:Int} {j:Nat}:Wr (PE X (.Constant (.int i) j pos) (tC (.int i))):=⟨pe_int⟩
theorem w_op {op:Operator} {r:R2} (ho:OpR X (binaryOp op) r) (ha:Wr (PE X a ta)) (hb:Wr (PE X b tb)):Wr (PE X (.BinOp a op b pos) (tOp r ta tb)):=⟨pe_op ho ha.un hb.un⟩
theorem w_nil:Wr (PA X [] tNil):=⟨pa_nil⟩
theorem w_cons (ha:Wr (PE X e te)) (hr:Wr (PA X es t)) (hs:starEach (e :: es) X.env=(false,eval e X.env) :: starEach es X.env:=by rfl):Wr (PA X (e :: es) (tCons te t)):=⟨pa_cons ha.un hr.un hs⟩
theorem w_lst (h:Wr (PA X es t)):Wr (PE X (.List es pos) (tLst t)):=⟨pe_lst h.un⟩
theorem w_set {i:Nat} {x:Str} {pos':Pos} (hN:X.N.Nodup) (hi:X.N[i]?=some x) (hx:Loc X.env.scope x) (he:Wr (PE X e te)) (hs:swapsWith e (some (.Name x pos')) pos.line X.env=pure false:=by rfl) (hf:X.fn x=true∨X.env.scope.names.lookup x=some .local:=by first | exact .inl rfl | exact .inr rfl | assumption) :
  Wr (PS X (.Assign [.Name x pos'] e pos) (tAsg te (gName i))):=⟨ps_set hN hi hx he.un hs hf⟩
theorem wss_cons {st:Stmt} {rest:List Stmt} {t u:TS} (h1:Wr (PS X st t)) (h2:Wr (PSs X rest u)):Wr (PSs X (st :: rest) (tSeq t u)):=⟨pss_cons h1.un h2.un⟩
theorem wss_one {st:Stmt} {t:TS} (h1:Wr (PS X st t)):Wr (PSs X [st] t):=⟨pss_one h1.un⟩
end
section
variable {P:Program} {w:World} {K:PySem.W.Frag} {mg:Str→Option Value} {base:Heap}
theorem Fun.okW {x qual:Str} {st:Stmt} {f:Addr} {fd:FuncData} {N ps:List Str} {k:Nat} {sp:Sp} (F:Fun K x qual st f fd) (S:FnScope N ps (defScope st)) (len:∀ vs H Q E,sp vs H Q E→vs.length=ps.length)
  (hb:∀ (cdv:Value) (A:Around) (outer:List Env) (s:Shared) (H:Hp) (vs:List V) (Q:VK) (E:XK),Room k (A.deeper (envOfC qual (defScope st) s.heap.objs.size f cdv))→sp vs H Q E →
   ∃ t,Wr (PSs (cxOf CX0 P w K mg base N qual (defScope st) f cdv A outer s H E).nox (defBody st) t)∧t { nx:=fun _ H'=>Q .non H',rt:=Q } (start N vs) H):FnOk P w K mg base CX0 (k + 1) f fd ps sp :=
 F.ok S len fun cdv A outer s H vs Q E hr h=>by
  obtain ⟨t,h1,q⟩:=hb cdv A outer s H vs Q E hr h
  exact ⟨t,h1.un,q⟩
end
end L2
namespace L2
open PySem PySem.Spec PyProof.Rows
variable {X:Cx}
end L2
namespace HT
open PySem PySem.Spec PyProof.Rows
section
variable {prog:Program} {w:World} {A:Around} {E:Value→Shared→Prop} {s:Shared}
end
end HT
namespace L2
open PySem PySem.Spec PyProof.Rows
variable {X:Cx}
end L2
namespace L2
open PySem PySem.Spec PyProof.Rows
theorem star_tup {es:List Expr} {k:Nat} {pos:Pos} {r:List Expr} {env:Env}:starEach (.Tuple es k pos :: r) env=(false,eval (.Tuple es k pos) env) :: starEach r env:=rfl
theorem w_tup {X:Cx} {es:List Expr} {t:TA} {k:Nat} {pos:Pos} (h:Wr (PA X es t)):Wr (PE X (.Tuple es k pos) (tTup t)):=⟨pe_tup h.un⟩
end L2
namespace L2
open PySem PySem.Spec PyProof.Rows
section
variable {X:Cx} {pos:Pos}
end
end L2
namespace L2
open PySem PySem.Spec PyProof.Rows
noncomputable def tEx0 (K:PySem.W.Frag) (C:Addr) (ts:TS) (D:Ends):XS:=fun cls dx σ H=>(∃ Ce bm,cls=.ref Ce∧XCls K Ce bm∧(Value.ref Ce :: bm).contains (.ref C)=true)∧ts D σ H
noncomputable def tTry0 (K:PySem.W.Frag) (C:Addr) (tb:XS→TS) (ts:TS):TS:=fun D σ H=>tb (tEx0 K C ts D) D σ H
section
variable {X:Cx} {x:Str} {C:Addr} {bw:List Value} {body suite:List Stmt} {b0:Stmt} {np hp pos:Pos} {tb:XS→TS} {ts:TS}
theorem ps_try0 (hg:Gl X x) (hm:X.mg x=some (.ref C)) (hC:XCls X.K C bw) (hst:X.stack=X.env :: X.outer) (hf:X.env.frame=some X.env.locals)
  (hb:∀ EX pins,PSs ((X.pinTo pins).raises EX) body (tb EX)) (hs:∀ e pins,PSs (X.suite (.ref e) pins) (b0 :: suite) ts) (hd:(x == ("__debug__":Str))=false:=by decide) :
  PS X (.Try body [.ExceptHandler (some (.Name x np)) none (b0 :: suite) hp] [] [] pos) (tTry0 X.K C tb ts):=by
 intro pins s σ H D I h
 have ok:=I.ok
 refine wpAny_Try_except (wpAny_mono (hb (tEx0 X.K C ts D) pins [] s σ H D (I.pinTo.wish _) h) (fun f s1 q=>?_) fun ev s1 q=>?_)
 ·have q':=SP.unpin q
  cases f with
  | next =>
   show wpAny _ _ (execs [] _) _ _ _
   exact (wpAny_execs_nil q':_)
  | _=>exact q'
 ·have q0:XIn (X.pinTo pins) (tEx0 X.K C ts D) ev s1:=q
  refine x_note (X:=X.pinTo pins) q0.frames hst hf q0 fun s2 q2=>x_flight (X:=X.pinTo pins) (.inl rfl) q2 fun s3 q3=>?_
  obtain ⟨e,cls,dx,σ1,H1,rfl,I1,oe,ht,hE⟩:=id q3
  obtain ⟨⟨Ce,bm,rfl,hCe,hmro⟩,hgo⟩:=hE
  obtain ⟨hbB,nm',q',N',bs',hdct',sn',sub',ab',col',dd',l0,l1,l2,l3,l5,newId',lkW⟩:=hC
  obtain ⟨hbC,nm,qn,N,bs,hdct,sn,sub,ab,col,dd,k0,k1,k2,k3,k5,newId,lkC⟩:=hCe
  have ge:∃ oe,s3.heap.get? e=some oe∧oe.cls=.ref Ce:=by
   rcases ht with ⟨_,ob,vs,g1,g2,_⟩ | ⟨T,fl,⟨ob,vs,g1,g2,_⟩,_⟩
   ·exact ⟨ob,g1,g2⟩
   ·exact ⟨ob,g1,g2⟩
  obtain ⟨ob,ge,gc⟩:=ge
  have gW:=I1.kIn C _ lkW
  have gC:=I1.kIn Ce _ lkC
  refine wpAny_handleBy_cons (codeAny_handlers_test (ld_glob (X:=X.suite (.ref e) pins) (I1.insuite (X:=X) (ev:=.ref e)) hg hm ?_ hd)) (by intro z; cases z)
  obtain ⟨h3,g3,d3,t3,os3⟩:=s3
  refine exc_matches gC gW ge gc hbB hmro ?_
  refine codeAny_handlers_suite (x_flight (X:=X.pinTo pins) (.inl rfl) q3 fun s4 q4=>?_)
  obtain ⟨e',cls4,dx4,σ4,H4,ee,I4,oe4,ht4,hE4⟩:=q4
  cases ee
  obtain ⟨_,hgo4⟩:=hE4
  refine wpAny_mono (hs e pins [] s4 _ _ _ (I4.insuite (X:=X) (ev:=.ref e)) hgo4) (fun f s6 q6=>?_) fun _ _ z=>z.elim
  match f,q6 with
  | .next,⟨σ6,H6,I6,z⟩=>exact ⟨_,H6,(I6.outsuite ok).unpinTo,z⟩
  | .brk,⟨σ6,H6,I6,z⟩=>exact ⟨_,H6,(I6.outsuite ok).unpinTo,z⟩
  | .cont,⟨σ6,H6,I6,z⟩=>exact ⟨_,H6,(I6.outsuite ok).unpinTo,z⟩
  | .ret u,⟨v,σ6,H6,I6,r,z⟩=>exact ⟨v,_,H6,(I6.outsuite ok).unpinTo,r,z⟩
end
end L2
namespace L2
open PySem PySem.Spec PyProof.Rows
section
variable {prog:Program} {w:World} {A:Around} {E:Value→Shared→Prop} {s:Shared}
theorem TupI.keep {h h':Heap} {v:Value} {ns:List Int} {a:Addr} {n:Nat} {us:Array Value} (t:TupI h v ns) (ho:h.get? a=some (seqObj "list" us n)) (k:∀ b o,b≠a→h.get? b=some o→h'.get? b=some o):TupI h' v ns:=by
 obtain ⟨b,ws,e,⟨o,e1,e2,e3⟩,i⟩:=t
 refine ⟨b,ws,e,⟨o,k b o (fun z=>?_) e1,e2,e3⟩,i⟩
 subst z
 rw [ho] at e1
 cases e1
 have e4:Value.type "list"=Value.type "tuple":=e2
 injection e4 with e5
 exact absurd e5 (by decide)
theorem list_sort_tup {a:Addr} {vs:List Value} {f:Value→List Int} {n:Nat} {P:PySem.Fin→Shared→Prop} (ho:s.heap.get? a=some (seqObj "list" vs.toArray n))
  (hk:∀ v∈vs,TupI s.heap v (f v)∧f v≠[]) (h64:vs.length < 64)
  (h:∀ (arr:Array Keyed),arr.toList.Perm (vs.zip vs)→Up (O:=lxO) (fk (O:=lxO) (fun p=>keyAt s.heap p.1) ([]:List Int) arr) arr.size→P (.done (.ret .none)) { s with heap:=sortedHeap s.heap a vs (arr.map (·.2)) }) :
  wpAny (model prog w) A (Builtin.«list.sort» ⟨[.ref a],[]⟩) P E s:=by
 rw [list_sort_plain]
 have ha:a < s.heap.objs.size:=Heap.lt_size ho
 refine wpAny_bind (listItems_at ho rfl ?_)
 refine wpAny_bind (listUpdate_at ho rfl ?_)
 obtain ⟨e1,ho1⟩:∃ e1,(s.heap.update a (Obj.mapSeq fun _=>#[])).get? a=some (seqObj "list" #[] e1):=⟨_,get?_update_seq ho (fun _=>#[])⟩
 refine wpAny_bind (seqEpoch_at ho1 rfl ?_)
 refine wpAny_bind (wpAny_newTuple ?_)
 refine wpAny_bind (wpAny_newList ?_)
 refine wpAny_holding ?_
 have ho6:(((s.heap.update a (Obj.mapSeq fun _=>#[])).push (seqObj "tuple" vs.toArray 0)).push (seqObj "list" #[] 0)).get? a=some (seqObj "list" #[] e1):=by
  rw [Heap.get?_push_ne _ _ _ (by rw [size_push',Heap.size_update]; exact Nat.ne_of_lt (Nat.lt_succ_of_lt ha)),Heap.get?_push_ne _ _ _ (by rw [Heap.size_update]; exact Nat.ne_of_lt ha)]
  exact ho1
 have kp:∀ b o,b≠a→s.heap.get? b=some o→(((s.heap.update a (Obj.mapSeq fun _=>#[])).push (seqObj "tuple" vs.toArray 0)).push (seqObj "list" #[] 0)).get? b=some o:=fun b o hb e =>
  Heap.get?_push_of_some _ (Heap.get?_push_of_some _ ((Heap.get?_update_other _ _ (Ne.symm hb)).trans e))
 show wpAny (model prog w) A _ P E { s with heap:=((s.heap.update a (Obj.mapSeq fun _=>#[])).push (seqObj "tuple" vs.toArray 0)).push (seqObj "list" #[] 0) }
 dsimp only
 have hsz:vs.toArray.size=vs.length:=by simp
 have a0:(vs.toArray.zip vs.toArray).toList=vs.zip vs:=by simp
 have z0:(vs.toArray.zip vs.toArray).size=vs.length:=by simp
 generalize hg6:((s.heap.update a (Obj.mapSeq fun _=>#[])).push (seqObj "tuple" vs.toArray 0)).push (seqObj "list" #[] 0)=g6 at ho6 kp ⊢
 have hk6:∀ v∈vs,TupI g6 v (f v)∧f v≠[]:=fun v hv=>⟨(hk v hv).1.keep ho kp,(hk v hv).2⟩
 have same:∀ (arr:Array Keyed),arr.toList.Perm (vs.zip vs)→fk (O:=lxO) (fun p=>keyAt g6 p.1) ([]:List Int) arr=fk (O:=lxO) (fun p=>keyAt s.heap p.1) ([]:List Int) arr:=fun arr hp=>by
  funext i
  unfold fk
  cases e:arr[i]? with
  | none=>rfl
  | some p =>
   have hm:p∈vs.zip vs:=hp.mem_iff.mp (by
    have:p∈arr:=Array.mem_of_getElem? e
    exact Array.mem_toList_iff.mpr this)
   have hm1:p.1∈vs:=(List.of_mem_zip (show (p.1,p.2)∈vs.zip vs from hm)).1
   show keyAt g6 p.1=keyAt s.heap p.1
   rw [keyAt_eq (hk6 _ hm1).1,keyAt_eq (hk _ hm1).1]
 by_cases h2:vs.toArray.size < 2
 ·rw [if_pos h2,if_pos h2]
  refine wpAny_bind (wpAny_pure ?_)
  rw [StateT.run_pure]
  refine wpAny_bind (wpAny_pure ?_)
  dsimp only
  refine wpAny_bind (seqEpoch_at ho6 rfl ?_)
  refine wpAny_bind (listUpdate_at ho6 rfl ?_ (hsz2:=by rw [Array.size_map]; show (vs.toArray.zip vs.toArray).size≤_; rw [z0,sizeLine_eq]; lia))
  simp only [bne_self_eq_false,Bool.false_eq_true,if_false]
  refine wpAny_pure ?_
  have:=h (vs.toArray.zip vs.toArray) (by rw [a0]) (fun i j hij hj=>by
   have:i=j:=by rw [z0] at hj; lia
   subst this; exact KeyOrd.kle_refl _)
  unfold sortedHeap at this
  rw [hg6] at this
  exact this
 ·rw [if_neg h2,if_neg h2]
  refine wpAny_bind (kind_tup (s:={ s with heap:=g6 }) (f:=f) (fun v hv=>hk6 v (by simpa using hv)) fun b=>?_)
  have hk0:∀ p∈(vs.toArray.zip vs.toArray).toList,∃ ns,TupI ({ s with heap:=g6 }:Shared).heap p.1 ns:=fun p hp=>by
   rw [a0] at hp
   exact ⟨_,(hk6 p.1 (List.of_mem_zip (show (p.1,p.2)∈vs.zip vs from hp)).1).1⟩
  refine wpAny_bind (wpAny_mono (srt_runs (srt_tup (s:={ s with heap:=g6 }) b hk0) (by rw [z0]; rw [hsz] at h2; lia) (by rw [z0]; exact h64) (st:=SortSt.mk' (tupKind b) (vs.toArray.zip vs.toArray) #[] 7 none) ⟨rfl,Array.Perm.refl _,rfl,rfl⟩ (Q:=fun _ st=>(arrOf st).Perm (vs.toArray.zip vs.toArray)∧failedOf st=none∧Up (O:=lxO) (fk (O:=lxO) (fun p=>keyAt g6 p.1) ([]:List Int) (arrOf st)) (vs.toArray.zip vs.toArray).size) fun st' a b c=>⟨a,b,c⟩) ?_ fun _ _ e=>e)
  rintro ⟨⟨⟩,st⟩ s' ⟨es,hp,hf,up⟩
  have es2:=es.symm
  subst es2
  dsimp only
  have hp':(arrOf st).toList.Perm (vs.zip vs):=by rw [← a0]; exact Array.perm_iff_toList_perm.mp hp
  refine wpAny_bind (seqEpoch_at ho6 rfl ?_)
  refine wpAny_bind (listUpdate_at ho6 rfl ?_ (hsz2:=by rw [Array.size_map,hp.size_eq,z0,sizeLine_eq]; lia))
  rw [hf]
  simp only [bne_self_eq_false,Bool.false_eq_true,if_false]
  refine wpAny_pure ?_
  rw [same _ hp',← hp.size_eq] at up
  have:=h (arrOf st) hp' up
  unfold sortedHeap at this
  rw [hg6] at this
  exact this
theorem sorted_tups {l:Addr} {vs:List Value} {f:Value→List Int} {Q:Value→Shared→Prop} (hl:s.heap.IsList l vs.toArray) (hk:∀ v∈vs,TupI s.heap v (f v)∧f v≠[]) (h64:vs.length < 64)
  (h:∀ (arr:Array Keyed),arr.toList.Perm (vs.zip vs)→Up (O:=lxO) (fk (O:=lxO) (fun p=>f p.1) ([]:List Int) arr) arr.size→Q (.ref (s.heap.objs.size + 1)) { s with heap:=sortedAll s.heap vs (arr.map (·.2)) }) :
  wpAny (model prog w) A (call (.builtin "sorted") [.ref l]) Q E s:=by
 refine Calls.call_function_entry kind_sorted plain_sorted entry_sorted (args_sorted1 _) ?_
 unfold Builtin.«sorted»
 refine wpAny_bind (m:=checkCount "sorted" 1 1 _) (wpAny_pure ?_)
 refine wpAny_bind (collect_list hl ?_)
 refine wpAny_bind (wpAny_newList ?_)
 have hsz:((s.heap.push (seqObj "list" #[] 0)).update s.heap.objs.size (Obj.mapSeq (·++vs.toArray))).objs.size=s.heap.objs.size + 1:=by
  rw [Heap.size_update,size_push']
 have hoL:(((s.heap.push (seqObj "list" #[] 0)).update s.heap.objs.size (Obj.mapSeq (·++vs.toArray))).push (seqObj "list" vs.toArray 0)).get? (s.heap.objs.size + 1)=some (seqObj "list" vs.toArray 0):=by
  rw [← hsz]; exact Heap.get?_push_size _ rfl
 show wpAny _ _ _ _ _ { s with heap:=((s.heap.push (seqObj "list" #[] 0)).update s.heap.objs.size (Obj.mapSeq (·++vs.toArray))).push (seqObj "list" vs.toArray 0) }
 rw [hsz]
 have kp:∀ b o,s.heap.get? b=some o→(((s.heap.push (seqObj "list" #[] 0)).update s.heap.objs.size (Obj.mapSeq (·++vs.toArray))).push (seqObj "list" vs.toArray 0)).get? b=some o:=fun b o e =>
  Heap.get?_push_of_some _ ((Heap.get?_update_other _ _ (Nat.ne_of_gt (Heap.lt_size e))).trans (Heap.get?_push_of_some _ e))
 have hk2:∀ v∈vs,TupI (((s.heap.push (seqObj "list" #[] 0)).update s.heap.objs.size (Obj.mapSeq (·++vs.toArray))).push (seqObj "list" vs.toArray 0)) v (f v)∧f v≠[]:=fun v hv=>by
  obtain ⟨⟨b,ws,e,⟨o,e1,e2,e3⟩,i⟩,hn⟩:=hk v hv
  exact ⟨⟨b,ws,e,⟨o,kp b o e1,e2,e3⟩,i⟩,hn⟩
 refine wpAny_bind (wpAny_holding (wpAny_call_entry slot_list_sort ⟨_,hoL,rfl⟩ entry_list_sort (list_sort_tup (f:=f) hoL hk2 h64 fun arr hp up=>⟨_,rfl,?_⟩) (args_list_sort _)))
 refine wpAny_pure ⟨_,rfl,h arr hp ?_⟩
 have e:fk (O:=lxO) (fun p=>f p.1) ([]:List Int) arr=fk (O:=lxO) (fun p=>keyAt (((s.heap.push (seqObj "list" #[] 0)).update s.heap.objs.size (Obj.mapSeq (·++vs.toArray))).push (seqObj "list" vs.toArray 0)) p.1) ([]:List Int) arr:=by
  funext i
  unfold fk
  cases e:arr[i]? with
  | none=>rfl
  | some p =>
   have hm:p∈vs.zip vs:=hp.mem_iff.mp (Array.mem_toList_iff.mpr (Array.mem_of_getElem? e))
   have hm1:p.1∈vs:=(List.of_mem_zip (show (p.1,p.2)∈vs.zip vs from hm)).1
   show f p.1=keyAt _ p.1
   rw [keyAt_eq (hk2 _ hm1).1]
 rw [e]
 exact up
end
section
variable {X:Cx}
theorem refs_of {xs:List V} (h:∀ x∈xs,∃ t,x=.ref t):∃ ts:List Addr,xs=ts.map V.ref:=by
 induction xs with
 | nil=>exact ⟨[],rfl⟩
 | cons x r ih =>
  obtain ⟨t,rfl⟩:=h x (List.mem_cons_self ..)
  obtain ⟨ts,rfl⟩:=ih fun y hy=>h y (List.mem_cons_of_mem _ hy)
  exact ⟨t :: ts,rfl⟩
theorem call_sortT:CallR X (.builtin "sorted") (fun vs H Q=>∃ (l:Addr) (xs:List V) (key:V→List Int),vs=[.ref l]∧H l=some (.lst xs)∧xs.length < 64∧(∀ x∈xs,key x≠[]∧∃ t,x=.ref t∧H t=some (.tup ((key x).map V.int))) ∧
  ∀ (p:Addr) (ys:List V) (H':Hp),Same H H'→H' p=some (.lst ys)→ys.Perm xs→ys.Pairwise (fun a b=>lx (key b) (key a)=false)→Q (.ref p) H'):=by
 intro pins s σ H vs us Q I r h
 obtain ⟨l,xs,key,rfl,hl,h64,hk,q⟩:=h
 obtain ⟨u,rfl,rx⟩:=vals1 r
 cases rx
 obtain ⟨its,rv,pl,hz⟩:=I.list (SqL.of hl)
 obtain ⟨ts,rfl⟩:=refs_of (xs:=xs) fun x hx=>let ⟨_,t,e,_⟩:=hk x hx; ⟨t,e⟩
 have ei:=vals_refs rv
 subst ei
 rw [List.length_map] at h64
 have hkT:∀ t∈ts,TupI s.heap (.ref t) (key (.ref t))∧key (.ref t)≠[]:=fun t ht=>by
  obtain ⟨hne,t',e,ht'⟩:=hk (.ref t) (List.mem_map_of_mem ht)
  cases e
  obtain ⟨us',r',p',_⟩:=I.tuple (SqT.of ht')
  exact ⟨⟨t,us',rfl,p',intsAre_of r'⟩,hne⟩
 refine sorted_tups (f:=fun v=>match v with | .ref t=>key (.ref t) | _=>[]) pl.isList (fun v hv=>?_) (by rw [List.length_map]; exact h64) fun arr hp up=>?_
 ·obtain ⟨t,ht,rfl⟩:=List.mem_map.mp hv
  exact hkT t ht
 have pr:Paired (fun (t:Addr) (x:V)=>t∈ts∧x=.ref t) ts (ts.map V.ref):=by
  have:∀ l:List Addr,(∀ t∈l,t∈ts)→Paired (fun (t:Addr) (x:V)=>t∈ts∧x=.ref t) l (l.map V.ref):=by
   intro l
   induction l with
   | nil=>intro _; exact .nil
   | cons a b ih=>intro h; exact .cons ⟨h a (List.mem_cons_self ..),rfl⟩ (ih fun t ht=>h t (List.mem_cons_of_mem _ ht))
  exact this ts fun t ht=>ht
 obtain ⟨z1,z2,z3⟩:=zip3 pr rv
 have hT:∀ p∈((ts.map Value.ref).zip (ts.map Value.ref)).zip (ts.map V.ref),RelV p.2 p.1.2∧TupI s.heap p.1.1 (key p.2):=fun p hp=>by
  obtain ⟨a1,t,e,hm,ex⟩:=z3 p hp
  rw [e,ex]
  exact ⟨ex ▸ a1,(hkT t hm).1⟩
 have e:fk (O:=lxO) (fun p=>match p.1 with | .ref t=>key (.ref t) | _=>[]) ([]:List Int) arr=fk (O:=lxO) (fun p=>keyAt s.heap p.1) ([]:List Int) arr:=by
  funext i
  unfold fk
  cases e:arr[i]? with
  | none=>rfl
  | some p =>
   have hm:p∈(ts.map Value.ref).zip (ts.map Value.ref):=hp.mem_iff.mp (Array.mem_toList_iff.mpr (Array.mem_of_getElem? e))
   have hm1:p.1∈ts.map Value.ref:=(List.of_mem_zip (show (p.1,p.2)∈_ from hm)).1
   obtain ⟨t,ht,et⟩:=List.mem_map.mp hm1
   show (match p.1 with | .ref t=>key (.ref t) | _=>[])=keyAt s.heap p.1
   rw [← et,keyAt_eq (hkT t ht).1]
 obtain ⟨ys,py,vy,wy⟩:=order_out (h:=s.heap) (T:=((ts.map Value.ref).zip (ts.map Value.ref)).zip (ts.map V.ref)) (a:=arr) (key:=key) (by rw [z1]; exact hp) hT (by rw [← e]; exact up)
 rw [z2] at py
 obtain ⟨ep,at1⟩:=sortedAll_at s.heap (ts.map Value.ref) (arr.map (·.2))
 have hf:H (s.heap.objs.size + 1)=none:=I.hok.fresh (Nat.le_succ _)
 have lys:ys.length=ts.length:=by have:=py.length_eq; rw [List.length_map] at this; exact this
 refine ⟨.ref (s.heap.objs.size + 1),upd H (s.heap.objs.size + 1) (.lst ys),I.laid (t':=s.toks) (fun b o e=>sortedAll_old e) (Nat.le_succ _) ⟨by rw [lys,sizeLine_eq]; lia,arr.toList.map (·.2),ep,vy,?_⟩,rfl,q _ ys _ (fun b o e=>by rw [upd_ne (ne_of_none e hf)]; exact e) upd_same py wy⟩
 rw [at1]
 show some (seqObj "list" _ ep)=some (seqObj "list" _ ep)
 congr 2
 apply Array.toList_inj.mp
 simp
theorem range_get (bs:List Bool):(List.range bs.length).map (fun i=>bs.getD i false)=bs:=by
 apply List.ext_getElem?
 intro i
 rw [List.getElem?_map]
 by_cases h:i < bs.length
 ·rw [List.getElem?_range h,List.getElem?_eq_getElem h]
  show some (bs.getD i false)=_
  rw [List.getD_eq_getElem?_getD,List.getElem?_eq_getElem h]; rfl
 ·rw [List.getElem?_eq_none (by simpa using h),List.getElem?_eq_none (by lia)]; rfl
theorem range_all (bs:List Bool):(List.range bs.length).all (fun i=>bs.getD i false)=bs.all id:=by
 have:=congrArg (fun l=>List.all l id) (range_get bs)
 rw [List.all_map] at this
 exact this
theorem range_any (bs:List Bool):(List.range bs.length).any (fun i=>bs.getD i false)=bs.any id:=by
 have:=congrArg (fun l=>List.any l id) (range_get bs)
 rw [List.any_map] at this
 exact this
theorem bools_walk {pins:List (Addr×Obj)} {σ:St} {H:Hp} {s:Shared} {E:Value→Shared→Prop} {p:Addr} {bs:List Bool} (hc:X.calm=true) (I:Inv X pins σ H s) (hS:SqL X.K H p (bs.map V.bl)) {R:Value→Shared→Prop}
  (h:∀ (J:Addr) (St:Nat→Heap→Prop) (s2:Shared) (fp wr:List Addr) (its:Array Value),its.size=bs.length→Walks X.prog X.w X.A.in1 J fp wr its.size (fun i v=>its[i]?=some v) St→St 0 s2.heap→(∀ (i:Nat) (v:Value),its[i]?=some v→v=Value.bool (bs.getD i false)) →
   (∀ h' tk,(∀ b o,b ∉ wr→s2.heap.get? b=some o→h'.get? b=some o)→Inv X pins σ H { s2 with heap:=h',toks:=tk })→R (.ref J) s2):wpAny (model X.prog X.w) X.A.in1 (pyIter (.ref p)) R E s:=by
 obtain ⟨its,rv,pl,hz⟩:=I.list hS
 have hl:=pl.isList
 have hlt:p < s.heap.objs.size:=by obtain ⟨_,e,_⟩:=hl; exact Heap.lt_size e
 have len:=rv.length
 rw [List.length_map] at len
 refine wpAny_pyIter_list hl (h _ _ _ _ _ its.toArray (by simp; lia) (Walks.list (A:=X.A.in1) (I.ok.hd hc) s.heap.objs.size p (Nat.ne_of_lt hlt) its.toArray) ⟨⟨_,Heap.get?_push_size _ rfl,rfl,rfl⟩,hl.push _⟩ (fun i v hv=>?_) fun h' tk hk=>?_)
 ·have hv':its[i]?=some v:=by simpa using hv
  have hi:i < bs.length:=by rw [len]; exact (List.getElem?_eq_some_iff.mp hv').1
  obtain ⟨u,e1,r1⟩:=rv.get (i:=i) (x:=.bl (bs.getD i false)) (by rw [List.getElem?_map,List.getD_eq_getElem?_getD,List.getElem?_eq_getElem hi]; rfl)
  rw [hv'] at e1
  cases e1
  exact r1
 ·exact I.kept fun b o e=>hk b o (fun z=>absurd (Heap.lt_size e) (by rw [List.mem_singleton.mp z]; exact Nat.lt_irrefl _)) (Heap.get?_push_of_some _ e)
theorem call_allL (hc:X.calm=true):CallR X (.builtin "all") (fun xs H Q=>∃ (p:Addr) (bs:List Bool),xs=[.ref p]∧SqL X.K H p (bs.map V.bl)∧Q (.bl (bs.all id)) H):=by
 intro pins s σ H xs us Q I r h
 obtain ⟨p,bs,rfl,hS,q⟩:=h
 obtain ⟨u,rfl,rx⟩:=vals1 r
 cases rx
 refine call_all_walk (bools_walk hc I hS fun J St s2 fp wr its hsz W st hv hI=>⟨J,fp,wr,_,_,St,fun i=>bs.getD i false,rfl,W,st,fun i v s3 Q3 E3 hP hQ=>?_,fun h' tk hk=>⟨.bl _,H,hI h' tk hk,rfl,?_⟩⟩)
 ·rw [hv i v hP]
  exact wpAny_truthy_bool hQ
 ·rw [hsz,range_all]; exact q
theorem call_anyL (hc:X.calm=true):CallR X (.builtin "any") (fun xs H Q=>∃ (p:Addr) (bs:List Bool),xs=[.ref p]∧SqL X.K H p (bs.map V.bl)∧Q (.bl (bs.any id)) H):=by
 intro pins s σ H xs us Q I r h
 obtain ⟨p,bs,rfl,hS,q⟩:=h
 obtain ⟨u,rfl,rx⟩:=vals1 r
 cases rx
 refine call_any_walk (bools_walk hc I hS fun J St s2 fp wr its hsz W st hv hI=>⟨J,fp,wr,_,_,St,fun i=>bs.getD i false,rfl,W,st,fun i v s3 Q3 E3 hP hQ=>?_,fun h' tk hk=>⟨.bl _,H,hI h' tk hk,rfl,?_⟩⟩)
 ·rw [hv i v hP]
  exact wpAny_truthy_bool hQ
 ·rw [hsz,range_any]; exact q
theorem bt_all:bootBuiltins "all"=some (.builtin "all"):=by decide +kernel
theorem bt_any:bootBuiltins "any"=some (.builtin "any"):=by decide +kernel
end
end L2
namespace L2
open PySem PySem.Spec PyProof.Rows
section
variable {X:Cx} {es:List Expr} {kk:Nat} {tpos:Pos}
end
end L2
namespace L2
open PySem PySem.Spec PyProof.Rows
end L2
namespace Law
open PySem L2
noncomputable def top (i:Nat):Stmt:=PySem.Challenge.pw_ledtowish_k09_forms_let.main.body.getD i (.Pass ⟨0,0,0,0⟩)
end Law
namespace Law
open PySem L2
section
variable {P:Program} {w:World} {K:PySem.W.Frag} {mg:Str→Option Value} {base:Heap}
noncomputable def spRank:Sp:=fun vs H Q _=>∃ (v:V) (d:D),vs=[v]∧Dat H d v∧AF d∧∀ H',Same H H'→Q (.int (rk d)) H'
noncomputable abbrev s_law_rank:Stmt:=top 40
theorem sc_law_rank:FnScope ["form"] ["form"] (defScope s_law_rank):=⟨rfl,rfl,rfl,by decide +kernel,rfl,by decide +kernel,by decide +kernel⟩
theorem ok_rank {f:Addr} {fd:FuncData} (F:Fun K "_law_rank" "_law_rank" s_law_rank f fd) (B:Blt mg):FnOk P w K mg base CX0 1 f fd ["form"] spRank:=by
 refine F.ok sc_law_rank (fun vs H Q E h=>?_) (fun cdv A outer s H vs Q E hr h=>?_)
 ·obtain ⟨v,d,rfl,_⟩:=h
  rfl
 obtain ⟨v,d,rfl,hd,hF,q⟩:=h
 refine ⟨_,(pss_cons (ps_if (pt_val (pe_isin B.isinstance B.int bt_int (pv 0))) (pss_one (ps_ret pe_int)) pss_nil)
   (pss_one (ps_ret (pe_bm PySem.F.plainAttrs_list PySem.F.slot_list_index PySem.F.type_list_index mt_index (pe_lst (pa_cons pe_str (pa_cons pe_str (pa_cons pe_str pa_nil)))) (pa_cons (pe_ix ix_tup (pv 0) pe_int (fun _ _=>rfl)) pa_nil))))),?_⟩
 cases hF with
 | @num i g0 g1 =>
  have:=hd.intE
  subst this
  refine ⟨_,rfl,_,_,TyOf.int _,kit_int_int _,_,rfl,iteT ?_⟩
  exact q H (Same.refl H)
 | @grp k more off hk g1 g2 =>
  obtain ⟨p,pm,po,xm,xo,rfl,hp,_⟩:=dat_grpA hd
  refine ⟨_,rfl,_,_,TyOf.tup hp,kit_tup_int _,_,rfl,iteF ?_⟩
  refine ⟨(by show 3≤sizeLine; decide),fun pl hpl=>?_⟩
  refine ⟨.inl ⟨rfl,_,SqL.of upd_same⟩,_,rfl,p,_,_,_,rfl,rfl,SqT.of (Same.new hpl _ _ hp),atI_nat (j:=0) rfl,?_⟩
  rcases hk with rfl | rfl
  ·exact ⟨pl,_,.str "sum",1,rfl,rfl,SqL.of upd_same,rfl,rfl,⟨_,rfl,by simp [eqV]⟩,(fun m z hm hz=>by match m,hm,hz with | 0,_,hz=>cases hz; decide +kernel),q _ (Same.new hpl)⟩
  ·exact ⟨pl,_,.str "product",2,rfl,rfl,SqL.of upd_same,rfl,rfl,⟨_,rfl,by simp [eqV]⟩,(fun m z hm hz=>by match m,hm,hz with | 0,_,hz=>cases hz; decide +kernel | 1,_,hz=>cases hz; decide +kernel),q _ (Same.new hpl)⟩
theorem form_row {H:Hp} {k:Str} {more off:List D} {v:V} (h:Dat H (.tup [.str k,.tup more,.tup off]) v) (g1:∀ x∈more,AF x) (g2:∀ x∈off,AF x) :
  ∃ (p:Addr) (ys:List V),v=.ref p∧H p=some (.tup ys)∧∀ kk:Int,(kk=1∨kk=2)→∃ (pt:Addr) (xs:List V),atI ys kk=some (.ref pt)∧H pt=some (.tup xs)∧Dats H (rwk kk more off) xs∧∀ x∈rwk kk more off,AF x∧x.dep + 2≤(D.tup [.str k,.tup more,.tup off]).dep:=by
 obtain ⟨p,pm,po,xm,xo,rfl,hp,hpm,hpo,d1,d2⟩:=dat_grpA h
 refine ⟨p,_,rfl,hp,fun kk hk=>?_⟩
 have dg:=dep_grpA k more off
 rcases hk with rfl | rfl
 ·refine ⟨pm,_,rfl,hpm,d1,fun x (hx:x∈more)=>⟨?_,?_⟩⟩
  ·exact g1 x hx
  ·have:=deps_mem hx; lia
 ·refine ⟨po,_,rfl,hpo,d2,fun x (hx:x∈off)=>⟨g2 x hx,?_⟩⟩
  have:=deps_mem hx; lia
noncomputable def spCmp (n:Nat):Sp:=fun vs H Q _=>∃ (v u:V) (d e:D),vs=[v,u]∧Dat H d v∧Dat H e u∧AF d∧AF e∧d.dep < n∧∀ (r:Int) (H':Hp),Same H H'→CR r d e→Q (.int r) H'
noncomputable abbrev s_law_compared:Stmt:=top 41
theorem sc_law_compared:FnScope ["one","other","k","part","beside"] ["one","other"] (defScope s_law_compared):=⟨rfl,rfl,rfl,by decide +kernel,rfl,by decide +kernel,by decide +kernel⟩
theorem ok_cmp_step {n:Nat} {f:Addr} {fd:FuncData} (F:Fun K "_law_compared" "_law_compared" s_law_compared f fd) (B:Blt mg) (Grank:Def P w K mg base CX0 1 "_law_rank" spRank) (Gcmp:Def P w K mg base CX0 (n + 1) "_law_compared" (spCmp n)):FnOk P w K mg base CX0 (n + 2) f fd ["one","other"] (spCmp (n + 1)):=by
 refine F.ok sc_law_compared (fun vs H Q E h=>?_) (fun cdv A outer s H vs Q E hr h=>?_)
 ·obtain ⟨v,u,d,e,rfl,_⟩:=h
  rfl
 obtain ⟨v,u,d,e,rfl,hd,he,hF,hE,hn,q⟩:=h
 have ds:∀ {H':Hp},Same H H'→Dat H' d v:=fun s=>Dat.kt (KT.same s) _ hd
 have es:∀ {H':Hp},Same H H'→Dat H' e u:=fun s=>Dat.kt (KT.same s) _ he
 have two:∀ (b:Bool),atI [V.int 1,V.int (-1)] (if b=true then 1 else 0)=some (V.int (if b=true then -1 else 1)):=fun b=>by cases b <;> rfl
 refine ⟨_,(pss_cons (ps_if (pt_cmpR op_ne (pe_def Grank (hr.mono (by lia)) (pa_cons (pv 0) pa_nil)) (pe_def Grank (hr.mono (by lia)) (pa_cons (pv 1) pa_nil)) (nomark _)) (pss_one (ps_ret (pe_ix ix_list (pe_lst (pa_cons pe_int (pa_cons (pe_un un_neg pe_int) pa_nil))) (pe_callTy call_int1 rfl B.int bt_int (pa_cons (pe_cmpR op_lt (pe_def Grank (hr.mono (by lia)) (pa_cons (pv 0) pa_nil)) (pe_def Grank (hr.mono (by lia)) (pa_cons (pv 1) pa_nil)) (nomark _)) pa_nil)) (fun _ _=>rfl)))) pss_nil)
   (pss_cons (ps_if (pt_cmpR op_eq (pe_def Grank (hr.mono (by lia)) (pa_cons (pv 0) pa_nil)) pe_int (nomark _)) (pss_one (ps_ret (pe_op op_sub (pe_callTy call_int1 rfl B.int bt_int (pa_cons (pe_cmpR op_gt (pv 0) (pv 1) (nomark _)) pa_nil)) (pe_callTy call_int1 rfl B.int bt_int (pa_cons (pe_cmpR op_lt (pv 0) (pv 1) (nomark _)) pa_nil))))) pss_nil)
   (pss_cons (ps_for PassesOwn.never rfl (pi_list (pe_lst (pa_cons pe_int (pa_cons pe_int pa_nil)))) (pg_name (i:=2) sc_law_compared.nd rfl (by first | exact Or.inl rfl | exact Or.inr rfl)) (pss_cons (ps_for PassesOwn.never rfl (pi_zip B.zip (pa_cons (pe_ix ix_tup (pv 0) (pv 2) (fun _ _=>rfl)) (pa_cons (pe_ix ix_tup (pv 1) (pv 2) (fun _ _=>rfl)) pa_nil))) (pg_tup rfl (pgs_cons (pg_name (i:=3) sc_law_compared.nd rfl (by first | exact Or.inl rfl | exact Or.inr rfl)) (pgs_cons (pg_name (i:=4) sc_law_compared.nd rfl (by first | exact Or.inl rfl | exact Or.inr rfl)) pgs_nil))) (pss_one (ps_if (pt_cmpR op_ne (pe_def Gcmp (hr.mono (by lia)) (pa_cons (pv 3) (pa_cons (pv 4) pa_nil))) pe_int (nomark _)) (pss_one (ps_ret (pe_def Gcmp (hr.mono (by lia)) (pa_cons (pv 3) (pa_cons (pv 4) pa_nil))))) pss_nil)))
   (pss_one (ps_if (pt_cmpR op_ne (pe_callB call_len_seq rfl B.len bt_len (pa_cons (pe_ix ix_tup (pv 0) (pv 2) (fun _ _=>rfl)) pa_nil)) (pe_callB call_len_seq rfl B.len bt_len (pa_cons (pe_ix ix_tup (pv 1) (pv 2) (fun _ _=>rfl)) pa_nil)) (nomark _)) (pss_one (ps_ret (pe_ix ix_list (pe_lst (pa_cons pe_int (pa_cons (pe_un un_neg pe_int) pa_nil))) (pe_callTy call_int1 rfl B.int bt_int (pa_cons (pe_cmpR op_lt (pe_callB call_len_seq rfl B.len bt_len (pa_cons (pe_ix ix_tup (pv 0) (pv 2) (fun _ _=>rfl)) pa_nil)) (pe_callB call_len_seq rfl B.len bt_len (pa_cons (pe_ix ix_tup (pv 1) (pv 2) (fun _ _=>rfl)) pa_nil)) (nomark _)) pa_nil)) (fun _ _=>rfl)))) pss_nil))))
   (pss_one (ps_ret pe_int))))),?_⟩
 refine ⟨_,rfl,v,d,rfl,hd,hF,fun H1 s1=>⟨_,rfl,u,e,rfl,es s1,hE,fun H2 s2=>⟨rfl,_,rfl,?_⟩⟩⟩
 have S2:=s1.trans s2
 by_cases hrk:rk d=rk e
 ·rw [decide_eq_true (congrArg V.int hrk)]
  refine iteF ?_
  refine ⟨_,rfl,v,d,rfl,ds S2,hF,fun H3 s3=>⟨rfl,_,rfl,?_⟩⟩
  have S3:=S2.trans s3
  cases hF with
  | @num i g0 g1 =>
   have:=hd.intE
   subst this
   cases hE with
   | @grp k more off hk _ _=>exact absurd hrk.symm (rk_pos (k:=k))
   | @num j _ _ =>
    have:=he.intE
    subst this
    refine iteT ?_
    exact ⟨_,rfl,_,rfl,_,_,rfl,rfl,.inr ⟨_,rfl,_,rfl,_,rfl,_,_,rfl,rfl,.inr ⟨_,rfl,_,_,rfl,rfl,q _ _ S3 (num_cr _ _)⟩⟩⟩
  | @grp k more off hk g1 g2 =>
   rw [decide_eq_false (fun z=>rk_pos (k:=k) (V.int.inj z))]
   refine iteF ?_
   cases hE with
   | @num j _ _=>exact absurd hrk (rk_pos (k:=k))
   | @grp k' more' off' hk' g1' g2' =>
   have ek:=rk_same hk hk' hrk
   subst ek
   obtain ⟨p,ys,rfl,hp,rows⟩:=form_row hd g1 g2
   obtain ⟨p',ys',rfl,hp',rows'⟩:=form_row he g1' g2'
   refine ⟨(by show 2≤sizeLine; decide),fun pl hpl=>⟨pl,rfl,⟨_,SqL.of upd_same⟩,for_list (K:=K) (a:=pl) (xs:=[.int 1,.int 2]) (fun i σ H'=>∃ (o1 o2 o3:Option V),σ=[some (.ref p),some (.ref p'),o1,o2,o3]∧Same H H'∧H' pl=some (.lst [.int 1,.int 2])∧(1≤i→more=more')∧(2≤i→off=off')) ⟨none,none,none,rfl,S3.trans (Same.new hpl),upd_same,(fun z=>absurd z (by decide)),fun z=>absurd z (by decide)⟩ (fun i σ H' _ ⟨_,_,_,_,_,g,_⟩=>SqL.of g) ?_ ?_⟩⟩
   ·rintro i y σ H' hi ⟨o1,o2,o3,rfl,sH,gl,q1,q2⟩
    have hkk:∃ kk:Int,y=.int kk∧(kk=1∧i=0∨kk=2∧i=1):=by
     match i,hi with
     | 0,hi=>cases hi; exact ⟨1,rfl,.inl ⟨rfl,rfl⟩⟩
     | 1,hi=>cases hi; exact ⟨2,rfl,.inr ⟨rfl,rfl⟩⟩
    obtain ⟨kk,rfl,hki⟩:=hkk
    have hkk:kk=1∨kk=2:=hki.imp And.left And.left
    have hm:kk=2→more=more':=fun z=>by
     rcases hki with ⟨rfl,_⟩ | ⟨_,rfl⟩
     ·exact absurd z (by decide)
     ·exact q1 (Nat.le_refl _)
    obtain ⟨t1,xs1,a1,h1,D1,ok1⟩:=rows kk hkk
    obtain ⟨t2,xs2,a2,h2,D2,ok2⟩:=rows' kk hkk
    have L1:=D1.len
    have L2':=D2.len
    refine ⟨_,rfl,_,rfl,p,_,_,_,rfl,rfl,SqT.of (sH _ _ hp),a1,_,rfl,_,rfl,p',_,_,_,rfl,rfl,SqT.of (sH _ _ hp'),a2,?_⟩
    refine ⟨t1,t2,rfl,⟨_,SqT.of (sH _ _ h1)⟩,⟨_,SqT.of (sH _ _ h2)⟩,for_zip (K:=K) (xs:=xs1) (ys:=xs2) rfl (fun j σ H'=>∃ (o2 o3:Option V),σ=[some (.ref p),some (.ref p'),some (.int kk),o2,o3]∧Same H H'∧H' pl=some (.lst [.int 1,.int 2])∧(rwk kk more off).take j=(rwk kk more' off').take j) ⟨_,_,rfl,sH,gl,rfl⟩ (fun j σ H' _ ⟨_,_,_,g,_⟩=>⟨SqT.of (g _ _ h1),SqT.of (g _ _ h2)⟩) ?_ ?_⟩
    ·rintro j T x y σ H' hx hy ⟨o2,o3,rfl,sH,gl,tj⟩ hT
     obtain ⟨dx,ex,Dx⟩:=Dats.at D1 hx
     obtain ⟨dy,ey,Dy⟩:=Dats.at D2 hy
     have okx:=ok1 dx (List.mem_of_getElem? ex)
     have oky:=ok2 dy (List.mem_of_getElem? ey)
     have sT:Same H (upd H' T (.tup [x,y])):=sH.trans (Same.new hT)
     refine ⟨T,_,rfl,SqT.of upd_same,rfl,_,_,rfl,_,_,rfl,rfl,?_⟩
     refine ⟨_,rfl,_,rfl,x,y,dx,dy,rfl,Dat.kt (KT.same sT) _ Dx,Dat.kt (KT.same sT) _ Dy,okx.1,oky.1,by lia,fun r H5 s5 cr=>⟨rfl,_,rfl,?_⟩⟩
     have p1:=split_at ex
     have p2:=split_at ey
     rw [← tj] at p2
     by_cases r0:r=0
     ·rw [decide_eq_true (congrArg V.int r0)]
      exact iteF ⟨_,_,rfl,sT.trans s5,s5 _ _ (Same.new hT _ _ gl),take_next tj ex (by rw [ey,cr.eq r0])⟩
     ·rw [decide_eq_false (fun z=>r0 (V.int.inj z))]
      have sT5:=sT.trans s5
      exact iteT ⟨_,rfl,_,rfl,x,y,dx,dy,rfl,Dat.kt (KT.same sT5) _ Dx,Dat.kt (KT.same sT5) _ Dy,okx.1,oky.1,by lia,fun r' H6 s6 cr'=>q _ _ (sT5.trans s6) ⟨fun z=>sl_rows hkk hm p1 p2 (cr'.lt z),fun z=>by
       have:=cr'.eq z
       subst this
       rcases Int.lt_or_gt_of_ne r0 with c | c
       ·exact (sl_irr (cr.lt c)).elim
       ·exact (sl_irr (cr.gt c)).elim,fun z=>sl_rows hkk (fun z=>(hm z).symm) p2 p1 (cr'.gt z)⟩⟩
    ·rintro σ H' ⟨o2,o3,rfl,sH,gl,tj⟩
     refine ⟨_,rfl,_,rfl,p,_,_,_,rfl,rfl,SqT.of (sH _ _ hp),a1,t1,_,rfl,.inr (SqT.of (sH _ _ h1)),_,rfl,_,rfl,p',_,_,_,rfl,rfl,SqT.of (sH _ _ hp'),a2,t2,_,rfl,.inr (SqT.of (sH _ _ h2)),rfl,_,rfl,?_⟩
     by_cases hl:((xs1.length:Nat):Int)=((xs2.length:Nat):Int)
     ·rw [decide_eq_true (congrArg V.int hl)]
      have hl':xs1.length=xs2.length:=by lia
      rw [hl',Nat.min_self,← L2',List.take_length,L2',← hl',← L1,List.take_length] at tj
      refine iteF ⟨_,_,_,rfl,sH,gl,fun _=>?_,fun z=>?_⟩
      ·rcases hki with ⟨rfl,rfl⟩ | ⟨rfl,rfl⟩
       ·exact tj
       ·exact hm rfl
      ·rcases hki with ⟨rfl,rfl⟩ | ⟨rfl,rfl⟩
       ·exact absurd z (by decide)
       ·exact tj
     ·rw [decide_eq_false (fun z=>hl (V.int.inj z))]
      refine iteT ?_
      refine ⟨_,rfl,(by show 2≤sizeLine; decide),fun pz hpz=>?_⟩
      have sz:=sH.trans (Same.new (o:=.lst [V.int 1,V.int (-1)]) hpz)
      refine ⟨_,rfl,_,rfl,p,_,_,_,rfl,rfl,SqT.of (sz _ _ hp),a1,t1,_,rfl,.inr (SqT.of (sz _ _ h1)),_,rfl,_,rfl,p',_,_,_,rfl,rfl,SqT.of (sz _ _ hp'),a2,t2,_,rfl,.inr (SqT.of (sz _ _ h2)),_,_,rfl,rfl,.inr ⟨_,rfl,?_⟩⟩
      have hr:=two (decide (((xs1.length:Nat):Int) < ((xs2.length:Nat):Int)))
      refine ⟨pz,_,_,_,rfl,rfl,SqL.of upd_same,hr,q _ _ sz ?_⟩
      by_cases lt:((xs1.length:Nat):Int) < ((xs2.length:Nat):Int)
      ·rw [decide_eq_true lt,Nat.min_eq_left (by lia),← L1,List.take_length] at *
       rw [if_pos rfl]
       obtain ⟨y,ey⟩:∃ y,(rwk kk more' off')[(rwk kk more off).length]?=some y:=⟨_,List.getElem?_eq_getElem (by lia)⟩
       have p2:=split_at ey
       rw [← tj] at p2
       exact CR.of_lt (sl_shortA hkk hm rfl p2 (ok2 y (List.mem_of_getElem? ey)).1)
      ·rw [decide_eq_false lt,if_neg (by decide)]
       rw [Nat.min_eq_right (by lia),← L2',List.take_length] at tj
       obtain ⟨y,ey⟩:∃ y,(rwk kk more off)[(rwk kk more' off').length]?=some y:=⟨_,List.getElem?_eq_getElem (by lia)⟩
       have p2:=split_at ey
       rw [tj] at p2
       exact CR.of_gt (sl_shortA hkk (fun z=>(hm z).symm) rfl p2 (ok1 y (List.mem_of_getElem? ey)).1)
   ·rintro σ H' ⟨o1,o2,o3,rfl,sH,gl,q1,q2⟩
    have e1:=q1 (show 1≤2 by decide)
    have e2:=q2 (Nat.le_refl 2)
    exact q _ _ sH ⟨fun z=>absurd z (by decide),fun _=>by rw [e1,e2],fun z=>absurd z (by decide)⟩
 ·rw [decide_eq_false (fun z=>hrk (V.int.inj z))]
  refine iteT ?_
  refine ⟨_,rfl,(by show 2≤sizeLine; decide),fun pz hpz=>?_⟩
  have sz:=S2.trans (Same.new (o:=.lst [V.int 1,V.int (-1)]) hpz)
  refine ⟨_,rfl,v,d,rfl,ds sz,hF,fun H3 s3=>⟨_,rfl,u,e,rfl,es (sz.trans s3),hE,fun H4 s4=>?_⟩⟩
  have hr:=two (decide (rk d < rk e))
  refine ⟨_,_,rfl,rfl,.inr ⟨_,rfl,pz,_,_,_,rfl,rfl,SqL.of (s4 _ _ (s3 _ _ upd_same)),hr,q _ _ (sz.trans (s3.trans s4)) ?_⟩⟩
  by_cases lt:rk d < rk e
  ·rw [decide_eq_true lt,if_pos rfl]; exact CR.of_lt (rk_ltA hF hE lt)
  ·rw [decide_eq_false lt,if_neg (by decide)]; exact CR.of_gt (rk_ltA hE hF (by lia))
theorem ok_cmp {f:Addr} {fd:FuncData} (F:Fun K "_law_compared" "_law_compared" s_law_compared f fd) (b:Binds K fd ["one","other"] []) (m:mg "_law_compared"=some (.ref f)) (B:Blt mg) (Grank:Def P w K mg base CX0 1 "_law_rank" spRank):∀ n,FnOk P w K mg base CX0 (n + 1) f fd ["one","other"] (spCmp n)
 | 0=>by
  have no:∀ vs H Q E,¬ spCmp 0 vs H Q E:=fun vs H Q E h=>by
   obtain ⟨v,u,d,e,_,_,_,_,_,h,_⟩:=h
   lia
  exact ⟨fun vs H Q E h=>absurd h (no vs H Q E),fun A outer s H args us vs Q E _ _ _ _ h=>absurd h (no vs H Q E)⟩
 | n + 1=>ok_cmp_step F B Grank (mkDef (ok_cmp F b m B Grank n) b m F.kp)
theorem Dats.take {H:Hp}:∀ {a:List D} {xs:List V} (k:Nat),Dats H a xs→Dats H (a.take k) (xs.take k)
 | [],xs,k,h=>by rw [h.nilE,List.take_nil,List.take_nil]; exact .nilI H
 | d :: r,xs,0,h=>by rw [List.take_zero,List.take_zero]; exact .nilI H
 | d :: r,xs,k + 1,h=>by
  obtain ⟨x,t,rfl,h1,h3⟩:=h.consE
  exact .consI h1 (Dats.take k h3)
theorem Dats.drop {H:Hp}:∀ {a:List D} {xs:List V} (k:Nat),Dats H a xs→Dats H (a.drop k) (xs.drop k)
 | [],xs,k,h=>by rw [h.nilE,List.drop_nil,List.drop_nil]; exact .nilI H
 | d :: r,xs,0,h=>h
 | d :: r,xs,k + 1,h=>by
  obtain ⟨x,t,rfl,h1,h3⟩:=h.consE
  exact Dats.drop k h3
theorem fold_take {ds:List D} {i:Nat} {d:D} (h:ds[i]?=some d):(ds.take (i + 1)).foldl insD []=insD ((ds.take i).foldl insD []) d:=by
 rw [List.take_succ,h]
 simp [List.foldl_append]
theorem count_take {p:D→Bool} {l:List D} {j:Nat} {d:D} (h:l[j]?=some d):(l.take (j + 1)).countP p=(l.take j).countP p + (if p d=true then 1 else 0):=by
 rw [List.take_succ,h,List.countP_append]
 show _ + List.countP p [d]=_
 rw [List.countP_cons,List.countP_nil,Nat.zero_add]
noncomputable abbrev s_law_in_order:Stmt:=top 42
theorem sc_law_in_order:FnScope ["forms","found","form","at"] ["forms"] (defScope s_law_in_order):=⟨rfl,rfl,rfl,by decide +kernel,rfl,by decide +kernel,by decide +kernel⟩
noncomputable def spOrdLA (n:Nat):Sp:=fun vs H Q _=>∃ (r:Addr) (us:List V) (ds:List D),vs=[.ref r]∧H r=some (.lst us)∧Dats H ds us∧(∀ x∈ds,AF x∧x.dep < n)∧ds.length≤100∧∀ (t:Addr) (H':Hp),Same H H'→Dat H' (.tup (srtD ds)) (.ref t)→Q (.ref t) H'
theorem ok_ordLA {n:Nat} {f:Addr} {fd:FuncData} (F:Fun K "_law_in_order" "_law_in_order" s_law_in_order f fd) (B:Blt mg) (Gcmp:Def P w K mg base CX0 (n + 1) "_law_compared" (spCmp n)):FnOk P w K mg base CX0 (n + 2) f fd ["forms"] (spOrdLA n):=by
 refine F.ok sc_law_in_order (fun vs H Q E h=>?_) (fun cdv A outer s H vs Q E hr h=>?_)
 ·obtain ⟨r,us,ds,rfl,_⟩:=h
  rfl
 obtain ⟨r,us,ds,rfl,hr1,hD,hF,hl,q⟩:=h
 have lu:=hD.len
 refine ⟨_,(pss_cons (ps_set (i:=1) sc_law_in_order.nd rfl (by first | exact Or.inl rfl | exact Or.inr rfl) (pe_lst pa_nil))
   (pss_cons (ps_for PassesOwn.never rfl (pi_list (pv 0)) (pg_name (i:=2) sc_law_in_order.nd rfl (by first | exact Or.inl rfl | exact Or.inr rfl)) (pss_cons (ps_set (i:=3) sc_law_in_order.nd rfl (by first | exact Or.inl rfl | exact Or.inr rfl) (pe_callB call_len_seq rfl B.len bt_len (pa_cons (pe_compC (N:=["one","form"]) rfl (csC_of [none,some 2] rfl (by decide +kernel) (by decide +kernel) rfl rfl) rfl (pi_list (pv 1)) (fun _ _ _ _=>(pg_name (i:=0) (show (["one","form"]:List Str).Nodup by decide +kernel) rfl (by first | exact Or.inl rfl | exact Or.inr rfl))) (fun _ _ _ _=>(ptl_one (pt_cmpR op_le (pe_def Gcmp (hr.mono (by lia)) (pa_cons (pv 0) (pa_cons (pv 1) pa_nil))) pe_int (nomark _)))) (fun _ _ _ _=>(pv 0))) pa_nil)))
   (pss_one (ps_expr (pe_bm PySem.F.plainAttrs_list PySem.F.slot_list_insert PySem.F.type_list_insert mt_insert (pv 1) (pa_cons (pv 3) (pa_cons (pv 2) pa_nil)))))))
   (pss_one (ps_ret (pe_callTy call_tuple_of rfl B.tuple bt_tuple (pa_cons (pv 1) pa_nil)))))),?_⟩
 refine ⟨(by show 0≤sizeLine; decide),fun pf hpf=>?_⟩
 refine ⟨_,rfl,r,rfl,⟨_,SqL.of (Same.new hpf _ _ hr1)⟩,for_list (K:=K) (a:=r) (xs:=us) (fun i σ H'=>∃ (fs:List V) (es:List D) (o1 o2:Option V),σ=[some (.ref r),some (.ref pf),o1,o2]∧Same H H'∧H' pf=some (.lst fs)∧Dats H' es fs∧es=(ds.take i).foldl insD []) ⟨[],[],none,none,rfl,Same.new hpf,upd_same,.nilI _,rfl⟩ (fun i σ H' _ ⟨_,_,_,_,_,g,_⟩=>SqL.of (g _ _ hr1)) ?_ ?_⟩
 ·rintro i y σ H' hi ⟨fs,es,o1,o2,rfl,sH,gf,hE,pe⟩
  have il:i < us.length:=(List.getElem?_eq_some_iff.mp hi).1
  obtain ⟨dy,ey,Dy⟩:=Dats.at hD hi
  have oky:=hF dy (List.mem_of_getElem? ey)
  have le:=hE.len
  have pm:es.Perm (ds.take i):=by rw [pe]; exact srtD_perm _
  have lp:=pm.length_eq
  rw [List.length_take] at lp
  have hin:∀ x∈es,AF x∧x.dep < n:=fun x hx=>hF x (List.mem_of_mem_take (pm.mem_iff.mp hx))
  refine ⟨_,rfl,pf,rfl,⟨_,SqL.of gf⟩,fun Dl hDl C s3 fp=>comp_list (K:=K) (a:=pf) (xs:=fs) (fun j ys σ H2=>∃ z,σ=[z,some y]∧Same H' H2∧ys.length≤j∧ys.length=(es.take j).countP fun z=>!L2.lx (kD dy) (kD z)) (fun j ys σ H2 ⟨_,_,g,_⟩=>SqL.of (g _ _ gf)) ⟨none,rfl,Same.new hDl,Nat.le_refl _,rfl⟩ ?_ ?_⟩
  ·rintro j x ys σ H2 hj hly ⟨z,rfl,s2,_,hc⟩ e
   obtain ⟨dx,ex,Dx⟩:=Dats.at hE hj
   have jl:j < fs.length:=(List.getElem?_eq_some_iff.mp hj).1
   have okx:=hin dx (List.mem_of_getElem? ex)
   refine ⟨_,rfl,_,rfl,x,y,dx,dy,rfl,Dat.kt (KT.same s2) _ Dx,Dat.kt (KT.same (sH.trans s2)) _ Dy,okx.1,oky.1,okx.2,fun rr H3 s3' cr=>?_⟩
   have cn:=count_take (p:=fun z=>!L2.lx (kD dy) (kD z)) ex
   have ce:=cr.le
   have e3:=s3' _ _ e
   refine ⟨_,_,rfl,rfl,_,rfl,?_⟩
   by_cases hle:rr≤0
   ·rw [decide_eq_true hle] at ce ⊢
    rw [if_pos ce.symm] at cn
    refine iteT ⟨_,rfl,ys,e3,small1000 (by lia),_,by rw [List.length_append]; exact Nat.add_le_add_right hly 1,⟨_,rfl,fun b o eb=>?_,by rw [List.length_append]; exact Nat.add_le_add_right hly 1,by rw [List.length_append,cn,← hc]; rfl⟩,upd_same⟩
    rw [upd_ne (ne_of_none eb hDl)]; exact s3' _ _ (s2 b o eb)
   ·rw [decide_eq_false hle] at ce ⊢
    rw [if_neg (by rw [← ce]; decide)] at cn
    exact iteF ⟨ys,Nat.le_succ_of_le hly,⟨_,rfl,s2.trans s3',Nat.le_succ_of_le hly,by rw [cn,← hc]; rfl⟩,e3⟩
  ·rintro ys σ H2 ⟨z,rfl,s2,hly,hc⟩ e
   rw [← le,List.take_length] at hc
   have lf:fs.length≤100:=by lia
   refine ⟨Dl,_,rfl,.inl (SqL.of e),?_⟩
   have gf2:=s2 _ _ gf
   refine ⟨_,rfl,.inl ⟨rfl,_,SqL.of gf2⟩,_,rfl,_,rfl,pf,fs,y,ys.length,rfl,rfl,gf2,hly,by lia,?_⟩
   have k2:=(KT.same s2).trans (KT.upd (o:=.lst (fs.take ys.length++y :: fs.drop ys.length)) gf2)
   have npf:H pf=none:=hpf
   refine ⟨_,es.take ys.length++dy :: es.drop ys.length,_,_,rfl,fun b o eb=>?_,upd_same,?_,?_⟩
   ·rw [upd_ne (ne_of_none eb npf)]; exact s2 _ _ (sH b o eb)
   ·have hE2:=Dats.kt k2 _ hE
    have Dy2:=Dat.kt ((KT.same sH).trans k2) _ Dy
    exact (hE2.take ys.length).app (.consI Dy2 (hE2.drop ys.length))
   ·rw [fold_take ey,← pe]; unfold insD; rw [← hc]
 ·rintro σ H' ⟨fs,es,o1,o2,rfl,sH,gf,hE,pe⟩
  rw [← lu,List.take_length] at pe
  refine ⟨_,rfl,pf,fs,rfl,.inl ⟨SqL.of gf,fun t ht=>?_⟩⟩
  have e:es=srtD ds:=pe
  exact q t _ (sH.trans (Same.new ht)) (by rw [← e]; exact .tupI upd_same (Dats.kt (KT.new ht) _ hE))
noncomputable def spOrdTA (n:Nat):Sp:=fun vs H Q _=>∃ (r:Addr) (us:List V) (ds:List D),vs=[.ref r]∧H r=some (.tup us)∧Dats H ds us∧(∀ x∈ds,AF x∧x.dep < n)∧ds.length≤100∧∀ (t:Addr) (H':Hp),Same H H'→Dat H' (.tup (srtD ds)) (.ref t)→Q (.ref t) H'
theorem ok_ordTA {n:Nat} {f:Addr} {fd:FuncData} (F:Fun K "_law_in_order" "_law_in_order" s_law_in_order f fd) (B:Blt mg) (Gcmp:Def P w K mg base CX0 (n + 1) "_law_compared" (spCmp n)):FnOk P w K mg base CX0 (n + 2) f fd ["forms"] (spOrdTA n):=by
 refine F.ok sc_law_in_order (fun vs H Q E h=>?_) (fun cdv A outer s H vs Q E hr h=>?_)
 ·obtain ⟨r,us,ds,rfl,_⟩:=h
  rfl
 obtain ⟨r,us,ds,rfl,hr1,hD,hF,hl,q⟩:=h
 have lu:=hD.len
 refine ⟨_,(pss_cons (ps_set (i:=1) sc_law_in_order.nd rfl (by first | exact Or.inl rfl | exact Or.inr rfl) (pe_lst pa_nil))
   (pss_cons (ps_for PassesOwn.never rfl (pi_tup (pv 0)) (pg_name (i:=2) sc_law_in_order.nd rfl (by first | exact Or.inl rfl | exact Or.inr rfl)) (pss_cons (ps_set (i:=3) sc_law_in_order.nd rfl (by first | exact Or.inl rfl | exact Or.inr rfl) (pe_callB call_len_seq rfl B.len bt_len (pa_cons (pe_compC (N:=["one","form"]) rfl (csC_of [none,some 2] rfl (by decide +kernel) (by decide +kernel) rfl rfl) rfl (pi_list (pv 1)) (fun _ _ _ _=>(pg_name (i:=0) (show (["one","form"]:List Str).Nodup by decide +kernel) rfl (by first | exact Or.inl rfl | exact Or.inr rfl))) (fun _ _ _ _=>(ptl_one (pt_cmpR op_le (pe_def Gcmp (hr.mono (by lia)) (pa_cons (pv 0) (pa_cons (pv 1) pa_nil))) pe_int (nomark _)))) (fun _ _ _ _=>(pv 0))) pa_nil)))
   (pss_one (ps_expr (pe_bm PySem.F.plainAttrs_list PySem.F.slot_list_insert PySem.F.type_list_insert mt_insert (pv 1) (pa_cons (pv 3) (pa_cons (pv 2) pa_nil)))))))
   (pss_one (ps_ret (pe_callTy call_tuple_of rfl B.tuple bt_tuple (pa_cons (pv 1) pa_nil)))))),?_⟩
 refine ⟨(by show 0≤sizeLine; decide),fun pf hpf=>?_⟩
 refine ⟨_,rfl,r,rfl,⟨_,SqT.of (Same.new hpf _ _ hr1)⟩,for_tup (K:=K) (a:=r) (xs:=us) (fun i σ H'=>∃ (fs:List V) (es:List D) (o1 o2:Option V),σ=[some (.ref r),some (.ref pf),o1,o2]∧Same H H'∧H' pf=some (.lst fs)∧Dats H' es fs∧es=(ds.take i).foldl insD []) ⟨[],[],none,none,rfl,Same.new hpf,upd_same,.nilI _,rfl⟩ (fun i σ H' _ ⟨_,_,_,_,_,g,_⟩=>SqT.of (g _ _ hr1)) ?_ ?_⟩
 ·rintro i y σ H' hi ⟨fs,es,o1,o2,rfl,sH,gf,hE,pe⟩
  have il:i < us.length:=(List.getElem?_eq_some_iff.mp hi).1
  obtain ⟨dy,ey,Dy⟩:=Dats.at hD hi
  have oky:=hF dy (List.mem_of_getElem? ey)
  have le:=hE.len
  have pm:es.Perm (ds.take i):=by rw [pe]; exact srtD_perm _
  have lp:=pm.length_eq
  rw [List.length_take] at lp
  have hin:∀ x∈es,AF x∧x.dep < n:=fun x hx=>hF x (List.mem_of_mem_take (pm.mem_iff.mp hx))
  refine ⟨_,rfl,pf,rfl,⟨_,SqL.of gf⟩,fun Dl hDl C s3 fp=>comp_list (K:=K) (a:=pf) (xs:=fs) (fun j ys σ H2=>∃ z,σ=[z,some y]∧Same H' H2∧ys.length≤j∧ys.length=(es.take j).countP fun z=>!L2.lx (kD dy) (kD z)) (fun j ys σ H2 ⟨_,_,g,_⟩=>SqL.of (g _ _ gf)) ⟨none,rfl,Same.new hDl,Nat.le_refl _,rfl⟩ ?_ ?_⟩
  ·rintro j x ys σ H2 hj hly ⟨z,rfl,s2,_,hc⟩ e
   obtain ⟨dx,ex,Dx⟩:=Dats.at hE hj
   have jl:j < fs.length:=(List.getElem?_eq_some_iff.mp hj).1
   have okx:=hin dx (List.mem_of_getElem? ex)
   refine ⟨_,rfl,_,rfl,x,y,dx,dy,rfl,Dat.kt (KT.same s2) _ Dx,Dat.kt (KT.same (sH.trans s2)) _ Dy,okx.1,oky.1,okx.2,fun rr H3 s3' cr=>?_⟩
   have cn:=count_take (p:=fun z=>!L2.lx (kD dy) (kD z)) ex
   have ce:=cr.le
   have e3:=s3' _ _ e
   refine ⟨_,_,rfl,rfl,_,rfl,?_⟩
   by_cases hle:rr≤0
   ·rw [decide_eq_true hle] at ce ⊢
    rw [if_pos ce.symm] at cn
    refine iteT ⟨_,rfl,ys,e3,small1000 (by lia),_,by rw [List.length_append]; exact Nat.add_le_add_right hly 1,⟨_,rfl,fun b o eb=>?_,by rw [List.length_append]; exact Nat.add_le_add_right hly 1,by rw [List.length_append,cn,← hc]; rfl⟩,upd_same⟩
    rw [upd_ne (ne_of_none eb hDl)]; exact s3' _ _ (s2 b o eb)
   ·rw [decide_eq_false hle] at ce ⊢
    rw [if_neg (by rw [← ce]; decide)] at cn
    exact iteF ⟨ys,Nat.le_succ_of_le hly,⟨_,rfl,s2.trans s3',Nat.le_succ_of_le hly,by rw [cn,← hc]; rfl⟩,e3⟩
  ·rintro ys σ H2 ⟨z,rfl,s2,hly,hc⟩ e
   rw [← le,List.take_length] at hc
   have lf:fs.length≤100:=by lia
   refine ⟨Dl,_,rfl,.inl (SqL.of e),?_⟩
   have gf2:=s2 _ _ gf
   refine ⟨_,rfl,.inl ⟨rfl,_,SqL.of gf2⟩,_,rfl,_,rfl,pf,fs,y,ys.length,rfl,rfl,gf2,hly,by lia,?_⟩
   have k2:=(KT.same s2).trans (KT.upd (o:=.lst (fs.take ys.length++y :: fs.drop ys.length)) gf2)
   have npf:H pf=none:=hpf
   refine ⟨_,es.take ys.length++dy :: es.drop ys.length,_,_,rfl,fun b o eb=>?_,upd_same,?_,?_⟩
   ·rw [upd_ne (ne_of_none eb npf)]; exact s2 _ _ (sH b o eb)
   ·have hE2:=Dats.kt k2 _ hE
    have Dy2:=Dat.kt ((KT.same sH).trans k2) _ Dy
    exact (hE2.take ys.length).app (.consI Dy2 (hE2.drop ys.length))
   ·rw [fold_take ey,← pe]; unfold insD; rw [← hc]
 ·rintro σ H' ⟨fs,es,o1,o2,rfl,sH,gf,hE,pe⟩
  rw [← lu,List.take_length] at pe
  refine ⟨_,rfl,pf,fs,rfl,.inl ⟨SqL.of gf,fun t ht=>?_⟩⟩
  have e:es=srtD ds:=pe
  exact q t _ (sH.trans (Same.new ht)) (by rw [← e]; exact .tupI upd_same (Dats.kt (KT.new ht) _ hE))
noncomputable def spOrdL (n:Nat):Sp:=fun vs H Q _=>∃ (r:Addr) (us:List V) (ds:List D),vs=[.ref r]∧H r=some (.lst us)∧Dats H ds us∧(∀ x∈ds,IsForm x∧x.dep < n)∧ds.length≤100∧∀ (t:Addr) (H':Hp),Same H H'→Dat H' (.tup (srtD ds)) (.ref t)→Q (.ref t) H'
theorem ord_imp {n:Nat}:∀ vs H Q E,spOrdL n vs H Q E→spOrdLA n vs H Q E:=fun vs H Q E ⟨r,us,ds,h1,h2,h3,h4,h5,h6⟩=>⟨r,us,ds,h1,h2,h3,fun x hx=>⟨(h4 x hx).1.af,(h4 x hx).2⟩,h5,h6⟩
end
end Law
namespace Law
open PySem L2
section
variable {P:Program} {w:World} {K:PySem.W.Frag} {mg:Str→Option Value} {base:Heap}
mutual
noncomputable def noB:D→Bool
 | .int _=>true
 | .str _=>true
 | .tup l=>noBs l
 | _=>false
noncomputable def noBs:List D→Bool
 | []=>true
 | d :: r=>noB d && noBs r
end
theorem noBs_of:∀ {l:List D},(∀ x∈l,noB x=true)→noBs l=true
 | [],_=>by rw [noBs]
 | d :: r,h=>by rw [noBs,h d (List.mem_cons_self ..),noBs_of fun x hx=>h x (List.mem_cons_of_mem _ hx)]; rfl
theorem af_noB {d:D} (h:AF d):noB d=true:=by
 induction h with
 | num h0 h1=>rw [noB]
 | @grp k more off hk g1 g2 ih1 ih2 =>
  rw [noB]
  refine noBs_of fun x hx=>?_
  simp only [List.mem_cons,List.not_mem_nil,or_false] at hx
  rcases hx with rfl | rfl | rfl
  ·rw [noB]
  ·rw [noB]; exact noBs_of ih1
  ·rw [noB]; exact noBs_of ih2
mutual
theorem eqD_eq:∀ (d e:D),noB d=true→noB e=true→eqD d e=true→d=e
 | .int a,e,_,he,h=>by
  cases e with
  | int b=>rw [eqD] at h; rw [eq_of_beq h]
  | str b=>simp [eqD] at h
  | tup l=>simp [eqD] at h
  | _=>simp [noB] at he
 | .str a,e,_,he,h=>by
  cases e with
  | str b=>rw [eqD] at h; rw [eq_of_beq h]
  | int b=>simp [eqD] at h
  | tup l=>simp [eqD] at h
  | _=>simp [noB] at he
 | .tup l,e,hd,he,h=>by
  cases e with
  | tup m =>
   rw [eqD] at h
   rw [noB] at hd he
   rw [eqDs_eq l m hd he h]
  | int b=>simp [eqD] at h
  | str b=>simp [eqD] at h
  | _=>simp [noB] at he
 | .non,_,hd,_,_=>by simp [noB] at hd
 | .bl _,_,hd,_,_=>by simp [noB] at hd
 | .lst _,_,hd,_,_=>by simp [noB] at hd
theorem eqDs_eq:∀ (l m:List D),noBs l=true→noBs m=true→eqDs l m=true→l=m
 | [],m,_,_,h=>by
  cases m with
  | nil=>rfl
  | cons a b=>simp [eqDs] at h
 | d :: r,m,hd,he,h=>by
  cases m with
  | nil=>simp [eqDs] at h
  | cons a b =>
   rw [eqDs] at h
   rw [noBs] at hd he
   simp only [Bool.and_eq_true] at h hd he
   rw [eqD_eq d a hd.1 he.1 h.1,eqDs_eq r b hd.2 he.2 h.2]
end
theorem eqDs_af {a b:List D} (ha:∀ x∈a,AF x) (hb:∀ x∈b,AF x):eqDs a b=true↔a=b :=
 ⟨fun h=>eqDs_eq a b (noBs_of fun x hx=>af_noB (ha x hx)) (noBs_of fun x hx=>af_noB (hb x hx)) h,fun h=>by rw [h]; exact eqDs_refl _⟩
theorem catT_of {K:PySem.W.Frag} {H:Hp} {a b:Addr} {xs ys:List V} {Q:VK} (ha:H a=some (.tup xs)) (hb:H b=some (.tup ys)) (ne:xs≠[]) (hl:xs.length + ys.length≤sizeLine) (q:∀ (p:Addr) (H':Hp),Same H H'→H' p=some (.tup (xs++ys))→Q (.ref p) H'):rCatT K (.ref a) (.ref b) H Q :=
 ⟨a,b,xs,ys,rfl,rfl,SqT.of ha,SqT.of hb,ne,hl,(fun e=>q a H (Same.refl H) (by rw [e,List.append_nil]; exact ha)),fun _ p hp=>q p _ (Same.new hp) upd_same⟩
theorem let_bound {d:D} {n:Int} (h:LetW d n):1≤n∧n≤1000000 ^ lv d:=by
 have:=worth_bound (m:=1000000) (by decide) (fw_ok h.1.form) h.2
 rw [fw_size h.1.form] at this
 exact this
theorem sumD_snoc (l:List D) (x:D):sumD (l++[x])=sumD l + valD x:=by rw [sumD_app]; show _ + (valD x + 0)=_; lia
theorem prodD_snoc (l:List D) (x:D):prodD (l++[x])=prodD l * valD x:=by rw [prodD_app]; show _ * (valD x * 1)=_; rw [Int.mul_one]
theorem prod_bound:∀ {l:List D},(∀ x∈l,∃ m,LetW x m)→1≤prodD l∧prodD l≤1000000 ^ lvs l
 | [],_=>by rw [lvs]; exact ⟨Int.le_refl _,Int.le_refl _⟩
 | d :: r,h=>by
  obtain ⟨p1,p2⟩:=prod_bound fun x hx=>h x (List.mem_cons_of_mem _ hx)
  obtain ⟨m,hm⟩:=h d (List.mem_cons_self ..)
  obtain ⟨m1,m2⟩:=let_bound hm
  have ev:=hm.ok.2
  have e:prodD (d :: r)=valD d * prodD r:=rfl
  rw [e,ev,lvs,Int.pow_add]
  have h1:=Int.mul_le_mul m2 p2 (by lia) (by lia)
  have h2:=Int.mul_le_mul m1 p1 (by decide) (by lia)
  exact ⟨by lia,h1⟩
theorem pow_small {n:Nat} (h:n≤9):(1000000:Int) ^ n < 2 ^ 4000:=by
 have:=pow_le_pow (m:=1000000) (by decide) h
 have h2:(1000000:Int) ^ 9 < 2 ^ 4000:=by decide +kernel
 lia
theorem lvs_take (l:List D) (i:Nat):lvs (l.take i)≤lvs l:=by
 have:=lvs_app (l.take i) (l.drop i)
 rw [List.take_append_drop] at this
 lia
theorem lv_mem {l:List D} {d:D} (h:d∈l):lv d≤lvs l:=by
 induction l with
 | nil=>cases h
 | cons a r ih =>
  rw [lvs]
  rcases List.mem_cons.mp h with rfl | h
  ·lia
  ·have:=ih h; lia
theorem take_more {more off:List D} {i:Nat} {d:D} (h:(more++off)[i]?=some d) (hi:i < more.length):more.take (i + 1)=more.take i++[d]∧off.take (i + 1 - more.length)=off.take (i - more.length):=by
 rw [List.getElem?_append_left hi] at h
 refine ⟨by rw [List.take_add_one,h]; rfl,?_⟩
 rw [show i + 1 - more.length=0 by lia,show i - more.length=0 by lia]
theorem take_off {more off:List D} {i:Nat} {d:D} (h:(more++off)[i]?=some d) (hi:¬ i < more.length):more.take (i + 1)=more.take i∧off.take (i + 1 - more.length)=off.take (i - more.length)++[d]:=by
 rw [List.getElem?_append_right (by lia)] at h
 refine ⟨by rw [List.take_of_length_le (by lia),List.take_of_length_le (by lia)],?_⟩
 rw [show i + 1 - more.length=i - more.length + 1 by lia,List.take_add_one,h]; rfl
noncomputable def TB (k:Str) (m o:List D) (T Bw:Int):Prop:=(k="sum"→T=sumD m - sumD o∧Bw=1)∧(k="product"→T=prodD m∧Bw=prodD o)
noncomputable def LetR (d:D) (r:V):Prop:=(∃ m,LetW d m∧r=.int m)∨((¬ ∃ m,LetW d m)∧r=.non)
noncomputable def spLetW (n:Nat):Sp:=fun vs H Q _=>∃ (v:V) (d:D),vs=[v]∧Dat H d v∧AF d∧d.dep < n∧d.dep < 20∧lv d≤8∧nn d≤63∧∀ (r:V) (H':Hp),Same H H'→LetR d r→Q r H'
noncomputable abbrev s_law_let_worth:Stmt:=top 46
theorem sc_law_let_worth:FnScope ["form","word","more","off","total","below","place","part","worth"] ["form"] (defScope s_law_let_worth):=⟨rfl,rfl,rfl,by decide +kernel,rfl,by decide +kernel,by decide +kernel⟩
theorem ok_letw_step {n:Nat} {f:Addr} {fd:FuncData} (F:Fun K "_law_let_worth" "_law_let_worth" s_law_let_worth f fd) (B:Blt mg) (Benum:mg "enumerate"=none) (Gord:Def P w K mg base CX0 22 "_law_in_order" (spOrdTA 20)) (Glet:Def P w K mg base CX0 (n + 22) "_law_let_worth" (spLetW n)):FnOk P w K mg base CX0 (n + 23) f fd ["form"] (spLetW (n + 1)):=by
 refine F.ok (k:=n + 22) sc_law_let_worth (fun vs H Q E h=>?_) (fun cdv A outer s H vs Q E hr h=>?_)
 ·obtain ⟨v,d,rfl,_⟩:=h
  rfl
 obtain ⟨v,d,rfl,hd,hF,hn,h20,hlv,hnn,q⟩:=h
 refine ⟨_,(pss_cons (ps_if (pt_val (pe_isin B.isinstance B.int bt_int (pv 0))) (pss_one (ps_ret (pe_ix ix_list (pe_lst (pa_cons pe_non (pa_cons (pv 0) pa_nil))) (pe_callTy call_int1 rfl B.int bt_int (pa_cons (pe_cmpR op_gt (pv 0) pe_int (nomark _)) pa_nil)) (fun _ _=>rfl)))) pss_nil)
   (pss_cons (ps_asg (pv 0) (pg_tup rfl (pgs_cons (pg_name (i:=1) sc_law_let_worth.nd rfl (by first | exact Or.inl rfl | exact Or.inr rfl)) (pgs_cons (pg_name (i:=2) sc_law_let_worth.nd rfl (by first | exact Or.inl rfl | exact Or.inr rfl)) (pgs_cons (pg_name (i:=3) sc_law_let_worth.nd rfl (by first | exact Or.inl rfl | exact Or.inr rfl)) pgs_nil)))))
   (pss_cons (ps_if (PW.pt (pw_or (pt_cmpR (op_eqS (hu60 hr)) (pv 2) (pe_tup pa_nil) (nomark _)) (pw_or (pt_cmpR op_lt (pe_callB call_len_seq rfl B.len bt_len (pa_cons (pe_op op_catT (pv 2) (pv 3)) pa_nil)) pe_int (nomark _)) (pw_or (pt_cmpR (op_neS (hu60 hr)) (pe_def Gord (hr.mono (by lia)) (pa_cons (pv 2) pa_nil)) (pv 2) (nomark _)) (pw_or1 (pt_cmpR (op_neS (hu60 hr)) (pe_def Gord (hr.mono (by lia)) (pa_cons (pv 3) pa_nil)) (pv 3) (nomark _))))))) (pss_one (ps_ret pe_non)) pss_nil)
   (pss_cons (ps_set (i:=4) sc_law_let_worth.nd rfl (by first | exact Or.inl rfl | exact Or.inr rfl) (pe_ix ix_list (pe_lst (pa_cons pe_int (pa_cons pe_int pa_nil))) (pe_callTy call_int1 rfl B.int bt_int (pa_cons (pe_cmpR op_eq (pv 1) pe_str (nomark _)) pa_nil)) (fun _ _=>rfl)))
   (pss_cons (ps_set (i:=5) sc_law_let_worth.nd rfl (by first | exact Or.inl rfl | exact Or.inr rfl) pe_int)
   (pss_cons (ps_for PassesOwn.never rfl (pi_enum Benum (pa_cons (pe_op op_catT (pv 2) (pv 3)) pa_nil)) (pg_tup rfl (pgs_cons (pg_name (i:=6) sc_law_let_worth.nd rfl (by first | exact Or.inl rfl | exact Or.inr rfl)) (pgs_cons (pg_name (i:=7) sc_law_let_worth.nd rfl (by first | exact Or.inl rfl | exact Or.inr rfl)) pgs_nil))) (pss_cons (ps_set (i:=8) sc_law_let_worth.nd rfl (by first | exact Or.inl rfl | exact Or.inr rfl) (pe_def Glet (hr.mono (by lia)) (pa_cons (pv 7) pa_nil)))
   (pss_cons (ps_if (PW.pt (pw_or (pt_cmpR op_isN (pv 8) pe_non (nomark _)) (pw_or1 (PW.pt (pw_and (pt_not (pt_val (pe_isin B.isinstance B.int bt_int (pv 7)))) (pw_and1 (pt_cmpR op_eq (pe_ix ix_tup (pv 7) pe_int (fun _ _=>rfl)) (pv 1) (nomark _)))))))) (pss_one (ps_ret pe_non)) pss_nil)
   (pss_one (ps_if (pt_cmpR op_eq (pv 1) pe_str (nomark _)) (pss_one (ps_set (i:=4) sc_law_let_worth.nd rfl (by first | exact Or.inl rfl | exact Or.inr rfl) (pe_op op_add (pv 4) (pe_op op_mul (pv 8) (pe_ix ix_list (pe_lst (pa_cons (pe_un un_neg pe_int) (pa_cons pe_int pa_nil))) (pe_callTy call_int1 rfl B.int bt_int (pa_cons (pe_cmpR op_lt (pv 6) (pe_callB call_len_seq rfl B.len bt_len (pa_cons (pv 2) pa_nil)) (nomark _)) pa_nil)) (fun _ _=>rfl)))))) (pss_one (ps_if (pt_cmpR op_lt (pv 6) (pe_callB call_len_seq rfl B.len bt_len (pa_cons (pv 2) pa_nil)) (nomark _)) (pss_one (ps_set (i:=4) sc_law_let_worth.nd rfl (by first | exact Or.inl rfl | exact Or.inr rfl) (pe_op op_mulB (pv 4) (pv 8)))) (pss_one (ps_set (i:=5) sc_law_let_worth.nd rfl (by first | exact Or.inl rfl | exact Or.inr rfl) (pe_op op_mulB (pv 5) (pv 8)))))))))))
   (pss_cons (ps_if (PW.pt (pw_or (pt_cmpR op_lt (pv 4) pe_int (nomark _)) (pw_or1 (pt_cmpR op_ne (pe_op op_mod (pv 4) (pv 5)) pe_int (nomark _))))) (pss_one (ps_ret pe_non)) pss_nil)
   (pss_one (ps_ret (pe_op op_fdivB (pv 4) (pv 5))))))))))),?_⟩
 cases hF with
 | @num i g0 g1 =>
  have:=hd.intE
  subst this
  refine ⟨_,rfl,_,_,TyOf.int _,kit_int_int _,_,rfl,iteT ?_⟩
  refine ⟨_,rfl,(by show 2≤sizeLine; decide),fun pz hpz=>?_⟩
  by_cases hi:(0:Int) < i
  ·refine ⟨_,rfl,_,_,rfl,rfl,.inr ⟨_,rfl,pz,_,_,.int i,rfl,rfl,SqL.of upd_same,?_,?_⟩⟩
   ·rw [decide_eq_true hi]; rfl
   ·exact q _ _ (Same.new hpz) (.inl ⟨i,(let_int g1).mpr ⟨by lia,rfl⟩,rfl⟩)
  ·refine ⟨_,rfl,_,_,rfl,rfl,.inr ⟨_,rfl,pz,_,_,.non,rfl,rfl,SqL.of upd_same,?_,?_⟩⟩
   ·rw [decide_eq_false hi]; rfl
   ·exact q _ _ (Same.new hpz) (.inr ⟨fun ⟨m,h⟩=>by have:=(let_int g1).mp h; lia,rfl⟩)
 | @grp k more off hk g1 g2 =>
  have hAg:AF (.tup [.str k,.tup more,.tup off]):=.grp hk g1 g2
  have lg:=lv_grpA k more off
  have ng:=nn_grp k more off
  have c1:=nS_len g1
  have c2:=nS_len g2
  obtain ⟨p,pm,po,xm,xo,rfl,hp,hpm,hpo,d1,d2⟩:=dat_grpA hd
  have lm:=d1.len
  have lo:=d2.len
  have dall:Dats H (more++off) (xm++xo):=Dats.app d1 d2
  have fin:∀ (H':Hp),Same H H'→(∀ m,¬ LetW (.tup [.str k,.tup more,.tup off]) m)→Q .non H':=fun H' s' h=>q _ _ s' (.inr ⟨fun ⟨m,e⟩=>h m e,rfl⟩)
  have gI:∀ {m},LetW (.tup [.str k,.tup more,.tup off]) m↔kpG k more off∧(∀ x∈more++off,∃ m,LetW x m)∧1≤m∧Rel k more off m:=fun {m}=>let_grp hk
  refine ⟨_,rfl,_,_,TyOf.tup hp,kit_tup_int _,_,rfl,iteF ?_⟩
  refine ⟨_,rfl,p,_,rfl,SqT.of hp,rfl,_,_,rfl,_,_,rfl,_,_,rfl,rfl,?_⟩
  refine ⟨_,rfl,(by show 0≤sizeLine; decide),fun pe hpe=>?_⟩
  have sE:=Same.new (o:=.tup []) hpe
  have dmf:deps more≤50:=deps_le fun x hx=>by have:=dep_mem (k:=k) (off:=off) (List.mem_append_left off hx); lia
  have dof:deps off≤50:=deps_le fun x hx=>by have:=dep_mem (k:=k) (more:=more) (List.mem_append_right more hx); lia
  refine ⟨more,[],.inr ⟨Dat.rep (.tup more) (.tupI (sE _ _ hpm) (Dats.kt (KT.same sE) _ d1)),Dat.rep (.tup []) (.tupI upd_same (.nilI _))⟩,dmf,?_⟩
  rw [if_neg (by decide)]
  refine ⟨_,rfl,?_⟩
  by_cases hm0:more=[]
  ·rw [show eqDs more []=true by rw [hm0,eqDs]]
   exact iteT (iteT (fin _ sE fun m e=>(gI.mp e).1.1 hm0))
  rw [show eqDs more []=false by cases more with | nil=>exact absurd rfl hm0 | cons a b=>(rw [eqDs]; all_goals simp)]
  refine iteF ?_
  have xm0:xm≠[]:=fun e=>hm0 (List.eq_nil_of_length_eq_zero (by rw [lm,e]; rfl))
  refine ⟨_,rfl,_,rfl,catT_of (sE _ _ hpm) (sE _ _ hpo) xm0 (Nat.le_of_lt (small1000 (by lia))) fun qa Ha sa hqa=>?_⟩
  refine ⟨qa,_,rfl,.inr (SqT.of hqa),_,_,rfl,rfl,_,rfl,?_⟩
  have sA:=sE.trans sa
  by_cases hl2:(((xm++xo).length:Nat):Int) < 2
  ·rw [decide_eq_true hl2]
   exact iteT (iteT (fin _ sA fun m e=>by have:=(gI.mp e).1.2.1; rw [List.length_append] at hl2; lia))
  rw [decide_eq_false hl2]
  refine iteF ?_
  have hmf:∀ x∈more,AF x∧x.dep < 20:=fun x hx=>⟨g1 x hx,by have:=dep_mem (k:=k) (off:=off) (List.mem_append_left off hx); lia⟩
  have hof:∀ x∈off,AF x∧x.dep < 20:=fun x hx=>⟨g2 x hx,by have:=dep_mem (k:=k) (more:=more) (List.mem_append_right more hx); lia⟩
  have srtA:∀ {l:List D},(∀ x∈l,AF x)→∀ x∈srtD l,AF x:=fun h x hx=>h x ((srtD_perm _).mem_iff.mp hx)
  have srtd:∀ {l:List D},(∀ x∈l,AF x∧x.dep < 20)→deps (srtD l)≤50:=fun h=>deps_le fun x hx=>by have:=(h x ((srtD_perm _).mem_iff.mp hx)).2; lia
  refine ⟨_,rfl,pm,xm,more,rfl,sA _ _ hpm,Dats.kt (KT.same sA) _ d1,hmf,by lia,fun t1 H1 s1 dt1=>?_⟩
  have S1:=sA.trans s1
  refine ⟨_,rfl,srtD more,more,.inr ⟨Dat.rep (.tup (srtD more)) dt1,Dat.rep (.tup more) (.tupI (S1 _ _ hpm) (Dats.kt (KT.same S1) _ d1))⟩,srtd hmf,?_⟩
  rw [if_pos rfl]
  refine ⟨_,rfl,?_⟩
  have eq1:=(eqDs_af (srtA g1) g1).trans (ord_iff g1)
  cases hq1:eqDs (srtD more) more with
  | false=>exact iteT (iteT (fin _ S1 fun m e=>by rw [eq1.mpr (gI.mp e).1.2.2.2.1] at hq1; cases hq1))
  | true =>
  refine iteF ?_
  refine ⟨_,rfl,po,xo,off,rfl,S1 _ _ hpo,Dats.kt (KT.same S1) _ d2,hof,by lia,fun t2 H2 s2 dt2=>?_⟩
  have S2:=S1.trans s2
  refine ⟨_,rfl,srtD off,off,.inr ⟨Dat.rep (.tup (srtD off)) dt2,Dat.rep (.tup off) (.tupI (S2 _ _ hpo) (Dats.kt (KT.same S2) _ d2))⟩,srtd hof,?_⟩
  rw [if_pos rfl]
  refine ⟨_,rfl,?_⟩
  have eq2:=(eqDs_af (srtA g2) g2).trans (ord_iff g2)
  cases hq2:eqDs (srtD off) off with
  | false=>exact iteT (fin _ S2 fun m e=>by rw [eq2.mpr (gI.mp e).1.2.2.2.2] at hq2; cases hq2)
  | true =>
  refine iteF ?_
  have om:=eq1.mp hq1
  have oo:=eq2.mp hq2
  obtain ⟨T0,hT0,hI0⟩:∃ T0:Int,atI [V.int 0,V.int 1] (if decide (V.str k=V.str "product")=true then 1 else 0)=some (.int T0)∧TB k [] [] T0 1:=by
   rcases hk with rfl | rfl
   ·rw [decide_eq_false (fun e=>absurd (V.str.inj e) (by decide))]
    exact ⟨0,rfl,fun _=>⟨rfl,rfl⟩,fun z=>absurd z (by decide)⟩
   ·rw [decide_eq_true rfl]
    exact ⟨1,rfl,fun z=>absurd z (by decide),fun _=>⟨rfl,rfl⟩⟩
  refine ⟨(by show 2≤sizeLine; decide),fun pz hpz=>⟨_,rfl,rfl,.inr ⟨_,rfl,pz,_,_,.int T0,rfl,rfl,SqL.of upd_same,hT0,?_⟩⟩⟩
  have S3:=S2.trans (Same.new (o:=.lst [V.int 0,V.int 1]) hpz)
  generalize upd H2 pz (.lst [V.int 0,V.int 1])=H3 at S3 ⊢
  clear hpz
  refine ⟨_,rfl,_,rfl,catT_of (S3 _ _ hpm) (S3 _ _ hpo) xm0 (Nat.le_of_lt (small1000 (by lia))) fun qb Hb sb hqb=>?_⟩
  refine ⟨qb,rfl,⟨_,SqT.of hqb⟩,for_enum (K:=K) (p:=qb) (xs:=xm++xo) (fun i σ H'=>∃ (T Bw:Int) (o1 o2 o3:Option V),σ=[some (.ref p),some (.str k),some (.ref pm),some (.ref po),some (.int T),some (.int Bw),o1,o2,o3]∧Same H H'∧H' qb=some (.tup (xm++xo))∧(∀ x∈(more++off).take i,(∃ m,LetW x m)∧isK k x=false)∧TB k (more.take i) (off.take (i - more.length)) T Bw) ⟨T0,1,none,none,none,rfl,S3.trans sb,hqb,(fun x hx=>by cases hx),by rw [Nat.zero_sub]; exact hI0⟩ (fun i σ H' _ ⟨_,_,_,_,_,_,_,g,_⟩=>SqT.of g) ?_ ?_⟩
  ·rintro i Tt y σ H' hi ⟨T,Bw,o1,o2,o3,rfl,sH,gq,hall,inv⟩ hTt
   obtain ⟨dy,ey,Dy⟩:=Dats.at dall hi
   have hm:=List.mem_of_getElem? ey
   have fy:=hAg.parts dy hm
   have dpy:=dep_mem (k:=k) hm
   have lvy:=lv_mem hm
   have nny:=nS_mem hm
   rw [lvs_app] at lvy
   rw [nS_app] at nny
   have sT:=sH.trans (Same.new (o:=.tup [.int (i:Int),y]) hTt)
   refine ⟨Tt,_,rfl,SqT.of upd_same,rfl,_,_,rfl,_,_,rfl,rfl,?_⟩
   refine ⟨_,rfl,y,dy,rfl,Dat.kt (KT.same sT) _ Dy,fy,by lia,by lia,by lia,by lia,fun r H5 s5 hr5=>?_⟩
   have S5:=sT.trans s5
   have gq5:=s5 _ _ (Same.new (o:=.tup [.int (i:Int),y]) hTt _ _ gq)
   rcases hr5 with ⟨z,hz,rfl⟩ | ⟨hno,rfl⟩
   case inr=>exact ⟨_,rfl,rfl,_,rfl,iteT (iteT (fin _ S5 fun m e=>hno ((gI.mp e).2.1 dy hm)))⟩
   refine ⟨_,rfl,rfl,_,rfl,iteF ?_⟩
   refine (show ∀ R:Bool→Hp→Prop,(isK k dy=true→R true H5)→(isK k dy=false→R false H5)→tAnd _ _ _ H5 R from fun R r1 r0=>?_) _ ?_ ?_
   ·have Dy5:=Dat.kt (KT.same S5) _ Dy
    cases fy with
    | @num j _ _ =>
     have:=Dy5.intE
     subst this
     exact ⟨_,rfl,_,_,TyOf.int _,kit_int_int _,_,rfl,iteF (r0 rfl)⟩
    | @grp k' more' off' hk' _ _ =>
     obtain ⟨p',pm',po',xm',xo',rfl,hp',_⟩:=dat_grpA Dy5
     refine ⟨_,rfl,_,_,TyOf.tup hp',kit_tup_int _,_,rfl,iteT ?_⟩
     refine ⟨_,rfl,p',_,_,_,rfl,rfl,SqT.of hp',atI_nat (j:=0) rfl,_,rfl,rfl,_,rfl,?_⟩
     by_cases ek:k'=k
     ·rw [decide_eq_true (congrArg V.str ek)]
      exact r1 (decide_eq_true ek)
     ·rw [decide_eq_false (fun z=>ek (V.str.inj z))]
      exact r0 (decide_eq_false ek)
   ·intro hy
    exact iteT (fin _ S5 fun m e=>by rw [(gI.mp e).1.2.2.1 dy hm] at hy; cases hy)
   intro hkn
   have zv:valD dy=z:=hz.ok.2
   have hall':∀ x∈(more++off).take (i + 1),(∃ m,LetW x m)∧isK k x=false:=fun x hx=>by
    rw [List.take_add_one,ey] at hx
    rcases List.mem_append.mp hx with hx | hx
    ·exact hall x hx
    ·rw [List.mem_singleton.mp hx]; exact ⟨⟨z,hz⟩,hkn⟩
   refine iteF ?_
   refine ⟨_,rfl,rfl,_,rfl,?_⟩
   rcases hk with rfl | rfl
   ·rw [decide_eq_true rfl]
    refine iteT ?_
    obtain ⟨iT,iB⟩:=inv.1 rfl
    refine ⟨_,rfl,_,rfl,_,rfl,(by show 2≤sizeLine; decide),fun pz hpz=>?_⟩
    have sz5:=Same.new (o:=.lst [V.int (-1),V.int 1]) hpz
    have hc:∃ c:Int,atI [V.int (-1),V.int 1] (if decide (((i:Nat):Int) < ((xm.length:Nat):Int))=true then 1 else 0)=some (.int c)∧(c=1∨c=-1)∧T + z * c=sumD (more.take (i + 1)) - sumD (off.take (i + 1 - more.length)):=by
     by_cases hlt:((i:Nat):Int) < ((xm.length:Nat):Int)
     ·obtain ⟨t1,t2⟩:=take_more ey (by lia)
      rw [decide_eq_true hlt,t1,t2,sumD_snoc,zv]
      exact ⟨1,rfl,.inl rfl,by lia⟩
     ·obtain ⟨t1,t2⟩:=take_off ey (by lia)
      rw [decide_eq_false hlt,t1,t2,sumD_snoc,zv]
      exact ⟨-1,rfl,.inr rfl,by lia⟩
    obtain ⟨c,hc,hc1,hT⟩:=hc
    refine ⟨_,rfl,_,rfl,pm,_,rfl,.inr (SqT.of (sz5 _ _ (S5 _ _ hpm))),_,_,rfl,rfl,.inr ⟨_,rfl,pz,_,_,.int c,rfl,rfl,SqL.of upd_same,hc,_,_,rfl,rfl,?_,_,_,rfl,rfl,?_⟩⟩
    ·rcases hc1 with rfl | rfl
     ·exact .inr ⟨by decide,by decide⟩
     ·exact .inr ⟨by decide,by decide⟩
    exact ⟨_,_,_,_,_,rfl,S5.trans sz5,sz5 _ _ gq5,hall',fun _=>⟨hT,iB⟩,fun e=>absurd e (by decide)⟩
   ·rw [decide_eq_false (fun e=>absurd (V.str.inj e) (by decide))]
    refine iteF ?_
    obtain ⟨iT,iB⟩:=inv.2 rfl
    have tkm:∀ x∈more.take i,∃ m,LetW x m:=fun x hx=>(hall x (by rw [List.take_append]; exact List.mem_append_left _ hx)).1
    have tko:∀ x∈off.take (i - more.length),∃ m,LetW x m:=fun x hx=>(hall x (by rw [List.take_append]; exact List.mem_append_right _ hx)).1
    have bm:=prod_bound tkm
    have bo:=prod_bound tko
    have bz:=let_bound hz
    have l1:=pow_small (n:=lvs (more.take i)) (by have:=lvs_take more i; lia)
    have l2:=pow_small (n:=lvs (off.take (i - more.length))) (by have:=lvs_take off (i - more.length); lia)
    have l3:=pow_small (n:=lv dy) (by lia)
    rw [← iT] at bm
    rw [← iB] at bo
    refine ⟨_,rfl,_,rfl,pm,_,rfl,.inr (SqT.of (S5 _ _ hpm)),_,_,rfl,rfl,_,rfl,?_⟩
    refine ite2 (fun cc=>?_) (fun cc=>?_)
    ·have hlt:((i:Nat):Int) < ((xm.length:Nat):Int):=of_decide_eq_true cc
     obtain ⟨t1,t2⟩:=take_more ey (by lia)
     refine ⟨_,rfl,_,rfl,_,_,rfl,rfl,mulOk_of (by lia) (by lia),?_⟩
     exact ⟨_,_,_,_,_,rfl,S5,gq5,hall',fun e=>absurd e (by decide),fun _=>⟨by rw [t1,prodD_snoc,zv,← iT],by rw [t2]; exact iB⟩⟩
    ·have hlt:¬ ((i:Nat):Int) < ((xm.length:Nat):Int):=fun z=>cc (decide_eq_true z)
     obtain ⟨t1,t2⟩:=take_off ey (by lia)
     refine ⟨_,rfl,_,rfl,_,_,rfl,rfl,mulOk_of (by lia) (by lia),?_⟩
     exact ⟨_,_,_,_,_,rfl,S5,gq5,hall',fun e=>absurd e (by decide),fun _=>⟨by rw [t1]; exact iT,by rw [t2,prodD_snoc,zv,← iB]⟩⟩
  ·rintro σ H' ⟨T,Bw,o1,o2,o3,rfl,sH,gq,hall,inv⟩
   have la:=dall.len
   rw [List.take_of_length_le (by lia)] at hall
   rw [List.length_append] at la
   rw [List.length_append,List.take_of_length_le (by lia),List.take_of_length_le (by lia)] at inv
   have kg:kpG k more off:=⟨hm0,by rw [List.length_append] at hl2; lia,fun x hx=>(hall x hx).2,om,oo⟩
   have hp:∀ x∈more++off,∃ m,LetW x m:=fun x hx=>(hall x hx).1
   have bm:=prod_bound fun x hx=>hp x (List.mem_append_left _ hx)
   have bo:=prod_bound fun x hx=>hp x (List.mem_append_right _ hx)
   have l2:=pow_small (n:=lvs off) (by lia)
   have l2':(1:Int) < 2 ^ 4000:=by decide +kernel
   have fB:1≤Bw∧Bw < 2 ^ 4000:=by
    rcases hk with rfl | rfl
    ·rw [(inv.1 rfl).2]; exact ⟨by decide,l2'⟩
    ·rw [(inv.2 rfl).2]; exact ⟨bo.1,by lia⟩
   have back:∀ m,Rel k more off m→m * Bw=T:=fun m hr=>by
    rcases hk with rfl | rfl
    ·rw [(inv.1 rfl).2,(inv.1 rfl).1,hr.1 rfl,Int.mul_one]
    ·rw [(inv.2 rfl).2,(inv.2 rfl).1]; exact hr.2 rfl
   have forth:∀ m,m * Bw=T→Rel k more off m:=fun m e=>by
    rcases hk with rfl | rfl
    ·refine ⟨fun _=>?_,fun z=>absurd z (by decide)⟩
     rw [(inv.1 rfl).2,(inv.1 rfl).1,Int.mul_one] at e
     exact e
    ·refine ⟨fun z=>absurd z (by decide),fun _=>?_⟩
     rw [(inv.2 rfl).2,(inv.2 rfl).1] at e
     exact e
   refine ⟨_,rfl,_,_,rfl,rfl,_,rfl,?_⟩
   by_cases h1:T < 1
   ·rw [decide_eq_true h1]
    refine iteT (iteT (fin _ sH fun m e=>?_))
    obtain ⟨_,_,e1,e2⟩:=gI.mp e
    have:=back m e2
    have h3:=Int.mul_le_mul e1 fB.1 (by decide) (by lia)
    lia
   rw [decide_eq_false h1]
   refine iteF ⟨_,rfl,_,rfl,_,_,rfl,rfl,(by show 0 < Bw; lia),rfl,_,rfl,?_⟩
   by_cases h2:T % Bw=0
   ·rw [decide_eq_true (congrArg V.int h2)]
    have e0:T / Bw * Bw=T:=Int.ediv_mul_cancel (Int.dvd_of_emod_eq_zero h2)
    have e1:1≤T / Bw:=by
     by_cases hz:T / Bw < 1
     ·have h3:T / Bw≤0:=by lia
      have:=Int.mul_le_mul_of_nonneg_right h3 (show (0:Int)≤Bw by lia)
      rw [Int.zero_mul] at this
      lia
     ·lia
    exact iteF ⟨_,rfl,_,rfl,_,_,rfl,rfl,⟨by lia,by lia⟩,q _ _ sH (.inl ⟨_,gI.mpr ⟨kg,hp,e1,forth _ e0⟩,rfl⟩)⟩
   ·rw [decide_eq_false (fun e=>h2 (V.int.inj e))]
    refine iteT (fin _ sH fun m e=>h2 ?_)
    obtain ⟨_,_,e1,e2⟩:=gI.mp e
    rw [← back m e2]
    exact Int.mul_emod_left ..
theorem ok_letw {f:Addr} {fd:FuncData} (F:Fun K "_law_let_worth" "_law_let_worth" s_law_let_worth f fd) (b:Binds K fd ["form"] []) (m:mg "_law_let_worth"=some (.ref f)) (B:Blt mg) (Benum:mg "enumerate"=none) (Gord:Def P w K mg base CX0 22 "_law_in_order" (spOrdTA 20)):∀ n,FnOk P w K mg base CX0 (n + 22) f fd ["form"] (spLetW n)
 | 0=>by
  have no:∀ vs H Q E,¬ spLetW 0 vs H Q E:=fun vs H Q E h=>by
   obtain ⟨v,d,_,_,_,h,_⟩:=h
   lia
  exact ⟨fun vs H Q E h=>absurd h (no vs H Q E),fun A outer s H args us vs Q E _ _ _ _ h=>absurd h (no vs H Q E)⟩
 | n + 1=>ok_letw_step F B Benum Gord (mkDef (ok_letw F b m B Benum Gord n) b m F.kp)
end
end Law
namespace Law
open PySem L2
section
variable {P:Program} {w:World} {K:PySem.W.Frag} {mg:Str→Option Value} {base:Heap}
noncomputable def kO:Option D→List Int
 | none=>[0]
 | some d=>kD d
noncomputable def sO:Option D→Nat
 | none=>1
 | some d=>sz d
noncomputable def sOs (l:List (Option D)):Nat:=(l.map sO).sum
inductive DatO (H:Hp):V→Option D→Prop
 | non:DatO H .non none
 | som {d:D} {v:V}:AF d→Dat H d v→DatO H v (some d)
theorem DatO.kt {H H':Hp} (k:KT H H') {o:Option D} {v:V} (h:DatO H v o):DatO H' v o:=by
 cases h with
 | non=>exact .non
 | som a b=>exact .som a (Dat.kt k _ b)
theorem sO_pos (o:Option D):1≤sO o:=by
 cases o with
 | none=>exact Nat.le_refl _
 | some d=>exact sz_pos d
theorem sOs_cons (o:Option D) (r:List (Option D)):sOs (o :: r)=sO o + sOs r:=by unfold sOs; rw [List.map_cons,List.sum_cons]
theorem sOs_app (a b:List (Option D)):sOs (a++b)=sOs a + sOs b:=by unfold sOs; rw [List.map_append,List.sum_append]
theorem sOs_some:∀ l:List D,sOs (l.map some)≤szs l
 | []=>Nat.zero_le _
 | d :: r=>by
  have:=sOs_some r
  rw [List.map_cons,sOs_cons,szs]
  show sz d + _≤_
  lia
theorem sOs_len:∀ l:List (Option D),l.length≤sOs l
 | []=>Nat.zero_le _
 | o :: r=>by
  have:=sOs_len r
  have:=sO_pos o
  rw [sOs_cons,List.length_cons]
  lia
theorem kO_some:∀ l:List D,(l.map some).flatMap kO=kS l
 | []=>by rw [kS_nil]; rfl
 | d :: r=>by rw [List.map_cons,List.flatMap_cons,kO_some r,kS_cons]; rfl
theorem datO_some {H:Hp}:∀ {l:List D} {xs:List V},(∀ x∈l,AF x)→Dats H l xs→Paired (DatO H) xs (l.map some)
 | [],xs,_,h=>by rw [h.nilE]; exact .nil
 | d :: r,xs,hf,h=>by
  obtain ⟨x,t,rfl,h1,h2⟩:=h.consE
  exact .cons (.som (hf d (List.mem_cons_self ..)) h1) (datO_some (fun z hz=>hf z (List.mem_cons_of_mem _ hz)) h2)
noncomputable def spOrder:Sp:=fun vs H Q _=>∃ (v:V) (d:D),vs=[v]∧Dat H d v∧AF d∧sz d≤495∧∀ (t:Addr) (H':Hp),Same H H'→H' t=some (.tup ((kD d).map V.int))→Q (.ref t) H'
noncomputable abbrev s_order_of:Stmt:=top 19
theorem sc_order_of:FnScope ["form","order","waiting","part","kind","more","off"] ["form"] (defScope s_order_of):=⟨rfl,rfl,rfl,by decide +kernel,rfl,by decide +kernel,by decide +kernel⟩
theorem ok_order {f dR:Addr} {fd:FuncData} (F:Fun K "order_of" "order_of" s_order_of f fd) (B:Blt mg) (mR:mg "RANKS"=some (.ref dR)) (TR:TopDict w K dR)
  (hR:∀ k:Str,(k="sum"∨k="product")→∃ t,PySem.W.nsIn K dR k=some (some (.int (rkK k) t))):FnOk P w K mg base CX0 1 f fd ["form"] spOrder:=by
 refine F.ok sc_order_of (fun vs H Q E h=>?_) (fun cdv A outer s H vs Q E hr h=>?_)
 ·obtain ⟨v,d,rfl,_⟩:=h
  rfl
 obtain ⟨v,d,rfl,hd,hF,hz,q⟩:=h
 have kl:=kD_lenA hF
 refine ⟨_,(pss_cons (ps_set (i:=1) sc_order_of.nd rfl (by first | exact Or.inl rfl | exact Or.inr rfl) (pe_lst pa_nil))
   (pss_cons (ps_set (i:=2) sc_order_of.nd rfl (by first | exact Or.inl rfl | exact Or.inr rfl) (pe_lst (pa_cons (pv 0) pa_nil)))
   (pss_cons (ps_while PassesOwn.never (pt_truth (pv 2) (fun _=>rfl)) (pss_cons (ps_set (i:=3) sc_order_of.nd rfl (by first | exact Or.inl rfl | exact Or.inr rfl) (pe_bm0 PySem.F.plainAttrs_list PySem.F.slot_list_pop PySem.F.type_list_pop mt_pop (pv 2)))
   (pss_one (ps_if (pt_cmpR op_isN (pv 3) pe_non (nomark _)) (pss_one (ps_expr (pe_bm PySem.F.plainAttrs_list PySem.F.slot_list_append PySem.F.type_list_append mt_append (pv 1) (pa_cons pe_int pa_nil)))) (pss_one (ps_if (pt_val (pe_isin B.isinstance B.tuple bt_tuple (pv 3))) (pss_cons (ps_asg (pv 3) (pg_tup rfl (pgs_cons (pg_name (i:=4) sc_order_of.nd rfl (by first | exact Or.inl rfl | exact Or.inr rfl)) (pgs_cons (pg_name (i:=5) sc_order_of.nd rfl (by first | exact Or.inl rfl | exact Or.inr rfl)) (pgs_cons (pg_name (i:=6) sc_order_of.nd rfl (by first | exact Or.inl rfl | exact Or.inr rfl)) pgs_nil)))))
   (pss_cons (ps_expr (pe_bm PySem.F.plainAttrs_list PySem.F.slot_list_append PySem.F.type_list_append mt_append (pv 1) (pa_cons (pe_ix ix_top (pe_glob (v:=.ref dR) rfl mR rfl) (pv 4) (fun _ _=>rfl)) pa_nil)))
   (pss_cons (ps_expr (pe_bm PySem.F.plainAttrs_list PySem.F.slot_list_append PySem.F.type_list_append mt_append (pv 2) (pa_cons pe_non pa_nil)))
   (pss_cons (ps_expr (pe_bm PySem.F.plainAttrs_list PySem.F.slot_list_extend PySem.F.type_list_extend mt_extendT (pv 2) (pa_cons (pe_revT (pv 6)) pa_nil)))
   (pss_cons (ps_expr (pe_bm PySem.F.plainAttrs_list PySem.F.slot_list_append PySem.F.type_list_append mt_append (pv 2) (pa_cons pe_non pa_nil)))
   (pss_one (ps_expr (pe_bm PySem.F.plainAttrs_list PySem.F.slot_list_extend PySem.F.type_list_extend mt_extendT (pv 2) (pa_cons (pe_revT (pv 5)) pa_nil))))))))) (pss_cons (ps_expr (pe_bm PySem.F.plainAttrs_list PySem.F.slot_list_append PySem.F.type_list_append mt_append (pv 1) (pa_cons pe_int pa_nil)))
   (pss_one (ps_expr (pe_bm PySem.F.plainAttrs_list PySem.F.slot_list_append PySem.F.type_list_append mt_append (pv 1) (pa_cons (pv 3) pa_nil)))))))))))
   (pss_one (ps_ret (pe_callTy call_tuple_of rfl B.tuple bt_tuple (pa_cons (pv 1) pa_nil))))))),?_⟩
 refine ⟨(by show 0≤sizeLine; decide),fun ps hps=>⟨_,rfl,(by show 1≤sizeLine; decide),fun pw hpw=>?_⟩⟩
 have hs1:(upd (upd H ps (.lst [])) pw (.lst [v])) ps=some (.lst []):=by rw [upd_ne (ne_of_none upd_same hpw),upd_same]
 have npw:H pw=none:=(Same.new hps).free hpw
 have nsw:ps≠pw:=ne_of_none upd_same hpw
 have S0:Same H (upd (upd H ps (.lst [])) pw (.lst [v])):=(Same.new hps).trans (Same.new hpw)
 refine ⟨fun m σ H'=>∃ (vr:List V) (wr:List (Option D)) (st:List Int) (o1 o2 o3 o4:Option V),σ=[some v,some (.ref ps),some (.ref pw),o1,o2,o3,o4]∧Same H H'∧H' ps=some (.lst (st.map V.int))∧H' pw=some (.lst vr.reverse)∧Paired (DatO H') vr wr∧st++wr.flatMap kO=kD d∧sOs wr≤495∧m=sOs wr,
  ⟨_,[v],[some d],[],none,none,none,none,rfl,S0,hs1,upd_same,.cons (.som hF (Dat.kt (KT.same S0) _ hd)) .nil,by rw [List.flatMap_cons,List.flatMap_nil,List.append_nil]; rfl,by unfold sOs; simpa [sO] using hz,rfl⟩,?_⟩
 rintro m σ H' ⟨vr,wr,st,o1,o2,o3,o4,rfl,sH,h1,h2,pr,eq,hsz,em⟩
 have lv:=pr.length
 have lw:=sOs_len wr
 have lst:st.length≤990:=by
  have:=congrArg List.length eq
  rw [List.length_append] at this
  lia
 have big:∀ k:Nat,k≤1000→k < sizeLine:=fun k=>small1000
 refine ⟨_,rfl,_,.inl ⟨_,SqL.of h2,rfl⟩,?_⟩
 cases pr with
 | nil =>
  refine iteF ?_
  have e:st=kD d:=by simpa using eq
  rw [e] at h1
  exact ⟨_,rfl,ps,_,rfl,.inl ⟨SqL.of h1,fun l hl=>q l _ (sH.trans (Same.new hl)) upd_same⟩⟩
 | @cons y z vr' wr' hy pr' =>
  have e2:(y :: vr').reverse=vr'.reverse++[y]:=List.reverse_cons
  have sn:=sOs_cons z wr'
  have zp:=sO_pos z
  rw [e2] at h2
  refine (show (if _ then _ else _:Prop) from ?_)
  have ne:(!((y :: vr').reverse).isEmpty)=true:=by rw [e2]; simp
  rw [if_pos ne]
  refine ⟨fun σ' H'=>∃ m',m' < m∧∃ (vr:List V) (wr:List (Option D)) (st:List Int) (o1 o2 o3 o4:Option V),σ'=[some v,some (.ref ps),some (.ref pw),o1,o2,o3,o4]∧Same H H'∧H' ps=some (.lst (st.map V.int))∧H' pw=some (.lst vr.reverse)∧Paired (DatO H') vr wr∧st++wr.flatMap kO=kD d∧sOs wr≤495∧m'=sOs wr,fun σ' H' h=>h,?_⟩
  refine ⟨_,rfl,.inl ⟨rfl,_,SqL.of h2⟩,pw,_,y,rfl,rfl,h2,(by simp),?_⟩
  rw [List.dropLast_concat]
  have h1a:(upd H' pw (.lst vr'.reverse)) ps=some (.lst (st.map V.int)):=by rw [upd_ne nsw]; exact h1
  have h2a:(upd H' pw (.lst vr'.reverse)) pw=some (.lst vr'.reverse):=upd_same
  have sW:∀ (o:HO) (H'':Hp),Same H H''→Same H (upd H'' pw o):=fun o H'' s b u e=>by rw [upd_ne (ne_of_none e npw)]; exact s b u e
  have sP:∀ (o:HO) (H'':Hp),Same H H''→Same H (upd H'' ps o):=fun o H'' s b u e=>by rw [upd_ne (ne_of_none e hps)]; exact s b u e
  have sHa:=sW (.lst vr'.reverse) _ sH
  have ka:KT H' (upd H' pw (.lst vr'.reverse)):=KT.upd h2
  have pra:=L2.Paired.mapP pr' fun _ _ h=>h.kt ka
  have hya:=hy.kt ka
  have eqz:st++(kO z++wr'.flatMap kO)=kD d:=by rw [← List.flatMap_cons]; exact eq
  have push:∀ (u:List Int) (a b c d':Option V) (m1:Hp),kO z=u→Same H m1→m1 ps=some (.lst (st.map V.int++u.map V.int))→m1 pw=some (.lst vr'.reverse)→KT (upd H' pw (.lst vr'.reverse)) m1→∃ m',m' < m∧∃ (vr:List V) (wr:List (Option D)) (st:List Int) (o1 o2 o3 o4:Option V),[some v,some (.ref ps),some (.ref pw),a,b,c,d']=[some v,some (.ref ps),some (.ref pw),o1,o2,o3,o4]∧Same H m1∧m1 ps=some (.lst (st.map V.int))∧m1 pw=some (.lst vr.reverse)∧Paired (DatO m1) vr wr∧st++wr.flatMap kO=kD d∧sOs wr≤495∧m'=sOs wr:=fun u a b c d' m1 hu g1 g2 g3 g4 =>
   ⟨sOs wr',by lia,vr',wr',st++u,a,b,c,d',rfl,g1,by rw [g2,List.map_append],g3,L2.Paired.mapP pra fun _ _ h=>h.kt g4,by rw [List.append_assoc,← hu]; exact eqz,by lia,rfl⟩
  have lsm:(st.map V.int).length≤990:=by rw [List.length_map]; exact lst
  cases hya with
  | non =>
   refine ⟨_,rfl,rfl,_,rfl,iteT ?_⟩
   refine ⟨_,rfl,.inl ⟨rfl,_,SqL.of h1a⟩,ps,_,_,rfl,rfl,h1a,big _ (by lia),?_⟩
   exact push [0] _ _ _ _ _ rfl (sP _ _ sHa) upd_same (by rw [upd_ne nsw.symm]; exact h2a) (KT.upd h1a)
  | @som z' _ hz1 hdz =>
   cases hz1 with
   | @num i g0 g1 =>
    have:=hdz.intE
    subst this
    refine ⟨_,rfl,rfl,_,rfl,iteF ?_⟩
    refine ⟨_,rfl,_,_,TyOf.int _,kit_int_tuple _,_,rfl,iteF ?_⟩
    refine ⟨_,rfl,.inl ⟨rfl,_,SqL.of h1a⟩,ps,_,_,rfl,rfl,h1a,big _ (by lia),?_⟩
    refine ⟨_,rfl,.inl ⟨rfl,_,SqL.of upd_same⟩,_,rfl,ps,_,_,rfl,rfl,upd_same,big _ (by rw [List.length_append]; show _ + 1≤_; lia),?_⟩
    exact push [1,i] _ _ _ _ _ (kD_int i) (sP _ _ (sP _ _ sHa)) (by rw [upd_same,List.append_assoc]; rfl) (by rw [upd_ne nsw.symm,upd_ne nsw.symm]; exact h2a) ((KT.upd h1a).trans (KT.upd upd_same))
   | @grp k more off hk g1 g2 =>
    obtain ⟨p,pm,po,xm,xo,rfl,hp,hpm,hpo,d1,d2⟩:=dat_grpA hdz
    have sg:=sz_grpE k more off
    obtain ⟨t1,e1⟩:=hR k hk
    have szz:sO (some (D.tup [.str k,.tup more,.tup off]))=sz (.tup [.str k,.tup more,.tup off]):=rfl
    have c1:=szs_len more
    have c2:=szs_len off
    have lm:=d1.len
    have lo:=d2.len
    have lv':=pra.length
    have lw':=sOs_len wr'
    refine ⟨_,rfl,rfl,_,rfl,iteF ?_⟩
    refine ⟨_,rfl,_,_,TyOf.tup hp,kit_tup_tup _,_,rfl,iteT ?_⟩
    refine ⟨_,rfl,p,_,rfl,SqT.of hp,rfl,_,_,rfl,_,_,rfl,_,_,rfl,rfl,?_⟩
    refine ⟨_,rfl,.inl ⟨rfl,_,SqL.of h1a⟩,?_⟩
    refine ⟨_,rfl,dR,k,.int (rkK k),_,rfl,rfl,TR,e1,⟨t1,rfl⟩,?_⟩
    refine ⟨ps,_,_,rfl,rfl,h1a,big _ (by lia),?_⟩
    have h2b:(upd (upd H' pw (.lst vr'.reverse)) ps (.lst (st.map V.int++[.int (rkK k)]))) pw=some (.lst vr'.reverse):=by rw [upd_ne nsw.symm]; exact h2a
    refine ⟨_,rfl,.inl ⟨rfl,_,SqL.of h2b⟩,pw,_,_,rfl,rfl,h2b,big _ (by rw [List.length_reverse]; lia),?_⟩
    have k0:KT (upd H' pw (.lst vr'.reverse)) (upd (upd H' pw (.lst vr'.reverse)) ps (.lst (st.map V.int++[.int (rkK k)]))):=KT.upd h1a
    have k1:=k0.trans (KT.upd (o:=.lst (vr'.reverse++[.non])) h2b)
    have s1:=sW (.lst (vr'.reverse++[.non])) _ (sP (.lst (st.map V.int++[.int (rkK k)])) _ sHa)
    have f1:(upd (upd (upd H' pw (.lst vr'.reverse)) ps (.lst (st.map V.int++[.int (rkK k)]))) pw (.lst (vr'.reverse++[.non]))) ps=some (.lst (st.map V.int++[.int (rkK k)])):=by rw [upd_ne nsw,upd_same]
    have f2:(upd (upd (upd H' pw (.lst vr'.reverse)) ps (.lst (st.map V.int++[.int (rkK k)]))) pw (.lst (vr'.reverse++[.non]))) pw=some (.lst (vr'.reverse++[.non])):=upd_same
    generalize upd (upd (upd H' pw (.lst vr'.reverse)) ps (.lst (st.map V.int++[.int (rkK k)]))) pw (.lst (vr'.reverse++[.non]))=G1 at k1 s1 f1 f2 ⊢
    refine ⟨_,rfl,.inl ⟨rfl,_,SqL.of f2⟩,_,rfl,po,_,rfl,SqT.of (k1 _ _ hpo),fun pp hpp=>?_⟩
    have f3:=Same.new (o:=.tup xo.reverse) hpp _ _ f2
    refine ⟨pw,pp,_,_,rfl,rfl,f3,upd_same,by rw [List.length_append,List.length_reverse,List.length_reverse]; show _ + 1 + _≤_; lia,?_⟩
    have k2:=(k1.trans (KT.new (o:=.tup xo.reverse) hpp)).trans (KT.upd (o:=.lst (vr'.reverse++[.non]++xo.reverse)) f3)
    have s2:=sW (.lst (vr'.reverse++[.non]++xo.reverse)) _ (s1.trans (Same.new (o:=.tup xo.reverse) hpp))
    have f4:(upd (upd G1 pp (.tup xo.reverse)) pw (.lst (vr'.reverse++[.non]++xo.reverse))) ps=some (.lst (st.map V.int++[.int (rkK k)])):=by rw [upd_ne nsw]; exact Same.new hpp _ _ f1
    have f5:(upd (upd G1 pp (.tup xo.reverse)) pw (.lst (vr'.reverse++[.non]++xo.reverse))) pw=some (.lst (vr'.reverse++[.non]++xo.reverse)):=upd_same
    generalize upd (upd G1 pp (.tup xo.reverse)) pw (.lst (vr'.reverse++[.non]++xo.reverse))=G3 at k2 s2 f4 f5 ⊢
    refine ⟨_,rfl,.inl ⟨rfl,_,SqL.of f5⟩,pw,_,_,rfl,rfl,f5,big _ (by rw [List.length_append,List.length_append,List.length_reverse,List.length_reverse]; show _ + 1 + _≤_; lia),?_⟩
    have k4:=k2.trans (KT.upd (o:=.lst (vr'.reverse++[.non]++xo.reverse++[.non])) f5)
    have s4:=sW (.lst (vr'.reverse++[.non]++xo.reverse++[.non])) _ s2
    have f6:(upd G3 pw (.lst (vr'.reverse++[.non]++xo.reverse++[.non]))) ps=some (.lst (st.map V.int++[.int (rkK k)])):=by rw [upd_ne nsw]; exact f4
    have f7:(upd G3 pw (.lst (vr'.reverse++[.non]++xo.reverse++[.non]))) pw=some (.lst (vr'.reverse++[.non]++xo.reverse++[.non])):=upd_same
    generalize upd G3 pw (.lst (vr'.reverse++[.non]++xo.reverse++[.non]))=G4 at k4 s4 f6 f7 ⊢
    refine ⟨_,rfl,.inl ⟨rfl,_,SqL.of f7⟩,_,rfl,pm,_,rfl,SqT.of (k4 _ _ hpm),fun pq hpq=>?_⟩
    have f8:=Same.new (o:=.tup xm.reverse) hpq _ _ f7
    refine ⟨pw,pq,_,_,rfl,rfl,f8,upd_same,by rw [List.length_append,List.length_append,List.length_append,List.length_reverse,List.length_reverse,List.length_reverse]; show _ + 1 + _ + 1 + xm.length≤_; lia,?_⟩
    have k6:=(k4.trans (KT.new (o:=.tup xm.reverse) hpq)).trans (KT.upd (o:=.lst (vr'.reverse++[.non]++xo.reverse++[.non]++xm.reverse)) f8)
    have a1:=sOs_some more
    have a2:=sOs_some off
    have cnt:sOs (more.map some++(none :: (off.map some++(none :: wr'))))≤szs more + szs off + 2 + sOs wr':=by
     rw [sOs_app,sOs_cons,sOs_app,sOs_cons]
     show _ + (1 + (_ + (1 + _)))≤_
     lia
    refine ⟨sOs (more.map some++(none :: (off.map some++(none :: wr')))),by lia,xm++(.non :: (xo++(.non :: vr'))),more.map some++(none :: (off.map some++(none :: wr'))),st++[rkK k],_,_,_,_,rfl,sW _ _ (s4.trans (Same.new hpq)),?_,?_,?_,?_,by lia,rfl⟩
    ·rw [upd_ne nsw,Same.new hpq _ _ f6,List.map_append]; rfl
    ·rw [upd_same]; simp
    ·have w1:=datO_some g1 (Dats.kt k6 _ d1)
     have w2:=datO_some g2 (Dats.kt k6 _ d2)
     exact pr_app w1 (.cons .non (pr_app w2 (.cons .non (L2.Paired.mapP pra fun _ _ h=>h.kt k6))))
    ·rw [List.flatMap_append,List.flatMap_cons,List.flatMap_append,List.flatMap_cons,kO_some,kO_some,← eqz]
     show _=st++(kD _++_)
     rw [kD_grp]
     simp [kO]
end
end Law
namespace Law
open PySem L2
section
variable {P:Program} {w:World} {K:PySem.W.Frag} {mg:Str→Option Value} {base:Heap}
noncomputable def SP (H:Hp) (v:V) (p:Way×Int):Prop:=∃ (t:Addr) (u:V),v=.ref t∧H t=some (.tup [u,.int p.2])∧WayIn H u p.1
theorem SP.kt {H H':Hp} {v:V} {p:Way×Int} (h:SP H v p) (k:KT H H'):SP H' v p:=by
 obtain ⟨t,u,rfl,ht,hu⟩:=h
 exact ⟨t,u,rfl,k _ _ ht,hu.kt k⟩
noncomputable def Wd (k a b:Str):Prop:=(k="sum"∧a="plus"∧b="less")∨(k="product"∧a="times"∧b="share")
theorem Wd.ne {k a b:Str} (h:Wd k a b):a≠b:=by
 rcases h with ⟨_,rfl,rfl⟩ | ⟨_,rfl,rfl⟩ <;> decide
theorem Wd.knd {k a b w:Str} (h:Wd k a b) (hw:w=a∨w=b):knd w=k:=by
 rcases h with ⟨rfl,rfl,rfl⟩ | ⟨rfl,rfl,rfl⟩ <;> rcases hw with rfl | rfl <;> (unfold Law.knd; decide)
theorem Wd.not {k a b w:Str} (h:Wd k a b) (ow:okWord w) (hw:¬ (w=a∨w=b)):Law.knd w≠k:=by
 rcases h with ⟨rfl,rfl,rfl⟩ | ⟨rfl,rfl,rfl⟩ <;> rcases ow with rfl | rfl | rfl | rfl <;> first | exact absurd (.inl rfl) hw | exact absurd (.inr rfl) hw | (unfold Law.knd; decide)
theorem Wd.turn {k a b:Str} (h:Wd k a b):trn a=false∧trn b=true:=by
 rcases h with ⟨_,rfl,rfl⟩ | ⟨_,rfl,rfl⟩ <;> exact ⟨by decide,by decide⟩
theorem spr_op {k w:Str} {a b:Way} {sg:Int} (h:knd w=k):spr k (.op w a b) sg=spr k a sg++spr k b (sg * (if trn w then -1 else 1)):=by rw [spr,if_pos h]
theorem spr_no {k w:Str} {a b:Way} {sg:Int} (h:knd w≠k):spr k (.op w a b) sg=[(.op w a b,sg)]:=by rw [spr,if_neg h]
theorem spr_sm (k:Str):∀ (x:Way) (sg:Int),((spr k x sg).map (fun p=>p.1.size)).sum=x.size:=by
 intro x
 induction x with
 | num n=>intro sg; rfl
 | op w a b ia ib =>
  intro sg
  by_cases e:knd w=k
  ·rw [spr_op e,List.map_append,List.sum_append,ia,ib]; rfl
  ·rw [spr_no e]; rfl
theorem spr_len (k:Str):∀ (x:Way) (sg:Int),1≤(spr k x sg).length:=by
 intro x
 induction x with
 | num n=>intro sg; exact Nat.le_refl _
 | op w a b ia ib =>
  intro sg
  by_cases e:knd w=k
  ·rw [spr_op e,List.length_append]; have:=ia sg; lia
  ·rw [spr_no e]; exact Nat.le_refl _
theorem spr_two {k w:Str} {a b:Way} {sg:Int} (h:knd w=k):2≤(spr k (.op w a b) sg).length:=by
 rw [spr_op h,List.length_append]
 have:=spr_len k a sg
 have:=spr_len k b (sg * (if trn w then -1 else 1))
 lia
theorem spr_ok (k:Str):∀ (x:Way) (sg:Int),x.ok 1000000→(sg=1∨sg=-1)→∀ p∈spr k x sg,p.1.ok 1000000∧(p.2=1∨p.2=-1):=by
 intro x
 induction x with
 | num n=>intro sg ho hs p hp; rw [List.mem_singleton.mp hp]; exact ⟨ho,hs⟩
 | op w a b ia ib =>
  intro sg ho hs p hp
  by_cases e:knd w=k
  ·rw [spr_op e] at hp
   rcases List.mem_append.mp hp with hp | hp
   ·exact ia sg ho.2.1 hs p hp
   ·refine ib _ ho.2.2 ?_ p hp
    rcases hs with rfl | rfl <;> cases trn w <;> decide
  ·rw [spr_no e] at hp
   rw [List.mem_singleton.mp hp]
   exact ⟨ho,hs⟩
noncomputable def spSpread (n:Nat):Sp:=fun vs H Q _=>∃ (v:V) (x:Way) (pw:Addr) (k a b:Str) (sg:Int),vs=[v,.ref pw,.int sg]∧WayIn H v x∧x.ok 1000000∧x.ht < n∧x.size≤100∧H pw=some (.lst [.str a,.str b])∧Wd k a b∧(sg=1∨sg=-1) ∧
 ∀ (r:Addr) (rs:List V) (H':Hp),Same H H'→H' r=some (.lst rs)→Paired (SP H') rs (spr k x sg)→Q (.ref r) H'
theorem ix_two {k a b w:Str} (h':Wd k a b) (hw:w=a∨w=b):∃ (j:Nat),([V.str a,V.str b][j]?=some (.str w))∧(∀ (m:Nat) (z:V),m < j→[V.str a,V.str b][m]?=some z→eqV z (.str w)=false)∧atI [V.int 1,V.int (-1)] (j:Int)=some (V.int (if trn w then -1 else 1)):=by
 have h:=h'.ne
 obtain ⟨ta,tb⟩:=h'.turn
 rcases hw with rfl | rfl
 ·exact ⟨0,rfl,(fun m z h=>absurd h (Nat.not_lt_zero _)),by rw [ta]; rfl⟩
 ·refine ⟨1,rfl,(fun m z hm hz=>?_),by rw [tb]; rfl⟩
  match m,hm,hz with
  | 0,_,hz=>cases hz; simp [eqV,h]
theorem inV_two {a b w:Str}:inV (.str w) [V.str a,V.str b]=true↔(w=a∨w=b):=by
 show ((a == w) || ((b == w) || false))=true↔_
 constructor
 ·intro h
  rcases Bool.or_eq_true_iff.mp h with h | h
  ·exact .inl (eq_of_beq h).symm
  ·rcases Bool.or_eq_true_iff.mp h with h | h
   ·exact .inr (eq_of_beq h).symm
   ·cases h
 ·rintro (rfl | rfl)
  ·rw [beq_self_eq_true,Bool.true_or]
  ·rw [beq_self_eq_true,Bool.true_or,Bool.or_true]
noncomputable abbrev s_law_spread:Stmt:=top 39
theorem sc_law_spread:FnScope ["way","words","sign","turned"] ["way","words","sign"] (defScope s_law_spread):=⟨rfl,rfl,rfl,by decide +kernel,rfl,by decide +kernel,by decide +kernel⟩
theorem ok_spread_step {n:Nat} {f:Addr} {fd:FuncData} (F:Fun K "_law_spread" "_law_spread" s_law_spread f fd) (B:Blt mg) (Gspread:Def P w K mg base CX0 (n + 1) "_law_spread" (spSpread n)):FnOk P w K mg base CX0 (n + 2) f fd ["way","words","sign"] (spSpread (n + 1)):=by
 refine F.ok sc_law_spread (fun vs H Q E h=>?_) (fun cdv A outer s H vs Q E hr h=>?_)
 ·obtain ⟨v,x,pw,k,a,b,sg,rfl,_⟩:=h
  rfl
 obtain ⟨v,x,pw,k,a,b,sg,rfl,hx,ho,hh,hs,hpw,hab,hsg,q⟩:=h
 have single:∀ (nw:spr k x sg=[(x,sg)]),∃ (_:2≤sizeLine),∀ t,H t=none→∃ (_:1≤sizeLine),∀ r,(upd H t (.tup [v,.int sg])) r=none→Q (.ref r) (upd (upd H t (.tup [v,.int sg])) r (.lst [.ref t])):=fun nw=>by
  refine ⟨by decide,fun t ht=>⟨by decide,fun r hr'=>?_⟩⟩
  have s2:Same H (upd (upd H t (.tup [v,.int sg])) r (.lst [.ref t])):=(Same.new ht).trans (Same.new hr')
  refine q r [.ref t] _ s2 upd_same ?_
  rw [nw]
  exact .cons ⟨t,v,rfl,Same.new hr' _ _ upd_same,hx.kt (KT.same s2)⟩ .nil
 refine ⟨_,(pss_cons (ps_if (PW.pt (pw_or (pt_val (pe_isin B.isinstance B.int bt_int (pv 0))) (pw_or1 (pt_cmpR op_notIn_seq (pe_ix ix_tup (pv 0) pe_int (fun _ _=>rfl)) (pv 1) rfl)))) (pss_one (ps_ret (pe_lst (pa_cons (pe_tup (pa_cons (pv 0) (pa_cons (pv 2) pa_nil))) pa_nil star_tup)))) pss_nil)
   (pss_cons (ps_set (i:=3) sc_law_spread.nd rfl (by first | exact Or.inl rfl | exact Or.inr rfl) (pe_op op_mul (pv 2) (pe_ix ix_list (pe_lst (pa_cons pe_int (pa_cons (pe_un un_neg pe_int) pa_nil))) (pe_bm PySem.F.plainAttrs_list PySem.F.slot_list_index PySem.F.type_list_index mt_index (pv 1) (pa_cons (pe_ix ix_tup (pv 0) pe_int (fun _ _=>rfl)) pa_nil)) (fun _ _=>rfl))))
   (pss_one (ps_ret (pe_op op_cat (pe_def Gspread (hr.mono (by lia)) (pa_cons (pe_ix ix_tup (pv 0) pe_int (fun _ _=>rfl)) (pa_cons (pv 1) (pa_cons (pv 2) pa_nil)))) (pe_def Gspread (hr.mono (by lia)) (pa_cons (pe_ix ix_tup (pv 0) pe_int (fun _ _=>rfl)) (pa_cons (pv 1) (pa_cons (pv 3) pa_nil))))))))),?_⟩
 cases hx with
 | num n0 =>
  obtain ⟨z1,h1⟩:=single rfl
  refine ⟨_,rfl,_,_,TyOf.int _,kit_int_int _,_,rfl,iteT (iteT ?_)⟩
  exact ⟨_,rfl,_,rfl,z1,fun t ht=>by obtain ⟨z2,h2⟩:=h1 t ht; exact ⟨z2,h2⟩⟩
 | @op p wd x1 y1 a1 b1 hp ha hb =>
  obtain ⟨hw,oa,ob⟩:=ho
  refine ⟨_,rfl,_,_,TyOf.tup hp,kit_tup_int _,_,rfl,iteF ?_⟩
  refine ⟨_,rfl,p,_,_,_,rfl,rfl,SqT.of hp,atI_nat (j:=0) rfl,_,rfl,pw,_,rfl,.inl (SqL.of hpw),rfl,rfl,_,rfl,?_⟩
  by_cases hin:wd=a∨wd=b
  ·rw [show inV (V.str wd) [V.str a,V.str b]=true from inV_two.mpr hin]
   refine iteF ?_
   obtain ⟨j,hj,hno,hcg⟩:=ix_two hab hin
   have kn:=hab.knd hin
   refine ⟨_,rfl,_,rfl,(by show 2≤sizeLine; decide),fun pz hpz=>?_⟩
   have sz:Same H (upd H pz (.lst [V.int 1,V.int (-1)])):=Same.new hpz
   refine ⟨_,rfl,.inl ⟨rfl,_,SqL.of (sz _ _ hpw)⟩,_,rfl,p,_,_,_,rfl,rfl,SqT.of (sz _ _ hp),atI_nat (j:=0) rfl,?_⟩
   refine ⟨pw,_,.str wd,j,rfl,rfl,SqL.of (sz _ _ hpw),rfl,rfl,⟨_,hj,by simp [eqV]⟩,hno,?_⟩
   refine ⟨pz,_,_,_,rfl,rfl,SqL.of upd_same,hcg,_,_,rfl,rfl,?_,?_⟩
   ·rcases hsg with rfl | rfl
    ·exact .inl ⟨by decide,by decide⟩
    ·exact .inl ⟨by decide,by decide⟩
   have htu:sg * (if trn wd then -1 else 1)=1∨sg * (if trn wd then -1 else 1)=-1:=by
    rcases hsg with rfl | rfl <;> cases trn wd <;> decide
   have e2:(Way.op wd a1 b1).size=a1.size + b1.size:=rfl
   have e3:(Way.op wd a1 b1).ht=max a1.ht b1.ht + 1:=rfl
   refine ⟨_,rfl,p,_,_,_,rfl,rfl,SqT.of (sz _ _ hp),atI_nat (j:=1) rfl,_,rfl,_,rfl,x1,a1,pw,k,a,b,sg,rfl,ha.kt (KT.same sz),oa,by lia,by lia,sz _ _ hpw,hab,hsg,fun r1 rs1 H1 s1 hr1 pr1=>?_⟩
   have sz1:=sz.trans s1
   refine ⟨_,rfl,p,_,_,_,rfl,rfl,SqT.of (sz1 _ _ hp),atI_nat (j:=2) rfl,_,rfl,_,rfl,y1,b1,pw,k,a,b,_,rfl,hb.kt (KT.same sz1),ob,by lia,by lia,sz1 _ _ hpw,hab,htu,fun r2 rs2 H2 s2 hr2 pr2=>?_⟩
   have l1:=pr1.length
   have l2:=pr2.length
   have bd:∀ {ps:List (Way×Int)},ps.length≤(ps.map (fun p=>p.1.size)).sum:=fun {ps}=>by
    induction ps with
    | nil=>exact Nat.le_refl _
    | cons p r ih=>rw [List.map_cons,List.sum_cons,List.length_cons]; have:=p.1.size_pos; lia
   have b1':=bd (ps:=spr k a1 sg)
   have b2':=bd (ps:=spr k b1 (sg * (if trn wd then -1 else 1)))
   have sm1:=spr_sm k a1 sg
   have sm2:=spr_sm k b1 (sg * (if trn wd then -1 else 1))
   refine ⟨r1,r2,_,_,rfl,rfl,s2 _ _ hr1,hr2,Nat.le_of_lt (small1000 (by lia)),fun r3 hr3=>?_⟩
   refine q r3 (rs1++rs2) _ (sz1.trans (s2.trans (Same.new hr3))) upd_same ?_
   rw [spr_op kn]
   exact pr_app (L2.Paired.mapP pr1 fun _ _ h=>h.kt (KT.same (s2.trans (Same.new hr3)))) (L2.Paired.mapP pr2 fun _ _ h=>h.kt (KT.same (Same.new hr3)))
  ·rw [show inV (V.str wd) [V.str a,V.str b]=false from by cases h:inV (V.str wd) [V.str a,V.str b] with | false=>rfl | true=>exact absurd (inV_two.mp h) hin]
   refine iteT ?_
   obtain ⟨z1,h1⟩:=single (spr_no (hab.not hw hin))
   exact ⟨_,rfl,_,rfl,z1,fun t ht=>by obtain ⟨z2,h2⟩:=h1 t ht; exact ⟨z2,h2⟩⟩
theorem ok_spread {f:Addr} {fd:FuncData} (F:Fun K "_law_spread" "_law_spread" s_law_spread f fd) (b:Binds K fd ["way","words","sign"] []) (m:mg "_law_spread"=some (.ref f)) (B:Blt mg):∀ n,FnOk P w K mg base CX0 (n + 1) f fd ["way","words","sign"] (spSpread n)
 | 0=>by
  have no:∀ vs H Q E,¬ spSpread 0 vs H Q E:=fun vs H Q E h=>by
   obtain ⟨v,x,pw,k,a,b,sg,_,_,_,h,_⟩:=h
   lia
  exact ⟨fun vs H Q E h=>absurd h (no vs H Q E),fun A outer s H args us vs Q E _ _ _ _ h=>absurd h (no vs H Q E)⟩
 | n + 1=>ok_spread_step F B (mkDef (ok_spread F b m B n) b m F.kp)
theorem dep_grpE (k:Str) (more off:List D):(D.tup [.str k,.tup more,.tup off]).dep=max (deps more + 1) (deps off + 1) + 1:=by
 have e1:∀ l,(D.tup l).dep=deps l + 1:=fun l=>by rw [D.dep]
 have e2:(D.str k).dep=0:=by rw [D.dep]; all_goals simp
 have e3:∀ (d:D) (r:List D),deps (d :: r)=max d.dep (deps r):=fun d r=>by rw [deps]
 have e4:deps []=0:=by rw [deps]
 rw [e1,e3,e3,e3,e4,e2,e1,e1]
 lia
theorem pf_dep {k:Str} {d x:D} (h:IsForm d) (hx:x∈(pf k d).1∨x∈(pf k d).2):x.dep≤d.dep:=by
 have one:∀ d:D,(x∈[d]∨x∈([]:List D))→x.dep≤d.dep:=fun d h=>by
  rcases h with h | h
  ·rw [List.mem_singleton.mp h]; exact Nat.le_refl _
  ·cases h
 cases h with
 | num h0 h1=>exact one _ hx
 | @grp k' m0 more off hk g0 g1 g2 =>
  rw [pf_grp] at hx
  split at hx
  ·rw [dep_grpE]
   rcases hx with h | h
   ·have:=deps_mem (l:=m0 :: more) h; lia
   ·have:=deps_mem (l:=off) h; lia
  ·exact one _ hx
theorem fP_dep:∀ {x:Way},x.ok 1000000→(fP x).dep + 2≤2 * x.size:=by
 intro x
 induction x with
 | num n=>intro _; show (D.int n).dep + 2≤2 * 1; rw [D.dep]; all_goals simp
 | op w a b ia ib =>
  intro h
  obtain ⟨_,ha,hb⟩:=h
  have i1:=ia ha
  have i2:=ib hb
  have pa:=a.size_pos
  have pb:=b.size_pos
  have es:(Way.op w a b).size=a.size + b.size:=rfl
  have all:∀ x,(x∈(pf (knd w) (fP a)).1∨x∈(pf (knd w) (fP a)).2)∨(x∈(pf (knd w) (fP b)).1∨x∈(pf (knd w) (fP b)).2)→x.dep≤2 * (a.size + b.size) - 4:=fun x hx=>by
   rcases hx with hx | hx
   ·have:=pf_dep (fP_form ha) hx; lia
   ·have:=pf_dep (fP_form hb) hx; lia
  have sw:∀ x,(x∈(swp (trn w) (pf (knd w) (fP b))).1∨x∈(swp (trn w) (pf (knd w) (fP b))).2)→(x∈(pf (knd w) (fP b)).1∨x∈(pf (knd w) (fP b)).2):=fun x hx=>by
   cases ht:trn w with
   | false=>rw [ht] at hx; exact hx
   | true=>rw [ht] at hx; exact hx.symm
  have d1:deps (srtD ((pf (knd w) (fP a)).1++(swp (trn w) (pf (knd w) (fP b))).1))≤2 * (a.size + b.size) - 4:=deps_le fun x hx=>by
   rcases List.mem_append.mp ((srtD_perm _).mem_iff.mp hx) with h | h
   ·exact all x (.inl (.inl h))
   ·exact all x (.inr (sw x (.inl h)))
  have d2:deps (srtD ((pf (knd w) (fP a)).2++(swp (trn w) (pf (knd w) (fP b))).2))≤2 * (a.size + b.size) - 4:=deps_le fun x hx=>by
   rcases List.mem_append.mp ((srtD_perm _).mem_iff.mp hx) with h | h
   ·exact all x (.inl (.inr h))
   ·exact all x (.inr (sw x (.inr h)))
  rw [fP,dep_grpE]
  lia
theorem part_le {ps:List (Way×Int)} {p:Way×Int} (h:p∈ps) (h2:2≤ps.length):p.1.size + 1≤(ps.map (fun p=>p.1.size)).sum:=by
 have bd:∀ {ps:List (Way×Int)},ps.length≤(ps.map (fun p=>p.1.size)).sum:=fun {ps}=>by
  induction ps with
  | nil=>exact Nat.le_refl _
  | cons p r ih=>rw [List.map_cons,List.sum_cons,List.length_cons]; have:=p.1.size_pos; lia
 obtain ⟨l,r,rfl⟩:=List.append_of_mem h
 have b1:=bd (ps:=l)
 have b2:=bd (ps:=r)
 rw [List.length_append,List.length_cons] at h2
 rw [List.map_append,List.sum_append,List.map_cons,List.sum_cons]
 lia
noncomputable def pos1 (p:Way×Int):Bool:=decide (0 < p.2)
noncomputable def neg1 (p:Way×Int):Bool:=decide (p.2 < 0)
noncomputable def fst1 (q:Way×Int→Bool) (ps:List (Way×Int)):List Way:=(ps.filter q).map (·.1)
theorem fst1_take {q:Way×Int→Bool} {ps:List (Way×Int)} {i:Nat} {p:Way×Int} (h:ps[i]?=some p):fst1 q (ps.take (i + 1))=fst1 q (ps.take i)++(if q p=true then [p.1] else []):=by
 unfold fst1
 rw [List.take_succ,h,List.filter_append,List.map_append]
 cases hq:q p <;> simp [hq]
theorem psF_eq (ps:List (Way×Int)):psF ps=(fst1 pos1 ps).map fP:=by
 unfold psF fst1 pos1
 rw [List.map_map]
 rfl
theorem ngF_eq (ps:List (Way×Int)):ngF ps=(fst1 neg1 ps).map fP:=by
 unfold ngF fst1 neg1
 rw [List.map_map]
 rfl
theorem paired_get {α β:Type} {F:α→β→Prop}:∀ {xs:List α} {ys:List β} {i:Nat} {x:α},Paired F xs ys→xs[i]?=some x→∃ y,ys[i]?=some y∧F x y
 | _,_,0,_,.cons h _,e=>by cases e; exact ⟨_,rfl,h⟩
 | _,_,i + 1,_,.cons _ r,e=>paired_get (i:=i) r (by simpa using e)
noncomputable def spForm (n:Nat):Sp:=fun vs H Q _=>∃ (v:V) (x:Way),vs=[v]∧WayIn H v x∧x.ok 1000000∧x.size≤n∧x.size≤9∧∀ (u:V) (H':Hp),Same H H'→Dat H' (fP x) u→Q u H'
noncomputable abbrev s_law_form:Stmt:=top 43
theorem sc_law_form:FnScope ["way","kind","parts","more","off"] ["way"] (defScope s_law_form):=⟨rfl,rfl,rfl,by decide +kernel,rfl,by decide +kernel,by decide +kernel⟩
theorem ok_form_step {n:Nat} {f:Addr} {fd:FuncData} (F:Fun K "_law_form" "_law_form" s_law_form f fd) (B:Blt mg) (Gspread:Def P w K mg base CX0 11 "_law_spread" (spSpread 10)) (Gord:Def P w K mg base CX0 22 "_law_in_order" (spOrdL 20)) (Gform:Def P w K mg base CX0 (n + 22) "_law_form" (spForm n)):FnOk P w K mg base CX0 (n + 23) f fd ["way"] (spForm (n + 1)):=by
 refine F.ok (k:=n + 22) sc_law_form (fun vs H Q E h=>?_) (fun cdv A outer s H vs Q E hr h=>?_)
 ·obtain ⟨v,x,rfl,_⟩:=h
  rfl
 obtain ⟨v,x,rfl,hx,ho,hn,h9,q⟩:=h
 refine ⟨_,(pss_cons (ps_if (pt_val (pe_isin B.isinstance B.int bt_int (pv 0))) (pss_one (ps_ret (pv 0))) pss_nil)
   (pss_cons (ps_set (i:=1) sc_law_form.nd rfl (by first | exact Or.inl rfl | exact Or.inr rfl) (pe_callTy call_int1 rfl B.int bt_int (pa_cons (pe_cmpR op_in_seq (pe_ix ix_tup (pv 0) pe_int (fun _ _=>rfl)) (pe_lst (pa_cons pe_str (pa_cons pe_str pa_nil))) rfl) pa_nil)))
   (pss_cons (ps_set (i:=2) sc_law_form.nd rfl (by first | exact Or.inl rfl | exact Or.inr rfl) (pe_def Gspread (hr.mono (by lia)) (pa_cons (pv 0) (pa_cons (pe_ix ix_list (pe_lst (pa_cons (pe_lst (pa_cons pe_str (pa_cons pe_str pa_nil))) (pa_cons (pe_lst (pa_cons pe_str (pa_cons pe_str pa_nil))) pa_nil))) (pv 1) (fun _ _=>rfl)) (pa_cons pe_int pa_nil)))))
   (pss_cons (ps_setC (i:=3) sc_law_form.nd rfl (by first | exact Or.inl rfl | exact Or.inr rfl) (N:=["part","sign"]) rfl (csC_of [none,none] rfl (by decide +kernel) (by decide +kernel) rfl rfl) rfl (pi_list (pv 2)) (fun _ _ _ _=>(pg_tup rfl (pgs_cons (pg_name (i:=0) (show (["part","sign"]:List Str).Nodup by decide +kernel) rfl (by first | exact Or.inl rfl | exact Or.inr rfl)) (pgs_cons (pg_name (i:=1) (show (["part","sign"]:List Str).Nodup by decide +kernel) rfl (by first | exact Or.inl rfl | exact Or.inr rfl)) pgs_nil)))) (fun _ _ _ _=>(ptl_one (pt_cmpR op_gt (pv 1) pe_int (nomark _)))) (fun _ _ _ _=>(pe_def Gform (hr.mono (by lia)) (pa_cons (pv 0) pa_nil))))
   (pss_cons (ps_setC (i:=4) sc_law_form.nd rfl (by first | exact Or.inl rfl | exact Or.inr rfl) (N:=["part","sign"]) rfl (csC_of [none,none] rfl (by decide +kernel) (by decide +kernel) rfl rfl) rfl (pi_list (pv 2)) (fun _ _ _ _=>(pg_tup rfl (pgs_cons (pg_name (i:=0) (show (["part","sign"]:List Str).Nodup by decide +kernel) rfl (by first | exact Or.inl rfl | exact Or.inr rfl)) (pgs_cons (pg_name (i:=1) (show (["part","sign"]:List Str).Nodup by decide +kernel) rfl (by first | exact Or.inl rfl | exact Or.inr rfl)) pgs_nil)))) (fun _ _ _ _=>(ptl_one (pt_cmpR op_lt (pv 1) pe_int (nomark _)))) (fun _ _ _ _=>(pe_def Gform (hr.mono (by lia)) (pa_cons (pv 0) pa_nil))))
   (pss_one (ps_ret (pe_tup (pa_cons (pe_ix ix_list (pe_lst (pa_cons pe_str (pa_cons pe_str pa_nil))) (pv 1) (fun _ _=>rfl)) (pa_cons (pe_def Gord (hr.mono (by lia)) (pa_cons (pv 3) pa_nil)) (pa_cons (pe_def Gord (hr.mono (by lia)) (pa_cons (pv 4) pa_nil)) pa_nil))))))))))),?_⟩
 have hht:=x.ht_lt
 have hx0:=hx
 cases hx with
 | num k =>
  refine ⟨_,rfl,_,_,TyOf.int _,kit_int_int _,_,rfl,iteT ?_⟩
  exact ⟨_,rfl,q _ H (Same.refl H) (.intI k)⟩
 | @op p wd x1 y1 a1 b1 hp ha hb =>
  refine ⟨_,rfl,_,_,TyOf.tup hp,kit_tup_int _,_,rfl,iteF ?_⟩
  refine ⟨_,rfl,p,_,_,_,rfl,rfl,SqT.of hp,atI_nat (j:=0) rfl,(by show 2≤sizeLine; decide),fun pl hpl=>?_⟩
  refine ⟨pl,_,rfl,.inl (SqL.of upd_same),rfl,rfl,.inr ⟨_,rfl,?_⟩⟩
  have s0:Same H (upd H pl (.lst [V.str "times",V.str "share"])):=Same.new hpl
  generalize hb0:inV (V.str wd) [V.str "times",V.str "share"]=b0
  generalize upd H pl (.lst [V.str "times",V.str "share"])=H0 at s0 ⊢
  clear hpl
  refine ⟨_,rfl,(by show 2≤sizeLine; decide),fun pa hpa=>⟨(by show 2≤sizeLine; decide),fun pb hpb=>⟨(by show 2≤sizeLine; decide),fun pc hpc=>?_⟩⟩⟩
  have sa:=Same.new (o:=.lst [V.ref pa,V.ref pb]) hpc
  have ga:=sa _ _ (Same.new (o:=.lst [V.str "times",V.str "share"]) hpb _ _ (upd_same (H:=H0) (a:=pa) (o:=.lst [V.str "plus",V.str "less"])))
  have gb:=sa _ _ (upd_same (H:=upd H0 pa (.lst [V.str "plus",V.str "less"])) (a:=pb) (o:=.lst [V.str "times",V.str "share"]))
  have s3:=s0.trans ((Same.new (o:=.lst [V.str "plus",V.str "less"]) hpa).trans ((Same.new (o:=.lst [V.str "times",V.str "share"]) hpb).trans sa))
  obtain ⟨pw,a,b,hat,hpw,hab,hkk⟩:∃ (pw:Addr) (a b:Str),atI [V.ref pa,V.ref pb] (if b0=true then 1 else 0)=some (.ref pw)∧(upd (upd (upd H0 pa (.lst [V.str "plus",V.str "less"])) pb (.lst [V.str "times",V.str "share"])) pc (.lst [V.ref pa,V.ref pb])) pw=some (.lst [.str a,.str b])∧Wd (knd wd) a b∧atI [V.str "sum",V.str "product"] (if b0=true then 1 else 0)=some (.str (knd wd)):=by
   cases b0 with
   | true =>
    have e:knd wd="product":=by
     rcases inV_two.mp hb0 with rfl | rfl <;> (unfold knd; decide)
    exact ⟨pb,"times","share",rfl,gb,.inr ⟨e,rfl,rfl⟩,by rw [e]; rfl⟩
   | false =>
    have e:knd wd="sum":=by
     rcases ho.1 with rfl | rfl | rfl | rfl
     ·unfold knd; decide
     ·unfold knd; decide
     ·have:=inV_two (a:="times") (b:="share") (w:="times") |>.mpr (.inl rfl); rw [hb0] at this; cases this
     ·have:=inV_two (a:="times") (b:="share") (w:="share") |>.mpr (.inr rfl); rw [hb0] at this; cases this
    exact ⟨pa,"plus","less",rfl,ga,.inl ⟨e,rfl,rfl⟩,by rw [e]; rfl⟩
  refine ⟨_,rfl,pc,_,_,_,rfl,rfl,SqL.of upd_same,hat,.ref p,_,pw,knd wd,a,b,1,rfl,hx0.kt (KT.same s3),ho,by lia,by lia,hpw,hab,.inl rfl,fun r rs H4 s4 hr4 pr4=>?_⟩
  have S34:=s3.trans s4
  have two:=spr_two (k:=knd wd) (w:=wd) (a:=a1) (b:=b1) (sg:=1) rfl
  have sm:=spr_sm (knd wd) (.op wd a1 b1) 1
  have okp:=spr_ok (knd wd) (.op wd a1 b1) 1 ho (.inl rfl)
  have lf:=law_form ho
  rw [psF_eq,ngF_eq] at lf
  generalize spr (knd wd) (.op wd a1 b1) 1=ps at pr4 two sm okp lf
  have lrs:=pr4.length
  have bd:∀ p∈ps,p.1.size + 1≤(Way.op wd a1 b1).size:=fun p hp=>by have:=part_le hp two; lia
  have lps:ps.length≤9:=by
   have:∀ {ps:List (Way×Int)},ps.length≤(ps.map (fun p=>p.1.size)).sum:=fun {ps}=>by
    induction ps with
    | nil=>exact Nat.le_refl _
    | cons p r ih=>rw [List.map_cons,List.sum_cons,List.length_cons]; have:=p.1.size_pos; lia
   have:=this (ps:=ps)
   lia
  have turn:∀ (qq:Way×Int→Bool) (Hb:Hp) (Dl:Addr),Same H4 Hb→Hb Dl=none→∀ (i:Nat) (y:V) (ys:List V) (H2:Hp),rs[i]?=some y→ys.length≤i→∀ (_:Unit),Same Hb H2→H2 Dl=some (.lst ys) →
    ∃ (t:Addr) (u:V) (p:Way×Int),ps[i]?=some p∧y=.ref t∧H2 t=some (.tup [u,.int p.2])∧WayIn H2 u p.1∧p.1.ok 1000000∧p.1.size≤n∧p.1.size≤9:=fun qq Hb Dl sb hDl i y ys H2 hi hly _ s2 e=>by
   obtain ⟨p,hp,t,u,rfl,ht,hu⟩:=paired_get pr4 hi
   have hm:=List.mem_of_getElem? hp
   have:=bd p hm
   exact ⟨t,u,p,hp,rfl,s2 _ _ (sb _ _ ht),hu.kt (KT.same (sb.trans s2)),(okp p hm).1,by lia,by lia⟩
  refine ⟨_,rfl,r,rfl,⟨_,SqL.of hr4⟩,fun Dl hD C s3' fp=>comp_list (K:=K) (a:=r) (xs:=rs) (fun i ys σ H2=>∃ (z1 z2:Option V),σ=[z1,z2]∧Same H4 H2∧Dats H2 ((fst1 pos1 (ps.take i)).map fP) ys) (fun i ys σ H2 ⟨_,_,_,g,_⟩=>SqL.of (g _ _ hr4)) ⟨none,none,rfl,Same.new hD,.nilI _⟩ ?_ ?_⟩
  ·rintro i y ys σ H2 hi hly ⟨z1,z2,rfl,s2,hd⟩ e
   obtain ⟨t,u,p,hp',rfl,ht,hu,o1,o2,o3⟩:=turn pos1 H4 Dl (Same.refl _) hD i y ys H2 hi hly () s2 e
   have il:=(List.getElem?_eq_some_iff.mp hi).1
   refine ⟨t,_,rfl,SqT.of ht,rfl,_,_,rfl,_,_,rfl,rfl,?_⟩
   refine ⟨_,rfl,_,_,rfl,rfl,_,rfl,?_⟩
   have tk:=fst1_take (q:=pos1) hp'
   by_cases hs:0 < p.2
   ·rw [decide_eq_true hs]
    rw [if_pos (show pos1 p=true from decide_eq_true hs)] at tk
    refine iteT ⟨_,rfl,u,p.1,rfl,hu,o1,o2,o3,fun w' H5 s5 hd5=>?_⟩
    have e5:=s5 _ _ e
    have k5:=KT.upd (o:=.lst (ys++[w'])) e5
    refine ⟨ys,e5,small1000 (by lia),_,by rw [List.length_append]; exact Nat.add_le_add_right hly 1,⟨_,_,rfl,fun bb o eb=>?_,?_⟩,upd_same⟩
    ·rw [upd_ne (ne_of_none eb hD)]; exact s5 _ _ (s2 bb o eb)
    ·rw [tk,List.map_append]; exact Dats.app (Dats.kt ((KT.same s5).trans k5) _ hd) (.consI (Dat.kt k5 _ hd5) (.nilI _))
   ·rw [decide_eq_false hs]
    rw [if_neg (show ¬ pos1 p=true from fun z=>hs (of_decide_eq_true z)),List.append_nil] at tk
    exact iteF ⟨ys,Nat.le_succ_of_le hly,⟨_,_,rfl,s2,by rw [tk]; exact hd⟩,e⟩
  rintro ys1 σ H5 ⟨z1,z2,rfl,s5,hd1⟩ e1
  rw [lrs,List.take_length] at hd1
  refine ⟨_,rfl,r,rfl,⟨_,SqL.of (s5 _ _ hr4)⟩,fun Dm hDm C s6' fp=>comp_list (K:=K) (a:=r) (xs:=rs) (fun i ys σ H2=>∃ (z1 z2:Option V),σ=[z1,z2]∧Same H5 H2∧Dats H2 ((fst1 neg1 (ps.take i)).map fP) ys) (fun i ys σ H2 ⟨_,_,_,g,_⟩=>SqL.of (g _ _ (s5 _ _ hr4))) ⟨none,none,rfl,Same.new hDm,.nilI _⟩ ?_ ?_⟩
  ·rintro i y ys σ H2 hi hly ⟨z1,z2,rfl,s2,hd⟩ e
   obtain ⟨t,u,p,hp',rfl,ht,hu,o1,o2,o3⟩:=turn neg1 H5 Dm s5 hDm i y ys H2 hi hly () s2 e
   have il:=(List.getElem?_eq_some_iff.mp hi).1
   refine ⟨t,_,rfl,SqT.of ht,rfl,_,_,rfl,_,_,rfl,rfl,?_⟩
   refine ⟨_,rfl,_,_,rfl,rfl,_,rfl,?_⟩
   have tk:=fst1_take (q:=neg1) hp'
   by_cases hs:p.2 < 0
   ·rw [decide_eq_true hs]
    rw [if_pos (show neg1 p=true from decide_eq_true hs)] at tk
    refine iteT ⟨_,rfl,u,p.1,rfl,hu,o1,o2,o3,fun w' H6 s6 hd6=>?_⟩
    have e6:=s6 _ _ e
    have k6:=KT.upd (o:=.lst (ys++[w'])) e6
    refine ⟨ys,e6,small1000 (by lia),_,by rw [List.length_append]; exact Nat.add_le_add_right hly 1,⟨_,_,rfl,fun bb o eb=>?_,?_⟩,upd_same⟩
    ·rw [upd_ne (ne_of_none eb hDm)]; exact s6 _ _ (s2 bb o eb)
    ·rw [tk,List.map_append]; exact Dats.app (Dats.kt ((KT.same s6).trans k6) _ hd) (.consI (Dat.kt k6 _ hd6) (.nilI _))
   ·rw [decide_eq_false hs]
    rw [if_neg (show ¬ neg1 p=true from fun z=>hs (of_decide_eq_true z)),List.append_nil] at tk
    exact iteF ⟨ys,Nat.le_succ_of_le hly,⟨_,_,rfl,s2,by rw [tk]; exact hd⟩,e⟩
  rintro ys2 σ H6 ⟨z1,z2,rfl,s6,hd2⟩ e2
  rw [lrs,List.take_length] at hd2
  have fmd:∀ (qq:Way×Int→Bool),(∀ d∈(fst1 qq ps).map fP,IsForm d∧d.dep < 20)∧((fst1 qq ps).map fP).length≤100:=fun qq=>by
   refine ⟨fun d hd=>?_,?_⟩
   ·obtain ⟨w',hw',rfl⟩:=List.mem_map.mp hd
    obtain ⟨p,hp,rfl⟩:=List.mem_map.mp hw'
    have m:=(List.mem_filter.mp hp).1
    have:=bd p m
    have:=fP_dep (okp p m).1
    exact ⟨fP_form (okp p m).1,by lia⟩
   ·rw [List.length_map]
    unfold fst1
    rw [List.length_map]
    have:=List.length_filter_le qq ps
    lia
  obtain ⟨m1,m2⟩:=fmd pos1
  obtain ⟨m3,m4⟩:=fmd neg1
  refine ⟨(by show 2≤sizeLine; decide),fun pk hpk=>?_⟩
  have sk:=Same.new (o:=.lst [V.str "sum",V.str "product"]) hpk
  refine ⟨_,rfl,pk,_,_,_,rfl,rfl,SqL.of upd_same,hkk,?_⟩
  refine ⟨_,rfl,Dl,ys1,_,rfl,sk _ _ (s6 _ _ e1),Dats.kt (KT.same (s6.trans sk)) _ hd1,m1,m2,fun t1 H7 s7 dd1=>?_⟩
  refine ⟨_,rfl,Dm,ys2,_,rfl,s7 _ _ (sk _ _ e2),Dats.kt (KT.same (sk.trans s7)) _ hd2,m3,m4,fun t2 H8 s8 dd2=>?_⟩
  refine ⟨(by show 3≤sizeLine; decide),fun tt htt=>?_⟩
  have st:=Same.new (o:=.tup [V.str (knd wd),.ref t1,.ref t2]) htt
  refine q (.ref tt) _ (S34.trans (s5.trans (s6.trans (sk.trans (s7.trans (s8.trans st)))))) ?_
  rw [← lf]
  exact .tupI upd_same (.consI (.strI _) (.consI (Dat.kt (KT.same (s8.trans st)) _ dd1) (.consI (Dat.kt (KT.same st) _ dd2) (.nilI _))))
theorem ok_form {f:Addr} {fd:FuncData} (F:Fun K "_law_form" "_law_form" s_law_form f fd) (b:Binds K fd ["way"] []) (m:mg "_law_form"=some (.ref f)) (B:Blt mg) (Gspread:Def P w K mg base CX0 11 "_law_spread" (spSpread 10)) (Gord:Def P w K mg base CX0 22 "_law_in_order" (spOrdL 20)):∀ n,FnOk P w K mg base CX0 (n + 22) f fd ["way"] (spForm n)
 | 0=>by
  have no:∀ vs H Q E,¬ spForm 0 vs H Q E:=fun vs H Q E h=>by
   obtain ⟨v,x,_,_,_,h,_⟩:=h
   have:=x.size_pos
   lia
  exact ⟨fun vs H Q E h=>absurd h (no vs H Q E),fun A outer s H args us vs Q E _ _ _ _ h=>absurd h (no vs H Q E)⟩
 | n + 1=>ok_form_step F B Gspread Gord (mkDef (ok_form F b m B Gspread Gord n) b m F.kp)
end
end Law
namespace Law
open PySem L2
section
variable {P:Program} {w:World} {K:PySem.W.Frag} {mg:Str→Option Value} {base:Heap}
theorem repInts {K:PySem.W.Frag} {H:Hp}:∀ l:List Int,Reps K H (l.map D.int) (l.map V.int)
 | []=>by unfold Reps; rfl
 | i :: r=>by
  show Reps K H (D.int i :: r.map D.int) (V.int i :: r.map V.int)
  unfold Reps
  exact ⟨_,_,rfl,by unfold Rep; rfl,repInts r⟩
theorem depInts:∀ l:List Int,deps (l.map D.int)=0
 | []=>by rw [List.map_nil,deps]
 | i :: r=>by
  rw [List.map_cons,deps,depInts r,D.dep]
  all_goals simp
noncomputable def spIsOf:Sp:=fun vs H Q _=>∃ (k:Str) (v:V) (d:D),vs=[.str k,v]∧Dat H d v∧AF d∧Q (.bl (match d with | .tup (.str k' :: _)=>decide (k'=k) | _=>false)) H
noncomputable abbrev s_is_of:Stmt:=top 18
theorem sc_is_of:FnScope ["kind","form"] ["kind","form"] (defScope s_is_of):=⟨rfl,rfl,rfl,by decide +kernel,rfl,by decide +kernel,by decide +kernel⟩
theorem ok_is {f:Addr} {fd:FuncData} (F:Fun K "is_of" "is_of" s_is_of f fd) (B:Blt mg):FnOk P w K mg base CX0 1 f fd ["kind","form"] spIsOf:=by
 refine F.ok sc_is_of (fun vs H Q E h=>?_) (fun cdv A outer s H vs Q E hr h=>?_)
 ·obtain ⟨k,v,d,rfl,_⟩:=h
  rfl
 obtain ⟨k,v,d,rfl,hd,hF,q⟩:=h
 refine ⟨_,(pss_one (ps_ret (pe_and (pe_isin B.isinstance B.tuple bt_tuple (pv 1)) (pe_one (pe_cmpR op_eq (pe_ix ix_tup (pv 1) pe_int (fun _ _=>rfl)) (pv 0) (nomark _)))))),?_⟩
 cases hF with
 | num g0 g1 =>
  have:=hd.intE
  subst this
  exact ⟨_,rfl,_,_,TyOf.int _,kit_int_tuple _,_,rfl,iteF q⟩
 | @grp k' more off hk g1 g2 =>
  obtain ⟨p,pm,po,xm,xo,rfl,hp,hpm,hpo,d1,d2⟩:=dat_grpA hd
  refine ⟨_,rfl,_,_,TyOf.tup hp,kit_tup_tup _,_,rfl,iteT ?_⟩
  exact ⟨_,rfl,p,_,0,_,rfl,rfl,SqT.of hp,atI_nat (j:=0) rfl,_,rfl,rfl,by rw [show decide (V.str k'=V.str k)=decide (k'=k) from decide_eq_decide.mpr ⟨fun e=>V.str.inj e,fun e=>congrArg V.str e⟩]; exact q⟩
noncomputable def toI:V→Int
 | .int i=>i
 | _=>0
noncomputable def kyH (H:Hp):V→List Int
 | .ref t=>match H t with
  | some (.tup ys)=>ys.map toI
  | _=>[]
 | _=>[]
theorem kyH_of {H:Hp} {t:Addr} {ks:List Int} (h:H t=some (.tup (ks.map V.int))):kyH H (.ref t)=ks:=by
 show (match H t with | some (.tup ys)=>ys.map toI | _=>[])=ks
 rw [h]
 show (ks.map V.int).map toI=ks
 rw [List.map_map]
 exact List.map_id' ks
theorem kD_ne (d:D) (h:AF d):kD d≠[]:=by
 cases h with
 | num h0 h1=>unfold kD; simp
 | grp hk _ _=>rw [kD_grp]; simp
theorem reps_keys {K:PySem.W.Frag} {H:Hp} {key:V→List Int}:∀ {ys:List V},(∀ y∈ys,∃ t,y=.ref t∧H t=some (.tup ((key y).map V.int)))→Reps K H (ys.map fun y=>D.tup ((key y).map D.int)) ys
 | [],_=>by unfold Reps; rfl
 | y :: r,h=>by
  rw [List.map_cons]
  unfold Reps
  obtain ⟨t,e,ht⟩:=h y (List.mem_cons_self ..)
  refine ⟨y,r,rfl,?_,reps_keys fun z hz=>h z (List.mem_cons_of_mem _ hz)⟩
  unfold Rep
  exact ⟨t,_,e,SqT.of ht,repInts _⟩
theorem deps_keys (key:V→List Int):∀ ys:List V,deps (ys.map fun y=>D.tup ((key y).map D.int))≤50
 | []=>by rw [List.map_nil,deps]; decide
 | y :: r=>by
  rw [List.map_cons,deps]
  have h1:(D.tup ((key y).map D.int)).dep=1:=by rw [D.dep,depInts]
  have:=deps_keys key r
  rw [h1]; lia
theorem keys_eq:∀ {a b:List (List Int)},eqDs (a.map fun ks:List Int=>D.tup (ks.map D.int)) (b.map fun ks:List Int=>D.tup (ks.map D.int))=true→a=b
 | [],[],_=>rfl
 | [],y :: r,h=>by simp [eqDs] at h
 | x :: r,[],h=>by simp [eqDs] at h
 | x :: r,y :: q,h=>by
  rw [List.map_cons,List.map_cons,eqDs,eqD,eqDs_ints] at h
  simp only [Bool.and_eq_true,decide_eq_true_eq] at h
  rw [h.1,keys_eq h.2]
noncomputable def spInOrd:Sp:=fun vs H Q _=>∃ (l:Addr) (xs:List V) (ds:List D),vs=[.ref l]∧H l=some (.tup xs)∧Dats H ds xs∧(∀ x∈ds,AF x∧sz x≤495)∧ds.length < 64∧∀ (b:Bool) (H':Hp),Same H H'→(b=true↔Ord ds)→Q (.bl b) H'
noncomputable abbrev s_is_in_order:Stmt:=top 28
theorem sc_is_in_order:FnScope ["parts","orders"] ["parts"] (defScope s_is_in_order):=⟨rfl,rfl,rfl,by decide +kernel,rfl,by decide +kernel,by decide +kernel⟩
theorem ok_inord {f:Addr} {fd:FuncData} (F:Fun K "is_in_order" "is_in_order" s_is_in_order f fd) (B:Blt mg) (Bsorted:mg "sorted"=none) (Gorder:Def P w K mg base CX0 1 "order_of" spOrder):FnOk P w K mg base CX0 2 f fd ["parts"] spInOrd:=by
 refine F.ok (k:=1) sc_is_in_order (fun vs H Q E h=>?_) (fun cdv A outer s H vs Q E hr h=>?_)
 ·obtain ⟨l,xs,ds,rfl,_⟩:=h
  rfl
 obtain ⟨l,xs,ds,rfl,hl,hd,hF,h60,q⟩:=h
 refine ⟨_,(pss_cons (ps_setC (i:=1) sc_is_in_order.nd rfl (by first | exact Or.inl rfl | exact Or.inr rfl) (N:=["part"]) rfl (csC_of [none] rfl (by decide +kernel) (by decide +kernel) rfl rfl) rfl (pi_tup (pv 0)) (fun _ _ _ _=>(pg_name (i:=0) (show (["part"]:List Str).Nodup by decide +kernel) rfl (by first | exact Or.inl rfl | exact Or.inr rfl))) (fun _ _ _ _=>ptl_nil) (fun _ _ _ _=>(pe_def Gorder (hr.mono (by lia)) (pa_cons (pv 0) pa_nil))))
   (pss_one (ps_ret (pe_cmpR (op_eqS (hu60 hr)) (pv 1) (pe_callB call_sortT rfl Bsorted bt_sorted (pa_cons (pv 1) pa_nil)) (nomark _))))),?_⟩
 have szl:=sizeLine_eq
 have ll:=hd.len
 refine ⟨_,rfl,l,rfl,⟨_,SqT.of hl⟩,fun Dl hD Cx sx fp=>?_⟩
 refine comp_tup (K:=K) (a:=l) (xs:=xs) (tt:=fun _ H Q=>Q true H) (fun i zs σ H'=>∃ o:Option V,σ=[o]∧Same H H'∧zs.length=i∧(∀ z∈zs,∃ t,z=.ref t∧∃ ks,H' t=some (.tup (ks.map V.int))∧ks≠[])∧zs.map (kyH H')=(ds.take i).map kD) (fun i zs σ H' ⟨_,_,g,_⟩=>SqT.of (g _ _ hl)) ⟨none,rfl,Same.new hD,rfl,(fun z hz=>by cases hz),rfl⟩ ?_ ?_
 ·rintro i x zs σ H2 hi hzl ⟨o,rfl,s2,lz,hz,hk⟩ g2
  have hil:=(List.getElem?_eq_some_iff.mp hi).1
  obtain ⟨d,hdi,hdx⟩:∃ d,ds[i]?=some d∧Dat H2 d x:=by
   have:∀ {ds:List D} {xs:List V} {i:Nat} {x:V},Dats H2 ds xs→xs[i]?=some x→∃ d,ds[i]?=some d∧Dat H2 d x:=by
    intro ds
    induction ds with
    | nil=>intro xs i x h e; rw [h.nilE] at e; cases e
    | cons d r ih =>
     intro xs i x h e
     obtain ⟨y,t,rfl,h1,h2⟩:=h.consE
     cases i with
     | zero=>cases e; exact ⟨d,rfl,h1⟩
     | succ i=>exact ih h2 (by simpa using e)
   exact this (Dats.kt (KT.same s2) _ hd) hi
  obtain ⟨fd',fz⟩:=hF d (List.mem_of_getElem? hdi)
  refine ⟨_,rfl,x,d,rfl,hdx,fd',fz,fun t H3 s3 ht=>⟨zs,s3 _ _ g2,by rw [szl]; lia,zs++[.ref t],by rw [List.length_append]; show zs.length + 1≤i + 1; lia,⟨_,rfl,?_,by rw [List.length_append]; show zs.length + 1=i + 1; lia,?_,?_⟩,upd_same⟩⟩
  ·exact fun b ob e=>by rw [upd_ne (ne_of_none e hD)]; exact s3 _ _ (s2 _ _ e)
  ·have kt:KT H3 (upd H3 Dl (.lst (zs++[.ref t]))):=KT.upd (s3 _ _ g2)
   intro z hz'
   rcases List.mem_append.mp hz' with h | h
   ·obtain ⟨t',e,ks,h1,h2⟩:=hz z h
    exact ⟨t',e,ks,kt _ _ (s3 _ _ h1),h2⟩
   ·rw [List.mem_singleton.mp h]
    exact ⟨t,rfl,kD d,kt _ _ ht,kD_ne d fd'⟩
  ·have kt:KT H3 (upd H3 Dl (.lst (zs++[.ref t]))):=KT.upd (s3 _ _ g2)
   rw [List.map_append,List.take_add_one,hdi]
   show _++[kyH _ (.ref t)]=((ds.take i)++[d]).map kD
   rw [List.map_append,kyH_of (kt _ _ ht),← hk]
   congr 1
   apply List.map_congr_left
   intro z hzm
   obtain ⟨t',rfl,ks,h1,_⟩:=hz z hzm
   rw [kyH_of (kt _ _ (s3 _ _ h1)),kyH_of h1]
 ·rintro zs σ H2 ⟨o,rfl,s2,lz,hz,hk⟩ g2
  rw [List.take_of_length_le (by lia)] at hk
  have hz2:∀ z∈zs,kyH H2 z≠[]∧∃ t,z=.ref t∧H2 t=some (.tup ((kyH H2 z).map V.int)):=fun z hzm=>by
   obtain ⟨t,rfl,ks,h1,h2⟩:=hz z hzm
   rw [kyH_of h1]
   exact ⟨h2,t,rfl,h1⟩
  refine ⟨_,rfl,_,rfl,Dl,zs,kyH H2,rfl,g2,by lia,hz2,fun p ys H3 s3 g3 py wy=>?_⟩
  have key2:∀ {l:List V},(∀ z∈l,z∈zs)→∀ y∈l,∃ t,y=.ref t∧H3 t=some (.tup ((kyH H2 y).map V.int)):=fun {l} hm y hy=>by
   obtain ⟨_,t,e,ht⟩:=hz2 y (hm y hy)
   exact ⟨t,e,s3 _ _ ht⟩
  refine ⟨_,_,.inl ⟨⟨Dl,zs,rfl,SqL.of (s3 _ _ g2),reps_keys (key:=kyH H2) (key2 fun z h=>h)⟩,⟨p,ys,rfl,SqL.of g3,reps_keys (key:=kyH H2) (key2 fun z h=>py.mem_iff.mp h)⟩⟩,deps_keys _ _,?_⟩
  refine q _ _ (s2.trans s3) ?_
  rw [if_neg (by decide)]
  have wk:(ys.map (kyH H2)).Pairwise (fun x y=>lx y x=false):=by rw [List.pairwise_map]; exact wy
  have mapE:∀ l:List V,(l.map fun y=>D.tup ((kyH H2 y).map D.int))=(l.map (kyH H2)).map fun ks:List Int=>D.tup (ks.map D.int):=fun l=>by rw [List.map_map]; rfl
  constructor
  ·intro e
   rw [mapE,mapE] at e
   have e3:=keys_eq e
   have:(ds.map kD).Pairwise (fun x y=>lx y x=false):=by rw [← hk,e3]; exact wk
   rw [List.pairwise_map] at this
   exact this
  ·intro hO
   have ek:ys.map (kyH H2)=zs.map (kyH H2):=by
    refine lx_unique (py.map _) wk ?_
    rw [hk,List.pairwise_map]; exact hO
   rw [mapE,mapE,ek,eqDs_refl]
noncomputable def spGroup:Sp:=fun vs H Q _=>∃ (v:V) (d:D),vs=[v]∧Dat H d v∧AF d∧∀ H',Same H H'→Q (.bl (match d with | .tup _=>true | _=>false)) H'
noncomputable abbrev s_is_group:Stmt:=top 25
theorem sc_is_group:FnScope ["form","kind","more","off"] ["form"] (defScope s_is_group):=⟨rfl,rfl,rfl,by decide +kernel,rfl,by decide +kernel,by decide +kernel⟩
theorem ok_group {f:Addr} {fd:FuncData} (F:Fun K "is_group" "is_group" s_is_group f fd) (B:Blt mg):FnOk P w K mg base CX0 1 f fd ["form"] spGroup:=by
 refine F.ok sc_is_group (fun vs H Q E h=>?_) (fun cdv A outer s H vs Q E hr h=>?_)
 ·obtain ⟨v,d,rfl,_⟩:=h
  rfl
 obtain ⟨v,d,rfl,hd,hF,q⟩:=h
 refine ⟨_,(pss_cons (ps_if (PW.pt (pw_or (pt_not (pt_val (pe_isin B.isinstance B.tuple bt_tuple (pv 0)))) (pw_or1 (pt_cmpR op_ne (pe_callB call_len_seq rfl B.len bt_len (pa_cons (pv 0) pa_nil)) pe_int (nomark _))))) (pss_one (ps_ret pe_bl)) pss_nil)
   (pss_cons (ps_asg (pv 0) (pg_tup rfl (pgs_cons (pg_name (i:=1) sc_is_group.nd rfl (by first | exact Or.inl rfl | exact Or.inr rfl)) (pgs_cons (pg_name (i:=2) sc_is_group.nd rfl (by first | exact Or.inl rfl | exact Or.inr rfl)) (pgs_cons (pg_name (i:=3) sc_is_group.nd rfl (by first | exact Or.inl rfl | exact Or.inr rfl)) pgs_nil)))))
   (pss_one (ps_ret (pe_and (pe_cmpR op_in_seq (pv 1) (pe_tup (pa_cons pe_str (pa_cons pe_str pa_nil))) rfl) (pe_and (pe_isin B.isinstance B.tuple bt_tuple (pv 2)) (pe_one (pe_isin B.isinstance B.tuple bt_tuple (pv 3))))))))),?_⟩
 cases hF with
 | @num i g0 g1 =>
  have:=hd.intE
  subst this
  refine ⟨_,rfl,_,_,TyOf.int _,kit_int_tuple _,_,rfl,iteT (iteT ?_)⟩
  exact q H (Same.refl H)
 | @grp k more off hk g1 g2 =>
  obtain ⟨p,pm,po,xm,xo,rfl,hp,hpm,hpo,_⟩:=dat_grpA hd
  refine ⟨_,rfl,_,_,TyOf.tup hp,kit_tup_tup _,_,rfl,iteF ?_⟩
  refine ⟨_,rfl,p,_,rfl,.inr (SqT.of hp),rfl,_,rfl,iteNS rfl ?_⟩
  refine ⟨_,rfl,p,_,rfl,SqT.of hp,rfl,_,_,rfl,_,_,rfl,_,_,rfl,rfl,?_⟩
  refine ⟨_,rfl,(by show 2≤sizeLine; decide),fun pq hpq=>?_⟩
  have sq:=Same.new (o:=.tup [V.str "sum",V.str "product"]) hpq
  refine ⟨pq,_,rfl,.inr (SqT.of upd_same),rfl,rfl,?_⟩
  have e:inV (V.str k) [V.str "sum",V.str "product"]=true:=inV_two.mpr hk
  rw [if_neg (by decide),e]
  refine ⟨_,rfl,iteT ?_⟩
  refine ⟨_,rfl,_,_,TyOf.tup (sq _ _ hpm),kit_tup_tup _,_,rfl,iteT ?_⟩
  refine ⟨_,rfl,_,_,TyOf.tup (sq _ _ hpo),kit_tup_tup _,?_⟩
  exact q _ sq
noncomputable def spIsNum:Sp:=fun vs H Q _=>∃ i:Int,vs=[.int i]∧Q (.bl (decide (1≤i))) H
noncomputable abbrev s_is_number:Stmt:=top 26
theorem sc_is_number:FnScope ["form"] ["form"] (defScope s_is_number):=⟨rfl,rfl,rfl,by decide +kernel,rfl,by decide +kernel,by decide +kernel⟩
theorem ok_isnum {f:Addr} {fd:FuncData} (F:Fun K "is_number" "is_number" s_is_number f fd) (B:Blt mg):FnOk P w K mg base CX0 1 f fd ["form"] spIsNum:=by
 refine F.ok sc_is_number (fun vs H Q E h=>?_) (fun cdv A outer s H vs Q E hr h=>?_)
 ·obtain ⟨i,rfl,_⟩:=h
  rfl
 obtain ⟨i,rfl,q⟩:=h
 refine ⟨_,(pss_one (ps_ret (pe_and (pe_isin B.isinstance B.int bt_int (pv 0)) (pe_and (pe_not (pe_isin B.isinstance B.bool bt_bool (pv 0))) (pe_one (pe_cmpR op_ge (pv 0) pe_int (nomark _))))))),?_⟩
 refine ⟨_,rfl,_,_,TyOf.int _,kit_int_int _,_,rfl,iteT ?_⟩
 refine ⟨_,rfl,_,_,TyOf.int _,kit_int_bool _,_,rfl,_,rfl,iteT ?_⟩
 exact ⟨_,rfl,_,_,rfl,rfl,q⟩
noncomputable def spKept:Sp:=fun vs H Q _=>∃ (v:V) (k:Str) (more off:List D),vs=[v]∧Dat H (.tup [.str k,.tup more,.tup off]) v∧(k="sum"∨k="product")∧(∀ x∈more++off,AF x∧sz x≤495)∧more.length + off.length < 64 ∧
 ∀ (b:Bool) (H':Hp),Same H H'→(b=true↔kpG k more off)→Q (.bl b) H'
theorem isK_any {k:Str} {ds:List D}:(ds.map (isK k)).any id=false↔∀ x∈ds,isK k x=false:=by
 rw [List.any_eq_false]
 constructor
 ·intro h x hx
  have:=h (isK k x) (List.mem_map_of_mem hx)
  simpa using this
 ·intro h b hb
  obtain ⟨x,hx,rfl⟩:=List.mem_map.mp hb
  rw [h x hx]; decide
noncomputable abbrev s_is_kept:Stmt:=top 27
theorem sc_is_kept:FnScope ["group","kind","more","off"] ["group"] (defScope s_is_kept):=⟨rfl,rfl,rfl,by decide +kernel,rfl,by decide +kernel,by decide +kernel⟩
theorem ok_kept {f:Addr} {fd:FuncData} (F:Fun K "is_kept" "is_kept" s_is_kept f fd) (B:Blt mg) (Bany:mg "any"=none) (Gis:Def P w K mg base CX0 1 "is_of" spIsOf) (Ginord:Def P w K mg base CX0 2 "is_in_order" spInOrd):FnOk P w K mg base CX0 3 f fd ["group"] spKept:=by
 refine F.ok (k:=2) sc_is_kept (fun vs H Q E h=>?_) (fun cdv A outer s H vs Q E hr h=>?_)
 ·obtain ⟨v,k,more,off,rfl,_⟩:=h
  rfl
 obtain ⟨v,k,more,off,rfl,hd,hk,hA,h50,q⟩:=h
 obtain ⟨p,pm,po,xm,xo,rfl,hp,hpm,hpo,d1,d2⟩:=dat_grpA hd
 have szl:=sizeLine_eq
 have lm:=d1.len
 have lo:=d2.len
 have no:∀ {H':Hp},Same H H'→¬ kpG k more off→Q (.bl false) H':=fun {H'} s' h=>q false H' s' (Iff.intro (fun e=>by cases e) (fun e=>absurd e h))
 refine ⟨_,(pss_cons (ps_asg (pv 0) (pg_tup rfl (pgs_cons (pg_name (i:=1) sc_is_kept.nd rfl (by first | exact Or.inl rfl | exact Or.inr rfl)) (pgs_cons (pg_name (i:=2) sc_is_kept.nd rfl (by first | exact Or.inl rfl | exact Or.inr rfl)) (pgs_cons (pg_name (i:=3) sc_is_kept.nd rfl (by first | exact Or.inl rfl | exact Or.inr rfl)) pgs_nil)))))
   (pss_cons (ps_if (PW.pt (pw_or (pt_cmpR op_eq (pe_callB call_len_seq rfl B.len bt_len (pa_cons (pv 2) pa_nil)) pe_int (nomark _)) (pw_or1 (pt_cmpR op_lt (pe_op op_add (pe_callB call_len_seq rfl B.len bt_len (pa_cons (pv 2) pa_nil)) (pe_callB call_len_seq rfl B.len bt_len (pa_cons (pv 3) pa_nil))) pe_int (nomark _))))) (pss_one (ps_ret pe_bl)) pss_nil)
   (pss_cons (ps_if (pt_val (pe_callB (call_anyL rfl) rfl Bany bt_any (pa_cons (pe_compC (N:=["part","kind"]) rfl (csC_of [none,some 1] rfl (by decide +kernel) (by decide +kernel) rfl rfl) rfl (pi_tup (pe_op op_catG (pv 2) (pv 3))) (fun _ _ _ _=>(pg_name (i:=0) (show (["part","kind"]:List Str).Nodup by decide +kernel) rfl (by first | exact Or.inl rfl | exact Or.inr rfl))) (fun _ _ _ _=>ptl_nil) (fun _ _ _ _=>(pe_def Gis (hr.mono (by lia)) (pa_cons (pv 1) (pa_cons (pv 0) pa_nil))))) pa_nil))) (pss_one (ps_ret pe_bl)) pss_nil)
   (pss_one (ps_ret (pe_and (pe_def Ginord (hr.mono (by lia)) (pa_cons (pv 2) pa_nil)) (pe_one (pe_def Ginord (hr.mono (by lia)) (pa_cons (pv 3) pa_nil))))))))),?_⟩
 refine ⟨_,rfl,p,_,rfl,SqT.of hp,rfl,_,_,rfl,_,_,rfl,_,_,rfl,rfl,?_⟩
 refine ⟨_,rfl,pm,_,rfl,.inr (SqT.of hpm),rfl,_,rfl,?_⟩
 refine ite2 (fun c=>iteT (no (Same.refl _) fun g=>?_)) (fun c1=>?_)
 ·have:=V.int.inj (of_decide_eq_true c)
  have:more.length=0:=by lia
  exact g.1 (List.eq_nil_of_length_eq_zero this)
 have m0:more≠[]:=fun e=>c1 (decide_eq_true (by rw [← lm,e]; rfl))
 refine ⟨_,rfl,pm,_,rfl,.inr (SqT.of hpm),_,rfl,po,_,rfl,.inr (SqT.of hpo),_,_,rfl,rfl,_,_,rfl,rfl,_,rfl,?_⟩
 refine ite2 (fun c=>no (Same.refl _) fun g=>?_) (fun c2=>?_)
 ·have:=of_decide_eq_true c
  have:=g.2.1
  lia
 have m2:2≤more.length + off.length:=by
  have:¬ ((xm.length:Int) + (xo.length:Int) < 2):=fun z=>c2 (decide_eq_true z)
  lia
 refine ⟨_,rfl,_,rfl,pm,po,_,_,rfl,rfl,hpm,hpo,by lia,fun pc H1 s1 hpc=>?_⟩
 have dA:Dats H1 (more++off) (xm++xo):=Dats.app (Dats.kt (KT.same s1) _ d1) (Dats.kt (KT.same s1) _ d2)
 have lA:=dA.len
 have l51:(xm++xo).length≤64:=by rw [List.length_append]; lia
 have hA':=hA
 generalize eds:more++off=ds at dA lA hA'
 generalize xm++xo=xs at dA hpc lA l51
 refine ⟨pc,rfl,⟨_,SqT.of hpc⟩,fun Dl hD Cx sx fp=>?_⟩
 refine comp_tup (K:=K) (a:=pc) (xs:=xs) (tt:=fun _ H Q=>Q true H) (fun i zs σ H'=>∃ o:Option V,σ=[o,some (.str k)]∧Same H1 H'∧zs=((ds.take i).map (isK k)).map V.bl) (fun i zs σ H' ⟨_,_,g,_⟩=>SqT.of (g _ _ hpc)) ⟨none,rfl,Same.new hD,rfl⟩ ?_ ?_
 ·rintro i x zs σ H2 hi hzl ⟨o,rfl,s2,rfl⟩ g2
  have hil:=(List.getElem?_eq_some_iff.mp hi).1
  obtain ⟨d,hdi,hdx⟩:=Dats.at (Dats.kt (KT.same s2) _ dA) hi
  refine ⟨_,rfl,_,rfl,k,x,d,rfl,hdx,(hA' d (List.mem_of_getElem? hdi)).1,_,g2,by rw [szl]; lia,_,by rw [List.length_append]; show _ + 1≤i + 1; lia,⟨_,rfl,fun b ob e=>by rw [upd_ne (ne_of_none e hD)]; exact s2 _ _ e,?_⟩,upd_same⟩
  rw [List.take_add_one,hdi,List.map_append,List.map_append]
  congr 1
 ·rintro zs σ H2 ⟨o,rfl,s2,rfl⟩ g2
  rw [List.take_of_length_le (by lia)] at g2
  refine ⟨Dl,_,rfl,SqL.of g2,?_⟩
  have s02:=s1.trans s2
  refine ⟨_,rfl,?_⟩
  refine ite2 (fun c=>no s02 fun g=>?_) (fun c3=>?_)
  ·have g3:=g.2.2.1
   rw [eds] at g3
   rw [isK_any.mpr g3] at c
   cases c
  have m3:∀ x∈more++off,isK k x=false:=by
   rw [eds]
   exact isK_any.mp (by simpa using c3)
  refine ⟨_,rfl,pm,_,more,rfl,s02 _ _ hpm,Dats.kt (KT.same s02) _ d1,(fun x hx=>hA x (List.mem_append_left _ hx)),by lia,fun b1 H3 s3 hb1=>⟨_,rfl,?_⟩⟩
  refine ite2 (fun c=>?_) (fun c=>?_)
  ·refine ⟨_,rfl,po,_,off,rfl,s3 _ _ (s02 _ _ hpo),Dats.kt (KT.same (s02.trans s3)) _ d2,(fun x hx=>hA x (List.mem_append_right _ hx)),by lia,fun b2 H4 s4 hb2=>?_⟩
   exact q _ _ (s02.trans (s3.trans s4)) ⟨fun e=>⟨m0,m2,m3,hb1.mp c,hb2.mp e⟩,fun g=>hb2.mpr g.2.2.2.2⟩
  ·exact no (s02.trans s3) fun g=>c (hb1.mpr g.2.2.2.1)
end
end Law
namespace Law
open PySem L2
section
variable {P:Program} {w:World} {K:PySem.W.Frag} {mg:Str→Option Value} {base:Heap}
end
namespace Wy
section
variable {P:Program} {w:World} {K:PySem.W.Frag} {mg:Str→Option Value} {base:Heap}
noncomputable def spId:Sp:=fun vs H Q _=>∃ v:V,vs=[v]∧Q v H
noncomputable def spMk:Sp:=fun vs H Q _=>∃ a b c:V,vs=[a,b,c]∧∀ t,H t=none→Q (.ref t) (upd H t (.tup [a,b,c]))
noncomputable abbrev s_number_itself:Stmt:=top 11
theorem sc_number_itself:FnScope ["number"] ["number"] (defScope s_number_itself):=⟨rfl,rfl,rfl,by decide +kernel,rfl,by decide +kernel,by decide +kernel⟩
theorem ok_id {f:Addr} {fd:FuncData} (F:Fun K "number_itself" "number_itself" s_number_itself f fd):FnOk P w K mg base CX0 1 f fd ["number"] spId:=by
 refine F.ok sc_number_itself (fun vs H Q E h=>?_) (fun cdv A outer s H vs Q E hr h=>?_)
 ·obtain ⟨v,rfl,_⟩:=h
  rfl
 obtain ⟨v,rfl,q⟩:=h
 exact ⟨_,(pss_one (ps_ret (pv 0))),⟨_,rfl,q⟩⟩
noncomputable abbrev s_way_with:Stmt:=top 21
theorem sc_way_with:FnScope ["word","first","second"] ["word","first","second"] (defScope s_way_with):=⟨rfl,rfl,rfl,by decide +kernel,rfl,by decide +kernel,by decide +kernel⟩
theorem ok_mk {f:Addr} {fd:FuncData} (F:Fun K "way_with" "way_with" s_way_with f fd):FnOk P w K mg base CX0 1 f fd ["word","first","second"] spMk:=by
 refine F.ok sc_way_with (fun vs H Q E h=>?_) (fun cdv A outer s H vs Q E hr h=>?_)
 ·obtain ⟨a,b,c,rfl,_⟩:=h
  rfl
 obtain ⟨a,b,c,rfl,q⟩:=h
 exact ⟨_,(pss_one (ps_ret (pe_tup (pa_cons (pv 0) (pa_cons (pv 1) (pa_cons (pv 2) pa_nil)))))),⟨_,rfl,_,rfl,_,rfl,(by show 3≤sizeLine; decide),fun t ht=>q t ht⟩⟩
noncomputable def wayRun:List V→List Way→Option (List Way)
 | [],st=>some st
 | .int n :: r,st=>wayRun r (.num n :: st)
 | .str w :: r,b :: a :: st=>wayRun r (.op w a b :: st)
 | _,_=>none
theorem wr_int (n:Int) (r:List V) (st:List Way):wayRun (.int n :: r) st=wayRun r (.num n :: st):=by rw [wayRun]
theorem wr_str (w:Str) (r:List V) (a b:Way) (st:List Way):wayRun (.str w :: r) (b :: a :: st)=wayRun r (.op w a b :: st):=by rw [wayRun]
theorem wr_some {y:V} {r:List V} {st out:List Way} (h:wayRun (y :: r) st=some out):(∃ n:Int,y=.int n∧wayRun r (.num n :: st)=some out)∨∃ (w:Str) (a b:Way) (t:List Way),y=.str w∧st=b :: a :: t∧wayRun r (.op w a b :: t)=some out:=by
 cases y with
 | int n=>rw [wr_int] at h; exact .inl ⟨n,rfl,h⟩
 | str w =>
  match st,h with
  | [],h=>simp [wayRun] at h
  | [_],h=>simp [wayRun] at h
  | b :: a :: t,h=>rw [wr_str] at h; exact .inr ⟨w,a,b,t,rfl,rfl,h⟩
 | _=>simp [wayRun] at h
theorem wr_post:∀ (x:Way) (r:List V) (st:List Way),wayRun (post x++r) st=wayRun r (x :: st):=by
 intro x
 induction x with
 | num n=>intro r st; show wayRun (.int n :: r) st=_; rw [wr_int]
 | op w a b iha ihb =>
  intro r st
  show wayRun ((post a++post b++[.str w])++r) st=_
  rw [List.append_assoc,List.append_assoc,iha,ihb]
  exact wr_str w r a b st
noncomputable def spCome (fN fW:Addr):Sp:=fun vs H Q _=>∃ (r:Addr) (x:Way),vs=[.ref r,.ref fN,.ref fW]∧H r=some (.lst (post x))∧x.nodes≤900∧∀ (v:V) (H':Hp),Same H H'→WayIn H' v x→Q v H'
noncomputable abbrev s_come_of:Stmt:=top 10
theorem sc_come_of:FnScope ["steps","of_number","of_word","come","step","second","first"] ["steps","of_number","of_word"] (defScope s_come_of):=⟨rfl,rfl,rfl,by decide +kernel,rfl,by decide +kernel,by decide +kernel⟩
theorem ok_come {f fN fW:Addr} {fd:FuncData} (F:Fun K "come_of" "come_of" s_come_of f fd) (B:Blt mg) (CN:Callee P w K mg base CX0 1 fN spId) (CW:Callee P w K mg base CX0 1 fW spMk):FnOk P w K mg base CX0 2 f fd ["steps","of_number","of_word"] (spCome fN fW):=by
 have FN_ok:∀ g sp,(g=fN∧sp=spId)→Callee P w K mg base CX0 1 g sp:=by
  rintro g sp ⟨rfl,rfl⟩
  exact CN
 have FW_ok:∀ g sp,(g=fW∧sp=spMk)→Callee P w K mg base CX0 1 g sp:=by
  rintro g sp ⟨rfl,rfl⟩
  exact CW
 refine F.ok sc_come_of (fun vs H Q E h=>?_) (fun cdv A outer s H vs Q E hr h=>?_)
 ·obtain ⟨r,x,rfl,_⟩:=h
  rfl
 obtain ⟨r,x,rfl,hr1,hn,q⟩:=h
 refine ⟨_,(pss_cons (ps_set (i:=3) sc_come_of.nd rfl (by first | exact Or.inl rfl | exact Or.inr rfl) (pe_lst pa_nil))
   (pss_cons (ps_for PassesOwn.never rfl (pi_list (pv 0)) (pg_name (i:=4) sc_come_of.nd rfl (by first | exact Or.inl rfl | exact Or.inr rfl)) (pss_one (ps_if (pt_val (pe_isin B.isinstance B.str bt_str (pv 4))) (pss_cons (ps_set (i:=5) sc_come_of.nd rfl (by first | exact Or.inl rfl | exact Or.inr rfl) (pe_bm0 PySem.F.plainAttrs_list PySem.F.slot_list_pop PySem.F.type_list_pop mt_pop (pv 3)))
   (pss_cons (ps_set (i:=6) sc_come_of.nd rfl (by first | exact Or.inl rfl | exact Or.inr rfl) (pe_bm0 PySem.F.plainAttrs_list PySem.F.slot_list_pop PySem.F.type_list_pop mt_pop (pv 3)))
   (pss_one (ps_expr (pe_bm PySem.F.plainAttrs_list PySem.F.slot_list_append PySem.F.type_list_append mt_append (pv 3) (pa_cons (pe_callV FW_ok (hr.mono (by lia)) pass0 (pv 2) (pa_cons (pv 4) (pa_cons (pv 6) (pa_cons (pv 5) pa_nil)))) pa_nil)))))) (pss_one (ps_expr (pe_bm PySem.F.plainAttrs_list PySem.F.slot_list_append PySem.F.type_list_append mt_append (pv 3) (pa_cons (pe_callV FN_ok (hr.mono (by lia)) pass0 (pv 1) (pa_cons (pv 4) pa_nil)) pa_nil)))))))
   (pss_one (ps_ret (pe_ix ix_list (pv 3) pe_int (fun _ _=>rfl)))))),?_⟩
 refine ⟨(by show 0≤sizeLine; decide),fun pw hpw=>?_⟩
 have pl:=post_len x
 have nrw:r≠pw:=ne_of_none hr1 hpw
 refine ⟨_,rfl,r,rfl,⟨_,SqL.of (Same.new hpw _ _ hr1)⟩,for_list (K:=K) (a:=r) (xs:=post x) (fun i σ H'=>∃ (vr:List V) (st:List Way) (a b c:Option V),σ=[some (.ref r),some (.ref fN),some (.ref fW),some (.ref pw),a,b,c]∧Same H H'∧H' pw=some (.lst vr.reverse)∧Paired (WayIn H') vr st∧st.length≤i∧wayRun ((post x).drop i) st=some [x])
  ⟨[],[],none,none,none,rfl,Same.new hpw,upd_same,.nil,Nat.le_refl _,by have:=wr_post x [] []; rw [List.append_nil] at this; exact this⟩ (fun i σ H' _ ⟨_,_,_,_,_,_,g,_⟩=>SqL.of (g _ _ hr1)) ?_ ?_⟩
 ·rintro i y σ H' hi ⟨vr,st,a,b,c,rfl,sH,hP,pr,hl,hrn⟩
  have il:i < (post x).length:=(List.getElem?_eq_some_iff.mp hi).1
  have ed:(post x).drop i=y :: (post x).drop (i + 1):=by
   rw [List.drop_eq_getElem_cons il,(List.getElem?_eq_some_iff.mp hi).2]
  rw [ed] at hrn
  have big:∀ k:Nat,k≤1000→k < sizeLine:=fun k=>small1000
  have sU:∀ (o:HO) (H'':Hp),Same H H''→Same H (upd H'' pw o):=fun o H'' s b u e=>by rw [upd_ne (ne_of_none e hpw)]; exact s b u e
  have lv:vr.length=st.length:=pr.length
  rcases wr_some hrn with ⟨n,rfl,hrn⟩ | ⟨wd,a1,b1,t,rfl,rfl,hrn⟩
  ·refine ⟨_,rfl,_,_,TyOf.int _,kit_int_str _,_,rfl,iteF ?_⟩
   refine ⟨_,rfl,.inl ⟨rfl,_,SqL.of hP⟩,_,rfl,fN,spId,rfl,⟨rfl,rfl⟩,_,rfl,_,rfl,pw,_,_,rfl,rfl,hP,big _ (by rw [List.length_reverse]; lia),?_⟩
   have k1:KT H' (upd H' pw (.lst (vr.reverse++[.int n]))):=KT.upd hP
   exact ⟨.int n :: vr,.num n :: st,_,_,_,rfl,sU _ _ sH,by rw [upd_same,List.reverse_cons],.cons (.num n) (L2.Paired.mapP pr fun _ _ h=>h.kt k1),Nat.succ_le_succ hl,hrn⟩
  ·cases pr with
   | @cons v2 _ vr1 _ h2 pr1 =>
   cases pr1 with
   | @cons v1 _ vr2 _ h1 pr2 =>
   have e2:(v2 :: v1 :: vr2).reverse=(vr2.reverse++[v1])++[v2]:=by simp
   rw [e2] at hP
   refine ⟨_,rfl,_,_,TyOf.str _,kit_str_str _,_,rfl,iteT ?_⟩
   refine ⟨_,rfl,.inl ⟨rfl,_,SqL.of hP⟩,pw,_,v2,rfl,rfl,hP,(by simp),?_⟩
   rw [List.dropLast_concat]
   refine ⟨_,rfl,.inl ⟨rfl,_,SqL.of upd_same⟩,pw,_,v1,rfl,rfl,upd_same,(by simp),?_⟩
   rw [List.dropLast_concat]
   have l2:vr2.length + 2=t.length + 2:=by simpa using lv
   have l3:t.length + 2≤i:=by simpa using hl
   refine ⟨_,rfl,.inl ⟨rfl,_,SqL.of upd_same⟩,_,rfl,fW,spMk,rfl,⟨rfl,rfl⟩,_,rfl,_,rfl,_,rfl,_,_,_,rfl,fun tp htp=>?_⟩
   have k0:KT H' (upd (upd H' pw (.lst (vr2.reverse++[v1]))) pw (.lst vr2.reverse)):=(KT.upd hP).trans (KT.upd upd_same)
   have hP2:(upd (upd (upd H' pw (.lst (vr2.reverse++[v1]))) pw (.lst vr2.reverse)) tp (.tup [.str wd,v1,v2])) pw=some (.lst vr2.reverse):=Same.new htp _ _ upd_same
   refine ⟨pw,_,_,rfl,rfl,hP2,big _ (by rw [List.length_reverse]; lia),?_⟩
   have k1:=k0.trans ((KT.new (o:=.tup [.str wd,v1,v2]) htp).trans (KT.upd (o:=.lst (vr2.reverse++[.ref tp])) hP2))
   have ntp:tp≠pw:=fun e=>by rw [e,upd_same] at htp; cases htp
   have sH2:Same H (upd (upd (upd H' pw (.lst (vr2.reverse++[v1]))) pw (.lst vr2.reverse)) tp (.tup [.str wd,v1,v2])):=(sU _ _ (sU _ _ sH)).trans (Same.new htp)
   exact ⟨.ref tp :: vr2,.op wd a1 b1 :: t,_,_,_,rfl,sU _ _ sH2,by rw [upd_same,List.reverse_cons],.cons (.op (by rw [upd_ne ntp,upd_same]) (h1.kt k1) (h2.kt k1)) (L2.Paired.mapP pr2 fun _ _ h=>h.kt k1),by show t.length + 1≤i + 1; lia,hrn⟩
 ·rintro σ H' ⟨vr,st,a,b,c,rfl,sH,hP,pr,hl,hrn⟩
  rw [List.drop_length,wayRun] at hrn
  cases hrn
  cases pr with
  | @cons v _ vr1 _ h1 pr1 =>
  cases pr1
  exact ⟨_,rfl,pw,_,_,v,rfl,rfl,SqL.of hP,rfl,q v H' sH h1⟩
theorem Dats.app {H:Hp}:∀ {a b:List D} {xs ys:List V},Dats H a xs→Dats H b ys→Dats H (a++b) (xs++ys)
 | [],b,xs,ys,h,h2=>by rw [h.nilE]; exact h2
 | d :: r,b,xs,ys,h,h2=>by
  obtain ⟨x,t,rfl,h1,h3⟩:=h.consE
  exact .consI h1 (Dats.app h3 h2)
theorem dat_grp {H:Hp} {k:Str} {m0:D} {more off:List D} {v:V} (h:Dat H (.tup [.str k,.tup (m0 :: more),.tup off]) v):∃ (p pm po:Addr) (x0:V) (xm xo:List V),v=.ref p∧H p=some (.tup [.str k,.ref pm,.ref po])∧H pm=some (.tup (x0 :: xm))∧H po=some (.tup xo)∧Dat H m0 x0∧Dats H more xm∧Dats H off xo:=by
 obtain ⟨p,xs,rfl,hp,h⟩:=h.tupE
 obtain ⟨a,r,rfl,ha,h⟩:=h.consE
 obtain ⟨b,r,rfl,hb,h⟩:=h.consE
 obtain ⟨c,r,rfl,hc,h⟩:=h.consE
 have:=h.nilE
 subst this
 have:=ha.strE
 subst this
 obtain ⟨pm,xm,rfl,hpm,hm⟩:=hb.tupE
 obtain ⟨po,xo,rfl,hpo,ho⟩:=hc.tupE
 obtain ⟨x0,r,rfl,h0,hm⟩:=hm.consE
 exact ⟨p,pm,po,x0,r,xo,rfl,hp,hpm,hpo,h0,hm,ho⟩
theorem Dats.pairs {H:Hp} (w:Str):∀ {l:List D} {xs:List V},Dats H l xs→Dats H (l.flatMap fun p=>[p,.str w]) (xs.flatMap fun y=>[y,.str w])
 | [],xs,h=>by rw [h.nilE]; exact .nilI H
 | d :: r,xs,h=>by
  obtain ⟨x,t,rfl,h1,h2⟩:=h.consE
  exact .consI h1 (.consI (.strI w) (Dats.pairs w h2))
noncomputable def spUnf:Sp:=fun vs H Q _=>∃ (v:V) (k:Str) (m0:D) (more off:List D),vs=[v]∧Dat H (.tup [.str k,.tup (m0 :: more),.tup off]) v∧(k="sum"∨k="product")∧more.length + off.length≤400∧∀ (r:Addr) (us:List V) (H':Hp),Same H H'→H' r=some (.lst us)→Dats H' (unf (.tup [.str k,.tup (m0 :: more),.tup off])) us→Q (.ref r) H'
theorem pairs_len (w:Str):∀ xs:List V,(xs.flatMap fun y=>[y,V.str w]).length=2 * xs.length
 | []=>rfl
 | x :: r=>by
  rw [List.flatMap_cons,List.length_append,pairs_len w r]
  show 2 + 2 * r.length=2 * (r.length + 1)
  lia
theorem pairs_take {w:Str} {xs:List V} {i:Nat} {y:V} (h:xs[i]?=some y):((xs.take (i + 1)).flatMap fun y=>[y,V.str w])=((xs.take i).flatMap fun y=>[y,V.str w])++[y,.str w]:=by
 have il:=(List.getElem?_eq_some_iff.mp h).1
 rw [List.take_succ,h]
 simp
noncomputable abbrev s_unfolded:Stmt:=top 23
theorem sc_unfolded:FnScope ["form","kind","more","off","row","part"] ["form"] (defScope s_unfolded):=⟨rfl,rfl,rfl,by decide +kernel,rfl,by decide +kernel,by decide +kernel⟩
theorem ok_unf {f dP dT:Addr} {fd:FuncData} (F:Fun K "unfolded" "unfolded" s_unfolded f fd) (B:Blt mg) (mP:mg "PUT"=some (.ref dP)) (mT:mg "TAKEN"=some (.ref dT)) (TP:TopDict w K dP) (TT:TopDict w K dT)
  (hP:∀ k:Str,(k="sum"∨k="product")→∃ t,PySem.W.nsIn K dP k=some (some (.str (pt k) t))) (hT:∀ k:Str,(k="sum"∨k="product")→∃ t,PySem.W.nsIn K dT k=some (some (.str (tk k) t))):FnOk P w K mg base CX0 1 f fd ["form"] spUnf:=by
 refine F.ok sc_unfolded (fun vs H Q E h=>?_) (fun cdv A outer s H vs Q E hr h=>?_)
 ·obtain ⟨v,k,m0,more,off,rfl,_⟩:=h
  rfl
 obtain ⟨v,k,m0,more,off,rfl,hd,hk,hl,q⟩:=h
 obtain ⟨p,pm,po,x0,xm,xo,rfl,hp,hpm,hpo,h0,h1,h2⟩:=dat_grp hd
 have l1:=h1.len
 have l2:=h2.len
 obtain ⟨t1,e1⟩:=hP k hk
 obtain ⟨t2,e2⟩:=hT k hk
 refine ⟨_,(pss_cons (ps_asg (pv 0) (pg_tup rfl (pgs_cons (pg_name (i:=1) sc_unfolded.nd rfl (by first | exact Or.inl rfl | exact Or.inr rfl)) (pgs_cons (pg_name (i:=2) sc_unfolded.nd rfl (by first | exact Or.inl rfl | exact Or.inr rfl)) (pgs_cons (pg_name (i:=3) sc_unfolded.nd rfl (by first | exact Or.inl rfl | exact Or.inr rfl)) pgs_nil)))))
   (pss_cons (ps_set (i:=4) sc_unfolded.nd rfl (by first | exact Or.inl rfl | exact Or.inr rfl) (pe_lst (pa_cons (pe_ix ix_tup (pv 2) pe_int (fun _ _=>rfl)) pa_nil)))
   (pss_cons (ps_for PassesOwn.never rfl (pi_tup (pe_slice sl_tup (pv 2) (po_some pe_int) po_none)) (pg_name (i:=5) sc_unfolded.nd rfl (by first | exact Or.inl rfl | exact Or.inr rfl)) (pss_cons (ps_expr (pe_bm PySem.F.plainAttrs_list PySem.F.slot_list_append PySem.F.type_list_append mt_append (pv 4) (pa_cons (pv 5) pa_nil)))
   (pss_one (ps_expr (pe_bm PySem.F.plainAttrs_list PySem.F.slot_list_append PySem.F.type_list_append mt_append (pv 4) (pa_cons (pe_ix ix_top (pe_glob (v:=.ref dP) rfl mP rfl) (pv 1) (fun _ _=>rfl)) pa_nil))))))
   (pss_cons (ps_for PassesOwn.never rfl (pi_tup (pv 3)) (pg_name (i:=5) sc_unfolded.nd rfl (by first | exact Or.inl rfl | exact Or.inr rfl)) (pss_cons (ps_expr (pe_bm PySem.F.plainAttrs_list PySem.F.slot_list_append PySem.F.type_list_append mt_append (pv 4) (pa_cons (pv 5) pa_nil)))
   (pss_one (ps_expr (pe_bm PySem.F.plainAttrs_list PySem.F.slot_list_append PySem.F.type_list_append mt_append (pv 4) (pa_cons (pe_ix ix_top (pe_glob (v:=.ref dT) rfl mT rfl) (pv 1) (fun _ _=>rfl)) pa_nil))))))
   (pss_one (ps_ret (pv 4))))))),?_⟩
 refine ⟨_,rfl,p,_,rfl,SqT.of hp,rfl,_,_,rfl,_,_,rfl,_,_,rfl,rfl,?_⟩
 refine ⟨_,rfl,pm,_,0,x0,rfl,rfl,SqT.of hpm,atI_nat (j:=0) rfl,(by show 1≤sizeLine; decide),fun r hr0=>?_⟩
 refine ⟨_,rfl,_,rfl,pm,_,rfl,SqT.of (Same.new hr0 _ _ hpm),?_,fun tp htp=>?_⟩
 ·intro z
  have:min (1:Int).toNat (xm.length + 1)=0:=z.1
  lia
 have ec:cutV (x0 :: xm) (some 1) none=xm:=by
  unfold cutV
  show ((x0 :: xm).drop (min 1 (xm.length + 1))).take (xm.length + 1 - min 1 (xm.length + 1))=xm
  rw [Nat.min_eq_left (by lia)]
  show xm.take (xm.length + 1 - 1)=xm
  rw [Nat.add_sub_cancel,List.take_length]
 rw [ec]
 have s1:Same H (upd (upd H r (.lst [x0])) tp (.tup xm)):=(Same.new hr0).trans (Same.new htp)
 have ntr:r≠tp:=ne_of_none upd_same htp
 have np:H tp=none:=(Same.new hr0).free htp
 have big:∀ k:Nat,k≤1000→k < sizeLine:=fun k=>small1000
 have sU:∀ (o:HO) (H'':Hp),Same H H''→Same H (upd H'' r o):=fun o H'' s b u e=>by rw [upd_ne (ne_of_none e hr0)]; exact s b u e
 refine ⟨tp,rfl,⟨_,SqT.of upd_same⟩,for_tup (K:=K) (a:=tp) (xs:=xm) (fun i σ H'=>∃ o,σ=[some (.ref p),some (.str k),some (.ref pm),some (.ref po),some (.ref r),o]∧Same H H'∧H' tp=some (.tup xm)∧H' r=some (.lst (x0 :: ((xm.take i).flatMap fun y=>[y,V.str (pt k)])))) ⟨none,rfl,s1,upd_same,by rw [upd_ne ntr,upd_same]; rfl⟩ (fun i σ H' _ ⟨_,_,_,g,_⟩=>SqT.of g) ?_ ?_⟩
 ·rintro i y σ H' hi ⟨o,rfl,sH,gt,gr⟩
  have il:=(List.getElem?_eq_some_iff.mp hi).1
  have ln:(x0 :: ((xm.take i).flatMap fun y=>[y,V.str (pt k)])).length≤900:=by
   rw [List.length_cons,pairs_len,List.length_take]; lia
  refine ⟨_,rfl,.inl ⟨rfl,_,SqL.of gr⟩,_,rfl,r,_,_,rfl,rfl,gr,big _ (by lia),?_⟩
  refine ⟨_,rfl,.inl ⟨rfl,_,SqL.of upd_same⟩,?_⟩
  refine ⟨_,rfl,dP,k,.str (pt k),_,rfl,rfl,TP,e1,⟨t1,rfl⟩,?_⟩
  refine ⟨r,_,_,rfl,rfl,upd_same,big _ (by rw [List.length_append]; show _ + 1≤_; lia),?_⟩
  refine ⟨_,rfl,sU _ _ (sU _ _ sH),by rw [upd_ne ntr.symm,upd_ne ntr.symm]; exact gt,?_⟩
  rw [upd_same,pairs_take hi]
  simp
 rintro σ H' ⟨o,rfl,sH,gt,gr⟩
 rw [List.take_length] at gr
 have s2:=sH
 refine ⟨_,rfl,po,rfl,⟨_,SqT.of (sH _ _ hpo)⟩,for_tup (K:=K) (a:=po) (xs:=xo) (fun i σ H'=>∃ o,σ=[some (.ref p),some (.str k),some (.ref pm),some (.ref po),some (.ref r),o]∧Same H H'∧H' r=some (.lst (x0 :: (xm.flatMap fun y=>[y,V.str (pt k)])++((xo.take i).flatMap fun y=>[y,V.str (tk k)])))) ⟨_,rfl,sH,by rw [gr]; simp⟩ (fun i σ H' _ ⟨_,_,g,_⟩=>SqT.of (g _ _ hpo)) ?_ ?_⟩
 ·rintro i y σ H' hi ⟨o,rfl,sH,gr⟩
  have il:=(List.getElem?_eq_some_iff.mp hi).1
  have ln:(x0 :: (xm.flatMap fun y=>[y,V.str (pt k)])++((xo.take i).flatMap fun y=>[y,V.str (tk k)])).length≤900:=by
   rw [List.length_append,List.length_cons,pairs_len,pairs_len,List.length_take]; lia
  refine ⟨_,rfl,.inl ⟨rfl,_,SqL.of gr⟩,_,rfl,r,_,_,rfl,rfl,gr,big _ (by lia),?_⟩
  refine ⟨_,rfl,.inl ⟨rfl,_,SqL.of upd_same⟩,?_⟩
  refine ⟨_,rfl,dT,k,.str (tk k),_,rfl,rfl,TT,e2,⟨t2,rfl⟩,?_⟩
  refine ⟨r,_,_,rfl,rfl,upd_same,big _ (by rw [List.length_append]; show _ + 1≤_; lia),?_⟩
  refine ⟨_,rfl,sU _ _ (sU _ _ sH),?_⟩
  rw [upd_same,pairs_take hi]
  simp
 rintro σ H' ⟨o,rfl,sH,gr⟩
 rw [List.take_length] at gr
 refine ⟨_,rfl,q r _ H' sH gr ?_⟩
 have kt:=KT.same sH
 exact .consI (Dat.kt kt _ h0) (Dats.app (Dats.pairs _ (Dats.kt kt _ h1)) (Dats.pairs _ (Dats.kt kt _ h2)))
theorem szs_len:∀ l:List D,2 * l.length≤szs l
 | []=>Nat.zero_le _
 | d :: r=>by
  have:=szs_len r
  have:=sz_pos d
  rw [szs,List.length_cons]; lia
theorem szl_len:∀ l:List D,l.length≤szl l
 | []=>Nat.zero_le _
 | d :: r=>by
  have h:=szl_len r
  have:=sz_pos d
  unfold szl at h ⊢
  rw [List.map_cons,List.sum_cons,List.length_cons]; lia
theorem sz_grp (k:Str) (m0:D) (more off:List D):szs (m0 :: more) + szs off + 5≤sz (.tup [.str k,.tup (m0 :: more),.tup off]):=by
 have e1:∀ l,sz (.tup l)=1 + szs l:=fun l=>by rw [sz]
 have e3:∀ (d:D) (r:List D),szs (d :: r)=sz d + 1 + szs r:=fun d r=>by rw [szs]
 have e4:szs []=0:=by rw [szs]
 rw [e1,e3 (.str k),e3 (.tup _),e3 (.tup off),e4,e1,e1]
 lia
noncomputable def OkIt (d:D):Prop:=IsForm d∨∃ w,d=.str w
theorem unf_ok {k:Str} {m0:D} {more off:List D} (h0:IsForm m0) (h1:∀ x∈more,IsForm x) (h2:∀ x∈off,IsForm x):∀ x∈unf (.tup [.str k,.tup (m0 :: more),.tup off]),OkIt x:=by
 intro x hx
 rcases List.mem_cons.mp hx with rfl | hx
 ·exact .inl h0
 rcases List.mem_append.mp hx with hx | hx
 ·obtain ⟨y,hy,hx⟩:=List.mem_flatMap.mp hx
  simp only [List.mem_cons,List.not_mem_nil,or_false] at hx
  rcases hx with rfl | rfl
  ·exact .inl (h1 _ hy)
  ·exact .inr ⟨_,rfl⟩
 ·obtain ⟨y,hy,hx⟩:=List.mem_flatMap.mp hx
  simp only [List.mem_cons,List.not_mem_nil,or_false] at hx
  rcases hx with rfl | rfl
  ·exact .inl (h2 _ hy)
  ·exact .inr ⟨_,rfl⟩
noncomputable def spSF:Sp:=fun vs H Q _=>∃ (v:V) (d:D),vs=[v]∧Dat H d v∧IsForm d∧(fw d).nodes≤600∧sz d≤800∧∀ (r:Addr) (H':Hp),Same H H'→H' r=some (.lst (post (fw d)))→Q (.ref r) H'
noncomputable abbrev s_steps_of_form:Stmt:=top 22
theorem sc_steps_of_form:FnScope ["form","steps","waiting","part"] ["form"] (defScope s_steps_of_form):=⟨rfl,rfl,rfl,by decide +kernel,rfl,by decide +kernel,by decide +kernel⟩
theorem ok_sf {f:Addr} {fd:FuncData} (F:Fun K "steps_of_form" "steps_of_form" s_steps_of_form f fd) (B:Blt mg) (Gunf:Def P w K mg base CX0 1 "unfolded" spUnf):FnOk P w K mg base CX0 2 f fd ["form"] spSF:=by
 refine F.ok sc_steps_of_form (fun vs H Q E h=>?_) (fun cdv A outer s H vs Q E hr h=>?_)
 ·obtain ⟨v,d,rfl,_⟩:=h
  rfl
 obtain ⟨v,d,rfl,hd,hF,hn,hz,q⟩:=h
 have pl:=post_len (fw d)
 refine ⟨_,(pss_cons (ps_set (i:=1) sc_steps_of_form.nd rfl (by first | exact Or.inl rfl | exact Or.inr rfl) (pe_lst pa_nil))
   (pss_cons (ps_set (i:=2) sc_steps_of_form.nd rfl (by first | exact Or.inl rfl | exact Or.inr rfl) (pe_lst (pa_cons (pv 0) pa_nil)))
   (pss_cons (ps_while PassesOwn.never (pt_truth (pv 2) (fun _=>rfl)) (pss_cons (ps_set (i:=3) sc_steps_of_form.nd rfl (by first | exact Or.inl rfl | exact Or.inr rfl) (pe_bm0 PySem.F.plainAttrs_list PySem.F.slot_list_pop PySem.F.type_list_pop mt_pop (pv 2)))
   (pss_one (ps_if (pt_val (pe_isin B.isinstance B.tuple bt_tuple (pv 3))) (pss_one (ps_expr (pe_bm PySem.F.plainAttrs_list PySem.F.slot_list_extend PySem.F.type_list_extend mt_extend (pv 2) (pa_cons (pe_rev (pe_def Gunf (hr.mono (by lia)) (pa_cons (pv 3) pa_nil))) pa_nil)))) (pss_one (ps_expr (pe_bm PySem.F.plainAttrs_list PySem.F.slot_list_append PySem.F.type_list_append mt_append (pv 1) (pa_cons (pv 3) pa_nil))))))))
   (pss_one (ps_ret (pv 1)))))),?_⟩
 refine ⟨(by show 0≤sizeLine; decide),fun ps hps=>⟨_,rfl,(by show 1≤sizeLine; decide),fun pw hpw=>?_⟩⟩
 have hs1:(upd (upd H ps (.lst [])) pw (.lst [v])) ps=some (.lst []):=by rw [upd_ne (ne_of_none upd_same hpw),upd_same]
 have npw:H pw=none:=(Same.new hps).free hpw
 have nsw:ps≠pw:=ne_of_none upd_same hpw
 have S0:Same H (upd (upd H ps (.lst [])) pw (.lst [v])):=(Same.new hps).trans (Same.new hpw)
 refine ⟨fun m σ H'=>∃ (vr:List V) (wr:List D) (st:List V) (o:Option V),σ=[some v,some (.ref ps),some (.ref pw),o]∧Same H H'∧H' ps=some (.lst st)∧H' pw=some (.lst vr.reverse)∧Dats H' wr vr∧(∀ x∈wr,OkIt x)∧st++wr.flatMap itV=post (fw d)∧szl wr≤800∧m=szl wr,
  ⟨_,[v],[d],[],none,rfl,S0,hs1,upd_same,.consI (Dat.kt (KT.same S0) _ hd) (.nilI _),(fun x hx=>by rw [List.mem_singleton.mp hx]; exact .inl hF),by rw [List.flatMap_cons,List.flatMap_nil,List.append_nil,itV_form hF]; rfl,by unfold szl; simpa using hz,rfl⟩,?_⟩
 rintro m σ H' ⟨vr,wr,st,o,rfl,sH,h1,h2,pr,hok,eq,hsz,em⟩
 have lv:=pr.len
 have lw:=szl_len wr
 have lst:st.length≤600:=by
  have:=congrArg List.length eq
  rw [List.length_append,pl] at this
  lia
 have big:∀ k:Nat,k≤1000→k < sizeLine:=fun k=>small1000
 refine ⟨_,rfl,_,.inl ⟨_,SqL.of h2,rfl⟩,?_⟩
 cases wr with
 | nil =>
  have:=pr.nilE
  subst this
  refine iteF ?_
  have e:st=post (fw d):=by simpa using eq
  rw [e] at h1
  exact ⟨_,rfl,q ps H' sH h1⟩
 | cons z wr' =>
  obtain ⟨y,vr',rfl,hy,pr'⟩:=pr.consE
  have e2:(y :: vr').reverse=vr'.reverse++[y]:=List.reverse_cons
  have sn:szl (z :: wr')=sz z + szl wr':=by unfold szl; rw [List.map_cons,List.sum_cons]
  have zp:=sz_pos z
  rw [e2] at h2
  refine (show (if _ then _ else _:Prop) from ?_)
  have ne:(!((y :: vr').reverse).isEmpty)=true:=by rw [e2]; simp
  rw [if_pos ne]
  refine ⟨fun σ' H'=>∃ m',m' < m∧∃ (vr:List V) (wr:List D) (st:List V) (o:Option V),σ'=[some v,some (.ref ps),some (.ref pw),o]∧Same H H'∧H' ps=some (.lst st)∧H' pw=some (.lst vr.reverse)∧Dats H' wr vr∧(∀ x∈wr,OkIt x)∧st++wr.flatMap itV=post (fw d)∧szl wr≤800∧m'=szl wr,fun σ' H' h=>h,?_⟩
  refine ⟨_,rfl,.inl ⟨rfl,_,SqL.of h2⟩,pw,_,y,rfl,rfl,h2,(by simp),?_⟩
  rw [List.dropLast_concat]
  have h1a:(upd H' pw (.lst vr'.reverse)) ps=some (.lst st):=by rw [upd_ne nsw]; exact h1
  have h2a:(upd H' pw (.lst vr'.reverse)) pw=some (.lst vr'.reverse):=upd_same
  have sHa:Same H (upd H' pw (.lst vr'.reverse)):=fun b o e=>by rw [upd_ne (ne_of_none e npw)]; exact sH b o e
  have ka:KT H' (upd H' pw (.lst vr'.reverse)):=KT.upd h2
  have pra:=Dats.kt ka _ pr'
  have hya:=Dat.kt ka _ hy
  have hok':∀ x∈wr',OkIt x:=fun x hx=>hok x (List.mem_cons_of_mem _ hx)
  have eqz:st++(itV z++wr'.flatMap itV)=post (fw d):=by rw [← List.flatMap_cons]; exact eq
  have push:∀ u:V,itV z=[u]→∃ m',m' < m∧∃ (vr:List V) (wr:List D) (st2:List V) (o:Option V),[some v,some (.ref ps),some (.ref pw),some y]=[some v,some (.ref ps),some (.ref pw),o]∧Same H (upd (upd H' pw (.lst vr'.reverse)) ps (.lst (st++[u])))∧(upd (upd H' pw (.lst vr'.reverse)) ps (.lst (st++[u]))) ps=some (.lst st2)∧(upd (upd H' pw (.lst vr'.reverse)) ps (.lst (st++[u]))) pw=some (.lst vr.reverse)∧Dats (upd (upd H' pw (.lst vr'.reverse)) ps (.lst (st++[u]))) wr vr∧(∀ x∈wr,OkIt x)∧st2++wr.flatMap itV=post (fw d)∧szl wr≤800∧m'=szl wr:=fun u hu =>
   ⟨szl wr',by lia,vr',wr',st++[u],_,rfl,fun b o e=>by rw [upd_ne (ne_of_none e hps)]; exact sHa b o e,upd_same,by rw [upd_ne nsw.symm]; exact h2a,Dats.kt (KT.upd h1a) _ pra,hok',by rw [List.append_assoc,← hu]; exact eqz,by lia,rfl⟩
  rcases hok z (List.mem_cons_self ..) with hz1 | ⟨wz,rfl⟩
  ·cases hz1 with
   | @num i g0 g1 =>
    have:=hya.intE
    subst this
    refine ⟨_,rfl,_,_,TyOf.int _,kit_int_tuple _,_,rfl,iteF ?_⟩
    refine ⟨_,rfl,.inl ⟨rfl,_,SqL.of h1a⟩,_,rfl,ps,st,_,rfl,rfl,h1a,big _ (by lia),?_⟩
    exact push _ (by show post (fw (.int i))=_; rw [fw_int]; rfl)
   | @grp k m0 more off hk g0 g1 g2 =>
    obtain ⟨p,pm,po,x0,xm,xo,rfl,hp,_⟩:=dat_grp hya
    have sg:=sz_grp k m0 more off
    have c1:=szs_len (m0 :: more)
    have c2:=szs_len off
    rw [List.length_cons] at c1
    refine ⟨_,rfl,_,_,TyOf.tup hp,kit_tup_tup _,_,rfl,iteT ?_⟩
    refine ⟨_,rfl,.inl ⟨rfl,_,SqL.of h2a⟩,_,rfl,_,k,m0,more,off,rfl,hya,hk,by lia,fun r us H2 s2 hr2 du=>⟨r,_,rfl,SqL.of hr2,fun pp hpp=>?_⟩⟩
    have lu:=du.len
    have cu:=szl_unf k m0 more off
    have lu2:=szl_len (unf (.tup [.str k,.tup (m0 :: more),.tup off]))
    have h2b:=Same.new (o:=.lst us.reverse) hpp _ _ (s2 _ _ h2a)
    have lv':=pra.len
    have lw':=szl_len wr'
    refine ⟨pw,pp,_,_,rfl,rfl,h2b,upd_same,Nat.le_of_lt (big _ (by rw [List.length_reverse,List.length_reverse]; lia)),?_⟩
    have s3:=s2.trans (Same.new (o:=.lst us.reverse) hpp)
    have k3:=(KT.same s3).trans (KT.upd (o:=.lst (vr'.reverse++us.reverse)) h2b)
    have kr:=(KT.new (o:=.lst us.reverse) hpp).trans (KT.upd (o:=.lst (vr'.reverse++us.reverse)) h2b)
    refine ⟨szl (unf (.tup [.str k,.tup (m0 :: more),.tup off])++wr'),?_,us++vr',unf (.tup [.str k,.tup (m0 :: more),.tup off])++wr',st,_,rfl,?_,?_,?_,Dats.app (Dats.kt kr _ du) (Dats.kt k3 _ pra),?_,?_,?_,rfl⟩
    ·have e:szl (unf (.tup [.str k,.tup (m0 :: more),.tup off])++wr')=szl (unf (.tup [.str k,.tup (m0 :: more),.tup off])) + szl wr':=by unfold szl; rw [List.map_append,List.sum_append]
     lia
    ·exact fun b o e=>by rw [upd_ne (ne_of_none e npw)]; exact s3 _ _ (sHa b o e)
    ·rw [upd_ne nsw]; exact s3 _ _ h1a
    ·rw [upd_same,List.reverse_append]
    ·intro x hx
     rcases List.mem_append.mp hx with hx | hx
     ·exact unf_ok g0 g1 g2 x hx
     ·exact hok' x hx
    ·rw [List.flatMap_append,unf_it g0 g1 g2]; exact eqz
    ·have e:szl (unf (.tup [.str k,.tup (m0 :: more),.tup off])++wr')=szl (unf (.tup [.str k,.tup (m0 :: more),.tup off])) + szl wr':=by unfold szl; rw [List.map_append,List.sum_append]
     lia
  ·have:=hya.strE
   subst this
   refine ⟨_,rfl,_,_,TyOf.str _,kit_str_tuple _,_,rfl,iteF ?_⟩
   refine ⟨_,rfl,.inl ⟨rfl,_,SqL.of h1a⟩,_,rfl,ps,st,_,rfl,rfl,h1a,big _ (by lia),?_⟩
   exact push _ rfl
noncomputable def spWayOf:Sp:=fun vs H Q _=>∃ (v:V) (d:D),vs=[v]∧Dat H d v∧IsForm d∧lv d≤100∧sz d≤800∧∀ (u:V) (H':Hp),Same H H'→WayIn H' u (fw d)→Q u H'
noncomputable abbrev s_way_of:Stmt:=top 20
theorem sc_way_of:FnScope ["form"] ["form"] (defScope s_way_of):=⟨rfl,rfl,rfl,by decide +kernel,rfl,by decide +kernel,by decide +kernel⟩
theorem ok_way_of {f fN fW:Addr} {fd:FuncData} (F:Fun K "way_of" "way_of" s_way_of f fd) (B:Blt mg) (mN:mg "number_itself"=some (.ref fN)) (mW:mg "way_with"=some (.ref fW)) (Gcome:Def P w K mg base CX0 2 "come_of" (spCome fN fW)) (Gsf:Def P w K mg base CX0 2 "steps_of_form" spSF):FnOk P w K mg base CX0 3 f fd ["form"] spWayOf:=by
 refine F.ok (k:=2) sc_way_of (fun vs H Q E h=>?_) (fun cdv A outer s H vs Q E hr h=>?_)
 ·obtain ⟨v,d,rfl,_⟩:=h
  rfl
 obtain ⟨v,d,rfl,hd,hF,hl,hz,q⟩:=h
 have ns:=(fw d).nodes_eq
 have fs:=fw_size hF
 refine ⟨_,(pss_one (ps_ret (pe_def Gcome (hr.mono (by lia)) (pa_cons (pe_def Gsf (hr.mono (by lia)) (pa_cons (pv 0) pa_nil)) (pa_cons (pe_glob (v:=.ref fN) rfl mN rfl) (pa_cons (pe_glob (v:=.ref fW) rfl mW rfl) pa_nil)))))),?_⟩
 exact ⟨_,rfl,v,d,rfl,hd,hF,by lia,hz,fun r H1 s1 h1=>⟨r,fw d,rfl,h1,by lia,fun u H2 s2 hw=>q u H2 (s1.trans s2) hw⟩⟩
end
end Wy
section
end
end Law
namespace Law
open PySem L2
section
variable {P:Program} {w:World} {K:PySem.W.Frag} {mg:Str→Option Value} {base:Heap}
end
namespace Xc
section
variable {P:Program} {w:World} {K:PySem.W.Frag} {mg:Str→Option Value} {base:Heap}
noncomputable abbrev s_init:Stmt:=inClass (top 2) 0
theorem sc_init:FnScope ["self","word"] ["self","word"] (defScope s_init):=⟨rfl,rfl,rfl,by decide +kernel,rfl,by decide +kernel,by decide +kernel⟩
noncomputable def xw (wd:Str):HO:=.xd [("word",.str wd)]
noncomputable def spInit (C:Addr):Sp:=fun vs H Q _=>∃ (e:Addr) (v:V) (fr:Bool),vs=[.ref e,v]∧H e=some (xO fr (.ref C) none e)∧∀ dx,H dx=none→dx≠e→Q .non (upd (upd H e (xO fr (.ref C) (some dx) e)) dx (.xd [("word",v)]))
theorem ok_init {f C:Addr} {bm:List Value} {fd:FuncData} (F:Fun K "__init__" "NoWay.__init__" s_init f fd) (c:XC K C bm) (n:NoAttr K C "word"):FnOk P w K mg base CX0 1 f fd ["self","word"] (spInit C):=by
 refine F.ok sc_init (fun vs H Q E h=>?_) (fun cdv A outer s H vs Q E hr h=>?_)
 ·obtain ⟨e,v,fr,rfl,_⟩:=h
  rfl
 obtain ⟨e,v,fr,rfl,he,q⟩:=h
 refine ⟨_,pss_one (ps_xfld (pv 0) (pv 1) rfl),?_⟩
 refine ⟨_,rfl,_,rfl,e,C,bm,fr,rfl,c,he,n,fun dx h1 h2=>?_⟩
 exact q dx h1 h2
structure Refs (P:Program) (w:World) (K:PySem.W.Frag) (mg:Str→Option Value) (base:Heap) (W N:Addr) (bN:List Value):Prop where
 cW:XC K W vMro
 cN:XC K N bN
 gN:mg "NoWay"=some (.ref N)
 mN:XMk P w K mg base N 1 (spInit N)
 wN:NoAttr K N "word"
noncomputable def spDeedX (N:Addr) (wd:Str):Sp:=fun vs H Q E=>∃ (a b:Int),vs=[.int a,.int b]∧1≤a∧a < 2 ^ 4000∧1≤b∧b < 2 ^ 4000∧match byE wd a b with
 | .inr z=>Q (.int z) H
 | .inl e=>∀ dx,H dx=none→E (.ref N) (some dx) (upd H dx (xw e))
noncomputable def spWorthOfX (N:Addr):Sp:=fun vs H Q E=>∃ (v:V) (x:Way),vs=[v]∧WayIn H v x∧x.fit∧x.nodes≤1000∧match worthE x with
 | .inr n=>∀ H',Same H H'→Q (.int n) H'
 | .inl e=>∀ dx H',Same H H'→H dx=none→H' dx=some (xw e)→E (.ref N) (some dx) H'
noncomputable def FamX (N:Addr) (fam:Str→Addr):Addr→Sp→Prop:=fun f sp=>∃ wd,okWord wd∧f=fam wd∧sp=spDeedX N wd
structure DeedsX (P:Program) (w:World) (K:PySem.W.Frag) (mg:Str→Option Value) (base:Heap) (N dD:Addr) (fam:Str→Addr):Prop where
 top:TopDict w K dD
 gl:mg "DEEDS"=some (.ref dD)
 at_:∀ wd,okWord wd→PySem.W.nsIn K dD wd=some (some (.ref (fam wd)))
 ok:∀ wd,okWord wd→Callee P w K mg base (CXF P w) 3 (fam wd) (spDeedX N wd)
variable {W N:Addr} {bN:List Value}
theorem raised {H:Hp} {E:XS} {σ:St} {wd:Str} (h:∀ dx,H dx=none→E (.ref N) (some dx) σ (upd H dx (xw wd))) (e:Addr) (he:H e=none) :
  spInit N [.ref e,.str wd] (upd H e (xO true (.ref N) none e)) (fun v H2=>v=.non∧∃ dx,H2 e=some (xO true (.ref N) dx e)∧E (.ref N) dx σ (del H2 e)) E0:=by
 refine ⟨e,.str wd,true,rfl,upd_same,fun dx h1 h2=>⟨rfl,some dx,?_,?_⟩⟩
 ·rw [upd_ne (Ne.symm h2),upd_same]
 ·rw [del_upd_ne h2,upd_upd,del_upd he]
  refine h dx ?_
  rw [upd_ne h2] at h1
  exact h1
noncomputable abbrev s_plus:Stmt:=top 4
theorem sc_plus:FnScope ["first","second"] ["first","second"] (defScope s_plus):=⟨rfl,rfl,rfl,by decide +kernel,rfl,by decide +kernel,by decide +kernel⟩
theorem okX_plus {f:Addr} {fd:FuncData} (F:Fun K "plus" "plus" s_plus f fd):FnOk P w K mg base (CXF P w) 3 f fd ["first","second"] (spDeedX N "plus"):=by
 refine F.okX sc_plus (fun vs H Q E h=>?_) (fun cdv A outer s H vs Q E hr h=>?_)
 ·obtain ⟨a,b,rfl,_⟩:=h
  rfl
 obtain ⟨a,b,rfl,a1,a2,b1,b2,e⟩:=h
 refine ⟨_,(pss_one (ps_ret (pe_op op_add (pv 0) (pv 1)))),?_⟩
 refine ⟨_,rfl,_,rfl,_,_,rfl,rfl,?_⟩
 exact e
noncomputable abbrev s_times:Stmt:=top 6
theorem sc_times:FnScope ["first","second"] ["first","second"] (defScope s_times):=⟨rfl,rfl,rfl,by decide +kernel,rfl,by decide +kernel,by decide +kernel⟩
theorem okX_times {f:Addr} {fd:FuncData} (F:Fun K "times" "times" s_times f fd):FnOk P w K mg base (CXF P w) 3 f fd ["first","second"] (spDeedX N "times"):=by
 refine F.okX sc_times (fun vs H Q E h=>?_) (fun cdv A outer s H vs Q E hr h=>?_)
 ·obtain ⟨a,b,rfl,_⟩:=h
  rfl
 obtain ⟨a,b,rfl,a1,a2,b1,b2,e⟩:=h
 have hmul:IntMulOk a b:=mulOk_of (by lia) (by lia)
 refine ⟨_,(pss_one (ps_ret (pe_op op_mulB (pv 0) (pv 1)))),?_⟩
 refine ⟨_,rfl,_,rfl,_,_,rfl,rfl,hmul,?_⟩
 have e':byE "times" a b=.inr (a * b):=by unfold byE; rw [if_neg (by decide +kernel),if_pos rfl]
 rw [e'] at e
 exact e
noncomputable abbrev s_less:Stmt:=top 5
theorem sc_less:FnScope ["first","second"] ["first","second"] (defScope s_less):=⟨rfl,rfl,rfl,by decide +kernel,rfl,by decide +kernel,by decide +kernel⟩
theorem byE_less {a b:Int}:byE "less" a b=if b < a then .inr (a - b) else .inl "less":=by
 unfold byE; rw [if_neg (by decide +kernel),if_neg (by decide +kernel),if_pos rfl]
theorem byE_share {a b:Int}:byE "share" a b=if a % b=0 then .inr (a / b) else .inl "share":=by
 unfold byE; rw [if_neg (by decide +kernel),if_neg (by decide +kernel),if_neg (by decide +kernel)]
theorem okX_less {f:Addr} {fd:FuncData} (F:Fun K "less" "less" s_less f fd) (R:Refs P w K mg base W N bN):FnOk P w K mg base (CXF P w) 3 f fd ["first","second"] (spDeedX N "less"):=by
 refine F.okX sc_less (fun vs H Q E h=>?_) (fun cdv A outer s H vs Q E hr h=>?_)
 ·obtain ⟨a,b,rfl,_⟩:=h
  rfl
 obtain ⟨a,b,rfl,a1,a2,b1,b2,e⟩:=h
 rw [byE_less] at e
 refine ⟨_,(pss_cons (ps_if (pt_cmpR op_le (pv 0) (pv 1) (nomark _)) (pss_one (ps_raise rfl R.cN R.mN (hr.mono (by lia)) R.gN (pa_cons pe_str pa_nil))) pss_nil)
   (pss_one (ps_ret (pe_op op_sub (pv 0) (pv 1))))),?_⟩
 refine ⟨_,rfl,_,rfl,_,_,rfl,rfl,_,rfl,?_⟩
 refine ite2 (fun c=>?_) (fun c=>?_)
 ·have hle:a≤b:=of_decide_eq_true c
  rw [if_neg (by lia)] at e
  exact ⟨(by show 1≤sizeLine; decide),raised (σ:=[]) (E:=fun cls dx _ H'=>E cls dx H') e⟩
 ·have hlt:b < a:=by
   have:¬ a≤b:=fun z=>c (decide_eq_true z)
   lia
  rw [if_pos hlt] at e
  refine ⟨_,rfl,_,rfl,_,_,rfl,rfl,?_⟩
  exact e
noncomputable abbrev s_share:Stmt:=top 7
theorem sc_share:FnScope ["first","second"] ["first","second"] (defScope s_share):=⟨rfl,rfl,rfl,by decide +kernel,rfl,by decide +kernel,by decide +kernel⟩
theorem okX_share {f:Addr} {fd:FuncData} (F:Fun K "share" "share" s_share f fd) (R:Refs P w K mg base W N bN):FnOk P w K mg base (CXF P w) 3 f fd ["first","second"] (spDeedX N "share"):=by
 refine F.okX sc_share (fun vs H Q E h=>?_) (fun cdv A outer s H vs Q E hr h=>?_)
 ·obtain ⟨a,b,rfl,_⟩:=h
  rfl
 obtain ⟨a,b,rfl,a1,a2,b1,b2,e⟩:=h
 rw [byE_share] at e
 refine ⟨_,(pss_cons (ps_if (pt_cmpR op_ne (pe_op op_mod (pv 0) (pv 1)) pe_int (nomark _)) (pss_one (ps_raise rfl R.cN R.mN (hr.mono (by lia)) R.gN (pa_cons pe_str pa_nil))) pss_nil)
   (pss_one (ps_ret (pe_op op_fdivB (pv 0) (pv 1))))),?_⟩
 refine ⟨_,rfl,_,rfl,_,_,rfl,rfl,(by show (0:Int) < b; lia),rfl,_,rfl,?_⟩
 by_cases hz:a % b=0
 ·rw [if_pos hz] at e
  refine iteNS (congrArg V.int hz) ?_
  refine ⟨_,rfl,_,rfl,_,_,rfl,rfl,⟨by lia,by lia⟩,?_⟩
  exact e
 ·rw [if_neg hz] at e
  refine (show (if _ then _ else _:Prop) from ?_)
  rw [if_pos (by rw [decide_eq_false (fun z=>hz (V.int.inj z))]; rfl)]
  exact ⟨(by show 1≤sizeLine; decide),raised (σ:=[]) (E:=fun cls dx _ H'=>E cls dx H') e⟩
noncomputable def spIdX:Sp:=fun vs H Q _=>∃ v:V,vs=[v]∧Q v H
noncomputable abbrev s_number_itself:Stmt:=top 11
theorem sc_number_itself:FnScope ["number"] ["number"] (defScope s_number_itself):=⟨rfl,rfl,rfl,by decide +kernel,rfl,by decide +kernel,by decide +kernel⟩
theorem okX_id {f:Addr} {fd:FuncData} (F:Fun K "number_itself" "number_itself" s_number_itself f fd):FnOk P w K mg base (CXF P w) 3 f fd ["number"] spIdX:=by
 refine F.okX (k:=2) sc_number_itself (fun vs H Q E h=>?_) (fun cdv A outer s H vs Q E hr h=>?_)
 ·obtain ⟨v,rfl,_⟩:=h
  rfl
 obtain ⟨v,rfl,q⟩:=h
 exact ⟨_,(pss_one (ps_ret (pv 0))),⟨_,rfl,q⟩⟩
noncomputable def spWBX (N:Addr):Sp:=fun vs H Q E=>∃ (wd:Str) (a b:Int),vs=[.str wd,.int a,.int b]∧okWord wd∧1≤a∧a < 2 ^ 4000∧1≤b∧b < 2 ^ 4000∧match byE wd a b with
 | .inr z=>Q (.int z) H
 | .inl e=>∀ dx,H dx=none→E (.ref N) (some dx) (upd H dx (xw e))
noncomputable abbrev s_worth_by:Stmt:=top 12
theorem sc_worth_by:FnScope ["word","first","second","deed"] ["word","first","second"] (defScope s_worth_by):=⟨rfl,rfl,rfl,by decide +kernel,rfl,by decide +kernel,by decide +kernel⟩
theorem okX_wb {f dD:Addr} {fam:Str→Addr} {fd:FuncData} (F:Fun K "worth_by" "worth_by" s_worth_by f fd) (B:Blt mg) (De:DeedsX P w K mg base N dD fam):FnOk P w K mg base (CXF P w) 5 f fd ["word","first","second"] (spWBX N):=by
 have De_ok:∀ g sp,FamX N fam g sp→Callee P w K mg base (CXF P w) 3 g sp:=by
  rintro g sp ⟨wd,hw,rfl,rfl⟩
  exact De.ok wd hw
 refine F.okX (k:=4) sc_worth_by (fun vs H Q E h=>?_) (fun cdv A outer s H vs Q E hr h=>?_)
 ·obtain ⟨wd,a,b,rfl,_⟩:=h
  rfl
 obtain ⟨wd,a,b,rfl,hw,a1,a2,b1,b2,q⟩:=h
 refine ⟨_,(pss_cons (ps_set (i:=3) sc_worth_by.nd rfl (by first | exact Or.inl rfl | exact Or.inr rfl) (pe_ix ix_top (pe_glob (v:=.ref dD) rfl De.gl rfl) (pv 0) (fun _ _=>rfl)))
   (pss_one (ps_ret (pe_callVX De_ok (hr.mono (by lia)) (pv 3) (pa_cons (pv 1) (pa_cons (pv 2) pa_nil)))))),?_⟩
 refine ⟨_,rfl,dD,wd,.ref (fam wd),.ref (fam wd),rfl,rfl,De.top,De.at_ wd hw,rfl,?_⟩
 exact ⟨_,rfl,fam wd,spDeedX N wd,rfl,⟨wd,hw,rfl,rfl⟩,_,rfl,_,rfl,a,b,rfl,a1,a2,b1,b2,q⟩
noncomputable def spComeX (N fN fB:Addr):Sp:=fun vs H Q E=>∃ (r:Addr) (x:Way),vs=[.ref r,.ref fN,.ref fB]∧H r=some (.lst (post x))∧x.fit∧x.nodes≤1000∧match worthE x with
 | .inr n=>∀ H',Same H H'→Q (.int n) H'
 | .inl e=>∀ dx H',Same H H'→H dx=none→H' dx=some (xw e)→E (.ref N) (some dx) H'
noncomputable abbrev s_come_of:Stmt:=top 10
theorem sc_come_of:FnScope ["steps","of_number","of_word","come","step","second","first"] ["steps","of_number","of_word"] (defScope s_come_of):=⟨rfl,rfl,rfl,by decide +kernel,rfl,by decide +kernel,by decide +kernel⟩
theorem okX_come {f fN fB:Addr} {fd:FuncData} (F:Fun K "come_of" "come_of" s_come_of f fd) (B:Blt mg) (CN:Callee P w K mg base (CXF P w) 3 fN spIdX) (CW:Callee P w K mg base (CXF P w) 5 fB (spWBX N)):FnOk P w K mg base (CXF P w) 7 f fd ["steps","of_number","of_word"] (spComeX N fN fB):=by
 have FN_ok:∀ g sp,(g=fN∧sp=spIdX)→Callee P w K mg base (CXF P w) 3 g sp:=by
  rintro g sp ⟨rfl,rfl⟩
  exact CN
 have FW_ok:∀ g sp,(g=fB∧sp=spWBX N)→Callee P w K mg base (CXF P w) 5 g sp:=by
  rintro g sp ⟨rfl,rfl⟩
  exact CW
 refine F.okX (k:=6) sc_come_of (fun vs H Q E h=>?_) (fun cdv A outer s H vs Q E hr h=>?_)
 ·obtain ⟨r,x,rfl,_⟩:=h
  rfl
 obtain ⟨r,x,rfl,hr2,fx,hn,ew⟩:=h
 have hrun:stepsRun (post x) []=match worthE x with
   | .inr n=>.val [n]
   | .inl e=>.no e:=by
  have:=run_post fx [] []
  rw [List.append_nil] at this
  rw [this]
  cases worthE x <;> rfl
 refine ⟨_,(pss_cons (ps_set (i:=3) sc_come_of.nd rfl (by first | exact Or.inl rfl | exact Or.inr rfl) (pe_lst pa_nil))
   (pss_cons (ps_for (x_passes rfl rfl) rfl (pi_list (pv 0)) (pg_name (i:=4) sc_come_of.nd rfl (by first | exact Or.inl rfl | exact Or.inr rfl)) (pss_one (ps_if (pt_val (pe_isin B.isinstance B.str bt_str (pv 4))) (pss_cons (ps_set (i:=5) sc_come_of.nd rfl (by first | exact Or.inl rfl | exact Or.inr rfl) (pe_bm0 PySem.F.plainAttrs_list PySem.F.slot_list_pop PySem.F.type_list_pop mt_pop (pv 3)))
   (pss_cons (ps_set (i:=6) sc_come_of.nd rfl (by first | exact Or.inl rfl | exact Or.inr rfl) (pe_bm0 PySem.F.plainAttrs_list PySem.F.slot_list_pop PySem.F.type_list_pop mt_pop (pv 3)))
   (pss_one (ps_expr (pe_bm PySem.F.plainAttrs_list PySem.F.slot_list_append PySem.F.type_list_append mt_append (pv 3) (pa_cons (pe_callVX FW_ok (hr.mono (by lia)) (pv 2) (pa_cons (pv 4) (pa_cons (pv 6) (pa_cons (pv 5) pa_nil)))) pa_nil)))))) (pss_one (ps_expr (pe_bm PySem.F.plainAttrs_list PySem.F.slot_list_append PySem.F.type_list_append mt_append (pv 3) (pa_cons (pe_callVX FN_ok (hr.mono (by lia)) (pv 1) (pa_cons (pv 4) pa_nil)) pa_nil)))))))
   (pss_one (ps_ret (pe_ix ix_list (pv 3) pe_int (fun _ _=>rfl)))))),?_⟩
 refine ⟨(by show 0≤sizeLine; decide),fun pw hpw=>?_⟩
 refine ⟨_,rfl,r,rfl,⟨_,SqL.of (Same.new hpw _ _ hr2)⟩,for_list (K:=K) (a:=r) (xs:=post x)
  (fun i σ H'=>∃ (st:List Int) (a b c:Option V),σ=[some (.ref r),some (.ref fN),some (.ref fB),some (.ref pw),a,b,c]∧Same H H'∧H' pw=some (.lst (st.reverse.map V.int))∧st.length≤i∧stepsRun ((post x).drop i) st=stepsRun (post x) [])
  ⟨[],none,none,none,rfl,Same.new hpw,upd_same,Nat.le_refl _,rfl⟩ (fun i σ H' _ ⟨_,_,_,_,_,g,_⟩=>SqL.of (g _ _ hr2)) ?_ ?_⟩
 ·rintro i y σ H' hi ⟨st,a,b,c,rfl,sH,h2,hl,hrn⟩
  have il:i < (post x).length:=(List.getElem?_eq_some_iff.mp hi).1
  have ed:(post x).drop i=y :: (post x).drop (i + 1):=by
   rw [List.drop_eq_getElem_cons il,(List.getElem?_eq_some_iff.mp hi).2]
  have lp:=post_len x
  rw [ed] at hrn
  have big:∀ k:Nat,k≤1000→k < sizeLine:=fun k=>small1000
  have nbad:stepsRun (post x) []≠.bad:=by rw [hrun]; cases worthE x <;> exact fun z=>by cases z
  have sU:∀ (o:HO) (H'':Hp),Same H H''→Same H (upd H'' pw o):=fun o H'' s b u e=>by rw [upd_ne (ne_of_none e hpw)]; exact s b u e
  cases y with
  | int k =>
   rw [run_int] at hrn
   refine ⟨_,rfl,_,_,TyOf.int _,kit_int_str _,_,rfl,iteF ?_⟩
   refine ⟨_,rfl,.inl ⟨rfl,_,SqL.of h2⟩,_,rfl,fN,spIdX,rfl,⟨rfl,rfl⟩,_,rfl,_,rfl,pw,_,_,rfl,rfl,h2,big _ (by rw [List.length_map,List.length_reverse]; lia),?_⟩
   exact ⟨k :: st,_,_,_,rfl,sU _ _ sH,by rw [upd_same,List.reverse_cons,List.map_append]; rfl,by rw [List.length_cons]; lia,hrn⟩
  | str wd =>
   match st,hrn,h2,hl with
   | [],hrn,h2,hl=>exact absurd hrn.symm (by simpa [stepsRun] using nbad)
   | [_],hrn,h2,hl=>exact absurd hrn.symm (by simpa [stepsRun] using nbad)
   | j :: i' :: st',hrn,h2,hl =>
    rw [run_str] at hrn
    split at hrn
    ·rename_i g
     obtain ⟨hw,i1,i2,j1,j2⟩:=g
     have e2:((j :: i' :: st').reverse.map V.int)=(st'.reverse.map V.int++[.int i'])++[.int j]:=by simp
     rw [e2] at h2
     refine ⟨_,rfl,_,_,TyOf.str _,kit_str_str _,_,rfl,iteT ?_⟩
     refine ⟨_,rfl,.inl ⟨rfl,_,SqL.of h2⟩,pw,_,.int j,rfl,rfl,h2,(by simp),?_⟩
     rw [List.dropLast_concat]
     refine ⟨_,rfl,.inl ⟨rfl,_,SqL.of upd_same⟩,pw,_,.int i',rfl,rfl,upd_same,(by simp),?_⟩
     rw [List.dropLast_concat]
     refine ⟨_,rfl,.inl ⟨rfl,_,SqL.of upd_same⟩,_,rfl,fB,spWBX N,rfl,⟨rfl,rfl⟩,_,rfl,_,rfl,_,rfl,wd,i',j,rfl,hw,i1,i2,j1,j2,?_⟩
     cases eb:byE wd i' j with
     | inl e =>
      rw [eb] at hrn
      have ee:worthE x=.inl e:=by
       rw [hrun] at hrn
       cases ex:worthE x with
       | inl e'=>rw [ex] at hrn; cases hrn; rfl
       | inr n=>rw [ex] at hrn; cases hrn
      rw [ee] at ew
      intro dx hd
      have S0:=sU (.lst (st'.reverse.map V.int)) _ (sU (.lst (st'.reverse.map V.int++[.int i'])) _ sH)
      exact ew dx _ (S0.trans (Same.new hd)) (S0.free hd) upd_same
     | inr z =>
      rw [eb] at hrn
      refine ⟨pw,_,_,rfl,rfl,upd_same,big _ (by rw [List.length_map,List.length_reverse]; have:st'.length + 1 + 1≤i:=hl; lia),?_⟩
      exact ⟨z :: st',_,_,_,rfl,sU _ _ (sU _ _ (sU _ _ sH)),by rw [upd_same,List.reverse_cons,List.map_append]; rfl,by have:st'.length + 1 + 1≤i:=hl; rw [List.length_cons]; lia,hrn⟩
    ·exact absurd hrn.symm nbad
  | _=>exact absurd hrn.symm (by simpa [stepsRun] using nbad)
 ·rintro σ H' ⟨st,a,b,c,rfl,sH,h2,hl,hrn⟩
  rw [List.drop_length,stepsRun,hrun] at hrn
  cases ex:worthE x with
  | inl e=>rw [ex] at hrn; cases hrn
  | inr n =>
   rw [ex] at hrn ew
   cases hrn
   exact ⟨_,rfl,pw,_,_,.int n,rfl,rfl,SqL.of h2,rfl,ew _ sH⟩
noncomputable abbrev s_worth_of:Stmt:=top 13
theorem sc_worth_of:FnScope ["way"] ["way"] (defScope s_worth_of):=⟨rfl,rfl,rfl,by decide +kernel,rfl,by decide +kernel,by decide +kernel⟩
theorem okX_worth_of {f fN fB:Addr} {fd:FuncData} (F:Fun K "worth_of" "worth_of" s_worth_of f fd) (B:Blt mg) (mN:mg "number_itself"=some (.ref fN)) (mB:mg "worth_by"=some (.ref fB)) (Gsteps:Def P w K mg base CX0 1 "steps_of" spSteps) (GcomeX:Def P w K mg base (CXF P w) 7 "come_of" (spComeX N fN fB)):FnOk P w K mg base (CXF P w) 9 f fd ["way"] (spWorthOfX N):=by
 refine F.okX (k:=8) sc_worth_of (fun vs H Q E h=>?_) (fun cdv A outer s H vs Q E hr h=>?_)
 ·obtain ⟨v,x,rfl,_⟩:=h
  rfl
 obtain ⟨v,x,rfl,hx,fx,hn,ew⟩:=h
 refine ⟨_,(pss_one (ps_ret (pe_defX GcomeX (hr.mono (by lia)) (pa_cons (pe_def Gsteps (hr.mono (by lia)) (pa_cons (pv 0) pa_nil)) (pa_cons (pe_glob (v:=.ref fN) rfl mN rfl) (pa_cons (pe_glob (v:=.ref fB) rfl mB rfl) pa_nil)))))),?_⟩
 refine ⟨_,rfl,v,x,rfl,hx,hn,fun r H1 s1 h1=>⟨r,x,rfl,h1,fx,hn,?_⟩⟩
 cases ex:worthE x with
 | inl e=>rw [ex] at ew; exact fun dx H2 s2 hd hx2=>ew dx H2 (s1.trans s2) (s1.free hd) hx2
 | inr n=>rw [ex] at ew; exact fun H2 s2=>ew H2 (s1.trans s2)
end
end Xc
section
end
end Law
namespace Law
open PySem L2
section
variable {P:Program} {w:World} {K:PySem.W.Frag} {mg:Str→Option Value} {base:Heap}
noncomputable def hasW (x:Way):Bool:=match worthE x with
 | .inr _=>true
 | .inl _=>false
variable {W N:Addr} {bN:List Value}
noncomputable def spHas:Sp:=fun vs H Q _=>∃ (v:V) (x:Way),vs=[v]∧WayIn H v x∧x.fit∧x.nodes≤1000∧∀ H',Same H H'→Q (.bl (hasW x)) H'
noncomputable abbrev s_has_worth:Stmt:=top 29
theorem sc_has_worth:FnScope ["way"] ["way"] (defScope s_has_worth):=⟨rfl,rfl,rfl,by decide +kernel,rfl,by decide +kernel,by decide +kernel⟩
theorem ok_has {f:Addr} {fd:FuncData} (F:Fun K "has_worth" "has_worth" s_has_worth f fd) (R:Xc.Refs P w K mg base W N bN) (Gworthof:Def P w K mg base (CXF P w) 9 "worth_of" (Xc.spWorthOfX N)):FnOk P w K mg base CX0 10 f fd ["way"] spHas:=by
 refine F.ok (k:=9) sc_has_worth (fun vs H Q E h=>?_) (fun cdv A outer s H vs Q E hr h=>?_)
 ·obtain ⟨v,x,rfl,_⟩:=h
  rfl
 obtain ⟨v,x,rfl,hx,fx,hn,q⟩:=h
 refine ⟨_,(pss_cons (ps_try0 rfl R.gN R.cN.xcls rfl rfl (fun EX pins=>(pss_one (ps_expr (pe_defX Gworthof (hr.mono (by lia)) (pa_cons (pv 0) pa_nil))))) (fun _ pins=>(pss_one (ps_ret pe_bl))))
   (pss_one (ps_ret pe_bl))),?_⟩
 refine ⟨_,rfl,v,x,rfl,hx,fx,hn,?_⟩
 unfold hasW at q
 cases ew:worthE x with
 | inr n =>
  rw [ew] at q
  exact fun H1 s1=>q H1 s1
 | inl e =>
  rw [ew] at q
  exact fun dx H1 s1 _ _=>⟨⟨N,bN,rfl,R.cN.xcls,by simp⟩,q H1 s1⟩
theorem Dats.rev {H:Hp}:∀ {ds:List D} {xs:List V},Dats H ds xs→Dats H ds.reverse xs.reverse
 | [],xs,h=>by rw [h.nilE]; exact .nilI H
 | d :: r,xs,h=>by
  obtain ⟨x,t,rfl,h1,h2⟩:=h.consE
  rw [List.reverse_cons,List.reverse_cons]
  exact Dats.app h2.rev (.consI h1 (.nilI H))
noncomputable def spPLet:Sp:=fun vs H Q _=>∃ (v:V) (d:D),vs=[v]∧Dat H d v∧AF d∧lv d≤9∧nn d≤63∧∀ (b:Bool) (H':Hp),Same H H'→(b=true↔∃ n,LetW d n)→Q (.bl b) H'
noncomputable def GA (d:D):Prop:=∃ (k:Str) (more off:List D),d=.tup [.str k,.tup more,.tup off]∧(k="sum"∨k="product")∧(∀ x∈more++off,AF x)∧nn d≤63
noncomputable def kpD:D→Prop
 | .tup [.str k,.tup more,.tup off]=>kpG k more off
 | _=>True
theorem mem_bl {l:List Bool}:l.all id=true↔∀ b∈l,b=true:=by rw [List.all_eq_true]; rfl
noncomputable abbrev s_form_let:Stmt:=top 24
theorem sc_form_let:FnScope ["form","groups","waiting","part"] ["form"] (defScope s_form_let):=⟨rfl,rfl,rfl,by decide +kernel,rfl,by decide +kernel,by decide +kernel⟩
theorem ok_plet {f:Addr} {fd:FuncData} {W N:Addr} {bN:List Value} (F:Fun K "form_let" "form_let" s_form_let f fd) (B:Blt mg) (Ball:mg "all"=none) (Ggroup:Def P w K mg base CX0 1 "is_group" spGroup) (Gisnum:Def P w K mg base CX0 1 "is_number" spIsNum) (Gkept:Def P w K mg base CX0 3 "is_kept" spKept) (Gwayof:Def P w K mg base CX0 3 "way_of" Wy.spWayOf) (Ghas:Def P w K mg base CX0 10 "has_worth" spHas):FnOk P w K mg base CX0 11 f fd ["form"] spPLet:=by
 refine F.ok (k:=10) sc_form_let (fun vs H Q E h=>?_) (fun cdv A outer s H vs Q E hr h=>?_)
 ·obtain ⟨v,d,rfl,_⟩:=h
  rfl
 obtain ⟨v,d,rfl,hd,hA,hlv,hnn,q⟩:=h
 have hz:=sz_nn hA
 have no:∀ {H':Hp},Same H H'→¬ Kept d→Q (.bl false) H':=fun {H'} s' h=>q false H' s' (Iff.intro (fun e=>by cases e) (fun ⟨n,e⟩=>absurd e.1 h))
 refine ⟨_,(pss_cons (ps_set (i:=1) sc_form_let.nd rfl (by first | exact Or.inl rfl | exact Or.inr rfl) (pe_lst pa_nil))
   (pss_cons (ps_set (i:=2) sc_form_let.nd rfl (by first | exact Or.inl rfl | exact Or.inr rfl) (pe_lst (pa_cons (pv 0) pa_nil)))
   (pss_cons (ps_while PassesOwn.never (pt_truth (pv 2) (fun _=>rfl)) (pss_cons (ps_set (i:=3) sc_form_let.nd rfl (by first | exact Or.inl rfl | exact Or.inr rfl) (pe_bm0 PySem.F.plainAttrs_list PySem.F.slot_list_pop PySem.F.type_list_pop mt_pop (pv 2)))
   (pss_one (ps_if (pt_val (pe_def Ggroup (hr.mono (by lia)) (pa_cons (pv 3) pa_nil))) (pss_cons (ps_expr (pe_bm PySem.F.plainAttrs_list PySem.F.slot_list_append PySem.F.type_list_append mt_append (pv 1) (pa_cons (pv 3) pa_nil)))
   (pss_one (ps_expr (pe_bm PySem.F.plainAttrs_list PySem.F.slot_list_extend PySem.F.type_list_extend mt_extendT (pv 2) (pa_cons (pe_op op_catG (pe_ix ix_tup (pv 3) pe_int (fun _ _=>rfl)) (pe_ix ix_tup (pv 3) pe_int (fun _ _=>rfl))) pa_nil))))) (pss_one (ps_if (pt_not (pt_val (pe_def Gisnum (hr.mono (by lia)) (pa_cons (pv 3) pa_nil)))) (pss_one (ps_ret pe_bl)) pss_nil))))))
   (pss_one (ps_ret (pe_and (pe_callB (call_allL rfl) rfl Ball bt_all (pa_cons (pe_compC (N:=["group"]) rfl (csC_of [none] rfl (by decide +kernel) (by decide +kernel) rfl rfl) rfl (pi_list (pv 1)) (fun _ _ _ _=>(pg_name (i:=0) (show (["group"]:List Str).Nodup by decide +kernel) rfl (by first | exact Or.inl rfl | exact Or.inr rfl))) (fun _ _ _ _=>ptl_nil) (fun _ _ _ _=>(pe_def Gkept (hr.mono (by lia)) (pa_cons (pv 0) pa_nil)))) pa_nil)) (pe_one (pe_def Ghas (hr.mono (by lia)) (pa_cons (pe_def Gwayof (hr.mono (by lia)) (pa_cons (pv 0) pa_nil)) pa_nil))))))))),?_⟩
 have szl0:=sizeLine_eq
 refine ⟨(by show 0≤sizeLine; decide),fun pg hpg=>⟨_,rfl,(by show 1≤sizeLine; decide),fun pw hpw=>?_⟩⟩
 have hs1:(upd (upd H pg (.lst [])) pw (.lst [v])) pg=some (.lst []):=by rw [upd_ne (ne_of_none upd_same hpw),upd_same]
 have npw:H pw=none:=(Same.new hpg).free hpw
 have nsw:pg≠pw:=ne_of_none upd_same hpw
 have S0:Same H (upd (upd H pg (.lst [])) pw (.lst [v])):=(Same.new hpg).trans (Same.new hpw)
 refine ⟨fun m σ H'=>∃ (vr:List V) (wr:List D) (gv:List V) (gd:List D) (o:Option V),σ=[some v,some (.ref pg),some (.ref pw),o]∧Same H H'∧H' pg=some (.lst gv)∧H' pw=some (.lst vr.reverse)∧Dats H' wr vr∧Dats H' gd gv∧(∀ x∈wr,AF x)∧(∀ x∈gd,GA x)∧gd.length + nS wr≤63∧(Kept d↔(∀ g∈gd,kpD g)∧∀ x∈wr,Kept x)∧m=nS wr,
  ⟨_,[v],[d],[],[],none,rfl,S0,hs1,upd_same,.consI (Dat.kt (KT.same S0) _ hd) (.nilI _),.nilI _,(fun x hx=>by rw [List.mem_singleton.mp hx]; exact hA),(fun x hx=>by cases hx),by rw [nS_cons,nS_nil]; show 0 + _≤_; lia,⟨fun h=>⟨fun g hg=>(by cases hg),fun x hx=>by rw [List.mem_singleton.mp hx]; exact h⟩,fun h=>h.2 d (List.mem_singleton.mpr rfl)⟩,rfl⟩,?_⟩
 rintro m σ H' ⟨vr,wr,gv,gd,o,rfl,sH,h1,h2,pr,pg',hok,hgk,hsz,hiff,em⟩
 have lv':=pr.len
 have lg:=pg'.len
 refine ⟨_,rfl,_,.inl ⟨_,SqL.of h2,rfl⟩,?_⟩
 cases wr with
 | nil =>
  have:=pr.nilE
  subst this
  refine iteF ?_
  refine ⟨_,rfl,pg,rfl,⟨_,SqL.of h1⟩,fun Dl hD Cx sx fp=>?_⟩
  refine comp_list (K:=K) (a:=pg) (xs:=gv) (tt:=fun _ H Q=>Q true H) (fun i zs σ H2=>∃ (o:Option V) (bs:List Bool),σ=[o]∧Same H' H2∧zs=bs.map V.bl∧bs.length=i∧((∀ b∈bs,b=true)↔∀ g∈gd.take i,kpD g)) (fun i zs σ H2 ⟨_,_,_,g,_⟩=>SqL.of (g _ _ h1)) ⟨none,[],rfl,Same.new hD,rfl,rfl,⟨fun _ g hg=>(by cases hg),fun _ b hb=>(by cases hb)⟩⟩ ?_ ?_
  ·rintro i x zs σ H2 hi hzl ⟨o,bs,rfl,s2,rfl,lb,hbs⟩ g2
   have hil:=(List.getElem?_eq_some_iff.mp hi).1
   obtain ⟨g,hdi,hdx⟩:=Dats.at (Dats.kt (KT.same s2) _ pg') hi
   obtain ⟨k,more,off,rfl,hk,hp,hn⟩:=hgk g (List.mem_of_getElem? hdi)
   have ng:=nn_grp k more off
   have la:=nS_len hp
   rw [List.length_append,nS_app] at la
   refine ⟨_,rfl,x,k,more,off,rfl,hdx,hk,(fun y hy=>⟨hp y hy,by have:=sz_nn (hp y hy); have:=nS_mem hy; rw [nS_app] at this; lia⟩),by lia,fun b H3 s3 hb=>⟨_,s3 _ _ g2,by rw [szl0,List.length_map]; lia,_,by rw [List.length_append,List.length_map]; show _ + 1≤i + 1; lia,⟨_,bs++[b],rfl,fun c ob e=>by rw [upd_ne (ne_of_none e hD)]; exact s3 _ _ (s2 _ _ e),by rw [List.map_append]; rfl,by rw [List.length_append]; show _ + 1=i + 1; lia,?_⟩,upd_same⟩⟩
   rw [List.take_add_one,hdi]
   constructor
   ·intro h g hg
    rcases List.mem_append.mp hg with hg | hg
    ·exact hbs.mp (fun b' hb'=>h b' (List.mem_append_left _ hb')) g hg
    ·rw [List.mem_singleton.mp hg]
     exact hb.mp (h b (List.mem_append_right _ (List.mem_singleton.mpr rfl)))
   ·intro h b' hb'
    rcases List.mem_append.mp hb' with hb' | hb'
    ·exact hbs.mpr (fun g hg=>h g (List.mem_append_left _ hg)) b' hb'
    ·rw [List.mem_singleton.mp hb']
     exact hb.mpr (h _ (List.mem_append_right _ (List.mem_singleton.mpr rfl)))
  ·rintro zs σ H2 ⟨o,bs,rfl,s2,rfl,lb,hbs⟩ g2
   rw [List.take_of_length_le (by lia)] at hbs
   have hK:Kept d↔bs.all id=true:=by
    rw [hiff,mem_bl,hbs]
    exact ⟨fun h=>h.1,fun h=>⟨h,fun x hx=>by cases hx⟩⟩
   refine ⟨Dl,_,rfl,SqL.of g2,?_⟩
   have s02:=sH.trans s2
   refine ⟨_,rfl,?_⟩
   refine ite2 (fun c=>?_) (fun c=>no s02 fun h=>c (hK.mp h))
   have hKd:=hK.mpr c
   refine ⟨_,rfl,v,d,rfl,Dat.kt (KT.same s02) _ hd,hKd.form,by lia,by lia,fun u H3 s3 w3=>?_⟩
   have fo:=fw_ok hKd.form
   have fs:=fw_size hKd.form
   have nd:=(fw d).nodes_eq
   refine ⟨u,fw d,rfl,w3,fit_of fo (by lia),by lia,fun H4 s4=>q _ _ (s02.trans (s3.trans s4)) ?_⟩
   unfold hasW
   cases ew:worthE (fw d) with
   | inr n=>exact ⟨fun _=>⟨n,hKd,ew⟩,fun _=>rfl⟩
   | inl e=>exact ⟨fun z=>(by cases z),fun ⟨n,z⟩=>by have:=z.2; rw [ew] at this; cases this⟩
 | cons z wr' =>
  obtain ⟨y,vr',rfl,hy,pr'⟩:=pr.consE
  have e2:(y :: vr').reverse=vr'.reverse++[y]:=List.reverse_cons
  have sn:=nS_cons z wr'
  have zp:=nn_pos (hok z (List.mem_cons_self ..))
  rw [e2] at h2
  refine (show (if _ then _ else _:Prop) from ?_)
  have ne:(!((y :: vr').reverse).isEmpty)=true:=by rw [e2]; simp
  rw [if_pos ne]
  refine ⟨fun σ' H'=>∃ m',m' < m∧∃ (vr:List V) (wr:List D) (gv:List V) (gd:List D) (o:Option V),σ'=[some v,some (.ref pg),some (.ref pw),o]∧Same H H'∧H' pg=some (.lst gv)∧H' pw=some (.lst vr.reverse)∧Dats H' wr vr∧Dats H' gd gv∧(∀ x∈wr,AF x)∧(∀ x∈gd,GA x)∧gd.length + nS wr≤63∧(Kept d↔(∀ g∈gd,kpD g)∧∀ x∈wr,Kept x)∧m'=nS wr,fun σ' H' h=>h,?_⟩
  refine ⟨_,rfl,.inl ⟨rfl,_,SqL.of h2⟩,pw,_,y,rfl,rfl,h2,(by simp),?_⟩
  rw [List.dropLast_concat]
  have h1a:(upd H' pw (.lst vr'.reverse)) pg=some (.lst gv):=by rw [upd_ne nsw]; exact h1
  have h2a:(upd H' pw (.lst vr'.reverse)) pw=some (.lst vr'.reverse):=upd_same
  have sHa:Same H (upd H' pw (.lst vr'.reverse)):=fun b o e=>by rw [upd_ne (ne_of_none e npw)]; exact sH b o e
  have ka:KT H' (upd H' pw (.lst vr'.reverse)):=KT.upd h2
  have pra:=Dats.kt ka _ pr'
  have pga:=Dats.kt ka _ pg'
  have hya:=Dat.kt ka _ hy
  generalize upd H' pw (.lst vr'.reverse)=H1 at h1a h2a sHa pra pga hya ⊢
  have hok':∀ x∈wr',AF x:=fun x hx=>hok x (List.mem_cons_of_mem _ hx)
  have hAz:=hok z (List.mem_cons_self ..)
  have lv2:=pra.len
  have ln:=nS_len hok'
  refine ⟨_,rfl,y,z,rfl,hya,hAz,fun H2 s2=>?_⟩
  cases hAz with
  | @num i g0 g1 =>
   have:=hya.intE
   subst this
   refine ⟨_,rfl,iteF ?_⟩
   refine ⟨_,rfl,i,rfl,_,rfl,?_⟩
   have ki:Kept (.int i)↔1≤i:=kept_int g1
   by_cases hi1:1≤i
   ·rw [decide_eq_true hi1]
    refine iteF ?_
    refine ⟨nS wr',by lia,vr',wr',gv,gd,_,rfl,sHa.trans s2,s2 _ _ h1a,s2 _ _ h2a,Dats.kt (KT.same s2) _ pra,Dats.kt (KT.same s2) _ pga,hok',hgk,by lia,?_,rfl⟩
    rw [hiff]
    exact ⟨fun h=>⟨h.1,fun x hx=>h.2 x (List.mem_cons_of_mem _ hx)⟩,fun h=>⟨h.1,fun x hx=>by
     rcases List.mem_cons.mp hx with rfl | hx
     ·exact ki.mpr hi1
     ·exact h.2 x hx⟩⟩
   ·rw [decide_eq_false hi1]
    exact iteT (no (sHa.trans s2) fun h=>hi1 (ki.mp ((hiff.mp h).2 _ (List.mem_cons_self ..))))
  | @grp k more off hk g1 g2 =>
   have hAg:AF (.tup [.str k,.tup more,.tup off]):=.grp hk g1 g2
   obtain ⟨p,pm,po,xm,xo,rfl,hp,hpm,hpo,d1,d2⟩:=dat_grpA (Dat.kt (KT.same s2) _ hya)
   have ng:=nn_grp k more off
   have lp:=nS_len hAg.parts
   rw [List.length_append,nS_app] at lp
   refine ⟨_,rfl,iteT ?_⟩
   refine ⟨_,rfl,.inl ⟨rfl,_,SqL.of (s2 _ _ h1a)⟩,_,rfl,pg,_,_,rfl,rfl,s2 _ _ h1a,by rw [szl0]; lia,?_⟩
   have h1b:(upd H2 pg (.lst (gv++[.ref p]))) pg=some (.lst (gv++[.ref p])):=upd_same
   have h2b:(upd H2 pg (.lst (gv++[.ref p]))) pw=some (.lst vr'.reverse):=by rw [upd_ne nsw.symm]; exact s2 _ _ h2a
   have kb:KT H2 (upd H2 pg (.lst (gv++[.ref p]))):=KT.upd (s2 _ _ h1a)
   have sHb:Same H (upd H2 pg (.lst (gv++[.ref p]))):=fun b o e=>by rw [upd_ne (ne_of_none e hpg)]; exact s2 _ _ (sHa b o e)
   have kab:=KT.trans (KT.same s2) kb
   have dz:=Dat.kt kab _ hya
   have prb:=Dats.kt kab _ pra
   have pgb:=Dats.kt kab _ pga
   have hpb:=kb _ _ hp
   have hpmb:=kb _ _ hpm
   have hpob:=kb _ _ hpo
   have dA:Dats (upd H2 pg (.lst (gv++[.ref p]))) (more++off) (xm++xo):=Dats.app (Dats.kt kb _ d1) (Dats.kt kb _ d2)
   generalize upd H2 pg (.lst (gv++[.ref p]))=H3 at h1b h2b sHb dz prb pgb hpb hpmb hpob dA ⊢
   have lA:=dA.len
   have lA2:(more++off).length=more.length + off.length:=List.length_append
   have lA3:(xm++xo).length=xm.length + xo.length:=List.length_append
   refine ⟨_,rfl,.inl ⟨rfl,_,SqL.of h2b⟩,_,rfl,p,_,_,_,rfl,rfl,SqT.of hpb,atI_nat (j:=1) rfl,_,rfl,p,_,_,_,rfl,rfl,SqT.of hpb,atI_nat (j:=2) rfl,pm,po,_,_,rfl,rfl,hpmb,hpob,by lia,fun pc H4 s4 hpc=>?_⟩
   refine ⟨pw,pc,_,_,rfl,rfl,s4 _ _ h2b,hpc,by rw [List.length_reverse]; lia,?_⟩
   have k5:KT H4 (upd H4 pw (.lst (vr'.reverse++(xm++xo)))):=KT.upd (s4 _ _ h2b)
   have k45:=KT.trans (KT.same s4) k5
   have ez:nS ((more++off).reverse++wr')=nS more + nS off + nS wr':=by rw [nS_app,nS_perm (List.reverse_perm _),nS_app]
   refine ⟨nS ((more++off).reverse++wr'),by lia,(xm++xo).reverse++vr',(more++off).reverse++wr',gv++[.ref p],gd++[.tup [.str k,.tup more,.tup off]],_,rfl,?_,?_,?_,Dats.app (Dats.kt k45 _ dA).rev (Dats.kt k45 _ prb),Dats.app (Dats.kt k45 _ pgb) (.consI (Dat.kt k45 _ dz) (.nilI _)),?_,?_,?_,?_,rfl⟩
   ·exact fun b o e=>by rw [upd_ne (ne_of_none e npw)]; exact s4 _ _ (sHb b o e)
   ·rw [upd_ne nsw]; exact s4 _ _ h1b
   ·rw [upd_same,List.reverse_append,List.reverse_reverse]
   ·intro x hx
    rcases List.mem_append.mp hx with hx | hx
    ·exact hAg.parts x (List.mem_reverse.mp hx)
    ·exact hok' x hx
   ·intro x hx
    rcases List.mem_append.mp hx with h | h
    ·exact hgk x h
    ·rw [List.mem_singleton.mp h]
     exact ⟨k,more,off,rfl,hk,hAg.parts,by lia⟩
   ·rw [List.length_append]
    show gd.length + 1 + _≤63
    lia
   ·rw [hiff]
    have kg:=kept_grp (more:=more) (off:=off) hk
    constructor
    ·rintro ⟨a,b⟩
     have hz:=kg.mp (b _ (List.mem_cons_self ..))
     refine ⟨fun g hg=>?_,fun x hx=>?_⟩
     ·rcases List.mem_append.mp hg with hg | hg
      ·exact a g hg
      ·rw [List.mem_singleton.mp hg]; exact hz.1
     ·rcases List.mem_append.mp hx with hx | hx
      ·exact hz.2 x (List.mem_reverse.mp hx)
      ·exact b x (List.mem_cons_of_mem _ hx)
    ·rintro ⟨a,b⟩
     refine ⟨fun g hg=>a g (List.mem_append_left _ hg),fun x hx=>?_⟩
     rcases List.mem_cons.mp hx with rfl | hx
     ·exact kg.mpr ⟨a _ (List.mem_append_right _ (List.mem_singleton.mpr rfl)),fun x hx=>b x (List.mem_append_left _ (List.mem_reverse.mpr hx))⟩
     ·exact b x (List.mem_append_right _ hx)
end
end Law
namespace Law
open PySem L2
section
variable {P:Program} {w:World} {K:PySem.W.Frag} {mg:Str→Option Value} {base:Heap}
theorem seq_key {s u:TS} {D:Ends} {σ:St} {H:Hp} (Mid:St→Hp→Prop) (h2:∀ σ' H',Mid σ' H'→u D σ' H') (h:∀ X':St→Hp→Prop,(∀ σ' H',Mid σ' H'→X' σ' H')→s { D with nx:=X' } σ H):tSeq s u D σ H:=h (u D) h2
noncomputable def spMany (n:Nat):Sp:=fun vs H Q _=>∃ (v:V) (d:D),vs=[v]∧Dat H d v∧AF d∧d.dep < n∧nn d≤63∧∀ H',Same H H'→Q (.int (lv d:Int)) H'
theorem lvs_sumI:∀ l:List D,(l.map fun x=>((lv x:Nat):Int)).sum=((lvs l:Nat):Int)
 | []=>by rw [lvs]; rfl
 | d :: r=>by
  rw [List.map_cons,List.sum_cons,lvs_sumI r,lvs]
  lia
noncomputable abbrev s_law_many:Stmt:=top 49
theorem sc_law_many:FnScope ["form"] ["form"] (defScope s_law_many):=⟨rfl,rfl,rfl,by decide +kernel,rfl,by decide +kernel,by decide +kernel⟩
theorem ok_many_step {n:Nat} {f:Addr} {fd:FuncData} (F:Fun K "_law_many" "_law_many" s_law_many f fd) (B:Blt mg) (Gmany:Def P w K mg base CX0 (n + 1) "_law_many" (spMany n)):FnOk P w K mg base CX0 (n + 2) f fd ["form"] (spMany (n + 1)):=by
 refine F.ok (k:=n + 1) sc_law_many (fun vs H Q E h=>?_) (fun cdv A outer s H vs Q E hr h=>?_)
 ·obtain ⟨v,d,rfl,_⟩:=h
  rfl
 obtain ⟨v,d,rfl,hd,hA,hn,hnn,q⟩:=h
 refine ⟨_,(pss_cons (ps_if (pt_val (pe_isin B.isinstance B.int bt_int (pv 0))) (pss_one (ps_ret pe_int)) pss_nil)
   (pss_one (ps_ret (pe_callB (call_sum rfl) rfl B.sum bt_sum (pa_cons (pe_comp (N:=["part"]) rfl (cs_of [none] rfl (by decide +kernel) (by decide +kernel) rfl rfl) rfl (pi_tup (pe_op op_catG (pe_ix ix_tup (pv 0) pe_int (fun _ _=>rfl)) (pe_ix ix_tup (pv 0) pe_int (fun _ _=>rfl)))) (fun _ _ _ _=>(pg_name (i:=0) (show (["part"]:List Str).Nodup by decide +kernel) rfl (by first | exact Or.inl rfl | exact Or.inr rfl))) (fun _ _ _ _=>ptl_nil) (fun _ _ _ _=>(pe_def Gmany (hr.mono (by lia)) (pa_cons (pv 0) pa_nil)))) pa_nil))))),?_⟩
 have szl:=sizeLine_eq
 cases hA with
 | @num i g0 g1 =>
  have:=hd.intE
  subst this
  refine ⟨_,rfl,_,_,TyOf.int _,kit_int_int _,_,rfl,iteT ?_⟩
  have e:lv (.int i)=1:=by rw [lv]
  rw [e] at q
  exact q H (Same.refl H)
 | @grp k more off hk g1 g2 =>
  have hAg:AF (.tup [.str k,.tup more,.tup off]):=.grp hk g1 g2
  have lg:=lv_grpA k more off
  have ng:=nn_grp k more off
  have la:=nS_len hAg.parts
  rw [nS_app] at la
  obtain ⟨p,pm,po,xm,xo,rfl,hp,hpm,hpo,d1,d2⟩:=dat_grpA hd
  have dall:Dats H (more++off) (xm++xo):=Dats.app d1 d2
  have ll:=dall.len
  rw [List.length_append,List.length_append] at ll
  rw [List.length_append] at la
  refine ⟨_,rfl,_,_,TyOf.tup hp,kit_tup_int _,_,rfl,iteF ?_⟩
  refine ⟨_,rfl,p,_,_,_,rfl,rfl,SqT.of hp,atI_nat (j:=1) rfl,_,rfl,p,_,_,_,rfl,rfl,SqT.of hp,atI_nat (j:=2) rfl,pm,po,_,_,rfl,rfl,hpm,hpo,by lia,fun pc H1 s1 hpc=>?_⟩
  refine ⟨pc,rfl,⟨_,SqT.of hpc⟩,fun Dl hD Cx sx fp=>?_⟩
  refine comp_tup (K:=K) (a:=pc) (xs:=xm++xo) (tt:=fun _ H Q=>Q true H) (fun i zs σ H'=>∃ o:Option V,σ=[o]∧Same H1 H'∧zs=(((more++off).take i).map fun x=>((lv x:Nat):Int)).map V.int) (fun i zs σ H' ⟨_,_,g,_⟩=>SqT.of (g _ _ hpc)) ⟨none,rfl,Same.new hD,rfl⟩ ?_ ?_
  ·rintro i x zs σ H2 hi hzl ⟨o,rfl,s2,rfl⟩ g2
   have hil:=(List.getElem?_eq_some_iff.mp hi).1
   rw [List.length_append] at hil
   obtain ⟨dx,hdi,hdx⟩:=Dats.at (Dats.kt (KT.same (s1.trans s2)) _ dall) hi
   have hm:=List.mem_of_getElem? hdi
   have dp:=dep_mem (k:=k) hm
   have nm:=nS_mem hm
   rw [nS_app] at nm
   refine ⟨_,rfl,x,dx,rfl,hdx,hAg.parts dx hm,by lia,by lia,fun H3 s3=>⟨_,s3 _ _ g2,by rw [szl]; lia,_,by rw [List.length_append]; show _ + 1≤i + 1; lia,⟨_,rfl,fun b ob e=>by rw [upd_ne (ne_of_none e hD)]; exact s3 _ _ (s2 _ _ e),?_⟩,upd_same⟩⟩
   rw [List.take_add_one,hdi,List.map_append,List.map_append]; rfl
  ·rintro zs σ H2 ⟨o,rfl,s2,rfl⟩ g2
   rw [List.take_of_length_le (by rw [List.length_append,List.length_append]; lia)] at g2
   refine ⟨Dl,_,rfl,SqL.of g2,?_⟩
   rw [lvs_sumI,lvs_app,← lg]
   exact q _ (s1.trans s2)
theorem ok_many {f:Addr} {fd:FuncData} (F:Fun K "_law_many" "_law_many" s_law_many f fd) (b:Binds K fd ["form"] []) (m:mg "_law_many"=some (.ref f)) (B:Blt mg):∀ n,FnOk P w K mg base CX0 (n + 1) f fd ["form"] (spMany n)
 | 0=>by
  have no:∀ vs H Q E,¬ spMany 0 vs H Q E:=fun vs H Q E h=>by
   obtain ⟨v,d,_,_,_,h,_⟩:=h
   lia
  exact ⟨fun vs H Q E h=>absurd h (no vs H Q E),fun A outer s H args us vs Q E _ _ _ _ h=>absurd h (no vs H Q E)⟩
 | n + 1=>ok_many_step F B (mkDef (ok_many F b m B n) b m F.kp)
theorem kit_bl_bool (K:PySem.W.Frag):PySem.W.kitOne K (.type "bool") (.type "bool")=some true:=by with_unfolding_all rfl
noncomputable def spRightA:Sp:=fun vs H Q _=>∃ (v:V) (d:D),vs=[v]∧Dat H d v∧AF d∧d.dep < 20∧nn d≤63∧∀ H',Same H H'→Q (.bl true) H'
noncomputable abbrev s_law_right:Stmt:=top 50
theorem sc_law_right:FnScope ["form","due","again","found"] ["form"] (defScope s_law_right):=⟨rfl,rfl,rfl,by decide +kernel,rfl,by decide +kernel,by decide +kernel⟩
theorem ok_rightA {f:Addr} {fd:FuncData} (F:Fun K "_law_right" "_law_right" s_law_right f fd) (B:Blt mg) (Gmany:Def P w K mg base CX0 21 "_law_many" (spMany 20)) (Glet:Def P w K mg base CX0 42 "_law_let_worth" (spLetW 20)) (Gplet:Def P w K mg base CX0 11 "form_let" spPLet):FnOk P w K mg base CX0 43 f fd ["form"] spRightA:=by
 refine F.ok (k:=42) sc_law_right (fun vs H Q E h=>?_) (fun cdv A outer s H vs Q E hr h=>?_)
 ·obtain ⟨v,d,rfl,_⟩:=h
  rfl
 obtain ⟨v,d,rfl,hd,hA,hn,hnn,q⟩:=h
 refine ⟨_,(pss_cons (ps_if (pt_cmpR op_gt (pe_def Gmany (hr.mono (by lia)) (pa_cons (pv 0) pa_nil)) pe_int (nomark _)) (pss_one (ps_ret pe_bl)) pss_nil)
   (pss_cons (ps_set (i:=1) sc_law_right.nd rfl (by first | exact Or.inl rfl | exact Or.inr rfl) (pe_cmpR op_notN (pe_def Glet (hr.mono (by lia)) (pa_cons (pv 0) pa_nil)) pe_non (nomark _)))
   (pss_cons (ps_for PassesOwn.never rfl (pi_range1 rfl B.range (pa_cons pe_int pa_nil)) (pg_name (i:=2) sc_law_right.nd rfl (by first | exact Or.inl rfl | exact Or.inr rfl)) (pss_cons (ps_set (i:=3) sc_law_right.nd rfl (by first | exact Or.inl rfl | exact Or.inr rfl) (pe_def Gplet (hr.mono (by lia)) (pa_cons (pv 0) pa_nil)))
   (pss_one (ps_if (PW.pt (pw_or (pt_not (pt_val (pe_isin B.isinstance B.bool bt_bool (pv 3)))) (pw_or1 (pt_cmpR op_ne (pv 3) (pv 1) (nomark _))))) (pss_one (ps_ret pe_bl)) pss_nil))))
   (pss_one (ps_ret pe_bl))))),?_⟩
 refine ⟨_,rfl,v,d,rfl,hd,hA,hn,hnn,fun H1 s1=>⟨_,_,rfl,rfl,_,rfl,?_⟩⟩
 refine ite2 (fun _=>q _ s1) (fun c=>?_)
 have hlv:lv d≤8:=by
  have:¬ ((lv d:Int) > 8):=fun z=>c (decide_eq_true z)
  lia
 dsimp only [tNext]
 refine seq_key (s:=tAsg _ _) (fun σ' H'=>∃ due:Bool,σ'=[some v,some (.bl due),none,none]∧Same H H'∧(due=true↔∃ n,LetW d n)) ?_ ?_
 case refine_2 =>
  intro X' hX
  refine ⟨_,rfl,v,d,rfl,Dat.kt (KT.same s1) _ hd,hA,hn,hn,hlv,hnn,fun r H2 s2 hr2=>?_⟩
  rcases hr2 with ⟨m,hm,rfl⟩ | ⟨hno,rfl⟩
  ·exact ⟨rfl,hX _ _ ⟨true,rfl,s1.trans s2,⟨fun _=>⟨m,hm⟩,fun _=>rfl⟩⟩⟩
  ·exact ⟨rfl,hX _ _ ⟨false,rfl,s1.trans s2,⟨fun z=>(by cases z),fun z=>absurd z hno⟩⟩⟩
 case refine_1 =>
  rintro σ' H2 ⟨due,rfl,s2,hdue⟩
  refine ⟨2,rfl,by decide,by decide,for_range (n:=2) (fun i σ H'=>∃ z1 z2:Option V,σ=[some v,some (.bl due),z1,z2]∧Same H H') ⟨_,_,rfl,s2⟩ ?_ ?_⟩
  ·rintro i σ H3 hi ⟨z1,z2,rfl,s3⟩
   refine ⟨_,rfl,v,d,rfl,Dat.kt (KT.same s3) _ hd,hA,by lia,hnn,fun b H4 s4 hb=>?_⟩
   have eb:b=due:=by
    cases b <;> cases due <;> first | rfl | (exfalso; have h:=hb.trans hdue.symm; simp at h)
   subst eb
   refine ⟨_,rfl,_,_,TyOf.bl _,kit_bl_bool _,_,rfl,iteF ?_⟩
   refine ⟨_,rfl,_,rfl,rfl,_,rfl,iteNS rfl ?_⟩
   exact ⟨_,_,rfl,s3.trans s4⟩
  ·rintro σ H3 ⟨z1,z2,rfl,s3⟩
   exact q _ s3
end
end Law
namespace Law
open PySem L2
section
variable {P:Program} {w:World} {K:PySem.W.Frag} {mg:Str→Option Value} {base:Heap}
noncomputable abbrev s_law_take:Stmt:=top 32
theorem sc_law_take:FnScope ["deck","many","at","cell","one"] ["deck","many"] (defScope s_law_take):=⟨rfl,rfl,rfl,by decide +kernel,rfl,by decide +kernel,by decide +kernel⟩
theorem ok_law_take {f:Addr} {fd:FuncData} (F:Fun K "_law_take" "_law_take" s_law_take f fd) (B:Blt mg):FnOk P w K mg base CX0 1 f fd ["deck","many"] spTake:=by
 refine F.ok sc_law_take (fun vs H Q E h=>?_) (fun cdv A outer s H vs Q E hr h=>?_)
 ·obtain ⟨d,c,many,rfl,_⟩:=h
  rfl
 obtain ⟨d,c,many,rfl,D,m0,m1,q⟩:=h
 have hdc:=D.ne
 obtain ⟨cells,a,seed,hd,hc,hl⟩:=id D
 refine ⟨_,(pss_cons (ps_set (i:=2) sc_law_take.nd rfl (by first | exact Or.inl rfl | exact Or.inr rfl) (pe_op op_mod (pe_ix ix_list (pv 0) pe_int (fun _ _=>rfl)) (pe_callB call_len_seq rfl B.len bt_len (pa_cons (pe_ix ix_list (pv 0) pe_int (fun _ _=>rfl)) pa_nil))))
   (pss_cons (ps_asg (pe_op op_add (pe_ix ix_list (pv 0) pe_int (fun _ _=>rfl)) pe_int) (pg_sub (pv 0) pe_int set_list))
   (pss_cons (ps_set (i:=3) sc_law_take.nd rfl (by first | exact Or.inl rfl | exact Or.inr rfl) (pe_ix ix_list (pe_ix ix_list (pv 0) pe_int (fun _ _=>rfl)) (pv 2) (fun _ _=>rfl)))
   (pss_cons (ps_if (PW.pt (pw_or (pt_cmpR op_eq (pv 3) pe_int (nomark _)) (pw_or1 (pt_cmpR op_eq (pv 3) (pe_un un_neg pe_int) (nomark _))))) (pss_cons (ps_set (i:=4) sc_law_take.nd rfl (by first | exact Or.inl rfl | exact Or.inr rfl) (pe_op op_mod (pe_op op_mul (pe_op op_mod (pe_op op_add (pe_ix ix_list (pv 0) pe_int (fun _ _=>rfl)) (pe_op op_mul pe_int (pe_ix ix_list (pv 0) pe_int (fun _ _=>rfl)))) pe_int) pe_int) pe_int))
   (pss_cons (ps_set (i:=4) sc_law_take.nd rfl (by first | exact Or.inl rfl | exact Or.inr rfl) (pe_op op_mod (pe_op op_mul (pe_op op_mod (pe_op op_add (pe_op op_mul (pv 4) (pv 4)) (pe_op op_mul pe_int (pe_ix ix_list (pv 0) pe_int (fun _ _=>rfl)))) pe_int) pe_int) pe_int))
   (pss_one (ps_ret (pe_op op_mod (pe_op op_fdiv (pv 4) pe_int) (pv 1)))))) pss_nil)
   (pss_cons (ps_asg (pe_op op_fdiv (pv 3) (pv 1)) (pg_sub (pe_ix ix_list (pv 0) pe_int (fun _ _=>rfl)) (pv 2) set_list))
   (pss_one (ps_ret (pe_op op_mod (pv 3) (pv 1))))))))),?_⟩
 have lc:(cells.map V.int).length=cells.length:=List.length_map _
 have l0:0 < (((cells.map V.int).length:Nat):Int):=by lia
 refine ⟨_,rfl,d,_,_,_,rfl,rfl,SqL.of hd,rfl,_,rfl,d,_,_,_,rfl,rfl,SqL.of hd,rfl,c,_,rfl,.inl (SqL.of hc),_,_,rfl,rfl,l0,?_⟩
 have i0:0≤a % (((cells.map V.int).length:Nat):Int):=Int.emod_nonneg _ (by lia)
 have i1:a % (((cells.map V.int).length:Nat):Int) < (cells.length:Int):=by rw [← lc]; exact Int.emod_lt_of_pos _ l0
 obtain ⟨j,hj⟩:∃ j:Nat,a % (((cells.map V.int).length:Nat):Int)=(j:Int):=⟨(a % (((cells.map V.int).length:Nat):Int)).toNat,by lia⟩
 have jl:j < cells.length:=by lia
 refine ⟨_,rfl,d,_,_,_,rfl,rfl,SqL.of hd,rfl,_,_,rfl,rfl,_,rfl,d,_,1,1,rfl,rfl,hd,rfl,?_⟩
 have hd1:(upd H d (.lst [.ref c,.int (a + 1),.int seed])) d=some (.lst [.ref c,.int (a + 1),.int seed]):=upd_same
 have hc1:(upd H d (.lst [.ref c,.int (a + 1),.int seed])) c=some (.lst (cells.map V.int)):=by rw [upd_ne hdc.symm]; exact hc
 have k1:Keep [d,c] H (upd H d (.lst [.ref c,.int (a + 1),.int seed])):=Keep.upd (by simp)
 obtain ⟨cell,hcell⟩:∃ cell,cells[j]?=some cell:=⟨cells[j],List.getElem?_eq_getElem jl⟩
 have hat:atI (cells.map V.int) (a % (((cells.map V.int).length:Nat):Int))=some (.int cell):=by
  rw [hj]; exact atI_nat (by rw [List.getElem?_map,hcell]; rfl)
 have hix:ixN (cells.map V.int).length (a % (((cells.map V.int).length:Nat):Int))=some j:=by
  unfold ixN
  rw [if_pos i0,if_pos (by lia)]
  exact congrArg some (by lia)
 refine ⟨_,rfl,d,_,_,_,rfl,rfl,SqL.of hd1,rfl,_,rfl,c,_,_,_,rfl,rfl,SqL.of hc1,hat,?_⟩
 have D1:DeckAt (upd H d (.lst [.ref c,.int (a + 1),.int seed])) d c:=⟨cells,_,_,hd1,hc1,hl⟩
 refine ⟨_,rfl,rfl,_,rfl,?_⟩
 refine ite2 (fun _=>iteT ?g1) (fun _=>?g3)
 case g3 =>
  refine ⟨_,rfl,1,rfl,rfl,_,rfl,?_⟩
  refine ite2 (fun _=>?g2) (fun _=>?g4)
  case g4 =>
   refine ⟨_,rfl,_,rfl,_,_,rfl,rfl,⟨m0,m1⟩,_,rfl,d,_,_,_,rfl,rfl,SqL.of hd1,rfl,_,rfl,c,_,_,j,rfl,rfl,hc1,hix,?_⟩
   refine ⟨_,rfl,_,rfl,_,_,rfl,rfl,m0,?_⟩
   refine q _ _ (Int.emod_nonneg _ (by lia)) (Int.emod_lt_of_pos _ m0) (k1.trans (Keep.upd (by simp))) ⟨cells.set j (cell / many),_,_,by rw [upd_ne hdc]; exact hd1,?_,by rw [List.length_set]; exact hl⟩
   rw [upd_same,List.map_set]
  case g2 =>
   refine ⟨_,rfl,d,_,_,_,rfl,rfl,SqL.of hd1,rfl,_,rfl,d,_,_,_,rfl,rfl,SqL.of hd1,rfl,_,_,rfl,rfl,.inl ⟨by decide,by decide⟩,_,_,rfl,rfl,_,_,rfl,rfl,(by show (0:Int) < _; decide),_,_,rfl,rfl,.inr ⟨by decide,by decide⟩,_,_,rfl,rfl,(by show (0:Int) < _; decide),?_⟩
   refine ⟨_,rfl,_,rfl,_,_,rfl,rfl,.inl ⟨by lia,by lia⟩,_,rfl,d,_,_,_,rfl,rfl,SqL.of hd1,rfl,_,_,rfl,rfl,.inl ⟨by decide,by decide⟩,_,_,rfl,rfl,_,_,rfl,rfl,(by show (0:Int) < _; decide),_,_,rfl,rfl,.inr ⟨by decide,by decide⟩,_,_,rfl,rfl,(by show (0:Int) < _; decide),?_⟩
   refine ⟨_,rfl,_,_,rfl,rfl,⟨by decide,by decide⟩,_,rfl,_,_,rfl,rfl,m0,?_⟩
   exact q _ _ (Int.emod_nonneg _ (by lia)) (Int.emod_lt_of_pos _ m0) k1 D1
 case g1 =>
  refine ⟨_,rfl,d,_,_,_,rfl,rfl,SqL.of hd1,rfl,_,rfl,d,_,_,_,rfl,rfl,SqL.of hd1,rfl,_,_,rfl,rfl,.inl ⟨by decide,by decide⟩,_,_,rfl,rfl,_,_,rfl,rfl,(by show (0:Int) < _; decide),_,_,rfl,rfl,.inr ⟨by decide,by decide⟩,_,_,rfl,rfl,(by show (0:Int) < _; decide),?_⟩
  refine ⟨_,rfl,_,rfl,_,_,rfl,rfl,.inl ⟨by lia,by lia⟩,_,rfl,d,_,_,_,rfl,rfl,SqL.of hd1,rfl,_,_,rfl,rfl,.inl ⟨by decide,by decide⟩,_,_,rfl,rfl,_,_,rfl,rfl,(by show (0:Int) < _; decide),_,_,rfl,rfl,.inr ⟨by decide,by decide⟩,_,_,rfl,rfl,(by show (0:Int) < _; decide),?_⟩
  refine ⟨_,rfl,_,_,rfl,rfl,⟨by decide,by decide⟩,_,rfl,_,_,rfl,rfl,m0,?_⟩
  exact q _ _ (Int.emod_nonneg _ (by lia)) (Int.emod_lt_of_pos _ m0) k1 D1
noncomputable abbrev s_law_number:Stmt:=top 33
theorem sc_law_number:FnScope ["deck","some"] ["deck"] (defScope s_law_number):=⟨rfl,rfl,rfl,by decide +kernel,rfl,by decide +kernel,by decide +kernel⟩
theorem ok_law_number {f:Addr} {fd:FuncData} (F:Fun K "_law_number" "_law_number" s_law_number f fd) (B:Blt mg) (Gtake:Def P w K mg base CX0 1 "_law_take" spTake):FnOk P w K mg base CX0 2 f fd ["deck"] (spDraw 1000000):=by
 refine F.ok sc_law_number (fun vs H Q E h=>?_) (fun cdv A outer s H vs Q E hr h=>?_)
 ·obtain ⟨d,c,rfl,_⟩:=h
  rfl
 obtain ⟨d,c,rfl,D,q⟩:=h
 refine ⟨_,(pss_cons (ps_set (i:=1) sc_law_number.nd rfl (by first | exact Or.inl rfl | exact Or.inr rfl) (pe_lst (pa_cons pe_int (pa_cons pe_int (pa_cons (pe_op op_add pe_int (pe_def Gtake (hr.mono (by lia)) (pa_cons (pv 0) (pa_cons pe_int pa_nil)))) (pa_cons (pe_op op_add pe_int (pe_def Gtake (hr.mono (by lia)) (pa_cons (pv 0) (pa_cons pe_int pa_nil)))) (pa_cons pe_int (pa_cons pe_int (pa_cons pe_int pa_nil)))))))))
   (pss_cons (ps_set (i:=1) sc_law_number.nd rfl (by first | exact Or.inl rfl | exact Or.inr rfl) (pe_op op_cat (pv 1) (pe_lst (pa_cons (pe_op op_add pe_int (pe_def Gtake (hr.mono (by lia)) (pa_cons (pv 0) (pa_cons (pe_op op_pow pe_int pe_int) pa_nil)))) (pa_cons (pe_op op_pow pe_int pe_int) pa_nil)))))
   (pss_one (ps_ret (pe_ix ix_list (pv 1) (pe_def Gtake (hr.mono (by lia)) (pa_cons (pv 0) (pa_cons pe_int pa_nil))) (fun _ _=>rfl)))))),?_⟩
 refine ⟨_,rfl,d,c,10,rfl,D,by decide,by decide,fun r1 H1 a1 b1 k1 D1=>⟨_,_,rfl,rfl,_,rfl,d,c,10,rfl,D1,by decide,by decide,fun r2 H2 a2 b2 k2 D2=>⟨_,_,rfl,rfl,(by show 7≤sizeLine; decide),fun p hp=>?_⟩⟩⟩
 have D3:DeckAt (upd H2 p (.lst [.int 1,.int 2,.int (1 + r1),.int (1 + r2),.int 25,.int 75,.int 100])) d c:=D2.new hp
 have np:p ∉ [d,c]:=D2.nin hp
 refine ⟨_,rfl,_,rfl,_,_,rfl,rfl,⟨by decide,by decide,by decide⟩,d,c,_,rfl,D3,by decide,by decide,fun r3 H3 a3 b3 k3 D4=>⟨_,_,rfl,rfl,_,_,rfl,rfl,⟨by decide,by decide,by decide⟩,(by show 2≤sizeLine; decide),fun p2 hp2=>?_⟩⟩
 have h3:H3 p=some (.lst [.int 1,.int 2,.int (1 + r1),.int (1 + r2),.int 25,.int 75,.int 100]):=k3 _ _ upd_same np
 refine ⟨p,p2,_,_,rfl,rfl,(by rw [upd_ne (ne_of_none h3 hp2)]; exact h3),upd_same,(by show 9≤sizeLine; decide),fun p3 hp3=>?_⟩
 have D5:DeckAt (upd (upd H3 p2 (.lst [.int (1 + r3),.int ((10:Int) ^ (6:Int).toNat)])) p3 (.lst ([.int 1,.int 2,.int (1 + r1),.int (1 + r2),.int 25,.int 75,.int 100]++[.int (1 + r3),.int ((10:Int) ^ (6:Int).toNat)]))) d c:=(D4.new hp2).new hp3
 have np3:p3 ∉ [d,c]:=(D4.new hp2).nin hp3
 refine ⟨_,rfl,_,rfl,d,c,9,rfl,D5,by decide,by decide,fun r4 H4 a4 b4 k4 D6=>?_⟩
 have h5:=k4 _ _ upd_same np3
 obtain ⟨v,hv,hm⟩:=atI_mem (xs:=([.int 1,.int 2,.int (1 + r1),.int (1 + r2),.int 25,.int 75,.int 100]++[.int (1 + r3),.int ((10:Int) ^ (6:Int).toNat)]:List V)) a4 (by exact b4)
 refine ⟨p3,_,_,_,rfl,rfl,SqL.of h5,hv,?_⟩
 have kk:Keep [d,c] H H4:=k1.trans (k2.trans ((Keep.new hp).trans (k3.trans ((Keep.new hp2).trans ((Keep.new hp3).trans k4)))))
 have b3':r3 < 1000000:=b3
 have e6:(10:Int) ^ (6:Int).toNat=1000000:=by decide
 simp only [List.cons_append,List.nil_append,List.mem_cons,List.not_mem_nil,or_false,e6] at hm
 rcases hm with rfl | rfl | rfl | rfl | rfl | rfl | rfl | rfl | rfl <;> exact q _ H4 (by lia) (by lia) kk D6
noncomputable abbrev s_law_size:Stmt:=top 38
theorem sc_law_size:FnScope ["deck"] ["deck"] (defScope s_law_size):=⟨rfl,rfl,rfl,by decide +kernel,rfl,by decide +kernel,by decide +kernel⟩
theorem ok_law_size {f:Addr} {fd:FuncData} (F:Fun K "_law_size" "_law_size" s_law_size f fd) (B:Blt mg) (Gtake:Def P w K mg base CX0 1 "_law_take" spTake):FnOk P w K mg base CX0 2 f fd ["deck"] (spDraw 8):=by
 refine F.ok sc_law_size (fun vs H Q E h=>?_) (fun cdv A outer s H vs Q E hr h=>?_)
 ·obtain ⟨d,c,rfl,_⟩:=h
  rfl
 obtain ⟨d,c,rfl,D,q⟩:=h
 refine ⟨_,(pss_one (ps_ret (pe_ix ix_list (pe_lst (pa_cons pe_int (pa_cons pe_int (pa_cons pe_int (pa_cons pe_int (pa_cons (pe_op op_add pe_int (pe_def Gtake (hr.mono (by lia)) (pa_cons (pv 0) (pa_cons pe_int pa_nil)))) (pa_cons pe_int pa_nil))))))) (pe_def Gtake (hr.mono (by lia)) (pa_cons (pv 0) (pa_cons pe_int pa_nil))) (fun _ _=>rfl)))),?_⟩
 refine ⟨_,rfl,d,c,8,rfl,D,by decide,by decide,fun r1 H1 a1 b1 k1 D1=>⟨_,_,rfl,rfl,(by show 6≤sizeLine; decide),fun p hp=>?_⟩⟩
 have D3:DeckAt (upd H1 p (.lst [.int 1,.int 2,.int 3,.int 4,.int (1 + r1),.int 8])) d c:=D1.new hp
 have np:p ∉ [d,c]:=D1.nin hp
 refine ⟨_,rfl,d,c,6,rfl,D3,by decide,by decide,fun r4 H4 a4 b4 k4 D6=>?_⟩
 have h5:=k4 _ _ upd_same np
 obtain ⟨v,hv,hm⟩:=atI_mem (xs:=([.int 1,.int 2,.int 3,.int 4,.int (1 + r1),.int 8]:List V)) a4 (by exact b4)
 refine ⟨p,_,_,_,rfl,rfl,SqL.of h5,hv,?_⟩
 have kk:Keep [d,c] H H4:=k1.trans ((Keep.new hp).trans k4)
 simp only [List.mem_cons,List.not_mem_nil,or_false] at hm
 rcases hm with rfl | rfl | rfl | rfl | rfl | rfl <;> exact q _ H4 (by lia) (by lia) kk D6
noncomputable abbrev s_law_deck:Stmt:=top 31
theorem sc_law_deck:FnScope ["script","cells","seed","k","mixed"] ["script"] (defScope s_law_deck):=⟨rfl,rfl,rfl,by decide +kernel,rfl,by decide +kernel,by decide +kernel⟩
theorem ok_law_deck {f:Addr} {fd:FuncData} (F:Fun K "_law_deck" "_law_deck" s_law_deck f fd) (B:Blt mg):FnOk P w K mg base CX0 1 f fd ["script"] (spDeck K):=by
 refine F.ok sc_law_deck (fun vs H Q E h=>?_) (fun cdv A outer s H vs Q E hr h=>?_)
 ·obtain ⟨a,ns,rfl,_⟩:=h
  rfl
 obtain ⟨a,ns,rfl,hS,hl,q⟩:=h
 have hlm:(ns.map V.int).length=ns.length:=List.length_map _
 have cut:cutV (ns.map V.int) none (some (63:Int))=ns.map V.int:=cut_all (k:=63) (by lia)
 refine ⟨_,(pss_cons (ps_set (i:=1) sc_law_deck.nd rfl (by first | exact Or.inl rfl | exact Or.inr rfl) (pe_op op_cat (pe_slice sl_list (pv 0) po_none (po_some pe_int)) (pe_lst (pa_cons (pe_callB call_len_seq rfl B.len bt_len (pa_cons (pv 0) pa_nil)) pa_nil))))
   (pss_cons (ps_set (i:=2) sc_law_deck.nd rfl (by first | exact Or.inl rfl | exact Or.inr rfl) (pe_op op_mod (pe_op op_add (pe_op op_add (pe_op op_mul (pe_callB (call_sum rfl) rfl B.sum bt_sum (pa_cons (pe_slice sl_list (pv 0) po_none (po_some pe_int)) pa_nil)) pe_int) (pe_op op_mul pe_int (pe_callB call_len_seq rfl B.len bt_len (pa_cons (pv 0) pa_nil)))) pe_int) pe_int))
   (pss_cons (ps_if (pt_cmpR op_eq (pe_op op_mod (pe_callB (call_sum rfl) rfl B.sum bt_sum (pa_cons (pe_slice sl_list (pv 0) po_none (po_some pe_int)) pa_nil)) pe_int) pe_int (nomark _)) (pss_one (ps_for PassesOwn.never rfl (pi_range1 rfl B.range (pa_cons (pe_callB call_len_seq rfl B.len bt_len (pa_cons (pv 1) pa_nil)) pa_nil)) (pg_name (i:=3) sc_law_deck.nd rfl (by first | exact Or.inl rfl | exact Or.inr rfl)) (pss_cons (ps_set (i:=4) sc_law_deck.nd rfl (by first | exact Or.inl rfl | exact Or.inr rfl) (pe_op op_mod (pe_op op_mul (pe_op op_add (pe_op op_add (pe_op op_mod (pe_ix ix_list (pv 1) (pv 3) (fun _ _=>rfl)) pe_int) (pe_op op_mul pe_int (pv 3))) pe_int) pe_int) pe_int))
   (pss_cons (ps_set (i:=4) sc_law_deck.nd rfl (by first | exact Or.inl rfl | exact Or.inr rfl) (pe_op op_mod (pe_op op_mul (pe_op op_mod (pe_op op_add (pe_op op_mul (pv 4) (pv 4)) (pe_op op_mul pe_int (pv 3))) pe_int) pe_int) pe_int))
   (pss_one (ps_asg (pe_op op_add (pe_op op_mul (pe_op op_mul (pv 4) (pv 4)) pe_int) (pe_op op_mod (pe_op op_mul (pv 4) pe_int) pe_int)) (pg_sub (pv 1) (pv 3) set_list))))))) pss_nil)
   (pss_one (ps_ret (pe_lst (pa_cons (pv 1) (pa_cons pe_int (pa_cons (pv 2) pa_nil))))))))),?_⟩
 refine ⟨_,rfl,63,rfl,a,_,rfl,hS,fun p1 hp1=>?_⟩
 have s1:Same H (upd H p1 (.lst (cutV (ns.map V.int) none (some (63:Int))))):=Same.new hp1
 refine ⟨_,rfl,a,_,rfl,.inl (s1.seq hS),(by show 1≤sizeLine; decide),fun p2 hp2=>?_⟩
 have h1:(upd H p1 (.lst (cutV (ns.map V.int) none (some (63:Int))))) p1=some (.lst (cutV (ns.map V.int) none (some (63:Int)))):=upd_same
 refine ⟨p1,p2,_,_,rfl,rfl,(by rw [upd_ne (ne_of_none h1 hp2)]; exact h1),upd_same,(by rw [cut,hlm]; exact Nat.le_of_lt (small1000 (by show ns.length + 1≤1000; lia))),fun p3 hp3=>?_⟩
 rw [cut] at hp2 hp3 ⊢
 generalize eH:upd (upd (upd H p1 (.lst (ns.map V.int))) p2 (.lst [.int (((ns.map V.int).length:Nat):Int)])) p3 (.lst (ns.map V.int++[.int (((ns.map V.int).length:Nat):Int)]))=H3
 have s3:Same H H3:=by
  rw [← eH]
  exact (Same.new hp1).trans ((Same.new hp2).trans (Same.new hp3))
 have np3:H p3=none:=((Same.new hp1).trans (Same.new hp2)).free hp3
 have h3:H3 p3=some (.lst ((ns++[(((ns.map V.int).length:Nat):Int)]).map V.int)):=by
  rw [← eH,upd_same,List.map_append]
  rfl
 refine ⟨_,rfl,63,rfl,a,_,rfl,s3.seq hS,fun p4 hp4=>⟨p4,ns,rfl,(by rw [cut]; exact SqL.of upd_same),_,_,rfl,rfl,.inr ⟨by decide,by decide⟩,_,rfl,a,_,rfl,.inl ((s3.trans (Same.new hp4)).seq hS),_,_,rfl,rfl,.inl ⟨by decide,by decide⟩,_,_,rfl,rfl,_,_,rfl,rfl,_,_,rfl,rfl,(by show (0:Int) < _; decide),?_⟩⟩
 have s4:=s3.trans (Same.new (o:=.lst (cutV (ns.map V.int) none (some (63:Int)))) hp4)
 have h4:=Same.new (o:=.lst (cutV (ns.map V.int) none (some (63:Int)))) hp4 _ _ h3
 refine ⟨_,rfl,63,rfl,a,_,rfl,s4.seq hS,fun p5 hp5=>⟨p5,ns,rfl,(by rw [cut]; exact SqL.of upd_same),_,_,rfl,rfl,(by show (0:Int) < _; decide),rfl,_,rfl,?_⟩⟩
 have s5:=s4.trans (Same.new (o:=.lst (cutV (ns.map V.int) none (some (63:Int)))) hp5)
 have h5:=Same.new (o:=.lst (cutV (ns.map V.int) none (some (63:Int)))) hp5 _ _ h4
 have lc:((ns++[(((ns.map V.int).length:Nat):Int)]).map V.int).length=ns.length + 1:=by simp
 refine ite2 (fun _=>?_) (fun _=>?_)
 ·refine ⟨_,rfl,p3,_,rfl,.inl (SqL.of h5),_,rfl,(by rw [lc]; lia),(by rw [lc]; lia),for_range (n:=_)
   (fun i σ H'=>∃ (cells:List Int) (sd:Int) (v m:Option V),σ=[some (.ref a),some (.ref p3),some (.int sd),v,m]∧Same H H'∧H' p3=some (.lst (cells.map V.int))∧cells.length=ns.length + 1)
   ⟨_,_,none,none,rfl,s5,h5,by simp⟩ ?_ ?_⟩
  ·rintro i σ H' hi ⟨cells,sd,v,m,rfl,s6,h6,l6⟩
   rw [lc] at hi
   have lm:(cells.map V.int).length=cells.length:=List.length_map _
   have i1:(0:Int) + (i:Int) < (((cells.map V.int).length:Nat):Int):=by lia
   obtain ⟨x,hx,hm⟩:=atI_mem (xs:=cells.map V.int) (r:=0 + (i:Int)) (by lia) i1
   obtain ⟨cell,_,rfl⟩:=List.mem_map.mp hm
   refine ⟨_,rfl,_,rfl,p3,_,_,_,rfl,rfl,SqL.of h6,hx,_,_,rfl,rfl,(by show (0:Int) < _; decide),_,rfl,_,_,rfl,rfl,.inl ⟨by decide,by decide⟩,_,_,rfl,rfl,_,_,rfl,rfl,_,_,rfl,rfl,.inr ⟨by decide,by decide⟩,_,_,rfl,rfl,(by show (0:Int) < _; decide),?_⟩
   refine ⟨_,rfl,_,rfl,_,_,rfl,rfl,.inl ⟨by lia,by lia⟩,_,rfl,_,_,rfl,rfl,.inl ⟨by decide,by decide⟩,_,_,rfl,rfl,_,_,rfl,rfl,(by show (0:Int) < _; decide),_,_,rfl,rfl,.inr ⟨by decide,by decide⟩,_,_,rfl,rfl,(by show (0:Int) < _; decide),?_⟩
   refine ⟨_,rfl,_,rfl,_,_,rfl,rfl,.inl ⟨by lia,by lia⟩,_,_,rfl,rfl,.inr ⟨by decide,by decide⟩,_,rfl,_,_,rfl,rfl,.inr ⟨by decide,by decide⟩,_,_,rfl,rfl,(by show (0:Int) < _; decide),_,_,rfl,rfl,_,rfl,_,rfl,p3,_,_,_,rfl,rfl,h6,ixN_of (by lia) i1,?_⟩
   refine ⟨_,sd,_,_,rfl,fun b o e=>?_,upd_same.trans (congrArg (fun l=>some (HO.lst l)) set_int),by rw [List.length_set]; exact l6⟩
   rw [upd_ne (ne_of_none e np3)]
   exact s6 b o e
  ·rintro σ H' ⟨cells,sd,v,m,rfl,s6,h6,l6⟩
   refine ⟨_,rfl,_,rfl,(by show 3≤sizeLine; decide),fun d hd=>?_⟩
   exact q d p3 _ (s6.trans (Same.new hd)) (s6.free hd) np3 ⟨cells,0,sd,upd_same,(by rw [upd_ne (ne_of_none h6 hd)]; exact h6),by lia⟩
 ·refine ⟨_,rfl,_,rfl,(by show 3≤sizeLine; decide),fun d hd=>?_⟩
  exact q d p3 _ (s5.trans (Same.new hd)) (s5.free hd) np3 ⟨_,0,_,upd_same,(by rw [upd_ne (ne_of_none h5 hd)]; exact h5),by simp⟩
noncomputable abbrev s_law_by:Stmt:=top 34
theorem sc_law_by:FnScope ["word","one","other"] ["word","one","other"] (defScope s_law_by):=⟨rfl,rfl,rfl,by decide +kernel,rfl,by decide +kernel,by decide +kernel⟩
theorem ok_law_by {f:Addr} {fd:FuncData} (F:Fun K "_law_by" "_law_by" s_law_by f fd) (B:Blt mg):FnOk P w K mg base CX0 1 f fd ["word","one","other"] spBy:=by
 refine F.ok sc_law_by (fun vs H Q E h=>?_) (fun cdv A outer s H vs Q E hr h=>?_)
 ·obtain ⟨wd,a,b,rfl,_⟩:=h
  rfl
 obtain ⟨wd,a,b,rfl,hw,ha,ha2,hb,hb2,q⟩:=h
 have hmul:IntMulOk a b:=mulOk_of (by lia) (by lia)
 refine ⟨_,(pss_cons (ps_if (pt_cmpR op_eq (pv 0) pe_str (nomark _)) (pss_one (ps_ret (pe_op op_add (pv 1) (pv 2)))) pss_nil)
   (pss_cons (ps_if (pt_cmpR op_eq (pv 0) pe_str (nomark _)) (pss_one (ps_ret (pe_op op_mulB (pv 1) (pv 2)))) pss_nil)
   (pss_cons (ps_if (pt_cmpR op_eq (pv 0) pe_str (nomark _)) (pss_one (ps_ret (pe_ix ix_list (pe_lst (pa_cons (pv 0) (pa_cons (pe_op op_sub (pv 1) (pv 2)) pa_nil))) (pe_callTy call_int1 rfl B.int bt_int (pa_cons (pe_cmpR op_gt (pv 1) (pv 2) (nomark _)) pa_nil)) (fun _ _=>rfl)))) pss_nil)
   (pss_one (ps_ret (pe_ix ix_list (pe_lst (pa_cons (pv 0) (pa_cons (pe_op op_fdivB (pv 1) (pv 2)) pa_nil))) (pe_callTy call_int1 rfl B.int bt_int (pa_cons (pe_cmpR op_eq (pe_op op_mod (pv 1) (pv 2)) pe_int (nomark _)) pa_nil)) (fun _ _=>rfl))))))),?_⟩
 refine ⟨_,rfl,rfl,_,rfl,?_⟩
 refine ite2 (fun c=>?_) (fun c=>?_)
 ·have e:wd="plus":=V.str.inj (of_decide_eq_true c)
  subst e
  refine ⟨_,rfl,_,rfl,_,_,rfl,rfl,?_⟩
  exact q H (Same.refl H)
 have c1:¬ wd="plus":=fun e=>c (decide_eq_true (congrArg V.str e))
 refine ⟨_,rfl,rfl,_,rfl,?_⟩
 refine ite2 (fun c=>?_) (fun c=>?_)
 ·have e:wd="times":=V.str.inj (of_decide_eq_true c)
  subst e
  refine ⟨_,rfl,_,rfl,_,_,rfl,rfl,hmul,?_⟩
  exact q H (Same.refl H)
 have c2:¬ wd="times":=fun e=>c (decide_eq_true (congrArg V.str e))
 refine ⟨_,rfl,rfl,_,rfl,?_⟩
 refine ite2 (fun c=>?_) (fun c=>?_)
 ·have e:wd="less":=V.str.inj (of_decide_eq_true c)
  subst e
  refine ⟨_,rfl,_,rfl,_,rfl,_,_,rfl,rfl,(by show 2≤sizeLine; decide),fun p hp=>?_⟩
  refine ⟨_,rfl,_,rfl,_,_,rfl,rfl,.inr ⟨_,rfl,p,_,_,resV (byE "less" a b),rfl,rfl,SqL.of upd_same,?_,q _ (Same.new hp)⟩⟩
  by_cases h:b < a
  ·rw [decide_eq_true h]
   simp only [byE,if_neg c1,if_neg c2,if_pos h,if_true]
   rfl
  ·rw [decide_eq_false h]
   simp only [byE,if_neg c1,if_neg c2,if_neg h,if_true]
   rfl
 have c3:¬ wd="less":=fun e=>c (decide_eq_true (congrArg V.str e))
 refine ⟨_,rfl,_,rfl,_,rfl,_,_,rfl,rfl,⟨by lia,by lia⟩,(by show 2≤sizeLine; decide),fun p hp=>?_⟩
 refine ⟨_,rfl,_,rfl,_,_,rfl,rfl,(by show (0:Int) < b; lia),rfl,.inr ⟨_,rfl,p,_,_,resV (byE wd a b),rfl,rfl,SqL.of upd_same,?_,q _ (Same.new hp)⟩⟩
 by_cases h:a % b=0
 ·rw [decide_eq_true (congrArg V.int h)]
  simp only [byE,if_neg c1,if_neg c2,if_neg c3,if_pos h]
  rfl
 ·rw [decide_eq_false (fun e=>h (V.int.inj e))]
  simp only [byE,if_neg c1,if_neg c2,if_neg c3,if_neg h]
  rfl
noncomputable abbrev s_law_worth:Stmt:=top 35
theorem sc_law_worth:FnScope ["way","one","other"] ["way"] (defScope s_law_worth):=⟨rfl,rfl,rfl,by decide +kernel,rfl,by decide +kernel,by decide +kernel⟩
theorem ok_law_worth_step {n:Nat} {f:Addr} {fd:FuncData} (F:Fun K "_law_worth" "_law_worth" s_law_worth f fd) (B:Blt mg) (Gby:Def P w K mg base CX0 1 "_law_by" spBy) (Gworth:Def P w K mg base CX0 (n + 2) "_law_worth" (spWorth n)):FnOk P w K mg base CX0 (n + 3) f fd ["way"] (spWorth (n + 1)):=by
 refine F.ok sc_law_worth (fun vs H Q E h=>?_) (fun cdv A outer s H vs Q E hr h=>?_)
 ·obtain ⟨v,x,rfl,_⟩:=h
  rfl
 obtain ⟨v,x,rfl,hx,fx,hn,q⟩:=h
 refine ⟨_,(pss_cons (ps_if (pt_val (pe_isin B.isinstance B.int bt_int (pv 0))) (pss_one (ps_ret (pv 0))) pss_nil)
   (pss_cons (ps_set (i:=1) sc_law_worth.nd rfl (by first | exact Or.inl rfl | exact Or.inr rfl) (pe_def Gworth (hr.mono (by lia)) (pa_cons (pe_ix ix_tup (pv 0) pe_int (fun _ _=>rfl)) pa_nil)))
   (pss_cons (ps_set (i:=2) sc_law_worth.nd rfl (by first | exact Or.inl rfl | exact Or.inr rfl) (pv 1))
   (pss_cons (ps_if (pt_not (pt_val (pe_isin B.isinstance B.str bt_str (pv 1)))) (pss_one (ps_set (i:=2) sc_law_worth.nd rfl (by first | exact Or.inl rfl | exact Or.inr rfl) (pe_def Gworth (hr.mono (by lia)) (pa_cons (pe_ix ix_tup (pv 0) pe_int (fun _ _=>rfl)) pa_nil)))) pss_nil)
   (pss_cons (ps_if (pt_val (pe_isin B.isinstance B.str bt_str (pv 2))) (pss_one (ps_ret (pv 2))) pss_nil)
   (pss_one (ps_ret (pe_def Gby (hr.mono (by lia)) (pa_cons (pe_ix ix_tup (pv 0) pe_int (fun _ _=>rfl)) (pa_cons (pv 1) (pa_cons (pv 2) pa_nil))))))))))),?_⟩
 cases hx with
 | num k =>
  refine ⟨_,rfl,_,_,TyOf.int _,kit_int_int _,_,rfl,iteT ⟨_,rfl,?_⟩⟩
  exact q H (Same.refl H)
 | @op p wd x y a b h ha hb =>
  obtain ⟨hw,fa,fb⟩:=fx.sub
  have hta:a.ht < n:=by have:max a.ht b.ht + 1 < n + 1:=hn; lia
  have htb:b.ht < n:=by have:max a.ht b.ht + 1 < n + 1:=hn; lia
  rw [worthE_op] at q
  refine ⟨_,rfl,_,_,TyOf.tup h,kit_tup_int _,_,rfl,iteF ?_⟩
  refine ⟨_,rfl,p,_,_,x,rfl,rfl,SqT.of h,rfl,x,a,rfl,ha,fa,hta,fun H1 s1=>?_⟩
  cases ea:worthE a with
  | inl e =>
   rw [ea] at q
   refine ⟨_,rfl,?_⟩
   refine ⟨_,rfl,_,_,TyOf.str _,kit_str_str _,_,rfl,iteF ?_⟩
   refine ⟨_,rfl,_,_,TyOf.str _,kit_str_str _,_,rfl,iteT ⟨_,rfl,?_⟩⟩
   exact q _ s1
  | inr i =>
   rw [ea] at q
   refine ⟨_,rfl,?_⟩
   refine ⟨_,rfl,_,_,TyOf.int _,kit_int_str _,_,rfl,iteT ?_⟩
   refine ⟨_,rfl,p,_,_,y,rfl,rfl,SqT.of (s1 _ _ h),rfl,y,b,rfl,hb.kt (KT.same s1),fb,htb,fun H2 s2=>?_⟩
   cases eb:worthE b with
   | inl e =>
    rw [eb] at q
    refine ⟨_,rfl,_,_,TyOf.str _,kit_str_str _,_,rfl,iteT ⟨_,rfl,?_⟩⟩
    exact q _ (s1.trans s2)
   | inr j =>
    rw [eb] at q
    have i1:=fa.worth ea
    have j1:=fb.worth eb
    refine ⟨_,rfl,_,_,TyOf.int _,kit_int_str _,_,rfl,iteF ?_⟩
    refine ⟨_,rfl,p,_,_,_,rfl,rfl,SqT.of (s2 _ _ (s1 _ _ h)),rfl,_,rfl,_,rfl,wd,i,j,rfl,hw,i1.1,i1.2,j1.1,j1.2,fun H3 s3=>?_⟩
    exact q _ (s1.trans (s2.trans s3))
theorem ok_law_worth {f:Addr} {fd:FuncData} (F:Fun K "_law_worth" "_law_worth" s_law_worth f fd) (b:Binds K fd ["way"] []) (m:mg "_law_worth"=some (.ref f)) (B:Blt mg) (Gby:Def P w K mg base CX0 1 "_law_by" spBy):∀ n,FnOk P w K mg base CX0 (n + 2) f fd ["way"] (spWorth n)
 | 0=>by
  have no:∀ vs H Q E,¬ spWorth 0 vs H Q E:=fun vs H Q E h=>by
   obtain ⟨v,x,_,_,_,h,_⟩:=h
   lia
  exact ⟨fun vs H Q E h=>absurd h (no vs H Q E),fun A outer s H args us vs Q E _ _ _ _ h=>absurd h (no vs H Q E)⟩
 | n + 1=>ok_law_worth_step F B Gby (mkDef (ok_law_worth F b m B Gby n) b m F.kp)
noncomputable abbrev s_law_good_way:Stmt:=top 37
theorem sc_law_good_way:FnScope ["deck","many","first","one","other","word","way"] ["deck","many"] (defScope s_law_good_way):=⟨rfl,rfl,rfl,by decide +kernel,rfl,by decide +kernel,by decide +kernel⟩
theorem okw_of {r:Int} (h0:0≤r) (h1:r < 4):∃ wd:Str,atI [V.str "plus",V.str "less",V.str "times",V.str "share"] r=some (.str wd)∧okWord wd:=by
 obtain ⟨v,hv,hm⟩:=atI_mem (xs:=[V.str "plus",V.str "less",V.str "times",V.str "share"]) h0 (by exact h1)
 simp only [List.mem_cons,List.not_mem_nil,or_false] at hm
 rcases hm with rfl | rfl | rfl | rfl
 ·exact ⟨_,hv,.inl rfl⟩
 ·exact ⟨_,hv,.inr (.inl rfl)⟩
 ·exact ⟨_,hv,.inr (.inr (.inl rfl))⟩
 ·exact ⟨_,hv,.inr (.inr (.inr rfl))⟩
theorem ok_law_good_step {n:Nat} {f:Addr} {fd:FuncData} (F:Fun K "_law_good_way" "_law_good_way" s_law_good_way f fd) (B:Blt mg) (Gtake:Def P w K mg base CX0 1 "_law_take" spTake) (Gnumber:Def P w K mg base CX0 2 "_law_number" (spDraw 1000000))
  (Gby:Def P w K mg base CX0 1 "_law_by" spBy) (Gworth:Def P w K mg base CX0 12 "_law_worth" (spWorth 10)) (Ggood:Def P w K mg base CX0 (n + 13) "_law_good_way" (spGood n)):FnOk P w K mg base CX0 (n + 14) f fd ["deck","many"] (spGood (n + 1)):=by
 refine F.ok sc_law_good_way (fun vs H Q E h=>?_) (fun cdv A outer s H vs Q E hr h=>?_)
 ·obtain ⟨d,c,many,rfl,_⟩:=h
  rfl
 obtain ⟨d,c,many,rfl,D,m1,m8,mn,q⟩:=h
 refine ⟨_,(pss_cons (ps_if (pt_cmpR op_eq (pv 1) pe_int (nomark _)) (pss_one (ps_ret (pe_def Gnumber (hr.mono (by lia)) (pa_cons (pv 0) pa_nil)))) pss_nil)
   (pss_cons (ps_set (i:=2) sc_law_good_way.nd rfl (by first | exact Or.inl rfl | exact Or.inr rfl) (pe_op op_add pe_int (pe_def Gtake (hr.mono (by lia)) (pa_cons (pv 0) (pa_cons (pe_op op_sub (pv 1) pe_int) pa_nil)))))
   (pss_cons (ps_set (i:=3) sc_law_good_way.nd rfl (by first | exact Or.inl rfl | exact Or.inr rfl) (pe_def Ggood (hr.mono (by lia)) (pa_cons (pv 0) (pa_cons (pv 2) pa_nil))))
   (pss_cons (ps_set (i:=4) sc_law_good_way.nd rfl (by first | exact Or.inl rfl | exact Or.inr rfl) (pe_def Ggood (hr.mono (by lia)) (pa_cons (pv 0) (pa_cons (pe_op op_sub (pv 1) (pv 2)) pa_nil))))
   (pss_cons (ps_set (i:=5) sc_law_good_way.nd rfl (by first | exact Or.inl rfl | exact Or.inr rfl) (pe_ix ix_list (pe_lst (pa_cons pe_str (pa_cons pe_str (pa_cons pe_str (pa_cons pe_str pa_nil))))) (pe_def Gtake (hr.mono (by lia)) (pa_cons (pv 0) (pa_cons pe_int pa_nil))) (fun _ _=>rfl)))
   (pss_cons (ps_for PassesOwn.never rfl (pi_list (pe_lst (pa_cons (pe_tup (pa_cons (pv 5) (pa_cons (pv 3) (pa_cons (pv 4) pa_nil)))) (pa_cons (pe_tup (pa_cons (pv 5) (pa_cons (pv 4) (pa_cons (pv 3) pa_nil)))) pa_nil star_tup) star_tup))) (pg_name (i:=6) sc_law_good_way.nd rfl (by first | exact Or.inl rfl | exact Or.inr rfl)) (pss_one (ps_if (pt_not (pt_val (pe_isin B.isinstance B.str bt_str (pe_def Gby (hr.mono (by lia)) (pa_cons (pv 5) (pa_cons (pe_def Gworth (hr.mono (by lia)) (pa_cons (pe_ix ix_tup (pv 6) pe_int (fun _ _=>rfl)) pa_nil)) (pa_cons (pe_def Gworth (hr.mono (by lia)) (pa_cons (pe_ix ix_tup (pv 6) pe_int (fun _ _=>rfl)) pa_nil)) pa_nil))))))) (pss_one (ps_ret (pv 6))) pss_nil)))
   (pss_one (ps_ret (pe_tup (pa_cons (pe_ix ix_list (pe_lst (pa_cons (pe_ix ix_list (pe_lst (pa_cons pe_str (pa_cons pe_str pa_nil))) (pe_callTy call_int1 rfl B.int bt_int (pa_cons (pe_cmpR op_eq (pv 5) pe_str (nomark _)) pa_nil)) (fun _ _=>rfl)) (pa_cons pe_str pa_nil))) (pe_callTy call_int1 rfl B.int bt_int (pa_cons (pe_cmpR op_gt (pe_def Gworth (hr.mono (by lia)) (pa_cons (pv 3) pa_nil)) (pe_op op_pow pe_int pe_int) (nomark _)) pa_nil)) (fun _ _=>rfl)) (pa_cons (pv 3) (pa_cons (pv 4) pa_nil)))))))))))),?_⟩
 refine ⟨_,rfl,rfl,_,rfl,?_⟩
 refine ite2 (fun e=>?_) (fun e=>?_)
 ·have e1:many=1:=V.int.inj (of_decide_eq_true e)
  refine ⟨_,rfl,d,c,rfl,D,fun r H1 r1 r2 k1 D1=>?_⟩
  exact q (.int r) (.num r) r H1 (.num r) ⟨r1,r2⟩ e1.symm rfl k1 D1
 have e1:many≠1:=fun z=>e (decide_eq_true (congrArg V.int z))
 refine ⟨_,rfl,_,rfl,_,_,rfl,rfl,d,c,_,rfl,D,by lia,by lia,fun r H1 r1 r2 k1 D1=>⟨_,_,rfl,rfl,?_⟩⟩
 refine ⟨_,rfl,_,rfl,d,c,_,rfl,D1,by lia,by lia,by lia,fun v1 x1 n1 H2 w1 o1 z1 e1 k2 D2=>?_⟩
 refine ⟨_,rfl,_,rfl,_,rfl,_,_,rfl,rfl,d,c,_,rfl,D2,by lia,by lia,by lia,fun v2 x2 n2 H3 w2 o2 z2 e2 k3 D3=>?_⟩
 refine ⟨(by show 4≤sizeLine; decide),fun p hp=>⟨_,rfl,d,c,4,rfl,D3.new hp,by decide,by decide,fun r4 H4 a4 b4 k4 D4=>?_⟩⟩
 obtain ⟨wd,hwd,hw⟩:=okw_of a4 b4
 refine ⟨p,_,_,_,rfl,rfl,SqL.of (k4 _ _ upd_same (D3.nin hp)),hwd,?_⟩
 have kt34:KT H3 H4:=(KT.new hp).trans ((D3.new hp).kt k4)
 have w1':WayIn H4 v1 x1:=(w1.kt (D2.kt k3)).kt kt34
 have w2':WayIn H4 v2 x2:=w2.kt kt34
 have kk:Keep [d,c] H H4:=k1.trans (k2.trans (k3.trans ((Keep.new hp).trans k4)))
 have s1:=x1.size_pos
 have s2:=x2.size_pos
 have f1:x1.fit:=fit_of o1 (by lia)
 have f2:x2.fit:=fit_of o2 (by lia)
 have t1:x1.ht < 10:=by have:=x1.ht_lt; lia
 have t2:x2.ht < 10:=by have:=x2.ht_lt; lia
 have b1:=f1.worth e1
 have b2:=f2.worth e2
 refine ⟨_,rfl,_,rfl,_,rfl,(by show 3≤sizeLine; decide),fun ta hta=>⟨_,rfl,_,rfl,_,rfl,(by show 3≤sizeLine; decide),fun tb htb=>⟨(by show 2≤sizeLine; decide),fun l hl=>?_⟩⟩⟩
 have h1:(upd (upd H4 ta (.tup [.str wd,v1,v2])) tb (.tup [.str wd,v2,v1])) ta=some (.tup [.str wd,v1,v2]):=by
  rw [upd_ne (ne_of_none upd_same htb),upd_same]
 have h2:(upd (upd H4 ta (.tup [.str wd,v1,v2])) tb (.tup [.str wd,v2,v1])) tb=some (.tup [.str wd,v2,v1]):=upd_same
 have sH:Same H4 (upd (upd (upd H4 ta (.tup [.str wd,v1,v2])) tb (.tup [.str wd,v2,v1])) l (.lst [.ref ta,.ref tb])):=(Same.new hta).trans ((Same.new htb).trans (Same.new hl))
 have h1':=Same.new (o:=.lst [.ref ta,.ref tb]) hl _ _ h1
 have h2':=Same.new (o:=.lst [.ref ta,.ref tb]) hl _ _ h2
 refine ⟨l,rfl,⟨_,SqL.of upd_same⟩,for_list (K:=K) (a:=l) (xs:=[.ref ta,.ref tb])
  (fun i σ H'=>∃ (z:Option V),σ=[some (.ref d),some (.int many),some (.int (1 + r)),some v1,some v2,some (.str wd),z]∧Same H4 H'∧H' ta=some (.tup [.str wd,v1,v2])∧H' tb=some (.tup [.str wd,v2,v1])∧H' l=some (.lst [.ref ta,.ref tb]))
  ⟨none,rfl,sH,h1',h2',upd_same⟩ (fun i σ H' _ ⟨_,_,_,_,_,g⟩=>SqL.of g) ?_ ?_⟩
 ·rintro i y σ H' hi ⟨z,rfl,sH',g1,g2,g3⟩
  obtain ⟨t,va,vb,xa,xb,na,nb,ey,ht,wa,wb,fa,fb,ta',tb',ea,eb,oa,ob,zz⟩:∃ (t:Addr) (va vb:V) (xa xb:Way) (na nb:Int),y=.ref t∧H' t=some (.tup [.str wd,va,vb])∧WayIn H' va xa∧WayIn H' vb xb∧xa.fit∧xb.fit∧xa.ht < 10∧xb.ht < 10∧worthE xa=.inr na∧worthE xb=.inr nb∧xa.ok 1000000∧xb.ok 1000000∧((xa.size + xb.size:Nat):Int)=many:=by
   match i,hi with
   | 0,hi =>
    cases hi
    exact ⟨ta,v1,v2,x1,x2,n1,n2,rfl,g1,w1'.kt (KT.same sH'),w2'.kt (KT.same sH'),f1,f2,t1,t2,e1,e2,o1,o2,by lia⟩
   | 1,hi =>
    cases hi
    exact ⟨tb,v2,v1,x2,x1,n2,n1,rfl,g2,w2'.kt (KT.same sH'),w1'.kt (KT.same sH'),f2,f1,t2,t1,e2,e1,o2,o1,by lia⟩
   | i + 2,hi=>cases hi
  subst ey
  have ba:=fa.worth ea
  have bb:=fb.worth eb
  refine ⟨_,rfl,_,rfl,t,_,_,_,rfl,rfl,SqT.of ht,rfl,va,xa,rfl,wa,fa,ta',fun H5 s5=>?_⟩
  rw [ea]
  refine ⟨_,rfl,t,_,_,_,rfl,rfl,SqT.of (s5 _ _ ht),rfl,vb,xb,rfl,wb.kt (KT.same s5),fb,tb',fun H6 s6=>?_⟩
  rw [eb]
  refine ⟨wd,na,nb,rfl,hw,ba.1,ba.2,bb.1,bb.2,fun H7 s7=>?_⟩
  have s57:Same H' H7:=s5.trans (s6.trans s7)
  cases e:byE wd na nb with
  | inr k =>
   refine ⟨_,_,TyOf.int _,kit_int_str _,_,rfl,iteT ⟨_,rfl,?_⟩⟩
   refine q (.ref t) (.op wd xa xb) k H7 (.op (s57 _ _ ht) (wa.kt (KT.same s57)) (wb.kt (KT.same s57))) ⟨hw,oa,ob⟩ zz ?_ (kk.trans ((Keep.same sH').trans (Keep.same s57))) ((D4.same sH').same s57)
   rw [worthE_op,ea,eb]
   exact e
  | inl e =>
   refine ⟨_,_,TyOf.str _,kit_str_str _,_,rfl,iteF ?_⟩
   exact ⟨_,rfl,sH'.trans s57,s57 _ _ g1,s57 _ _ g2,s57 _ _ g3⟩
 ·rintro σ H' ⟨z,rfl,sH',g1,g2,g3⟩
  refine ⟨(by show 2≤sizeLine; decide),fun p5 hp5=>⟨_,rfl,rfl,.inr ⟨_,rfl,p5,_,_,.str (if wd="less" then "plus" else "times"),rfl,rfl,SqL.of upd_same,?_,(by show 2≤sizeLine; decide),fun p6 hp6=>?_⟩⟩⟩
  ·by_cases h:wd="less"
   ·rw [decide_eq_true (congrArg V.str h),if_pos h]
    rfl
   ·rw [decide_eq_false (fun e=>h (V.str.inj e)),if_neg h]
    rfl
  have s56:Same H' (upd (upd H' p5 (.lst [.str "times",.str "plus"])) p6 (.lst [.str (if wd="less" then "plus" else "times"),.str "plus"])):=(Same.new hp5).trans (Same.new hp6)
  refine ⟨_,rfl,v1,x1,rfl,w1'.kt (KT.same (sH'.trans s56)),f1,t1,fun H7 s7=>?_⟩
  rw [e1]
  obtain ⟨wd2,hwd2,hv2⟩:∃ wd2:Str,(wd2="plus"∨wd2="times")∧atI [V.str (if wd="less" then "plus" else "times"),V.str "plus"] (if decide ((10:Int) ^ (40:Int).toNat < n1) then 1 else 0)=some (.str wd2):=by
   by_cases h:(10:Int) ^ (40:Int).toNat < n1
   ·rw [decide_eq_true h]
    exact ⟨"plus",.inl rfl,rfl⟩
   ·rw [decide_eq_false h]
    by_cases h2:wd="less"
    ·rw [if_pos h2]
     exact ⟨"plus",.inl rfl,rfl⟩
    ·rw [if_neg h2]
     exact ⟨"times",.inr rfl,rfl⟩
  refine ⟨_,_,rfl,rfl,⟨by decide,by decide,by decide⟩,_,_,rfl,rfl,.inr ⟨_,rfl,p6,_,_,_,rfl,rfl,SqL.of (s7 _ _ upd_same),hv2,_,rfl,_,rfl,(by show 3≤sizeLine; decide),fun t ht=>?_⟩⟩
  have sA:Same H4 H7:=sH'.trans (s56.trans s7)
  have sB:Same H7 (upd H7 t (.tup [.str wd2,v1,v2])):=Same.new ht
  have okw:okWord wd2:=hwd2.elim .inl fun h=>.inr (.inr (.inl h))
  obtain ⟨k,hk⟩:∃ k,byE wd2 n1 n2=.inr k:=by
   rcases hwd2 with h | h
   ·exact ⟨n1 + n2,by unfold byE; rw [if_pos h]⟩
   ·subst h
    exact ⟨n1 * n2,by unfold byE; rw [if_neg (by decide +kernel),if_pos rfl]⟩
  refine q (.ref t) (.op wd2 x1 x2) k _ (.op upd_same (w1'.kt (KT.same (sA.trans sB))) (w2'.kt (KT.same (sA.trans sB)))) ⟨okw,o1,o2⟩ (by show ((x1.size + x2.size:Nat):Int)=many; lia) ?_ (kk.trans (Keep.same (sA.trans sB))) (D4.same (sA.trans sB))
  rw [worthE_op,e1,e2]
  exact hk
theorem ok_law_good {f:Addr} {fd:FuncData} (F:Fun K "_law_good_way" "_law_good_way" s_law_good_way f fd) (b:Binds K fd ["deck","many"] []) (m:mg "_law_good_way"=some (.ref f)) (B:Blt mg) (Gtake:Def P w K mg base CX0 1 "_law_take" spTake) (Gnumber:Def P w K mg base CX0 2 "_law_number" (spDraw 1000000))
  (Gby:Def P w K mg base CX0 1 "_law_by" spBy) (Gworth:Def P w K mg base CX0 12 "_law_worth" (spWorth 10)):∀ n,FnOk P w K mg base CX0 (n + 13) f fd ["deck","many"] (spGood n)
 | 0=>by
  have no:∀ vs H Q E,¬ spGood 0 vs H Q E:=fun vs H Q E h=>by
   obtain ⟨d,c,many,_,_,h1,_,h2,_⟩:=h
   lia
  exact ⟨fun vs H Q E h=>absurd h (no vs H Q E),fun A outer s H args us vs Q E _ _ _ _ h=>absurd h (no vs H Q E)⟩
 | n + 1=>ok_law_good_step F B Gtake Gnumber Gby Gworth (mkDef (ok_law_good F b m B Gtake Gnumber Gby Gworth n) b m F.kp)
noncomputable abbrev s_law_any_way:Stmt:=top 36
theorem sc_law_any_way:FnScope ["deck","many","first","word"] ["deck","many"] (defScope s_law_any_way):=⟨rfl,rfl,rfl,by decide +kernel,rfl,by decide +kernel,by decide +kernel⟩
theorem ok_law_any_step {n:Nat} {f:Addr} {fd:FuncData} (F:Fun K "_law_any_way" "_law_any_way" s_law_any_way f fd) (B:Blt mg) (Gtake:Def P w K mg base CX0 1 "_law_take" spTake) (Gnumber:Def P w K mg base CX0 2 "_law_number" (spDraw 1000000))
  (Gany:Def P w K mg base CX0 (n + 3) "_law_any_way" (spAny n)):FnOk P w K mg base CX0 (n + 4) f fd ["deck","many"] (spAny (n + 1)):=by
 refine F.ok sc_law_any_way (fun vs H Q E h=>?_) (fun cdv A outer s H vs Q E hr h=>?_)
 ·obtain ⟨d,c,many,rfl,_⟩:=h
  rfl
 obtain ⟨d,c,many,rfl,D,m1,m8,mn,q⟩:=h
 refine ⟨_,(pss_cons (ps_if (pt_cmpR op_eq (pv 1) pe_int (nomark _)) (pss_one (ps_ret (pe_def Gnumber (hr.mono (by lia)) (pa_cons (pv 0) pa_nil)))) pss_nil)
   (pss_cons (ps_set (i:=2) sc_law_any_way.nd rfl (by first | exact Or.inl rfl | exact Or.inr rfl) (pe_op op_add pe_int (pe_def Gtake (hr.mono (by lia)) (pa_cons (pv 0) (pa_cons (pe_op op_sub (pv 1) pe_int) pa_nil)))))
   (pss_cons (ps_set (i:=3) sc_law_any_way.nd rfl (by first | exact Or.inl rfl | exact Or.inr rfl) (pe_ix ix_list (pe_lst (pa_cons pe_str (pa_cons pe_str (pa_cons pe_str (pa_cons pe_str pa_nil))))) (pe_def Gtake (hr.mono (by lia)) (pa_cons (pv 0) (pa_cons pe_int pa_nil))) (fun _ _=>rfl)))
   (pss_one (ps_ret (pe_tup (pa_cons (pv 3) (pa_cons (pe_def Gany (hr.mono (by lia)) (pa_cons (pv 0) (pa_cons (pv 2) pa_nil))) (pa_cons (pe_def Gany (hr.mono (by lia)) (pa_cons (pv 0) (pa_cons (pe_op op_sub (pv 1) (pv 2)) pa_nil))) pa_nil))))))))),?_⟩
 refine ⟨_,rfl,rfl,_,rfl,?_⟩
 refine ite2 (fun e=>?_) (fun e=>?_)
 ·have e1:many=1:=V.int.inj (of_decide_eq_true e)
  refine ⟨_,rfl,d,c,rfl,D,fun r H1 r1 r2 k1 D1=>?_⟩
  exact q (.int r) (.num r) H1 (.num r) ⟨r1,r2⟩ e1.symm k1 D1
 have e1:many≠1:=fun z=>e (decide_eq_true (congrArg V.int z))
 refine ⟨_,rfl,_,rfl,_,_,rfl,rfl,d,c,_,rfl,D,by lia,by lia,fun r H1 r1 r2 k1 D1=>⟨_,_,rfl,rfl,?_⟩⟩
 refine ⟨(by show 4≤sizeLine; decide),fun p hp=>⟨_,rfl,d,c,4,rfl,D1.new hp,by decide,by decide,fun r4 H4 a4 b4 k4 D4=>?_⟩⟩
 obtain ⟨wd,hwd,hw⟩:=okw_of a4 b4
 refine ⟨p,_,_,_,rfl,rfl,SqL.of (k4 _ _ upd_same (D1.nin hp)),hwd,?_⟩
 refine ⟨_,rfl,_,rfl,_,rfl,d,c,_,rfl,D4,by lia,by lia,by lia,fun v1 x1 H5 w1 o1 z1 k5 D5=>?_⟩
 refine ⟨_,rfl,_,rfl,_,rfl,_,_,rfl,rfl,d,c,_,rfl,D5,by lia,by lia,by lia,fun v2 x2 H6 w2 o2 z2 k6 D6=>⟨(by show 3≤sizeLine; decide),fun t ht=>?_⟩⟩
 have kk:Keep [d,c] H H6:=k1.trans ((Keep.new hp).trans (k4.trans (k5.trans k6)))
 exact q (.ref t) (.op wd x1 x2) _ (.op upd_same ((w1.kt (D5.kt k6)).kt (KT.new ht)) (w2.kt (KT.new ht))) ⟨hw,o1,o2⟩ (by show ((x1.size + x2.size:Nat):Int)=many; lia) (kk.trans (Keep.new ht)) (D6.new ht)
theorem ok_law_any {f:Addr} {fd:FuncData} (F:Fun K "_law_any_way" "_law_any_way" s_law_any_way f fd) (b:Binds K fd ["deck","many"] []) (m:mg "_law_any_way"=some (.ref f)) (B:Blt mg) (Gtake:Def P w K mg base CX0 1 "_law_take" spTake) (Gnumber:Def P w K mg base CX0 2 "_law_number" (spDraw 1000000)) :
  ∀ n,FnOk P w K mg base CX0 (n + 3) f fd ["deck","many"] (spAny n)
 | 0=>by
  have no:∀ vs H Q E,¬ spAny 0 vs H Q E:=fun vs H Q E h=>by
   obtain ⟨d,c,many,_,_,h1,_,h2,_⟩:=h
   lia
  exact ⟨fun vs H Q E h=>absurd h (no vs H Q E),fun A outer s H args us vs Q E _ _ _ _ h=>absurd h (no vs H Q E)⟩
 | n + 1=>ok_law_any_step F B Gtake Gnumber (mkDef (ok_law_any F b m B Gtake Gnumber n) b m F.kp)
noncomputable abbrev s_steps_of:Stmt:=top 9
theorem sc_steps_of:FnScope ["way","steps","waiting","part","word","first","second"] ["way"] (defScope s_steps_of):=⟨rfl,rfl,rfl,by decide +kernel,rfl,by decide +kernel,by decide +kernel⟩
theorem ok_steps_of {f:Addr} {fd:FuncData} (F:Fun K "steps_of" "steps_of" s_steps_of f fd) (B:Blt mg):FnOk P w K mg base CX0 1 f fd ["way"] spSteps:=by
 refine F.ok sc_steps_of (fun vs H Q E h=>?_) (fun cdv A outer s H vs Q E hr h=>?_)
 ·obtain ⟨v,x,rfl,_⟩:=h
  rfl
 obtain ⟨v,x,rfl,hx,hn,q⟩:=h
 refine ⟨_,(pss_cons (ps_set (i:=1) sc_steps_of.nd rfl (by first | exact Or.inl rfl | exact Or.inr rfl) (pe_lst pa_nil))
   (pss_cons (ps_set (i:=2) sc_steps_of.nd rfl (by first | exact Or.inl rfl | exact Or.inr rfl) (pe_lst (pa_cons (pv 0) pa_nil)))
   (pss_cons (ps_while PassesOwn.never (pt_truth (pv 2) (fun _=>rfl)) (pss_cons (ps_set (i:=3) sc_steps_of.nd rfl (by first | exact Or.inl rfl | exact Or.inr rfl) (pe_bm0 PySem.F.plainAttrs_list PySem.F.slot_list_pop PySem.F.type_list_pop mt_pop (pv 2)))
   (pss_one (ps_if (pt_val (pe_isin B.isinstance B.tuple bt_tuple (pv 3))) (pss_cons (ps_asg (pv 3) (pg_tup rfl (pgs_cons (pg_name (i:=4) sc_steps_of.nd rfl (by first | exact Or.inl rfl | exact Or.inr rfl)) (pgs_cons (pg_name (i:=5) sc_steps_of.nd rfl (by first | exact Or.inl rfl | exact Or.inr rfl)) (pgs_cons (pg_name (i:=6) sc_steps_of.nd rfl (by first | exact Or.inl rfl | exact Or.inr rfl)) pgs_nil)))))
   (pss_cons (ps_expr (pe_bm PySem.F.plainAttrs_list PySem.F.slot_list_append PySem.F.type_list_append mt_append (pv 1) (pa_cons (pv 4) pa_nil)))
   (pss_cons (ps_expr (pe_bm PySem.F.plainAttrs_list PySem.F.slot_list_append PySem.F.type_list_append mt_append (pv 2) (pa_cons (pv 5) pa_nil)))
   (pss_one (ps_expr (pe_bm PySem.F.plainAttrs_list PySem.F.slot_list_append PySem.F.type_list_append mt_append (pv 2) (pa_cons (pv 6) pa_nil))))))) (pss_one (ps_expr (pe_bm PySem.F.plainAttrs_list PySem.F.slot_list_append PySem.F.type_list_append mt_append (pv 1) (pa_cons (pv 3) pa_nil))))))))
   (pss_one (ps_ret (pe_rev (pv 1))))))),?_⟩
 refine ⟨(by show 0≤sizeLine; decide),fun ps hps=>⟨_,rfl,(by show 1≤sizeLine; decide),fun pw hpw=>?_⟩⟩
 have hs1:(upd (upd H ps (.lst [])) pw (.lst [v])) ps=some (.lst []):=by rw [upd_ne (ne_of_none upd_same hpw),upd_same]
 have npw:H pw=none:=(Same.new hps).free hpw
 have nsw:ps≠pw:=ne_of_none upd_same hpw
 refine ⟨fun m σ H'=>∃ (vr:List V) (wr:List Way) (st:List V) (a b c d:Option V),σ=[some v,some (.ref ps),some (.ref pw),a,b,c,d]∧Same H H'∧H' ps=some (.lst st)∧H' pw=some (.lst vr.reverse)∧Paired (WayIn H) vr wr∧st++wr.flatMap emit=emit x∧m=sumNodes wr,
  ⟨_,[v],[x],[],none,none,none,none,rfl,(Same.new hps).trans (Same.new hpw),hs1,upd_same,.cons hx .nil,by simp,rfl⟩,?_⟩
 rintro m σ H' ⟨vr,wr,st,a,b,c,d,rfl,sH,h1,h2,pr,eq,em⟩
 have lenAll:st.length + sumNodes wr=x.nodes:=by rw [← emits_len,← List.length_append,eq,emit_len]
 have lenW:=len_le_nodes wr
 have lenV:vr.length=wr.length:=pr.length
 refine ⟨_,rfl,_,.inl ⟨_,SqL.of h2,rfl⟩,?_⟩
 cases pr with
 | nil =>
  refine iteF ?_
  have e:st=emit x:=by simpa using eq
  refine ⟨_,rfl,ps,_,rfl,SqL.of h1,fun p hp=>?_⟩
  refine q p _ (sH.trans (Same.new hp)) ?_
  rw [upd_same,e,emit_rev]
 | @cons y z vr' wr' hy pr' =>
  have e2:(y :: vr').reverse=vr'.reverse++[y]:=List.reverse_cons
  have sn:sumNodes (z :: wr')=z.nodes + sumNodes wr':=by simp [sumNodes]
  rw [sn] at lenAll em
  have lv':vr'.length=wr'.length:=pr'.length
  have lw':=len_le_nodes wr'
  have np:=nodes_pos z
  rw [e2] at h2
  refine (show (if _ then _ else _:Prop) from ?_)
  have ne:(!((y :: vr').reverse).isEmpty)=true:=by rw [e2]; simp
  rw [if_pos ne]
  refine ⟨fun σ' H'=>∃ m',m' < m∧∃ (vr:List V) (wr:List Way) (st:List V) (a b c d:Option V),σ'=[some v,some (.ref ps),some (.ref pw),a,b,c,d]∧Same H H'∧H' ps=some (.lst st)∧H' pw=some (.lst vr.reverse)∧Paired (WayIn H) vr wr∧st++wr.flatMap emit=emit x∧m'=sumNodes wr,fun σ' H' h=>h,?_⟩
  refine ⟨_,rfl,.inl ⟨rfl,_,SqL.of h2⟩,pw,_,y,rfl,rfl,h2,(by simp),?_⟩
  rw [List.dropLast_concat]
  have h1a:(upd H' pw (.lst vr'.reverse)) ps=some (.lst st):=by rw [upd_ne nsw]; exact h1
  have h2a:(upd H' pw (.lst vr'.reverse)) pw=some (.lst vr'.reverse):=upd_same
  have sHa:Same H (upd H' pw (.lst vr'.reverse)):=fun b o e=>by rw [upd_ne (ne_of_none e npw)]; exact sH b o e
  have nps:H ps=none:=hps
  have big:∀ k:Nat,k≤1000→k < sizeLine:=fun k=>small1000
  cases hy with
  | num n =>
   refine ⟨_,rfl,_,_,TyOf.int _,kit_int_tuple _,_,rfl,iteF ?_⟩
   refine ⟨_,rfl,.inl ⟨rfl,_,SqL.of h1a⟩,_,rfl,ps,st,_,rfl,rfl,h1a,big _ (by lia),?_⟩
   refine ⟨sumNodes wr',by lia,vr',wr',st++[.int n],_,_,_,_,rfl,?_,upd_same,?_,pr',?_,rfl⟩
   ·exact fun b o e=>by rw [upd_ne (ne_of_none e nps)]; exact sHa b o e
   ·rw [upd_ne nsw.symm]; exact h2a
   ·rw [List.append_assoc]; exact eq
  | @op p wd x1 y1 a1 b1 h ha hb =>
   refine ⟨_,rfl,_,_,TyOf.tup (sHa _ _ h),kit_tup_tup _,_,rfl,iteT ?_⟩
   refine ⟨_,rfl,p,_,rfl,SqT.of (sHa _ _ h),rfl,_,_,rfl,_,_,rfl,_,_,rfl,rfl,?_⟩
   refine ⟨_,rfl,.inl ⟨rfl,_,SqL.of h1a⟩,_,rfl,ps,st,_,rfl,rfl,h1a,big _ (by lia),?_⟩
   have h2b:(upd (upd H' pw (.lst vr'.reverse)) ps (.lst (st++[.str wd]))) pw=some (.lst vr'.reverse):=by rw [upd_ne nsw.symm]; exact h2a
   have nd:(Way.op wd a1 b1).nodes=a1.nodes + b1.nodes + 1:=rfl
   have n1:=nodes_pos a1
   have n2:=nodes_pos b1
   refine ⟨_,rfl,.inl ⟨rfl,_,SqL.of h2b⟩,_,rfl,pw,_,_,rfl,rfl,h2b,big _ (by rw [List.length_reverse]; lia),?_⟩
   refine ⟨_,rfl,.inl ⟨rfl,_,SqL.of upd_same⟩,_,rfl,pw,_,_,rfl,rfl,upd_same,big _ (by rw [List.length_append,List.length_reverse]; show vr'.length + 1≤1000; lia),?_⟩
   refine ⟨b1.nodes + (a1.nodes + sumNodes wr'),by lia,y1 :: x1 :: vr',b1 :: a1 :: wr',st++[.str wd],_,_,_,_,rfl,?_,?_,?_,.cons hb (.cons ha pr'),?_,by simp [sumNodes]⟩
   ·exact fun b o e=>by rw [upd_ne (ne_of_none e npw),upd_ne (ne_of_none e npw),upd_ne (ne_of_none e nps)]; exact sHa b o e
   ·rw [upd_ne nsw,upd_ne nsw,upd_same]
   ·rw [upd_same,List.reverse_cons,List.reverse_cons]
   ·rw [← eq,List.append_assoc,List.flatMap_cons,List.flatMap_cons,List.flatMap_cons,emit]
    simp
end
end Law
namespace Law
open PySem L2
section
variable {P:Program} {w:World} {K:PySem.W.Frag} {mg:Str→Option Value} {base:Heap}
section
variable {X:Cx} {pos:Pos}
theorem w_ifE {c:Expr} {a b:List Stmt} {tc:TT} {t u:TS} (hc:Wr (PT X c tc)) (ha:Wr (PSs X a t)) (hb:Wr (PSs X b u)):Wr (PS X (.If c a b pos) (tIfS tc t u)):=⟨ps_if hc.un ha.un hb.un⟩
theorem wss_nil:Wr (PSs X [] tNext):=⟨pss_nil⟩
end
inductive AFb (b:Int):D→Prop
 | num {i:Int} (h0:-b≤i) (h1:i≤1000000):AFb b (.int i)
 | grp {k:Str} {more off:List D} (hk:k="sum"∨k="product") (h1:∀ x∈more,AFb b x) (h2:∀ x∈off,AFb b x):AFb b (.tup [.str k,.tup more,.tup off])
theorem AFb.mono {b b':Int} {d:D} (hb:b≤b') (h:AFb b d):AFb b' d:=by
 induction h with
 | num h0 h1=>exact .num (by lia) h1
 | grp hk _ _ i1 i2=>exact .grp hk i1 i2
theorem AFb.af {b:Int} {d:D} (hb:b≤2000000) (h:AFb b d):AF d:=by
 induction h with
 | num h0 h1=>exact .num (by lia) h1
 | grp hk _ _ i1 i2=>exact .grp hk i1 i2
theorem IsForm.afb {d:D} (h:IsForm d):AFb 0 d:=by
 induction h with
 | num h0 h1=>exact .num (by lia) h1
 | grp hk _ _ _ i0 i1 i2=>exact .grp hk (fun x hx=>by rcases List.mem_cons.mp hx with rfl | hx; exact i0; exact i1 x hx) i2
noncomputable def Ok9 (b:Int) (e:Nat) (l:List D):Prop:=∀ x∈l,AFb b x∧x.dep≤e
theorem Ok9.mono {b b':Int} {e e':Nat} {l:List D} (hb:b≤b') (he:e≤e') (h:Ok9 b e l):Ok9 b' e' l:=fun x hx=>⟨(h x hx).1.mono hb,Nat.le_trans (h x hx).2 he⟩
theorem Ok9.sub {b:Int} {e:Nat} {l m:List D} (h:Ok9 b e l) (s:∀ x∈m,x∈l):Ok9 b e m:=fun x hx=>h x (s x hx)
theorem six {k n:Nat} (h:k < n):seqIndex? (k:Int) n=some k:=by
 unfold seqIndex?
 have h1:¬ ((k:Int) < 0):=by lia
 simp only [h1,if_false]
 rw [if_pos (by simp; lia)]
 simp
theorem ixk {k n:Nat} (h:k < n):ixN n (k:Int)=some k:=by
 unfold ixN
 rw [if_pos (by lia),if_pos (by lia)]
 simp
noncomputable def bi (b:Bool):Int:=if b then 1 else 0
theorem DeckAt.keep {S:List Addr} {H H':Hp} {d c:Addr} (D:DeckAt H d c) (k:Keep S H H') (h1:d ∉ S) (h2:c ∉ S):DeckAt H' d c:=by
 obtain ⟨cells,a,seed,e1,e2,e3⟩:=D
 exact ⟨cells,a,seed,k _ _ e1 h1,k _ _ e2 h2,e3⟩
structure Rw (H0 H:Hp) (d c pr:Addr) (l:Bool→Addr) (ds:Bool→List D):Prop where
 deck:DeckAt H d c
 keep:Keep [d,c] H0 H
 row:H pr=some (.lst [.ref (l false),.ref (l true)])
 at_:∀ b,∃ xs,H (l b)=some (.lst xs)∧Dats H (ds b) xs
 npr:H0 pr=none
 nl:∀ b,H0 (l b)=none
 ne:l false≠l true
 nep:∀ b,l b≠pr
section
variable {H0 H H':Hp} {d c pr:Addr} {l:Bool→Addr} {ds:Bool→List D}
theorem Rw.take (R:Rw H0 H d c pr l ds) (D0:DeckAt H0 d c) (k:Keep [d,c] H H') (D:DeckAt H' d c):Rw H0 H' d c pr l ds where
 deck:=D
 keep:=R.keep.trans k
 row:=k _ _ R.row (D0.nin R.npr)
 at_:=fun b=>by
  obtain ⟨xs,h1,h2⟩:=R.at_ b
  exact ⟨xs,k _ _ h1 (D0.nin (R.nl b)),Dats.kt (R.deck.kt k) _ h2⟩
 npr:=R.npr
 nl:=R.nl
 ne:=R.ne
 nep:=R.nep
theorem Rw.same (R:Rw H0 H d c pr l ds) (s:Same H H'):Rw H0 H' d c pr l ds where
 deck:=R.deck.same s
 keep:=R.keep.trans (Keep.same s)
 row:=s _ _ R.row
 at_:=fun b=>by
  obtain ⟨xs,h1,h2⟩:=R.at_ b
  exact ⟨xs,s _ _ h1,Dats.kt (KT.same s) _ h2⟩
 npr:=R.npr
 nl:=R.nl
 ne:=R.ne
 nep:=R.nep
theorem Rw.put (R:Rw H0 H d c pr l ds) (D0:DeckAt H0 d c) {b:Bool} {ys:List V} {es:List D} (h:Dats H es ys):Rw H0 (upd H (l b) (.lst ys)) d c pr l (fun c=>if c=b then es else ds c):=by
 obtain ⟨xs,h1,h2⟩:=R.at_ b
 have kt:KT H (upd H (l b) (.lst ys)):=KT.upd h1
 have nd:=D0.nin (R.nl b)
 have nd':l b≠d∧l b≠c:=by simpa using nd
 refine ⟨R.deck.keep (Keep.upd (S:=[l b]) (by simp)) (by simpa using nd'.1.symm) (by simpa using nd'.2.symm),?_,?_,fun b'=>?_,R.npr,R.nl,R.ne,R.nep⟩
 ·intro a o e na
  rw [upd_ne (ne_of_none e (R.nl b))]
  exact R.keep a o e na
 ·rw [upd_ne (Ne.symm (R.nep b))]; exact R.row
 ·by_cases e:b'=b
  ·subst e
   simp only [if_true]
   exact ⟨ys,upd_same,Dats.kt kt _ h⟩
  ·simp only [e,if_false]
   obtain ⟨xs',h3,h4⟩:=R.at_ b'
   have nb:l b'≠l b:=by
    cases b <;> cases b' <;> first | exact absurd rfl e | exact R.ne | exact Ne.symm R.ne
   exact ⟨xs',by rw [upd_ne nb]; exact h3,Dats.kt kt _ h4⟩
theorem Rw.swap (R:Rw H0 H d c pr l ds) (D0:DeckAt H0 d c) {b:Bool} {p:Addr} {ys:List V} {es:List D} (np:H0 p=none) (npr':p≠pr) (nol:∀ b',p≠l b') (hp:H p=some (.lst ys)) (h:Dats H es ys) :
  Rw H0 (upd H pr (.lst ([V.ref (l false),V.ref (l true)].set (if b then 1 else 0) (.ref p)))) d c pr (fun c=>if c=b then p else l c) (fun c=>if c=b then es else ds c):=by
 have kt:KT H (upd H pr (.lst ([V.ref (l false),V.ref (l true)].set (if b then 1 else 0) (.ref p)))):=KT.upd R.row
 have nd:=D0.nin R.npr
 have nd':pr≠d∧pr≠c:=by simpa using nd
 refine ⟨R.deck.keep (Keep.upd (S:=[pr]) (by simp)) (by simpa using nd'.1.symm) (by simpa using nd'.2.symm),?_,?_,fun b'=>?_,R.npr,fun b'=>?_,?_,fun b'=>?_⟩
 ·intro a o e na
  rw [upd_ne (ne_of_none e R.npr)]
  exact R.keep a o e na
 ·rw [upd_same]
  cases b <;> rfl
 ·by_cases e:b'=b
  ·subst e
   simp only [if_true]
   exact ⟨ys,by rw [upd_ne npr']; exact hp,Dats.kt kt _ h⟩
  ·simp only [e,if_false]
   obtain ⟨xs',h3,h4⟩:=R.at_ b'
   exact ⟨xs',by rw [upd_ne (R.nep b')]; exact h3,Dats.kt kt _ h4⟩
 ·by_cases e:b'=b
  ·simp only [e,if_true]; exact np
  ·simp only [e,if_false]; exact R.nl b'
 ·have n1:=nol false
  have n2:=nol true
  cases b
  ·simpa using n2
  ·simpa using Ne.symm n1
 ·by_cases e:b'=b
  ·simp only [e,if_true]; exact npr'
  ·simp only [e,if_false]; exact R.nep b'
end
theorem Dats.erase {H:Hp}:∀ {a:List D} {xs:List V} (k:Nat),Dats H a xs→Dats H (a.eraseIdx k) (xs.eraseIdx k)
 | [],xs,k,h=>by rw [h.nilE]; exact .nilI H
 | d :: r,xs,0,h=>by
  obtain ⟨x,t,rfl,h1,h3⟩:=h.consE
  exact h3
 | d :: r,xs,k + 1,h=>by
  obtain ⟨x,t,rfl,h1,h3⟩:=h.consE
  exact .consI h1 (Dats.erase k h3)
theorem Dats.put {H:Hp}:∀ {a:List D} {xs:List V} (k:Nat) {e:D} {v:V},Dats H a xs→Dat H e v→Dats H (a.set k e) (xs.set k v)
 | [],xs,k,e,v,h,_=>by rw [h.nilE]; exact .nilI H
 | d :: r,xs,0,e,v,h,he=>by
  obtain ⟨x,t,rfl,h1,h3⟩:=h.consE
  exact .consI he h3
 | d :: r,xs,k + 1,e,v,h,he=>by
  obtain ⟨x,t,rfl,h1,h3⟩:=h.consE
  exact .consI h1 (Dats.put k h3 he)
theorem nS_erase:∀ {l:List D} {k:Nat} {d:D},l[k]?=some d→nS (l.eraseIdx k) + nn d=nS l
 | [],k,d,h=>by cases h
 | x :: r,0,d,h=>by cases h; rw [nS_cons]; show nS r + _=_; lia
 | x :: r,k + 1,d,h=>by
  have:=nS_erase (l:=r) (k:=k) (d:=d) (by simpa using h)
  show nS (x :: r.eraseIdx k) + nn d=_
  rw [nS_cons,nS_cons]; lia
theorem nS_set:∀ {l:List D} {k:Nat} {d:D} (e:D),l[k]?=some d→nS (l.set k e) + nn d=nS l + nn e
 | [],k,d,e,h=>by cases h
 | x :: r,0,d,e,h=>by cases h; show nS (e :: r) + _=_; rw [nS_cons,nS_cons]; lia
 | x :: r,k + 1,d,e,h=>by
  have:=nS_set (l:=r) (k:=k) (d:=d) e (by simpa using h)
  show nS (x :: r.set k e) + nn d=_
  rw [nS_cons,nS_cons]; lia
theorem nS_ins (l:List D) (k:Nat) (e:D):nS (l.take k++e :: l.drop k)=nS l + nn e:=by
 have:=nS_app (l.take k) (l.drop k)
 rw [List.take_append_drop] at this
 rw [nS_app,nS_cons]; lia
theorem mem_ins {l:List D} {k:Nat} {e x:D} (h:x∈l.take k++e :: l.drop k):x=e∨x∈l:=by
 rcases List.mem_append.mp h with h | h
 ·exact .inr (List.mem_of_mem_take h)
 ·rcases List.mem_cons.mp h with h | h
  ·exact .inl h
  ·exact .inr (List.mem_of_mem_drop h)
end
end Law
namespace Law
open PySem L2
section
variable {P:Program} {w:World} {K:PySem.W.Frag} {mg:Str→Option Value} {base:Heap}
theorem at_row (l:Bool→Addr) (b:Bool):atI [V.ref (l false),V.ref (l true)] (bi b)=some (.ref (l b)):=by cases b <;> rfl
noncomputable def Gd (b:Int) (e:Nat) (S:Nat) (ds:Bool→List D):Prop:=(∀ c,Ok9 (b + 1000000) (max e 2) (ds c))∧nS (ds false) + nS (ds true)≤2 * S + 2
theorem at_rowN (l:Bool→Addr) (b:Bool):atI [V.ref (l false),V.ref (l true)] (1 - bi b)=some (.ref (l (!b))):=by cases b <;> rfl
theorem gd_if {nb:Int} {ne:Nat} {ds:Bool→List D} {b:Bool} {es:List D} (kd:∀ b,Ok9 nb ne (ds b)) (ke:Ok9 (nb + 1000000) (max ne 2) es) (hn:nS es≤nS (ds b) + (nS (ds false) + nS (ds true)) + 2):Gd nb ne (nS (ds false) + nS (ds true)) (fun c=>if c=b then es else ds c):=by
 refine ⟨fun c=>?_,?_⟩
 ·by_cases e:c=b
  ·simp only [e,if_true]; exact ke
  ·simp only [e,if_false]; exact (kd c).mono (by lia) (Nat.le_max_left ..)
 ·cases b
  ·show nS es + nS (ds true)≤_
   lia
  ·show nS (ds false) + nS es≤_
   lia
theorem nS_le (ds:Bool→List D) (b:Bool):nS (ds b)≤nS (ds false) + nS (ds true):=by cases b <;> lia
noncomputable def sA:D:=.tup [.str "sum",.tup [.int 1,.int 2],.tup []]
noncomputable def sB:D:=.tup [.str "product",.tup [.int 2,.int 3],.tup []]
noncomputable def sC:D:=.tup [.str "sum",.tup [.int 5],.tup [.int 2]]
theorem some3 {b:Int} (hb:0≤b) {x:D} (h:x=sA∨x=sB∨x=sC):AFb b x∧x.dep≤2∧nn x=3:=by
 have two:∀ {i j:Int},1≤i→i≤10→1≤j→j≤10→∀ y∈[D.int i,D.int j],AFb b y:=fun h1 h2 h3 h4 y hy=>by
  simp only [List.mem_cons,List.not_mem_nil,or_false] at hy
  rcases hy with rfl | rfl
  ·exact .num (by lia) (by lia)
  ·exact .num (by lia) (by lia)
 have one:∀ {i:Int},1≤i→i≤10→∀ y∈[D.int i],AFb b y:=fun h1 h2 y hy=>by rw [List.mem_singleton.mp hy]; exact .num (by lia) (by lia)
 have n0:∀ y∈([]:List D),AFb b y:=fun y hy=>by cases hy
 have dI:∀ i,(D.int i).dep=0:=fun i=>by rw [D.dep]; all_goals simp
 rcases h with rfl | rfl | rfl
 ·exact ⟨.grp (.inl rfl) (two (by decide) (by decide) (by decide) (by decide)) n0,by unfold sA; rw [dep_grpA,deps,deps,deps,dI,dI]; decide,by unfold sA; rw [nn_grp,nS_cons,nS_cons,nS_nil,nn_int,nn_int]⟩
 ·exact ⟨.grp (.inr rfl) (two (by decide) (by decide) (by decide) (by decide)) n0,by unfold sB; rw [dep_grpA,deps,deps,deps,dI,dI]; decide,by unfold sB; rw [nn_grp,nS_cons,nS_cons,nS_nil,nn_int,nn_int]⟩
 ·exact ⟨.grp (.inl rfl) (one (by decide) (by decide)) (one (by decide) (by decide)),by unfold sC; rw [dep_grpA,deps,deps,deps,deps,dI,dI]; decide,by unfold sC; rw [nn_grp,nS_cons,nS_cons,nS_nil,nn_int,nn_int]⟩
theorem dep_int (i:Int):(D.int i).dep=0:=by rw [D.dep]; all_goals simp
noncomputable def spChg:Sp:=fun vs H Q _=>∃ (d c pm po:Addr) (xm xo:List V) (more off:List D) (b:Int) (e:Nat),vs=[.ref d,.ref pm,.ref po]∧DeckAt H d c∧H pm=some (.tup xm)∧H po=some (.tup xo)∧Dats H more xm∧Dats H off xo ∧
 0≤b∧b≤1000000∧e≤16∧Ok9 b e more∧Ok9 b e off∧nS more + nS off≤61 ∧
 ∀ (r t0 t1:Addr) (m' o':List D) (H':Hp),H' r=some (.lst [.ref t0,.ref t1])→Dat H' (.tup m') (.ref t0)→Dat H' (.tup o') (.ref t1)→Ok9 (b + 1000000) (max e 2) (m'++o')→nS m' + nS o'≤2 * (nS more + nS off) + 2→Keep [d,c] H H'→DeckAt H' d c→Q (.ref r) H'
noncomputable abbrev s_law_rows_changed:Stmt:=top 47
theorem sc_law_rows_changed:FnScope ["deck","more","off","rows","which","way","at","part","spot","some"] ["deck","more","off"] (defScope s_law_rows_changed):=⟨rfl,rfl,rfl,by decide +kernel,rfl,by decide +kernel,by decide +kernel⟩
theorem ok_chg {f:Addr} {fd:FuncData} (F:Fun K "_law_rows_changed" "_law_rows_changed" s_law_rows_changed f fd) (B:Blt mg) (Blist:mg "list"=none) (Bmin:mg "min"=none) (Gtake:Def P w K mg base CX0 1 "_law_take" spTake) (Gord:Def P w K mg base CX0 22 "_law_in_order" (spOrdLA 20)):FnOk P w K mg base CX0 23 f fd ["deck","more","off"] spChg:=by
 refine F.okW (k:=22) sc_law_rows_changed (fun vs H Q E h=>?_) (fun cdv A outer s H vs Q E hr h=>?_)
 ·obtain ⟨d,c,pm,po,xm,xo,more,off,b,e,rfl,_⟩:=h
  rfl
 obtain ⟨d,c,pm,po,xm,xo,more,off,nb,ne,rfl,DK,hpm,hpo,d1,d2,nb0,nb1,ne1,km,ko,hS,q⟩:=h
 refine ⟨_,(wss_cons (Wr.mk (ps_set (i:=3) sc_law_rows_changed.nd rfl (by first | exact Or.inl rfl | exact Or.inr rfl) (pe_lst (pa_cons (pe_callTy call_list_of rfl Blist bt_list (pa_cons (pv 1) pa_nil)) (pa_cons (pe_callTy call_list_of rfl Blist bt_list (pa_cons (pv 2) pa_nil)) pa_nil)))))
   (wss_cons (Wr.mk (ps_set (i:=4) sc_law_rows_changed.nd rfl (by first | exact Or.inl rfl | exact Or.inr rfl) (pe_def Gtake (hr.mono (by lia)) (pa_cons (pv 0) (pa_cons pe_int pa_nil)))))
   (wss_cons (w_ifE (Wr.mk (pt_cmpR (op_eqNil (hu60 hr)) (pe_ix ix_list (pv 3) (pv 4) (fun _ _=>rfl)) (pe_lst pa_nil) (nomark _))) (wss_one (Wr.mk (ps_set (i:=4) sc_law_rows_changed.nd rfl (by first | exact Or.inl rfl | exact Or.inr rfl) pe_int))) wss_nil)
   (wss_cons (Wr.mk (ps_set (i:=5) sc_law_rows_changed.nd rfl (by first | exact Or.inl rfl | exact Or.inr rfl) (pe_def Gtake (hr.mono (by lia)) (pa_cons (pv 0) (pa_cons pe_int pa_nil)))))
   (wss_cons (w_ifE (Wr.mk (pt_cmpR (op_eqNil (hu60 hr)) (pe_ix ix_list (pv 3) (pv 4) (fun _ _=>rfl)) (pe_lst pa_nil) (nomark _))) (wss_one (Wr.mk (ps_ret (pe_lst (pa_cons (pe_callTy call_tuple_of rfl B.tuple bt_tuple (pa_cons (pe_ix ix_list (pv 3) pe_int (fun _ _=>rfl)) pa_nil)) (pa_cons (pe_callTy call_tuple_of rfl B.tuple bt_tuple (pa_cons (pe_ix ix_list (pv 3) pe_int (fun _ _=>rfl)) pa_nil)) pa_nil)))))) wss_nil)
   (wss_cons (Wr.mk (ps_set (i:=6) sc_law_rows_changed.nd rfl (by first | exact Or.inl rfl | exact Or.inr rfl) (pe_def Gtake (hr.mono (by lia)) (pa_cons (pv 0) (pa_cons (pe_callB call_len_seq rfl B.len bt_len (pa_cons (pe_ix ix_list (pv 3) (pv 4) (fun _ _=>rfl)) pa_nil)) pa_nil)))))
   (wss_cons (Wr.mk (ps_set (i:=7) sc_law_rows_changed.nd rfl (by first | exact Or.inl rfl | exact Or.inr rfl) (pe_ix ix_list (pe_ix ix_list (pv 3) (pv 4) (fun _ _=>rfl)) (pv 6) (fun _ _=>rfl))))
   (wss_cons (w_ifE (Wr.mk (pt_cmpR op_eq (pv 5) pe_int (nomark _))) (wss_cons (Wr.mk (ps_set (i:=8) sc_law_rows_changed.nd rfl (by first | exact Or.inl rfl | exact Or.inr rfl) (pe_def Gtake (hr.mono (by lia)) (pa_cons (pv 0) (pa_cons (pe_callB call_len_seq rfl B.len bt_len (pa_cons (pe_ix ix_list (pv 3) (pv 4) (fun _ _=>rfl)) pa_nil)) pa_nil)))))
   (wss_cons (Wr.mk (ps_expr (pe_bm PySem.F.plainAttrs_list PySem.F.slot_list_pop PySem.F.type_list_pop mt_popAt (pe_ix ix_list (pv 3) (pv 4) (fun _ _=>rfl)) (pa_cons (pv 6) pa_nil))))
   (wss_one (Wr.mk (ps_expr (pe_bm PySem.F.plainAttrs_list PySem.F.slot_list_insert PySem.F.type_list_insert mt_insert (pe_ix ix_list (pv 3) (pv 4) (fun _ _=>rfl)) (pa_cons (pv 8) (pa_cons (pv 7) pa_nil)))))))) (wss_one (w_ifE (Wr.mk (pt_cmpR op_eq (pv 5) pe_int (nomark _))) (wss_one (Wr.mk (ps_expr (pe_bm PySem.F.plainAttrs_list PySem.F.slot_list_insert PySem.F.type_list_insert mt_insert (pe_ix ix_list (pv 3) (pv 4) (fun _ _=>rfl)) (pa_cons (pv 6) (pa_cons (pv 7) pa_nil)))))) (wss_one (w_ifE (Wr.mk (pt_cmpR op_eq (pv 5) pe_int (nomark _))) (wss_one (Wr.mk (ps_expr (pe_bm PySem.F.plainAttrs_list PySem.F.slot_list_pop PySem.F.type_list_pop mt_popAt (pe_ix ix_list (pv 3) (pv 4) (fun _ _=>rfl)) (pa_cons (pv 6) pa_nil))))) (wss_one (w_ifE (Wr.mk (pt_cmpR op_eq (pv 5) pe_int (nomark _))) (wss_cons (Wr.mk (ps_expr (pe_bm PySem.F.plainAttrs_list PySem.F.slot_list_pop PySem.F.type_list_pop mt_popAt (pe_ix ix_list (pv 3) (pv 4) (fun _ _=>rfl)) (pa_cons (pv 6) pa_nil))))
   (wss_one (Wr.mk (ps_asg (pe_callTy call_list_of rfl Blist bt_list (pa_cons (pe_def Gord (hr.mono (by lia)) (pa_cons (pe_op op_cat (pe_ix ix_list (pv 3) (pe_op op_sub pe_int (pv 4)) (fun _ _=>rfl)) (pe_lst (pa_cons (pv 7) pa_nil))) pa_nil)) pa_nil)) (pg_sub (pv 3) (pe_op op_sub pe_int (pv 4)) set_list))))) (wss_one (w_ifE (Wr.mk (PW.pt (pw_and (pt_cmpR op_eq (pv 5) pe_int (nomark _)) (pw_and1 (pt_val (pe_isin B.isinstance B.int bt_int (pv 7))))))) (wss_one (Wr.mk (ps_asg (pe_ix ix_list (pe_lst (pa_cons (pe_callB (call_min2 rfl) rfl Bmin bt_min (pa_cons (pe_op op_pow pe_int pe_int) (pa_cons (pe_op op_add (pv 7) pe_int) pa_nil))) (pa_cons (pe_op op_sub (pv 7) pe_int) (pa_cons pe_int (pa_cons (pe_op op_sub pe_int (pv 7)) pa_nil))))) (pe_def Gtake (hr.mono (by lia)) (pa_cons (pv 0) (pa_cons pe_int pa_nil))) (fun _ _=>rfl)) (pg_sub (pe_ix ix_list (pv 3) (pv 4) (fun _ _=>rfl)) (pv 6) set_list)))) (wss_one (w_ifE (Wr.mk (pt_cmpR op_eq (pv 5) pe_int (nomark _))) (wss_cons (w_set (i:=9) sc_law_rows_changed.nd rfl (by first | exact Or.inl rfl | exact Or.inr rfl) (w_lst (w_cons (w_tup (w_cons w_str (w_cons (w_tup (w_cons w_int (w_cons w_int w_nil))) (w_cons (w_tup w_nil) w_nil star_tup) star_tup))) (w_cons (w_tup (w_cons w_str (w_cons (w_tup (w_cons w_int (w_cons w_int w_nil))) (w_cons (w_tup w_nil) w_nil star_tup) star_tup))) (w_cons (w_tup (w_cons w_str (w_cons (w_tup (w_cons w_int w_nil)) (w_cons (w_tup (w_cons w_int w_nil)) w_nil star_tup) star_tup))) w_nil star_tup) star_tup) star_tup)))
   (wss_one (Wr.mk (ps_asg (pe_ix ix_list (pv 9) (pe_def Gtake (hr.mono (by lia)) (pa_cons (pv 0) (pa_cons pe_int pa_nil))) (fun _ _=>rfl)) (pg_sub (pe_ix ix_list (pv 3) (pv 4) (fun _ _=>rfl)) (pv 6) set_list))))) (wss_one (Wr.mk (ps_asg (pe_lst pa_nil) (pg_sub (pv 3) (pv 4) set_list)))))))))))))))
   (wss_one (Wr.mk (ps_ret (pe_lst (pa_cons (pe_callTy call_tuple_of rfl B.tuple bt_tuple (pa_cons (pe_ix ix_list (pv 3) pe_int (fun _ _=>rfl)) pa_nil)) (pa_cons (pe_callTy call_tuple_of rfl B.tuple bt_tuple (pa_cons (pe_ix ix_list (pv 3) pe_int (fun _ _=>rfl)) pa_nil)) pa_nil)))))))))))))),?_⟩
 have szl:=sizeLine_eq
 have afm:∀ {l:List D},Ok9 nb ne l→∀ x∈l,AF x:=fun h x hx=>(h x hx).1.af (by lia)
 have cm:=nS_len (afm km)
 have co:=nS_len (afm ko)
 have lm:=d1.len
 have lo:=d2.len
 refine ⟨_,rfl,pm,xm,rfl,.inr (SqT.of hpm),fun l0 hl0=>⟨_,rfl,po,xo,rfl,.inr (SqT.of (Same.new hl0 _ _ hpo)),fun l1 hl1=>⟨(by show 2≤sizeLine; decide),fun pr hpr=>?_⟩⟩⟩
 have t0:=Same.new (o:=.lst xm) hl0
 have t1:=Same.new (o:=.lst xo) hl1
 have t2:=Same.new (o:=.lst [V.ref l0,V.ref l1]) hpr
 have t02:=t0.trans (t1.trans t2)
 have R0:Rw H (upd (upd (upd H l0 (.lst xm)) l1 (.lst xo)) pr (.lst [.ref l0,.ref l1])) d c pr (fun b=>if b then l1 else l0) (fun b=>if b then off else more):=by
  refine ⟨DK.same t02,Keep.same t02,upd_same,fun b=>?_,(t0.trans t1).free hpr,fun b=>?_,?_,fun b=>?_⟩
  ·cases b
   ·exact ⟨xm,t2 _ _ (t1 _ _ upd_same),Dats.kt (KT.same t02) _ d1⟩
   ·exact ⟨xo,t2 _ _ upd_same,Dats.kt (KT.same t02) _ d2⟩
  ·cases b
   ·exact hl0
   ·exact t0.free hl1
  ·exact ne_of_none upd_same hl1
  ·cases b
   ·exact ne_of_none (t1 _ _ upd_same) hpr
   ·exact ne_of_none upd_same hpr
 generalize upd (upd (upd H l0 (.lst xm)) l1 (.lst xo)) pr (.lst [.ref l0,.ref l1])=H1 at R0 ⊢
 clear t0 t1 t2 t02
 obtain ⟨ds,eds,dsm,dso⟩:∃ ds:Bool→List D,(fun b=>if b then off else more)=ds∧ds false=more∧ds true=off:=⟨_,rfl,rfl,rfl⟩
 rw [eds] at R0
 obtain ⟨l,el,e0,e1⟩:∃ l:Bool→Addr,(fun b=>if b then l1 else l0)=l∧l false=l0∧l true=l1:=⟨_,rfl,rfl,rfl⟩
 rw [el] at R0
 have kd:∀ b,Ok9 nb ne (ds b):=fun b=>by
  cases b
  ·rw [dsm]; exact km
  ·rw [dso]; exact ko
 have hSd:nS (ds false) + nS (ds true)≤61:=by rw [dsm,dso]; exact hS
 have q':∀ (r t0 t1:Addr) (ds':Bool→List D) (H':Hp),H' r=some (.lst [.ref t0,.ref t1])→Dat H' (.tup (ds' false)) (.ref t0)→Dat H' (.tup (ds' true)) (.ref t1)→Gd nb ne (nS (ds false) + nS (ds true)) ds'→Keep [d,c] H H'→DeckAt H' d c→Q (.ref r) H':=fun r t0 t1 ds' H' h1 h2 h3 h4 h5 h6 =>
  q r t0 t1 _ _ H' h1 h2 h3 (fun x hx=>by
   rcases List.mem_append.mp hx with hx | hx
   ·exact h4.1 false x hx
   ·exact h4.1 true x hx) (by have:=h4.2; rw [dsm,dso] at this; exact this) h5 h6
 have rowE:[V.ref l0,V.ref l1]=[V.ref (l false),V.ref (l true)]:=by rw [e0,e1]
 clear e0 e1 el eds dsm dso km ko cm co lm lo d1 d2 hpm hpo hl0 hl1 q rowE
 refine ⟨_,rfl,d,c,2,rfl,R0.deck,by decide,by decide,fun r2 H2 r20 r22 k2 D2=>?_⟩
 have R2:=R0.take DK k2 D2
 obtain ⟨b0,hb0⟩:∃ b:Bool,r2=bi b:=by
  rcases (show r2=0∨r2=1 by lia) with h | h
  ·exact ⟨false,h⟩
  ·exact ⟨true,h⟩
 subst hb0
 dsimp only [gName]
 refine seq_key (fun σ' H'=>∃ b:Bool,σ'=[some (.ref d),some (.ref pm),some (.ref po),some (.ref pr),some (.int (bi b)),none,none,none,none,none]∧Rw H H' d c pr l ds) ?_ ?_
 case refine_2 =>
  intro X' hX
  obtain ⟨xs,g1,g2⟩:=R2.at_ b0
  refine ⟨_,rfl,_,rfl,pr,_,_,_,rfl,rfl,SqL.of R2.row,at_row l b0,(by show 0≤sizeLine; decide),fun pe hpe=>?_⟩
  have se:=Same.new (o:=.lst []) hpe
  refine ⟨l b0,pe,xs,rfl,rfl,SqL.of (se _ _ g1),SqL.of upd_same,_,rfl,?_⟩
  refine ite2 (fun _=>hX _ _ ⟨false,rfl,R2.same se⟩) (fun _=>hX _ _ ⟨b0,rfl,R2.same se⟩)
 case refine_1 =>
 clear R0 R2 k2 D2 r20 r22
 rintro σ' H3 ⟨b,rfl,R3⟩
 refine ⟨_,rfl,d,c,7,rfl,R3.deck,by decide,by decide,fun wy H4 w0 w7 k4 D4=>?_⟩
 have R4:=R3.take DK k4 D4
 dsimp only [gName]
 refine seq_key (fun σ' H'=>σ'=[some (.ref d),some (.ref pm),some (.ref po),some (.ref pr),some (.int (bi b)),some (.int wy),none,none,none,none]∧Rw H H' d c pr l ds∧ds b≠[]) ?_ ?_
 case refine_2 =>
  intro X' hX
  obtain ⟨xs,g1,g2⟩:=R4.at_ b
  refine ⟨_,rfl,_,rfl,pr,_,_,_,rfl,rfl,SqL.of R4.row,at_row l b,(by show 0≤sizeLine; decide),fun pe hpe=>?_⟩
  have se:=Same.new (o:=.lst []) hpe
  have R5:=R4.same se
  refine ⟨l b,pe,xs,rfl,rfl,SqL.of (se _ _ g1),SqL.of upd_same,_,rfl,?_⟩
  refine ite2 (fun _=>?_) (fun c=>hX _ _ ⟨rfl,R5,fun z=>c (by have:=g2.len; rw [z] at this; rw [List.eq_nil_of_length_eq_zero this.symm]; rfl)⟩)
  generalize upd H4 pe (.lst [])=H5 at R5 ⊢
  obtain ⟨xs0,a0,b0⟩:=R5.at_ false
  obtain ⟨xs1,a1,b1⟩:=R5.at_ true
  refine ⟨_,rfl,pr,_,_,_,rfl,rfl,SqL.of R5.row,atI_nat (j:=0) rfl,l false,xs0,rfl,.inl ⟨SqL.of a0,fun u0 hu0=>?_⟩⟩
  have s0:=Same.new (o:=.tup xs0) hu0
  refine ⟨_,rfl,pr,_,_,_,rfl,rfl,SqL.of (s0 _ _ R5.row),atI_nat (j:=1) rfl,l true,xs1,rfl,.inl ⟨SqL.of (s0 _ _ a1),fun u1 hu1=>⟨(by show 2≤sizeLine; decide),fun r hr=>?_⟩⟩⟩
  have s1:=Same.new (o:=.tup xs1) hu1
  have s2:=Same.new (o:=.lst [V.ref u0,V.ref u1]) hr
  have R6:=R5.same (s0.trans (s1.trans s2))
  exact q' r u0 u1 ds _ upd_same (.tupI (s2 _ _ (s1 _ _ upd_same)) (Dats.kt (KT.same (s0.trans (s1.trans s2))) _ b0)) (.tupI (s2 _ _ upd_same) (Dats.kt (KT.same (s0.trans (s1.trans s2))) _ b1)) ⟨fun c=>(kd c).mono (by lia) (Nat.le_max_left ..),by lia⟩ R6.keep R6.deck
 case refine_1 =>
 clear R4 R3 k4 D4
 rintro σ' H5 ⟨rfl,R5,hne⟩
 obtain ⟨xs,g1,g2⟩:=R5.at_ b
 have lx:=g2.len
 have lp:0 < (ds b).length:=List.length_pos_iff.mpr hne
 have afd:∀ b,∀ x∈ds b,AF x:=fun b x hx=>((kd b) x hx).1.af (by lia)
 have ln:=nS_len (afd b)
 have ln2:=nS_len (afd (!b))
 have nb1':=nS_le ds b
 have nb2':=nS_le ds (!b)
 refine ⟨_,rfl,_,rfl,_,rfl,pr,_,_,_,rfl,rfl,SqL.of R5.row,at_row l b,l b,xs,rfl,.inl (SqL.of g1),d,c,_,rfl,R5.deck,by lia,by lia,fun ra H6 ra0 ra1 k6 D6=>?_⟩
 have R6:=R5.take DK k6 D6
 obtain ⟨k,rfl⟩:∃ k:Nat,ra=(k:Int):=⟨ra.toNat,by lia⟩
 have hk:k < xs.length:=by lia
 have g1':H6 (l b)=some (.lst xs):=k6 _ _ g1 (DK.nin (R5.nl b))
 have g2':Dats H6 (ds b) xs:=Dats.kt (R5.deck.kt k6) _ g2
 obtain ⟨v,hv⟩:∃ v,xs[k]?=some v:=⟨_,List.getElem?_eq_getElem hk⟩
 obtain ⟨dv,hdv,Dv⟩:=Dats.at g2' hv
 have hmem:=List.mem_of_getElem? hdv
 obtain ⟨afv,depv⟩:=kd b dv hmem
 have nnv:=nS_mem hmem
 have nnp:=nn_pos (afd b dv hmem)
 refine ⟨_,rfl,_,rfl,pr,_,_,_,rfl,rfl,SqL.of R6.row,at_row l b,_,rfl,l b,xs,_,v,rfl,rfl,SqL.of g1',atI_nat hv,?_⟩
 dsimp only [gName]
 clear g1 g2 R5 k6 D6 ra0 ra1 hne
 refine seq_key (fun σ' H'=>σ'[3]?=some (some (.ref pr))∧∃ (l':Bool→Addr) (ds':Bool→List D),Rw H H' d c pr l' ds'∧Gd nb ne (nS (ds false) + nS (ds true)) ds') ?_ ?_
 case refine_1 =>
  rintro σ' H7 ⟨h3,l',ds',R7,hG⟩
  obtain ⟨xs0,a0,b0⟩:=R7.at_ false
  obtain ⟨xs1,a1,b1⟩:=R7.at_ true
  refine ⟨_,h3,pr,_,_,_,rfl,rfl,SqL.of R7.row,atI_nat (j:=0) rfl,l' false,xs0,rfl,.inl ⟨SqL.of a0,fun u0 hu0=>?_⟩⟩
  have s0:=Same.new (o:=.tup xs0) hu0
  refine ⟨_,h3,pr,_,_,_,rfl,rfl,SqL.of (s0 _ _ R7.row),atI_nat (j:=1) rfl,l' true,xs1,rfl,.inl ⟨SqL.of (s0 _ _ a1),fun u1 hu1=>⟨(by show 2≤sizeLine; decide),fun r hr=>?_⟩⟩⟩
  have s1:=Same.new (o:=.tup xs1) hu1
  have s2:=Same.new (o:=.lst [V.ref u0,V.ref u1]) hr
  have R8:=R7.same (s0.trans (s1.trans s2))
  exact q' r u0 u1 ds' _ upd_same (.tupI (s2 _ _ (s1 _ _ upd_same)) (Dats.kt (KT.same (s0.trans (s1.trans s2))) _ b0)) (.tupI (s2 _ _ upd_same) (Dats.kt (KT.same (s0.trans (s1.trans s2))) _ b1)) hG R8.keep R8.deck
 case refine_2 =>
 intro X' hX
 have k63:-(2 ^ 63)≤(k:Int)∧(k:Int) < 2 ^ 63:=⟨by lia,by lia⟩
 have kdB:∀ c,Ok9 (nb + 1000000) (max ne 2) (ds c):=fun c=>(kd c).mono (by lia) (Nat.le_max_left ..)
 have kv:AFb (nb + 1000000) dv∧dv.dep≤max ne 2:=⟨afv.mono (by lia),Nat.le_trans depv (Nat.le_max_left ..)⟩
 have ner:=nS_erase hdv
 have Rp:=R6.put DK (b:=b) (ys:=xs.eraseIdx k) (g2'.erase k)
 have kter:KT H6 (upd H6 (l b) (.lst (xs.eraseIdx k))):=KT.upd g1'
 have ker:Ok9 nb ne ((ds b).eraseIdx k):=(kd b).sub fun x hx=>List.mem_of_mem_eraseIdx hx
 have ler:(xs.eraseIdx k).length + 1=xs.length:=by rw [List.length_eraseIdx]; split <;> lia
 refine ⟨_,rfl,rfl,_,rfl,ite2 (fun _=>?_) (fun _=>?_)⟩
 ·
  refine ⟨_,rfl,_,rfl,_,rfl,pr,_,_,_,rfl,rfl,SqL.of R6.row,at_row l b,l b,xs,rfl,.inl (SqL.of g1'),d,c,_,rfl,R6.deck,by lia,by lia,fun rs H7 rs0 rs1 k7 D7=>?_⟩
  have R7:=R6.take DK k7 D7
  obtain ⟨ks,rfl⟩:∃ k:Nat,rs=(k:Int):=⟨rs.toNat,by lia⟩
  have g7:H7 (l b)=some (.lst xs):=k7 _ _ g1' (DK.nin (R6.nl b))
  have d7:Dats H7 (ds b) xs:=Dats.kt (R6.deck.kt k7) _ g2'
  have v7:=Dat.kt (R6.deck.kt k7) _ Dv
  refine ⟨_,rfl,_,rfl,pr,_,_,_,rfl,rfl,SqL.of R7.row,at_row l b,.inl ⟨rfl,_,SqL.of g7⟩,_,rfl,l b,xs,_,k,v,rfl,rfl,g7,k63.1,k63.2,six hk,hv,?_⟩
  have R8:=R7.put DK (b:=b) (ys:=xs.eraseIdx k) (d7.erase k)
  have k8:KT H7 (upd H7 (l b) (.lst (xs.eraseIdx k))):=KT.upd g7
  refine ⟨_,rfl,_,rfl,pr,_,_,_,rfl,rfl,SqL.of R8.row,at_row l b,.inl ⟨rfl,_,SqL.of upd_same⟩,_,rfl,_,rfl,l b,xs.eraseIdx k,v,ks,rfl,rfl,upd_same,by lia,by lia,?_⟩
  have d8:=Dats.kt k8 _ (d7.erase k)
  have R9:=R7.put DK (b:=b) (ys:=(xs.eraseIdx k).take ks++v :: (xs.eraseIdx k).drop ks) (((d7.erase k).take ks).app (.consI v7 ((d7.erase k).drop ks)))
  rw [upd_upd]
  refine hX _ _ ⟨rfl,l,_,R9,gd_if kd (fun x hx=>?_) ?_⟩
  ·rcases mem_ins hx with rfl | hx
   ·exact kv
   ·exact kdB b x (List.mem_of_mem_eraseIdx hx)
  ·rw [nS_ins]; lia
 refine ⟨_,rfl,rfl,_,rfl,ite2 (fun _=>?_) (fun _=>?_)⟩
 ·
  refine ⟨_,rfl,_,rfl,pr,_,_,_,rfl,rfl,SqL.of R6.row,at_row l b,.inl ⟨rfl,_,SqL.of g1'⟩,_,rfl,_,rfl,l b,xs,v,k,rfl,rfl,g1',by lia,by lia,?_⟩
  refine hX _ _ ⟨rfl,l,_,R6.put DK ((g2'.take k).app (.consI Dv (g2'.drop k))),gd_if kd (fun x hx=>?_) ?_⟩
  ·rcases mem_ins hx with rfl | hx
   ·exact kv
   ·exact kdB b x hx
  ·rw [nS_ins]; lia
 refine ⟨_,rfl,rfl,_,rfl,ite2 (fun _=>?_) (fun _=>?_)⟩
 ·
  refine ⟨_,rfl,_,rfl,pr,_,_,_,rfl,rfl,SqL.of R6.row,at_row l b,.inl ⟨rfl,_,SqL.of g1'⟩,_,rfl,l b,xs,_,k,v,rfl,rfl,g1',k63.1,k63.2,six hk,hv,?_⟩
  exact hX _ _ ⟨rfl,l,_,Rp,gd_if kd (ker.mono (by lia) (Nat.le_max_left ..)) (by lia)⟩
 refine ⟨_,rfl,rfl,_,rfl,ite2 (fun _=>?_) (fun _=>?_)⟩
 ·
  refine ⟨_,rfl,_,rfl,pr,_,_,_,rfl,rfl,SqL.of R6.row,at_row l b,.inl ⟨rfl,_,SqL.of g1'⟩,_,rfl,l b,xs,_,k,v,rfl,rfl,g1',k63.1,k63.2,six hk,hv,?_⟩
  have Dv7:=Dat.kt kter _ Dv
  generalize upd H6 (l b) (.lst (xs.eraseIdx k))=H7 at Rp Dv7 ⊢
  obtain ⟨ys,a1,b1⟩:=Rp.at_ (!b)
  have enb:(if (!b)=b then (ds b).eraseIdx k else ds (!b))=ds (!b):=by cases b <;> rfl
  rw [enb] at b1
  have ly:=b1.len
  refine ⟨_,rfl,_,rfl,_,_,rfl,rfl,pr,_,_,_,rfl,rfl,SqL.of Rp.row,at_rowN l b,_,rfl,(by show 1≤sizeLine; decide),fun pq hpq=>?_⟩
  have sq:=Same.new (o:=.lst [v]) hpq
  refine ⟨l (!b),pq,ys,[v],rfl,rfl,sq _ _ a1,upd_same,by rw [szl]; show ys.length + 1≤_; lia,fun pc hpc=>?_⟩
  have sc:=sq.trans (Same.new (o:=.lst (ys++[v])) hpc)
  have gc:(upd (upd H7 pq (.lst [v])) pc (.lst (ys++[v]))) pc=some (.lst (ys++[v])):=upd_same
  generalize upd (upd H7 pq (.lst [v])) pc (.lst (ys++[v]))=H8 at sc gc ⊢
  have kall:Ok9 nb ne (ds (!b)++[dv]):=fun x hx=>by
   rcases List.mem_append.mp hx with hx | hx
   ·exact kd _ x hx
   ·rw [List.mem_singleton.mp hx]; exact ⟨afv,depv⟩
  refine ⟨pc,_,ds (!b)++[dv],rfl,gc,Dats.app (Dats.kt (KT.same sc) _ b1) (.consI (Dat.kt (KT.same sc) _ Dv7) (.nilI _)),(fun x hx=>⟨(kall x hx).1.af (by lia),by have:=(kall x hx).2; lia⟩),by rw [List.length_append]; show _ + 1≤_; lia,fun t H9 s9 dt=>?_⟩
  obtain ⟨t',ts,et,ht,dts⟩:=dt.tupE
  cases et
  refine ⟨t,ts,rfl,.inr (SqT.of ht),fun ln' hln=>?_⟩
  have sn:=Same.new (o:=.lst ts) hln
  have s7:=sc.trans (s9.trans sn)
  have R9:=Rp.same s7
  refine ⟨_,rfl,_,rfl,_,_,rfl,rfl,pr,_,_,(if (!b) then 1 else 0),rfl,rfl,R9.row,by cases b <;> rfl,?_⟩
  have npl:H ln'=none:=by
   cases e:H ln' with
   | none=>rfl
   | some o =>
    by_cases m:ln'∈[d,c]
    ·have:∀ x∈[d,c],∃ o,(upd H9 ln' (.lst ts)) x=some o∧H9 x≠none:=fun x hx=>by
      obtain ⟨cl,aa,sd,e1,e2,e3⟩:=(Rp.same (sc.trans s9)).deck
      simp only [List.mem_cons,List.not_mem_nil,or_false] at hx
      rcases hx with rfl | rfl
      ·exact ⟨_,Same.new hln _ _ e1,by rw [e1]; simp⟩
      ·exact ⟨_,Same.new hln _ _ e2,by rw [e2]; simp⟩
     exact absurd hln (this _ m).choose_spec.2
    ·rw [(Rp.same (sc.trans s9)).keep _ _ e m] at hln; cases hln
  have nlx:∀ {a:Addr} {o:HO},H9 a=some o→ln'≠a:=fun h=>Ne.symm (ne_of_none h hln)
  have Rz:=Rp.same (sc.trans s9)
  have Rs:=R9.swap DK (b:=!b) (p:=ln') (ys:=ts) (es:=srtD (ds (!b)++[dv])) npl (nlx Rz.row) (fun b'=>by
   obtain ⟨zs,z1,_⟩:=Rz.at_ b'
   exact nlx z1) upd_same (Dats.kt (KT.same sn) _ dts)
  refine hX _ _ ⟨rfl,_,_,Rs,fun c=>?_,?_⟩
  ·have psr:∀ x∈srtD (ds (!b)++[dv]),AFb (nb + 1000000) x∧x.dep≤max ne 2:=fun x hx=>(kall.mono (by lia) (Nat.le_max_left ..)) x ((srtD_perm _).mem_iff.mp hx)
   by_cases e:c=!b
   ·simp only [e,if_true]; exact psr
   ·simp only [e,if_false]
    by_cases e2:c=b
    ·simp only [e2,if_true]; exact ker.mono (by lia) (Nat.le_max_left ..)
    ·simp only [e2,if_false]; exact kdB c
  ·have ps:=nS_perm (srtD_perm (ds (!b)++[dv]))
   rw [nS_app,nS_cons,nS_nil] at ps
   cases b
   ·show nS ((ds false).eraseIdx k) + nS (srtD (ds true++[dv]))≤_
    have ps':nS (srtD (ds true++[dv]))=nS (ds true) + (nn dv + 0):=ps
    lia
   ·show nS (srtD (ds false++[dv])) + nS ((ds true).eraseIdx k)≤_
    have ps':nS (srtD (ds false++[dv]))=nS (ds false) + (nn dv + 0):=ps
    lia
 refine (show ∀ R:Bool→Hp→Prop,((∃ i:Int,v=.int i∧dv=.int i)→R true H6)→R false H6→tAnd _ _ _ H6 R from fun R r1 r0=>?_) _ ?_ ?_
 ·refine ⟨_,rfl,rfl,_,rfl,ite2 (fun _=>?_) (fun _=>r0)⟩
  cases afv with
  | @num i h0 h1 =>
   have:=Dv.intE
   subst this
   exact ⟨_,rfl,_,_,TyOf.int _,kit_int_int _,_,rfl,r1 ⟨i,rfl,rfl⟩⟩
  | @grp kk mm oo hkk _ _ =>
   obtain ⟨p,pm',po',xm',xo',rfl,hp,_⟩:=dat_grpA Dv
   exact ⟨_,rfl,_,_,TyOf.tup hp,kit_tup_int _,_,rfl,r0⟩
 ·rintro ⟨i,rfl,rfl⟩
  refine iteT ?_
  have e6:(10:Int) ^ (6:Int).toNat=1000000:=by decide
  cases afv with
  | num h0 h1 =>
  refine ⟨_,_,rfl,rfl,⟨by decide,by decide,by decide⟩,_,rfl,_,_,rfl,rfl,_,_,rfl,_,rfl,_,_,rfl,rfl,_,rfl,_,_,rfl,rfl,(by show 4≤sizeLine; decide),fun pz hpz=>?_⟩
  have sz:=Same.new (o:=.lst [.int (if i + 1 < (10:Int) ^ (6:Int).toNat then i + 1 else (10:Int) ^ (6:Int).toNat),.int (i - 1),.int 0,.int (0 - i)]) hpz
  have Rz:=R6.same sz
  refine ⟨_,rfl,d,c,4,rfl,Rz.deck,by decide,by decide,fun r4 H7 r40 r44 k7 D7=>?_⟩
  have R7:=Rz.take DK k7 D7
  obtain ⟨v',hv',hm'⟩:=atI_mem (xs:=([.int (if i + 1 < (10:Int) ^ (6:Int).toNat then i + 1 else (10:Int) ^ (6:Int).toNat),.int (i - 1),.int 0,.int (0 - i)]:List V)) r40 (by exact r44)
  refine ⟨pz,_,_,_,rfl,rfl,SqL.of (k7 _ _ upd_same (R6.deck.nin hpz)),hv',?_⟩
  obtain ⟨i',rfl,i0,i1⟩:∃ i':Int,v'=.int i'∧-(nb + 1000000)≤i'∧i'≤1000000:=by
   rw [e6] at hm'
   simp only [List.mem_cons,List.not_mem_nil,or_false] at hm'
   rcases hm' with rfl | rfl | rfl | rfl
   ·exact ⟨_,rfl,by split <;> lia,by split <;> lia⟩
   ·exact ⟨_,rfl,by lia,by lia⟩
   ·exact ⟨_,rfl,by lia,by lia⟩
   ·exact ⟨_,rfl,by lia,by lia⟩
  have g7:H7 (l b)=some (.lst xs):=k7 _ _ (sz _ _ g1') (DK.nin (R6.nl b))
  have d7:Dats H7 (ds b) xs:=Dats.kt (Rz.deck.kt k7) _ (Dats.kt (KT.same sz) _ g2')
  refine ⟨_,rfl,_,rfl,pr,_,_,_,rfl,rfl,SqL.of R7.row,at_row l b,_,rfl,l b,xs,_,k,rfl,rfl,g7,ixk hk,?_⟩
  have hs:=nS_set (.int i') hdv
  rw [nn_int,nn_int] at hs
  refine hX _ _ ⟨rfl,l,_,R7.put DK (d7.put k (e:=.int i') (by unfold Dat; rfl)),gd_if kd (fun x hx=>?_) (by lia)⟩
  rcases List.mem_or_eq_of_mem_set hx with hx | rfl
  ·exact kdB b x hx
  ·exact ⟨.num i0 i1,by rw [dep_int]; exact Nat.zero_le _⟩
 refine iteF ?_
 refine ⟨_,rfl,rfl,_,rfl,ite2 (fun _=>?_) (fun _=>?_)⟩
 ·
  have st:∀ {G:Hp} (x:Str),Dat G (.str x) (.str x):=fun x=>by unfold Dat; rfl
  have it:∀ {G:Hp} (x:Int),Dat G (.int x) (.int x):=fun x=>by unfold Dat; rfl
  refine ⟨(by show 2≤sizeLine; decide),fun p1 hp1=>⟨(by show 0≤sizeLine; decide),fun p2 hp2=>⟨(by show 3≤sizeLine; decide),fun p3 hp3=>?_⟩⟩⟩
  have u1:=Same.new (o:=.tup [V.int 1,V.int 2]) hp1
  have u2:=Same.new (o:=.tup []) hp2
  have u3:=Same.new (o:=.tup [V.str "sum",V.ref p1,V.ref p2]) hp3
  have sG:=u1.trans (u2.trans u3)
  have dG:Dat (upd (upd (upd H6 p1 (.tup [V.int 1,V.int 2])) p2 (.tup [])) p3 (.tup [V.str "sum",V.ref p1,V.ref p2])) sA (.ref p3):=.tupI upd_same (.consI (st _) (.consI (.tupI (u3 _ _ (u2 _ _ upd_same)) (.consI (it _) (.consI (it _) (.nilI _)))) (.consI (.tupI (u3 _ _ upd_same) (.nilI _)) (.nilI _))))
  generalize upd (upd (upd H6 p1 (.tup [V.int 1,V.int 2])) p2 (.tup [])) p3 (.tup [V.str "sum",V.ref p1,V.ref p2])=G1 at sG dG ⊢
  clear u1 u2 u3
  refine ⟨(by show 2≤sizeLine; decide),fun p4 hp4=>⟨(by show 0≤sizeLine; decide),fun p5 hp5=>⟨(by show 3≤sizeLine; decide),fun p6 hp6=>?_⟩⟩⟩
  have u1:=Same.new (o:=.tup [V.int 2,V.int 3]) hp4
  have u2:=Same.new (o:=.tup []) hp5
  have u3:=Same.new (o:=.tup [V.str "product",V.ref p4,V.ref p5]) hp6
  have sG2:=u1.trans (u2.trans u3)
  have dG2:Dat (upd (upd (upd G1 p4 (.tup [V.int 2,V.int 3])) p5 (.tup [])) p6 (.tup [V.str "product",V.ref p4,V.ref p5])) sB (.ref p6):=.tupI upd_same (.consI (st _) (.consI (.tupI (u3 _ _ (u2 _ _ upd_same)) (.consI (it _) (.consI (it _) (.nilI _)))) (.consI (.tupI (u3 _ _ upd_same) (.nilI _)) (.nilI _))))
  generalize upd (upd (upd G1 p4 (.tup [V.int 2,V.int 3])) p5 (.tup [])) p6 (.tup [V.str "product",V.ref p4,V.ref p5])=G2 at sG2 dG2 ⊢
  clear u1 u2 u3
  refine ⟨(by show 1≤sizeLine; decide),fun p7 hp7=>⟨(by show 1≤sizeLine; decide),fun p8 hp8=>⟨(by show 3≤sizeLine; decide),fun p9 hp9=>?_⟩⟩⟩
  have u1:=Same.new (o:=.tup [V.int 5]) hp7
  have u2:=Same.new (o:=.tup [V.int 2]) hp8
  have u3:=Same.new (o:=.tup [V.str "sum",V.ref p7,V.ref p8]) hp9
  have sG3:=u1.trans (u2.trans u3)
  have dG3:Dat (upd (upd (upd G2 p7 (.tup [V.int 5])) p8 (.tup [V.int 2])) p9 (.tup [V.str "sum",V.ref p7,V.ref p8])) sC (.ref p9):=.tupI upd_same (.consI (st _) (.consI (.tupI (u3 _ _ (u2 _ _ upd_same)) (.consI (it _) (.nilI _))) (.consI (.tupI (u3 _ _ upd_same) (.consI (it _) (.nilI _))) (.nilI _))))
  generalize upd (upd (upd G2 p7 (.tup [V.int 5])) p8 (.tup [V.int 2])) p9 (.tup [V.str "sum",V.ref p7,V.ref p8])=G3 at sG3 dG3 ⊢
  clear u1 u2 u3
  refine ⟨(by show 3≤sizeLine; decide),fun ps hps=>?_⟩
  have sp:=Same.new (o:=.lst [V.ref p3,V.ref p6,V.ref p9]) hps
  have s6:=sG.trans (sG2.trans sG3)
  have Rg:=R6.same s6
  have Rz:=Rg.same sp
  dsimp only [gName]
  refine ⟨_,rfl,_,rfl,d,c,3,rfl,Rz.deck,by decide,by decide,fun r4 H7 r40 r44 k7 D7=>?_⟩
  have R7:=Rz.take DK k7 D7
  obtain ⟨v',hv',hm'⟩:=atI_mem (xs:=([.ref p3,.ref p6,.ref p9]:List V)) r40 (by exact r44)
  refine ⟨ps,_,_,_,rfl,rfl,SqL.of (k7 _ _ upd_same (Rg.deck.nin hps)),hv',?_⟩
  have t7:=KT.trans (KT.same sp) (Rz.deck.kt k7)
  obtain ⟨x',hx',Dx'⟩:∃ x':D,(x'=sA∨x'=sB∨x'=sC)∧Dat H7 x' v':=by
   simp only [List.mem_cons,List.not_mem_nil,or_false] at hm'
   rcases hm' with rfl | rfl | rfl
   ·exact ⟨sA,.inl rfl,Dat.kt t7 _ (Dat.kt (KT.same (sG2.trans sG3)) _ dG)⟩
   ·exact ⟨sB,.inr (.inl rfl),Dat.kt t7 _ (Dat.kt (KT.same sG3) _ dG2)⟩
   ·exact ⟨sC,.inr (.inr rfl),Dat.kt t7 _ dG3⟩
  obtain ⟨x1,x2,x3⟩:=some3 (b:=nb + 1000000) (by lia) hx'
  have g7:H7 (l b)=some (.lst xs):=k7 _ _ (sp _ _ (s6 _ _ g1')) (DK.nin (R6.nl b))
  have d7:Dats H7 (ds b) xs:=Dats.kt t7 _ (Dats.kt (KT.same s6) _ g2')
  refine ⟨_,rfl,_,rfl,pr,_,_,_,rfl,rfl,SqL.of R7.row,at_row l b,_,rfl,l b,xs,_,k,rfl,rfl,g7,ixk hk,?_⟩
  have hs:=nS_set x' hdv
  refine hX _ _ ⟨rfl,l,_,R7.put DK (d7.put k Dx'),gd_if kd (fun x hx=>?_) (by lia)⟩
  rcases List.mem_or_eq_of_mem_set hx with hx | rfl
  ·exact kdB b x hx
  ·exact ⟨x1,Nat.le_trans x2 (Nat.le_max_right ..)⟩
 ·
  refine ⟨(by show 0≤sizeLine; decide),fun pn hpn=>?_⟩
  have sn:=Same.new (o:=.lst []) hpn
  have R7:=R6.same sn
  refine ⟨_,rfl,_,rfl,pr,_,_,(if b then 1 else 0),rfl,rfl,R7.row,by cases b <;> rfl,?_⟩
  have nlx:∀ {a:Addr} {o:HO},H6 a=some o→pn≠a:=fun h=>Ne.symm (ne_of_none h hpn)
  have npl:H pn=none:=by
   cases e:H pn with
   | none=>rfl
   | some o =>
    by_cases m:pn∈[d,c]
    ·obtain ⟨cl,aa,sd,e1,e2,e3⟩:=R6.deck
     simp only [List.mem_cons,List.not_mem_nil,or_false] at m
     rcases m with rfl | rfl
     ·rw [e1] at hpn; cases hpn
     ·rw [e2] at hpn; cases hpn
    ·rw [R6.keep _ _ e m] at hpn; cases hpn
  have Rs:=R7.swap DK (b:=b) (p:=pn) (ys:=[]) (es:=[]) npl (nlx R6.row) (fun b'=>by
   obtain ⟨zs,z1,_⟩:=R6.at_ b'
   exact nlx z1) upd_same (.nilI _)
  exact hX _ _ ⟨rfl,_,_,Rs,gd_if kd (fun x hx=>by cases hx) (by rw [nS_nil]; lia)⟩
end
end Law
namespace Law
open PySem L2
section
variable {P:Program} {w:World} {K:PySem.W.Frag} {mg:Str→Option Value} {base:Heap}
theorem cut_lo (xs:List V) {a:Nat} (h:a≤xs.length):cutV xs none (some (a:Int))=xs.take a:=by
 unfold cutV
 show (xs.drop 0).take (min a xs.length - 0)=xs.take a
 rw [List.drop_zero,Nat.sub_zero,Nat.min_eq_left h]
theorem cut_hi (xs:List V) {a:Nat} (h:a≤xs.length):cutV xs (some (a:Int)) none=xs.drop a:=by
 unfold cutV
 show (xs.drop (min a xs.length)).take (xs.length - min a xs.length)=xs.drop a
 rw [Nat.min_eq_left h,← List.length_drop,List.take_length]
theorem slW {K:PySem.W.Frag} {H:Hp} {a:Addr} {xs:List V} {lo hi:Option Int} {Q:VK} (ha:H a=some (.tup xs)) (q:∀ p H',Same H H'→H' p=some (.tup (cutV xs lo hi))→Q (.ref p) H'):∃ a' xs',V.ref a=.ref a'∧SqT K H a' xs' ∧
  ((HT.sIx xs'.length 0 lo=0∧HT.sIx xs'.length xs'.length hi=xs'.length)→Q (.ref a') H)∧(¬ (HT.sIx xs'.length 0 lo=0∧HT.sIx xs'.length xs'.length hi=xs'.length)→∀ p,H p=none→Q (.ref p) (upd H p (.tup (cutV xs' lo hi)))) :=
 ⟨a,xs,rfl,SqT.of ha,fun h=>q a H (Same.refl _) (by
  have e:cutV xs lo hi=xs:=by
   unfold cutV
   rw [h.1,h.2,List.drop_zero,Nat.sub_zero,List.take_length]
  rw [e]; exact ha),fun _ p hp=>q p _ (Same.new hp) upd_same⟩
theorem sl_tupS {X:Cx}:SlR X (fun x lo hi H Q=>∃ a xs,x=.ref a∧H a=some (.tup xs)∧∀ p H',Same H H'→H' p=some (.tup (cutV xs lo hi))→Q (.ref p) H'):=by
 intro pins s σ H x v vl vu lo hi sl Q I rx hs pl pu h
 obtain ⟨a,xs,rfl,ha,q⟩:=h
 exact sl_tupW pins s σ H _ v vl vu lo hi sl Q I rx hs pl pu (slW ha q)
noncomputable def spSp (n:Nat):Sp:=fun vs H Q _=>∃ (d c:Addr) (v:V) (df:D) (b:Int),vs=[.ref d,v]∧DeckAt H d c∧Dat H df v∧AFb b df∧0≤b∧b≤1000000∧df.dep < n∧df.dep≤18∧nn df≤62 ∧
 ∀ (v':V) (d':D) (H':Hp),Dat H' d' v'→AFb (b + 1000000) d'→d'.dep≤df.dep + 2→nn d'≤2 * nn df + 1→Keep [d,c] H H'→DeckAt H' d c→Q v' H'
noncomputable abbrev s_law_spoilt:Stmt:=top 48
theorem sc_law_spoilt:FnScope ["deck","form","word","more","off","parts","inner","at","rows"] ["deck","form"] (defScope s_law_spoilt):=⟨rfl,rfl,rfl,by decide +kernel,rfl,by decide +kernel,by decide +kernel⟩
theorem ok_sp_step {n:Nat} {f:Addr} {fd:FuncData} (F:Fun K "_law_spoilt" "_law_spoilt" s_law_spoilt f fd) (B:Blt mg) (Gtake:Def P w K mg base CX0 1 "_law_take" spTake) (Gchg:Def P w K mg base CX0 23 "_law_rows_changed" spChg) (Gspoilt:Def P w K mg base CX0 (n + 24) "_law_spoilt" (spSp n)):FnOk P w K mg base CX0 (n + 25) f fd ["deck","form"] (spSp (n + 1)):=by
 refine F.okW (k:=n + 24) sc_law_spoilt (fun vs H Q E h=>?_) (fun cdv A outer s H vs Q E hr h=>?_)
 ·obtain ⟨d,c,v,df,b,rfl,_⟩:=h
  rfl
 obtain ⟨d,c,v,df,b,rfl,DK,hd,hA,b0,b1,hn,h18,hnn,q⟩:=h
 refine ⟨_,(wss_cons (w_ifE (Wr.mk (pt_val (pe_isin B.isinstance B.int bt_int (pv 1)))) (wss_one (Wr.mk (ps_ret (pe_ix ix_list (Wr.un (w_lst (w_cons (Wr.mk (pv 1)) (w_cons w_int (w_cons (w_op op_sub w_int (Wr.mk (pv 1))) (w_cons (w_tup (w_cons w_str (w_cons (w_tup (w_cons (Wr.mk (pv 1)) w_nil)) (w_cons (w_tup w_nil) w_nil star_tup) star_tup))) (w_cons (w_tup (w_cons w_str (w_cons (w_tup (w_cons (Wr.mk (pv 1)) (w_cons w_int w_nil))) (w_cons (w_tup w_nil) w_nil star_tup) star_tup))) w_nil star_tup) star_tup)))))) (pe_def Gtake (hr.mono (by lia)) (pa_cons (pv 0) (pa_cons pe_int pa_nil))) (fun _ _=>rfl))))) wss_nil)
   (wss_cons (Wr.mk (ps_asg (pv 1) (pg_tup rfl (pgs_cons (pg_name (i:=2) sc_law_spoilt.nd rfl (by first | exact Or.inl rfl | exact Or.inr rfl)) (pgs_cons (pg_name (i:=3) sc_law_spoilt.nd rfl (by first | exact Or.inl rfl | exact Or.inr rfl)) (pgs_cons (pg_name (i:=4) sc_law_spoilt.nd rfl (by first | exact Or.inl rfl | exact Or.inr rfl)) pgs_nil))))))
   (wss_cons (Wr.mk (ps_set (i:=5) sc_law_spoilt.nd rfl (by first | exact Or.inl rfl | exact Or.inr rfl) (pe_op op_catG (pv 3) (pv 4))))
   (wss_cons (Wr.mk (ps_setC (i:=6) sc_law_spoilt.nd rfl (by first | exact Or.inl rfl | exact Or.inr rfl) (N:=["k","parts"]) rfl (csC_of [none,some 5] rfl (by decide +kernel) (by decide +kernel) rfl rfl) rfl (pi_range1 rfl B.range (pa_cons (pe_callB call_len_seq rfl B.len bt_len (pa_cons (pv 5) pa_nil)) pa_nil)) (fun _ _ _ _=>(pg_name (i:=0) (show (["k","parts"]:List Str).Nodup by decide +kernel) rfl (by first | exact Or.inl rfl | exact Or.inr rfl))) (fun _ _ _ _=>(ptl_one (pt_not (pt_val (pe_isin B.isinstance B.int bt_int (pe_ix ix_tup (pv 1) (pv 0) (fun _ _=>rfl))))))) (fun _ _ _ _=>(pv 0))))
   (wss_cons (w_ifE (Wr.mk (PW.pt (pw_and (pt_cmpR (op_neNil (hu60 hr)) (pv 6) (pe_lst pa_nil) (nomark _)) (pw_and1 (pt_cmpR op_eq (pe_def Gtake (hr.mono (by lia)) (pa_cons (pv 0) (pa_cons pe_int pa_nil))) pe_int (nomark _)))))) (wss_cons (Wr.mk (ps_set (i:=7) sc_law_spoilt.nd rfl (by first | exact Or.inl rfl | exact Or.inr rfl) (pe_ix ix_list (pv 6) (pe_def Gtake (hr.mono (by lia)) (pa_cons (pv 0) (pa_cons (pe_callB call_len_seq rfl B.len bt_len (pa_cons (pv 6) pa_nil)) pa_nil))) (fun _ _=>rfl))))
   (wss_cons (Wr.mk (ps_set (i:=5) sc_law_spoilt.nd rfl (by first | exact Or.inl rfl | exact Or.inr rfl) (pe_op op_catG (pe_op op_catG (pe_slice sl_tup (pv 5) po_none (po_some (pv 7))) (pe_tup (pa_cons (pe_def Gspoilt (hr.mono (by lia)) (pa_cons (pv 0) (pa_cons (pe_ix ix_tup (pv 5) (pv 7) (fun _ _=>rfl)) pa_nil))) pa_nil))) (pe_slice sl_tup (pv 5) (po_some (pe_op op_add (pv 7) pe_int)) po_none))))
   (wss_one (Wr.mk (ps_ret (pe_tup (pa_cons (pv 2) (pa_cons (pe_slice sl_tupS (pv 5) po_none (po_some (pe_callB call_len_seq rfl B.len bt_len (pa_cons (pv 3) pa_nil)))) (pa_cons (pe_slice sl_tupS (pv 5) (po_some (pe_callB call_len_seq rfl B.len bt_len (pa_cons (pv 3) pa_nil))) po_none) pa_nil))))))))) wss_nil)
   (wss_cons (w_ifE (Wr.mk (pt_cmpR op_eq (pe_def Gtake (hr.mono (by lia)) (pa_cons (pv 0) (pa_cons pe_int pa_nil))) pe_int (nomark _))) (wss_one (Wr.mk (ps_ret (pe_tup (pa_cons (pe_ix ix_list (pe_lst (pa_cons pe_str (pa_cons pe_str pa_nil))) (pe_callTy call_int1 rfl B.int bt_int (pa_cons (pe_cmpR op_eq (pv 2) pe_str (nomark _)) pa_nil)) (fun _ _=>rfl)) (pa_cons (pv 3) (pa_cons (pv 4) pa_nil))))))) wss_nil)
   (wss_cons (Wr.mk (ps_set (i:=8) sc_law_spoilt.nd rfl (by first | exact Or.inl rfl | exact Or.inr rfl) (pe_def Gchg (hr.mono (by lia)) (pa_cons (pv 0) (pa_cons (pv 3) (pa_cons (pv 4) pa_nil))))))
   (wss_one (Wr.mk (ps_ret (pe_tup (pa_cons (pv 2) (pa_cons (pe_ix ix_list (pv 8) pe_int (fun _ _=>rfl)) (pa_cons (pe_ix ix_list (pv 8) pe_int (fun _ _=>rfl)) pa_nil)))))))))))))),?_⟩
 have szl:=sizeLine_eq
 cases hA with
 | @num i g0 g1 =>
  have:=hd.intE
  subst this
  refine ⟨_,rfl,_,_,TyOf.int _,kit_int_int _,_,rfl,iteT ?_⟩
  refine ⟨_,rfl,_,rfl,_,_,rfl,rfl,_,rfl,(by show 1≤sizeLine; decide),fun p1 hp1=>⟨(by show 0≤sizeLine; decide),fun p2 hp2=>⟨(by show 3≤sizeLine; decide),fun p3 hp3=>?_⟩⟩⟩
  have u1:=Same.new (o:=.tup [V.int i]) hp1
  have u2:=Same.new (o:=.tup []) hp2
  have u3:=Same.new (o:=.tup [V.str "sum",V.ref p1,V.ref p2]) hp3
  have sG:=u1.trans (u2.trans u3)
  have dG:Dat (upd (upd (upd H p1 (.tup [V.int i])) p2 (.tup [])) p3 (.tup [V.str "sum",V.ref p1,V.ref p2])) (.tup [.str "sum",.tup [.int i],.tup []]) (.ref p3):=.tupI upd_same (.consI (.strI _) (.consI (.tupI (u3 _ _ (u2 _ _ upd_same)) (.consI (.intI _) (.nilI _))) (.consI (.tupI (u3 _ _ upd_same) (.nilI _)) (.nilI _))))
  generalize upd (upd (upd H p1 (.tup [V.int i])) p2 (.tup [])) p3 (.tup [V.str "sum",V.ref p1,V.ref p2])=G1 at sG dG ⊢
  clear u1 u2 u3
  refine ⟨_,rfl,(by show 2≤sizeLine; decide),fun p4 hp4=>⟨(by show 0≤sizeLine; decide),fun p5 hp5=>⟨(by show 3≤sizeLine; decide),fun p6 hp6=>⟨(by show 5≤sizeLine; decide),fun pl hpl=>?_⟩⟩⟩⟩
  have u1:=Same.new (o:=.tup [V.int i,V.int 2]) hp4
  have u2:=Same.new (o:=.tup []) hp5
  have u3:=Same.new (o:=.tup [V.str "product",V.ref p4,V.ref p5]) hp6
  have sG2:=u1.trans (u2.trans u3)
  have dG2:Dat (upd (upd (upd G1 p4 (.tup [V.int i,V.int 2])) p5 (.tup [])) p6 (.tup [V.str "product",V.ref p4,V.ref p5])) (.tup [.str "product",.tup [.int i,.int 2],.tup []]) (.ref p6):=.tupI upd_same (.consI (.strI _) (.consI (.tupI (u3 _ _ (u2 _ _ upd_same)) (.consI (.intI _) (.consI (.intI _) (.nilI _)))) (.consI (.tupI (u3 _ _ upd_same) (.nilI _)) (.nilI _))))
  generalize upd (upd (upd G1 p4 (.tup [V.int i,V.int 2])) p5 (.tup [])) p6 (.tup [V.str "product",V.ref p4,V.ref p5])=G2 at sG2 dG2 hpl ⊢
  clear u1 u2 u3
  have s2:=sG.trans sG2
  have D2:=DK.same s2
  have sl:=Same.new (o:=.lst [V.int i,V.int 0,V.int (0 - i),V.ref p3,V.ref p6]) hpl
  refine ⟨_,rfl,d,c,5,rfl,D2.same sl,by decide,by decide,fun r5 H7 r50 r55 k7 D7=>?_⟩
  obtain ⟨v',hv',hm'⟩:=atI_mem (xs:=([.int i,.int 0,.int (0 - i),.ref p3,.ref p6]:List V)) r50 (by exact r55)
  refine ⟨pl,_,_,_,rfl,rfl,SqL.of (k7 _ _ upd_same (D2.nin hpl)),hv',?_⟩
  have kk:Keep [d,c] H H7:=(Keep.same (s2.trans sl)).trans k7
  have t7:=KT.trans (KT.same sl) ((D2.same sl).kt k7)
  have nI:=nn_int i
  have n0:∀ y∈([]:List D),AFb (b + 1000000) y:=fun y hy=>by cases hy
  simp only [List.mem_cons,List.not_mem_nil,or_false] at hm'
  rcases hm' with rfl | rfl | rfl | rfl | rfl
  ·exact q _ (.int i) H7 (.intI _) (.num (by lia) g1) (Nat.le_add_right _ _) (by lia) kk D7
  ·exact q _ (.int 0) H7 (.intI _) (.num (by lia) (by decide)) (by rw [dep_int]; exact Nat.zero_le _) (by rw [nn_int]; lia) kk D7
  ·exact q _ (.int (0 - i)) H7 (.intI _) (.num (by lia) (by lia)) (by rw [dep_int]; exact Nat.zero_le _) (by rw [nn_int]; lia) kk D7
  ·refine q _ _ H7 (Dat.kt t7 _ (Dat.kt (KT.same sG2) _ dG)) (.grp (.inl rfl) (fun y hy=>by rw [List.mem_singleton.mp hy]; exact .num (by lia) g1) n0) ?_ ?_ kk D7
   ·simp [dep_grpA,deps,dep_int]
   ·simp [nn_grp,nS_cons,nS_nil,nn_int]
  ·refine q _ _ H7 (Dat.kt t7 _ dG2) (.grp (.inr rfl) (fun y hy=>?_) n0) ?_ ?_ kk D7
   ·simp only [List.mem_cons,List.not_mem_nil,or_false] at hy
    rcases hy with rfl | rfl
    ·exact .num (by lia) g1
    ·exact .num (by lia) (by decide)
   ·simp [dep_grpA,deps,dep_int]
   ·simp [nn_grp,nS_cons,nS_nil,nn_int]
 | @grp k more off hk g1 g2 =>
  have hAg:AFb b (.tup [.str k,.tup more,.tup off]):=.grp hk g1 g2
  have hAf:=hAg.af (by lia)
  have dg:=dep_grpA k more off
  have ng:=nn_grp k more off
  have la:=nS_len hAf.parts
  rw [nS_app,List.length_append] at la
  obtain ⟨p,pm,po,xm,xo,rfl,hp,hpm,hpo,d1,d2⟩:=dat_grpA hd
  have l1:=d1.len
  have l2:=d2.len
  refine ⟨_,rfl,_,_,TyOf.tup hp,kit_tup_int _,_,rfl,iteF ?_⟩
  refine ⟨_,rfl,p,_,rfl,SqT.of hp,rfl,_,_,rfl,_,_,rfl,_,_,rfl,rfl,?_⟩
  refine ⟨_,rfl,_,rfl,pm,po,_,_,rfl,rfl,hpm,hpo,by lia,fun pc H1 s1 hpc=>?_⟩
  have dall:Dats H1 (more++off) (xm++xo):=Dats.app (Dats.kt (KT.same s1) _ d1) (Dats.kt (KT.same s1) _ d2)
  have hpar:∀ x∈more++off,AFb b x:=fun x hx=>by
   rcases List.mem_append.mp hx with h | h
   ·exact g1 x h
   ·exact g2 x h
  have lP:(xm++xo).length=more.length + off.length:=by rw [List.length_append]; lia
  refine ⟨_,rfl,pc,_,rfl,.inr (SqT.of hpc),_,rfl,by lia,by lia,fun Dl hD Cx sx fp=>?_⟩
  refine comp_range (n:=(xm++xo).length) (fun j zs σ H'=>∃ (o:Option V) (ks:List Nat),σ=[o,some (.ref pc)]∧Same H1 H'∧zs=ks.map (fun k:Nat=>V.int ((k:Nat):Int))∧ks.length≤j∧∀ k∈ks,k < (xm++xo).length) ⟨none,[],rfl,Same.new hD,rfl,Nat.le_refl _,fun k hk=>by cases hk⟩ ?_ ?_
  ·rintro j zs σ H2 hj hzl ⟨o,ks,rfl,s2,rfl,lk,hks⟩ g2'
   obtain ⟨x,hx⟩:∃ x,(xm++xo)[j]?=some x:=⟨_,List.getElem?_eq_getElem hj⟩
   obtain ⟨dx,hdx,Dx⟩:=Dats.at (Dats.kt (KT.same s2) _ dall) hx
   refine ⟨_,rfl,_,rfl,pc,_,_,_,rfl,rfl,SqT.of (s2 _ _ hpc),(by rw [Int.zero_add]; exact atI_nat hx),?_⟩
   cases hpar dx (List.mem_of_getElem? hdx) with
   | @num i' _ _ =>
    have:=Dx.intE
    subst this
    exact ⟨_,_,TyOf.int _,kit_int_int _,_,rfl,iteF ⟨_,by rw [List.length_map]; lia,⟨_,ks,rfl,s2,rfl,by lia,hks⟩,g2'⟩⟩
   | @grp k' m' o' hk' _ _ =>
    obtain ⟨p',pm',po',xm',xo',rfl,hp',_⟩:=dat_grpA Dx
    refine ⟨_,_,TyOf.tup hp',kit_tup_int _,_,rfl,iteT ?_⟩
    refine ⟨_,rfl,_,g2',by rw [List.length_map,szl]; lia,_,by rw [List.length_append,List.length_map]; show _ + 1≤j + 1; lia,⟨_,ks++[j],rfl,fun b ob e=>by rw [upd_ne (ne_of_none e hD)]; exact s2 _ _ e,by rw [List.map_append,Int.zero_add]; rfl,by rw [List.length_append]; show _ + 1≤j + 1; lia,fun z hz=>?_⟩,upd_same⟩
    rcases List.mem_append.mp hz with hz | hz
    ·exact hks z hz
    ·rw [List.mem_singleton.mp hz]; exact hj
  ·rintro zs σ H2 ⟨o,ks,rfl,s2,rfl,lk,hks⟩ gin
   have k2:=KT.same s2
   have s02:=s1.trans s2
   have hpc2:=s2 _ _ hpc
   have hpm2:=s02 _ _ hpm
   have hpo2:=s02 _ _ hpo
   have D2:=DK.same s02
   have dP2:=Dats.kt k2 _ dall
   have K2:Keep [d,c] H H2:=Keep.same s02
   have nD:Dl ∉ [d,c]:=(DK.same s1).nin hD
   clear hD sx fp s2 dall hpc
   have fin:∀ (w':Str) (a0 a1:Addr) (m' o':List D) (H':Hp) (t:Addr),(w'="sum"∨w'="product")→H' t=none→Dat H' (.tup m') (.ref a0)→Dat H' (.tup o') (.ref a1)→(∀ x∈m'++o',AFb (b + 1000000) x∧x.dep≤(D.tup [.str k,.tup more,.tup off]).dep)→nS m' + nS o'≤2 * (nS more + nS off) + 2→Keep [d,c] H H'→DeckAt H' d c→Q (.ref t) (upd H' t (.tup [.str w',.ref a0,.ref a1])):=fun w' a0 a1 m' o' H' t hw ht h1 h2 h3 h4 h5 h6=>by
    have st:=Same.new (o:=.tup [V.str w',V.ref a0,V.ref a1]) ht
    refine q _ (.tup [.str w',.tup m',.tup o']) _ (.tupI upd_same (.consI (.strI _) (.consI (Dat.kt (KT.same st) _ h1) (.consI (Dat.kt (KT.same st) _ h2) (.nilI _))))) (.grp hw (fun x hx=>(h3 x (List.mem_append_left _ hx)).1) (fun x hx=>(h3 x (List.mem_append_right _ hx)).1)) ?_ (by rw [nn_grp,ng]; lia) (h5.trans (Keep.same st)) (h6.same st)
    have e1:=deps_le (l:=m') (n:=(D.tup [.str k,.tup more,.tup off]).dep) fun x hx=>(h3 x (List.mem_append_left _ hx)).2
    have e2:=deps_le (l:=o') (n:=(D.tup [.str k,.tup more,.tup off]).dep) fun x hx=>(h3 x (List.mem_append_right _ hx)).2
    rw [dep_grpA]
    lia
   have hdm:∀ x∈more++off,x.dep + 2≤(D.tup [.str k,.tup more,.tup off]).dep:=fun x hx=>dep_mem hx
   dsimp only [gName]
   refine seq_key (fun σ' H'=>σ'=[some (.ref d),some (.ref p),some (.str k),some (.ref pm),some (.ref po),some (.ref pc),some (.ref Dl),none,none]∧Keep [d,c] H H'∧DeckAt H' d c∧H' pm=some (.tup xm)∧H' po=some (.tup xo)) ?_ ?_
   case refine_2 =>
    intro X' hX
    refine ⟨_,rfl,(by show 0≤sizeLine; decide),fun pe hpe=>?_⟩
    have se:=Same.new (o:=.lst []) hpe
    refine ⟨Dl,pe,_,rfl,rfl,SqL.of (se _ _ gin),SqL.of upd_same,_,rfl,?_⟩
    refine ite2 (fun cne=>?_) (fun _=>iteF (hX _ _ ⟨rfl,K2.trans (Keep.same se),D2.same se,se _ _ hpm2,se _ _ hpo2⟩))
    have D3:=D2.same se
    refine ⟨_,rfl,d,c,2,rfl,D3,by decide,by decide,fun r2 H4 r20 r22 k4 D4=>⟨rfl,_,rfl,?_⟩⟩
    have K4:=K2.trans ((Keep.same se).trans k4)
    have t4:=KT.trans (KT.same se) (D3.kt k4)
    have nin:∀ {a:Addr},H a=none→a ∉ [d,c]:=fun h=>DK.nin h
    refine ite2 (fun _=>?_) (fun _=>hX _ _ ⟨rfl,K4,D4,t4 _ _ hpm2,t4 _ _ hpo2⟩)
    have gin4:=k4 _ _ (se _ _ gin) nD
    have hpc4:=t4 _ _ hpc2
    have dP4:=Dats.kt t4 _ dP2
    have lk0:0 < ks.length:=by
     cases ks with
     | nil=>cases cne
     | cons a r=>simp
    refine ⟨_,rfl,_,rfl,_,rfl,Dl,_,rfl,.inl (SqL.of gin4),d,c,_,rfl,D4,by rw [List.length_map]; lia,by rw [List.length_map]; lia,fun ra H5 ra0 ra1 k5 D5=>?_⟩
    rw [List.length_map] at ra1
    obtain ⟨va,hva,hvm⟩:=atI_mem (xs:=ks.map fun k:Nat=>V.int ((k:Nat):Int)) ra0 (by rw [List.length_map]; exact ra1)
    obtain ⟨kk,hkm,rfl⟩:=List.mem_map.mp hvm
    have hkk:=hks kk hkm
    refine ⟨Dl,_,_,_,rfl,rfl,SqL.of (k5 _ _ gin4 nD),hva,?_⟩
    have K5:=K4.trans k5
    have t5:=D4.kt k5
    have hpc5:=t5 _ _ hpc4
    have dP5:=Dats.kt t5 _ dP4
    obtain ⟨x,hx⟩:∃ x,(xm++xo)[kk]?=some x:=⟨_,List.getElem?_eq_getElem hkk⟩
    obtain ⟨dx,hdx,Dx⟩:=Dats.at dP5 hx
    have hmx:=List.mem_of_getElem? hdx
    have dpx:=hdm dx hmx
    have nnx:=nS_mem hmx
    rw [nS_app] at nnx
    dsimp only [gName]
    refine ⟨_,rfl,_,rfl,_,rfl,pc,_,rfl,SqT.of hpc5,(fun h=>by have h2:min kk (xm++xo).length=(xm++xo).length:=h.2; lia),fun pa hpa=>?_⟩
    rw [cut_lo _ (by lia)] at *
    have sa:=Same.new (o:=.tup ((xm++xo).take kk)) hpa
    have ga:(upd H5 pa (.tup ((xm++xo).take kk))) pa=some (.tup ((xm++xo).take kk)):=upd_same
    generalize upd H5 pa (.tup ((xm++xo).take kk))=H6 at sa ga ⊢
    have D6:=D5.same sa
    refine ⟨_,rfl,_,rfl,_,rfl,pc,_,_,_,rfl,rfl,SqT.of (sa _ _ hpc5),atI_nat hx,d,c,x,dx,b,rfl,D6,Dat.kt (KT.same sa) _ Dx,hpar dx hmx,b0,b1,by lia,by lia,by lia,fun v' d' H7 dv' af' dep' nn' k7 D7=>⟨(by show 1≤sizeLine; decide),fun pt hpt=>?_⟩⟩
    have t7:=D6.kt k7
    have st:=Same.new (o:=.tup [v']) hpt
    have kt:=KT.same st
    refine ⟨pa,pt,_,_,rfl,rfl,kt _ _ (t7 _ _ ga),upd_same,by rw [List.length_take]; show _ + 1≤_; lia,fun pq H8 s8 hpq=>?_⟩
    have t8:=KT.trans (KT.same sa) (KT.trans t7 (KT.trans kt (KT.same s8)))
    have K8:Keep [d,c] H H8:=K5.trans ((Keep.same sa).trans (k7.trans ((Keep.same st).trans (Keep.same s8))))
    have D8:=(D7.same st).same s8
    have dv8:=Dat.kt (KT.trans kt (KT.same s8)) _ dv'
    refine ⟨_,rfl,_,rfl,_,_,rfl,rfl,_,rfl,pc,_,rfl,SqT.of (t8 _ _ hpc5),(fun h=>by have h2:min (kk + 1) (xm++xo).length=0:=h.1; lia),fun pb hpb=>?_⟩
    have eh:cutV (xm++xo) (some ((kk:Int) + 1)) none=(xm++xo).drop (kk + 1):=cut_hi _ (a:=kk + 1) (by lia)
    have sb:=Same.new (o:=.tup (cutV (xm++xo) (some ((kk:Int) + 1)) none)) hpb
    refine ⟨pq,pb,(xm++xo).take kk++[v'],(xm++xo).drop (kk + 1),rfl,rfl,sb _ _ hpq,by rw [upd_same]; exact congrArg (fun l=>some (HO.tup l)) eh,by rw [List.length_append,List.length_take,List.length_drop]; show _ + 1 + _≤_; lia,fun pp H9 s9 hpp=>?_⟩
    have t9:=KT.trans (KT.same sb) (KT.same s9)
    have t59:=KT.trans t8 t9
    have D9:=(D8.same sb).same s9
    have K9:=K8.trans ((Keep.same sb).trans (Keep.same s9))
    have hpm9:=t59 _ _ (t5 _ _ (t4 _ _ hpm2))
    have dP9:=Dats.kt t59 _ dP5
    have dE:Dats H9 ((more++off).take kk++[d']++(more++off).drop (kk + 1)) ((xm++xo).take kk++[v']++(xm++xo).drop (kk + 1)):=Dats.app (Dats.app (dP9.take kk) (.consI (Dat.kt t9 _ dv8) (.nilI _))) (dP9.drop (kk + 1))
    have hsp:=split_at hdx
    have eS:nS ((more++off).take kk++[d']++(more++off).drop (kk + 1)) + nn dx=nS (more++off) + nn d':=by
     have e1:=congrArg nS hsp
     have e2:=nS_app ((more++off).take kk) (dx :: (more++off).drop (kk + 1))
     have e3:=nS_app ((more++off).take kk++[d']) ((more++off).drop (kk + 1))
     have e4:=nS_app ((more++off).take kk) [d']
     have e5:nS [d']=nn d':=by rw [nS_cons,nS_nil]; rfl
     rw [nS_cons] at e2
     lia
    rw [nS_app more off] at eS
    have mE:∀ y∈(more++off).take kk++[d']++(more++off).drop (kk + 1),AFb (b + 1000000) y∧y.dep≤(D.tup [.str k,.tup more,.tup off]).dep:=fun y hy=>by
     have old:∀ {y},y∈more++off→AFb (b + 1000000) y∧y.dep≤(D.tup [.str k,.tup more,.tup off]).dep:=fun h=>⟨(hpar _ h).mono (by lia),by have:=hdm _ h; lia⟩
     rcases List.mem_append.mp hy with hy | hy
     ·rcases List.mem_append.mp hy with hy | hy
      ·exact old (List.mem_of_mem_take hy)
      ·rw [List.mem_singleton.mp hy]; exact ⟨af',by lia⟩
     ·exact old (List.mem_of_mem_drop hy)
    generalize (more++off).take kk++[d']++(more++off).drop (kk + 1)=es at dE eS mE
    have lE:xm.length≤((xm++xo).take kk++[v']++(xm++xo).drop (kk + 1)).length:=by
     rw [List.length_append,List.length_append,List.length_take,List.length_drop,List.length_append]; show _≤_ + 1 + _; lia
    generalize (xm++xo).take kk++[v']++(xm++xo).drop (kk + 1)=ys at dE hpp lE
    dsimp only [gName]
    refine ⟨_,rfl,_,rfl,_,rfl,pm,_,rfl,.inr (SqT.of hpm9),_,rfl,pp,_,rfl,hpp,fun pA H10 s10 hpA=>?_⟩
    rw [cut_lo _ lE] at hpA
    refine ⟨_,rfl,_,rfl,pm,_,rfl,.inr (SqT.of (s10 _ _ hpm9)),_,rfl,pp,_,rfl,s10 _ _ hpp,fun pB H11 s11 hpB=>⟨(by show 3≤sizeLine; decide),fun t ht=>?_⟩⟩
    rw [cut_hi _ lE] at hpB
    have d11:=Dats.kt (KT.same (s10.trans s11)) _ dE
    have eT:=nS_app (es.take xm.length) (es.drop xm.length)
    rw [List.take_append_drop] at eT
    refine fin k pA pB (es.take xm.length) (es.drop xm.length) H11 t hk ht (.tupI (s11 _ _ hpA) (d11.take _)) (.tupI hpB (d11.drop _)) (fun y hy=>mE y (by rw [List.take_append_drop] at hy; exact hy)) (by lia) (K9.trans (Keep.same (s10.trans s11))) (D9.same (s10.trans s11))
   case refine_1 =>
    rintro σ' H4 ⟨rfl,K4,D4,hpm4,hpo4⟩
    have t4:Dats H4 more xm∧Dats H4 off xo:=⟨Dats.kt (DK.kt K4) _ d1,Dats.kt (DK.kt K4) _ d2⟩
    have kdep:∀ x∈more++off,x.dep≤16:=fun x hx=>by have:=hdm x hx; lia
    refine seq_key (fun σ' H'=>σ'=[some (.ref d),some (.ref p),some (.str k),some (.ref pm),some (.ref po),some (.ref pc),some (.ref Dl),none,none]∧Keep [d,c] H H'∧DeckAt H' d c∧H' pm=some (.tup xm)∧H' po=some (.tup xo)) ?_ ?_
    case refine_2 =>
     intro X' hX
     refine ⟨_,rfl,d,c,6,rfl,D4,by decide,by decide,fun r6 H5 r60 r66 k5 D5=>⟨rfl,_,rfl,?_⟩⟩
     have K5:=K4.trans k5
     have t5:=D4.kt k5
     refine ite2 (fun _=>?_) (fun _=>hX _ _ ⟨rfl,K5,D5,t5 _ _ hpm4,t5 _ _ hpo4⟩)
     refine ⟨(by show 2≤sizeLine; decide),fun pz hpz=>?_⟩
     have sz:=Same.new (o:=.lst [V.str "sum",V.str "product"]) hpz
     obtain ⟨w',hw',hwk⟩:∃ w':Str,atI [V.str "sum",V.str "product"] (if decide (V.str k=V.str "sum")=true then 1 else 0)=some (.str w')∧(w'="sum"∨w'="product"):=by
      cases decide (V.str k=V.str "sum")
      ·exact ⟨"sum",rfl,.inl rfl⟩
      ·exact ⟨"product",rfl,.inr rfl⟩
     refine ⟨_,rfl,rfl,.inr ⟨_,rfl,pz,_,_,_,rfl,rfl,SqL.of upd_same,hw',_,rfl,_,rfl,(by show 3≤sizeLine; decide),fun t ht=>?_⟩⟩
     have kz:=KT.trans t5 (KT.same sz)
     refine fin w' pm po more off _ t hwk ht (.tupI (kz _ _ hpm4) (Dats.kt kz _ t4.1)) (.tupI (kz _ _ hpo4) (Dats.kt kz _ t4.2)) (fun x hx=>⟨(hpar x hx).mono (by lia),by have:=hdm x hx; lia⟩) (by lia) (K5.trans (Keep.same sz)) (D5.same sz)
    case refine_1 =>
     rintro σ' H5 ⟨rfl,K5,D5,hpm5,hpo5⟩
     have h2d:2≤(D.tup [.str k,.tup more,.tup off]).dep:=by rw [dep_grpA]; lia
     refine ⟨_,rfl,_,rfl,_,rfl,d,c,pm,po,xm,xo,more,off,b,(D.tup [.str k,.tup more,.tup off]).dep - 2,rfl,D5,hpm5,hpo5,Dats.kt (DK.kt K5) _ d1,Dats.kt (DK.kt K5) _ d2,b0,b1,by lia,(fun x hx=>⟨g1 x hx,by have:=hdm x (List.mem_append_left _ hx); lia⟩),(fun x hx=>⟨g2 x hx,by have:=hdm x (List.mem_append_right _ hx); lia⟩),by lia,fun r u0 u1 m' o' H6 h1 h2 h3 h4 h5 k6 D6=>?_⟩
     dsimp only [gName]
     refine ⟨_,rfl,_,rfl,r,_,_,_,rfl,rfl,SqL.of h1,atI_nat (j:=0) rfl,_,rfl,r,_,_,_,rfl,rfl,SqL.of h1,atI_nat (j:=1) rfl,(by show 3≤sizeLine; decide),fun t ht=>?_⟩
     exact fin k u0 u1 m' o' H6 t hk ht h2 h3 (fun x hx=>⟨(h4 x hx).1,by have:=(h4 x hx).2; lia⟩) h5 (K5.trans k6) D6
theorem ok_sp {f:Addr} {fd:FuncData} (F:Fun K "_law_spoilt" "_law_spoilt" s_law_spoilt f fd) (b:Binds K fd ["deck","form"] []) (m:mg "_law_spoilt"=some (.ref f)) (B:Blt mg) (Gtake:Def P w K mg base CX0 1 "_law_take" spTake) (Gchg:Def P w K mg base CX0 23 "_law_rows_changed" spChg) :
  ∀ n,FnOk P w K mg base CX0 (n + 24) f fd ["deck","form"] (spSp n)
 | 0=>by
  have no:∀ vs H Q E,¬ spSp 0 vs H Q E:=fun vs H Q E h=>by
   obtain ⟨d,c,v,df,b,_,_,_,_,_,_,h2,_⟩:=h
   lia
  exact ⟨fun vs H Q E h=>absurd h (no vs H Q E),fun A outer s H args us vs Q E _ _ _ _ h=>absurd h (no vs H Q E)⟩
 | n + 1=>ok_sp_step F B Gtake Gchg (mkDef (ok_sp F b m B Gtake Gchg n) b m F.kp)
end
end Law
namespace Law
open PySem L2
section
variable {P:Program} {w:World} {K:PySem.W.Frag} {mg:Str→Option Value} {base:Heap}
theorem lvs_one (d:D):lvs [d]=lv d:=by rw [lvs,lvs]; rfl
theorem pf_lv {k:Str} {d:D} (h:IsForm d):lvs (pf k d).1 + lvs (pf k d).2=lv d:=by
 cases h with
 | num h0 h1=>rw [pf_int]; show lvs [_] + lvs []=_; rw [lvs_one,lvs]; rfl
 | @grp k' m0 more off hk g0 g1 g2 =>
  rw [pf_grp]
  split
  ·show lvs (m0 :: more) + lvs off=_
   rw [lv_grp,lvs]
  ·show lvs [_] + lvs []=_
   rw [lvs_one,lvs]; rfl
theorem fP_lv:∀ {x:Way},x.ok 1000000→lv (fP x)=x.size:=by
 intro x
 induction x with
 | num n=>intro _; show lv (.int n)=1; unfold lv; rfl
 | op w a b iha ihb =>
  intro h
  obtain ⟨hw,ha,hb⟩:=id h
  have e1:=pf_lv (k:=knd w) (fP_form ha)
  have e2:=pf_lv (k:=knd w) (fP_form hb)
  have pm:=lvs_perm (srtD_perm ((pf (knd w) (fP a)).1++(swp (trn w) (pf (knd w) (fP b))).1))
  have po:=lvs_perm (srtD_perm ((pf (knd w) (fP a)).2++(swp (trn w) (pf (knd w) (fP b))).2))
  obtain ⟨⟨m0,r0,em0⟩,_,_⟩:=pf_form (k:=knd w) (fP_form ha)
  obtain ⟨x0,t0,e0⟩:=srt_cons (l:=(pf (knd w) (fP a)).1++(swp (trn w) (pf (knd w) (fP b))).1) (m0:=m0) (r:=r0++(swp (trn w) (pf (knd w) (fP b))).1) (by rw [em0]; rfl)
  rw [lvs_app] at pm po
  have sw:lvs (swp (trn w) (pf (knd w) (fP b))).1 + lvs (swp (trn w) (pf (knd w) (fP b))).2=lv (fP b):=by
   unfold swp
   split
   ·show lvs (pf (knd w) (fP b)).2 + lvs (pf (knd w) (fP b)).1=_; lia
   ·exact e2
  show lv (.tup [.str (knd w),.tup (srtD ((pf (knd w) (fP a)).1++(swp (trn w) (pf (knd w) (fP b))).1)),.tup (srtD ((pf (knd w) (fP a)).2++(swp (trn w) (pf (knd w) (fP b))).2))])=a.size + b.size
  rw [e0] at pm ⊢
  rw [lvs] at pm
  rw [lv_grp]
  have:=iha ha
  have:=ihb hb
  lia
theorem form_nn {x:Way} (h:x.ok 1000000) (hs:x.size≤8):nn (fP x)≤15:=by
 have h1:=kept_nn (form_kept h)
 rw [fP_lv h] at h1
 lia
theorem let_no {i:Int} (h:i≤0):¬ ∃ n,LetW (.int i) n:=fun ⟨n,e⟩=>by
 have:=(let_int (by lia)).mp e
 lia
theorem let_nil:¬ ∃ n,LetW (.tup [.str "sum",.tup [],.tup []]) n:=fun ⟨n,e⟩=>((let_grp (.inl rfl)).mp e).1.1 rfl
theorem bool_of {b:Bool} {p:Prop} (h:b=true↔p) (hp:p):b=true:=h.mpr hp
theorem bool_no {b:Bool} {p:Prop} (h:b=true↔p) (hp:¬ p):b=false:=by
 cases b with
 | false=>rfl
 | true=>exact absurd (h.mp rfl) hp
noncomputable abbrev s_law:Stmt:=top 51
theorem sc_law:FnScope ["script","deck","turn","some","way","form","again","once"] ["script"] (defScope s_law):=⟨rfl,rfl,rfl,by decide +kernel,rfl,by decide +kernel,by decide +kernel⟩
theorem ok_law {f:Addr} {fd:FuncData} (F:Fun K "law" "law" s_law f fd) (B:Blt mg) (Gdeck:Def P w K mg base CX0 1 "_law_deck" (spDeck K)) (Gsize:Def P w K mg base CX0 2 "_law_size" (spDraw 8)) (Gany:Def P w K mg base CX0 11 "_law_any_way" (spAny 8)) (Ggood:Def P w K mg base CX0 21 "_law_good_way" (spGood 8))
  (Gform:Def P w K mg base CX0 31 "_law_form" (spForm 9)) (Gspoilt:Def P w K mg base CX0 43 "_law_spoilt" (spSp 19)) (Gright:Def P w K mg base CX0 43 "_law_right" spRightA) (Gplet:Def P w K mg base CX0 11 "form_let" spPLet):FnOk P w K mg base CX0 50 f fd ["script"] (spLaw K):=by
 refine F.okW (k:=49) sc_law (fun vs H Q E h=>?_) (fun cdv A outer s H vs Q E hr h=>?_)
 ·obtain ⟨a,ns,rfl,_⟩:=h
  rfl
 obtain ⟨a,ns,rfl,hS,hl,q⟩:=h
 refine ⟨_,(wss_cons (Wr.mk (ps_set (i:=1) sc_law.nd rfl (by first | exact Or.inl rfl | exact Or.inr rfl) (pe_def Gdeck (hr.mono (by lia)) (pa_cons (pv 0) pa_nil))))
   (wss_cons (Wr.mk (ps_for PassesOwn.never rfl (pi_range1 rfl B.range (pa_cons pe_int pa_nil)) (pg_name (i:=2) sc_law.nd rfl (by first | exact Or.inl rfl | exact Or.inr rfl)) (pss_cons (ps_set (i:=3) sc_law.nd rfl (by first | exact Or.inl rfl | exact Or.inr rfl) (pe_lst (pa_cons (pe_def Ggood (hr.mono (by lia)) (pa_cons (pv 1) (pa_cons (pe_def Gsize (hr.mono (by lia)) (pa_cons (pv 1) pa_nil)) pa_nil))) (pa_cons (pe_def Ggood (hr.mono (by lia)) (pa_cons (pv 1) (pa_cons pe_int pa_nil))) pa_nil))))
   (pss_cons (ps_expr (pe_bm PySem.F.plainAttrs_list PySem.F.slot_list_append PySem.F.type_list_append mt_append (pv 3) (pa_cons (pe_def Gany (hr.mono (by lia)) (pa_cons (pv 1) (pa_cons (pe_def Gsize (hr.mono (by lia)) (pa_cons (pv 1) pa_nil)) pa_nil))) pa_nil)))
   (pss_one (ps_for PassesOwn.never rfl (pi_list (pv 3)) (pg_name (i:=4) sc_law.nd rfl (by first | exact Or.inl rfl | exact Or.inr rfl)) (pss_cons (ps_set (i:=5) sc_law.nd rfl (by first | exact Or.inl rfl | exact Or.inr rfl) (pe_def Gform (hr.mono (by lia)) (pa_cons (pv 4) pa_nil)))
   (pss_one (ps_for PassesOwn.never rfl (pi_range1 rfl B.range (pa_cons pe_int pa_nil)) (pg_name (i:=6) sc_law.nd rfl (by first | exact Or.inl rfl | exact Or.inr rfl)) (pss_cons (ps_set (i:=7) sc_law.nd rfl (by first | exact Or.inl rfl | exact Or.inr rfl) (pe_def Gspoilt (hr.mono (by lia)) (pa_cons (pv 1) (pa_cons (pv 5) pa_nil))))
   (pss_one (ps_if (PW.pt (pw_or (pt_not (pt_val (pe_def Gright (hr.mono (by lia)) (pa_cons (pv 5) pa_nil)))) (pw_or (pt_not (pt_val (pe_def Gright (hr.mono (by lia)) (pa_cons (pv 7) pa_nil)))) (pw_or1 (pt_not (pt_val (pe_def Gright (hr.mono (by lia)) (pa_cons (pe_def Gspoilt (hr.mono (by lia)) (pa_cons (pv 1) (pa_cons (pv 7) pa_nil))) pa_nil)))))))) (pss_one (ps_ret pe_bl)) pss_nil))))))))))))
   (wss_one (Wr.mk (ps_ret (pe_and (pe_def Gplet (hr.mono (by lia)) (pa_cons pe_int pa_nil)) (pe_and (pe_not (pe_def Gplet (hr.mono (by lia)) (pa_cons pe_int pa_nil))) (pe_and (pe_not (pe_def Gplet (hr.mono (by lia)) (pa_cons (pe_un un_neg pe_int) pa_nil))) (pe_one (pe_not (pe_def Gplet (hr.mono (by lia)) (pa_cons (Wr.un (w_tup (w_cons w_str (w_cons (w_tup w_nil) (w_cons (w_tup w_nil) w_nil star_tup) star_tup)))) pa_nil star_tup)))))))))))),?_⟩
 refine ⟨_,rfl,a,ns,rfl,hS,hl,fun d c H1 s1 nd nc D=>?_⟩
 refine ⟨8,rfl,by decide,by decide,for_range (n:=8) (fun i σ H'=>∃ (z1 z2 z3 z4 z5 z6:Option V),σ=[some (.ref a),some (.ref d),z1,z2,z3,z4,z5,z6]∧DeckAt H' d c) ⟨none,none,none,none,none,none,rfl,D⟩ ?_ ?_⟩
 ·rintro i σ H' hi ⟨z1,z2,z3,z4,z5,z6,rfl,D'⟩
  refine ⟨_,rfl,_,rfl,d,c,rfl,D',fun r H2 r1 r2 k2 D2=>⟨d,c,r,rfl,D2,r1,r2,r2,fun v1 x1 rr1 H3 w1 o1 e1 ew1 k3 D3=>?_⟩⟩
  refine ⟨_,rfl,d,c,5,rfl,D3,by decide,by decide,by decide,fun v2 x2 rr2 H4 w2 o2 e2 ew2 k4 D4=>⟨(by show 2≤sizeLine; decide),fun pl hpl=>?_⟩⟩
  have D5:=D4.new (o:=.lst [v1,v2]) hpl
  have npl:=D4.nin hpl
  have g5:(upd H4 pl (.lst [v1,v2])) pl=some (.lst [v1,v2]):=upd_same
  have t45:KT H4 (upd H4 pl (.lst [v1,v2])):=KT.new hpl
  generalize upd H4 pl (.lst [v1,v2])=H5 at D5 g5 t45 ⊢
  refine ⟨_,rfl,.inl ⟨rfl,_,SqL.of g5⟩,_,rfl,_,rfl,d,c,rfl,D5,fun r' H6 r1' r2' k6 D6=>⟨d,c,r',rfl,D6,r1',r2',r2',fun v3 x3 H7 w3 o3 e3 k7 D7=>?_⟩⟩
  have g7:=k7 _ _ (k6 _ _ g5 npl) npl
  refine ⟨pl,_,_,rfl,rfl,g7,by show 2 < sizeLine; decide,?_⟩
  have npd:pl≠d∧pl≠c:=by simpa using npl
  have D8:DeckAt (upd H7 pl (.lst ([v1,v2]++[v3]))) d c:=by
   obtain ⟨cells,aa,seed,h1,h2,h3⟩:=D7
   exact ⟨cells,aa,seed,by rw [upd_ne npd.1.symm]; exact h1,by rw [upd_ne npd.2.symm]; exact h2,h3⟩
  have g8:(upd H7 pl (.lst ([v1,v2]++[v3]))) pl=some (.lst [v1,v2,v3]):=upd_same
  have t78:KT H7 (upd H7 pl (.lst ([v1,v2]++[v3]))):=KT.upd g7
  generalize upd H7 pl (.lst ([v1,v2]++[v3]))=H8 at D8 g8 t78 ⊢
  have facts:∀ y∈[v1,v2,v3],∃ x,WayIn H8 y x∧x.ok 1000000∧x.size≤8:=fun y hy=>by
   have t5:=KT.trans t45 (KT.trans (D5.kt k6) (KT.trans (D6.kt k7) t78))
   simp only [List.mem_cons,List.not_mem_nil,or_false] at hy
   rcases hy with rfl | rfl | rfl
   ·exact ⟨x1,(w1.kt (D3.kt k4)).kt t5,o1,by lia⟩
   ·exact ⟨x2,w2.kt t5,o2,by lia⟩
   ·exact ⟨x3,w3.kt t78,o3,by lia⟩
  refine ⟨_,rfl,pl,rfl,⟨_,SqL.of g8⟩,for_list (K:=K) (a:=pl) (xs:=[v1,v2,v3]) (fun j σ H'=>∃ (y4 y5 y6 y7:Option V),σ=[some (.ref a),some (.ref d),some (.int (0 + (i:Int))),some (.ref pl),y4,y5,y6,y7]∧DeckAt H' d c∧Keep [d,c] H8 H') ⟨_,_,_,_,rfl,D8,Keep.refl _ _⟩ (fun j σ H' _ ⟨_,_,_,_,_,_,g⟩=>SqL.of (g _ _ g8 npl)) ?_ ?_⟩
  ·rintro j y σ H9 hj ⟨y4,y5,y6,y7,rfl,D9,K9⟩
   obtain ⟨x,hw,ho,hz⟩:=facts y (List.mem_of_getElem? hj)
   have hdp:=fP_dep ho
   have hnn:=form_nn ho hz
   have fF:=fP_form ho
   refine ⟨_,rfl,y,x,rfl,hw.kt (D8.kt K9),ho,by lia,by lia,fun u H10 s10 d10=>?_⟩
   have D10:=D9.same s10
   have K10:=K9.trans (Keep.same s10)
   dsimp only [gName]
   refine ⟨4,rfl,by decide,by decide,for_range (n:=4) (fun m σ H'=>∃ (y6 y7:Option V),σ=[some (.ref a),some (.ref d),some (.int (0 + (i:Int))),some (.ref pl),some y,some u,y6,y7]∧DeckAt H' d c∧Keep [d,c] H10 H') ⟨_,_,rfl,D10,Keep.refl _ _⟩ ?_ ?_⟩
   ·rintro m σ H11 hm ⟨y6,y7,rfl,D11,K11⟩
    have d11:=Dat.kt (D10.kt K11) _ d10
    refine ⟨_,rfl,_,rfl,d,c,u,fP x,0,rfl,D11,d11,fF.afb,by decide,by decide,by lia,by lia,by lia,fun vo do' H12 dvo afo depo nno k12 D12=>?_⟩
    have t12:=D11.kt k12
    refine ⟨_,rfl,u,fP x,rfl,Dat.kt t12 _ d11,fF.af,by lia,by lia,fun H13 s13=>⟨_,rfl,iteF ?_⟩⟩
    have dvo13:=Dat.kt (KT.same s13) _ dvo
    refine ⟨_,rfl,vo,do',rfl,dvo13,afo.af (by decide),by lia,by lia,fun H14 s14=>⟨_,rfl,iteF ?_⟩⟩
    have D14:=(D12.same s13).same s14
    refine ⟨_,rfl,_,rfl,d,c,vo,do',0 + 1000000,rfl,D14,Dat.kt (KT.same s14) _ dvo13,afo,by decide,by decide,by lia,by lia,by lia,fun vt dt H15 dvt aft dept nnt k15 D15=>⟨vt,dt,rfl,dvt,aft.af (by decide),by lia,by lia,fun H16 s16=>⟨_,rfl,iteF ?_⟩⟩⟩
    exact ⟨_,_,rfl,D15.same s16,K11.trans (k12.trans ((Keep.same s13).trans ((Keep.same s14).trans (k15.trans (Keep.same s16)))))⟩
   ·rintro σ H11 ⟨y6,y7,rfl,D11,K11⟩
    exact ⟨_,_,_,_,rfl,D11,K10.trans K11⟩
  ·rintro σ H9 ⟨y4,y5,y6,y7,rfl,D9,K9⟩
   exact ⟨_,_,_,_,_,_,rfl,D9⟩
 ·rintro σ H' ⟨z1,z2,z3,z4,z5,z6,rfl,D'⟩
  have lI:∀ i:Int,lv (.int i)=1:=fun i=>by rw [lv]
  refine ⟨.int 1,.int 1,rfl,.intI 1,.num (by decide) (by decide),by rw [lI]; decide,by rw [nn_int]; decide,fun b1 H2 s2 h1=>?_⟩
  have e1:=bool_of h1 ⟨1,(let_int (by decide)).mpr ⟨by decide,rfl⟩⟩
  subst e1
  refine ⟨_,rfl,iteT ?_⟩
  refine ⟨.int 0,.int 0,rfl,.intI 0,.num (by decide) (by decide),by rw [lI]; decide,by rw [nn_int]; decide,fun b2 H3 s3 h2=>?_⟩
  have e2:=bool_no h2 (let_no (by decide))
  subst e2
  refine ⟨_,rfl,_,rfl,iteT ?_⟩
  refine ⟨_,rfl,.int (-3),.int (-3),rfl,.intI (-3),.num (by decide) (by decide),by rw [lI]; decide,by rw [nn_int]; decide,fun b3 H4 s4 h3=>?_⟩
  have e3:=bool_no h3 (let_no (by decide))
  subst e3
  refine ⟨_,rfl,_,rfl,iteT ?_⟩
  refine ⟨(by show 0≤sizeLine; decide),fun p1 hp1=>⟨(by show 0≤sizeLine; decide),fun p2 hp2=>⟨(by show 3≤sizeLine; decide),fun p3 hp3=>?_⟩⟩⟩
  have u2:=Same.new (o:=.tup []) hp2
  have u3:=Same.new (o:=.tup [V.str "sum",V.ref p1,V.ref p2]) hp3
  refine ⟨.ref p3,.tup [.str "sum",.tup [],.tup []],rfl,.tupI upd_same (.consI (.strI _) (.consI (.tupI (u3 _ _ (u2 _ _ upd_same)) (.nilI _)) (.consI (.tupI (u3 _ _ upd_same) (.nilI _)) (.nilI _)))),.grp (.inl rfl) (fun x hx=>by cases hx) (fun x hx=>by cases hx),by rw [lv_grpA,lvs]; decide,by rw [nn_grp,nS_nil]; decide,fun b4 H5 s5 h4=>?_⟩
  have e4:=bool_no h4 let_nil
  subst e4
  exact ⟨_,rfl,q _⟩
end
end Law
namespace Law
open PySem L2
noncomputable abbrev s_plus:Stmt:=Xc.s_plus
noncomputable abbrev s_less:Stmt:=Xc.s_less
noncomputable abbrev s_times:Stmt:=Xc.s_times
noncomputable abbrev s_share:Stmt:=Xc.s_share
noncomputable abbrev s_worth_by:Stmt:=Xc.s_worth_by
noncomputable abbrev s_worth_of:Stmt:=Xc.s_worth_of
noncomputable abbrev s_init:Stmt:=Xc.s_init
noncomputable abbrev s_number_itself:Stmt:=Wy.s_number_itself
noncomputable abbrev s_come_of:Stmt:=Wy.s_come_of
noncomputable abbrev s_way_of:Stmt:=Wy.s_way_of
noncomputable abbrev s_way_with:Stmt:=Wy.s_way_with
noncomputable abbrev s_unfolded:Stmt:=Wy.s_unfolded
noncomputable abbrev s_steps_of_form:Stmt:=Wy.s_steps_of_form
noncomputable def famOf (a b c d:Addr) (wd:Str):Addr:=if wd="plus" then a else if wd="less" then b else if wd="times" then c else d
theorem all_mk {l:PySem.W.OpenLaw} {w:World} {K:PySem.W.Frag} {h:Heap} {mg:Str→Option Value} {fa:Addr} (X:K.In h) (G:h.Ns mainGlobals mg) (hfa:mg "law"=some (.ref fa))
  {f_plus:Addr} {od_plus an_plus:Option Addr} {sl_plus:Array (Option Value)} {oc_plus kV_plus dc_plus pm_plus cd_plus ct_plus:Value}
  {f_less:Addr} {od_less an_less:Option Addr} {sl_less:Array (Option Value)} {oc_less kV_less dc_less pm_less cd_less ct_less:Value}
  {f_times:Addr} {od_times an_times:Option Addr} {sl_times:Array (Option Value)} {oc_times kV_times dc_times pm_times cd_times ct_times:Value}
  {f_share:Addr} {od_share an_share:Option Addr} {sl_share:Array (Option Value)} {oc_share kV_share dc_share pm_share cd_share ct_share:Value}
  {f_steps_of:Addr} {od_steps_of an_steps_of:Option Addr} {sl_steps_of:Array (Option Value)} {oc_steps_of kV_steps_of dc_steps_of pm_steps_of cd_steps_of ct_steps_of:Value}
  {f_come_of:Addr} {od_come_of an_come_of:Option Addr} {sl_come_of:Array (Option Value)} {oc_come_of kV_come_of dc_come_of pm_come_of cd_come_of ct_come_of:Value}
  {f_number_itself:Addr} {od_number_itself an_number_itself:Option Addr} {sl_number_itself:Array (Option Value)} {oc_number_itself kV_number_itself dc_number_itself pm_number_itself cd_number_itself ct_number_itself:Value}
  {f_worth_by:Addr} {od_worth_by an_worth_by:Option Addr} {sl_worth_by:Array (Option Value)} {oc_worth_by kV_worth_by dc_worth_by pm_worth_by cd_worth_by ct_worth_by:Value}
  {f_worth_of:Addr} {od_worth_of an_worth_of:Option Addr} {sl_worth_of:Array (Option Value)} {oc_worth_of kV_worth_of dc_worth_of pm_worth_of cd_worth_of ct_worth_of:Value}
  {f_is_of:Addr} {od_is_of an_is_of:Option Addr} {sl_is_of:Array (Option Value)} {oc_is_of kV_is_of dc_is_of pm_is_of cd_is_of ct_is_of:Value}
  {f_order_of:Addr} {od_order_of an_order_of:Option Addr} {sl_order_of:Array (Option Value)} {oc_order_of kV_order_of dc_order_of pm_order_of cd_order_of ct_order_of:Value}
  {f_way_of:Addr} {od_way_of an_way_of:Option Addr} {sl_way_of:Array (Option Value)} {oc_way_of kV_way_of dc_way_of pm_way_of cd_way_of ct_way_of:Value}
  {f_way_with:Addr} {od_way_with an_way_with:Option Addr} {sl_way_with:Array (Option Value)} {oc_way_with kV_way_with dc_way_with pm_way_with cd_way_with ct_way_with:Value}
  {f_steps_of_form:Addr} {od_steps_of_form an_steps_of_form:Option Addr} {sl_steps_of_form:Array (Option Value)} {oc_steps_of_form kV_steps_of_form dc_steps_of_form pm_steps_of_form cd_steps_of_form ct_steps_of_form:Value}
  {f_unfolded:Addr} {od_unfolded an_unfolded:Option Addr} {sl_unfolded:Array (Option Value)} {oc_unfolded kV_unfolded dc_unfolded pm_unfolded cd_unfolded ct_unfolded:Value}
  {f_form_let:Addr} {od_form_let an_form_let:Option Addr} {sl_form_let:Array (Option Value)} {oc_form_let kV_form_let dc_form_let pm_form_let cd_form_let ct_form_let:Value}
  {f_is_group:Addr} {od_is_group an_is_group:Option Addr} {sl_is_group:Array (Option Value)} {oc_is_group kV_is_group dc_is_group pm_is_group cd_is_group ct_is_group:Value}
  {f_is_number:Addr} {od_is_number an_is_number:Option Addr} {sl_is_number:Array (Option Value)} {oc_is_number kV_is_number dc_is_number pm_is_number cd_is_number ct_is_number:Value}
  {f_is_kept:Addr} {od_is_kept an_is_kept:Option Addr} {sl_is_kept:Array (Option Value)} {oc_is_kept kV_is_kept dc_is_kept pm_is_kept cd_is_kept ct_is_kept:Value}
  {f_is_in_order:Addr} {od_is_in_order an_is_in_order:Option Addr} {sl_is_in_order:Array (Option Value)} {oc_is_in_order kV_is_in_order dc_is_in_order pm_is_in_order cd_is_in_order ct_is_in_order:Value}
  {f_has_worth:Addr} {od_has_worth an_has_worth:Option Addr} {sl_has_worth:Array (Option Value)} {oc_has_worth kV_has_worth dc_has_worth pm_has_worth cd_has_worth ct_has_worth:Value}
  {f_law_deck:Addr} {od_law_deck an_law_deck:Option Addr} {sl_law_deck:Array (Option Value)} {oc_law_deck kV_law_deck dc_law_deck pm_law_deck cd_law_deck ct_law_deck:Value}
  {f_law_take:Addr} {od_law_take an_law_take:Option Addr} {sl_law_take:Array (Option Value)} {oc_law_take kV_law_take dc_law_take pm_law_take cd_law_take ct_law_take:Value}
  {f_law_number:Addr} {od_law_number an_law_number:Option Addr} {sl_law_number:Array (Option Value)} {oc_law_number kV_law_number dc_law_number pm_law_number cd_law_number ct_law_number:Value}
  {f_law_by:Addr} {od_law_by an_law_by:Option Addr} {sl_law_by:Array (Option Value)} {oc_law_by kV_law_by dc_law_by pm_law_by cd_law_by ct_law_by:Value}
  {f_law_worth:Addr} {od_law_worth an_law_worth:Option Addr} {sl_law_worth:Array (Option Value)} {oc_law_worth kV_law_worth dc_law_worth pm_law_worth cd_law_worth ct_law_worth:Value}
  {f_law_any_way:Addr} {od_law_any_way an_law_any_way:Option Addr} {sl_law_any_way:Array (Option Value)} {oc_law_any_way kV_law_any_way dc_law_any_way pm_law_any_way cd_law_any_way ct_law_any_way:Value}
  {f_law_good_way:Addr} {od_law_good_way an_law_good_way:Option Addr} {sl_law_good_way:Array (Option Value)} {oc_law_good_way kV_law_good_way dc_law_good_way pm_law_good_way cd_law_good_way ct_law_good_way:Value}
  {f_law_size:Addr} {od_law_size an_law_size:Option Addr} {sl_law_size:Array (Option Value)} {oc_law_size kV_law_size dc_law_size pm_law_size cd_law_size ct_law_size:Value}
  {f_law_spread:Addr} {od_law_spread an_law_spread:Option Addr} {sl_law_spread:Array (Option Value)} {oc_law_spread kV_law_spread dc_law_spread pm_law_spread cd_law_spread ct_law_spread:Value}
  {f_law_rank:Addr} {od_law_rank an_law_rank:Option Addr} {sl_law_rank:Array (Option Value)} {oc_law_rank kV_law_rank dc_law_rank pm_law_rank cd_law_rank ct_law_rank:Value}
  {f_law_compared:Addr} {od_law_compared an_law_compared:Option Addr} {sl_law_compared:Array (Option Value)} {oc_law_compared kV_law_compared dc_law_compared pm_law_compared cd_law_compared ct_law_compared:Value}
  {f_law_in_order:Addr} {od_law_in_order an_law_in_order:Option Addr} {sl_law_in_order:Array (Option Value)} {oc_law_in_order kV_law_in_order dc_law_in_order pm_law_in_order cd_law_in_order ct_law_in_order:Value}
  {f_law_form:Addr} {od_law_form an_law_form:Option Addr} {sl_law_form:Array (Option Value)} {oc_law_form kV_law_form dc_law_form pm_law_form cd_law_form ct_law_form:Value}
  {f_law_let_worth:Addr} {od_law_let_worth an_law_let_worth:Option Addr} {sl_law_let_worth:Array (Option Value)} {oc_law_let_worth kV_law_let_worth dc_law_let_worth pm_law_let_worth cd_law_let_worth ct_law_let_worth:Value}
  {f_law_rows_changed:Addr} {od_law_rows_changed an_law_rows_changed:Option Addr} {sl_law_rows_changed:Array (Option Value)} {oc_law_rows_changed kV_law_rows_changed dc_law_rows_changed pm_law_rows_changed cd_law_rows_changed ct_law_rows_changed:Value}
  {f_law_spoilt:Addr} {od_law_spoilt an_law_spoilt:Option Addr} {sl_law_spoilt:Array (Option Value)} {oc_law_spoilt kV_law_spoilt dc_law_spoilt pm_law_spoilt cd_law_spoilt ct_law_spoilt:Value}
  {f_law_many:Addr} {od_law_many an_law_many:Option Addr} {sl_law_many:Array (Option Value)} {oc_law_many kV_law_many dc_law_many pm_law_many cd_law_many ct_law_many:Value}
  {f_law_right:Addr} {od_law_right an_law_right:Option Addr} {sl_law_right:Array (Option Value)} {oc_law_right kV_law_right dc_law_right pm_law_right cd_law_right ct_law_right:Value}
  {f_law:Addr} {od_law an_law:Option Addr} {sl_law:Array (Option Value)} {oc_law kV_law dc_law pm_law cd_law ct_law:Value}
  {d_DEEDS:Addr} {es_DEEDS:Array DictEntry} {n_DEEDS:Nat}
  {d_RANKS:Addr} {es_RANKS:Array DictEntry} {n_RANKS:Nat}
  {d_PUT:Addr} {es_PUT:Array DictEntry} {n_PUT:Nat}
  {d_TAKEN:Addr} {es_TAKEN:Array DictEntry} {n_TAKEN:Nat}
  {t_r1 t_r2 t_p1 t_p2 t_t1 t_t2:Tok}
  {C_WishError N_WishError:Addr} {nm_WishError qn_WishError:Str} {bs_WishError sub_WishError:List Value} {sn_WishError:List Str} {ab_WishError:Bool} {col_WishError:Option Bool} {dd_WishError:Option Addr} {k0_WishError k1_WishError k2_WishError k3_WishError k5_WishError:Option Value}
  {C_NoWay N_NoWay:Addr} {nm_NoWay qn_NoWay:Str} {bs_NoWay sub_NoWay:List Value} {sn_NoWay:List Str} {ab_NoWay:Bool} {col_NoWay:Option Bool} {dd_NoWay:Option Addr} {k0_NoWay k1_NoWay k2_NoWay k3_NoWay k5_NoWay:Option Value} {bm_NoWay:List Value}
  {f_init:Addr}
  {od_init an_init:Option Addr} {sl_init:Array (Option Value)} {oc_init kV_init dc_init pm_init cd_init ct_init:Value}
  (a_plus:PySem.W.nsIn K mainGlobals "plus"=some (some (.ref f_plus))) (l_plus:K.lookup f_plus=some ⟨oc_plus,od_plus,.func (PySem.W.fnOf "plus" "plus" (defArgs s_plus) (defBody s_plus) (defScope s_plus) .none kV_plus dc_plus pm_plus an_plus cd_plus ct_plus),sl_plus⟩) (c_plus:PySem.W.codeIn K cd_plus "plus"=true) (k_plus:PySem.W.keepIn K (.ref f_plus)=true)
  (a_less:PySem.W.nsIn K mainGlobals "less"=some (some (.ref f_less))) (l_less:K.lookup f_less=some ⟨oc_less,od_less,.func (PySem.W.fnOf "less" "less" (defArgs s_less) (defBody s_less) (defScope s_less) .none kV_less dc_less pm_less an_less cd_less ct_less),sl_less⟩) (c_less:PySem.W.codeIn K cd_less "less"=true) (k_less:PySem.W.keepIn K (.ref f_less)=true)
  (a_times:PySem.W.nsIn K mainGlobals "times"=some (some (.ref f_times))) (l_times:K.lookup f_times=some ⟨oc_times,od_times,.func (PySem.W.fnOf "times" "times" (defArgs s_times) (defBody s_times) (defScope s_times) .none kV_times dc_times pm_times an_times cd_times ct_times),sl_times⟩) (c_times:PySem.W.codeIn K cd_times "times"=true) (k_times:PySem.W.keepIn K (.ref f_times)=true)
  (a_share:PySem.W.nsIn K mainGlobals "share"=some (some (.ref f_share))) (l_share:K.lookup f_share=some ⟨oc_share,od_share,.func (PySem.W.fnOf "share" "share" (defArgs s_share) (defBody s_share) (defScope s_share) .none kV_share dc_share pm_share an_share cd_share ct_share),sl_share⟩) (c_share:PySem.W.codeIn K cd_share "share"=true) (k_share:PySem.W.keepIn K (.ref f_share)=true)
  (a_steps_of:PySem.W.nsIn K mainGlobals "steps_of"=some (some (.ref f_steps_of))) (l_steps_of:K.lookup f_steps_of=some ⟨oc_steps_of,od_steps_of,.func (PySem.W.fnOf "steps_of" "steps_of" (defArgs s_steps_of) (defBody s_steps_of) (defScope s_steps_of) .none kV_steps_of dc_steps_of pm_steps_of an_steps_of cd_steps_of ct_steps_of),sl_steps_of⟩) (c_steps_of:PySem.W.codeIn K cd_steps_of "steps_of"=true) (k_steps_of:PySem.W.keepIn K (.ref f_steps_of)=true)
  (a_come_of:PySem.W.nsIn K mainGlobals "come_of"=some (some (.ref f_come_of))) (l_come_of:K.lookup f_come_of=some ⟨oc_come_of,od_come_of,.func (PySem.W.fnOf "come_of" "come_of" (defArgs s_come_of) (defBody s_come_of) (defScope s_come_of) .none kV_come_of dc_come_of pm_come_of an_come_of cd_come_of ct_come_of),sl_come_of⟩) (c_come_of:PySem.W.codeIn K cd_come_of "come_of"=true) (k_come_of:PySem.W.keepIn K (.ref f_come_of)=true)
  (a_number_itself:PySem.W.nsIn K mainGlobals "number_itself"=some (some (.ref f_number_itself))) (l_number_itself:K.lookup f_number_itself=some ⟨oc_number_itself,od_number_itself,.func (PySem.W.fnOf "number_itself" "number_itself" (defArgs s_number_itself) (defBody s_number_itself) (defScope s_number_itself) .none kV_number_itself dc_number_itself pm_number_itself an_number_itself cd_number_itself ct_number_itself),sl_number_itself⟩) (c_number_itself:PySem.W.codeIn K cd_number_itself "number_itself"=true) (k_number_itself:PySem.W.keepIn K (.ref f_number_itself)=true)
  (a_worth_by:PySem.W.nsIn K mainGlobals "worth_by"=some (some (.ref f_worth_by))) (l_worth_by:K.lookup f_worth_by=some ⟨oc_worth_by,od_worth_by,.func (PySem.W.fnOf "worth_by" "worth_by" (defArgs s_worth_by) (defBody s_worth_by) (defScope s_worth_by) .none kV_worth_by dc_worth_by pm_worth_by an_worth_by cd_worth_by ct_worth_by),sl_worth_by⟩) (c_worth_by:PySem.W.codeIn K cd_worth_by "worth_by"=true) (k_worth_by:PySem.W.keepIn K (.ref f_worth_by)=true)
  (a_worth_of:PySem.W.nsIn K mainGlobals "worth_of"=some (some (.ref f_worth_of))) (l_worth_of:K.lookup f_worth_of=some ⟨oc_worth_of,od_worth_of,.func (PySem.W.fnOf "worth_of" "worth_of" (defArgs s_worth_of) (defBody s_worth_of) (defScope s_worth_of) .none kV_worth_of dc_worth_of pm_worth_of an_worth_of cd_worth_of ct_worth_of),sl_worth_of⟩) (c_worth_of:PySem.W.codeIn K cd_worth_of "worth_of"=true) (k_worth_of:PySem.W.keepIn K (.ref f_worth_of)=true)
  (a_is_of:PySem.W.nsIn K mainGlobals "is_of"=some (some (.ref f_is_of))) (l_is_of:K.lookup f_is_of=some ⟨oc_is_of,od_is_of,.func (PySem.W.fnOf "is_of" "is_of" (defArgs s_is_of) (defBody s_is_of) (defScope s_is_of) .none kV_is_of dc_is_of pm_is_of an_is_of cd_is_of ct_is_of),sl_is_of⟩) (c_is_of:PySem.W.codeIn K cd_is_of "is_of"=true) (k_is_of:PySem.W.keepIn K (.ref f_is_of)=true)
  (a_order_of:PySem.W.nsIn K mainGlobals "order_of"=some (some (.ref f_order_of))) (l_order_of:K.lookup f_order_of=some ⟨oc_order_of,od_order_of,.func (PySem.W.fnOf "order_of" "order_of" (defArgs s_order_of) (defBody s_order_of) (defScope s_order_of) .none kV_order_of dc_order_of pm_order_of an_order_of cd_order_of ct_order_of),sl_order_of⟩) (c_order_of:PySem.W.codeIn K cd_order_of "order_of"=true) (k_order_of:PySem.W.keepIn K (.ref f_order_of)=true)
  (a_way_of:PySem.W.nsIn K mainGlobals "way_of"=some (some (.ref f_way_of))) (l_way_of:K.lookup f_way_of=some ⟨oc_way_of,od_way_of,.func (PySem.W.fnOf "way_of" "way_of" (defArgs s_way_of) (defBody s_way_of) (defScope s_way_of) .none kV_way_of dc_way_of pm_way_of an_way_of cd_way_of ct_way_of),sl_way_of⟩) (c_way_of:PySem.W.codeIn K cd_way_of "way_of"=true) (k_way_of:PySem.W.keepIn K (.ref f_way_of)=true)
  (a_way_with:PySem.W.nsIn K mainGlobals "way_with"=some (some (.ref f_way_with))) (l_way_with:K.lookup f_way_with=some ⟨oc_way_with,od_way_with,.func (PySem.W.fnOf "way_with" "way_with" (defArgs s_way_with) (defBody s_way_with) (defScope s_way_with) .none kV_way_with dc_way_with pm_way_with an_way_with cd_way_with ct_way_with),sl_way_with⟩) (c_way_with:PySem.W.codeIn K cd_way_with "way_with"=true) (k_way_with:PySem.W.keepIn K (.ref f_way_with)=true)
  (a_steps_of_form:PySem.W.nsIn K mainGlobals "steps_of_form"=some (some (.ref f_steps_of_form))) (l_steps_of_form:K.lookup f_steps_of_form=some ⟨oc_steps_of_form,od_steps_of_form,.func (PySem.W.fnOf "steps_of_form" "steps_of_form" (defArgs s_steps_of_form) (defBody s_steps_of_form) (defScope s_steps_of_form) .none kV_steps_of_form dc_steps_of_form pm_steps_of_form an_steps_of_form cd_steps_of_form ct_steps_of_form),sl_steps_of_form⟩) (c_steps_of_form:PySem.W.codeIn K cd_steps_of_form "steps_of_form"=true) (k_steps_of_form:PySem.W.keepIn K (.ref f_steps_of_form)=true)
  (a_unfolded:PySem.W.nsIn K mainGlobals "unfolded"=some (some (.ref f_unfolded))) (l_unfolded:K.lookup f_unfolded=some ⟨oc_unfolded,od_unfolded,.func (PySem.W.fnOf "unfolded" "unfolded" (defArgs s_unfolded) (defBody s_unfolded) (defScope s_unfolded) .none kV_unfolded dc_unfolded pm_unfolded an_unfolded cd_unfolded ct_unfolded),sl_unfolded⟩) (c_unfolded:PySem.W.codeIn K cd_unfolded "unfolded"=true) (k_unfolded:PySem.W.keepIn K (.ref f_unfolded)=true)
  (a_form_let:PySem.W.nsIn K mainGlobals "form_let"=some (some (.ref f_form_let))) (l_form_let:K.lookup f_form_let=some ⟨oc_form_let,od_form_let,.func (PySem.W.fnOf "form_let" "form_let" (defArgs s_form_let) (defBody s_form_let) (defScope s_form_let) .none kV_form_let dc_form_let pm_form_let an_form_let cd_form_let ct_form_let),sl_form_let⟩) (c_form_let:PySem.W.codeIn K cd_form_let "form_let"=true) (k_form_let:PySem.W.keepIn K (.ref f_form_let)=true)
  (a_is_group:PySem.W.nsIn K mainGlobals "is_group"=some (some (.ref f_is_group))) (l_is_group:K.lookup f_is_group=some ⟨oc_is_group,od_is_group,.func (PySem.W.fnOf "is_group" "is_group" (defArgs s_is_group) (defBody s_is_group) (defScope s_is_group) .none kV_is_group dc_is_group pm_is_group an_is_group cd_is_group ct_is_group),sl_is_group⟩) (c_is_group:PySem.W.codeIn K cd_is_group "is_group"=true) (k_is_group:PySem.W.keepIn K (.ref f_is_group)=true)
  (a_is_number:PySem.W.nsIn K mainGlobals "is_number"=some (some (.ref f_is_number))) (l_is_number:K.lookup f_is_number=some ⟨oc_is_number,od_is_number,.func (PySem.W.fnOf "is_number" "is_number" (defArgs s_is_number) (defBody s_is_number) (defScope s_is_number) .none kV_is_number dc_is_number pm_is_number an_is_number cd_is_number ct_is_number),sl_is_number⟩) (c_is_number:PySem.W.codeIn K cd_is_number "is_number"=true) (k_is_number:PySem.W.keepIn K (.ref f_is_number)=true)
  (a_is_kept:PySem.W.nsIn K mainGlobals "is_kept"=some (some (.ref f_is_kept))) (l_is_kept:K.lookup f_is_kept=some ⟨oc_is_kept,od_is_kept,.func (PySem.W.fnOf "is_kept" "is_kept" (defArgs s_is_kept) (defBody s_is_kept) (defScope s_is_kept) .none kV_is_kept dc_is_kept pm_is_kept an_is_kept cd_is_kept ct_is_kept),sl_is_kept⟩) (c_is_kept:PySem.W.codeIn K cd_is_kept "is_kept"=true) (k_is_kept:PySem.W.keepIn K (.ref f_is_kept)=true)
  (a_is_in_order:PySem.W.nsIn K mainGlobals "is_in_order"=some (some (.ref f_is_in_order))) (l_is_in_order:K.lookup f_is_in_order=some ⟨oc_is_in_order,od_is_in_order,.func (PySem.W.fnOf "is_in_order" "is_in_order" (defArgs s_is_in_order) (defBody s_is_in_order) (defScope s_is_in_order) .none kV_is_in_order dc_is_in_order pm_is_in_order an_is_in_order cd_is_in_order ct_is_in_order),sl_is_in_order⟩) (c_is_in_order:PySem.W.codeIn K cd_is_in_order "is_in_order"=true) (k_is_in_order:PySem.W.keepIn K (.ref f_is_in_order)=true)
  (a_has_worth:PySem.W.nsIn K mainGlobals "has_worth"=some (some (.ref f_has_worth))) (l_has_worth:K.lookup f_has_worth=some ⟨oc_has_worth,od_has_worth,.func (PySem.W.fnOf "has_worth" "has_worth" (defArgs s_has_worth) (defBody s_has_worth) (defScope s_has_worth) .none kV_has_worth dc_has_worth pm_has_worth an_has_worth cd_has_worth ct_has_worth),sl_has_worth⟩) (c_has_worth:PySem.W.codeIn K cd_has_worth "has_worth"=true) (k_has_worth:PySem.W.keepIn K (.ref f_has_worth)=true)
  (a_law_deck:PySem.W.nsIn K mainGlobals "_law_deck"=some (some (.ref f_law_deck))) (l_law_deck:K.lookup f_law_deck=some ⟨oc_law_deck,od_law_deck,.func (PySem.W.fnOf "_law_deck" "_law_deck" (defArgs s_law_deck) (defBody s_law_deck) (defScope s_law_deck) .none kV_law_deck dc_law_deck pm_law_deck an_law_deck cd_law_deck ct_law_deck),sl_law_deck⟩) (c_law_deck:PySem.W.codeIn K cd_law_deck "_law_deck"=true) (k_law_deck:PySem.W.keepIn K (.ref f_law_deck)=true)
  (a_law_take:PySem.W.nsIn K mainGlobals "_law_take"=some (some (.ref f_law_take))) (l_law_take:K.lookup f_law_take=some ⟨oc_law_take,od_law_take,.func (PySem.W.fnOf "_law_take" "_law_take" (defArgs s_law_take) (defBody s_law_take) (defScope s_law_take) .none kV_law_take dc_law_take pm_law_take an_law_take cd_law_take ct_law_take),sl_law_take⟩) (c_law_take:PySem.W.codeIn K cd_law_take "_law_take"=true) (k_law_take:PySem.W.keepIn K (.ref f_law_take)=true)
  (a_law_number:PySem.W.nsIn K mainGlobals "_law_number"=some (some (.ref f_law_number))) (l_law_number:K.lookup f_law_number=some ⟨oc_law_number,od_law_number,.func (PySem.W.fnOf "_law_number" "_law_number" (defArgs s_law_number) (defBody s_law_number) (defScope s_law_number) .none kV_law_number dc_law_number pm_law_number an_law_number cd_law_number ct_law_number),sl_law_number⟩) (c_law_number:PySem.W.codeIn K cd_law_number "_law_number"=true) (k_law_number:PySem.W.keepIn K (.ref f_law_number)=true)
  (a_law_by:PySem.W.nsIn K mainGlobals "_law_by"=some (some (.ref f_law_by))) (l_law_by:K.lookup f_law_by=some ⟨oc_law_by,od_law_by,.func (PySem.W.fnOf "_law_by" "_law_by" (defArgs s_law_by) (defBody s_law_by) (defScope s_law_by) .none kV_law_by dc_law_by pm_law_by an_law_by cd_law_by ct_law_by),sl_law_by⟩) (c_law_by:PySem.W.codeIn K cd_law_by "_law_by"=true) (k_law_by:PySem.W.keepIn K (.ref f_law_by)=true)
  (a_law_worth:PySem.W.nsIn K mainGlobals "_law_worth"=some (some (.ref f_law_worth))) (l_law_worth:K.lookup f_law_worth=some ⟨oc_law_worth,od_law_worth,.func (PySem.W.fnOf "_law_worth" "_law_worth" (defArgs s_law_worth) (defBody s_law_worth) (defScope s_law_worth) .none kV_law_worth dc_law_worth pm_law_worth an_law_worth cd_law_worth ct_law_worth),sl_law_worth⟩) (c_law_worth:PySem.W.codeIn K cd_law_worth "_law_worth"=true) (k_law_worth:PySem.W.keepIn K (.ref f_law_worth)=true)
  (a_law_any_way:PySem.W.nsIn K mainGlobals "_law_any_way"=some (some (.ref f_law_any_way))) (l_law_any_way:K.lookup f_law_any_way=some ⟨oc_law_any_way,od_law_any_way,.func (PySem.W.fnOf "_law_any_way" "_law_any_way" (defArgs s_law_any_way) (defBody s_law_any_way) (defScope s_law_any_way) .none kV_law_any_way dc_law_any_way pm_law_any_way an_law_any_way cd_law_any_way ct_law_any_way),sl_law_any_way⟩) (c_law_any_way:PySem.W.codeIn K cd_law_any_way "_law_any_way"=true) (k_law_any_way:PySem.W.keepIn K (.ref f_law_any_way)=true)
  (a_law_good_way:PySem.W.nsIn K mainGlobals "_law_good_way"=some (some (.ref f_law_good_way))) (l_law_good_way:K.lookup f_law_good_way=some ⟨oc_law_good_way,od_law_good_way,.func (PySem.W.fnOf "_law_good_way" "_law_good_way" (defArgs s_law_good_way) (defBody s_law_good_way) (defScope s_law_good_way) .none kV_law_good_way dc_law_good_way pm_law_good_way an_law_good_way cd_law_good_way ct_law_good_way),sl_law_good_way⟩) (c_law_good_way:PySem.W.codeIn K cd_law_good_way "_law_good_way"=true) (k_law_good_way:PySem.W.keepIn K (.ref f_law_good_way)=true)
  (a_law_size:PySem.W.nsIn K mainGlobals "_law_size"=some (some (.ref f_law_size))) (l_law_size:K.lookup f_law_size=some ⟨oc_law_size,od_law_size,.func (PySem.W.fnOf "_law_size" "_law_size" (defArgs s_law_size) (defBody s_law_size) (defScope s_law_size) .none kV_law_size dc_law_size pm_law_size an_law_size cd_law_size ct_law_size),sl_law_size⟩) (c_law_size:PySem.W.codeIn K cd_law_size "_law_size"=true) (k_law_size:PySem.W.keepIn K (.ref f_law_size)=true)
  (a_law_spread:PySem.W.nsIn K mainGlobals "_law_spread"=some (some (.ref f_law_spread))) (l_law_spread:K.lookup f_law_spread=some ⟨oc_law_spread,od_law_spread,.func (PySem.W.fnOf "_law_spread" "_law_spread" (defArgs s_law_spread) (defBody s_law_spread) (defScope s_law_spread) .none kV_law_spread dc_law_spread pm_law_spread an_law_spread cd_law_spread ct_law_spread),sl_law_spread⟩) (c_law_spread:PySem.W.codeIn K cd_law_spread "_law_spread"=true) (k_law_spread:PySem.W.keepIn K (.ref f_law_spread)=true)
  (a_law_rank:PySem.W.nsIn K mainGlobals "_law_rank"=some (some (.ref f_law_rank))) (l_law_rank:K.lookup f_law_rank=some ⟨oc_law_rank,od_law_rank,.func (PySem.W.fnOf "_law_rank" "_law_rank" (defArgs s_law_rank) (defBody s_law_rank) (defScope s_law_rank) .none kV_law_rank dc_law_rank pm_law_rank an_law_rank cd_law_rank ct_law_rank),sl_law_rank⟩) (c_law_rank:PySem.W.codeIn K cd_law_rank "_law_rank"=true) (k_law_rank:PySem.W.keepIn K (.ref f_law_rank)=true)
  (a_law_compared:PySem.W.nsIn K mainGlobals "_law_compared"=some (some (.ref f_law_compared))) (l_law_compared:K.lookup f_law_compared=some ⟨oc_law_compared,od_law_compared,.func (PySem.W.fnOf "_law_compared" "_law_compared" (defArgs s_law_compared) (defBody s_law_compared) (defScope s_law_compared) .none kV_law_compared dc_law_compared pm_law_compared an_law_compared cd_law_compared ct_law_compared),sl_law_compared⟩) (c_law_compared:PySem.W.codeIn K cd_law_compared "_law_compared"=true) (k_law_compared:PySem.W.keepIn K (.ref f_law_compared)=true)
  (a_law_in_order:PySem.W.nsIn K mainGlobals "_law_in_order"=some (some (.ref f_law_in_order))) (l_law_in_order:K.lookup f_law_in_order=some ⟨oc_law_in_order,od_law_in_order,.func (PySem.W.fnOf "_law_in_order" "_law_in_order" (defArgs s_law_in_order) (defBody s_law_in_order) (defScope s_law_in_order) .none kV_law_in_order dc_law_in_order pm_law_in_order an_law_in_order cd_law_in_order ct_law_in_order),sl_law_in_order⟩) (c_law_in_order:PySem.W.codeIn K cd_law_in_order "_law_in_order"=true) (k_law_in_order:PySem.W.keepIn K (.ref f_law_in_order)=true)
  (a_law_form:PySem.W.nsIn K mainGlobals "_law_form"=some (some (.ref f_law_form))) (l_law_form:K.lookup f_law_form=some ⟨oc_law_form,od_law_form,.func (PySem.W.fnOf "_law_form" "_law_form" (defArgs s_law_form) (defBody s_law_form) (defScope s_law_form) .none kV_law_form dc_law_form pm_law_form an_law_form cd_law_form ct_law_form),sl_law_form⟩) (c_law_form:PySem.W.codeIn K cd_law_form "_law_form"=true) (k_law_form:PySem.W.keepIn K (.ref f_law_form)=true)
  (a_law_let_worth:PySem.W.nsIn K mainGlobals "_law_let_worth"=some (some (.ref f_law_let_worth))) (l_law_let_worth:K.lookup f_law_let_worth=some ⟨oc_law_let_worth,od_law_let_worth,.func (PySem.W.fnOf "_law_let_worth" "_law_let_worth" (defArgs s_law_let_worth) (defBody s_law_let_worth) (defScope s_law_let_worth) .none kV_law_let_worth dc_law_let_worth pm_law_let_worth an_law_let_worth cd_law_let_worth ct_law_let_worth),sl_law_let_worth⟩) (c_law_let_worth:PySem.W.codeIn K cd_law_let_worth "_law_let_worth"=true) (k_law_let_worth:PySem.W.keepIn K (.ref f_law_let_worth)=true)
  (a_law_rows_changed:PySem.W.nsIn K mainGlobals "_law_rows_changed"=some (some (.ref f_law_rows_changed))) (l_law_rows_changed:K.lookup f_law_rows_changed=some ⟨oc_law_rows_changed,od_law_rows_changed,.func (PySem.W.fnOf "_law_rows_changed" "_law_rows_changed" (defArgs s_law_rows_changed) (defBody s_law_rows_changed) (defScope s_law_rows_changed) .none kV_law_rows_changed dc_law_rows_changed pm_law_rows_changed an_law_rows_changed cd_law_rows_changed ct_law_rows_changed),sl_law_rows_changed⟩) (c_law_rows_changed:PySem.W.codeIn K cd_law_rows_changed "_law_rows_changed"=true) (k_law_rows_changed:PySem.W.keepIn K (.ref f_law_rows_changed)=true)
  (a_law_spoilt:PySem.W.nsIn K mainGlobals "_law_spoilt"=some (some (.ref f_law_spoilt))) (l_law_spoilt:K.lookup f_law_spoilt=some ⟨oc_law_spoilt,od_law_spoilt,.func (PySem.W.fnOf "_law_spoilt" "_law_spoilt" (defArgs s_law_spoilt) (defBody s_law_spoilt) (defScope s_law_spoilt) .none kV_law_spoilt dc_law_spoilt pm_law_spoilt an_law_spoilt cd_law_spoilt ct_law_spoilt),sl_law_spoilt⟩) (c_law_spoilt:PySem.W.codeIn K cd_law_spoilt "_law_spoilt"=true) (k_law_spoilt:PySem.W.keepIn K (.ref f_law_spoilt)=true)
  (a_law_many:PySem.W.nsIn K mainGlobals "_law_many"=some (some (.ref f_law_many))) (l_law_many:K.lookup f_law_many=some ⟨oc_law_many,od_law_many,.func (PySem.W.fnOf "_law_many" "_law_many" (defArgs s_law_many) (defBody s_law_many) (defScope s_law_many) .none kV_law_many dc_law_many pm_law_many an_law_many cd_law_many ct_law_many),sl_law_many⟩) (c_law_many:PySem.W.codeIn K cd_law_many "_law_many"=true) (k_law_many:PySem.W.keepIn K (.ref f_law_many)=true)
  (a_law_right:PySem.W.nsIn K mainGlobals "_law_right"=some (some (.ref f_law_right))) (l_law_right:K.lookup f_law_right=some ⟨oc_law_right,od_law_right,.func (PySem.W.fnOf "_law_right" "_law_right" (defArgs s_law_right) (defBody s_law_right) (defScope s_law_right) .none kV_law_right dc_law_right pm_law_right an_law_right cd_law_right ct_law_right),sl_law_right⟩) (c_law_right:PySem.W.codeIn K cd_law_right "_law_right"=true) (k_law_right:PySem.W.keepIn K (.ref f_law_right)=true)
  (a_law:PySem.W.nsIn K mainGlobals "law"=some (some (.ref f_law))) (l_law:K.lookup f_law=some ⟨oc_law,od_law,.func (PySem.W.fnOf "law" "law" (defArgs s_law) (defBody s_law) (defScope s_law) .none kV_law dc_law pm_law an_law cd_law ct_law),sl_law⟩) (c_law:PySem.W.codeIn K cd_law "law"=true) (k_law:PySem.W.keepIn K (.ref f_law)=true)
  (a_DEEDS:PySem.W.nsIn K mainGlobals "DEEDS"=some (some (.ref d_DEEDS))) (l_DEEDS:K.lookup d_DEEDS=some ⟨.type "dict",none,.dict es_DEEDS n_DEEDS,#[]⟩) (k_DEEDS:PySem.W.KeysLit w.params es_DEEDS.toList)
  (e_DEEDS_plus:PySem.W.nsIn K d_DEEDS "plus"=some (some (.ref f_plus)))
  (e_DEEDS_less:PySem.W.nsIn K d_DEEDS "less"=some (some (.ref f_less)))
  (e_DEEDS_times:PySem.W.nsIn K d_DEEDS "times"=some (some (.ref f_times)))
  (e_DEEDS_share:PySem.W.nsIn K d_DEEDS "share"=some (some (.ref f_share)))
  (a_RANKS:PySem.W.nsIn K mainGlobals "RANKS"=some (some (.ref d_RANKS))) (l_RANKS:K.lookup d_RANKS=some ⟨.type "dict",none,.dict es_RANKS n_RANKS,#[]⟩) (k_RANKS:PySem.W.KeysLit w.params es_RANKS.toList)
  (e_RANKS_sum:PySem.W.nsIn K d_RANKS "sum"=some (some (.int 2 t_r1)))
  (e_RANKS_product:PySem.W.nsIn K d_RANKS "product"=some (some (.int 3 t_r2)))
  (a_PUT:PySem.W.nsIn K mainGlobals "PUT"=some (some (.ref d_PUT))) (l_PUT:K.lookup d_PUT=some ⟨.type "dict",none,.dict es_PUT n_PUT,#[]⟩) (k_PUT:PySem.W.KeysLit w.params es_PUT.toList)
  (e_PUT_sum:PySem.W.nsIn K d_PUT "sum"=some (some (.str "plus" t_p1)))
  (e_PUT_product:PySem.W.nsIn K d_PUT "product"=some (some (.str "times" t_p2)))
  (a_TAKEN:PySem.W.nsIn K mainGlobals "TAKEN"=some (some (.ref d_TAKEN))) (l_TAKEN:K.lookup d_TAKEN=some ⟨.type "dict",none,.dict es_TAKEN n_TAKEN,#[]⟩) (k_TAKEN:PySem.W.KeysLit w.params es_TAKEN.toList)
  (e_TAKEN_sum:PySem.W.nsIn K d_TAKEN "sum"=some (some (.str "less" t_t1)))
  (e_TAKEN_product:PySem.W.nsIn K d_TAKEN "product"=some (some (.str "share" t_t2)))
  (z_min:PySem.W.nsIn K mainGlobals "min"=some none)
  (z_sorted:PySem.W.nsIn K mainGlobals "sorted"=some none)
  (z_all:PySem.W.nsIn K mainGlobals "all"=some none)
  (z_any:PySem.W.nsIn K mainGlobals "any"=some none)
  (z_list:PySem.W.nsIn K mainGlobals "list"=some none)
  (z_enumerate:PySem.W.nsIn K mainGlobals "enumerate"=some none)
  (a_WishError:PySem.W.nsIn K mainGlobals "WishError"=some (some (.ref C_WishError)))
  (l_WishError:K.lookup C_WishError=some (excClassObj nm_WishError qn_WishError C_WishError N_WishError bs_WishError vMro true sn_WishError sub_WishError ab_WishError col_WishError dd_WishError k0_WishError k1_WishError k2_WishError k3_WishError k5_WishError "ValueError.__new__"))
  (t_WishError:PySem.W.tailIn K vMro vMro=true)
  (kp_WishError:PySem.W.keepIn K (.ref C_WishError)=true)
  (ga_WishError:PySem.W.findIn K (.ref C_WishError) "__getattribute__"=some (some (.builtin "BaseException.__getattribute__")))
  (gh_WishError:PySem.W.findIn K (.ref C_WishError) "__getattr__"=some none)
  (gc_WishError:PySem.W.findIn K (.ref C_WishError) "__class__"=some (some (.builtin "object.__class__")))
  (sa_WishError:PySem.W.findIn K (.ref C_WishError) "__setattr__"=some (some (.builtin "object.__setattr__")))
  (a_NoWay:PySem.W.nsIn K mainGlobals "NoWay"=some (some (.ref C_NoWay)))
  (l_NoWay:K.lookup C_NoWay=some (excClassObj nm_NoWay qn_NoWay C_NoWay N_NoWay bs_NoWay bm_NoWay true sn_NoWay sub_NoWay ab_NoWay col_NoWay dd_NoWay k0_NoWay k1_NoWay k2_NoWay k3_NoWay k5_NoWay "ValueError.__new__"))
  (t_NoWay:PySem.W.tailIn K vMro bm_NoWay=true)
  (kp_NoWay:PySem.W.keepIn K (.ref C_NoWay)=true)
  (ga_NoWay:PySem.W.findIn K (.ref C_NoWay) "__getattribute__"=some (some (.builtin "BaseException.__getattribute__")))
  (gh_NoWay:PySem.W.findIn K (.ref C_NoWay) "__getattr__"=some none)
  (gc_NoWay:PySem.W.findIn K (.ref C_NoWay) "__class__"=some (some (.builtin "object.__class__")))
  (sa_NoWay:PySem.W.findIn K (.ref C_NoWay) "__setattr__"=some (some (.builtin "object.__setattr__")))
  (i_NoWay:PySem.W.findIn K (.ref C_NoWay) "__init__"=some (some (.ref f_init)))
  (y_init:PySem.W.typeIn K (.ref f_init)=some (.type "function"))
  (l_init:K.lookup f_init=some ⟨oc_init,od_init,.func (PySem.W.fnOf "__init__" "NoWay.__init__" (defArgs s_init) (defBody s_init) (defScope s_init) .none kV_init dc_init pm_init an_init cd_init ct_init),sl_init⟩)
  (cd_ok_init:PySem.W.codeIn K cd_init "NoWay.__init__"=true)
  (k_init:PySem.W.keepIn K (.ref f_init)=true)
  (w_NoWay:PySem.W.findIn K (.ref C_NoWay) "word"=some none)
  (z_len:PySem.W.nsIn K mainGlobals "len"=some none)
  (z_sum:PySem.W.nsIn K mainGlobals "sum"=some none)
  (z_range:PySem.W.nsIn K mainGlobals "range"=some none)
  (z_isinstance:PySem.W.nsIn K mainGlobals "isinstance"=some none)
  (z_int:PySem.W.nsIn K mainGlobals "int"=some none)
  (z_str:PySem.W.nsIn K mainGlobals "str"=some none)
  (z_bool:PySem.W.nsIn K mainGlobals "bool"=some none)
  (z_tuple:PySem.W.nsIn K mainGlobals "tuple"=some none)
  (z_zip:PySem.W.nsIn K mainGlobals "zip"=some none) :
  ∃ fd:FuncData,(∀ (s:Shared) (v:Value),BindsTo s fd ⟨[v],[]⟩ [("script",v)])∧∀ base:Heap,K.In base→base.Ns mainGlobals mg→FnOk l.prog w K mg base CX0 50 fa fd ["script"] (spLaw K):=by
 have e:=hfa.symm.trans (PySem.W.mg_of X G a_law)
 cases e
 have F_plus:=fun_mk (st:=s_plus) l_plus c_plus k_plus
 have b_plus:=F_plus.binds (ps:=["first","second"]) fun _ _ _ _ _ _ us hl=>match us,hl with | [_,_],_=>rfl
 have m_plus:=PySem.W.mg_of X G a_plus
 have F_less:=fun_mk (st:=s_less) l_less c_less k_less
 have b_less:=F_less.binds (ps:=["first","second"]) fun _ _ _ _ _ _ us hl=>match us,hl with | [_,_],_=>rfl
 have m_less:=PySem.W.mg_of X G a_less
 have F_times:=fun_mk (st:=s_times) l_times c_times k_times
 have b_times:=F_times.binds (ps:=["first","second"]) fun _ _ _ _ _ _ us hl=>match us,hl with | [_,_],_=>rfl
 have m_times:=PySem.W.mg_of X G a_times
 have F_share:=fun_mk (st:=s_share) l_share c_share k_share
 have b_share:=F_share.binds (ps:=["first","second"]) fun _ _ _ _ _ _ us hl=>match us,hl with | [_,_],_=>rfl
 have m_share:=PySem.W.mg_of X G a_share
 have F_steps_of:=fun_mk (st:=s_steps_of) l_steps_of c_steps_of k_steps_of
 have b_steps_of:=F_steps_of.binds (ps:=["way"]) fun _ _ _ _ _ _ us hl=>match us,hl with | [_],_=>rfl
 have m_steps_of:=PySem.W.mg_of X G a_steps_of
 have F_come_of:=fun_mk (st:=s_come_of) l_come_of c_come_of k_come_of
 have b_come_of:=F_come_of.binds (ps:=["steps","of_number","of_word"]) fun _ _ _ _ _ _ us hl=>match us,hl with | [_,_,_],_=>rfl
 have m_come_of:=PySem.W.mg_of X G a_come_of
 have F_number_itself:=fun_mk (st:=s_number_itself) l_number_itself c_number_itself k_number_itself
 have b_number_itself:=F_number_itself.binds (ps:=["number"]) fun _ _ _ _ _ _ us hl=>match us,hl with | [_],_=>rfl
 have m_number_itself:=PySem.W.mg_of X G a_number_itself
 have F_worth_by:=fun_mk (st:=s_worth_by) l_worth_by c_worth_by k_worth_by
 have b_worth_by:=F_worth_by.binds (ps:=["word","first","second"]) fun _ _ _ _ _ _ us hl=>match us,hl with | [_,_,_],_=>rfl
 have m_worth_by:=PySem.W.mg_of X G a_worth_by
 have F_worth_of:=fun_mk (st:=s_worth_of) l_worth_of c_worth_of k_worth_of
 have b_worth_of:=F_worth_of.binds (ps:=["way"]) fun _ _ _ _ _ _ us hl=>match us,hl with | [_],_=>rfl
 have m_worth_of:=PySem.W.mg_of X G a_worth_of
 have F_is_of:=fun_mk (st:=s_is_of) l_is_of c_is_of k_is_of
 have b_is_of:=F_is_of.binds (ps:=["kind","form"]) fun _ _ _ _ _ _ us hl=>match us,hl with | [_,_],_=>rfl
 have m_is_of:=PySem.W.mg_of X G a_is_of
 have F_order_of:=fun_mk (st:=s_order_of) l_order_of c_order_of k_order_of
 have b_order_of:=F_order_of.binds (ps:=["form"]) fun _ _ _ _ _ _ us hl=>match us,hl with | [_],_=>rfl
 have m_order_of:=PySem.W.mg_of X G a_order_of
 have F_way_of:=fun_mk (st:=s_way_of) l_way_of c_way_of k_way_of
 have b_way_of:=F_way_of.binds (ps:=["form"]) fun _ _ _ _ _ _ us hl=>match us,hl with | [_],_=>rfl
 have m_way_of:=PySem.W.mg_of X G a_way_of
 have F_way_with:=fun_mk (st:=s_way_with) l_way_with c_way_with k_way_with
 have b_way_with:=F_way_with.binds (ps:=["word","first","second"]) fun _ _ _ _ _ _ us hl=>match us,hl with | [_,_,_],_=>rfl
 have m_way_with:=PySem.W.mg_of X G a_way_with
 have F_steps_of_form:=fun_mk (st:=s_steps_of_form) l_steps_of_form c_steps_of_form k_steps_of_form
 have b_steps_of_form:=F_steps_of_form.binds (ps:=["form"]) fun _ _ _ _ _ _ us hl=>match us,hl with | [_],_=>rfl
 have m_steps_of_form:=PySem.W.mg_of X G a_steps_of_form
 have F_unfolded:=fun_mk (st:=s_unfolded) l_unfolded c_unfolded k_unfolded
 have b_unfolded:=F_unfolded.binds (ps:=["form"]) fun _ _ _ _ _ _ us hl=>match us,hl with | [_],_=>rfl
 have m_unfolded:=PySem.W.mg_of X G a_unfolded
 have F_form_let:=fun_mk (st:=s_form_let) l_form_let c_form_let k_form_let
 have b_form_let:=F_form_let.binds (ps:=["form"]) fun _ _ _ _ _ _ us hl=>match us,hl with | [_],_=>rfl
 have m_form_let:=PySem.W.mg_of X G a_form_let
 have F_is_group:=fun_mk (st:=s_is_group) l_is_group c_is_group k_is_group
 have b_is_group:=F_is_group.binds (ps:=["form"]) fun _ _ _ _ _ _ us hl=>match us,hl with | [_],_=>rfl
 have m_is_group:=PySem.W.mg_of X G a_is_group
 have F_is_number:=fun_mk (st:=s_is_number) l_is_number c_is_number k_is_number
 have b_is_number:=F_is_number.binds (ps:=["form"]) fun _ _ _ _ _ _ us hl=>match us,hl with | [_],_=>rfl
 have m_is_number:=PySem.W.mg_of X G a_is_number
 have F_is_kept:=fun_mk (st:=s_is_kept) l_is_kept c_is_kept k_is_kept
 have b_is_kept:=F_is_kept.binds (ps:=["group"]) fun _ _ _ _ _ _ us hl=>match us,hl with | [_],_=>rfl
 have m_is_kept:=PySem.W.mg_of X G a_is_kept
 have F_is_in_order:=fun_mk (st:=s_is_in_order) l_is_in_order c_is_in_order k_is_in_order
 have b_is_in_order:=F_is_in_order.binds (ps:=["parts"]) fun _ _ _ _ _ _ us hl=>match us,hl with | [_],_=>rfl
 have m_is_in_order:=PySem.W.mg_of X G a_is_in_order
 have F_has_worth:=fun_mk (st:=s_has_worth) l_has_worth c_has_worth k_has_worth
 have b_has_worth:=F_has_worth.binds (ps:=["way"]) fun _ _ _ _ _ _ us hl=>match us,hl with | [_],_=>rfl
 have m_has_worth:=PySem.W.mg_of X G a_has_worth
 have F_law_deck:=fun_mk (st:=s_law_deck) l_law_deck c_law_deck k_law_deck
 have b_law_deck:=F_law_deck.binds (ps:=["script"]) fun _ _ _ _ _ _ us hl=>match us,hl with | [_],_=>rfl
 have m_law_deck:=PySem.W.mg_of X G a_law_deck
 have F_law_take:=fun_mk (st:=s_law_take) l_law_take c_law_take k_law_take
 have b_law_take:=F_law_take.binds (ps:=["deck","many"]) fun _ _ _ _ _ _ us hl=>match us,hl with | [_,_],_=>rfl
 have m_law_take:=PySem.W.mg_of X G a_law_take
 have F_law_number:=fun_mk (st:=s_law_number) l_law_number c_law_number k_law_number
 have b_law_number:=F_law_number.binds (ps:=["deck"]) fun _ _ _ _ _ _ us hl=>match us,hl with | [_],_=>rfl
 have m_law_number:=PySem.W.mg_of X G a_law_number
 have F_law_by:=fun_mk (st:=s_law_by) l_law_by c_law_by k_law_by
 have b_law_by:=F_law_by.binds (ps:=["word","one","other"]) fun _ _ _ _ _ _ us hl=>match us,hl with | [_,_,_],_=>rfl
 have m_law_by:=PySem.W.mg_of X G a_law_by
 have F_law_worth:=fun_mk (st:=s_law_worth) l_law_worth c_law_worth k_law_worth
 have b_law_worth:=F_law_worth.binds (ps:=["way"]) fun _ _ _ _ _ _ us hl=>match us,hl with | [_],_=>rfl
 have m_law_worth:=PySem.W.mg_of X G a_law_worth
 have F_law_any_way:=fun_mk (st:=s_law_any_way) l_law_any_way c_law_any_way k_law_any_way
 have b_law_any_way:=F_law_any_way.binds (ps:=["deck","many"]) fun _ _ _ _ _ _ us hl=>match us,hl with | [_,_],_=>rfl
 have m_law_any_way:=PySem.W.mg_of X G a_law_any_way
 have F_law_good_way:=fun_mk (st:=s_law_good_way) l_law_good_way c_law_good_way k_law_good_way
 have b_law_good_way:=F_law_good_way.binds (ps:=["deck","many"]) fun _ _ _ _ _ _ us hl=>match us,hl with | [_,_],_=>rfl
 have m_law_good_way:=PySem.W.mg_of X G a_law_good_way
 have F_law_size:=fun_mk (st:=s_law_size) l_law_size c_law_size k_law_size
 have b_law_size:=F_law_size.binds (ps:=["deck"]) fun _ _ _ _ _ _ us hl=>match us,hl with | [_],_=>rfl
 have m_law_size:=PySem.W.mg_of X G a_law_size
 have F_law_spread:=fun_mk (st:=s_law_spread) l_law_spread c_law_spread k_law_spread
 have b_law_spread:=F_law_spread.binds (ps:=["way","words","sign"]) fun _ _ _ _ _ _ us hl=>match us,hl with | [_,_,_],_=>rfl
 have m_law_spread:=PySem.W.mg_of X G a_law_spread
 have F_law_rank:=fun_mk (st:=s_law_rank) l_law_rank c_law_rank k_law_rank
 have b_law_rank:=F_law_rank.binds (ps:=["form"]) fun _ _ _ _ _ _ us hl=>match us,hl with | [_],_=>rfl
 have m_law_rank:=PySem.W.mg_of X G a_law_rank
 have F_law_compared:=fun_mk (st:=s_law_compared) l_law_compared c_law_compared k_law_compared
 have b_law_compared:=F_law_compared.binds (ps:=["one","other"]) fun _ _ _ _ _ _ us hl=>match us,hl with | [_,_],_=>rfl
 have m_law_compared:=PySem.W.mg_of X G a_law_compared
 have F_law_in_order:=fun_mk (st:=s_law_in_order) l_law_in_order c_law_in_order k_law_in_order
 have b_law_in_order:=F_law_in_order.binds (ps:=["forms"]) fun _ _ _ _ _ _ us hl=>match us,hl with | [_],_=>rfl
 have m_law_in_order:=PySem.W.mg_of X G a_law_in_order
 have F_law_form:=fun_mk (st:=s_law_form) l_law_form c_law_form k_law_form
 have b_law_form:=F_law_form.binds (ps:=["way"]) fun _ _ _ _ _ _ us hl=>match us,hl with | [_],_=>rfl
 have m_law_form:=PySem.W.mg_of X G a_law_form
 have F_law_let_worth:=fun_mk (st:=s_law_let_worth) l_law_let_worth c_law_let_worth k_law_let_worth
 have b_law_let_worth:=F_law_let_worth.binds (ps:=["form"]) fun _ _ _ _ _ _ us hl=>match us,hl with | [_],_=>rfl
 have m_law_let_worth:=PySem.W.mg_of X G a_law_let_worth
 have F_law_rows_changed:=fun_mk (st:=s_law_rows_changed) l_law_rows_changed c_law_rows_changed k_law_rows_changed
 have b_law_rows_changed:=F_law_rows_changed.binds (ps:=["deck","more","off"]) fun _ _ _ _ _ _ us hl=>match us,hl with | [_,_,_],_=>rfl
 have m_law_rows_changed:=PySem.W.mg_of X G a_law_rows_changed
 have F_law_spoilt:=fun_mk (st:=s_law_spoilt) l_law_spoilt c_law_spoilt k_law_spoilt
 have b_law_spoilt:=F_law_spoilt.binds (ps:=["deck","form"]) fun _ _ _ _ _ _ us hl=>match us,hl with | [_,_],_=>rfl
 have m_law_spoilt:=PySem.W.mg_of X G a_law_spoilt
 have F_law_many:=fun_mk (st:=s_law_many) l_law_many c_law_many k_law_many
 have b_law_many:=F_law_many.binds (ps:=["form"]) fun _ _ _ _ _ _ us hl=>match us,hl with | [_],_=>rfl
 have m_law_many:=PySem.W.mg_of X G a_law_many
 have F_law_right:=fun_mk (st:=s_law_right) l_law_right c_law_right k_law_right
 have b_law_right:=F_law_right.binds (ps:=["form"]) fun _ _ _ _ _ _ us hl=>match us,hl with | [_],_=>rfl
 have m_law_right:=PySem.W.mg_of X G a_law_right
 have F_law:=fun_mk (st:=s_law) l_law c_law k_law
 have b_law:=F_law.binds (ps:=["script"]) fun _ _ _ _ _ _ us hl=>match us,hl with | [_],_=>rfl
 have m_law:=PySem.W.mg_of X G a_law
 have B:Blt mg:=⟨PySem.W.mg_none_of X G z_len,PySem.W.mg_none_of X G z_sum,PySem.W.mg_none_of X G z_range,PySem.W.mg_none_of X G z_isinstance,PySem.W.mg_none_of X G z_int,PySem.W.mg_none_of X G z_str,PySem.W.mg_none_of X G z_bool,PySem.W.mg_none_of X G z_tuple,PySem.W.mg_none_of X G z_zip⟩
 refine ⟨PySem.W.fnOf "law" "law" (defArgs s_law) (defBody s_law) (defScope s_law) .none kV_law dc_law pm_law an_law cd_law ct_law,fun s v=>.of_eq rfl,fun base _ _=>?_⟩
 have c_WishError:XC K C_WishError vMro:=⟨⟨_,_,_,_,_,_,_,_,_,_,_,_,_,_,l_WishError⟩,t_WishError,kp_WishError,ga_WishError,gh_WishError,gc_WishError,sa_WishError⟩
 have c_NoWay:XC K C_NoWay bm_NoWay:=⟨⟨_,_,_,_,_,_,_,_,_,_,_,_,_,_,l_NoWay⟩,t_NoWay,kp_NoWay,ga_NoWay,gh_NoWay,gc_NoWay,sa_NoWay⟩
 have F_init:=fun_mk (st:=s_init) l_init cd_ok_init k_init
 have b_init:=F_init.binds (ps:=["self","word"]) fun _ _ _ _ _ _ us hl=>match us,hl with | [_,_],_=>rfl
 have R:Xc.Refs l.prog w K mg base C_WishError C_NoWay bm_NoWay :=
  ⟨c_WishError,c_NoWay,PySem.W.mg_of X G a_NoWay,⟨f_init,_,_,i_NoWay,y_init,Xc.ok_init F_init c_NoWay w_NoWay,b_init⟩,w_NoWay⟩
 have De:Xc.DeedsX l.prog w K mg base C_NoWay d_DEEDS (famOf f_plus f_less f_times f_share):=by
  refine ⟨⟨_,_,l_DEEDS,k_DEEDS⟩,PySem.W.mg_of X G a_DEEDS,fun wd hw=>?_,fun wd hw=>?_⟩
  ·rcases hw with rfl | rfl | rfl | rfl
   ·exact e_DEEDS_plus
   ·exact e_DEEDS_less
   ·exact e_DEEDS_times
   ·exact e_DEEDS_share
  ·rcases hw with rfl | rfl | rfl | rfl
   ·exact ⟨⟨_,_,Xc.okX_plus F_plus,b_plus⟩,k_plus⟩
   ·exact ⟨⟨_,_,Xc.okX_less F_less R,b_less⟩,k_less⟩
   ·exact ⟨⟨_,_,Xc.okX_times F_times,b_times⟩,k_times⟩
   ·exact ⟨⟨_,_,Xc.okX_share F_share R,b_share⟩,k_share⟩
 have mR:=PySem.W.mg_of X G a_RANKS
 have TR:TopDict w K d_RANKS:=⟨es_RANKS,n_RANKS,l_RANKS,k_RANKS⟩
 have hR:∀ k:Str,(k="sum"∨k="product")→∃ t,PySem.W.nsIn K d_RANKS k=some (some (.int (rkK k) t)):=fun k h=>by
  rcases h with rfl | rfl
  ·exact ⟨t_r1,by rw [e_RANKS_sum,show rkK "sum"=2 by decide +kernel]⟩
  ·exact ⟨t_r2,by rw [e_RANKS_product,show rkK "product"=3 by decide +kernel]⟩
 have mPU:=PySem.W.mg_of X G a_PUT
 have mTA:=PySem.W.mg_of X G a_TAKEN
 have TPU:TopDict w K d_PUT:=⟨es_PUT,n_PUT,l_PUT,k_PUT⟩
 have TTA:TopDict w K d_TAKEN:=⟨es_TAKEN,n_TAKEN,l_TAKEN,k_TAKEN⟩
 have hP:∀ k:Str,(k="sum"∨k="product")→∃ t,PySem.W.nsIn K d_PUT k=some (some (.str (pt k) t)):=fun k h=>by
  rcases h with rfl | rfl
  ·exact ⟨t_p1,by rw [e_PUT_sum,show pt "sum"="plus" by decide +kernel]⟩
  ·exact ⟨t_p2,by rw [e_PUT_product,show pt "product"="times" by decide +kernel]⟩
 have hT:∀ k:Str,(k="sum"∨k="product")→∃ t,PySem.W.nsIn K d_TAKEN k=some (some (.str (tk k) t)):=fun k h=>by
  rcases h with rfl | rfl
  ·exact ⟨t_t1,by rw [e_TAKEN_sum,show tk "sum"="less" by decide +kernel]⟩
  ·exact ⟨t_t2,by rw [e_TAKEN_product,show tk "product"="share" by decide +kernel]⟩
 have Bsorted:mg "sorted"=none:=PySem.W.mg_none_of X G z_sorted
 have Bmin:mg "min"=none:=PySem.W.mg_none_of X G z_min
 have Ball:mg "all"=none:=PySem.W.mg_none_of X G z_all
 have Bany:mg "any"=none:=PySem.W.mg_none_of X G z_any
 have Blist:mg "list"=none:=PySem.W.mg_none_of X G z_list
 have Benum:mg "enumerate"=none:=PySem.W.mg_none_of X G z_enumerate
 have Gorder:=mkDef (ok_order (P:=l.prog) (w:=w) (base:=base) F_order_of B mR TR hR) b_order_of m_order_of k_order_of
 have Gis:=mkDef (ok_is (P:=l.prog) (w:=w) (base:=base) F_is_of B) b_is_of m_is_of k_is_of
 have Gsteps:=mkDef (ok_steps_of (P:=l.prog) (w:=w) (base:=base) F_steps_of B) b_steps_of m_steps_of k_steps_of
 have CNy:Callee l.prog w K mg base CX0 1 f_number_itself Wy.spId:=⟨⟨_,_,Wy.ok_id F_number_itself,b_number_itself⟩,k_number_itself⟩
 have CWy:Callee l.prog w K mg base CX0 1 f_way_with Wy.spMk:=⟨⟨_,_,Wy.ok_mk F_way_with,b_way_with⟩,k_way_with⟩
 have GcomeY:=mkDef (Wy.ok_come F_come_of B CNy CWy) b_come_of m_come_of k_come_of
 have Gunf:=mkDef (Wy.ok_unf (P:=l.prog) (w:=w) (base:=base) F_unfolded B mPU mTA TPU TTA hP hT) b_unfolded m_unfolded k_unfolded
 have Gsf:=mkDef (Wy.ok_sf F_steps_of_form B Gunf) b_steps_of_form m_steps_of_form k_steps_of_form
 have Gwayof:=mkDef (Wy.ok_way_of F_way_of B m_number_itself m_way_with GcomeY Gsf) b_way_of m_way_of k_way_of
 have CNx:Callee l.prog w K mg base (CXF l.prog w) 3 f_number_itself Xc.spIdX:=⟨⟨_,_,Xc.okX_id F_number_itself,b_number_itself⟩,k_number_itself⟩
 have CWx:Callee l.prog w K mg base (CXF l.prog w) 5 f_worth_by (Xc.spWBX C_NoWay):=⟨⟨_,_,Xc.okX_wb F_worth_by B De,b_worth_by⟩,k_worth_by⟩
 have GcomeX:=mkDef (Xc.okX_come F_come_of B CNx CWx) b_come_of m_come_of k_come_of
 have Oworth:=Xc.okX_worth_of F_worth_of B m_number_itself m_worth_by Gsteps GcomeX
 have Gworthof:=mkDef Oworth b_worth_of m_worth_of k_worth_of
 have Ggroup:=mkDef (ok_group (P:=l.prog) (w:=w) (base:=base) F_is_group B) b_is_group m_is_group k_is_group
 have Gisnum:=mkDef (ok_isnum (P:=l.prog) (w:=w) (base:=base) F_is_number B) b_is_number m_is_number k_is_number
 have Ginord:=mkDef (ok_inord F_is_in_order B Bsorted Gorder) b_is_in_order m_is_in_order k_is_in_order
 have Gkept:=mkDef (ok_kept F_is_kept B Bany Gis Ginord) b_is_kept m_is_kept k_is_kept
 have Ghas:=mkDef (ok_has F_has_worth R Gworthof) b_has_worth m_has_worth k_has_worth
 have Gplet:=mkDef (ok_plet (W:=C_WishError) (N:=C_NoWay) (bN:=bm_NoWay) F_form_let B Ball Ggroup Gisnum Gkept Gwayof Ghas) b_form_let m_form_let k_form_let
 have Gtake:=mkDef (ok_law_take (P:=l.prog) (w:=w) (base:=base) F_law_take B) b_law_take m_law_take k_law_take
 have Gnumber:=mkDef (ok_law_number F_law_number B Gtake) b_law_number m_law_number k_law_number
 have Gsize:=mkDef (ok_law_size F_law_size B Gtake) b_law_size m_law_size k_law_size
 have Gdeck:=mkDef (ok_law_deck (P:=l.prog) (w:=w) (base:=base) F_law_deck B) b_law_deck m_law_deck k_law_deck
 have Gby:=mkDef (ok_law_by (P:=l.prog) (w:=w) (base:=base) F_law_by B) b_law_by m_law_by k_law_by
 have Gworth:=mkDef (ok_law_worth F_law_worth b_law_worth m_law_worth B Gby 10) b_law_worth m_law_worth k_law_worth
 have Ogood:=ok_law_good F_law_good_way b_law_good_way m_law_good_way B Gtake Gnumber Gby Gworth 8
 have Ggood:Def l.prog w K mg base CX0 _ "_law_good_way" (spGood 8):=mkDef Ogood b_law_good_way m_law_good_way k_law_good_way
 have Oany:=ok_law_any F_law_any_way b_law_any_way m_law_any_way B Gtake Gnumber 8
 have Gany:Def l.prog w K mg base CX0 _ "_law_any_way" (spAny 8):=mkDef Oany b_law_any_way m_law_any_way k_law_any_way
 have Grank:=mkDef (ok_rank (P:=l.prog) (w:=w) (base:=base) F_law_rank B) b_law_rank m_law_rank k_law_rank
 have Gcmp:=mkDef (ok_cmp F_law_compared b_law_compared m_law_compared B Grank 20) b_law_compared m_law_compared k_law_compared
 have OLA:=ok_ordLA F_law_in_order B Gcmp
 have GordLA:=mkDef OLA b_law_in_order m_law_in_order k_law_in_order
 have GordL:=mkDef (OLA.imp ord_imp) b_law_in_order m_law_in_order k_law_in_order
 have GordTA:=mkDef (ok_ordTA F_law_in_order B Gcmp) b_law_in_order m_law_in_order k_law_in_order
 have Gspread:=mkDef (ok_spread (P:=l.prog) (w:=w) (base:=base) F_law_spread b_law_spread m_law_spread B 10) b_law_spread m_law_spread k_law_spread
 have Gform:=mkDef (ok_form F_law_form b_law_form m_law_form B Gspread GordL 9) b_law_form m_law_form k_law_form
 have Glet:=mkDef (ok_letw F_law_let_worth b_law_let_worth m_law_let_worth B Benum GordTA 20) b_law_let_worth m_law_let_worth k_law_let_worth
 have Gmany:=mkDef (ok_many (P:=l.prog) (w:=w) (base:=base) F_law_many b_law_many m_law_many B 20) b_law_many m_law_many k_law_many
 have Gright:=mkDef (ok_rightA F_law_right B Gmany Glet Gplet) b_law_right m_law_right k_law_right
 have Gchg:=mkDef (ok_chg F_law_rows_changed B Blist Bmin Gtake GordLA) b_law_rows_changed m_law_rows_changed k_law_rows_changed
 have Gspoilt:=mkDef (ok_sp F_law_spoilt b_law_spoilt m_law_spoilt B Gtake Gchg 19) b_law_spoilt m_law_spoilt k_law_spoilt
 exact ok_law F_law B Gdeck Gsize Gany Ggood Gform Gspoilt Gright Gplet
theorem walk {l:PySem.W.OpenLaw} {q:Program} {loose:List Str} {XP:(Str→Option Value)→Heap→Prop} {YP:World→Heap→Prop} {d:DefRec} {K:Params→PySem.W.Frag} (hn:l.most=some 63) (hdf:d.params.defaults=[])
  (hY:∀ (w:World) (h:Heap),YP w h→(K w.params).In h)
  (F:∀ (w:World) (mg:Str→Option Value) (fa:Addr) (h:Heap),(K w.params).In h→h.Ns mainGlobals mg→mg d.name=some (.ref fa) →
   ∃ fd:FuncData,(∀ (s:Shared) (u:Value),BindsTo s fd ⟨[u],[]⟩ [("script",u)])∧∀ base:Heap,(K w.params).In base→base.Ns mainGlobals mg→FnOk l.prog w (K w.params) mg base CX0 50 fa fd ["script"] (spLaw (K w.params))) :
  PySem.W.WalkO q loose XP YP l.row.toRowW d [] (fun f vs=>PySem.call f vs) :=
 L2.walk_of (n:=63) (k:=50) (x:="script") (CX:=fun _=>CX0) (sp:=fun w=>spLaw (K w.params)) hn (by decide) hdf ⟨rfl,by decide,by decide⟩ hY F (fun _ _ a ns hl _ hS=>⟨a,ns,rfl,hS,hl,fun _=>rfl⟩) fun _ _ _ _ _ z=>z
end Law
open PySem PySem.W PyProof.Rows
namespace PySem.W.Fast
def tw7073031163826236917:Unit:=()
def tw10582366761709747347:Unit:=()
def tw8532920326228925621:Unit:=()
def tw16303310848862517651:Unit:=()
def tw3407972029213364903:Unit:=()
def tw4093733812020109836:Unit:=()
def tw15668037842778203484:Unit:=()
def tw12376714607279300998:Unit:=()
def tw7587487812864614427:Unit:=()
def tw6662541065994844282:Unit:=()
def tw2081343053275154059:Unit:=()
def tw10626811456463339080:Unit:=()
def tw1882876242859784892:Unit:=()
def tw9784073229141943978:Unit:=()
def tw6409151852651638243:Unit:=()
def tw10755207795566746459:Unit:=()
def tw17647041314275641706:Unit:=()
def tw8921048435935877339:Unit:=()
def tw10435544940933000196:Unit:=()
def tw17506055549453754296:Unit:=()
def tw16886595415498288092:Unit:=()
def tw11073659650310579160:Unit:=()
def tw7395920702639368065:Unit:=()
def tw8479502842572902177:Unit:=()
def tw8126643558803018874:Unit:=()
def tw15880714450070419267:Unit:=()
def tw8014617571350865634:Unit:=()
def tw2137975641577427939:Unit:=()
def tw16649937182530133218:Unit:=()
def tw4754450457253637643:Unit:=()
def tw17008843568414021648:Unit:=()
def tw16757192090382370437:Unit:=()
def tw9019160554567329225:Unit:=()
def tw349676072887510644:Unit:=()
def tw9078866726287173534:Unit:=()
def tw621647841844450311:Unit:=()
def tw8221876149055941147:Unit:=()
def tw16091715479072356222:Unit:=()
def tw8743019238838576205:Unit:=()
def tw237375960950676785:Unit:=()
def tw7303267045280326488:Unit:=()
def tw8249828420615917396:Unit:=()
def tw5592069931430771401:Unit:=()
def tw9469530362439085676:Unit:=()
def tw6778196918530874819:Unit:=()
def tw16024799198609508160:Unit:=()
def tw14096555703549872762:Unit:=()
def tw2984673131230313834:Unit:=()
def tw9759170458525614122:Unit:=()
def tw7428466083395220176:Unit:=()
def tw11875162974879182397:Unit:=()
def tw17152967697036843232:Unit:=()
def tw10611426953522706345:Unit:=()
def tw1722912423183575268:Unit:=()
def tw7518756571435166977:Unit:=()
def tw8542361335728842466:Unit:=()
def tw9641754182584157539:Unit:=()
def tw14347897173241214953:Unit:=()
def tw14267465822262523826:Unit:=()
def tw7039902688583384768:Unit:=()
def tw8715544662907319160:Unit:=()
def tw12140959975223422643:Unit:=()
def tw8926487815313022870:Unit:=()
def tw16116219032472925975:Unit:=()
def tw7485880552411037968:Unit:=()
def tw5228358322202059134:Unit:=()
def tw9304144775066389969:Unit:=()
def tw1509054521157404375:Unit:=()
def tw7228916205314756591:Unit:=()
def tw18389130912610830501:Unit:=()
def tw4917266273374837892:Unit:=()
def tw6316227758328986268:Unit:=()
def tw2432259847244691896:Unit:=()
def tw17668640366304369210:Unit:=()
def tw758949747751412462:Unit:=()
def tw1055735578971853630:Unit:=()
def tw2006960904358298060:Unit:=()
def tw13904881797125851780:Unit:=()
def tw2839303096171390548:Unit:=()
def tw17421370130804569050:Unit:=()
def tw3158415128544817431:Unit:=()
def tw6239354225682207890:Unit:=()
def tw9330338995920001566:Unit:=()
def tw12498579410380366224:Unit:=()
def tw15242814668589992077:Unit:=()
def tw7473803855303863936:Unit:=()
def tw1661550763019811241:Unit:=()
def tw3926766161918510036:Unit:=()
def tw17662238554771613829:Unit:=()
def tw16565400928555924421:Unit:=()
def tw12296744704663945700:Unit:=()
def tw11796734712365396929:Unit:=()
def tw462223097325978783:Unit:=()
def tw6248659450865686239:Unit:=()
def tw1449481414473437132:Unit:=()
def tw1495061059649127655:Unit:=()
def tw12780232748772643308:Unit:=()
def tw6671239498662713947:Unit:=()
def tw3769430138697392979:Unit:=()
def tw16383727108917699807:Unit:=()
def tw16799454661772243730:Unit:=()
def tw3427632087957668810:Unit:=()
def tw6199062293733578523:Unit:=()
def tw10174310318535405676:Unit:=()
def tw10123990808172943940:Unit:=()
def tw14299725939695595025:Unit:=()
def tw14841882906778874740:Unit:=()
def tw17238455714095923256:Unit:=()
def tw14154131765423042756:Unit:=()
def tw13877348619041678174:Unit:=()
def tw14968656917733375892:Unit:=()
def tw14664374258660533999:Unit:=()
def tw15044669722004366124:Unit:=()
def tw8818084378873190335:Unit:=()
def tw7889726666798474778:Unit:=()
def tw14222609576977978263:Unit:=()
def tw14088319774129676830:Unit:=()
def tw9614021731569815370:Unit:=()
def tw4655405318533960054:Unit:=()
def tw13172599811013112883:Unit:=()
def tw12782359653110588815:Unit:=()
def tw610825961095668363:Unit:=()
def tw2231894387238539593:Unit:=()
def tw6912081829634287725:Unit:=()
def tw14935270169487855106:Unit:=()
def tw4057777059504895254:Unit:=()
def tw4365502401233182969:Unit:=()
def tw9874219017619281471:Unit:=()
def tw15317714831530075915:Unit:=()
def tw17962741163697270142:Unit:=()
def tw5074017172064041312:Unit:=()
def tw2348609781096443873:Unit:=()
def tw11842783502090847643:Unit:=()
def tw4351029856115697679:Unit:=()
def tw10850975446976359890:Unit:=()
def tw10111791013354619712:Unit:=()
def tw13422776025272997499:Unit:=()
def tw16520184844315677907:Unit:=()
def tw4479434433318485320:Unit:=()
def tw18217230401599459690:Unit:=()
def tw12785099787808696201:Unit:=()
def tw17131921913690736223:Unit:=()
def tw4243663800488488299:Unit:=()
def tw16691326198930105622:Unit:=()
def tw312681665302456210:Unit:=()
def tw12165842816498969461:Unit:=()
def tw812575675671750795:Unit:=()
def tw6508965727826907748:Unit:=()
def tw16237229764675964529:Unit:=()
def tw8125514370795137992:Unit:=()
def tw11757444675611626856:Unit:=()
def tw1483325948368931908:Unit:=()
def tw10714046065473926706:Unit:=()
def tw763849315207685718:Unit:=()
def tw4058696610931976738:Unit:=()
def tw3279101407472861956:Unit:=()
def tw9725646857687841712:Unit:=()
def tw5268896635997555709:Unit:=()
def tw17733175620364916842:Unit:=()
def tw13052894535966493213:Unit:=()
def tw8802947647356301609:Unit:=()
def tw14619855408336669124:Unit:=()
def tw9645037424744452477:Unit:=()
def tw31839877061298040:Unit:=()
def tw13825743105257907504:Unit:=()
def tw9338786882834463629:Unit:=()
def tw16751174148232801182:Unit:=()
def tw4309862286729422386:Unit:=()
def tw16389321123640748596:Unit:=()
def tw1337356323643148591:Unit:=()
def tw5747594003924773816:Unit:=()
def tw5114306320273778154:Unit:=()
def tw17879817193477985231:Unit:=()
def tw14894540925350638927:Unit:=()
def tw11589466804665518035:Unit:=()
def tw8845268050678091227:Unit:=()
def tw7117912850829967235:Unit:=()
def tw11321605192467612069:Unit:=()
def tw7131593202171459434:Unit:=()
def tw6325002692960596980:Unit:=()
def tw4080983890047417161:Unit:=()
def tw17911064059786831890:Unit:=()
def tw12851914400875891402:Unit:=()
def tw10769386593755671902:Unit:=()
def tw15373838239224046675:Unit:=()
def tw1389042853747355497:Unit:=()
def tw14712457250845951976:Unit:=()
end PySem.W.Fast
set_option maxRecDepth 100000 in
set_option maxHeartbeats 0 in
theorem PySem.Challenge.cw_ledtowish_k09_forms_let_holds : PySem.Challenge.rw_ledtowish_k09_forms_let.Holds := by
 w_on; o_law; k_head; (case hw=>w_witness2)
 k_fill
 refine Law.walk (l:=PySem.Challenge.rw_ledtowish_k09_forms_let) rfl rfl (fun w h Y=>PySem.W.kIn_of Y) ?F
 case F =>
  intro w mg fa h KX G hmg
  refine' Law.all_mk KX G hmg ?a_plus ?l_plus ?c_plus ?k_plus ?a_less ?l_less ?c_less ?k_less ?a_times ?l_times ?c_times ?k_times ?a_share ?l_share ?c_share ?k_share ?a_steps_of ?l_steps_of ?c_steps_of ?k_steps_of ?a_come_of ?l_come_of ?c_come_of ?k_come_of ?a_number_itself ?l_number_itself ?c_number_itself ?k_number_itself ?a_worth_by ?l_worth_by ?c_worth_by ?k_worth_by ?a_worth_of ?l_worth_of ?c_worth_of ?k_worth_of ?a_is_of ?l_is_of ?c_is_of ?k_is_of ?a_order_of ?l_order_of ?c_order_of ?k_order_of ?a_way_of ?l_way_of ?c_way_of ?k_way_of ?a_way_with ?l_way_with ?c_way_with ?k_way_with ?a_steps_of_form ?l_steps_of_form ?c_steps_of_form ?k_steps_of_form ?a_unfolded ?l_unfolded ?c_unfolded ?k_unfolded ?a_form_let ?l_form_let ?c_form_let ?k_form_let ?a_is_group ?l_is_group ?c_is_group ?k_is_group ?a_is_number ?l_is_number ?c_is_number ?k_is_number ?a_is_kept ?l_is_kept ?c_is_kept ?k_is_kept ?a_is_in_order ?l_is_in_order ?c_is_in_order ?k_is_in_order ?a_has_worth ?l_has_worth ?c_has_worth ?k_has_worth ?a_law_deck ?l_law_deck ?c_law_deck ?k_law_deck ?a_law_take ?l_law_take ?c_law_take ?k_law_take ?a_law_number ?l_law_number ?c_law_number ?k_law_number ?a_law_by ?l_law_by ?c_law_by ?k_law_by ?a_law_worth ?l_law_worth ?c_law_worth ?k_law_worth ?a_law_any_way ?l_law_any_way ?c_law_any_way ?k_law_any_way ?a_law_good_way ?l_law_good_way ?c_law_good_way ?k_law_good_way ?a_law_size ?l_law_size ?c_law_size ?k_law_size ?a_law_spread ?l_law_spread ?c_law_spread ?k_law_spread ?a_law_rank ?l_law_rank ?c_law_rank ?k_law_rank ?a_law_compared ?l_law_compared ?c_law_compared ?k_law_compared ?a_law_in_order ?l_law_in_order ?c_law_in_order ?k_law_in_order ?a_law_form ?l_law_form ?c_law_form ?k_law_form ?a_law_let_worth ?l_law_let_worth ?c_law_let_worth ?k_law_let_worth ?a_law_rows_changed ?l_law_rows_changed ?c_law_rows_changed ?k_law_rows_changed ?a_law_spoilt ?l_law_spoilt ?c_law_spoilt ?k_law_spoilt ?a_law_many ?l_law_many ?c_law_many ?k_law_many ?a_law_right ?l_law_right ?c_law_right ?k_law_right ?a_law ?l_law ?c_law ?k_law ?a_DEEDS ?l_DEEDS ?k_DEEDS ?e_DEEDS_plus ?e_DEEDS_less ?e_DEEDS_times ?e_DEEDS_share ?a_RANKS ?l_RANKS ?k_RANKS ?e_RANKS_sum ?e_RANKS_product ?a_PUT ?l_PUT ?k_PUT ?e_PUT_sum ?e_PUT_product ?a_TAKEN ?l_TAKEN ?k_TAKEN ?e_TAKEN_sum ?e_TAKEN_product ?z_min ?z_sorted ?z_all ?z_any ?z_list ?z_enumerate ?a_WishError ?l_WishError ?t_WishError ?kp_WishError ?ga_WishError ?gh_WishError ?gc_WishError ?sa_WishError ?a_NoWay ?l_NoWay ?t_NoWay ?kp_NoWay ?ga_NoWay ?gh_NoWay ?gc_NoWay ?sa_NoWay ?i_NoWay ?y_init ?l_init ?cd_ok_init ?k_init ?w_NoWay ?z_len ?z_sum ?z_range ?z_isinstance ?z_int ?z_str ?z_bool ?z_tuple ?z_zip
  (case a_plus=>k_is)
  (case l_plus=>k_is)
  (case c_plus=>k_is)
  (case k_plus=>k_is)
  (case a_less=>k_is)
  (case l_less=>k_is)
  (case c_less=>k_is)
  (case k_less=>k_is)
  (case a_times=>k_is)
  (case l_times=>k_is)
  (case c_times=>k_is)
  (case k_times=>k_is)
  (case a_share=>k_is)
  (case l_share=>k_is)
  (case c_share=>k_is)
  (case k_share=>k_is)
  (case a_steps_of=>k_is)
  (case l_steps_of=>k_is)
  (case c_steps_of=>k_is)
  (case k_steps_of=>k_is)
  (case a_come_of=>k_is)
  (case l_come_of=>k_is)
  (case c_come_of=>k_is)
  (case k_come_of=>k_is)
  (case a_number_itself=>k_is)
  (case l_number_itself=>k_is)
  (case c_number_itself=>k_is)
  (case k_number_itself=>k_is)
  (case a_worth_by=>k_is)
  (case l_worth_by=>k_is)
  (case c_worth_by=>k_is)
  (case k_worth_by=>k_is)
  (case a_worth_of=>k_is)
  (case l_worth_of=>k_is)
  (case c_worth_of=>k_is)
  (case k_worth_of=>k_is)
  (case a_is_of=>k_is)
  (case l_is_of=>k_is)
  (case c_is_of=>k_is)
  (case k_is_of=>k_is)
  (case a_order_of=>k_is)
  (case l_order_of=>k_is)
  (case c_order_of=>k_is)
  (case k_order_of=>k_is)
  (case a_way_of=>k_is)
  (case l_way_of=>k_is)
  (case c_way_of=>k_is)
  (case k_way_of=>k_is)
  (case a_way_with=>k_is)
  (case l_way_with=>k_is)
  (case c_way_with=>k_is)
  (case k_way_with=>k_is)
  (case a_steps_of_form=>k_is)
  (case l_steps_of_form=>k_is)
  (case c_steps_of_form=>k_is)
  (case k_steps_of_form=>k_is)
  (case a_unfolded=>k_is)
  (case l_unfolded=>k_is)
  (case c_unfolded=>k_is)
  (case k_unfolded=>k_is)
  (case a_form_let=>k_is)
  (case l_form_let=>k_is)
  (case c_form_let=>k_is)
  (case k_form_let=>k_is)
  (case a_is_group=>k_is)
  (case l_is_group=>k_is)
  (case c_is_group=>k_is)
  (case k_is_group=>k_is)
  (case a_is_number=>k_is)
  (case l_is_number=>k_is)
  (case c_is_number=>k_is)
  (case k_is_number=>k_is)
  (case a_is_kept=>k_is)
  (case l_is_kept=>k_is)
  (case c_is_kept=>k_is)
  (case k_is_kept=>k_is)
  (case a_is_in_order=>k_is)
  (case l_is_in_order=>k_is)
  (case c_is_in_order=>k_is)
  (case k_is_in_order=>k_is)
  (case a_has_worth=>k_is)
  (case l_has_worth=>k_is)
  (case c_has_worth=>k_is)
  (case k_has_worth=>k_is)
  (case a_law_deck=>k_is)
  (case l_law_deck=>k_is)
  (case c_law_deck=>k_is)
  (case k_law_deck=>k_is)
  (case a_law_take=>k_is)
  (case l_law_take=>k_is)
  (case c_law_take=>k_is)
  (case k_law_take=>k_is)
  (case a_law_number=>k_is)
  (case l_law_number=>k_is)
  (case c_law_number=>k_is)
  (case k_law_number=>k_is)
  (case a_law_by=>k_is)
  (case l_law_by=>k_is)
  (case c_law_by=>k_is)
  (case k_law_by=>k_is)
  (case a_law_worth=>k_is)
  (case l_law_worth=>k_is)
  (case c_law_worth=>k_is)
  (case k_law_worth=>k_is)
  (case a_law_any_way=>k_is)
  (case l_law_any_way=>k_is)
  (case c_law_any_way=>k_is)
  (case k_law_any_way=>k_is)
  (case a_law_good_way=>k_is)
  (case l_law_good_way=>k_is)
  (case c_law_good_way=>k_is)
  (case k_law_good_way=>k_is)
  (case a_law_size=>k_is)
  (case l_law_size=>k_is)
  (case c_law_size=>k_is)
  (case k_law_size=>k_is)
  (case a_law_spread=>k_is)
  (case l_law_spread=>k_is)
  (case c_law_spread=>k_is)
  (case k_law_spread=>k_is)
  (case a_law_rank=>k_is)
  (case l_law_rank=>k_is)
  (case c_law_rank=>k_is)
  (case k_law_rank=>k_is)
  (case a_law_compared=>k_is)
  (case l_law_compared=>k_is)
  (case c_law_compared=>k_is)
  (case k_law_compared=>k_is)
  (case a_law_in_order=>k_is)
  (case l_law_in_order=>k_is)
  (case c_law_in_order=>k_is)
  (case k_law_in_order=>k_is)
  (case a_law_form=>k_is)
  (case l_law_form=>k_is)
  (case c_law_form=>k_is)
  (case k_law_form=>k_is)
  (case a_law_let_worth=>k_is)
  (case l_law_let_worth=>k_is)
  (case c_law_let_worth=>k_is)
  (case k_law_let_worth=>k_is)
  (case a_law_rows_changed=>k_is)
  (case l_law_rows_changed=>k_is)
  (case c_law_rows_changed=>k_is)
  (case k_law_rows_changed=>k_is)
  (case a_law_spoilt=>k_is)
  (case l_law_spoilt=>k_is)
  (case c_law_spoilt=>k_is)
  (case k_law_spoilt=>k_is)
  (case a_law_many=>k_is)
  (case l_law_many=>k_is)
  (case c_law_many=>k_is)
  (case k_law_many=>k_is)
  (case a_law_right=>k_is)
  (case l_law_right=>k_is)
  (case c_law_right=>k_is)
  (case k_law_right=>k_is)
  (case a_law=>k_is)
  (case l_law=>k_is)
  (case c_law=>k_is)
  (case k_law=>k_is)
  (case a_DEEDS=>k_is)
  (case l_DEEDS=>k_is)
  (case k_DEEDS=>k_keys)
  (case e_DEEDS_plus=>k_is)
  (case e_DEEDS_less=>k_is)
  (case e_DEEDS_times=>k_is)
  (case e_DEEDS_share=>k_is)
  (case a_RANKS=>k_is)
  (case l_RANKS=>k_is)
  (case k_RANKS=>k_keys)
  (case e_RANKS_sum=>k_is)
  (case e_RANKS_product=>k_is)
  (case a_PUT=>k_is)
  (case l_PUT=>k_is)
  (case k_PUT=>k_keys)
  (case e_PUT_sum=>k_is)
  (case e_PUT_product=>k_is)
  (case a_TAKEN=>k_is)
  (case l_TAKEN=>k_is)
  (case k_TAKEN=>k_keys)
  (case e_TAKEN_sum=>k_is)
  (case e_TAKEN_product=>k_is)
  (case z_min=>k_is)
  (case z_sorted=>k_is)
  (case z_all=>k_is)
  (case z_any=>k_is)
  (case z_list=>k_is)
  (case z_enumerate=>k_is)
  (case a_WishError=>k_is)
  (case l_WishError=>k_is)
  (case t_WishError=>kernel_rfl)
  (case kp_WishError=>k_is)
  (case ga_WishError=>k_is)
  (case gh_WishError=>k_is)
  (case gc_WishError=>k_is)
  (case sa_WishError=>k_is)
  (case a_NoWay=>k_is)
  (case l_NoWay=>k_is)
  (case t_NoWay=>kernel_rfl)
  (case kp_NoWay=>k_is)
  (case ga_NoWay=>k_is)
  (case gh_NoWay=>k_is)
  (case gc_NoWay=>k_is)
  (case sa_NoWay=>k_is)
  (case i_NoWay=>k_is)
  (case y_init=>k_is)
  (case l_init=>k_is)
  (case cd_ok_init=>k_is)
  (case k_init=>k_is)
  (case w_NoWay=>k_is)
  (case z_len=>k_is)
  (case z_sum=>k_is)
  (case z_range=>k_is)
  (case z_isinstance=>k_is)
  (case z_int=>k_is)
  (case z_str=>k_is)
  (case z_bool=>k_is)
  (case z_tuple=>k_is)
  (case z_zip=>k_is)
#print axioms PySem.Challenge.cw_ledtowish_k09_forms_let_holds
