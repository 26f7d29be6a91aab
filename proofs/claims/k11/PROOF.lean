import PyProof.Rows.All
import Wide.All
import OpenK.AllK
import Wide.FinOn
import Lean
import PyProof.EqAt
import PyProof.EqKinds
import PyProof.TupleCall
import PyProof.NeKinds
import PyProof.ZipIter
import KE.KIntText
import PyProof.StrLawsIn
import PyProof.DictItems
import PyProof.Draws
import PyProof.EnumStmt
import PyProof.Rows.SortShellK
import PyProof.Rows.CallKwBuiltin
import PyProof.Rows.TupIn
import PyProof.NsDelKeeps
import PyProof.StrWalks
import PyProof.StrCalls6
import PyProof.MeetsStr3
import PySem.Challenge.RW_ledtowish_k11_whole_forms_and_ways
set_option Elab.async false
set_option linter.all false
set_option maxRecDepth 100000
namespace L2
open PySem PySem.Spec PyProof.Rows
noncomputable abbrev Key:=Sum Int Str
noncomputable def keyIs:Key→Value→Bool
 | .inl k,v=>Value.isInt k v
 | .inr x,v=>Value.isStrOf x v
noncomputable def keyH (w:World):Key→Int
 | .inl k=>hashInt k
 | .inr x=>hashStr w x
theorem keyIs_shape:∀ {k:Key} {v:Value},keyIs k v=true→(∃ i t,k=Sum.inl i∧v=Value.int i t)∨(∃ x t,k=Sum.inr x∧v=Value.str x t)
 | .inl i,v,h=>by
  obtain ⟨t,e⟩:=Value.isInt_shape (k:=i) (v:=v) h
  exact .inl ⟨i,t,rfl,e⟩
 | .inr x,v,h=>by
  obtain ⟨t,e⟩:=Value.isStrOf_shape (x:=x) (v:=v) h
  exact .inr ⟨x,t,rfl,e⟩
theorem key_ll (a b:Int):decide ((Sum.inl a:Key)=Sum.inl b)=(a == b):=by
 by_cases e:a=b
 ·subst e; simp
 ·have h:¬ (Sum.inl a:Key)=Sum.inl b:=fun q=>e (Sum.inl.inj q)
  rw [decide_eq_false h]
  exact (beq_eq_false_iff_ne.mpr e).symm
theorem key_rr (a b:Str):decide ((Sum.inr a:Key)=Sum.inr b)=decide (a=b):=by
 by_cases e:a=b
 ·subst e; simp
 ·have h:¬ (Sum.inr a:Key)=Sum.inr b:=fun q=>e (Sum.inr.inj q)
  rw [decide_eq_false h,decide_eq_false e]
theorem key_lr (a:Int) (b:Str):decide ((Sum.inl a:Key)=Sum.inr b)=false:=decide_eq_false (fun q=>nomatch q)
theorem key_rl (a:Str) (b:Int):decide ((Sum.inr a:Key)=Sum.inl b)=false:=decide_eq_false (fun q=>nomatch q)
noncomputable def mixKind (prog:Program) (w:World):PySem.KeyKind prog w Key where
 is:=keyIs
 hash:=keyH w
 inj:=fun v a b ha hb=>by
  rcases keyIs_shape ha with ⟨i,t,rfl,rfl⟩ | ⟨x,t,rfl,rfl⟩
  ·rcases keyIs_shape hb with ⟨j,u,rfl,e⟩ | ⟨y,u,rfl,e⟩
   ·injection e with e1 _; rw [e1]
   ·exact nomatch e
  ·rcases keyIs_shape hb with ⟨j,u,rfl,e⟩ | ⟨y,u,rfl,e⟩
   ·exact nomatch e
   ·injection e with e1 _; rw [e1]
 byValue:=fun k v h=>by
  rcases keyIs_shape h with ⟨i,t,rfl,rfl⟩ | ⟨x,t,rfl,rfl⟩ <;> rfl
 pyHash:=fun hv h=>by
  rcases keyIs_shape hv with ⟨i,t,rfl,rfl⟩ | ⟨x,t,rfl,rfl⟩
  ·exact wpAny_pyHash_int h
  ·exact wpAny_pyHash_str h
 eqBool:=fun hu hv h=>by
  rcases keyIs_shape hu with ⟨i,t,rfl,rfl⟩ | ⟨x,t,rfl,rfl⟩
  ·rcases keyIs_shape hv with ⟨j,u,rfl,rfl⟩ | ⟨y,u,rfl,rfl⟩
   ·rw [key_ll] at h; exact wpAny_eqBool_int h
   ·rw [key_lr] at h; exact SeqAt.EqAt.int_str i t y u _ _ _ _ h
  ·rcases keyIs_shape hv with ⟨j,u,rfl,rfl⟩ | ⟨y,u,rfl,rfl⟩
   ·rw [key_rl] at h; exact SeqAt.EqAt.str_int x t j u _ _ _ _ h
   ·rw [key_rr] at h; exact wpAny_eqBool_str h
 «strs»:=fun k x t v h=>by
  rcases keyIs_shape h with ⟨i,u,rfl,e⟩ | ⟨y,u,rfl,e⟩
  ·exact nomatch e
  ·injection e with e1 _
   subst e1
   cases v <;> rfl
end L2
namespace L2
open PySem PySem.Spec PyProof.Rows
inductive V where
 | non | bl (b:Bool) | int (i:Int) | str (x:Str) | byt (b:Array UInt8) | flt (b:UInt64) | ref (a:Addr) | ty (n:String)
 deriving DecidableEq
noncomputable def RelV:V→Value→Prop
 | .non,u=>u=Value.none
 | .bl b,u=>u=Value.bool b
 | .int i,u=>∃ t,u=Value.int i t
 | .str x,u=>∃ t,u=Value.str x t
 | .byt b,u=>∃ t,u=Value.bytes b t
 | .flt b,u=>∃ t,u=Value.float b t
 | .ref a,u=>u=Value.ref a
 | .ty n,u=>u=Value.type n
noncomputable abbrev Vals:List V→List Value→Prop:=Paired RelV
theorem Vals.length {xs:List V} {us:List Value} (r:Vals xs us):xs.length=us.length:=Paired.length r
theorem Vals.get:∀ {xs:List V} {us:List Value} {i:Nat} {x:V},Vals xs us→xs[i]?=some x→∃ u,us[i]?=some u∧RelV x u
 | _,_,_,_,.nil,e=>by simp at e
 | _,_,0,_,.cons r _,e=>by simp at e; subst e; exact ⟨_,rfl,r⟩
 | _,_,i + 1,x,.cons _ t,e=>by
  obtain ⟨u,h1,h2⟩:=Vals.get (i:=i) (x:=x) t (by simpa using e)
  exact ⟨u,by simpa using h1,h2⟩
theorem Vals.set {x:V} {u:Value} (r:RelV x u):∀ {xs:List V} {us:List Value} (i:Nat),Vals xs us→Vals (xs.set i x) (us.set i u)
 | _,_,_,.nil=>.nil
 | _,_,0,.cons _ t=>.cons r t
 | _,_,i + 1,.cons q t=>.cons q (Vals.set r i t)
theorem Vals.append:∀ {xs ys:List V} {us ws:List Value},Vals xs us→Vals ys ws→Vals (xs++ys) (us++ws)
 | _,_,_,_,.nil,s=>s
 | _,_,_,_,.cons r t,s=>.cons r (Vals.append t s)
theorem Vals.take:∀ {xs:List V} {us:List Value} (n:Nat),Vals xs us→Vals (xs.take n) (us.take n)
 | _,_,0,_=>.nil
 | _,_,_ + 1,.nil=>.nil
 | _,_,n + 1,.cons r t=>.cons r (Vals.take n t)
theorem Vals.drop:∀ {xs:List V} {us:List Value} (n:Nat),Vals xs us→Vals (xs.drop n) (us.drop n)
 | _,_,0,r=>r
 | _,_,_ + 1,.nil=>.nil
 | _,_,n + 1,.cons _ t=>Vals.drop n t
noncomputable def RelO:Option V→Option Value→Prop
 | some v,some u=>RelV v u
 | none,none=>True
 | _,_=>False
noncomputable def KV {κ:Type}:List (κ×V)→List (κ×Value)→Prop:=Paired fun (p:κ×V) (q:κ×Value)=>p.1=q.1∧RelV p.2 q.2
noncomputable def kV:Key→V
 | .inl i=>.int i
 | .inr x=>.str x
inductive HO where
 | lst (xs:List V)
 | tup (xs:List V)
 | dK (kvs:List (Key×V)) | dT (kvs:List (List Key×V))
 | set (S:Int→Bool) (n:Nat)
 | ins (C dx:Addr) (fs:List (Str×V))
 | own (x:Addr)
 | xd (fs:List (Str×V))
 | met (f x:Addr)
 | rng (lo hi:Int)
 | frz (o:Obj) (u:HO)
 | tbl (ps:Array Value)
 | ext (φ:Heap→Prop)
noncomputable abbrev Hp:=Addr→Option HO
noncomputable def upd (H:Hp) (a:Addr) (o:HO):Hp:=fun b=>if b=a then some o else H b
theorem upd_same {H:Hp} {a:Addr} {o:HO}:upd H a o a=some o:=by unfold upd; rw [if_pos rfl]
theorem upd_ne {H:Hp} {a b:Addr} {o:HO} (h:b≠a):upd H a o b=H b:=by unfold upd; rw [if_neg h]
theorem upd_upd {H:Hp} {a:Addr} {o u:HO}:upd (upd H a o) a u=upd H a u:=by
 funext b; unfold upd; split <;> rfl
theorem ne_of_none {H:Hp} {a b:Addr} {o:HO} (h:H a=some o) (h':H b=none):a≠b:=by
 intro e; subst e; rw [h] at h'; cases h'
section
variable (P:Program) (w:World)
noncomputable def ObjOk (H:Hp) (h:Heap) (a:Addr):HO→Prop
 | .lst xs=>xs.length≤sizeLine∧∃ (its:List Value) (n:Nat),Vals xs its∧h.get? a=some { cls:=.type "list",data:=.seq its.toArray n }
 | .tup xs=>xs.length≤sizeLine∧∃ its:List Value,Vals xs its∧IsTup h a its.toArray
 | .dK kvs=>kvs.length≤sizeLine∧(a == sysModules)=false∧∃ vs,KV kvs vs∧h.DictOf (mixKind P w) a vs
 | .dT kvs=>kvs.length≤sizeLine∧(a == sysModules)=false∧∃ xs:List (List Key×Addr×Value),
   Paired (fun (p:List Key×V) (q:List Key×Addr×Value)=>p.1=q.1∧H q.2.1=some (.tup (p.1.map kV))∧RelV p.2 q.2.2) kvs xs ∧
   ∃ o es ep,h.get? a=some o∧o.ExactDict∧o.data=.dict es ep∧es.toList=xs.map (entryOfKey (tupleKind (mixKind P w)))∧(xs.map (·.1)).Nodup
 | .set S n=>h.SetOf (intKind P w) a S n
 | .ins C dx fs=>H dx=some (.own a)∧fs.length≤1000∧dx≠a∧h.get? a=some (PySem.W.instObj C dx) ∧
   ∃ mA,h.Ns1 dx mA∧(∀ f,RelO (fs.lookup f) (mA f))∧PySem.Within mA (fs.map (·.1))
 | .own _=>∃ o,h.get? a=some o
 | .xd fs=>∃ mA,h.Ns1 a mA∧∀ f,RelO (fs.lookup f) (mA f)
 | .rng lo hi=>∃ t u v,h.get? a=some { cls:=.type "range",data:=.fields #[.int lo t,.int hi u,.int 1 v] }
 | .frz o u=>h.get? a=some o∧ObjOk H h a u
 | .tbl ps=>h.get? a=some { cls:=.none,data:=.fields ps }
 | .met f x=>h.get? a=some (PySem.W.methodObj (.ref f) (.ref x))
 | .ext φ=>φ h∧(∃ o,h.get? a=some o)∧∀ h1 h2:Heap,φ h1→(∀ o,h1.get? a=some o→h2.get? a=some o)→φ h2
noncomputable def HOk (H:Hp) (h:Heap):Prop:=∀ a o,H a=some o→ObjOk P w H h a o
end
section
variable {P:Program} {w:World} {H H':Hp} {h h':Heap} {a:Addr} {o:HO}
theorem ObjOk.lt (x:ObjOk P w H h a o):a < h.objs.size:=by
 cases o with
 | lst xs=>obtain ⟨_,_,_,_,e⟩:=x; exact Heap.lt_size e
 | tup xs=>obtain ⟨_,_,_,p⟩:=x; exact p.lt
 | dK kvs=>obtain ⟨_,_,_,_,o,_,_,e,_⟩:=x; exact Heap.lt_size e
 | dT kvs=>obtain ⟨_,_,_,_,o,_,_,e,_⟩:=x; exact Heap.lt_size e
 | set S n=>obtain ⟨o,_,_,_,e,_⟩:=x; exact Heap.lt_size e
 | ins C dx fs=>obtain ⟨_,_,_,e,_⟩:=x; exact Heap.lt_size e
 | own y=>obtain ⟨_,e⟩:=x; exact Heap.lt_size e
 | xd fs=>obtain ⟨_,⟨_,_,_,e,_⟩,_⟩:=x; exact Heap.lt_size e
 | rng lo hi=>obtain ⟨_,_,_,e⟩:=x; exact Heap.lt_size e
 | frz ob u=>obtain ⟨e,_⟩:=x; exact Heap.lt_size e
 | tbl ps=>exact Heap.lt_size (show h.get? a=some _ from x)
 | met f y=>exact Heap.lt_size (show h.get? a=some _ from x)
 | ext φ=>obtain ⟨_,⟨_,e⟩,_⟩:=x; exact Heap.lt_size e
theorem Paired.mapP {α β:Type} {F G:α→β→Prop}:∀ {l₁:List α} {l₂:List β},Paired F l₁ l₂→(∀ a b,F a b→G a b)→Paired G l₁ l₂
 | _,_,.nil,_=>.nil
 | _,_,.cons r t,f=>.cons (f _ _ r) (Paired.mapP t f)
theorem ObjOk.stay (x:ObjOk P w H h a o) (k:∀ b u,(b=a∨H b=some (.own a))→h.get? b=some u→h'.get? b=some u)
  (ho:∀ b,H b=some (.own a)→H' b=some (.own a)) (ht:∀ b xs,H b=some (.tup xs)→H' b=some (.tup xs)):ObjOk P w H' h' a o:=by
 induction o with
 | lst xs=>obtain ⟨z,its,n,r,e⟩:=x; exact ⟨z,its,n,r,k _ _ (.inl rfl) e⟩
 | tup xs=>obtain ⟨z,its,r,ob,e,c⟩:=x; exact ⟨z,its,r,ob,k _ _ (.inl rfl) e,c⟩
 | dK kvs=>obtain ⟨z,y,vs,r,ob,es,ep,e,c⟩:=x; exact ⟨z,y,vs,r,ob,es,ep,k _ _ (.inl rfl) e,c⟩
 | dT kvs =>
  obtain ⟨z,y,xs,r,ob,es,ep,e,c⟩:=x
  exact ⟨z,y,xs,Paired.mapP r fun p q z=>⟨z.1,ht _ _ z.2.1,z.2.2⟩,ob,es,ep,k _ _ (.inl rfl) e,c⟩
 | set S n=>obtain ⟨ob,es,ep,t,e,c⟩:=x; exact ⟨ob,es,ep,t,k _ _ (.inl rfl) e,c⟩
 | ins C dx fs =>
  obtain ⟨d,z,ne,e,mA,⟨od,es,ep,e2,c⟩,r⟩:=x
  exact ⟨ho _ d,z,ne,k _ _ (.inl rfl) e,mA,⟨od,es,ep,k _ _ (.inr d) e2,c⟩,r⟩
 | own y=>obtain ⟨ob,e⟩:=x; exact ⟨ob,k _ _ (.inl rfl) e⟩
 | xd fs=>obtain ⟨mA,⟨od,es,ep,e,c⟩,r⟩:=x; exact ⟨mA,⟨od,es,ep,k _ _ (.inl rfl) e,c⟩,r⟩
 | rng lo hi=>obtain ⟨t,u,v,e⟩:=x; exact ⟨t,u,v,k _ _ (.inl rfl) e⟩
 | frz ob u ih=>obtain ⟨e,q⟩:=x; exact ⟨k _ _ (.inl rfl) e,ih q⟩
 | tbl ps =>
  have e:h.get? a=some { cls:=.none,data:=.fields ps }:=x
  show h'.get? a=some { cls:=.none,data:=.fields ps }
  exact k a _ (.inl rfl) e
 | met f y =>
  have e:h.get? a=some (PySem.W.methodObj (.ref f) (.ref y)):=x
  show h'.get? a=some (PySem.W.methodObj (.ref f) (.ref y))
  exact k a _ (.inl rfl) e
 | ext φ=>obtain ⟨p,⟨o,e⟩,st⟩:=x; exact ⟨st _ _ p fun o q=>k _ _ (.inl rfl) q,⟨o,k _ _ (.inl rfl) e⟩,st⟩
theorem HOk.lt (x:HOk P w H h) (e:H a=some o):a < h.objs.size:=(x a o e).lt
theorem HOk.fresh (x:HOk P w H h) (e:h.objs.size≤a):H a=none:=by
 cases q:H a with
 | none=>rfl
 | some u=>exact absurd (Nat.lt_of_lt_of_le (x.lt q) e) (Nat.lt_irrefl _)
theorem HOk.kept (x:HOk P w H h) (k:∀ b u,h.get? b=some u→h'.get? b=some u):HOk P w H h':=fun a o e =>
 (x a o e).stay (fun b u _ q=>k b u q) (fun _ q=>q) fun _ _ q=>q
theorem HOk.laid (x:HOk P w H h) (k:∀ b u,h.get? b=some u→h'.get? b=some u) (hp:h.objs.size≤a) (new:ObjOk P w (upd H a o) h' a o):HOk P w (upd H a o) h':=fun b u e=>by
 have hn:=x.fresh hp
 by_cases hb:b=a
 ·subst hb; rw [upd_same] at e; cases e; exact new
 ·rw [upd_ne hb] at e
  exact (x b u e).stay (fun c v _ q=>k c v q) (fun c q=>by rw [upd_ne (ne_of_none q hn)]; exact q) fun c xs q=>by rw [upd_ne (ne_of_none q hn)]; exact q
end
noncomputable def Rd (H:Hp) (a:Addr) (u:HO):Prop:=H a=some u∨∃ o,H a=some (.frz o u)
theorem Rd.ok {P:Program} {w:World} {H:Hp} {h:Heap} {a:Addr} {u:HO} (r:Rd H a u) (x:HOk P w H h):ObjOk P w H h a u:=by
 rcases r with r | ⟨o,r⟩
 ·exact x a u r
 ·obtain ⟨_,q⟩:=x a _ r
  exact q
noncomputable def Mut:Option HO→Prop
 | some (.lst _)=>True
 | some (.dK _)=>True
 | some (.dT _)=>True
 | some (.set _ _)=>True
 | some (.ins _ _ _)=>True
 | some (.ext _)=>True
 | _=>False
section
variable {P:Program} {w:World} {H:Hp} {h h':Heap} {x e:Addr} {o':HO}
theorem HOk.write (ok:HOk P w H h) (mu:Mut (H x)) (he:e=x∨H e=some (.own x)) (k:∀ b u,b≠e→h.get? b=some u→h'.get? b=some u) (heo:∃ u,h'.get? e=some u)
  (new:ObjOk P w (upd H x o') h' x o'):HOk P w (upd H x o') h':=fun b u q=>by
 have nown:∀ c y,H c=some (.own y)→c≠x:=fun c y r z=>by subst z; rw [r] at mu; exact mu
 have ntup:∀ c xs,H c=some (.tup xs)→c≠x:=fun c xs r z=>by subst z; rw [r] at mu; exact mu
 by_cases hb:b=x
 ·subst hb; rw [upd_same] at q; cases q; exact new
 ·rw [upd_ne hb] at q
  by_cases hbe:b=e
  ·have q':H b=some (.own x):=by
    rcases he with z | z
    ·exact absurd (hbe.trans z) hb
    ·rw [hbe]; exact z
   rw [q] at q'; cases q'
   obtain ⟨v,hv⟩:=heo
   exact ⟨v,by rw [hbe]; exact hv⟩
  ·refine (ok b u q).stay (fun c v hc r=>k c v ?_ r) (fun c r=>by rw [upd_ne (nown c b r)]; exact r) fun c xs r=>by rw [upd_ne (ntup c xs r)]; exact r
   rcases hc with rfl | hc
   ·exact hbe
   ·rintro rfl
    rcases he with z | z
    ·exact nown c b hc z
    ·rw [hc] at z; cases z; exact hb rfl
end
structure Un (fs ex:List Addr) (H H':Hp) (h h':Heap):Prop where
 keep:∀ b o,h.get? b=some o→H b=none→b ∉ fs→b ∉ ex→h'.get? b=some o
 slot:∀ b o,h.get? b=some o→H b=none→b∈fs→b ∉ ex→∃ sl,h'.get? b=some { o with slots:=sl }
 free:∀ b o,h.get? b=some o→H b=none→b ∉ ex→H' b=none
 there:∀ b o,h.get? b=some o→b ∉ ex→∃ o',h'.get? b=some o'
 tups:∀ b xs,H b=some (.tup xs)→H' b=some (.tup xs)
 frzs:∀ b o u,H b=some (.frz o u)→H' b=some (.frz o u)
 tbls:∀ b ps,H b=some (.tbl ps)→∃ more,H' b=some (.tbl (ps++more))
section
variable {fs fs' ex ex':List Addr} {H H1 H2:Hp} {h h1 h2 h':Heap} {a x e:Addr} {o:HO}
theorem Un.any (u:Un fs ex H H1 h h1) {b:Addr} {ob:Obj} (q:h.get? b=some ob) (n:H b=none) (hx:b ∉ ex):∃ sl,h1.get? b=some { ob with slots:=sl }:=by
 by_cases hb:b∈fs
 ·exact u.slot b ob q n hb hx
 ·exact ⟨ob.slots,u.keep b ob q n hb hx⟩
theorem Un.kept (k:∀ b u,h.get? b=some u→h'.get? b=some u):Un fs ex H H h h' :=
 ⟨fun b ob q _ _ _=>k b ob q,fun b ob q _ _ _=>⟨ob.slots,k b ob q⟩,fun _ _ _ n _=>n,fun b ob q _=>⟨ob,k b ob q⟩,fun _ _ q=>q,fun _ _ _ q=>q,fun _ ps q=>⟨#[],by rw [q]; simp⟩⟩
theorem Un.refl:Un fs ex H H h h:=Un.kept fun _ _ q=>q
theorem Un.laid (k:∀ b u,h.get? b=some u→h'.get? b=some u) (hp:h.objs.size≤a) (hn:H a=none):Un fs ex H (upd H a o) h h' where
 keep:=fun b u q _ _ _=>k b u q
 slot:=fun b u q _ _ _=>⟨u.slots,k b u q⟩
 free:=fun b u q n _=>by rw [upd_ne (Nat.ne_of_lt (Nat.lt_of_lt_of_le (Heap.lt_size q) hp))]; exact n
 there:=fun b u q _=>⟨u,k b u q⟩
 tups:=fun b xs q=>by rw [upd_ne (ne_of_none q hn)]; exact q
 frzs:=fun b u xs q=>by rw [upd_ne (ne_of_none q hn)]; exact q
 tbls:=fun b ps q=>⟨#[],by rw [upd_ne (ne_of_none q hn),q]; simp⟩
theorem Un.write (mu:Mut (H x)) (he:e=x∨H e=some (.own x)) (k:∀ b u,b≠e→h.get? b=some u→h'.get? b=some u) (heo:∃ u,h'.get? e=some u):Un fs ex H (upd H x o) h h':=by
 have hx:∀ b,H b=none→b≠x:=fun b n z=>by subst z; rw [n] at mu; exact mu
 have hb:∀ b,H b=none→b≠e:=fun b n z=>by
  subst z
  rcases he with r | r
  ·exact hx b n r
  ·rw [n] at r; cases r
 have hm:∀ b u,H b=some u→¬ Mut (some u)→b≠x:=fun b u q nm z=>by subst z; rw [q] at mu; exact nm mu
 refine ⟨fun b u q n _ _=>k b u (hb b n) q,fun b u q n _ _=>⟨u.slots,k b u (hb b n) q⟩,fun b u q n _=>by rw [upd_ne (hx b n)]; exact n,fun b u q _=>?_,
  fun b xs q=>by rw [upd_ne (hm b _ q fun z=>z)]; exact q,fun b u xs q=>by rw [upd_ne (hm b _ q fun z=>z)]; exact q,fun b ps q=>⟨#[],by rw [upd_ne (hm b _ q fun z=>z),q]; simp⟩⟩
 by_cases hbe:b=e
 ·subst hbe; exact heo
 ·exact ⟨u,k b u hbe q⟩
end
noncomputable def trk (h:Heap) (H:Hp):List Addr:=(List.range h.objs.size).filter fun a=>(H a).isSome
noncomputable def hidT (h:Heap) (H:Hp):Heap:=PySem.W.hideAll h (trk h H)
theorem hidT_size (h:Heap) (H:Hp):(hidT h H).objs.size=h.objs.size:=PySem.W.hideAll_size _ _
theorem hidT_get {h:Heap} {H:Hp} {b:Addr} {o:Obj} (e:h.get? b=some o) (n:H b=none):(hidT h H).get? b=some o :=
 PySem.W.hideAll_get _ e fun hm=>by
  have q:(H b).isSome=true:=(List.mem_filter.mp hm).2
  rw [n] at q; simp at q
theorem of_hidT {h:Heap} {H:Hp} {b:Addr} {o:Obj} (e:(hidT h H).get? b=some o):h.get? b=some o∧H b=none:=by
 have e':h.get? b=some o:=PySem.W.of_hideAll (trk h H) e
 refine ⟨e',?_⟩
 cases q:H b with
 | none=>rfl
 | some x =>
  have hm:b∈trk h H:=List.mem_filter.mpr ⟨List.mem_range.mpr (Heap.lt_size e'),by simp [q]⟩
  have z:(hidT h H).get? b=none:=PySem.W.hideAll_none (trk h H) hm
  rw [z] at e; cases e
end L2
namespace L2
open PySem PySem.Spec PyProof.Rows
structure Mod (K:PySem.W.Frag) (mg:Str→Option Value) (base:Heap):Prop where
 kin:K.In base
 glob:base.Ns mainGlobals mg
 blt:∃ mb,base.Ns builtinsNs mb∧∀ x:Str,x≠"__name__"→mb x=bootBuiltins x
 nolimit:base.NoLimit
structure Cx where
 prog:Program
 w:World
 K:PySem.W.Frag
 mg:Str→Option Value
 base:Heap
 A:Around
 N:List Str
 s₀:Shared
 H₀:Hp
 env:Env
 outer:List Env
 stack:List Env
 ex:List Addr
 fn:Str→Bool
 calm:Bool
 pn:List (Addr×Obj)
 xe:Value→Shared→Prop
noncomputable def frs (l:List Env):List Addr:=l.filterMap (·.frame)
noncomputable abbrev Cx.fs (X:Cx):List Addr:=frs X.outer
noncomputable def Vis (sc:Scope) (x:Str):Prop:=sc.names.lookup x=some .local∨sc.names.lookup x=some .cell∨sc.names.lookup x=some .free
noncomputable def Loc (sc:Scope) (x:Str):Prop:=sc.names.lookup x=some .local∨sc.names.lookup x=some .cell
noncomputable def Look (env:Env) (h:Heap) (m:Str→Option Value) (x:Str) (u:Value):Prop :=
 (env.kindOf x=some .local∧m x=some u)∨((env.kindOf x=some .cell∨env.kindOf x=some .free)∧∃ c,env.cells.lookup x=some c∧h.IsCell c (some u))
structure Cx.Ok (X:Cx):Prop where
 mod:Mod X.K X.mg X.base
 kind:X.env.scope.kind=.function
 glob:X.env.globals=mainGlobals
 blt:X.env.builtins=builtinsNs
 above:X.s₀.heap.objs.size≤X.env.locals
 inj:∀ x y c,X.env.cells.lookup x=some c→X.env.cells.lookup y=some c→x=y
 has:∀ x,(X.env.kindOf x=some .cell∨X.env.kindOf x=some .free)→∃ c,X.env.cells.lookup x=some c
 cab:∀ x c,X.fn x=true→X.env.cells.lookup x=some c→X.s₀.heap.objs.size≤c
 hd:X.calm=true→X.A.handled=none
 frames:X.A.frames=some X.stack
 stk:X.stack=X.outer∨(X.stack=X.env :: X.outer∧X.env.frame=some X.env.locals)
 exf:∀ b∈X.ex,b≠X.env.locals∧∀ x c,X.env.cells.lookup x=some c→c≠b
 bs:∀ b o,X.base.get? b=some o→X.s₀.heap.get? b=some o∧X.H₀ b=none
 bsz:X.base.objs.size≤X.s₀.heap.objs.size
 noex:∀ b o,X.base.get? b=some o→b ∉ X.ex
 exfs:∀ b∈X.ex,b ∉ X.fs
 funs:X.s₀.heap.FunFrames X.base X.outer
 frf:∀ b∈X.fs,X.H₀ b=none
structure Inv (X:Cx) (pins:List (Addr×Obj)) (σ:List (Option V)) (H:Hp) (s:Shared):Prop where
 ok:X.Ok
 os:s.os=X.s₀.os
 bare:AllBare s.gens
 base:Un X.fs X.ex X.H₀ H X.s₀.heap s.heap
 loc:∃ m,s.heap.Ns X.env.locals m∧∀ (i:Nat) (x:Str) (v:V),X.N[i]?=some x→σ[i]?=some (some v)→Vis X.env.scope x→∃ u,RelV v u∧Look X.env s.heap m x u
 cell:∀ x c,X.env.cells.lookup x=some c→∃ v,s.heap.IsCell c v
 free:H X.env.locals=none
 freeC:∀ x c,X.env.cells.lookup x=some c→H c=none
 pin:∀ p∈X.pn++pins,s.heap.get? p.1=some p.2∧H p.1=none∧p.1≠X.env.locals∧p.1 ∉ X.fs∧∀ v,p.2.data≠.cell v
 hok:HOk X.prog X.w H s.heap
 len:σ.length=X.N.length
section
variable {X:Cx} {pins:List (Addr×Obj)} {σ:List (Option V)} {H H':Hp} {s:Shared} {h':Heap}
theorem Cx.Ok.nofr (ok:X.Ok) {b:Addr} {o:Obj} (e:X.base.get? b=some o):b ∉ X.fs:=fun hb=>by
 have:=(ok.funs.mem hb).1
 rw [e] at this; cases this
theorem Inv.bs (I:Inv X pins σ H s):∀ b o,X.base.get? b=some o→s.heap.get? b=some o∧H b=none:=fun b o e =>
 ⟨I.base.keep b o (I.ok.bs b o e).1 (I.ok.bs b o e).2 (I.ok.nofr e) (I.ok.noex b o e),I.base.free b o (I.ok.bs b o e).1 (I.ok.bs b o e).2 (I.ok.noex b o e)⟩
theorem Inv.bk (I:Inv X pins σ H s):∀ b o,X.base.get? b=some o→s.heap.get? b=some o:=fun b o e=>(I.bs b o e).1
theorem Inv.mod (I:Inv X pins σ H s):Mod X.K X.mg X.base:=I.ok.mod
theorem Inv.kIn (I:Inv X pins σ H s):X.K.In s.heap:=I.ok.mod.kin.keeps I.bk
theorem Inv.fr (I:Inv X pins σ H s):∃ m,Fr X.base X.env.locals s.heap m :=
 let ⟨m,hn,_⟩:=I.loc
 ⟨m,hn,I.bk,Nat.le_trans I.ok.bsz I.ok.above⟩
theorem Inv.lt (I:Inv X pins σ H s):X.env.locals < s.heap.objs.size:=let ⟨_,hn,_⟩:=I.loc; hn.lt
theorem Inv.sz (I:Inv X pins σ H s):X.s₀.heap.objs.size≤s.heap.objs.size:=Nat.le_trans I.ok.above (Nat.le_of_lt I.lt)
theorem Inv.nofs (I:Inv X pins σ H s) {a:Addr} (h:s.heap.objs.size≤a):a ∉ X.fs:=fun hb=>by
 obtain ⟨_,o,ho,_⟩:=I.ok.funs.mem hb
 exact absurd (Nat.lt_of_lt_of_le (Heap.lt_size ho) (Nat.le_trans I.sz h)) (Nat.lt_irrefl _)
theorem Inv.cne (I:Inv X pins σ H s):∀ x c,X.env.cells.lookup x=some c→c≠X.env.locals:=fun x c e z=>by
 obtain ⟨v,o,ho,hd⟩:=I.cell x c e
 obtain ⟨m,⟨o',es,ep,ho',hd',_⟩,_⟩:=I.loc
 rw [z,ho'] at ho; cases ho; rw [hd'] at hd; cases hd
theorem Inv.funs (I:Inv X pins σ H s):s.heap.FunFrames X.base X.outer:=by
 have all:∀ (l:List Env),(∀ b∈frs l,b∈X.fs)→X.s₀.heap.FunFrames X.base l→s.heap.FunFrames X.base l:=by
  intro l
  induction l with
  | nil=>intro _ _; trivial
  | cons env r ih =>
   intro hs hl
   obtain ⟨hk,⟨L,o,hf,hn,ho,hd⟩,hr⟩:=hl
   have hL:L∈X.fs:=hs L (by unfold frs; rw [List.filterMap_cons,hf]; exact List.mem_cons_self)
   obtain ⟨sl,e⟩:=I.base.slot L o ho (I.ok.frf L hL) hL fun z=>I.ok.exfs L z hL
   exact ⟨hk,⟨L,_,hf,hn,e,hd⟩,ih (fun b hb=>hs b (by unfold frs; rw [List.filterMap_cons,hf]; exact List.mem_cons_of_mem _ hb)) hr⟩
 exact all X.outer (fun _ hb=>hb) I.ok.funs
theorem Inv.stack (I:Inv X pins σ H s):s.heap.FunFrames X.base X.stack:=by
 rcases I.ok.stk with e | ⟨e,hf⟩
 ·rw [e]; exact I.funs
 ·rw [e]
  obtain ⟨m,hn,_⟩:=I.loc
  refine .cons (by rw [I.ok.kind]; decide) hf hn ?_ I.funs
  exact Heap.get?_none_of_le (Nat.le_trans I.ok.bsz I.ok.above)
theorem Inv.stkSub (I:Inv X pins σ H s):∀ b∈frs X.stack,b∈X.env.locals :: X.fs:=fun b hb=>by
 rcases I.ok.stk with e | ⟨e,hf⟩
 ·rw [e] at hb; exact List.mem_cons_of_mem _ hb
 ·rw [e] at hb
  unfold frs at hb
  rw [List.filterMap_cons,hf] at hb
  exact hb
theorem Inv.stkFree (I:Inv X pins σ H s):∀ b∈frs X.stack,H b=none:=fun b hb=>by
 rcases List.mem_cons.mp (I.stkSub b hb) with e | hb
 ·rw [e]; exact I.free
 ·obtain ⟨_,o,ho,_⟩:=I.ok.funs.mem hb
  exact I.base.free b o ho (I.ok.frf b hb) fun z=>I.ok.exfs b z hb
theorem Inv.step {g':Array GenState} {t':Nat} {d':Drawn} {ch:List Addr} (I:Inv X pins σ H s)
  (hch:∀ b∈ch,(b∈X.ex∨X.s₀.heap.objs.size≤b)∧b≠X.env.locals∧(∀ x c,X.env.cells.lookup x=some c→c≠b)∧∀ p∈X.pn++pins,p.1≠b)
  (keep:∀ b o,b≠X.env.locals→b ∉ X.fs→b ∉ ch→s.heap.get? b=some o→H b=none→h'.get? b=some o)
  (slot:∀ b o,b≠X.env.locals→b∈X.fs→b ∉ ch→s.heap.get? b=some o→H b=none→∃ sl,h'.get? b=some { o with slots:=sl }) (free:∀ b o,b ∉ ch→s.heap.get? b=some o→H b=none→H' b=none)
  (there:∀ b o,b ∉ ch→s.heap.get? b=some o→∃ o',h'.get? b=some o')
  (tups:∀ b xs,H b=some (.tup xs)→H' b=some (.tup xs)) (frzs:∀ b o u,H b=some (.frz o u)→H' b=some (.frz o u)) (tbls:∀ b ps,H b=some (.tbl ps)→∃ more,H' b=some (.tbl (ps++more)))
  (ns:∀ m,s.heap.Ns X.env.locals m→h'.Ns X.env.locals m) (hok:HOk X.prog X.w H' h') (hg:AllBare g') :
  Inv X pins σ H' { s with heap:=h',gens:=g',drawn:=d',toks:=t' }:=by
 have neL:∀ b o,X.s₀.heap.get? b=some o→b≠X.env.locals:=fun b o e=>Nat.ne_of_lt (Nat.lt_of_lt_of_le (Heap.lt_size e) I.ok.above)
 have neC:∀ b o,X.s₀.heap.get? b=some o→b ∉ X.ex→b ∉ ch:=fun b o e hx hb=>by
  rcases (hch b hb).1 with z | z
  ·exact hx z
  ·exact absurd (Nat.lt_of_lt_of_le (Heap.lt_size e) z) (Nat.lt_irrefl _)
 have cellK:∀ x c,X.env.cells.lookup x=some c→∀ v,s.heap.IsCell c v→h'.IsCell c v:=fun x c e v ⟨o,ho,hd⟩=>by
  have nch:c ∉ ch:=fun z=>(hch c z).2.2.1 x c e rfl
  by_cases hc:c∈X.fs
  ·obtain ⟨sl,q⟩:=slot c o (I.cne x c e) hc nch ho (I.freeC x c e)
   exact ⟨_,q,hd⟩
  ·exact ⟨o,keep c o (I.cne x c e) hc nch ho (I.freeC x c e),hd⟩
 refine ⟨I.ok,I.os,hg,⟨fun b o e n hb hx=>?_,fun b o e n hb hx=>?_,fun b o e n hx=>?_,fun b o e hx=>?_,fun b xs e=>tups b xs (I.base.tups b xs e),fun b o xs e=>frzs b o xs (I.base.frzs b o xs e),fun b ps e=>?_⟩,?_,fun x c e=>?_,?_,fun x c e=>?_,fun p hp=>?_,hok,I.len⟩
 ·exact keep b o (neL b o e) hb (neC b o e hx) (I.base.keep b o e n hb hx) (I.base.free b o e n hx)
 ·obtain ⟨sl,e1⟩:=I.base.slot b o e n hb hx
  obtain ⟨sl',e2⟩:=slot b _ (neL b o e) hb (neC b o e hx) e1 (I.base.free b o e n hx)
  exact ⟨sl',e2⟩
 ·obtain ⟨o',e1⟩:=I.base.there b o e hx
  exact free b o' (neC b o e hx) e1 (I.base.free b o e n hx)
 ·obtain ⟨o',e1⟩:=I.base.there b o e hx
  exact there b o' (neC b o e hx) e1
 ·obtain ⟨m1,e1⟩:=I.base.tbls b ps e
  obtain ⟨m2,e2⟩:=tbls b _ e1
  exact ⟨m1++m2,by rw [e2,Array.append_assoc]⟩
 ·obtain ⟨m,hn,hl⟩:=I.loc
  refine ⟨m,ns m hn,fun i x v e1 e2 e3=>?_⟩
  obtain ⟨u,r,l⟩:=hl i x v e1 e2 e3
  refine ⟨u,r,?_⟩
  rcases l with l | ⟨k,c,e,z⟩
  ·exact .inl l
  ·exact .inr ⟨k,c,e,cellK x c e _ z⟩
 ·obtain ⟨v,z⟩:=I.cell x c e
  exact ⟨v,cellK x c e v z⟩
 ·obtain ⟨m,⟨o,_,_,ho,_⟩,_⟩:=I.loc
  exact free _ o (fun z=>(hch _ z).2.1 rfl) ho I.free
 ·obtain ⟨v,o,ho,hd⟩:=I.cell x c e
  exact free c o (fun z=>(hch c z).2.2.1 x c e rfl) ho (I.freeC x c e)
 ·obtain ⟨e,n,ne,nf,d⟩:=I.pin p hp
  have nch:p.1 ∉ ch:=fun z=>(hch p.1 z).2.2.2 p hp rfl
  exact ⟨keep p.1 p.2 ne nf nch e n,free p.1 p.2 nch e n,ne,nf,d⟩
theorem Inv.un {t':Nat} (I:Inv X pins σ H s) (u:Un X.fs [] H H' s.heap h') (hok:HOk X.prog X.w H' h'):Inv X pins σ H' { s with heap:=h',toks:=t' }:=by
 obtain ⟨m,⟨o,es,ep,ho,r⟩,_⟩:=id I.loc
 obtain ⟨sl,hL⟩:=u.any ho I.free (by simp)
 exact I.step (g':=s.gens) (d':=s.drawn) (ch:=[]) (fun _ z=>nomatch z) (fun b o _ hb _ e n=>u.keep b o e n hb (by simp)) (fun b o _ hb _ e n=>u.slot b o e n hb (by simp)) (fun b o _ e n=>u.free b o e n (by simp)) (fun b o _ e=>u.there b o e (by simp)) u.tups u.frzs u.tbls (fun m' hm=>by
  obtain ⟨o',es',ep',ho',r'⟩:=hm
  rw [ho] at ho'; cases ho'
  exact ⟨_,es',ep',hL,r'⟩) hok I.bare
theorem Inv.call {g':Array GenState} {t':Nat} {d':Drawn} {ch:List Addr} (I:Inv X pins σ H s) (u:Un (frs X.stack) ch H H' s.heap h') (hok:HOk X.prog X.w H' h') (hg:AllBare g')
  (hch:∀ b∈ch,(b∈X.ex∨X.s₀.heap.objs.size≤b)∧b≠X.env.locals∧(∀ x c,X.env.cells.lookup x=some c→c≠b)∧∀ p∈X.pn++pins,p.1≠b) :
  Inv X pins σ H' { s with heap:=h',gens:=g',drawn:=d',toks:=t' }:=by
 obtain ⟨m,⟨o,es,ep,ho,r⟩,_⟩:=id I.loc
 obtain ⟨sl,hL⟩:=u.any ho I.free fun z=>(hch _ z).2.1 rfl
 exact I.step (ch:=ch) hch (fun b o hL hb hc e n=>u.keep b o e n (fun z=>(List.mem_cons.mp (I.stkSub b z)).elim hL hb) hc) (fun b o _ _ hc e n=>u.any e n hc) (fun b o hc e n=>u.free b o e n hc) (fun b o hc e=>u.there b o e hc) u.tups u.frzs u.tbls (fun m' hm=>by
  obtain ⟨o',es',ep',ho',r'⟩:=hm
  rw [ho] at ho'; cases ho'
  exact ⟨_,es',ep',hL,r'⟩) hok hg
theorem Inv.turned {t':Nat} {it:Addr} (I:Inv X pins σ H s) (k:∀ b o,b≠it→s.heap.get? b=some o→h'.get? b=some o) (hn:H it=none) (hL:it≠X.env.locals)
  (h1:it∈X.ex∨X.s₀.heap.objs.size≤it) (h2:∀ x c,X.env.cells.lookup x=some c→c≠it) (h3:∀ p∈X.pn++pins,p.1≠it):Inv X pins σ H { s with heap:=h',toks:=t' }:=by
 have nit:∀ b u,H b=some u→b≠it:=fun b u e z=>by rw [z,hn] at e; cases e
 refine I.step (g':=s.gens) (d':=s.drawn) (ch:=[it]) (fun b hb=>?_) (fun b o _ _ hc e _=>k b o (fun z=>hc (by simp [z])) e) (fun b o _ _ hc e _=>⟨o.slots,k b o (fun z=>hc (by simp [z])) e⟩) (fun _ _ _ _ n=>n)
  (fun b o hc e=>⟨o,k b o (fun z=>hc (by simp [z])) e⟩) (fun _ _ e=>e) (fun _ _ _ e=>e) (fun b ps e=>⟨#[],by rw [e]; simp⟩) (fun m hm=>?_) (fun b u e=>?_) I.bare
 ·have e:b=it:=by simpa using hb
  subst e
  exact ⟨h1,hL,h2,h3⟩
 ·obtain ⟨o,es,ep,ho,r⟩:=hm
  exact ⟨o,es,ep,k _ o (Ne.symm hL) ho,r⟩
 ·refine (I.hok b u e).stay (fun c v hc q=>k c v ?_ q) (fun _ q=>q) fun _ _ q=>q
  rcases hc with z | z
  ·rw [z]; exact nit b u e
  ·exact nit c _ z
theorem Inv.tok (I:Inv X pins σ H s) (t:Nat):Inv X pins σ H { s with toks:=t }:=I.un (h':=s.heap) (t':=t) Un.refl I.hok
theorem Inv.kept {t':Nat} (I:Inv X pins σ H s) (k:∀ b u,s.heap.get? b=some u→h'.get? b=some u):Inv X pins σ H { s with heap:=h',toks:=t' }:=I.un (Un.kept k) (I.hok.kept k)
theorem Inv.laid {a:Addr} {o:HO} {t':Nat} (I:Inv X pins σ H s) (k:∀ b u,s.heap.get? b=some u→h'.get? b=some u) (hp:s.heap.objs.size≤a) (new:ObjOk X.prog X.w (upd H a o) h' a o) :
  Inv X pins σ (upd H a o) { s with heap:=h',toks:=t' }:=I.un (Un.laid k hp (I.hok.fresh hp)) (I.hok.laid k hp new)
theorem Inv.write {x e:Addr} {o:HO} {t':Nat} (I:Inv X pins σ H s) (mu:Mut (H x)) (he:e=x∨H e=some (.own x)) (k:∀ b u,b≠e→s.heap.get? b=some u→h'.get? b=some u) (heo:∃ u,h'.get? e=some u)
  (new:ObjOk X.prog X.w (upd H x o) h' x o):Inv X pins σ (upd H x o) { s with heap:=h',toks:=t' }:=I.un (Un.write mu he k heo) (I.hok.write mu he k heo new)
theorem Inv.pins_of {pins':List (Addr×Obj)} (I:Inv X pins σ H s) (h:∀ p∈pins',s.heap.get? p.1=some p.2∧H p.1=none∧p.1≠X.env.locals∧p.1 ∉ X.fs∧∀ v,p.2.data≠.cell v):Inv X pins' σ H s :=
 ⟨I.ok,I.os,I.bare,I.base,I.loc,I.cell,I.free,I.freeC,fun p hp=>(List.mem_append.mp hp).elim (fun z=>I.pin p (List.mem_append_left _ z)) (h p),I.hok,I.len⟩
theorem nodup_ix {N:List Str} (hN:N.Nodup) {i j:Nat} {x:Str} (a:N[i]?=some x) (b:N[j]?=some x):i=j:=by
 obtain ⟨h1,e1⟩:=List.getElem?_eq_some_iff.mp a
 obtain ⟨h2,e2⟩:=List.getElem?_eq_some_iff.mp b
 exact (List.getElem_inj hN).mp (e1.trans e2.symm)
theorem store_ok2 {M:Model} {A:Around} {E:Value→Shared→Prop} {i:Nat} {x:Str} {v:V} {u:Value} {Q:Unit→Shared→Prop} (I:Inv X pins σ H s) (hN:X.N.Nodup) (hi:X.N[i]?=some x) (hx:Loc X.env.scope x) (r:RelV v u)
  (h:∀ s',Inv X pins (σ.set i (some v)) H s'→(∃ a,Heap.SameBut a s.heap s'.heap∧(a=X.env.locals∨X.env.cells.lookup x=some a))→Q () s') (hf:X.fn x=true∨X.env.scope.names.lookup x=some .local:=by first | exact .inl rfl | exact .inr rfl | assumption):wpAny M A (storeName X.env x u) Q E s:=by
 obtain ⟨m,hn,hl⟩:=id I.loc
 have hcls:(X.env.scope.kind == .class || (X.env.scope.kind == .module && X.env.locals != X.env.globals))=false:=by rw [I.ok.kind]; rfl
 have hiσ:i < σ.length:=by rw [I.len]; exact (List.getElem?_eq_some_iff.mp hi).1
 have cne:=I.cne
 have tracked:∀ {a:Addr} {h':Heap},(∃ o,s.heap.get? a=some o∧H a=none)→Heap.SameBut a s.heap h'→HOk X.prog X.w H h':=fun {a h'} ha hs b ob e=>by
  obtain ⟨_,_,hfree⟩:=ha
  refine (I.hok b ob e).stay (fun c w' hc q=>(hs.2 c ?_).trans q) (fun _ q=>q) fun _ _ q=>q
  rintro rfl
  rcases hc with rfl | hc
  ·rw [hfree] at e; cases e
  ·rw [hfree] at hc; cases hc
 rcases hx with hk | hk
 ·refine wpAny_storeName_local hk hn (fun h' hn' hs=>?_) hcls
  obtain ⟨oL,_,_,hoL,_⟩:=id hn
  refine h _ ⟨I.ok,I.os,I.bare,⟨fun b o e n hb hx=>?_,fun b o e n hb hx=>?_,I.base.free,fun b o e hx=>?_,I.base.tups,I.base.frzs,I.base.tbls⟩,⟨_,hn',fun j y v' e1 e2 e3=>?_⟩,fun y c e=>?_,I.free,I.freeC,fun p hp=>?_,tracked ⟨oL,hoL,I.free⟩ hs,by simpa using I.len⟩ ⟨_,hs,.inl rfl⟩
  ·exact (hs.2 b (Nat.ne_of_lt (Nat.lt_of_lt_of_le (Heap.lt_size e) I.ok.above))).trans (I.base.keep b o e n hb hx)
  ·obtain ⟨sl,e1⟩:=I.base.slot b o e n hb hx
   exact ⟨sl,(hs.2 b (Nat.ne_of_lt (Nat.lt_of_lt_of_le (Heap.lt_size e) I.ok.above))).trans e1⟩
  ·obtain ⟨o',e1⟩:=I.base.there b o e hx
   exact ⟨o',(hs.2 b (Nat.ne_of_lt (Nat.lt_of_lt_of_le (Heap.lt_size e) I.ok.above))).trans e1⟩
  ·by_cases hj:j=i
   ·subst hj
    rw [hi] at e1; cases e1
    rw [List.getElem?_set_self hiσ] at e2
    cases e2
    exact ⟨u,r,.inl ⟨hk,by simp⟩⟩
   ·rw [List.getElem?_set_ne (Ne.symm hj)] at e2
    obtain ⟨u',r',q⟩:=hl j y v' e1 e2 e3
    refine ⟨u',r',?_⟩
    rcases q with ⟨k,e⟩ | ⟨k,c,e,z⟩
    ·refine .inl ⟨k,?_⟩
     have:y≠x:=fun e=>hj (nodup_ix hN e1 (e ▸ hi))
     simp [this,e]
    ·exact .inr ⟨k,c,e,z.sameBut hs (cne y c e)⟩
  ·obtain ⟨w',z⟩:=I.cell y c e
   exact ⟨w',z.sameBut hs (cne y c e)⟩
  ·obtain ⟨e,n,ne,nf,d⟩:=I.pin p hp
   exact ⟨(hs.2 p.1 ne).trans e,n,ne,nf,d⟩
 ·have hfn:X.fn x=true:=by
   rcases hf with z | z
   ·exact z
   ·rw [z] at hk; cases hk
  obtain ⟨c,hc⟩:=I.ok.has x (.inl hk)
  obtain ⟨w',z⟩:=I.cell x c hc
  refine wpAny_storeName_cell I.ok.kind hk hc z (fun h' hc' hs=>?_)
  obtain ⟨oc,hoc,hocd⟩:=id z
  refine h { s with heap:=h' } ⟨I.ok,I.os,I.bare,⟨fun b o e n hb hx=>?_,fun b o e n hb hx=>?_,I.base.free,fun b o e hx=>?_,I.base.tups,I.base.frzs,I.base.tbls⟩,⟨m,hn.sameBut hs (Ne.symm (cne x c hc)),fun j y v' e1 e2 e3=>?_⟩,fun y c' e=>?_,I.free,I.freeC,fun p hp=>?_,tracked ⟨oc,hoc,I.freeC x c hc⟩ hs,by simpa using I.len⟩ ⟨c,hs,.inr hc⟩
  ·exact (hs.2 b (Nat.ne_of_lt (Nat.lt_of_lt_of_le (Heap.lt_size e) (I.ok.cab x c hfn hc)))).trans (I.base.keep b o e n hb hx)
  ·obtain ⟨sl,e1⟩:=I.base.slot b o e n hb hx
   exact ⟨sl,(hs.2 b (Nat.ne_of_lt (Nat.lt_of_lt_of_le (Heap.lt_size e) (I.ok.cab x c hfn hc)))).trans e1⟩
  ·obtain ⟨o',e1⟩:=I.base.there b o e hx
   exact ⟨o',(hs.2 b (Nat.ne_of_lt (Nat.lt_of_lt_of_le (Heap.lt_size e) (I.ok.cab x c hfn hc)))).trans e1⟩
  ·by_cases hj:j=i
   ·subst hj
    rw [hi] at e1; cases e1
    rw [List.getElem?_set_self hiσ] at e2
    cases e2
    exact ⟨u,r,.inr ⟨.inl hk,c,hc,hc'⟩⟩
   ·rw [List.getElem?_set_ne (Ne.symm hj)] at e2
    obtain ⟨u',r',q⟩:=hl j y v' e1 e2 e3
    refine ⟨u',r',?_⟩
    rcases q with q | ⟨k,c',e,z'⟩
    ·exact .inl q
    ·refine .inr ⟨k,c',e,z'.sameBut hs ?_⟩
     rintro rfl
     exact hj (nodup_ix hN e1 (I.ok.inj _ _ _ e hc ▸ hi))
  ·by_cases hcc:c'=c
   ·subst hcc; exact ⟨_,hc'⟩
   ·obtain ⟨w2,z2⟩:=I.cell y c' e
    exact ⟨w2,z2.sameBut hs hcc⟩
  ·obtain ⟨e,n,ne,nf,d⟩:=I.pin p hp
   refine ⟨(hs.2 p.1 ?_).trans e,n,ne,nf,d⟩
   intro q
   rw [q,hoc] at e
   have q':oc=p.2:=Option.some.inj e
   exact d w' (by rw [← q']; exact hocd)
theorem store_ok {M:Model} {A:Around} {E:Value→Shared→Prop} {i:Nat} {x:Str} {v:V} {u:Value} {Q:Unit→Shared→Prop} (I:Inv X pins σ H s) (hN:X.N.Nodup) (hi:X.N[i]?=some x) (hx:Loc X.env.scope x) (r:RelV v u)
  (h:∀ s',Inv X pins (σ.set i (some v)) H s'→Q () s') (hf:X.fn x=true∨X.env.scope.names.lookup x=some .local:=by first | exact .inl rfl | exact .inr rfl | assumption):wpAny M A (storeName X.env x u) Q E s :=
 store_ok2 I hN hi hx r (fun s' I' _=>h s' I') hf
theorem Inv.call' {s':Shared} {ch:List Addr} (I:Inv X pins σ H s) (ho:s'.os=s.os) (u:Un (frs X.stack) ch H H' s.heap s'.heap) (hok:HOk X.prog X.w H' s'.heap) (hg:AllBare s'.gens)
  (hch:∀ b∈ch,(b∈X.ex∨X.s₀.heap.objs.size≤b)∧b≠X.env.locals∧(∀ x c,X.env.cells.lookup x=some c→c≠b)∧∀ p∈X.pn++pins,p.1≠b):Inv X pins σ H' s':=by
 obtain ⟨h',g',d',t',o'⟩:=s'
 have e:o'=s.os:=ho
 subst e
 exact I.call (g':=g') (t':=t') (d':=d') u hok hg hch
end
noncomputable abbrev XK:=Value→Option Addr→Hp→Prop
noncomputable abbrev St:=List (Option V)
noncomputable abbrev VK:=V→Hp→Prop
noncomputable abbrev TE:=St→Hp→VK→Prop
noncomputable abbrev TT:=St→Hp→(Bool→Hp→Prop)→Prop
noncomputable abbrev TA:=St→Hp→(List V→Hp→Prop)→Prop
structure Ends where
 nx:St→Hp→Prop
 rt:VK
 bk:St→Hp→Prop:=fun _ _=>False
 ct:St→Hp→Prop:=fun _ _=>False
noncomputable abbrev TS:=Ends→St→Hp→Prop
noncomputable def EP (X:Cx) (pins:List (Addr×Obj)) (σ:St) (Q:VK) (u:Value) (s':Shared):Prop:=∃ v H',Inv X pins σ H' s'∧RelV v u∧Q v H'
noncomputable def TP (X:Cx) (pins:List (Addr×Obj)) (σ:St) (Q:Bool→Hp→Prop) (b:Bool) (s':Shared):Prop:=∃ H',Inv X pins σ H' s'∧Q b H'
noncomputable def AP (X:Cx) (pins:List (Addr×Obj)) (σ:St) (Q:List V→Hp→Prop) (us:List Value) (s':Shared):Prop:=∃ vs H',Inv X pins σ H' s'∧Vals vs us∧Q vs H'
noncomputable def SP (X:Cx) (pins:List (Addr×Obj)) (D:Ends) (f:Flow) (s':Shared):Prop :=
 match f with
 | .next=>∃ σ' H',Inv X pins σ' H' s'∧D.nx σ' H'
 | .brk=>∃ σ' H',Inv X pins σ' H' s'∧D.bk σ' H'
 | .cont=>∃ σ' H',Inv X pins σ' H' s'∧D.ct σ' H'
 | .ret u=>∃ v σ' H',Inv X pins σ' H' s'∧RelV v u∧D.rt v H'
noncomputable def PE (X:Cx) (e:Expr) (t:TE):Prop :=
 ∀ (pins:List (Addr×Obj)) (s:Shared) (σ:St) (H:Hp) (Q:VK),Inv X pins σ H s→t σ H Q→wpAny (model X.prog X.w) X.A (eval e X.env) (EP X pins σ Q) X.xe s
noncomputable def PT (X:Cx) (e:Expr) (t:TT):Prop :=
 ∀ (pins:List (Addr×Obj)) (s:Shared) (σ:St) (H:Hp) (Q:Bool→Hp→Prop),Inv X pins σ H s→t σ H Q→wpAny (model X.prog X.w) X.A (isTrue e X.env (eval e X.env)) (TP X pins σ Q) X.xe s
noncomputable def PW (X:Cx) (e:Expr) (t:TT):Prop :=
 ∀ (whole:Sem Value) (pins:List (Addr×Obj)) (s:Shared) (σ:St) (H:Hp) (Q:Bool→Hp→Prop),Inv X pins σ H s→t σ H Q→wpAny (model X.prog X.w) X.A (isTrue e X.env whole) (TP X pins σ Q) X.xe s
theorem PW.pt {X:Cx} {e:Expr} {t:TT} (h:PW X e t):PT X e t:=h _
noncomputable def PA (X:Cx) (es:List Expr) (t:TA):Prop :=
 ∀ (pos:Pos) (pins:List (Addr×Obj)) (s:Shared) (σ:St) (H:Hp) (Q:List V→Hp→Prop),Inv X pins σ H s→t σ H Q→wpAny (model X.prog X.w) X.A (spliced (backTo pos (starEach es X.env))) (AP X pins σ Q) X.xe s
noncomputable def PS (X:Cx) (st:Stmt) (t:TS):Prop :=
 ∀ (pins:List (Addr×Obj)) (s:Shared) (σ:St) (H:Hp) (D:Ends),Inv X pins σ H s→t D σ H→wpAny (model X.prog X.w) X.A (exec st X.env) (SP X pins D) X.xe s
noncomputable def PSs (X:Cx) (st:List Stmt) (t:TS):Prop :=
 ∀ (pins:List (Addr×Obj)) (s:Shared) (σ:St) (H:Hp) (D:Ends),Inv X pins σ H s→t D σ H→wpAny (model X.prog X.w) X.A (execs st X.env) (SP X pins D) X.xe s
theorem thn {α:Type} {t:Sem α} {Q Q':α→Shared→Prop} {M:Model} {A:Around} {E:Value→Shared→Prop} {s:Shared} (h:wpAny M A t Q E s) (hQ:∀ a s,Q a s→Q' a s):wpAny M A t Q' E s:=wpAny_mono h hQ fun _ _ x=>x
end L2
namespace L2
open PySem PySem.Spec PyProof.Rows
section
variable {X:Cx}
noncomputable def tVar (i:Nat):TE:=fun σ H Q=>∃ v,σ[i]?=some (some v)∧Q v H
noncomputable def tC (v:V):TE:=fun _ H Q=>Q v H
theorem pe_var {i:Nat} {x:Str} {pos:Pos} (hN:X.N[i]?=some x) (hv:Vis X.env.scope x) (hd:(x == ("__debug__":Str))=false:=by decide) (hcd:(x == ("__classdict__":Str))=false:=by decide):PE X (.Name x pos) (tVar i):=by
 intro pins s σ H Q I h
 obtain ⟨v,e,h⟩:=h
 obtain ⟨m,hn,hl⟩:=I.loc
 obtain ⟨u,r,l⟩:=hl i x v hN e hv
 have fin:EP X pins σ Q u s:=⟨v,H,I,r,h⟩
 rcases l with ⟨hk,hm⟩ | ⟨hk,c,hc,hcell⟩
 ·exact wpAny_Name (wpAny_loadName_local I.ok.kind hk hn hm fin) hd
 ·rcases hk with hk | hk
  ·exact wpAny_Name (wpAny_loadName_cell I.ok.kind hk hc hcell fin) hd
  ·exact wpAny_Name (wpAny_loadName_free I.ok.kind hk hc hcell fin hcd) hd
theorem pe_int {i j pos}:PE X (.Constant (.int i) j pos) (tC (.int i)):=fun _ _ _ H _ I h=>wpAny_Constant_int ⟨.int i,H,I.tok _,⟨_,rfl⟩,h⟩
theorem pe_bl {b j pos}:PE X (.Constant (.bool b) j pos) (tC (.bl b)):=fun _ _ _ H _ I h=>Constant_bool ⟨.bl b,H,I,rfl,h⟩
theorem pe_non {j pos}:PE X (.Constant .none j pos) (tC .non):=fun _ _ _ H _ I h=>Constant_none ⟨.non,H,I,rfl,h⟩
theorem pe_str {x j pos}:PE X (.Constant (.str x) j pos) (tC (.str x)):=fun _ _ _ H _ I h=>Calls.Constant_str ⟨.str x,H,I.tok _,⟨_,rfl⟩,h⟩
noncomputable def Gl (X:Cx) (x:Str):Prop:=X.env.kindOf x=some .globalImplicit
theorem ld_glob {E:Value→Shared→Prop} {pins:List (Addr×Obj)} {s:Shared} {σ:St} {H:Hp} {x:Str} {u:Value} {pos:Pos} {Q:Value→Shared→Prop} (I:Inv X pins σ H s) (hg:Gl X x) (hm:X.mg x=some u) (h:Q u s)
  (hd:(x == ("__debug__":Str))=false:=by decide):wpAny (model X.prog X.w) X.A (eval (.Name x pos) X.env) Q E s :=
 Calls.Name_function_global I.ok.kind hg (Calls.loadGlobal_global (by rw [I.ok.glob]; exact I.mod.glob.keeps I.bk) hm h) hd
theorem ld_blt {E:Value→Shared→Prop} {pins:List (Addr×Obj)} {s:Shared} {σ:St} {H:Hp} {x:Str} {u:Value} {pos:Pos} {Q:Value→Shared→Prop} (I:Inv X pins σ H s) (hg:Gl X x) (hm:X.mg x=none) (hv:bootBuiltins x=some u) (h:Q u s)
  (hn:x≠"__name__":=by decide) (hd:(x == ("__debug__":Str))=false:=by decide):wpAny (model X.prog X.w) X.A (eval (.Name x pos) X.env) Q E s:=by
 obtain ⟨mb,h1,h2⟩:=I.mod.blt
 exact Calls.Name_function_global I.ok.kind hg (Calls.loadGlobal_builtin (by rw [I.ok.glob]; exact I.mod.glob.keeps I.bk) hm (by rw [I.ok.blt]; exact h1.keeps I.bk) ((h2 x hn).trans hv) h) hd
theorem pe_glob {x:Str} {v:V} {u:Value} {pos:Pos} (hg:Gl X x) (hm:X.mg x=some u) (r:RelV v u) (hd:(x == ("__debug__":Str))=false:=by decide):PE X (.Name x pos) (tC v) :=
 fun _ _ _ H _ I h=>ld_glob I hg hm ⟨v,H,I,r,h⟩ hd
theorem pe_bltn {x:Str} {v:V} {u:Value} {pos:Pos} (hg:Gl X x) (hm:X.mg x=none) (hv:bootBuiltins x=some u) (r:RelV v u) (hn:x≠"__name__":=by decide) (hd:(x == ("__debug__":Str))=false:=by decide):PE X (.Name x pos) (tC v) :=
 fun _ _ _ H _ I h=>ld_blt I hg hm hv ⟨v,H,I,r,h⟩ hn hd
variable {a b:Expr} {ta tb:TE} {pos:Pos}
noncomputable def tB (t:TE):TT:=fun σ H Q=>t σ H fun x H1=>∃ c,x=.bl c∧Q c H1
theorem pt_val {e:Expr} {t:TE} (h:PE X e t) (he:∀ whole,isTrue e X.env whole=(do let v ← whole; standAt e.pos; holding [v] (truthy v)):=by intro _; rfl):PT X e (tB t):=by
 intro pins s σ H Q I hw
 refine isTrue_plain (thn (h pins s σ H _ I hw) fun v s1 ⟨x,H1,I1,r1,q1⟩=>?_) (he _)
 obtain ⟨d,rfl,q⟩:=q1
 cases r1
 exact wpAny_truthy_bool ⟨H1,I1,q⟩
variable {tA tB':TT} {rest:List Expr}
noncomputable def tAnd (t u:TT):TT:=fun σ H Q=>t σ H fun c H1=>if c=true then u σ H1 Q else Q false H1
noncomputable def tOr (t u:TT):TT:=fun σ H Q=>t σ H fun c H1=>if c=true then Q true H1 else u σ H1 Q
noncomputable def tNot (t:TT):TT:=fun σ H Q=>t σ H fun c H1=>Q (!c) H1
theorem pw_and1 (ha:PT X a tA):PW X (.BoolOp .And [a] pos) tA:=by
 intro wh pins s σ H Q I h
 refine isTrue_and (thn (ha pins s σ H Q I h) fun c s1 e=>?_)
 cases c with
 | true=>exact isTrue_and_nil e
 | false=>exact e
theorem pw_or1 (ha:PT X a tA):PW X (.BoolOp .Or [a] pos) tA:=by
 intro wh pins s σ H Q I h
 refine isTrue_or (thn (ha pins s σ H Q I h) fun c s1 e=>?_)
 cases c with
 | false=>exact isTrue_or_nil e
 | true=>exact e
theorem pw_and (ha:PT X a tA) (hb:PW X (.BoolOp .And (b :: rest) pos) tB'):PW X (.BoolOp .And (a :: b :: rest) pos) (tAnd tA tB'):=by
 intro wh pins s σ H Q I h
 refine isTrue_and (thn (ha pins s σ H _ I h) fun c s1 ⟨H1,I1,q1⟩=>?_)
 cases c with
 | true=>exact hb wh pins s1 σ H1 Q I1 q1
 | false=>exact ⟨H1,I1,q1⟩
theorem pw_or (ha:PT X a tA) (hb:PW X (.BoolOp .Or (b :: rest) pos) tB'):PW X (.BoolOp .Or (a :: b :: rest) pos) (tOr tA tB'):=by
 intro wh pins s σ H Q I h
 refine isTrue_or (thn (ha pins s σ H _ I h) fun c s1 ⟨H1,I1,q1⟩=>?_)
 cases c with
 | true=>exact ⟨H1,I1,q1⟩
 | false=>exact hb wh pins s1 σ H1 Q I1 q1
theorem pt_not (ha:PT X a tA):PT X (.UnaryOp .Not a pos) (tNot tA):=by
 intro pins s σ H Q I h
 exact isTrue_not (ha pins s σ H (fun c H1=>Q (!c) H1) I h)
noncomputable def tAndV (ta tb:TE):TE:=fun σ H Q=>ta σ H fun x H1=>∃ c,x=.bl c∧if c=true then tb σ H1 Q else Q (.bl false) H1
noncomputable def tNotV (ta:TE):TE:=fun σ H Q=>ta σ H fun x H1=>∃ c,x=.bl c∧Q (.bl (!c)) H1
theorem pe_one {op} {t:TE} (h:PE X a t):PE X (.BoolOp op [a] pos) t:=fun pins s σ H Q I hw=>BoolOp_one (h pins s σ H Q I hw)
theorem pe_and (ha:PE X a ta) (hb:PE X (.BoolOp .And (b :: rest) pos) tb):PE X (.BoolOp .And (a :: b :: rest) pos) (tAndV ta tb):=by
 intro pins s σ H Q I h
 refine BoolOp_and (thn (ha pins s σ H _ I h) fun v s1 ⟨x,H1,I1,r1,q1⟩=>?_)
 obtain ⟨c,rfl,q1⟩:=q1
 cases r1
 refine wpAny_truthy_bool ?_
 cases c with
 | true=>exact hb pins s1 σ H1 Q I1 q1
 | false=>exact ⟨.bl false,H1,I1,rfl,q1⟩
theorem pe_not (ha:PE X a ta):PE X (.UnaryOp .Not a pos) (tNotV ta):=by
 intro pins s σ H Q I h
 refine UnaryOp_ (thn (ha pins s σ H _ I h) fun v s1 ⟨x,H1,I1,r1,q1⟩=>?_)
 obtain ⟨c,rfl,q1⟩:=q1
 cases r1
 exact not_of (wpAny_truthy_bool ⟨.bl (!c),H1,I1,rfl,q1⟩)
end
end L2
namespace L2
open PySem PySem.Spec PyProof.Rows
noncomputable def SqL (K:PySem.W.Frag) (H:Hp) (a:Addr) (xs:List V):Prop :=
 Rd H a (.lst xs) ∨
  ∃ (o:Obj) (its:Array Value) (n:Nat),K.lookup a=some o∧o.cls=.type "list"∧o.dict=none∧o.data=.seq its n∧its.size≤sizeLine∧Vals xs its.toList
noncomputable def SqT (K:PySem.W.Frag) (H:Hp) (a:Addr) (xs:List V):Prop :=
 Rd H a (.tup xs) ∨
  ∃ (o:Obj) (its:Array Value) (n:Nat),K.lookup a=some o∧o.cls=.type "tuple"∧o.data=.seq its n∧its.size≤sizeLine∧Vals xs its.toList
noncomputable def absV:Value→Option V
 | .none=>some .non
 | .bool b=>some (.bl b)
 | .int i _=>some (.int i)
 | .str x _=>some (.str x)
 | .bytes b _=>some (.byt b)
 | .float b _=>some (.flt b)
 | .ref a=>some (.ref a)
 | .type n=>some (.ty n)
 | _=>none
theorem RelV.abs {x:V} {u:Value} (r:RelV x u):absV u=some x:=by
 cases x with
 | non=>cases r; rfl
 | bl _=>cases r; rfl
 | int _=>obtain ⟨t,rfl⟩:=r; rfl
 | str _=>obtain ⟨t,rfl⟩:=r; rfl
 | byt _=>obtain ⟨t,rfl⟩:=r; rfl
 | flt _=>obtain ⟨t,rfl⟩:=r; rfl
 | ref _=>cases r; rfl
 | ty _=>cases r; rfl
theorem RelV.inj {x y:V} {u:Value} (r:RelV x u) (q:RelV y u):x=y:=Option.some.inj (r.abs.symm.trans q.abs)
theorem Vals.inj:∀ {xs ys:List V} {us:List Value},Vals xs us→Vals ys us→xs=ys
 | _,_,_,.nil,.nil=>rfl
 | _,_,_,.cons r t,.cons r' t'=>by rw [r.inj r',Vals.inj t t']
section
variable {X:Cx} {pins:List (Addr×Obj)} {σ:St} {H:Hp} {s:Shared} {a:Addr} {xs ys:List V}
theorem SqL.of {K:PySem.W.Frag} (h:H a=some (.lst xs)):SqL K H a xs:=.inl (.inl h)
theorem SqT.of {K:PySem.W.Frag} (h:H a=some (.tup xs)):SqT K H a xs:=.inl (.inl h)
theorem Inv.list (I:Inv X pins σ H s) (h:SqL X.K H a xs):∃ its:List Value,Vals xs its∧PlainL s.heap a its.toArray∧xs.length≤sizeLine:=by
 rcases h with h | ⟨o,its,n,hk,hc,hd,hs,hz,r⟩
 ·obtain ⟨z,its,n,r,e⟩:=h.ok I.hok
  exact ⟨its,r,⟨_,n,e,rfl,rfl,rfl⟩,z⟩
 ·refine ⟨its.toList,r,⟨o,n,I.kIn a o hk,hc,hd,by simpa using hs⟩,?_⟩
  have e:=r.length
  simp only [Array.length_toList] at e
  lia
theorem Inv.tuple (I:Inv X pins σ H s) (h:SqT X.K H a xs):∃ its:List Value,Vals xs its∧IsTup s.heap a its.toArray∧xs.length≤sizeLine:=by
 rcases h with h | ⟨o,its,n,hk,hc,hs,hz,r⟩
 ·obtain ⟨z,its,r,p⟩:=h.ok I.hok
  exact ⟨its,r,p,z⟩
 ·refine ⟨its.toList,r,⟨o,I.kIn a o hk,hc,n,by simpa using hs⟩,?_⟩
  have e:=r.length
  simp only [Array.length_toList] at e
  lia
theorem Inv.list_inj (I:Inv X pins σ H s) (h:SqL X.K H a xs) (h':SqL X.K H a ys):xs=ys:=by
 obtain ⟨its,r,⟨o,n,e,_,_,d⟩,_⟩:=I.list h
 obtain ⟨its',r',⟨o',n',e',_,_,d'⟩,_⟩:=I.list h'
 rw [e] at e'; cases e'
 rw [d] at d'
 injection d' with d1 _
 have:its=its':=by simpa using congrArg Array.toList d1
 subst this
 exact r.inj r'
theorem Inv.tuple_inj (I:Inv X pins σ H s) (h:SqT X.K H a xs) (h':SqT X.K H a ys):xs=ys:=by
 obtain ⟨its,r,⟨o,e,_,n,d⟩,_⟩:=I.tuple h
 obtain ⟨its',r',⟨o',e',_,n',d'⟩,_⟩:=I.tuple h'
 rw [e] at e'; cases e'
 rw [d] at d'
 injection d' with d1 _
 have:its=its':=by simpa using congrArg Array.toList d1
 subst this
 exact r.inj r'
end
noncomputable abbrev Cx.wish (X:Cx) (E:Value→Shared→Prop):Cx:={ X with xe:=E }
noncomputable abbrev Cx.nox (X:Cx):Cx:=X.wish fun _ _=>False
theorem Cx.Ok.wish {X:Cx} (ok:X.Ok) (E:Value→Shared→Prop):(X.wish E).Ok :=
 ⟨ok.mod,ok.kind,ok.glob,ok.blt,ok.above,ok.inj,ok.has,ok.cab,ok.hd,ok.frames,ok.stk,ok.exf,ok.bs,ok.bsz,ok.noex,ok.exfs,ok.funs,ok.frf⟩
theorem Cx.Ok.unwish {X:Cx} {E:Value→Shared→Prop} (ok:(X.wish E).Ok):X.Ok :=
 ⟨ok.mod,ok.kind,ok.glob,ok.blt,ok.above,ok.inj,ok.has,ok.cab,ok.hd,ok.frames,ok.stk,ok.exf,ok.bs,ok.bsz,ok.noex,ok.exfs,ok.funs,ok.frf⟩
section
variable {X:Cx} {pins:List (Addr×Obj)} {σ:St} {H:Hp} {s:Shared} {E:Value→Shared→Prop}
theorem Inv.wish (I:Inv X pins σ H s) (E:Value→Shared→Prop):Inv (X.wish E) pins σ H s:=⟨I.ok.wish E,I.os,I.bare,I.base,I.loc,I.cell,I.free,I.freeC,I.pin,I.hok,I.len⟩
theorem Inv.unwish (I:Inv (X.wish E) pins σ H s):Inv X pins σ H s:=⟨I.ok.unwish,I.os,I.bare,I.base,I.loc,I.cell,I.free,I.freeC,I.pin,I.hok,I.len⟩
theorem SP.unwish {D:Ends} {f:Flow} {s':Shared} (h:SP (X.wish E) pins D f s'):SP X pins D f s':=by
 cases f with
 | next=>obtain ⟨σ',H',I,q⟩:=h; exact ⟨σ',H',I.unwish,q⟩
 | brk=>obtain ⟨σ',H',I,q⟩:=h; exact ⟨σ',H',I.unwish,q⟩
 | cont=>obtain ⟨σ',H',I,q⟩:=h; exact ⟨σ',H',I.unwish,q⟩
 | ret u=>obtain ⟨v,σ',H',I,r,q⟩:=h; exact ⟨v,σ',H',I.unwish,r,q⟩
theorem PSs.nox {st:List Stmt} {t:TS} (h:PSs X.nox st t):PSs X st t:=fun pins s σ H D I hw =>
 wpAny_mono (h pins s σ H D (I.wish _) hw) (fun _ _ q=>q.unwish) fun _ _ z=>False.elim z
end
section
variable {X:Cx} {st:Stmt} {rest:List Stmt} {t u:TS} {e:Expr} {te:TE} {pos:Pos}
noncomputable def tNext:TS:=fun D σ H=>D.nx σ H
noncomputable def tSeq (t u:TS):TS:=fun D σ H=>t { D with nx:=u D } σ H
theorem pss_nil:PSs X [] tNext:=fun _ _ σ H _ I h=>wpAny_execs_nil ⟨σ,H,I,h⟩
theorem pss_cons (h1:PS X st t) (h2:PSs X rest u):PSs X (st :: rest) (tSeq t u):=by
 intro pins s σ H D I h
 refine wpAny_execs_cons (thn (h1 pins s σ H { D with nx:=u D } I h) fun f s1 q=>?_)
 cases f with
 | next =>
  obtain ⟨σ',H',I',q⟩:=q
  exact h2 pins s1 σ' H' D I' q
 | ret v=>exact q
 | brk=>exact q
 | cont=>exact q
theorem pss_one (h1:PS X st t):PSs X [st] t:=by
 intro pins s σ H D I h
 refine wpAny_execs_cons (thn (h1 pins s σ H D I h) fun f s1 q=>?_)
 cases f with
 | next=>exact wpAny_execs_nil q
 | ret v=>exact q
 | brk=>exact q
 | cont=>exact q
theorem Inv.quiet {pins:List (Addr×Obj)} {σ:St} {H:Hp} {s:Shared} (I:Inv X pins σ H s):interactive X.env=false:=by simp [interactive,I.ok.kind]
noncomputable def tDrop (te:TE):TS:=fun D σ H=>te σ H fun _ H1=>D.nx σ H1
theorem ps_expr (he:PE X e te) (hs:swapsWith e none pos.line X.env=pure false:=by rfl):PS X (.Expr e pos) (tDrop te):=by
 intro pins s σ H D I h
 exact wpAny_Expr_any (thn (he pins s σ H _ I h) fun v s1 ⟨x,H1,I1,r1,q1⟩=>⟨σ,H1,I1,q1⟩) I.quiet hs
noncomputable def tRet (te:TE):TS:=fun D σ H=>te σ H D.rt
theorem ps_ret (he:PE X e te):PS X (.Return (some e) pos) (tRet te):=by
 intro pins s σ H D I h
 exact wpAny_Return_some (thn (he pins s σ H _ I h) fun v s1 ⟨x,H1,I1,r1,q1⟩=>⟨x,σ,H1,I1,r1,q1⟩)
noncomputable def tIfS (c:TT) (t u:TS):TS:=fun D σ H=>c σ H fun b H1=>if b=true then t D σ H1 else u D σ H1
theorem ps_if {c:Expr} {a b:List Stmt} {tc:TT} (hc:PT X c tc) (ha:PSs X a t) (hb:PSs X b u):PS X (.If c a b pos) (tIfS tc t u):=by
 intro pins s σ H D I h
 refine wpAny_If (thn (hc pins s σ H _ I h) fun d s1 ⟨H1,I1,q1⟩=>?_)
 cases d with
 | true=>exact ha pins s1 σ H1 D I1 q1
 | false=>exact hb pins s1 σ H1 D I1 q1
end
noncomputable abbrev TG:=V→St→Hp→(St→Hp→Prop)→Prop
noncomputable abbrev TGs:=List V→St→Hp→(St→Hp→Prop)→Prop
noncomputable def PG (X:Cx) (target:Expr) (t:TG):Prop :=
 ∀ (pins:List (Addr×Obj)) (s:Shared) (σ:St) (H:Hp) (v:V) (u:Value) (Q:St→Hp→Prop),Inv X pins σ H s→RelV v u→t v σ H Q →
  wpAny (model X.prog X.w) X.A (assign target X.env u) (fun _ s'=>∃ σ' H',Inv X pins σ' H' s'∧Q σ' H') X.xe s
noncomputable def PGs (X:Cx) (ts:List Expr) (t:TGs):Prop :=
 ∀ (pins:List (Addr×Obj)) (s:Shared) (σ:St) (H:Hp) (vs:List V) (us:List Value) (Q:St→Hp→Prop),Inv X pins σ H s→Vals vs us→t vs σ H Q →
  wpAny (model X.prog X.w) X.A (assignInOrder ((assignEach ts X.env).map (·.2)) us) (fun _ s'=>∃ σ' H',Inv X pins σ' H' s'∧Q σ' H') X.xe s
noncomputable abbrev TSet:=V→V→V→Hp→(Hp→Prop)→Prop
noncomputable def PSet (X:Cx) (t:TSet):Prop :=
 ∀ (pins:List (Addr×Obj)) (s:Shared) (σ:St) (H:Hp) (o i v:V) (ov iv u:Value) (Q:Hp→Prop),Inv X pins σ H s→RelV o ov→RelV i iv→RelV v u→t o i v H Q →
  wpAny (model X.prog X.w) X.A (setItem ov iv u) (fun _ s'=>∃ H',Inv X pins σ H' s'∧Q H') X.xe s
section
variable {X:Cx} {pos:Pos}
noncomputable def gName (i:Nat):TG:=fun v σ H Q=>Q (σ.set i (some v)) H
theorem pg_name {i:Nat} {x:Str} (hN:X.N.Nodup) (hi:X.N[i]?=some x) (hx:Loc X.env.scope x) (hf:X.fn x=true∨X.env.scope.names.lookup x=some .local:=by first | exact .inl rfl | exact .inr rfl | assumption):PG X (.Name x pos) (gName i):=by
 intro pins s σ H v u Q I r h
 exact wpAny_assign_Name (store_ok I hN hi hx r (fun s' I'=>⟨_,H,I',h⟩) hf)
noncomputable def gNil:TGs:=fun vs σ H Q=>vs=[]∧Q σ H
noncomputable def gCons (t:TG) (u:TGs):TGs:=fun vs σ H Q=>∃ v r,vs=v :: r∧t v σ H fun σ' H'=>u r σ' H' Q
theorem pgs_nil:PGs X [] gNil:=by
 intro pins s σ H vs us Q I r h
 obtain ⟨e,h⟩:=h
 subst e
 cases r
 exact assignInOrder_nil ⟨σ,H,I,h⟩
theorem pgs_cons {e:Expr} {es:List Expr} {t:TG} {u:TGs} (h1:PG X e t) (h2:PGs X es u)
  (hs:(assignEach (e :: es) X.env).map (·.2)=assign e X.env :: (assignEach es X.env).map (·.2):=by rfl):PGs X (e :: es) (gCons t u):=by
 intro pins s σ H vs us Q I r h
 obtain ⟨v,vr,e1,h⟩:=h
 subst e1
 cases r with
 | cons r rr =>
  rw [hs]
  refine assignInOrder_cons (thn (h1 pins s σ H _ _ _ I r h) fun _ s1 ⟨σ1,H1,I1,q1⟩=>?_)
  exact h2 pins s1 σ1 H1 _ _ Q I1 rr q1
noncomputable def gTup (K:PySem.W.Frag) (n:Nat) (t:TGs):TG:=fun v σ H Q=>∃ a xs,v=.ref a∧SqT K H a xs∧xs.length=n∧t xs σ H Q
theorem pg_tup {es:List Expr} {k:Nat} {t:TGs} {n:Nat} (hc:X.calm=true) (h:PGs X es t)
  (hn:(assignEach es X.env).length=n:=by rfl) (hst:(assignEach es X.env).findIdx? (·.1)=none:=by rfl):PG X (.Tuple es k pos) (gTup X.K n t):=by
 intro pins s σ H v u Q I r hw
 obtain ⟨a,xs,e1,hq,hl,hw⟩:=hw
 subst e1
 cases r
 obtain ⟨its,rv,ht,hz⟩:=I.tuple hq
 refine assign_Tuple_tuple (I.ok.hd hc) ht (by simp [hn,← hl,rv.length]) hst fun h' hx=>?_
 have I1:Inv X pins σ H { s with heap:=h' }:=I.kept (t':=s.toks) fun b o e=>hx b o (Nat.ne_of_lt (Heap.lt_size e)) e
 exact h pins _ σ H xs _ Q I1 (by simpa using rv) hw
noncomputable def gSub (to ti:TE) (t:TSet):TG:=fun v σ H Q=>to σ H fun o H1=>ti σ H1 fun i H2=>t o i v H2 fun H3=>Q σ H3
theorem pg_sub {o i:Expr} {to ti:TE} {t:TSet} (ho:PE X o to) (hi:PE X i ti) (hs:PSet X t)
  (ha:∀ v,assign (.Subscript o i pos) X.env v=(do
   let ov ← holding [v] (eval o X.env)
   let iv ← holding [v,ov] (eval i X.env)
   standAt pos
   holding [v,ov,iv] (setItem ov iv v)
   release [v,ov,iv] []):=by intro _; rfl):PG X (.Subscript o i pos) (gSub to ti t):=by
 intro pins s σ H v u Q I r h
 rw [ha]
 refine wpAny_bind (wpAny_holding (thn (ho pins s σ H _ I h) fun ov s1 ⟨x,H1,I1,r1,q1⟩=>?_))
 refine wpAny_bind (wpAny_holding (thn (hi pins s1 σ H1 _ I1 q1) fun iv s2 ⟨y,H2,I2,r2,q2⟩=>?_))
 refine wpAny_bind (wpAny_standAt (wpAny_bind (wpAny_holding (thn (hs pins s2 σ H2 x y v ov iv u _ I2 r1 r2 r q2) fun _ s3 ⟨H3,I3,q3⟩=>?_))))
 exact wpAny_release ⟨σ,H3,I3,q3⟩
noncomputable def tAsg (te:TE) (g:TG):TS:=fun D σ H=>te σ H fun x H1=>g x σ H1 D.nx
theorem ps_asg {tg e:Expr} {te:TE} {g:TG} (he:PE X e te) (hg:PG X tg g) (hs:swapsWithSole [tg] e pos.line X.env=pure false:=by rfl) (hw:swappedStores [tg] e X.env=pure none:=by rfl)
  (h1:(assignEach [tg] X.env).map (·.2)=[assign tg X.env]:=by rfl):PS X (.Assign [tg] e pos) (tAsg te g):=by
 intro pins s σ H D I h
 refine wpAny_Assign_stores (thn (he pins s σ H _ I h) fun v s1 ⟨x,H1,I1,r1,q1⟩=>?_) hs hw
 rw [h1]
 exact thn (hg pins s1 σ H1 x v _ I1 r1 q1) fun _ s2 q=>q
theorem ps_set {i:Nat} {x:Str} {e:Expr} {te:TE} {pos':Pos} (hN:X.N.Nodup) (hi:X.N[i]?=some x) (hx:Loc X.env.scope x) (he:PE X e te) (hs:swapsWith e (some (.Name x pos')) pos.line X.env=pure false:=by rfl) (hf:X.fn x=true∨X.env.scope.names.lookup x=some .local:=by first | exact .inl rfl | exact .inr rfl | assumption) :
  PS X (.Assign [.Name x pos'] e pos) (tAsg te (gName i)):=by
 intro pins s σ H D I h
 refine wpAny_Assign_Name (thn (he pins s σ H _ I h) fun v s1 ⟨y,H1,I1,r1,q1⟩=>?_) hs
 exact store_ok I1 hN hi hx r1 (fun s2 I2=>⟨_,H1,I2,q1⟩) hf
noncomputable def tPar (i j:Nat) (ta:TA):TS:=fun D σ H=>ta σ H fun vs H1=>∃ v w,vs=[v,w]∧D.nx ((σ.set i (some v)).set j (some w)) H1
theorem ps_par {i j:Nat} {x y:Str} {a b:Expr} {ta:TA} {px py pt:Pos} {kt k2 pt2} (hc:X.calm=true) (hN:X.N.Nodup) (hi:X.N[i]?=some x) (hj:X.N[j]?=some y) (hij:i≠j)
  (hx:X.env.scope.names.lookup x=some .local) (hy:X.env.scope.names.lookup y=some .local) (ha:PA X [a,b] ta)
  (hw:swappedStores [.Tuple [.Name x px,.Name y py] kt pt] (.Tuple [a,b] k2 pt2) X.env=pure (some [x,y]))
  (hs:swapsWithSole [.Tuple [.Name x px,.Name y py] kt pt] (.Tuple [a,b] k2 pt2) pos.line X.env=pure false:=by rfl) :
  PS X (.Assign [.Tuple [.Name x px,.Name y py] kt pt] (.Tuple [a,b] k2 pt2) pos) (tPar i j ta):=by
 intro pins s σ H D I h
 rw [exec_Assign_arm]
 refine wpAny_bind (wpAny_standAt ?_)
 rw [hs]
 refine wpAny_bind (wpAny_pure ?_)
 rw [if_neg (by decide)]
 refine wpAny_bind (Tuple_ (thn (ha _ pins s σ H _ I h) fun us s1 ⟨vs,H1,I1,r1,q1⟩=>?_))
 obtain ⟨v,w,e1,q1⟩:=q1
 subst e1
 obtain ⟨u1,u2,rfl,rv,rw'⟩:∃ u1 u2,us=[u1,u2]∧RelV v u1∧RelV w u2:=by
  cases r1 with
  | cons p q =>
   cases q with
   | cons p' q' =>
    cases q'
    exact ⟨_,_,rfl,p,p'⟩
 refine wpAny_newObj_type ?_ (by show 2≤sizeLine; decide)
 have I2:Inv X pins σ H1 { s1 with heap:=s1.heap.push { cls:=.type "tuple",data:=.seq [u1,u2].toArray } }:=I1.kept (t':=s1.toks) fun b o e=>Heap.get?_push_of_some _ e
 rw [hw]
 refine wpAny_bind (wpAny_pure ?_)
 show wpAny (model X.prog X.w) X.A (do rule "assign.swapped-stores"; let items ← unpackItems (.ref s1.heap.objs.size) 2 none; assignInOrder [fun v=>bindName X.env y v,fun v=>bindName X.env x v] items.reverse; pure Flow.next) _ _ _
 refine wpAny_bind (wpAny_rule (wpAny_bind (unpackItems_tuple (items:=#[u1,u2]) (I.ok.hd hc) (IsTup.new s1.heap _) fun h' hx'=>?_)))
 have I3:=I2.kept (h':=h') (t':=s1.toks) fun b o e=>hx' b o (Nat.ne_of_lt (Heap.lt_size e)) e
 show wpAny _ _ (assignInOrder [fun v=>bindName X.env y v,fun v=>bindName X.env x v] [u2,u1] >>= fun _=>pure Flow.next) _ _ _
 refine wpAny_bind (assignInOrder_cons (wpAny_bindName (store_ok I3 hN hj (.inl hy) rw' (fun s2 I4=>?_) (.inr hy))))
 refine assignInOrder_cons (wpAny_bindName (store_ok I4 hN hi (.inl hx) rv (fun s3 I5=>assignInOrder_nil (wpAny_pure ?_)) (.inr hx)))
 rw [List.set_comm _ _ (Ne.symm hij)] at I5
 exact ⟨_,H1,I5,q1⟩
end
section
variable {X:Cx} {pos:Pos}
noncomputable def tWhile (c:TT) (tb:TS):TS:=fun D σ H=>∃ W:Nat→St→Hp→Prop,(∃ m,W m σ H)∧∀ m σ H,W m σ H →
 c σ H fun b H1=>if b=true then ∃ N:St→Hp→Prop,(∀ σ' H',N σ' H'→∃ m',m' < m∧W m' σ' H')∧tb { D with nx:=N,ct:=N,bk:=D.nx } σ H1 else D.nx σ H1
theorem ps_while {c:Expr} {body:List Stmt} {tc:TT} {tb:TS} (hp:PassesOwn (model X.prog X.w) X.A X.env X.xe) (hc:PT X c tc) (hb:PSs X body tb):PS X (.While c body [] pos) (tWhile tc tb):=by
 intro pins s σ H D I h
 obtain ⟨W,⟨m0,w0⟩,turn⟩:=h
 refine wpAny_While (codeAny_whileLoop (fun n s'=>∃ σ' H',Inv X pins σ' H' s'∧W n σ' H') ?_ m0 ⟨σ,H,I,w0⟩)
 rintro n s1 ⟨σ1,H1,I1,w1⟩
 refine wpAny_passesOwn hp (thn (hc pins s1 σ1 H1 _ I1 (turn n σ1 H1 w1)) fun b s2 ⟨H2,I2,q2⟩=>?_)
 cases b with
 | true =>
  obtain ⟨N,hN,q2⟩:=q2
  rw [if_pos rfl]
  refine wpAny_passesOwn hp (thn (hb pins s2 σ1 H2 _ I2 q2) fun f s3 q3=>?_)
  cases f with
  | next =>
   obtain ⟨σ3,H3,I3,n3⟩:=q3
   obtain ⟨m',hm,w3⟩:=hN σ3 H3 n3
   exact ⟨m',hm,σ3,H3,I3,w3⟩
  | cont =>
   obtain ⟨σ3,H3,I3,n3⟩:=q3
   obtain ⟨m',hm,w3⟩:=hN σ3 H3 n3
   exact ⟨m',hm,σ3,H3,I3,w3⟩
  | brk=>exact q3
  | ret v=>exact q3
 | false =>
  rw [if_neg Bool.false_ne_true]
  exact wpAny_execs_nil ⟨σ1,H2,I2,q2⟩
end
structure It where
 go:Nat→Hp→Prop
 yld:Nat→Hp→V→Hp→Prop
 stop:Nat→Hp→Prop
noncomputable def FpOk (X:Cx) (pins:List (Addr×Obj)) (H:Hp) (b:Addr):Prop :=
 H b=none∧b≠X.env.locals∧b ∉ X.fs∧(b∈X.ex∨X.s₀.heap.objs.size≤b)∧(∀ x c,X.env.cells.lookup x=some c→c≠b)∧∀ p∈X.pn++pins,p.1≠b
theorem Inv.fpOk {X:Cx} {pins:List (Addr×Obj)} {σ:St} {H H':Hp} {s:Shared} {b:Addr} (I:Inv X pins σ H s) (hb:s.heap.objs.size≤b) (hn:H' b=none):FpOk X pins H' b:=by
 refine ⟨hn,Nat.ne_of_gt (Nat.lt_of_lt_of_le I.lt hb),I.nofs hb,.inr (Nat.le_trans I.sz hb),fun x c e z=>?_,fun p hp z=>?_⟩
 ·obtain ⟨v,q⟩:=I.cell x c e
  exact absurd (Nat.lt_of_lt_of_le q.lt (by rw [z]; exact hb)) (Nat.lt_irrefl _)
 ·exact absurd (Nat.lt_of_lt_of_le (Heap.lt_size (I.pin p hp).1) (by rw [z]; exact hb)) (Nat.lt_irrefl _)
structure Turn (P:Program) (w:World) (K:PySem.W.Frag) (tg:Expr) (J:It) (fp:List Addr) (it:Addr) (tn:Nat→Heap→Prop):Prop where
 mem:it∈fp
 obj:∀ i h,tn i h→∀ b∈fp,∃ o,h.get? b=some o∧∀ v,o.data≠.cell v
 keep:∀ i h h',tn i h→(∀ b∈fp,∀ o,h.get? b=some o→h'.get? b=some o)→tn i h'
 item:∀ (X:Cx),X.prog=P→X.w=w→X.K=K→X.calm=true→∀ (i:Nat) (pins:List (Addr×Obj)) (s:Shared) (σ:St) (H:Hp) (E:Value→Shared→Prop),Inv X pins σ H s→(∀ b∈fp,FpOk X pins H b)→tn i s.heap→J.go i H →
  wpAny (model P w) X.A (pyNext (.ref it)) (fun r s1=>∃ u,r=some u ∧
   wpAny (model P w) X.A (letOwnedTupleGo tg (.ref it) u) (fun _ s2=>∃ x H',Inv X pins σ H' s2∧RelV x u∧J.yld i H x H'∧tn (i + 1) s2.heap∧∀ b∈fp,H' b=none) E s1) E s
 done:∀ (X:Cx),X.prog=P→X.w=w→X.K=K→X.calm=true→∀ (i:Nat) (pins:List (Addr×Obj)) (s:Shared) (σ:St) (H:Hp) (E:Value→Shared→Prop),Inv X pins σ H s→(∀ b∈fp,FpOk X pins H b)→tn i s.heap→J.stop i H →
  wpAny (model P w) X.A (pyNext (.ref it)) (fun r s1=>r=none∧Inv X pins σ H s1) E s
 self:∀ (A:Around) (i:Nat) (s:Shared) (Q:Value→Shared→Prop) (E:Value→Shared→Prop),tn i s.heap→Q (.ref it) s→wpAny (model P w) A (pyIter (.ref it)) Q E s
noncomputable abbrev TI:=St→Hp→(It→Hp→Prop)→Prop
noncomputable def PIE (X:Cx) (pins:List (Addr×Obj)) (σ:St) (tg:Expr) (R:It→Hp→Prop) (itv:Value) (s2:Shared):Prop :=
 ∃ (it:Addr) (fp:List Addr) (tn:Nat→Heap→Prop) (J:It) (H':Hp),itv=.ref it∧Inv X pins σ H' s2∧Turn X.prog X.w X.K tg J fp it tn∧tn 0 s2.heap∧(∀ b∈fp,FpOk X pins H' b)∧R J H'
noncomputable def PI (X:Cx) (tg iter:Expr) (wi:TI):Prop :=
 ∀ (pins:List (Addr×Obj)) (s:Shared) (σ:St) (H:Hp) (R:It→Hp→Prop),Inv X pins σ H s→wi σ H R →
  wpAny (model X.prog X.w) X.A (eval iter X.env) (fun v s1=>wpAny (model X.prog X.w) X.A (pyIter v) (PIE X pins σ tg R) X.xe s1) X.xe s
theorem go_of {M:Model} {A:Around} {E:Value→Shared→Prop} {s:Shared} {tg:Expr} {it:Addr} {u:Value} {o:Obj} {n:String} {vs:Array Value} {Q:Unit→Shared→Prop} (ho:s.heap.get? it=some o) (hc:o.cls=.type n) (hd:o.data=.fields vs)
    (hn:["enumerate","zip","dict_itemiterator","dict_reverseitemiterator","odict_iterator","itertools.zip_longest","itertools.pairwise"].contains n=false) (hQ:Q () s):wpAny M A (letOwnedTupleGo tg (.ref it) u) Q E s:=by
  unfold letOwnedTupleGo
  cases tg <;> first
    | exact wpAny_pure hQ
    | (cases u <;> first
        | exact wpAny_pure hQ
        | (refine wpAny_bind (wpAny_load ho ?_)
           rw [hc,hd]
           show wpAny M A (if (["enumerate","zip","dict_itemiterator","dict_reverseitemiterator","odict_iterator","itertools.zip_longest","itertools.pairwise"].contains n && vs[0]? == some (rawInt _))=true then _ else _) Q E s
           rw [if_neg (by intro h; rw [hn,Bool.false_and] at h; cases h)]
           exact wpAny_pure hQ))
noncomputable def Itl (K:PySem.W.Frag) (a:Addr):It :=
 ⟨fun i H=>∃ xs x,SqL K H a xs∧xs[i]?=some x,fun i H x H'=>H'=H∧∀ xs,SqL K H a xs→xs[i]?=some x,fun i H=>∃ xs,SqL K H a xs∧xs.length≤i⟩
noncomputable def Itt (K:PySem.W.Frag) (a:Addr):It :=
 ⟨fun i H=>∃ xs x,SqT K H a xs∧xs[i]?=some x,fun i H x H'=>H'=H∧∀ xs,SqT K H a xs→xs[i]?=some x,fun i H=>∃ xs,SqT K H a xs∧xs.length≤i⟩
noncomputable def Itr (lo:Int) (n:Nat):It:=⟨fun i _=>i < n,fun i H x H'=>H'=H∧x=.int (lo + i),fun i _=>n≤i⟩
theorem turn_list {P:Program} {w:World} {K:PySem.W.Frag} {tg:Expr} (a it:Addr):Turn P w K tg (Itl K a) [it] it (fun i h=>h.IsListIter it a i) where
 mem:=by simp
 obj:=fun i h st b hb=>by
  have e:b=it:=by simpa using hb
  subst e
  obtain ⟨o,e,c,d⟩:=st
  exact ⟨o,e,fun v z=>by rw [d] at z; cases z⟩
 keep:=fun i h h' st k=>st.at fun o e=>k it (by simp) o e
 item:=by
  intro X hP hw hK hc i pins s σ H E I hf st hg
  subst hP hw hK
  obtain ⟨xs,x,hq,hx⟩:=hg
  obtain ⟨its,rv,p,hz⟩:=I.list hq
  obtain ⟨u,hu,ru⟩:=rv.get hx
  obtain ⟨f0,f1,f2,f3,f4,f5⟩:=hf it (by simp)
  refine wpAny_pyNext_list_item st p.isList (x:=u) (by simpa using hu) fun h' st' sb=>?_
  have I1:Inv X pins σ H { s with heap:=h' }:=I.turned (t':=s.toks) (fun b o hb e=>(sb.2 b hb).trans e) f0 f1 f3 f4 f5
  obtain ⟨o,e,c,d⟩:=id st'
  exact ⟨u,rfl,go_of (s:={ s with heap:=h' }) e c d (by decide) ⟨x,H,I1,ru,⟨rfl,fun ys hy=>by rw [I.list_inj hy hq]; exact hx⟩,st',fun b hb=>(hf b hb).1⟩⟩
 done:=by
  intro X hP hw hK hc i pins s σ H E I hf st hg
  subst hP hw hK
  obtain ⟨xs,hq,hx⟩:=hg
  obtain ⟨its,rv,p,hz⟩:=I.list hq
  obtain ⟨f0,f1,f2,f3,f4,f5⟩:=hf it (by simp)
  have hl:=rv.length
  exact wpAny_pyNext_list_end (I.ok.hd hc) st p.isList (by simp; lia) fun h' eb=>⟨rfl,I.turned (t':=s.toks) (fun b o hb e=>eb b o hb e) f0 f1 f3 f4 f5⟩
 self:=fun _ _ _ _ _ st h=>wpAny_pyIter_listiter st h
theorem turn_tuple {P:Program} {w:World} {K:PySem.W.Frag} {tg:Expr} (a it:Addr):Turn P w K tg (Itt K a) [it] it (fun i h=>h.IsTupleIter it a i) where
 mem:=by simp
 obj:=fun i h st b hb=>by
  have e:b=it:=by simpa using hb
  subst e
  obtain ⟨o,e,c,d⟩:=st
  exact ⟨o,e,fun v z=>by rw [d] at z; cases z⟩
 keep:=fun i h h' st k=>st.at fun o e=>k it (by simp) o e
 item:=by
  intro X hP hw hK hc i pins s σ H E I hf st hg
  subst hP hw hK
  obtain ⟨xs,x,hq,hx⟩:=hg
  obtain ⟨its,rv,p,hz⟩:=I.tuple hq
  obtain ⟨u,hu,ru⟩:=rv.get hx
  obtain ⟨f0,f1,f2,f3,f4,f5⟩:=hf it (by simp)
  refine wpAny_pyNext_tuple_item st (show s.heap.IsTuple a its.toArray from p) (x:=u) (by simpa using hu) fun h' st' sb=>?_
  have I1:Inv X pins σ H { s with heap:=h' }:=I.turned (t':=s.toks) (fun b o hb e=>(sb.2 b hb).trans e) f0 f1 f3 f4 f5
  obtain ⟨o,e,c,d⟩:=id st'
  exact ⟨u,rfl,go_of (s:={ s with heap:=h' }) e c d (by decide) ⟨x,H,I1,ru,⟨rfl,fun ys hy=>by rw [I.tuple_inj hy hq]; exact hx⟩,st',fun b hb=>(hf b hb).1⟩⟩
 done:=by
  intro X hP hw hK hc i pins s σ H E I hf st hg
  subst hP hw hK
  obtain ⟨xs,hq,hx⟩:=hg
  obtain ⟨its,rv,p,hz⟩:=I.tuple hq
  obtain ⟨f0,f1,f2,f3,f4,f5⟩:=hf it (by simp)
  have hl:=rv.length
  exact wpAny_pyNext_tuple_end (I.ok.hd hc) st (show s.heap.IsTuple a its.toArray from p) (by simp; lia) fun h' eb=>⟨rfl,I.turned (t':=s.toks) (fun b o hb e=>eb b o hb e) f0 f1 f3 f4 f5⟩
 self:=fun _ _ _ _ _ st h=>wpAny_pyIter_tupleiter st h
theorem turn_range {P:Program} {w:World} {K:PySem.W.Frag} {tg:Expr} (it:Addr) (lo:Int) (n:Nat):Turn P w K tg (Itr lo n) [it] it (fun i h=>IsRangeIter h it (lo + (i:Nat) * 1) ((n:Int) - (i:Nat)) 1) where
 mem:=by simp
 obj:=fun i h st b hb=>by
  have e:b=it:=by simpa using hb
  subst e
  exact ⟨_,st,fun v z=>by
   have z':Data.fields _=Data.cell v:=z
   cases z'⟩
 keep:=fun i h h' st k=>k it (by simp) _ st
 item:=by
  intro X hP hw hK hc i pins s σ H E I hf st hg
  subst hP hw hK
  obtain ⟨f0,f1,f2,f3,f4,f5⟩:=hf it (by simp)
  have W:=Walks.range (prog:=X.prog) (w:=X.w) (I.ok.hd hc) it lo 1 n
  refine W.item i s _ _ hg st fun v h' tk hv st' kk=>?_
  obtain ⟨t,rfl⟩:=hv
  have I1:Inv X pins σ H { s with heap:=h',toks:=tk }:=I.turned (fun b o hb e=>kk b o (by simpa using hb) e) f0 f1 f3 f4 f5
  refine ⟨_,rfl,go_of (s:={ s with heap:=h',toks:=tk }) (n:="range_iterator") st' rfl rfl (by decide) ⟨.int (lo + i),H,I1,⟨t,?_⟩,⟨rfl,rfl⟩,st',fun b hb=>(hf b hb).1⟩⟩
  rw [Int.mul_one]
 done:=by
  intro X hP hw hK hc i pins s σ H E I hf st hg
  subst hP hw hK
  obtain ⟨f0,f1,f2,f3,f4,f5⟩:=hf it (by simp)
  exact wpAny_pyNext_range_end (I.ok.hd hc) st (by have:n≤i:=hg; lia) fun h' eb=>⟨rfl,I.turned (t':=s.toks) (fun b o hb e=>eb b o hb e) f0 f1 f3 f4 f5⟩
 self:=fun _ _ _ _ _ st h=>wpAny_pyIter_rangeiter st h
end L2
namespace L2
open PySem PySem.Spec PyProof.Rows
section
variable {X:Cx} {tg:Expr}
noncomputable def iList (K:PySem.W.Frag) (tl:TE):TI:=fun σ H R=>tl σ H fun x H1=>∃ a,x=.ref a∧(∃ xs,SqL K H1 a xs)∧R (Itl K a) H1
noncomputable def iTup (K:PySem.W.Frag) (tl:TE):TI:=fun σ H R=>tl σ H fun x H1=>∃ a,x=.ref a∧(∃ xs,SqT K H1 a xs)∧R (Itt K a) H1
theorem pi_list {l:Expr} {tl:TE} (hl:PE X l tl):PI X tg l (iList X.K tl):=by
 intro pins s σ H R I h
 refine thn (hl pins s σ H _ I h) fun v s1 ⟨x,H1,I1,r1,q1⟩=>?_
 obtain ⟨a,e,⟨xs,hq⟩,q⟩:=q1
 subst e
 cases r1
 obtain ⟨its,rv,p,hz⟩:=I1.list hq
 refine wpAny_pyIter_list p.isList ?_
 refine ⟨s1.heap.objs.size,[s1.heap.objs.size],_,_,H1,rfl,I1.kept (t':=s1.toks) fun b o e=>Heap.get?_push_of_some _ e,turn_list a _,⟨_,Heap.get?_push_size _ rfl,rfl,rfl⟩,fun b hb=>?_,q⟩
 have e:b=s1.heap.objs.size:=by simpa using hb
 subst e
 exact I1.fpOk (Nat.le_refl _) (I1.hok.fresh (Nat.le_refl _))
theorem pi_tup {l:Expr} {tl:TE} (hl:PE X l tl):PI X tg l (iTup X.K tl):=by
 intro pins s σ H R I h
 refine thn (hl pins s σ H _ I h) fun v s1 ⟨x,H1,I1,r1,q1⟩=>?_
 obtain ⟨a,e,⟨xs,hq⟩,q⟩:=q1
 subst e
 cases r1
 obtain ⟨its,rv,p,hz⟩:=I1.tuple hq
 refine wpAny_pyIter_tuple (show s1.heap.IsTuple a its.toArray from p) ?_
 refine ⟨s1.heap.objs.size,[s1.heap.objs.size],_,_,H1,rfl,I1.kept (t':=s1.toks) fun b o e=>Heap.get?_push_of_some _ e,turn_tuple a _,⟨_,Heap.get?_push_size _ rfl,rfl,rfl⟩,fun b hb=>?_,q⟩
 have e:b=s1.heap.objs.size:=by simpa using hb
 subst e
 exact I1.fpOk (Nat.le_refl _) (I1.hok.fresh (Nat.le_refl _))
theorem range_it {pins:List (Addr×Obj)} {σ:St} {H:Hp} {s:Shared} {R:It→Hp→Prop} {E:Value→Shared→Prop} {lo hi:Int} {t u v:Tok} {tk:Nat} (I:Inv X pins σ H s) (h1:-(2 ^ 62)≤lo) (h2:lo < 2 ^ 62) (h3:-(2 ^ 62)≤hi) (h4:hi < 2 ^ 62)
  (q:R (Itr lo (hi - lo).toNat) H):wpAny (model X.prog X.w) X.A (pyIter (.ref s.heap.objs.size)) (PIE X pins σ tg R) E { s with heap:=s.heap.push { cls:=.type "range",data:=.fields #[.int lo t,.int hi u,.int 1 v] },toks:=tk }:=by
 refine wpAny_pyIter_range (IsRange.new ..) (small_one h1 h2 h3 h4) ?_
 have I1:Inv X pins σ H { s with heap:=s.heap.push { cls:=.type "range",data:=.fields #[.int lo t,.int hi u,.int 1 v] },toks:=tk }:=I.kept fun b o e=>Heap.get?_push_of_some _ e
 refine ⟨(s.heap.push { cls:=.type "range",data:=.fields #[.int lo t,.int hi u,.int 1 v] }).objs.size,[(s.heap.push { cls:=.type "range",data:=.fields #[.int lo t,.int hi u,.int 1 v] }).objs.size],_,_,H,rfl,
  I1.kept (t':=tk) fun b o e=>Heap.get?_push_of_some _ e,turn_range _ lo (hi - lo).toNat,?_,fun b hb=>?_,q⟩
 ·have e1:lo + ((0:Nat):Int) * 1=lo:=by simp
  have e2:(((hi - lo).toNat:Nat):Int) - ((0:Nat):Int)=Builtin.Range.rangeSize lo hi 1:=by rw [rangeSize_one]; split <;> lia
  show IsRangeIter _ _ (lo + ((0:Nat):Int) * 1) ((((hi - lo).toNat:Nat):Int) - ((0:Nat):Int)) 1
  rw [e1,e2]
  exact Heap.get?_push_size _ rfl
 ·have e:b=(s.heap.push { cls:=.type "range",data:=.fields #[.int lo t,.int hi u,.int 1 v] }).objs.size:=by simpa using hb
  subst e
  exact I1.fpOk (Nat.le_refl _) (I1.hok.fresh (Nat.le_refl _))
noncomputable def iRng1 (ta:TA):TI:=fun σ H R=>ta σ H fun vs H1=>∃ j:Int,vs=[.int j]∧-(2 ^ 62)≤j∧j < 2 ^ 62∧R (Itr 0 j.toNat) H1
theorem pi_range1 {a:Expr} {ta:TA} {p pos:Pos} (hg:Gl X "range") (hm:X.mg "range"=none) (ha:PA X [a] ta) (hs:starEach [a] X.env=[(false,eval a X.env)]:=by rfl):PI X tg (.Call (.Name "range" p) [a] [] pos) (iRng1 ta):=by
 intro pins s σ H R I h
 refine Call_ (ld_blt I hg hm boot_range (PyProof.Rows.callWith_type1 (thn (ha pos pins s σ H _ I h) fun us s1 ⟨vs,H1,I1,r1,q1⟩=>?_) hs rfl))
 obtain ⟨j,e,q1,q2,q⟩:=q1
 subst e
 cases r1 with
 | cons r rr =>
  cases rr
  obtain ⟨t,rfl⟩:=r
  exact call_range_1 (range_it I1 (by lia) (by lia) q1 q2 (by simpa using q))
noncomputable def tFor (wi:TI) (g:TG) (tb:TS):TS:=fun D σ H=>wi σ H fun J H1=>∃ W:Nat→Nat→St→Hp→Prop,(∃ m,W 0 m σ H1)∧∀ i m σ H,W i m σ H →
 (J.stop i H∧D.nx σ H)∨(J.go i H∧∃ N:St→Hp→Prop,(∀ σ' H',N σ' H'→∃ m',m' < m∧W (i + 1) m' σ' H')∧∀ x H',J.yld i H x H'→g x σ H' fun σ2 H2=>tb { D with nx:=N,ct:=N,bk:=D.nx } σ2 H2)
noncomputable def pinsAt (fp:List Addr) (h:Heap):List (Addr×Obj):=fp.filterMap fun b=>(h.get? b).map fun o=>(b,o)
theorem mem_pinsAt {fp:List Addr} {h:Heap} {b:Addr} {o:Obj} (hb:b∈fp) (e:h.get? b=some o):(b,o)∈pinsAt fp h:=List.mem_filterMap.mpr ⟨b,hb,by rw [e]; rfl⟩
theorem of_pinsAt {fp:List Addr} {h:Heap} {p:Addr×Obj} (hp:p∈pinsAt fp h):p.1∈fp∧h.get? p.1=some p.2:=by
 obtain ⟨b,hb,e⟩:=List.mem_filterMap.mp hp
 cases q:h.get? b with
 | none=>rw [q] at e; cases e
 | some o =>
  rw [q] at e
  have e':(b,o)=p:=Option.some.inj e
  subst e'
  exact ⟨hb,q⟩
theorem Inv.pinned {pins:List (Addr×Obj)} {σ:St} {H:Hp} {s:Shared} {fp:List Addr} (I:Inv X pins σ H s) (hf:∀ b∈fp,FpOk X pins H b) (ho:∀ b∈fp,∃ o,s.heap.get? b=some o∧∀ v,o.data≠.cell v):Inv X (pins++pinsAt fp s.heap) σ H s :=
 I.pins_of fun p hp=>(List.mem_append.mp hp).elim (fun z=>I.pin p (List.mem_append_right _ z)) fun z=>by
  obtain ⟨hb,e⟩:=of_pinsAt z
  obtain ⟨f0,f1,f2,_⟩:=hf p.1 hb
  obtain ⟨o,e',d⟩:=ho p.1 hb
  rw [e] at e'; cases e'
  exact ⟨e,f0,f1,f2,d⟩
theorem Inv.unpinned {pins pl:List (Addr×Obj)} {σ:St} {H:Hp} {s:Shared} (I:Inv X (pins++pl) σ H s):Inv X pins σ H s:=I.pins_of fun p hp=>I.pin p (List.mem_append_right _ (List.mem_append_left _ hp))
theorem ps_for {iter:Expr} {body:List Stmt} {wi:TI} {g:TG} {tb:TS} {pos:Pos} (hp:PassesOwn (model X.prog X.w) X.A X.env X.xe) (hc:X.calm=true) (hi:PI X tg iter wi) (hg:PG X tg g) (hb:PSs X body tb)
  (hs:∀ x,foldedSetIterable iter X.env x=pure x:=by intro _; rfl):PS X (.For tg iter body [] pos) (tFor wi g tb):=by
 intro pins s σ H D I h
 refine wpAny_For (thn (hi pins s σ H _ I h) fun v s1 h1=>thn h1 fun itv s2 h2=>?_) hs
 obtain ⟨it,fp,tn,J,H2,e,I2,T,st2,f2,W,⟨m0,w0⟩,turn⟩:=h2
 subst e
 have stat:∀ {H':Hp},(∀ b∈fp,H' b=none)→∀ b∈fp,FpOk X pins H' b:=fun hn b hb=>⟨hn b hb,(f2 b hb).2⟩
 refine codeAny_forLoop_any (fun n s'=>∃ i σ' H',Inv X pins σ' H' s'∧tn i s'.heap∧(∀ b∈fp,H' b=none)∧W i n σ' H') ?_ m0 ⟨0,σ,H2,I2,st2,fun b hb=>(f2 b hb).1,w0⟩
 rintro n s3 ⟨i,σ3,H3,I3,st3,fr3,w3⟩
 rcases turn i n σ3 H3 w3 with ⟨stop,qn⟩ | ⟨go,N,hN,step⟩
 ·refine wpAny_passesOwn hp (thn (T.done X rfl rfl rfl hc i pins s3 σ3 H3 X.xe I3 (stat fr3) st3 stop) fun r s4 ⟨hr,I4⟩=>?_)
  subst hr
  exact wpAny_execs_nil ⟨σ3,H3,I4,qn⟩
 ·refine wpAny_passesOwn hp (thn (T.item X rfl rfl rfl hc i pins s3 σ3 H3 X.xe I3 (stat fr3) st3 go) fun r s4 ⟨u,hr,h4⟩=>?_)
  subst hr
  refine wpAny_passesOwn hp (thn h4 fun _ s5 ⟨x,H5,I5,r5,y5,st5,fr5⟩=>?_)
  have I5':=I5.pinned (stat fr5) (T.obj _ _ st5)
  refine wpAny_passesOwn hp (thn (hg _ s5 σ3 H5 x u _ I5' r5 (step x H5 y5)) fun _ s6 ⟨σ6,H6,I6,q6⟩=>?_)
  refine wpAny_passesOwn hp (thn (hb _ s6 σ6 H6 _ I6 q6) fun f s7 q7=>?_)
  have again:∀ {σ7:St} {H7:Hp},Inv X (pins++pinsAt fp s5.heap) σ7 H7 s7→N σ7 H7→∃ m,m < n∧∃ i σ' H',Inv X pins σ' H' s7∧tn i s7.heap∧(∀ b∈fp,H' b=none)∧W i m σ' H':=fun {σ7 H7} I7 n7=>by
   obtain ⟨m',hm,w7⟩:=hN σ7 H7 n7
   refine ⟨m',hm,i + 1,σ7,H7,I7.unpinned,T.keep _ _ _ st5 fun b hb o e=>(I7.pin (b,o) (List.mem_append_right _ (List.mem_append_right _ (mem_pinsAt hb e)))).1,fun b hb=>?_,w7⟩
   obtain ⟨o,e,d⟩:=T.obj _ _ st5 b hb
   exact (I7.pin (b,o) (List.mem_append_right _ (List.mem_append_right _ (mem_pinsAt hb e)))).2.1
  cases f with
  | next=>obtain ⟨σ7,H7,I7,n7⟩:=q7; exact again I7 n7
  | cont=>obtain ⟨σ7,H7,I7,n7⟩:=q7; exact again I7 n7
  | brk=>obtain ⟨σ7,H7,I7,q7⟩:=q7; exact ⟨σ7,H7,I7.unpinned,q7⟩
  | ret v=>obtain ⟨x7,σ7,H7,I7,r7,q7⟩:=q7; exact ⟨x7,σ7,H7,I7.unpinned,r7,q7⟩
end
theorem for_list {K:PySem.W.Frag} {a:Addr} {xs:List V} {g:TG} {tb:TS} {D:Ends} {σ:St} {H:Hp} (Pv:Nat→St→Hp→Prop) (h0:Pv 0 σ H) (hl:∀ i σ H,i≤xs.length→Pv i σ H→SqL K H a xs)
  (hs:∀ i x σ H,xs[i]?=some x→Pv i σ H→g x σ H fun σ2 H2=>tb { D with nx:=Pv (i + 1),ct:=Pv (i + 1),bk:=D.nx } σ2 H2) (hd:∀ σ H,Pv xs.length σ H→D.nx σ H) :
  ∃ W:Nat→Nat→St→Hp→Prop,(∃ m,W 0 m σ H)∧∀ i m σ H,W i m σ H →
   ((Itl K a).stop i H∧D.nx σ H)∨((Itl K a).go i H∧∃ N:St→Hp→Prop,(∀ σ' H',N σ' H'→∃ m',m' < m∧W (i + 1) m' σ' H')∧∀ x H',(Itl K a).yld i H x H'→g x σ H' fun σ2 H2=>tb { D with nx:=N,ct:=N,bk:=D.nx } σ2 H2):=by
 refine ⟨fun i m σ H=>m=xs.length - i∧i≤xs.length∧Pv i σ H,⟨xs.length,by simp,Nat.zero_le _,h0⟩,?_⟩
 rintro i m σ H ⟨rfl,hi,p⟩
 have q:=hl i σ H hi p
 by_cases hlt:i < xs.length
 ·refine .inr ⟨⟨xs,xs[i],q,by simp [hlt]⟩,Pv (i + 1),fun σ' H' p'=>⟨xs.length - (i + 1),by lia,rfl,hlt,p'⟩,fun x H' y=>?_⟩
  obtain ⟨e,y⟩:=y
  subst e
  exact hs i x σ _ (y xs q) p
 ·have e:i=xs.length:=by lia
  subst e
  exact .inl ⟨⟨xs,q,Nat.le_refl _⟩,hd σ H p⟩
theorem for_tup {K:PySem.W.Frag} {a:Addr} {xs:List V} {g:TG} {tb:TS} {D:Ends} {σ:St} {H:Hp} (Pv:Nat→St→Hp→Prop) (h0:Pv 0 σ H) (hl:∀ i σ H,i≤xs.length→Pv i σ H→SqT K H a xs)
  (hs:∀ i x σ H,xs[i]?=some x→Pv i σ H→g x σ H fun σ2 H2=>tb { D with nx:=Pv (i + 1),ct:=Pv (i + 1),bk:=D.nx } σ2 H2) (hd:∀ σ H,Pv xs.length σ H→D.nx σ H) :
  ∃ W:Nat→Nat→St→Hp→Prop,(∃ m,W 0 m σ H)∧∀ i m σ H,W i m σ H →
   ((Itt K a).stop i H∧D.nx σ H)∨((Itt K a).go i H∧∃ N:St→Hp→Prop,(∀ σ' H',N σ' H'→∃ m',m' < m∧W (i + 1) m' σ' H')∧∀ x H',(Itt K a).yld i H x H'→g x σ H' fun σ2 H2=>tb { D with nx:=N,ct:=N,bk:=D.nx } σ2 H2):=by
 refine ⟨fun i m σ H=>m=xs.length - i∧i≤xs.length∧Pv i σ H,⟨xs.length,by simp,Nat.zero_le _,h0⟩,?_⟩
 rintro i m σ H ⟨rfl,hi,p⟩
 have q:=hl i σ H hi p
 by_cases hlt:i < xs.length
 ·refine .inr ⟨⟨xs,xs[i],q,by simp [hlt]⟩,Pv (i + 1),fun σ' H' p'=>⟨xs.length - (i + 1),by lia,rfl,hlt,p'⟩,fun x H' y=>?_⟩
  obtain ⟨e,y⟩:=y
  subst e
  exact hs i x σ _ (y xs q) p
 ·have e:i=xs.length:=by lia
  subst e
  exact .inl ⟨⟨xs,q,Nat.le_refl _⟩,hd σ H p⟩
theorem for_range {lo:Int} {n:Nat} {g:TG} {tb:TS} {D:Ends} {σ:St} {H:Hp} (Pv:Nat→St→Hp→Prop) (h0:Pv 0 σ H)
  (hs:∀ i σ H,i < n→Pv i σ H→g (.int (lo + i)) σ H fun σ2 H2=>tb { D with nx:=Pv (i + 1),ct:=Pv (i + 1),bk:=D.nx } σ2 H2) (hd:∀ σ H,Pv n σ H→D.nx σ H) :
  ∃ W:Nat→Nat→St→Hp→Prop,(∃ m,W 0 m σ H)∧∀ i m σ H,W i m σ H →
   ((Itr lo n).stop i H∧D.nx σ H)∨((Itr lo n).go i H∧∃ N:St→Hp→Prop,(∀ σ' H',N σ' H'→∃ m',m' < m∧W (i + 1) m' σ' H')∧∀ x H',(Itr lo n).yld i H x H'→g x σ H' fun σ2 H2=>tb { D with nx:=N,ct:=N,bk:=D.nx } σ2 H2):=by
 refine ⟨fun i m σ H=>m=n - i∧i≤n∧Pv i σ H,⟨n,by simp,Nat.zero_le _,h0⟩,?_⟩
 rintro i m σ H ⟨rfl,hi,p⟩
 by_cases hlt:i < n
 ·refine .inr ⟨hlt,Pv (i + 1),fun σ' H' p'=>⟨n - (i + 1),by lia,rfl,hlt,p'⟩,fun x H' y=>?_⟩
  obtain ⟨e,y⟩:=y
  subst e y
  exact hs i σ _ hlt p
 ·have e:i=n:=by lia
  subst e
  exact .inl ⟨Nat.le_refl _,hd σ H p⟩
end L2
namespace L2
open PySem PySem.Spec PyProof.Rows
noncomputable abbrev R2:=V→V→Hp→VK→Prop
noncomputable def OpR (X:Cx) (f:Value→Value→Sem Value) (r:R2):Prop :=
 ∀ (pins:List (Addr×Obj)) (s:Shared) (σ:St) (H:Hp) (x y:V) (v u:Value) (Q:VK),Inv X pins σ H s→RelV x v→RelV y u→r x y H Q →
  wpAny (model X.prog X.w) X.A (f v u) (EP X pins σ Q) X.xe s
noncomputable def UnR (X:Cx) (f:Value→Sem Value) (r:V→Hp→VK→Prop):Prop :=
 ∀ (pins:List (Addr×Obj)) (s:Shared) (σ:St) (H:Hp) (x:V) (v:Value) (Q:VK),Inv X pins σ H s→RelV x v→r x H Q →
  wpAny (model X.prog X.w) X.A (f v) (EP X pins σ Q) X.xe s
noncomputable def CallR (X:Cx) (f:Value) (r:List V→Hp→VK→Prop):Prop :=
 ∀ (pins:List (Addr×Obj)) (s:Shared) (σ:St) (H:Hp) (xs:List V) (us:List Value) (Q:VK),Inv X pins σ H s→Vals xs us→r xs H Q →
  wpAny (model X.prog X.w) X.A (call f us) (EP X pins σ Q) X.xe s
noncomputable def TruR (X:Cx) (r:V→Hp→(Bool→Hp→Prop)→Prop):Prop :=
 ∀ (pins:List (Addr×Obj)) (s:Shared) (σ:St) (H:Hp) (x:V) (v:Value) (Q:Bool→Hp→Prop),Inv X pins σ H s→RelV x v→r x H Q →
  wpAny (model X.prog X.w) X.A (truthy v) (TP X pins σ Q) X.xe s
noncomputable def tOp (r:R2) (ta tb:TE):TE:=fun σ H Q=>ta σ H fun x H1=>tb σ H1 fun y H2=>r x y H2 Q
noncomputable def tUn (r:V→Hp→VK→Prop) (ta:TE):TE:=fun σ H Q=>ta σ H fun x H1=>r x H1 Q
noncomputable def rI (C:Int→Int→Prop) (g:Int→Int→V):R2:=fun x y H Q=>∃ i j,x=.int i∧y=.int j∧C i j∧Q (g i j) H
noncomputable def rI0 (g:Int→Int→V):R2:=fun x y H Q=>∃ i j,x=.int i∧y=.int j∧Q (g i j) H
noncomputable def rU (g:Int→V):V→Hp→VK→Prop:=fun x H Q=>∃ i,x=.int i∧Q (g i) H
section
variable {X:Cx} {a b c:Expr} {ta tb tc:TE} {pos:Pos}
theorem binT (ha:PE X a ta) (hb:PE X b tb) {pins:List (Addr×Obj)} {s:Shared} {σ:St} {H:Hp} {R:V→V→Hp→Prop} (I:Inv X pins σ H s)
  (h:ta σ H fun x H1=>tb σ H1 fun y H2=>R x y H2) {Q:Value→Shared→Prop} {f:Value→Value→Sem Value}
  (hf:∀ v u s2 x y H2,Inv X pins σ H2 s2→RelV x v→RelV y u→R x y H2→wpAny (model X.prog X.w) X.A (f v u) Q X.xe s2) :
  wpAny (model X.prog X.w) X.A (eval a X.env) (fun v s₁=>wpAny (model X.prog X.w) X.A (eval b X.env) (fun u s₂=>wpAny (model X.prog X.w) X.A (f v u) Q X.xe s₂) X.xe s₁) X.xe s:=by
 refine thn (ha pins s σ H _ I h) fun v s1 ⟨x,H1,I1,r1,q1⟩=>?_
 refine thn (hb pins s1 σ H1 _ I1 q1) fun u s2 ⟨y,H2,I2,r2,q2⟩=>?_
 exact hf v u s2 x y H2 I2 r1 r2 q2
theorem pe_op {op:Operator} {r:R2} (ho:OpR X (binaryOp op) r) (ha:PE X a ta) (hb:PE X b tb):PE X (.BinOp a op b pos) (tOp r ta tb):=by
 intro pins s σ H Q I h
 exact wpAny_BinOp (binT ha hb I h fun v u s2 x y H2 I2 rx ry q=>ho pins s2 σ H2 x y v u Q I2 rx ry q)
theorem pe_un {op:UnaryOp} {r:V→Hp→VK→Prop} (ho:UnR X (unaryOp op) r) (ha:PE X a ta):PE X (.UnaryOp op a pos) (tUn r ta):=by
 intro pins s σ H Q I h
 exact UnaryOp_ (thn (ha pins s σ H _ I h) fun v s1 ⟨x,H1,I1,r1,q1⟩=>ho pins s1 σ H1 x v Q I1 r1 q1)
theorem opI {f:Value→Value→Sem Value} {C:Int→Int→Prop} {g:Int→Int→Int}
  (rule:∀ (i j:Int) (t u:Tok) (s:Shared) (Q:Value→Shared→Prop) (E:Value→Shared→Prop),C i j→Q (.int (g i j) s.toks) { s with toks:=s.toks + 1 }→wpAny (model X.prog X.w) X.A (f (.int i t) (.int j u)) Q E s) :
  OpR X f (rI C fun i j=>.int (g i j)):=by
 intro pins s σ H x y v u Q I rx ry h
 obtain ⟨i,j,rfl,rfl,hc,q⟩:=h
 obtain ⟨t,rfl⟩:=rx
 obtain ⟨t',rfl⟩:=ry
 exact rule i j t t' s _ _ hc ⟨.int (g i j),H,I.tok _,⟨_,rfl⟩,q⟩
theorem opI0 {f:Value→Value→Sem Value} {g:Int→Int→Int}
  (rule:∀ (i j:Int) (t u:Tok) (s:Shared) (Q:Value→Shared→Prop) (E:Value→Shared→Prop),Q (.int (g i j) s.toks) { s with toks:=s.toks + 1 }→wpAny (model X.prog X.w) X.A (f (.int i t) (.int j u)) Q E s) :
  OpR X f (rI0 fun i j=>.int (g i j)):=by
 intro pins s σ H x y v u Q I rx ry h
 obtain ⟨i,j,rfl,rfl,q⟩:=h
 obtain ⟨t,rfl⟩:=rx
 obtain ⟨t',rfl⟩:=ry
 exact rule i j t t' s _ _ ⟨.int (g i j),H,I.tok _,⟨_,rfl⟩,q⟩
theorem opB0 {f:Value→Value→Sem Value} {g:Int→Int→Bool}
  (rule:∀ (i j:Int) (t u:Tok) (s:Shared) (Q:Value→Shared→Prop) (E:Value→Shared→Prop),Q (.bool (g i j)) s→wpAny (model X.prog X.w) X.A (f (.int i t) (.int j u)) Q E s) :
  OpR X f (rI0 fun i j=>.bl (g i j)):=by
 intro pins s σ H x y v u Q I rx ry h
 obtain ⟨i,j,rfl,rfl,q⟩:=h
 obtain ⟨t,rfl⟩:=rx
 obtain ⟨t',rfl⟩:=ry
 exact rule i j t t' s _ _ ⟨.bl (g i j),H,I,rfl,q⟩
noncomputable def CDiv (i j:Int):Prop:=0 < j∧j < 1073741824
noncomputable def CPow (i j:Int):Prop:=0≤j∧j≤1000000∧i.natAbs < 2 ^ 64
noncomputable def CMul (i j:Int):Prop:=(-(2 ^ 64) < i∧i < 2 ^ 64)∨(-(2 ^ 64) < j∧j < 2 ^ 64)
theorem CMul.ok {i j:Int} (h:CMul i j):IntMulOk i j:=by
 rcases h with ⟨h1,h2⟩ | ⟨h1,h2⟩
 ·exact .of_left (intBits_le_64 h1 h2)
 ·exact .of_right (intBits_le_64 h1 h2)
theorem op_add:OpR X (binaryOp .Add) (rI0 fun i j=>.int (i + j)):=opI0 fun _ _ _ _ _ _ _ q=>add_int q
theorem op_sub:OpR X (binaryOp .Sub) (rI0 fun i j=>.int (i - j)):=opI0 fun _ _ _ _ _ _ _ q=>sub_int q
theorem op_mul:OpR X (binaryOp .Mult) (rI CMul fun i j=>.int (i * j)):=opI fun _ _ _ _ _ _ _ hc q=>mul_int q hc.ok
theorem op_fdiv:OpR X (binaryOp .FloorDiv) (rI CDiv fun i j=>.int (i / j)):=opI fun i j _ _ _ _ _ hc q=>by
 have h1:(0:Int) < j:=hc.1
 have h2:j < 1073741824:=hc.2
 exact floordiv_int (by lia) (by rw [Int.fdiv_eq_ediv_of_nonneg i (by lia)]; exact q) (.inl (PyProof.noPylong_small (by lia)))
theorem op_mod:OpR X (binaryOp .Mod) (rI (fun _ j=>0 < j) fun i j=>.int (i % j)):=opI fun i j _ _ _ _ _ hc q=>by
 have h1:(0:Int) < j:=hc
 exact mod_int' (by lia) (by rw [Int.fmod_eq_emod_of_nonneg i (by lia)]; exact q)
theorem op_pow:OpR X (binaryOp .Pow) (rI CPow fun i j=>.int (i ^ j.toNat)):=opI fun _ _ _ _ _ _ _ hc q=>pow_int_small hc.1 hc.2.1 hc.2.2 q
theorem unI {f:Value→Sem Value} {g:Int→Int}
  (rule:∀ (i:Int) (t:Tok) (s:Shared) (Q:Value→Shared→Prop) (E:Value→Shared→Prop),Q (.int (g i) s.toks) { s with toks:=s.toks + 1 }→wpAny (model X.prog X.w) X.A (f (.int i t)) Q E s) :
  UnR X f (rU fun i=>.int (g i)):=by
 intro pins s σ H x v Q I rx h
 obtain ⟨i,rfl,q⟩:=h
 obtain ⟨t,rfl⟩:=rx
 exact rule i t s _ _ ⟨.int (g i),H,I.tok _,⟨_,rfl⟩,q⟩
theorem un_neg:UnR X (unaryOp .USub) (rU fun i=>.int (-i)):=unI fun _ _ _ _ _ q=>neg_int q
end
noncomputable def scal:V→V→Bool
 | .non,.non=>true | .non,.int _=>true | .int _,.non=>true | .non,.bl _=>true | .bl _,.non=>true | .non,.str _=>true | .str _,.non=>true
 | .int _,.int _=>true | .bl _,.bl _=>true | .str _,.str _=>true | .byt _,.byt _=>true
 | .int _,.str _=>true | .str _,.int _=>true | .bl _,.str _=>true | .str _,.bl _=>true
 | _,_=>false
noncomputable def rEq:R2:=fun x y H Q=>scal x y=true∧Q (.bl (decide (x=y))) H
noncomputable def rNe:R2:=fun x y H Q=>scal x y=true∧Q (.bl (!decide (x=y))) H
theorem dec_int {i j:Int}:decide (V.int i=V.int j)=(i == j):=by
 rw [Bool.eq_iff_iff]
 simp
theorem dec_bl {i j:Bool}:decide (V.bl i=V.bl j)=(i == j):=by
 rw [Bool.eq_iff_iff]
 simp
theorem dec_str {i j:Str}:decide (V.str i=V.str j)=(i == j):=by
 rw [Bool.eq_iff_iff]
 simp
theorem dec_byt {i j:Array UInt8}:decide (V.byt i=V.byt j)=(i.toList == j.toList):=by
 rw [Bool.eq_iff_iff]
 cases i
 cases j
 simp
section
variable {X:Cx} {a b c:Expr} {ta tb tc:TE} {pos:Pos}
theorem fin_bl {pins:List (Addr×Obj)} {σ:St} {H:Hp} {s:Shared} {Q:VK} {k k':Bool} (I:Inv X pins σ H s) (q:Q (.bl k) H) (e:k=k'):EP X pins σ Q (.bool k') s:=by
 subst e
 exact ⟨.bl k,H,I,rfl,q⟩
theorem op_eq:OpR X (compareOp .Eq) rEq:=by
 intro pins s σ H x y v u Q I rx ry h
 obtain ⟨hs,q⟩:=h
 cases x with
 | non =>
  cases rx
  cases y with
  | non=>cases ry; exact PySem.EqNone.eq_none_none (fin_bl I q (by simp))
  | bl j=>cases ry; exact PySem.EqNone.eq_none_bool (fin_bl I q (by simp))
  | int j=>obtain ⟨t',rfl⟩:=ry; exact PySem.EqNone.eq_none_int (fin_bl I q (by simp))
  | str j=>obtain ⟨t',rfl⟩:=ry; exact PySem.EqNone.eq_none_str (fin_bl I q (by simp))
  | _=>exact absurd (show false=true from hs) Bool.false_ne_true
 | bl i =>
  cases rx
  cases y with
  | non=>cases ry; exact PySem.EqNone.eq_bool_none (fin_bl I q (by simp))
  | bl j=>cases ry; exact eq_bool (fin_bl I q dec_bl)
  | str j=>obtain ⟨t',rfl⟩:=ry; exact PySem.EqMixed.eq_bool_str (fin_bl I q (by simp))
  | _=>exact absurd (show false=true from hs) Bool.false_ne_true
 | int i =>
  obtain ⟨t,rfl⟩:=rx
  cases y with
  | non=>cases ry; exact PySem.EqNone.eq_int_none (fin_bl I q (by simp))
  | int j=>obtain ⟨t',rfl⟩:=ry; exact eq_int (fin_bl I q dec_int)
  | str j=>obtain ⟨t',rfl⟩:=ry; exact PySem.EqMixed.eq_int_str (fin_bl I q (by simp))
  | _=>exact absurd (show false=true from hs) Bool.false_ne_true
 | str i =>
  obtain ⟨t,rfl⟩:=rx
  cases y with
  | non=>cases ry; exact PySem.EqNone.eq_str_none (fin_bl I q (by simp))
  | bl j=>cases ry; exact PySem.EqMixed.eq_str_bool (fin_bl I q (by simp))
  | int j=>obtain ⟨t',rfl⟩:=ry; exact PySem.EqMixed.eq_str_int (fin_bl I q (by simp))
  | str j=>obtain ⟨t',rfl⟩:=ry; exact eq_str (fin_bl I q dec_str)
  | _=>exact absurd (show false=true from hs) Bool.false_ne_true
 | byt i =>
  obtain ⟨t,rfl⟩:=rx
  cases y with
  | byt j=>obtain ⟨t',rfl⟩:=ry; exact PySem.W.eq_bytes (fin_bl I q dec_byt)
  | _=>exact absurd (show false=true from hs) Bool.false_ne_true
 | _=>cases y <;> exact absurd (show false=true from hs) Bool.false_ne_true
theorem op_ne:OpR X (compareOp .NotEq) rNe:=by
 intro pins s σ H x y v u Q I rx ry h
 obtain ⟨hs,q⟩:=h
 cases x with
 | non =>
  cases rx
  cases y with
  | non=>cases ry; exact PySem.EqNone.ne_none_none (fin_bl I q (by simp))
  | bl j=>cases ry; exact PySem.EqNone.ne_none_bool (fin_bl I q (by simp))
  | int j=>obtain ⟨t',rfl⟩:=ry; exact PySem.EqNone.ne_none_int (fin_bl I q (by simp))
  | str j=>obtain ⟨t',rfl⟩:=ry; exact PySem.EqNone.ne_none_str (fin_bl I q (by simp))
  | _=>exact absurd (show false=true from hs) Bool.false_ne_true
 | bl i =>
  cases rx
  cases y with
  | non=>cases ry; exact PySem.EqNone.ne_bool_none (fin_bl I q (by simp))
  | bl j=>cases ry; exact ne_bool (fin_bl I q (congrArg not dec_bl))
  | str j=>obtain ⟨t',rfl⟩:=ry; exact PySem.EqMixed.ne_bool_str (fin_bl I q (by simp))
  | _=>exact absurd (show false=true from hs) Bool.false_ne_true
 | int i =>
  obtain ⟨t,rfl⟩:=rx
  cases y with
  | non=>cases ry; exact PySem.EqNone.ne_int_none (fin_bl I q (by simp))
  | int j=>obtain ⟨t',rfl⟩:=ry; exact ne_int (fin_bl I q (congrArg not dec_int))
  | str j=>obtain ⟨t',rfl⟩:=ry; exact PySem.EqMixed.ne_int_str (fin_bl I q (by simp))
  | _=>exact absurd (show false=true from hs) Bool.false_ne_true
 | str i =>
  obtain ⟨t,rfl⟩:=rx
  cases y with
  | non=>cases ry; exact PySem.EqNone.ne_str_none (fin_bl I q (by simp))
  | bl j=>cases ry; exact PySem.EqMixed.ne_str_bool (fin_bl I q (by simp))
  | int j=>obtain ⟨t',rfl⟩:=ry; exact PySem.EqMixed.ne_str_int (fin_bl I q (by simp))
  | str j=>obtain ⟨t',rfl⟩:=ry; exact ne_str (fin_bl I q (congrArg not dec_str))
  | _=>exact absurd (show false=true from hs) Bool.false_ne_true
 | byt i =>
  obtain ⟨t,rfl⟩:=rx
  cases y with
  | byt j=>obtain ⟨t',rfl⟩:=ry; exact PySem.W.ne_bytes (fin_bl I q (congrArg not dec_byt))
  | _=>exact absurd (show false=true from hs) Bool.false_ne_true
 | _=>cases y <;> exact absurd (show false=true from hs) Bool.false_ne_true
theorem op_lt:OpR X (compareOp .Lt) (rI0 fun i j=>.bl (decide (i < j))):=opB0 fun _ _ _ _ _ _ _ q=>lt_int q
theorem op_le:OpR X (compareOp .LtE) (rI0 fun i j=>.bl (decide (i≤j))):=opB0 fun _ _ _ _ _ _ _ q=>le_int q
theorem op_gt:OpR X (compareOp .Gt) (rI0 fun i j=>.bl (decide (j < i))):=opB0 fun _ _ _ _ _ _ _ q=>gt_int q
theorem op_ge:OpR X (compareOp .GtE) (rI0 fun i j=>.bl (decide (j≤i))):=opB0 fun _ _ _ _ _ _ _ q=>ge_int q
theorem op_isN:OpR X (compareOp .Is) (fun x y H Q=>y=.non∧Q (.bl (decide (x=.non))) H):=by
  intro pins s σ H x y v u Q I rx ry h
  obtain ⟨rfl,q⟩:=h
  cases ry
  refine is_none_gen (fin_bl I q ?_)
  cases x <;> first
    | (cases rx; rfl)
    | (obtain ⟨t,rfl⟩:=rx; rfl)
theorem nomark (b:Expr) {op:CmpOp} (h:op≠.In:=by decide) (h2:op≠.NotIn:=by decide):behindInMarks op b=false:=by
 have e1:(op == CmpOp.In)=false:=by cases op <;> first | rfl | exact absurd rfl h
 have e2:(op == CmpOp.NotIn)=false:=by cases op <;> first | rfl | exact absurd rfl h2
 cases b <;> simp [behindInMarks,e1,e2]
theorem pe_cmpR {op:CmpOp} {r:R2} (ho:OpR X (compareOp op) r) (ha:PE X a ta) (hb:PE X b tb) (hm:behindInMarks op b=false):PE X (.Compare a [op] [b] pos) (tOp r ta tb):=by
 intro pins s σ H Q I h
 exact wpAny_Compare1 (binT ha hb I h fun v u s2 x y H2 I2 rx ry q=>ho pins s2 σ H2 x y v u Q I2 rx ry q) hm
noncomputable def tTest (t:TE):TT:=fun σ H Q=>t σ H fun x H'=>∃ k,x=.bl k∧Q k H'
theorem pt_cmpR {op:CmpOp} {r:R2} (ho:OpR X (compareOp op) r) (ha:PE X a ta) (hb:PE X b tb) (hm:behindInMarks op b=false):PT X (.Compare a [op] [b] pos) (tTest (tOp r ta tb)):=by
 intro pins s σ H Q I h
 refine wpAny_isTrue_Compare1 (thn (ha pins s σ H _ I h) fun v s1 ⟨x,H1,I1,r1,q1⟩=>thn (hb pins s1 σ H1 _ I1 q1) fun u s2 ⟨y,H2,I2,r2,q2⟩ =>
  thn (ho pins s2 σ H2 x y v u _ I2 r1 r2 q2) fun c s3 ⟨z,H3,I3,r3,k,e,q3⟩=>?_) hm
 subst e
 cases r3
 exact wpAny_truthy_bool ⟨H3,I3,q3⟩
noncomputable def TruV (K:PySem.W.Frag) (x:V) (H:Hp) (k:Bool):Prop :=
 match x with
 | .non=>k=false
 | .bl b=>k=b
 | .int i=>k=(i != 0)
 | .str y=>y.length≤sizeLine∧k=((y.length:Int) != 0)
 | .byt y=>y.size≤sizeLine∧k=((y.size:Int) != 0)
 | .ref p=>(∃ xs,SqL K H p xs∧k=!xs.isEmpty)∨(∃ xs,SqT K H p xs∧k=!xs.isEmpty)∨∃ kvs,H p=some (.dK kvs)∧k=!kvs.isEmpty
 | _=>False
theorem isEmpty_kv {κ:Type} {kvs:List (κ×V)} {vs:List (κ×Value)} (r:KV kvs vs):(!vs.isEmpty)=!kvs.isEmpty:=by
 cases r <;> rfl
theorem isEmpty_of {xs:List V} {its:List Value} (r:Vals xs its):(!its.toArray.isEmpty)=!xs.isEmpty:=by
 cases r <;> simp
theorem line63:(sizeLine:Nat) < 2 ^ 63:=by rw [sizeLine_eq]; decide
theorem tru_ok:TruR X (fun x H Q=>∃ k,TruV X.K x H k∧Q k H):=by
 intro pins s σ H x v Q I rx h
 obtain ⟨k,e,q⟩:=h
 have hl:=line63
 have hs:sizeLine=16777216:=sizeLine_eq
 cases x with
 | non =>
  cases rx
  have e':k=false:=e
  subst e'
  exact truthy_none ⟨H,I,q⟩
 | bl b =>
  cases rx
  have e':k=b:=e
  subst e'
  exact wpAny_truthy_bool ⟨H,I,q⟩
 | int i =>
  obtain ⟨t,rfl⟩:=rx
  have e':k=(i != 0):=e
  subst e'
  exact PySem.P.truthy_int ⟨H,I,q⟩
 | str y =>
  obtain ⟨t,rfl⟩:=rx
  obtain ⟨hy,e'⟩:y.length≤sizeLine∧k=((y.length:Int) != 0):=e
  subst e'
  exact PySem.P.truthy_str (by lia) ⟨H,I.tok _,q⟩
 | byt y =>
  obtain ⟨t,rfl⟩:=rx
  obtain ⟨hy,e'⟩:y.size≤sizeLine∧k=((y.size:Int) != 0):=e
  subst e'
  exact PySem.W.truthy_bytes (by lia) ⟨H,I.tok _,q⟩
 | ref p =>
  cases rx
  have e':(∃ xs,SqL X.K H p xs∧k=!xs.isEmpty)∨(∃ xs,SqT X.K H p xs∧k=!xs.isEmpty)∨∃ kvs,H p=some (.dK kvs)∧k=!kvs.isEmpty:=e
  rcases e' with ⟨xs,hx,e'⟩ | ⟨xs,hx,e'⟩ | ⟨kvs,hx,e'⟩
  ·subst e'
   obtain ⟨its,r,pl,hz⟩:=I.list hx
   have hlen:=r.length
   exact wpAny_truthy_list pl.isList (by simp only [List.size_toArray]; lia) ⟨H,I.tok _,by rw [isEmpty_of r]; exact q⟩
  ·subst e'
   obtain ⟨its,r,pl,hz⟩:=I.tuple hx
   have hlen:=r.length
   exact truthy_tuple pl (by simp only [List.size_toArray]; lia) ⟨H,I.tok _,by rw [isEmpty_of r]; exact q⟩
  ·subst e'
   obtain ⟨hz,hS,vs,r,m⟩:kvs.length≤sizeLine∧(p == sysModules)=false∧∃ vs,KV kvs vs∧s.heap.DictOf (mixKind X.prog X.w) p vs:=I.hok p _ hx
   have hlen:kvs.length=vs.length:=Paired.length r
   exact wpAny_truthy_dict hS m (by lia) ⟨H,I.tok _,by rw [isEmpty_kv r]; exact q⟩
 | _=>exact (show False from e).elim
theorem pt_truth (ha:PE X a ta) (he:∀ whole,isTrue a X.env whole=(do let v ← whole; standAt a.pos; holding [v] (truthy v))) :
  PT X a (fun σ H Q=>ta σ H fun x H'=>∃ k,TruV X.K x H' k∧Q k H'):=by
 intro pins s σ H Q I h
 exact isTrue_plain (thn (ha pins s σ H _ I h) fun v s1 ⟨x,H1,I1,r1,q1⟩=>tru_ok pins s1 σ H1 x v Q I1 r1 q1) (he _)
theorem vals1 {x:V} {us:List Value} (r:Vals [x] us):∃ u,us=[u]∧RelV x u:=by
 cases r with
 | cons r1 r2=>cases r2; exact ⟨_,rfl,r1⟩
theorem vals2 {x y:V} {us:List Value} (r:Vals [x,y] us):∃ u w',us=[u,w']∧RelV x u∧RelV y w':=by
 cases r with
 | cons r1 r2 =>
  cases r2 with
  | cons r3 r4=>cases r4; exact ⟨_,_,rfl,r1,r3⟩
theorem call_int1:CallR X (.type "int") (fun xs H Q=>(∃ i,xs=[.int i]∧Q (.int i) H)∨∃ k,xs=[.bl k]∧Q (.int (if k then 1 else 0)) H):=by
 intro pins s σ H xs us Q I r h
 rcases h with ⟨i,rfl,q⟩ | ⟨k,rfl,q⟩
 ·obtain ⟨u,rfl,t,rfl⟩:=vals1 r
  exact call_int_int ⟨.int i,H,I,⟨_,rfl⟩,q⟩
 ·obtain ⟨u,rfl,r1⟩:=vals1 r
  cases r1
  exact call_int_bool ⟨.int (if k then 1 else 0),H,I.tok _,⟨_,rfl⟩,q⟩
end
end L2
namespace L2
open PySem PySem.Spec PyProof.Rows
structure ObjM (h:Heap) (x dx C:Addr) (mA:Str→Option Value):Prop where
 obj:h.get? x=some (PySem.W.instObj C dx)
 ns:h.Ns1 dx mA
 ne:dx≠x
theorem lookIn_ns {h:Heap} {dx:Addr} {mA:Str→Option Value} (n:h.Ns1 dx mA):∃ od,h.get? dx=some od∧∀ name,PySem.W.lookIn name od=some (mA name):=by
 obtain ⟨o,es,ep,ho,hd,hk,_,hm⟩:=n
 refine ⟨o,ho,fun name=>?_⟩
 have e:=hm name
 unfold nsFind findBy at e
 rw [← Array.find?_toList] at e
 unfold PySem.W.lookIn
 rw [hd]
 dsimp only
 split
 ·rename_i y q
  rw [q] at e
  exact congrArg some e
 ·rename_i q
  rw [q] at e
  have a:es.toList.any (·.refKey)=false:=by
   rw [List.any_eq_false]
   intro y hy
   obtain ⟨z,t,hkey⟩:=hk y (Array.mem_toList_iff.mp hy)
   simp [DictEntry.refKey,hkey]
  have a':¬ es.toList.any (·.refKey)=true:=by rw [a]; exact Bool.false_ne_true
  rw [if_neg a']
  exact congrArg some e
theorem ObjM.look {h:Heap} {x dx C:Addr} {mA:Str→Option Value} (I:ObjM h x dx C mA):∃ od,PySem.W.InstAt h x (PySem.W.instObj C dx) C (some od)∧∀ name,PySem.W.lookIn name od=some (mA name) :=
 let ⟨od,ho,hl⟩:=lookIn_ns I.ns
 ⟨od,⟨I.obj,rfl,rfl,ho⟩,hl⟩
section
variable {prog:Program} {w:World} {A:Around} {E:Value→Shared→Prop} {s:Shared} {K:PySem.W.Frag} {x dx C f:Addr} {mA:Str→Option Value} {name:Str} {v:Value}
end
section
variable {P:Program} {w:World} {H H':Hp} {h h':Heap} {a C dx:Addr} {fs fs':List (Str×V)}
theorem ins_get (hok:HOk P w H h) (e:H a=some (.ins C dx fs)):∃ mA,ObjM h a dx C mA∧(∀ f,RelO (fs.lookup f) (mA f))∧PySem.Within mA (fs.map (·.1))∧fs.length≤1000∧H dx=some (.own a):=by
 obtain ⟨d,z,ne,ob,mA,n,r,q⟩:=(show ObjOk P w H h a (.ins C dx fs) from hok a _ e)
 exact ⟨mA,⟨ob,n,ne⟩,r,q,z,d⟩
end
structure Cls (K:PySem.W.Frag) (C:Addr):Prop where
 pg:PySem.W.plainGet K C Str.empty=true
 hd:PySem.W.hasDictIn K C=true
 po:PySem.W.plainOver K C=true
 sa:PySem.W.findIn K (.ref C) "__setattr__"=some (some (.builtin "object.__setattr__"))
theorem Cls.get {K:PySem.W.Frag} {C:Addr} (c:Cls K C) (f:Str):PySem.W.plainGet K C f=true:=c.pg
noncomputable def NoAttr (K:PySem.W.Frag) (C:Addr) (f:Str):Prop:=PySem.W.findIn K (.ref C) f=some none
section
variable {X:Cx} {pins:List (Addr×Obj)} {σ:St} {H:Hp} {s:Shared} {a C dx:Addr} {fs:List (Str×V)} {f:Str} {v:V} {A:Around} {E:Value→Shared→Prop}
end
section
variable {X:Cx} {o e value:Expr} {f:Str} {pos pos' tpos:Pos} {ta tv:TE}
end
section
variable {X:Cx} {pins:List (Addr×Obj)} {σ:St} {H:Hp} {s:Shared} {A:Around} {E:Value→Shared→Prop} {Q:Value→Shared→Prop} {c:Value} {b:Bool}
inductive TyOf (K:PySem.W.Frag) (H:Hp):V→Value→Prop where
 | non:TyOf K H .non (.type "NoneType")
 | bl (x:Bool):TyOf K H (.bl x) (.type "bool")
 | int (i:Int):TyOf K H (.int i) (.type "int")
 | str (x:Str):TyOf K H (.str x) (.type "str")
 | flt (x:UInt64):TyOf K H (.flt x) (.type "float")
 | lst {a:Addr} {xs:List V} (e:H a=some (.lst xs)):TyOf K H (.ref a) (.type "list")
 | frz {a:Addr} {o:Obj} {xs:List V} (e:H a=some (.frz o (.lst xs))):TyOf K H (.ref a) (.type "list")
 | tup {a:Addr} {xs:List V} (e:H a=some (.tup xs)):TyOf K H (.ref a) (.type "tuple")
 | dK {a:Addr} {kvs:List (Key×V)} (e:H a=some (.dK kvs)):TyOf K H (.ref a) (.type "dict")
 | dT {a:Addr} {kvs:List (List Key×V)} (e:H a=some (.dT kvs)):TyOf K H (.ref a) (.type "dict")
 | ins {a C dx:Addr} {fs:List (Str×V)} (e:H a=some (.ins C dx fs)) (cl:Cls K C) (ha:PySem.W.findIn K (.ref C) "__class__"=some (some (.builtin "object.__class__")))
   (hn:PySem.W.specialIn K (.builtin "object.__class__") "__get__"=some (some (.builtin "getset_descriptor.__get__"))) (htk:PySem.W.takesIn K (.builtin "object.__class__")=some true)
   (hm:PySem.W.mroIn K C (.type "object")=some true):TyOf K H (.ref a) (.ref C)
theorem isinst_ok {x:V} {u t:Value} (I:Inv X pins σ H s) (rx:RelV x u) (ty:TyOf X.K H x t) (e:PySem.W.kitOne X.K t c=some b) (h:∀ tk,Q (.bool b) { s with toks:=tk }) :
  wpAny (model X.prog X.w) A (call (.builtin "isinstance") [u,c]) Q E s:=by
 cases ty with
 | non=>cases (show u=Value.none from rx); exact PySem.W.kia_one PySem.W.kitx_none I.kIn True.intro e (fun z=>nomatch z) h
 | bl y=>cases (show u=Value.bool y from rx); exact PySem.W.kia_one PySem.W.kitx_bool I.kIn True.intro e (fun z=>nomatch z) h
 | int i=>obtain ⟨t,q⟩:=(show ∃ t,u=Value.int i t from rx); cases q; exact PySem.W.kia_one PySem.W.kitx_int I.kIn True.intro e (fun z=>nomatch z) h
 | str y=>obtain ⟨t,q⟩:=(show ∃ t,u=Value.str y t from rx); cases q; exact PySem.W.kia_one PySem.W.kitx_str I.kIn True.intro e (fun z=>nomatch z) h
 | flt y=>obtain ⟨t,q⟩:=(show ∃ t,u=Value.float y t from rx); cases q; exact PySem.W.kia_one PySem.W.kitx_float I.kIn True.intro e (fun z=>nomatch z) h
 | @lst a xs ea =>
  cases (show u=Value.ref a from rx)
  obtain ⟨_,_,n,_,h1⟩:=(show ObjOk X.prog X.w H s.heap a (.lst xs) from I.hok a _ ea)
  exact PySem.W.kia_one PySem.W.kitx_list I.kIn ⟨_,h1,rfl⟩ e (fun z=>nomatch z) h
 | @frz a ob xs ea =>
  cases (show u=Value.ref a from rx)
  obtain ⟨_,_,_,n,_,h1⟩:=(show ObjOk X.prog X.w H s.heap a (.frz ob (.lst xs)) from I.hok a _ ea)
  exact PySem.W.kia_one PySem.W.kitx_list I.kIn ⟨_,h1,rfl⟩ e (fun z=>nomatch z) h
 | @tup a xs ea =>
  cases (show u=Value.ref a from rx)
  obtain ⟨_,_,_,p⟩:=(show ObjOk X.prog X.w H s.heap a (.tup xs) from I.hok a _ ea)
  obtain ⟨o,h1,h2,_⟩:=p
  exact PySem.W.kia_one PySem.W.kitx_tuple I.kIn ⟨o,h1,h2⟩ e (fun z=>nomatch z) h
 | @dK a kvs ea =>
  cases (show u=Value.ref a from rx)
  obtain ⟨_,_,vs,_,p⟩:=(show ObjOk X.prog X.w H s.heap a (.dK kvs) from I.hok a _ ea)
  obtain ⟨o,es,ep,h1,h2,_⟩:=p
  exact PySem.W.kia_one PySem.W.kitx_dict I.kIn ⟨o,h1,h2.1⟩ e (fun z=>nomatch z) h
 | @dT a kvs ea =>
  cases (show u=Value.ref a from rx)
  obtain ⟨_,_,xs,_,o,es,ep,h1,h2,_⟩:=(show ObjOk X.prog X.w H s.heap a (.dT kvs) from I.hok a _ ea)
  exact PySem.W.kia_one PySem.W.kitx_dict I.kIn ⟨o,h1,h2.1⟩ e (fun z=>nomatch z) h
 | @ins a C dx fs ea cl ha hn htk hm =>
  cases (show u=Value.ref a from rx)
  obtain ⟨mA,O,_⟩:=ins_get I.hok ea
  obtain ⟨od,J,_⟩:=O.look
  exact PySem.W.kia_one (PySem.W.kitx_own (cl.get _) cl.hd ha hn htk hm) I.kIn J e (fun z=>nomatch z) h
end
end L2
namespace L2
open PySem PySem.Spec PyProof.Rows
structure Room (k:Nat) (A:Around):Prop where
 hd:A.handled=none
 dp:A.depth + 3 * k + 5 < recursionLimit
 un:A.units + 16 * k + 200 < cLine
theorem Room.mono {j k:Nat} {A:Around} (r:Room k A) (h:j≤k):Room j A:=⟨r.hd,by have:=r.dp; lia,by have:=r.un; lia⟩
theorem Room.deeper {k:Nat} {A:Around} (r:Room (k + 1) A) (env:Env):Room k (A.deeper env) :=
 ⟨r.hd,by have:=r.dp; show A.depth + 1 + 3 * k + 5 < _; lia,by have:=r.un; show A.units + 3 + 16 * k + 200 < _; lia⟩
theorem Room.in1 {k:Nat} {A:Around} (r:Room (k + 1) A):Room k A.in1 :=
 ⟨r.hd,by have:=r.dp; show A.depth + 3 * k + 5 < _; lia,by have:=r.un; show A.units + 1 + 16 * k + 200 < _; lia⟩
theorem make_depth {A:Around} {C:Addr} {us:List Value} {kw:List (Str×Value)}:(A.under (.builtin "type.__call__" ⟨.ref C :: us,kw⟩)).depth=A.depth + 1:=by
 first | rfl | simp [Around.under,Code.weight,Code.isCreation,Code.isGuard,Code.isCaller,Code.frames,Code.isFrame,guardIds]
theorem make_units {A:Around} {C:Addr} {us:List Value} {kw:List (Str×Value)}:(A.under (.builtin "type.__call__" ⟨.ref C :: us,kw⟩)).units=A.units + 1:=by
 first | rfl | simp [Around.under,Code.cUnits,Code.frames,Code.isFrame]
theorem Room.make {k:Nat} {A:Around} (r:Room (k + 1) A) (C:Addr) (us:List Value) (kw:List (Str×Value)):Room k (A.under (.builtin "type.__call__" ⟨.ref C :: us,kw⟩)) :=
 ⟨r.hd,by have:=r.dp; rw [make_depth]; lia,by have:=r.un; rw [make_units]; lia⟩
theorem Room.depth {k:Nat} {A:Around} (r:Room k A):A.depth < recursionLimit:=by have:=r.dp; lia
theorem Room.units {k:Nat} {A:Around} (r:Room k A):A.units + 64 < cLine:=by have:=r.un; lia
noncomputable def tNil:TA:=fun _ H Q=>Q [] H
noncomputable def tCons (ta:TE) (tr:TA):TA:=fun σ H Q=>ta σ H fun x H1=>tr σ H1 fun xs H2=>Q (x :: xs) H2
section
variable {X:Cx} {e:Expr} {es:List Expr} {te:TE} {t:TA} {pos:Pos}
theorem pa_nil:PA X [] tNil:=fun _ _ _ _ H Q I h=>Calls.spliced_nil ⟨[],H,I,.nil,h⟩
theorem pa_cons (ha:PE X e te) (hr:PA X es t) (hs:starEach (e :: es) X.env=(false,eval e X.env) :: starEach es X.env:=by rfl):PA X (e :: es) (tCons te t):=by
 intro pos pins s σ H Q I h
 rw [hs]
 show wpAny _ _ (spliced ((false,eval e X.env) :: backTo pos (starEach es X.env))) _ _ s
 refine Calls.spliced_cons (thn (ha pins s σ H _ I h) fun u s1 ⟨x,H1,I1,r1,q1⟩=>?_)
 exact thn (hr pos pins s1 σ H1 _ I1 q1) fun us s2 ⟨xs,H2,I2,r2,q2⟩=>⟨x :: xs,H2,I2,.cons r1 r2,q2⟩
noncomputable def tTup (t:TA):TE:=fun σ H Q=>t σ H fun xs H1=>xs.length≤sizeLine∧∀ p,H1 p=none→Q (.ref p) (upd H1 p (.tup xs))
noncomputable def tLst (t:TA):TE:=fun σ H Q=>t σ H fun xs H1=>xs.length≤sizeLine∧∀ p,H1 p=none→Q (.ref p) (upd H1 p (.lst xs))
theorem pe_tup {x1} (h:PA X es t):PE X (.Tuple es x1 pos) (tTup t):=by
 intro pins s σ H Q I hq
 refine wpAny_Tuple_spliced (thn (h pos pins s σ H _ I hq) fun us s1 ⟨xs,H1,I1,r,z,q⟩=>⟨by rw [← r.length]; exact z,?_⟩)
 have hf:H1 s1.heap.objs.size=none:=I1.hok.fresh (Nat.le_refl _)
 refine ⟨.ref s1.heap.objs.size,upd H1 s1.heap.objs.size (.tup xs),I1.laid (t':=s1.toks) (fun b u e=>Heap.get?_push_of_some _ e) (Nat.le_refl _) ?_,rfl,q _ hf⟩
 exact ⟨z,us,r,⟨_,Heap.get?_push_size _ rfl,rfl,_,rfl⟩⟩
theorem pe_lst (h:PA X es t):PE X (.List es pos) (tLst t):=by
 intro pins s σ H Q I hq
 refine wpAny_List_spliced (thn (h pos pins s σ H _ I hq) fun us s1 ⟨xs,H1,I1,r,z,q⟩=>⟨by rw [← r.length]; exact z,?_⟩)
 have hf:H1 s1.heap.objs.size=none:=I1.hok.fresh (Nat.le_refl _)
 refine ⟨.ref s1.heap.objs.size,upd H1 s1.heap.objs.size (.lst xs),I1.laid (t':=s1.toks) (fun b u e=>Heap.get?_push_of_some _ e) (Nat.le_refl _) ?_,rfl,q _ hf⟩
 exact ⟨z,us,0,r,Heap.get?_push_size _ rfl⟩
end
noncomputable abbrev Sp:=List V→Hp→VK→XK→Prop
noncomputable abbrev CXT:=List Env→Hp→Shared→XK→Value→Shared→Prop
structure Env0 (P:Program) (w:World) (K:PySem.W.Frag) (mg:Str→Option Value) (base:Heap) (A:Around) (outer:List Env) (s:Shared) (H:Hp):Prop where
 frames:A.frames=some outer
 mod:Mod K mg base
 bs:∀ b o,base.get? b=some o→s.heap.get? b=some o∧H b=none
 bsz:base.objs.size≤s.heap.objs.size
 funs:s.heap.FunFrames base outer
 frf:∀ b∈frs outer,H b=none
 hok:HOk P w H s.heap
 bare:AllBare s.gens
noncomputable def CE (outer:List Env) (P:Program) (w:World) (H:Hp) (s:Shared) (Q:VK) (u:Value) (s':Shared):Prop :=
 ∃ v H',s'.os=s.os∧AllBare s'.gens∧Un (frs outer) [] H H' s.heap s'.heap∧HOk P w H' s'.heap∧RelV v u∧Q v H'
noncomputable def CR (CX:CXT) (outer:List Env) (P:Program) (w:World) (H:Hp) (s:Shared) (Q:VK) (E:XK) (r:Result) (s':Shared):Prop :=
 match r with
 | .ok (.ret u)=>CE outer P w H s Q u s'
 | .ok _=>False
 | .error e=>CX outer H s E e s'
structure FnOk (P:Program) (w:World) (K:PySem.W.Frag) (mg:Str→Option Value) (base:Heap) (CX:CXT) (k:Nat) (f:Addr) (fd:FuncData) (ps:List Str) (sp:Sp):Prop where
 len:∀ vs H Q E,sp vs H Q E→vs.length=ps.length
 run:∀ (A:Around) (outer:List Env) (s:Shared) (H:Hp) (args:Args) (us:List Value) (vs:List V) (Q:VK) (E:XK),Room k A→Env0 P w K mg base A outer s H→BindsTo s fd args (ps.zip us)→Vals vs us→sp vs H Q E →
  codeAny (model P w) A (.call (.ref f) args) (CR CX outer P w H s Q E) s
theorem Env0.make {P:Program} {w:World} {K:PySem.W.Frag} {mg:Str→Option Value} {base:Heap} {A:Around} {outer:List Env} {s:Shared} {H:Hp} (e:Env0 P w K mg base A outer s H) (C:Addr) (us:List Value) (kw:List (Str×Value)) :
  Env0 P w K mg base (A.under (.builtin "type.__call__" ⟨.ref C :: us,kw⟩)) outer s H:=⟨by first | exact e.frames | (simpa [Around.under,Code.envs,Code.isFrame,pushEnvs] using e.frames),e.mod,e.bs,e.bsz,e.funs,e.frf,e.hok,e.bare⟩
theorem Env0.in1 {P:Program} {w:World} {K:PySem.W.Frag} {mg:Str→Option Value} {base:Heap} {A:Around} {outer:List Env} {s:Shared} {H:Hp} (e:Env0 P w K mg base A outer s H) :
  Env0 P w K mg base A.in1 outer s H:=⟨e.frames,e.mod,e.bs,e.bsz,e.funs,e.frf,e.hok,e.bare⟩
section
variable {X:Cx} {pins:List (Addr×Obj)} {σ:St} {H:Hp} {s s':Shared}
theorem Inv.env0 (I:Inv X pins σ H s):Env0 X.prog X.w X.K X.mg X.base X.A X.stack s H :=
 ⟨I.ok.frames,I.ok.mod,I.bs,Nat.le_trans I.ok.bsz I.sz,I.stack,I.stkFree,I.hok,I.bare⟩
theorem Inv.after {Q:VK} {u:Value} (I:Inv X pins σ H s) (h:CE X.stack X.prog X.w H s Q u s'):EP X pins σ Q u s':=by
 obtain ⟨v,H',os,bare,un,hok,r,q⟩:=h
 obtain ⟨hh,g,d,t,os'⟩:=s'
 obtain rfl:os'=s.os:=os
 exact ⟨v,H',I.call (h':=hh) (g':=g) (d':=d) (t':=t) (ch:=[]) un hok bare (fun b z=>absurd z (by simp)),r,q⟩
end
noncomputable def tCall (sp:Sp) (dvs:List V) (E:XK) (t:TA):TE:=fun σ H Q=>t σ H fun vs H1=>sp (vs++dvs) H1 Q E
noncomputable def Binds (K:PySem.W.Frag) (fd:FuncData) (ps:List Str) (ds:List Value):Prop :=
 ∀ (s:Shared) (us:List Value),K.In s.heap→(us++ds).length=ps.length→BindsTo s fd ⟨us,[]⟩ (ps.zip (us++ds))
theorem Binds.all {K:PySem.W.Frag} {fd:FuncData} {ps:List Str} (h:∀ us:List Value,us.length=ps.length→bindArgs fd ⟨us,[]⟩=pure (ps.zip us)):Binds K fd ps []:=fun s us _ hl=>by
 rw [List.append_nil] at hl ⊢
 exact .of_eq (h us hl)
noncomputable def Passes (CX:CXT) (X:Cx) (E:XK):Prop:=∀ (pins:List (Addr×Obj)) (σ:St) (H:Hp) (s:Shared) (e:Value) (s':Shared),Inv X pins σ H s→CX X.stack H s E e s'→X.xe e s'
section
variable {X:Cx} {CX:CXT} {k:Nat} {f C:Addr} {fd:FuncData} {ps:List Str} {sp:Sp} {dvs:List V} {ds:List Value} {E:XK} {x m:Str} {p pos apos:Pos} {e o:Expr} {es:List Expr} {ta:TE} {t:TA}
theorem run_fn {pins:List (Addr×Obj)} {σ:St} {H:Hp} {s:Shared} {Q:VK} {us:List Value} {vs:List V} (F:FnOk X.prog X.w X.K X.mg X.base CX k f fd ps sp) (hr:Room k X.A) (hb:Binds X.K fd ps ds) (hd:Vals dvs ds) (hx:Passes CX X E)
  (I:Inv X pins σ H s) (r:Vals vs us) (h:sp (vs++dvs) H Q E):wpAny (model X.prog X.w) X.A (call (.ref f) us) (EP X pins σ Q) X.xe s:=by
 have r2:Vals (vs++dvs) (us++ds):=r.append hd
 have hl:(us++ds).length=ps.length:=by rw [← r2.length]; exact F.len _ _ _ _ h
 refine wpAny_call (codeAny_mono (F.run X.A X.stack s H ⟨us,[]⟩ (us++ds) (vs++dvs) Q E hr I.env0 (hb s us I.kIn hl) r2 h) fun r s' hq=>?_)
 cases r with
 | error e=>exact hx pins σ H s e s' I hq
 | ok fl =>
  cases fl with
  | ret u=>exact I.after hq
  | next=>exact False.elim hq
  | brk=>exact False.elim hq
  | cont=>exact False.elim hq
theorem pe_call (F:FnOk X.prog X.w X.K X.mg X.base CX k f fd ps sp) (hr:Room k X.A) (hg:Gl X x) (hm:X.mg x=some (.ref f)) (hk:PySem.W.keepIn X.K (.ref f)=true) (hb:Binds X.K fd ps ds) (hd:Vals dvs ds) (hx:Passes CX X E)
  (ha:PA X (e :: es) t) (hdb:(x == ("__debug__":Str))=false:=by decide) (he:starEach (e :: es) X.env=(false,eval e X.env) :: starEach es X.env:=by rfl) (hpl:(backTo pos (starEach es X.env)).any (·.1)=false:=by rfl) :
  PE X (.Call (.Name x p) (e :: es) [] pos) (tCall sp dvs E t):=by
 intro pins s σ H Q I h
 refine wpAny_Call_Name_kw (ld_glob I hg hm ?_ hdb)
 refine PySem.W.callWith_K (h₀:=X.base) I.ok.mod.kin hk (thn (ha pos pins s σ H _ I h) fun us s1 ⟨vs,H1,I1,r,q⟩=>⟨I1.kIn,?_⟩) he hpl
 exact run_fn F hr hb hd hx I1 r q
end
section
variable {X:Cx} {CX:CXT} {k:Nat} {f C:Addr} {fd:FuncData} {ps ks:List Str} {sp:Sp} {E:XK} {x m:Str} {p pos apos kpos:Pos} {e o:Expr} {es:List Expr} {kws:List Keyword} {te ta:TE} {t tk:TA} {nm:Option Str}
variable {g:List Value→List Value→List Value} {gV:List V→List V→List V}
end
structure FnScope (N P:List Str) (sc:Scope):Prop where
 kind:sc.kind=.function
 co:sc.isCoroutine=false
 gen:sc.isGenerator=false
 nd:N.Nodup
 pre:N.take P.length=P
 par:∀ x∈P,sc.names.lookup x=some .local∨sc.names.lookup x=some .cell
 nofree:∀ y∈sc.names,y.2≠.free
theorem bindL_out {kindOf:Str→Option NameKind} {x:Str}:∀ {binds:List (Str×Value)} {m:Str→Option Value},(∀ v,(x,v) ∉ binds)→bindL kindOf binds m x=m x
 | [],_,_=>rfl
 | (n,v) :: r,m,h=>by
  unfold bindL
  rw [bindL_out fun w hw=>h w (List.mem_cons_of_mem _ hw)]
  split
  ·have:x≠n:=by rintro rfl; exact h v List.mem_cons_self
   simp [this]
  ·rfl
theorem bindC_out {kindOf:Str→Option NameKind} {x:Str}:∀ {binds:List (Str×Value)} {m:Str→Option Value},(∀ v,(x,v) ∉ binds)→bindC kindOf binds m x=m x
 | [],_,_=>rfl
 | (n,v) :: r,m,h=>by
  unfold bindC
  rw [bindC_out fun w hw=>h w (List.mem_cons_of_mem _ hw)]
  split
  ·rfl
  ·have:x≠n:=by rintro rfl; exact h v List.mem_cons_self
   simp [this]
theorem bindL_get {kindOf:Str→Option NameKind} {x:Str} {v:Value}:∀ {P:List Str} {vs:List Value} {i:Nat} {m:Str→Option Value},P.Nodup→P[i]?=some x→vs[i]?=some v→kindOf x=some .local →
  bindL kindOf (P.zip vs) m x=some v
 | [],_,_,_,_,h,_,_=>by simp at h
 | _ :: _,[],_,_,_,_,h,_=>by simp at h
 | p :: P,w :: vs,0,m,nd,h1,h2,hk=>by
  simp at h1 h2; subst h1; subst h2
  show bindL kindOf ((p,w) :: P.zip vs) m p=_
  unfold bindL
  rw [bindL_out fun v hv=>(List.nodup_cons.mp nd).1 (List.of_mem_zip hv).1,if_pos hk]
  simp
 | p :: P,w :: vs,i + 1,m,nd,h1,h2,hk=>by
  show bindL kindOf ((p,w) :: P.zip vs) m x=_
  unfold bindL
  exact bindL_get (i:=i) (List.nodup_cons.mp nd).2 (by simpa using h1) (by simpa using h2) hk
theorem bindC_get {kindOf:Str→Option NameKind} {x:Str} {v:Value}:∀ {P:List Str} {vs:List Value} {i:Nat} {m:Str→Option Value},P.Nodup→P[i]?=some x→vs[i]?=some v→kindOf x≠some .local →
  bindC kindOf (P.zip vs) m x=some v
 | [],_,_,_,_,h,_,_=>by simp at h
 | _ :: _,[],_,_,_,_,h,_=>by simp at h
 | p :: P,w :: vs,0,m,nd,h1,h2,hk=>by
  simp at h1 h2; subst h1; subst h2
  show bindC kindOf ((p,w) :: P.zip vs) m p=_
  unfold bindC
  rw [bindC_out fun v hv=>(List.nodup_cons.mp nd).1 (List.of_mem_zip hv).1,if_neg hk]
  simp
 | p :: P,w :: vs,i + 1,m,nd,h1,h2,hk=>by
  show bindC kindOf ((p,w) :: P.zip vs) m x=_
  unfold bindC
  exact bindC_get (i:=i) (List.nodup_cons.mp nd).2 (by simpa using h1) (by simpa using h2) hk
noncomputable def start (N:List Str) (vs:List V):St:=vs.map some++List.replicate (N.length - vs.length) none
noncomputable def cxOf (CX:CXT) (P:Program) (w:World) (K:PySem.W.Frag) (mg:Str→Option Value) (base:Heap) (N:List Str) (qual:Str) (scope:Scope) (f:Addr) (cd:Value) (A:Around) (outer:List Env) (s:Shared) (H:Hp) (E:XK):Cx where
 prog:=P
 w:=w
 K:=K
 mg:=mg
 base:=base
 A:=A.deeper (envOfC qual scope s.heap.objs.size f cd)
 N:=N
 s₀:=s
 H₀:=H
 env:=envOfC qual scope s.heap.objs.size f cd
 outer:=outer
 stack:=envOfC qual scope s.heap.objs.size f cd :: outer
 ex:=[]
 calm:=true
 fn:=fun _=>true
 pn:=[]
 xe:=fun e s'=>wpAny (model P w) (A.deeper (envOfC qual scope s.heap.objs.size f cd)) (leaving (envOfC qual scope s.heap.objs.size f cd) e) (fun _ s''=>CX outer H s E e s'') (fun e' s''=>CX outer H s E e' s'') s'
theorem cell_has {sc:Scope} {n:Nat} {x:Str} (h:sc.names.lookup x=some .cell):∃ c,(cellsFrom n sc.names []).lookup x=some c:=by
 have q:=PySem.W.cellsFrom_some sc.names n [] (.inl h)
 exact Option.isSome_iff_exists.mp q
theorem inv_start {CX:CXT} {P:Program} {w:World} {K:PySem.W.Frag} {mg:Str→Option Value} {base:Heap} {N ps:List Str} {qual:Str} {scope:Scope} {f:Addr} {cd:Value} {A:Around} {outer:List Env} {s s1:Shared} {H:Hp} {E:XK} {us:List Value} {vs:List V}
  (S:FnScope N ps scope) (hd:A.handled=none) (e0:Env0 P w K mg base A outer s H) (hl:vs.length=ps.length) (r:Vals vs us)
  (x:InCallC s s.heap.objs.size (bindL (envOfC qual scope s.heap.objs.size f cd).kindOf (ps.zip us) fun _=>none) (cellsFrom (s.heap.objs.size + 1) scope.names []) (bindC (envOfC qual scope s.heap.objs.size f cd).kindOf (ps.zip us) fun _=>none) s1) :
  Inv (cxOf CX P w K mg base N qual scope f cd A outer s H E) [] (start N vs) H s1:=by
 have hpl:ps.length≤N.length:=by have:=congrArg List.length S.pre; rw [List.length_take] at this; lia
 obtain ⟨h1,tk,rfl,hk⟩:=x.done
 have noA:∀ b:Addr,b ∉ (cxOf CX P w K mg base N qual scope f cd A outer s H E).ex:=fun b z=>absurd (show b∈([]:List Addr) from z) (by simp)
 refine ⟨⟨e0.mod,S.kind,rfl,rfl,Nat.le_refl _,fun y z c h1 h2=>?_,fun y hy=>?_,fun y c _ h=>?_,fun _=>hd,Around.frames_deeper e0.frames,.inr ⟨rfl,rfl⟩,fun b z=>absurd z (noA b),e0.bs,e0.bsz,fun b _ _=>noA b,fun b z=>absurd z (noA b),e0.funs,e0.frf⟩,
  rfl,e0.bare,Un.kept hk,⟨_,x.toInCall.ns,fun i y v h1 h2 h3=>?_⟩,fun y c h=>⟨_,x.cell y c h⟩,e0.hok.fresh (Nat.le_refl _),fun y c h=>?_,fun p hp=>absurd (show p∈([]:List (Addr×Obj)) from hp) (by simp),e0.hok.kept hk,?_⟩
 ·exact name_of_addr x.apart (PySem.mem_of_lookup h1) (PySem.mem_of_lookup h2)
 ·have hy:scope.names.lookup y=some .cell∨scope.names.lookup y=some .free:=hy
  rcases hy with hy | hy
  ·exact cell_has hy
  ·exact absurd rfl (S.nofree _ (PySem.mem_of_lookup hy))
 ·exact Nat.le_of_lt (x.above y c (PySem.mem_of_lookup h))
 ·have hi:i < vs.length:=by
   unfold start at h2
   by_cases hi:i < vs.length
   ·exact hi
   ·rw [List.getElem?_append_right (by simpa using hi)] at h2
    rw [List.getElem?_replicate] at h2
    split at h2 <;> cases h2
  have ha:vs[i]?=some v:=by
   unfold start at h2
   rw [List.getElem?_append_left (by simpa using hi),List.getElem?_map] at h2
   cases e:vs[i]? with
   | none=>rw [e] at h2; cases h2
   | some a=>rw [e] at h2; cases h2; rfl
  obtain ⟨u,hu,rv⟩:=r.get ha
  have hp:ps[i]?=some y:=by
   rw [← S.pre,List.getElem?_take_of_lt (by lia)]; exact h1
  have ndP:ps.Nodup:=by rw [← S.pre]; exact S.nd.sublist (List.take_sublist _ _)
  refine ⟨u,rv,?_⟩
  rcases S.par y (List.mem_of_getElem? hp) with k | k
  ·exact .inl ⟨k,bindL_get ndP hp hu k⟩
  ·obtain ⟨c,e⟩:=cell_has (n:=s.heap.objs.size + 1) k
   refine .inr ⟨.inl k,c,e,?_⟩
   have q:=x.cell y c e
   rw [bindC_get ndP hp hu (by show scope.names.lookup y≠_; rw [k]; decide)] at q
   exact q
 ·exact e0.hok.fresh (Nat.le_of_lt (x.above y c (PySem.mem_of_lookup h)))
 ·unfold start
  show _=N.length
  rw [List.length_append,List.length_map,List.length_replicate]
  lia
theorem fn_of {CX:CXT} {P:Program} {w:World} {K:PySem.W.Frag} {mg:Str→Option Value} {base:Heap} {k:Nat} {f:Addr} {name qual:Str} {params:Arguments} {body:List Stmt} {scope:Scope} {dV kV doc pm cdv ct oc:Value} {an od:Option Addr}
  {osl:Array (Option Value)} {N ps:List Str} {sp:Sp} (lk:K.lookup f=some ⟨oc,od,.func (PySem.W.fnOf name qual params body scope dV kV doc pm an cdv ct),osl⟩) (hcd:PySem.W.codeIn K cdv qual=true) (S:FnScope N ps scope)
  (len:∀ vs H Q E,sp vs H Q E→vs.length=ps.length)
  (hbody:∀ (A:Around) (outer:List Env) (s:Shared) (H:Hp) (vs:List V) (Q:VK) (E:XK),Room k (A.deeper (envOfC qual scope s.heap.objs.size f cdv))→sp vs H Q E →
   ∃ t,PSs (cxOf CX P w K mg base N qual scope f cdv A outer s H E) body t∧t { nx:=fun _ H'=>Q .non H',rt:=Q } (start N vs) H) :
  FnOk P w K mg base CX (k + 1) f (PySem.W.fnOf name qual params body scope dV kV doc pm an cdv ct) ps sp:=by
 refine ⟨len,fun A outer s H args us vs Q E hr e0 hb r hsp=>?_⟩
 have hl:=len _ _ _ _ hsp
 have KX:K.In s.heap:=e0.mod.kin.keeps fun b o e=>(e0.bs b o e).1
 have lim:s.heap.NoLimit:=e0.mod.nolimit.keeps fun b o e=>(e0.bs b o e).1
 have hkind:∀ y∈ps.zip us,scope.names.lookup y.1=some .local∨(scope.names.lookup y.1=some .cell∧((cellsFrom (s.heap.objs.size + 1) scope.names []).lookup y.1).isSome=true):=fun ⟨n,v⟩ hy=>by
  rcases S.par n (List.of_mem_zip hy).1 with q | q
  ·exact .inl q
  ·exact .inr ⟨q,PySem.W.cellsFrom_some _ _ _ (.inl q)⟩
 refine codeAny_call_function hr.depth (KX _ _ lk) rfl S.co S.gen rfl (PySem.W.codeRec_of KX hcd) (hb _ _ _ _ ?_)
 refine wpAny_newFunctionEnv_cells S.kind hkind fun env he s1 x=>?_
 subst he
 refine ⟨lim.keeps x.toInCall.keep,codeAny_func ?_⟩
 obtain ⟨t,ht,hq⟩:=hbody A outer s H vs Q E (hr.deeper _) hsp
 have I:Inv (cxOf CX P w K mg base N qual scope f cdv A outer s H E) [] (start N vs) H s1:=inv_start S hr.hd e0 hl r x
 refine wpAny_mono (ht [] s1 (start N vs) H _ I hq) (fun fl s' hs=>?_) fun e s' hs=>hs
 have fin:∀ {σ':St} {H':Hp} {v:V} {u:Value},Inv (cxOf CX P w K mg base N qual scope f cdv A outer s H E) [] σ' H' s'→RelV v u→Q v H'→CE outer P w H s Q u s' :=
  fun {σ' H' v u} J rv q=>⟨v,H',J.os,J.bare,J.base,J.hok,rv,q⟩
 cases fl with
 | ret u =>
  obtain ⟨v,σ',H',J,rv,q⟩:=hs
  exact fin J rv q
 | next =>
  obtain ⟨σ',H',J,q⟩:=hs
  exact fin (v:=V.non) (u:=Value.none) J rfl q
 | brk =>
  obtain ⟨_,_,_,q⟩:=hs
  exact False.elim q
 | cont =>
  obtain ⟨_,_,_,q⟩:=hs
  exact False.elim q
end L2
namespace L2
open PySem PySem.Spec PyProof.Rows
section
variable {X:Cx} {x:Str} {p pos:Pos} {e:Expr} {es:List Expr} {t:TA} {id T:String} {r:List V→Hp→VK→Prop}
noncomputable def tCB (r:List V→Hp→VK→Prop) (t:TA):TE:=fun σ H Q=>t σ H fun vs H1=>r vs H1 Q
theorem pe_callB (hc:CallR X (.builtin id) r) (hg:Gl X x) (hm:X.mg x=none) (hv:bootBuiltins x=some (.builtin id)) (ha:PA X (e :: es) t) (hn:x≠"__name__":=by decide) (hdb:(x == ("__debug__":Str))=false:=by decide)
  (he:starEach (e :: es) X.env=(false,eval e X.env) :: starEach es X.env:=by rfl) (hpl:(backTo pos (starEach es X.env)).any (·.1)=false:=by rfl):PE X (.Call (.Name x p) (e :: es) [] pos) (tCB r t):=by
 intro pins s σ H Q I h
 refine wpAny_Call_Name_kw (ld_blt I hg hm hv ?_ hn hdb)
 exact PyProof.Rows.callWith_builtin1 (thn (ha pos pins s σ H _ I h) fun us s1 ⟨vs,H1,I1,r1,q1⟩=>hc pins s1 σ H1 vs us Q I1 r1 q1) he hpl
theorem pe_callTy (hc:CallR X (.type T) r) (hg:Gl X x) (hm:X.mg x=none) (hv:bootBuiltins x=some (.type T)) (ha:PA X (e :: es) t) (hn:x≠"__name__":=by decide) (hdb:(x == ("__debug__":Str))=false:=by decide)
  (he:starEach (e :: es) X.env=(false,eval e X.env) :: starEach es X.env:=by rfl) (hpl:(backTo pos (starEach es X.env)).any (·.1)=false:=by rfl):PE X (.Call (.Name x p) (e :: es) [] pos) (tCB r t):=by
 intro pins s σ H Q I h
 refine wpAny_Call_Name_kw (ld_blt I hg hm hv ?_ hn hdb)
 exact PyProof.Rows.callWith_type1 (thn (ha pos pins s σ H _ I h) fun us s1 ⟨vs,H1,I1,r1,q1⟩=>hc pins s1 σ H1 vs us Q I1 r1 q1) he hpl
end
end L2
namespace HT
open PySem PyProof.Rows
theorem rcLt_int (A:Around) (s:Shared) (a:Int) (t:Tok) (c:Int) (u:Tok) (prog:Program) (w:World) (E:Value→Shared→Prop) (Q:Value→Shared→Prop) (h:Q (.bool (decide (a < c))) s) :
  wpAny (model prog w) A (richCompare .Lt (.int a t) (.int c u)) Q E s :=
 (PyProof.Rows.lt_int h:wpAny (model prog w) A (compareOp .Lt (.int a t) (.int c u)) Q E s)
section
open PySem.SeqAt
open PySem.AutoSeq1 (wpAny_loadPart')
open PySem.MeetsSeq PySem.MeetsSeq2 PySem.MeetsSeq3
end
section
variable {prog:Program} {w:World} {A:Around} {E:Value→Shared→Prop} {s:Shared}
theorem cat_tup {t b:Addr} {vs ws:List Value} {Q:Value→Shared→Prop} (ht:IsTup s.heap t vs.toArray) (hb:IsTup s.heap b ws.toArray) (hv:vs≠[])
  (h1:ws=[]→Q (.ref t) s) (h2:ws≠[]→Q (.ref s.heap.objs.size) { s with heap:=s.heap.push { cls:=.type "tuple",data:=.seq (vs++ws).toArray } })
  (hsz:vs.length + ws.length≤sizeLine):wpAny (model prog w) A (binaryOp .Add (.ref t) (.ref b)) Q E s:=by
 obtain ⟨⟨cls,dd,data,sl⟩,ho,hc,n,hd⟩:=id ht
 obtain ⟨⟨cls2,dd2,data2,sl2⟩,ho2,hc2,n2,hd2⟩:=id hb
 simp only at hc hd hc2 hd2
 subst hc hd hc2 hd2
 have e:vs.toArray++ws.toArray=(vs++ws).toArray:=by simp
 by_cases hw:ws=[]
 ·exact concat_meets ⟨_,ho,rfl⟩ ⟨_,ho2,rfl⟩ noFill_tuple_add seq_tuple_add PySem.F.slot_tuple_add PySem.F.entry_tuple_add (PySem.F.args_tuple_add_2 _ _)
   (tuple_addW1 t b vs.toArray ws.toArray n n2 dd dd2 sl sl2 (by simpa using hv) (by simp [hw])) ⟨ho,ho2,h1 hw⟩
 ·refine concat_meets ⟨_,ho,rfl⟩ ⟨_,ho2,rfl⟩ noFill_tuple_add seq_tuple_add PySem.F.slot_tuple_add PySem.F.entry_tuple_add (PySem.F.args_tuple_add_2 _ _)
   (tuple_addW2 t b vs.toArray ws.toArray n n2 dd dd2 sl sl2 (by simpa using hv) (by simpa using hw) (by rw [List.size_toArray,List.size_toArray]; exact hsz)) ⟨ho,ho2,?_⟩
  rw [e]
  exact h2 hw
noncomputable def sIx (n d:Nat):Option Int→Nat
 | none=>d
 | some v=>if v < 0 then (v + (n:Int)).toNat else min v.toNat n
theorem sIx_none (n d:Nat):sIx n d none=d:=rfl
theorem sIx_nat (n d k:Nat):sIx n d (some (k:Int))=min k n:=by
 show (if (k:Int) < 0 then ((k:Int) + (n:Int)).toNat else min (k:Int).toNat n)=min k n
 rw [if_neg (by lia),Int.toNat_natCast]
theorem sIx_le (n d:Nat) (hd:d≤n) (o:Option Int):sIx n d o≤n:=by
 cases o with
 | none=>exact hd
 | some v =>
  show (if v < 0 then (v + (n:Int)).toNat else min v.toNat n)≤n
  by_cases hv:v < 0
  ·rw [if_pos hv]; lia
  ·rw [if_neg hv]; exact Nat.min_le_right _ _
theorem clip_eq (v:Int) (n d:Nat):(if v < 0 then max (v + (n:Int)) 0 else min v (n:Int))=((sIx n d (some v):Nat):Int):=by
 show (if v < 0 then max (v + (n:Int)) 0 else min v (n:Int))=(((if v < 0 then (v + (n:Int)).toNat else min v.toNat n):Nat):Int)
 by_cases hv:v < 0
 ·simp only [if_pos hv]; lia
 ·simp only [if_neg hv]; lia
theorem adjust_gen (lo hi:Option Int) (n:Nat):Builtin.Slice.sliceAdjust lo hi 1 (n:Int)=(((sIx n 0 lo:Nat):Int),((sIx n n hi:Nat):Int)):=by
 have h1:¬ ((1:Int) < 0):=by lia
 unfold Builtin.Slice.sliceAdjust
 simp only [h1,if_false]
 refine Prod.ext ?_ ?_
 ·cases lo with
  | none=>rfl
  | some v=>exact clip_eq v n 0
 ·cases hi with
  | none=>rfl
  | some v=>exact clip_eq v n n
theorem places_gen (i j:Nat):Builtin.Slice.slicePlaces (i:Int) (j:Int) 1=j - i:=by
 unfold Builtin.Slice.slicePlaces
 have h1:(1:Int) > 0:=by lia
 simp only [h1,if_true,Int.ediv_one]
 split <;> lia
theorem slicePart_ {v:Value} {o:Option Int} {Q:Option Int→Shared→Prop} (p:IsPart v o) (h:Q o s):wpAny (model prog w) A (Builtin.Slice.slicePartIndex v) Q E s:=by
 cases p with
 | none=>exact slicePart_none h
 | int i t=>exact slicePart_int h
theorem sliceApplied_gen {sl:Addr} {vl vu:Value} {lo hi:Option Int} {n:Nat} {Q:Int×Int×Nat→Shared→Prop} (hs:s.heap.IsSliceOf sl vl vu .none) (pl:IsPart vl lo) (pu:IsPart vu hi)
  (h:Q (((sIx n 0 lo:Nat):Int),1,sIx n n hi - sIx n 0 lo) s):wpAny (model prog w) A (Builtin.Slice.sliceApplied (.ref sl) (pure (n:Int))) Q E s:=by
 obtain ⟨os,hos,hcs,hds⟩:=id hs
 unfold Builtin.Slice.sliceApplied Builtin.Slice.sliceFields
 refine wpAny_bind (wpAny_bind (wpAny_field hos hds (x:=vl) rfl (wpAny_bind (wpAny_field hos hds (x:=vu) rfl (wpAny_bind (wpAny_field hos hds (x:=.none) rfl (wpAny_pure ?_)))))))
 refine wpAny_bind (slicePart_none ?_)
 show wpAny _ _ (if ((1:Int) == 0)=true then _ else _) _ _ s
 rw [if_neg (by decide)]
 refine wpAny_bind (slicePart_ pl (wpAny_bind (slicePart_ pu (wpAny_bind (wpAny_pure ?_)))))
 show wpAny _ _ (match Builtin.Slice.sliceAdjust lo hi 1 (n:Int) with | (lo,hi)=>pure (lo,(1:Int),Builtin.Slice.slicePlaces lo hi 1)) _ _ s
 rw [adjust_gen lo hi n]
 show wpAny _ _ (pure (((sIx n 0 lo:Nat):Int),(1:Int),Builtin.Slice.slicePlaces ((sIx n 0 lo:Nat):Int) ((sIx n n hi:Nat):Int) 1)) _ _ s
 rw [places_gen]
 exact wpAny_pure h
theorem pick_gen (xs:Array Value) (i k:Nat):((List.range k).filterMap fun (m:Nat)=>xs[((i:Int) + (m:Int) * 1).toNat]?).toArray=((xs.toList.drop i).take k).toArray:=by
 have e:(fun (m:Nat)=>xs[((i:Int) + (m:Int) * 1).toNat]?)=fun m=>xs[i + m]?:=by
  funext m
  have:((i:Int) + (m:Int) * 1).toNat=i + m:=by lia
  rw [this]
 rw [e]
 have:=pick_run xs i k
 rw [List.filterMap_map] at this
 have e2:((fun x=>xs[x]?) ∘ fun x=>i + x)=fun m=>xs[i + m]?:=rfl
 rw [e2] at this
 rw [this]
theorem getItem_tuple_cut {t sl:Addr} {items:Array Value} {vl vu:Value} {lo hi:Option Int} {Q:Value→Shared→Prop} (ht:IsTup s.heap t items) (hs:s.heap.IsSliceOf sl vl vu .none) (pl:IsPart vl lo) (pu:IsPart vu hi)
    (hw:¬ (sIx items.size 0 lo=0∧sIx items.size items.size hi=items.size))
    (h:Q (.ref s.heap.objs.size) { s with heap:=s.heap.push { cls:=.type "tuple",data:=.seq ((items.toList.drop (sIx items.size 0 lo)).take (sIx items.size items.size hi - sIx items.size 0 lo)).toArray } })
    (hsz:items.size≤sizeLine):wpAny (model prog w) A (getItem (.ref t) (.ref sl)) Q E s:=by
  have htake:sizeOk (.seq ((items.toList.drop (sIx items.size 0 lo)).take (sIx items.size items.size hi - sIx items.size 0 lo)).toArray):=by
    show ((items.toList.drop (sIx items.size 0 lo)).take (sIx items.size items.size hi - sIx items.size 0 lo)).toArray.size≤sizeLine
    rw [List.size_toArray,List.length_take,List.length_drop,Array.length_toList]
    lia
  have hj:sIx items.size items.size hi≤items.size:=sIx_le _ _ (Nat.le_refl _) hi
  obtain ⟨os,hos,hcs,hds⟩:=id hs
  have hTs:s.TypeIs (.ref sl) "slice":=⟨os,hos,hcs⟩
  unfold getItem
  try with_reducible refine wpAny_holding ?_
  first | refine wpAny_bind (wpAny_pure ?_) | skip
  refine wpAny_bind (wpAny_sequenceKey ht.typeIs (by decide) ?_)
  refine wpAny_bind (wpAny_callSpecial?_slot (name:=Str.ofString "__getitem__") ht.typeIs PyProof.Rows.slot_tuple_getitem
    (wpAny_call_entry PyProof.Rows.slot_tuple_getitem ht.typeIs entry_tuple_getitem ?_ (args_tuple_getitem _ _)))
  show wpAny _ _ (Builtin.Tuple.tupleItemsOf (.ref t) >>= _) _ _ s
  refine wpAny_bind (tupleItemsOf_ ht ?_)
  refine wpAny_bind (wpAny_typeOf hTs ?_)
  rw [if_pos (by decide)]
  refine wpAny_bind (sliceApplied_gen hs pl pu ?_)
  have hno:¬ ((((sIx items.size 0 lo:Nat):Int) == 0 && (1:Int) == 1 && (sIx items.size items.size hi - sIx items.size 0 lo) == items.size)=true):=by
    intro q
    rw [Bool.and_eq_true,Bool.and_eq_true] at q
    have q1:((sIx items.size 0 lo:Nat):Int)=0:=eq_of_beq q.1.1
    have q2:sIx items.size items.size hi - sIx items.size 0 lo=items.size:=eq_of_beq q.2
    exact hw ⟨by lia,by lia⟩
  show wpAny _ _ (if (((sIx items.size 0 lo:Nat):Int) == 0 && (1:Int) == 1 && (sIx items.size items.size hi - sIx items.size 0 lo) == items.size)=true then _ else _) _ _ s
  rw [if_neg hno,pick_gen]
  first
    | exact wpAny_bind (m:=Builtin.Tuple.tupleExact _) (wpAny_newObj_type (wpAny_pure ⟨_,rfl,wpAny_pure h⟩) htake)
    | exact wpAny_bind (m:=Builtin.Tuple.tupleExact _) (wpAny_newObj_type (wpAny_bind (wpAny_pure (wpAny_pure ⟨_,rfl,wpAny_pure h⟩))) htake)
    | exact wpAny_bind (wpAny_bind (m:=Builtin.Tuple.tupleExact _) (wpAny_newObj_type (wpAny_pure (wpAny_pure ⟨_,rfl,wpAny_pure h⟩)) htake))
    | exact wpAny_bind (wpAny_bind (m:=Builtin.Tuple.tupleExact _) (wpAny_newObj_type (wpAny_pure ⟨_,rfl,wpAny_pure h⟩) htake))
end
end HT
namespace L2
open PySem PySem.Spec PyProof.Rows
noncomputable abbrev TO:=St→Hp→(Option Int→Hp→Prop)→Prop
noncomputable def PO (X:Cx) (e:Option Expr) (t:TO):Prop :=
 ∀ (pins:List (Addr×Obj)) (s:Shared) (σ:St) (H:Hp) (Q:Option Int→Hp→Prop),Inv X pins σ H s→t σ H Q →
  wpAny (model X.prog X.w) X.A (evalPart e X.env) (fun u s'=>∃ o H',Inv X pins σ H' s'∧IsPart u o∧Q o H') X.xe s
noncomputable def tNoPart:TO:=fun _ H Q=>Q none H
noncomputable def tPart (t:TE):TO:=fun σ H Q=>t σ H fun x H1=>∃ i,x=.int i∧Q (some i) H1
theorem intsAre_of {ns:List Int}:∀ {us:List Value},Vals (ns.map V.int) us→IntsAre us ns:=by
 induction ns with
 | nil=>intro us r; rw [List.map_nil] at r; cases r; exact .nil
 | cons n ns ih =>
  intro us r
  rw [List.map_cons] at r
  cases r with
  | cons r1 r2 =>
   obtain ⟨t,e⟩:=r1
   subst e
   exact .cons n t (ih r2)
section
variable {X:Cx} {e:Expr} {te:TE} {lo hi:Option Expr} {tl th:TO} {pos p2:Pos}
theorem po_none:PO X none tNoPart:=by
 intro pins s σ H Q I h
 rw [evalPart_none]
 exact wpAny_pure ⟨none,H,I,.none,h⟩
theorem po_some (h:PE X e te):PO X (some e) (tPart te):=by
 intro pins s σ H Q I hw
 rw [evalPart_some]
 refine thn (h pins s σ H _ I hw) fun u s1 ⟨x,H1,I1,r1,q1⟩=>?_
 obtain ⟨i,rfl,q⟩:=q1
 obtain ⟨t,rfl⟩:=r1
 exact ⟨some i,H1,I1,.int i t,q⟩
noncomputable def SlR (X:Cx) (r:V→Option Int→Option Int→Hp→VK→Prop):Prop :=
 ∀ (pins:List (Addr×Obj)) (s:Shared) (σ:St) (H:Hp) (x:V) (v vl vu:Value) (lo hi:Option Int) (sl:Addr) (Q:VK),Inv X pins σ H s→RelV x v→s.heap.IsSliceOf sl vl vu .none→IsPart vl lo→IsPart vu hi→r x lo hi H Q →
  ∃ T id,typeLookup (.type T) "__getitem__"=pure (some (.builtin id))∧s.TypeIs v T∧wpAny (model X.prog X.w) X.A (getItem v (.ref sl)) (EP X pins σ Q) X.xe s
noncomputable def tSl (r:V→Option Int→Option Int→Hp→VK→Prop) (te:TE) (tl th:TO):TE:=fun σ H Q=>te σ H fun x H1=>tl σ H1 fun l H2=>th σ H2 fun u H3=>r x l u H3 Q
theorem pe_slice {r:V→Option Int→Option Int→Hp→VK→Prop} (hr:SlR X r) (he:PE X e te) (hl:PO X lo tl) (hu:PO X hi th):PE X (.Subscript e (.Slice lo hi none p2) pos) (tSl r te tl th):=by
 intro pins s σ H Q I h
 refine Subscript_ (thn (he pins s σ H _ I h) fun v s1 ⟨x,H1,I1,r1,q1⟩=>?_)
 refine wpAny_Slice (thn (hl pins s1 σ H1 _ I1 q1) fun vl s2 ⟨l,H2,I2,pl,q2⟩=>thn (hu pins s2 σ H2 _ I2 q2) fun vu s3 ⟨u,H3,I3,pu,q3⟩=>?_)
 rw [evalPart_none]
 refine wpAny_pure ?_
 have I4:Inv X pins σ H3 { s3 with heap:=s3.heap.push { cls:=.type "slice",data:=.fields #[vl,vu,.none] } }:=I3.kept (t':=s3.toks) fun b ob q=>Heap.get?_push_of_some _ q
 obtain ⟨T,id,hT,ht,hg⟩:=hr pins { s3 with heap:=s3.heap.push { cls:=.type "slice",data:=.fields #[vl,vu,.none] } } σ H3 x v vl vu l u s3.heap.objs.size Q I4 r1 (Heap.IsSliceOf.new ..) pl pu q3
 show wpAny (model X.prog X.w) X.A (subscriptTail e (.Slice lo hi none p2) v (.ref s3.heap.objs.size)) (EP X pins σ Q) X.xe { s3 with heap:=s3.heap.push { cls:=.type "slice",data:=.fields #[vl,vu,.none] } }
 exact tail_any (ops:=[.ref s3.heap.objs.size,v]) ht hT hg (by with_unfolding_all rfl)
noncomputable def cutV (xs:List V) (lo hi:Option Int):List V:=(xs.drop (HT.sIx xs.length 0 lo)).take (HT.sIx xs.length xs.length hi - HT.sIx xs.length 0 lo)
theorem cutV_length (xs:List V) (lo hi:Option Int):(cutV xs lo hi).length≤xs.length:=by
 unfold cutV
 rw [List.length_take,List.length_drop]
 lia
noncomputable def rSlT (K:PySem.W.Frag):V→Option Int→Option Int→Hp→VK→Prop:=fun x lo hi H Q=>∃ a xs,x=.ref a∧SqT K H a xs ∧
 ¬ (HT.sIx xs.length 0 lo=0∧HT.sIx xs.length xs.length hi=xs.length)∧∀ p,H p=none→Q (.ref p) (upd H p (.tup (cutV xs lo hi)))
theorem sl_tup:SlR X (rSlT X.K):=by
 intro pins s σ H x v vl vu lo hi sl Q I rx hs pl pu h
 obtain ⟨a,xs,rfl,hx,hw,q⟩:=h
 cases rx
 obtain ⟨its,r,ht,hz⟩:=I.tuple hx
 have hlen:its.toArray.size=xs.length:=by rw [List.size_toArray]; exact r.length.symm
 refine ⟨"tuple",_,PyProof.Rows.slot_tuple_getitem.lookup,ht.typeIs,?_⟩
 refine HT.getItem_tuple_cut ht hs pl pu (by rw [hlen]; exact hw) ?_ (by rw [hlen]; exact hz)
 rw [hlen]
 refine ⟨.ref s.heap.objs.size,_,I.laid (t':=s.toks) (o:=.tup (cutV xs lo hi)) (fun b ob q=>Heap.get?_push_of_some _ q) (Nat.le_refl _) ?_,rfl,q _ (I.hok.fresh (Nat.le_refl _))⟩
 exact ⟨Nat.le_trans (cutV_length xs lo hi) hz,_,(r.drop (HT.sIx xs.length 0 lo)).take (HT.sIx xs.length xs.length hi - HT.sIx xs.length 0 lo),IsTup.new _ _⟩
noncomputable def rCatT (K:PySem.W.Frag):R2:=fun x y H Q=>∃ a b xs ys,x=.ref a∧y=.ref b∧SqT K H a xs∧SqT K H b ys∧xs≠[]∧xs.length + ys.length≤sizeLine ∧
 (ys=[]→Q (.ref a) H)∧(ys≠[]→∀ p,H p=none→Q (.ref p) (upd H p (.tup (xs++ys))))
theorem Vals.nil_iff {xs:List V} {us:List Value} (r:Vals xs us):us=[]↔xs=[]:=by
 cases r with
 | nil=>simp
 | cons _ _=>simp
theorem op_catT:OpR X (binaryOp .Add) (rCatT X.K):=by
 intro pins s σ H x y v u Q I rx ry h
 obtain ⟨a,b,xs,ys,rfl,rfl,ha,hb,hx,hz,q1,q2⟩:=h
 cases rx
 cases ry
 obtain ⟨its,r1,p1,_⟩:=I.tuple ha
 obtain ⟨its2,r2,p2,_⟩:=I.tuple hb
 refine HT.cat_tup p1 p2 (fun z=>hx (r1.nil_iff.mp z)) (fun z=>⟨.ref a,H,I,rfl,q1 (r2.nil_iff.mp z)⟩) (fun z=>?_) (by rw [← r1.length,← r2.length]; exact hz)
 refine ⟨.ref s.heap.objs.size,_,I.laid (t':=s.toks) (o:=.tup (xs++ys)) (fun b ob q=>Heap.get?_push_of_some _ q) (Nat.le_refl _) ?_,rfl,q2 (fun w=>z (r2.nil_iff.mpr w)) _ (I.hok.fresh (Nat.le_refl _))⟩
 exact ⟨by rw [List.length_append]; exact hz,_,r1.append r2,IsTup.new _ _⟩
end
end L2
namespace L2
open PySem PySem.Spec PyProof.Rows
noncomputable def ixN (n:Nat) (i:Int):Option Nat:=if 0≤i then (if i < n then some i.toNat else none) else if -(n:Int)≤i then some (i + n).toNat else none
noncomputable def atI {α:Type} (xs:List α) (i:Int):Option α:=(ixN xs.length i).bind fun j=>xs[j]?
theorem ixN_seq {n:Nat} {i:Int} {j:Nat} (h:ixN n i=some j):seqIndex? i n=some j∧j < n∧-(n:Int)≤i∧i < n:=by
 unfold ixN at h
 by_cases h0:0≤i
 ·rw [if_pos h0] at h
  by_cases h1:i < n
  ·rw [if_pos h1] at h
   have e:i.toNat=j:=Option.some.inj h
   exact ⟨by rw [seqIndex_of h0 h1,e],by lia,by lia,h1⟩
  ·rw [if_neg h1] at h; cases h
 ·rw [if_neg h0] at h
  by_cases h1:-(n:Int)≤i
  ·rw [if_pos h1] at h
   have e:(i + n).toNat=j:=Option.some.inj h
   exact ⟨by rw [seqIndex_neg (by lia) h1,e],by lia,h1,by lia⟩
  ·rw [if_neg h1] at h; cases h
theorem atI_get {α:Type} {xs:List α} {i:Int} {v:α} (h:atI xs i=some v):∃ j,seqIndex? i xs.length=some j∧xs[j]?=some v∧j < xs.length∧-(xs.length:Int)≤i∧i < xs.length:=by
 unfold atI at h
 cases e:ixN xs.length i with
 | none=>rw [e] at h; cases h
 | some j =>
  rw [e] at h
  obtain ⟨h1,h2,h3,h4⟩:=ixN_seq e
  exact ⟨j,h1,h,h2,h3,h4⟩
theorem atI_nat {α:Type} {xs:List α} {j:Nat} {v:α} (h:xs[j]?=some v):atI xs (j:Int)=some v:=by
 have hj:j < xs.length:=(List.getElem?_eq_some_iff.mp h).1
 have e:ixN xs.length (j:Int)=some j:=by
  unfold ixN
  rw [if_pos (by lia),if_pos (by lia)]; simp
 unfold atI; rw [e]; exact h
noncomputable def PlainIx (b:Expr):Prop:=∀ o i,subscripted b false o i=operate [o,i] (getItem o i)
noncomputable def IxR (X:Cx) (r:R2):Prop :=
 ∀ (value slice:Expr) (pins:List (Addr×Obj)) (s:Shared) (σ:St) (H:Hp) (x y:V) (v u:Value) (Q:VK),Inv X pins σ H s→RelV x v→RelV y u→r x y H Q →
  subscripted slice false v u=operate [v,u] (getItem v u)→wpAny (model X.prog X.w) X.A (subscriptTail value slice v u) (EP X pins σ Q) X.xe s
noncomputable def MtR (X:Cx) (id:String) (r:V→List V→Hp→VK→Prop):Prop :=
 ∀ (pins:List (Addr×Obj)) (s:Shared) (σ:St) (H:Hp) (x:V) (xs:List V) (v:Value) (us:List Value) (Q:VK),Inv X pins σ H s→RelV x v→Vals xs us→r x xs H Q →
  wpAny (model X.prog X.w) X.A (call (.builtin id) (v :: us)) (EP X pins σ Q) X.xe s
section
variable {X:Cx} {a b:Expr} {ta tb:TE} {pos:Pos}
theorem pe_ix {r:R2} (hr:IxR X r) (ha:PE X a ta) (hb:PE X b tb) (hs:PlainIx b):PE X (.Subscript a b pos) (tOp r ta tb):=by
 intro pins s σ H Q I h
 exact Subscript_ (binT ha hb I h fun v u s2 x y H2 I2 rx ry q=>hr a b pins s2 σ H2 x y v u Q I2 rx ry q (hs _ _))
noncomputable def rIxL (K:PySem.W.Frag):R2:=fun x y H Q=>∃ p xs i v,x=.ref p∧y=.int i∧SqL K H p xs∧atI xs i=some v∧Q v H
noncomputable def rIxT (K:PySem.W.Frag):R2:=fun x y H Q=>∃ p xs i v,x=.ref p∧y=.int i∧SqT K H p xs∧atI xs i=some v∧Q v H
theorem ix_list:IxR X (rIxL X.K):=by
 intro value slice pins s σ H x y v u Q I rx ry h hs
 obtain ⟨p,xs,i,z,rfl,rfl,hq,he,q⟩:=h
 cases rx
 obtain ⟨t,rfl⟩:=ry
 obtain ⟨its,r,pl,hz⟩:=I.list hq
 obtain ⟨j,h1,h2,h3,h4,h5⟩:=atI_get he
 obtain ⟨w,ew,rw'⟩:=r.get h2
 have hl:=r.length
 have hn:=line63
 have fin:EP X pins σ Q w s:=⟨z,H,I,rw',q⟩
 by_cases h0:0≤i
 ·have hj:i.toNat=j:=by
   rw [seqIndex_of h0 h5] at h1
   exact Option.some.inj h1
  exact item_listR pl.isList h0 (by lia) (by rw [hj]; simpa using ew) fin hs
 ·have hj:(i + (its.toArray.size:Int)).toNat=j:=by
   rw [seqIndex_neg (by lia) h4] at h1
   rw [List.size_toArray,← hl]
   exact Option.some.inj h1
  exact subscriptTail_builtinR (x:=w) pl.isList.typeIs slot_list_getitem.lookup
   (wpAny_getItem_list_neg (Q:=fun r s'=>r=w∧EP X pins σ Q r s') pl.isList (by lia) (by rw [List.size_toArray] <;> lia) (by lia) (by rw [hj]; simpa using ew) ⟨rfl,fin⟩) hs
theorem ix_tup:IxR X (rIxT X.K):=by
 intro value slice pins s σ H x y v u Q I rx ry h hs
 obtain ⟨p,xs,i,z,rfl,rfl,hq,he,q⟩:=h
 cases rx
 obtain ⟨t,rfl⟩:=ry
 obtain ⟨its,r,pl,hz⟩:=I.tuple hq
 obtain ⟨j,h1,h2,h3,h4,h5⟩:=atI_get he
 obtain ⟨w,ew,rw'⟩:=r.get h2
 have hl:=r.length
 have hn:=line63
 have fin:EP X pins σ Q w s:=⟨z,H,I,rw',q⟩
 exact subscriptTail_builtinR (x:=w) pl.typeIs slot_tuple_getitem.lookup
  (getItem_tuple (j:=j) (Q:=fun r s'=>r=w∧EP X pins σ Q r s') pl (by lia) (by lia) (by rw [List.size_toArray,← hl]; exact h1) (by simpa using ew) ⟨rfl,fin⟩) hs
theorem mapSeq_set (its:List Value) (n j:Nat) (u:Value):Obj.mapSeq (·.setIfInBounds j u) { cls:=.type "list",data:=.seq its.toArray n }={ cls:=.type "list",data:=.seq (its.set j u).toArray n }:=by
 simp [Obj.mapSeq]
theorem Inv.lst {pins:List (Addr×Obj)} {σ:St} {H:Hp} {s:Shared} {p:Addr} {xs:List V} (I:Inv X pins σ H s) (h:H p=some (.lst xs)) :
  ∃ (its:List Value) (n:Nat),Vals xs its∧s.heap.get? p=some { cls:=.type "list",data:=.seq its.toArray n }∧xs.length≤sizeLine:=by
 obtain ⟨z,its,n,r,e⟩:=I.hok p _ h
 exact ⟨its,n,r,e,z⟩
theorem Inv.lstUpd {pins:List (Addr×Obj)} {σ:St} {H:Hp} {s:Shared} {p:Addr} {xs ys:List V} {its its':List Value} {n n':Nat} {f:Obj→Obj} (I:Inv X pins σ H s) (h:H p=some (.lst xs))
  (ho:s.heap.get? p=some { cls:=.type "list",data:=.seq its.toArray n }) (hf:f { cls:=.type "list",data:=.seq its.toArray n }={ cls:=.type "list",data:=.seq its'.toArray n' }) (r:Vals ys its') (hz:ys.length≤sizeLine) (t:Nat) :
  Inv X pins σ (upd H p (.lst ys)) { s with heap:=s.heap.update p f,toks:=t }:=by
 have e:(s.heap.update p f).get? p=some { cls:=.type "list",data:=.seq its'.toArray n' }:=by
  rw [Heap.get?_update_self f ho (by rw [hf] <;> rfl),hf]
 refine I.write (x:=p) (e:=p) (by rw [h]; trivial) (.inl rfl) (fun b u hb q=>(Heap.get?_update_other _ _ (Ne.symm hb)).trans q) ⟨_,e⟩ ?_
 exact ⟨hz,its',n',r,e⟩
noncomputable def rSetL:V→V→V→Hp→(Hp→Prop)→Prop:=fun o i v H Q=>∃ p xs k j,o=.ref p∧i=.int k∧H p=some (.lst xs)∧ixN xs.length k=some j∧Q (upd H p (.lst (xs.set j v)))
theorem set_list:PSet X rSetL:=by
 intro pins s σ H o i v ov iv u Q I ro ri rv h
 obtain ⟨p,xs,k,j,rfl,rfl,hp,hj,q⟩:=h
 cases ro
 obtain ⟨t,rfl⟩:=ri
 obtain ⟨its,n,r,ho,hz⟩:=I.lst hp
 obtain ⟨h1,h2,h3,h4⟩:=ixN_seq hj
 have hl:=r.length
 have hn:=line63
 have I':Inv X pins σ (upd H p (.lst (xs.set j v))) { s with heap:=s.heap.update p (Obj.mapSeq (·.setIfInBounds j u)) } :=
  I.lstUpd hp ho (mapSeq_set its n j u) (r.set rv j) (by rw [List.length_set]; exact hz) s.toks
 by_cases h0:0≤k
 ·have hk:k.toNat=j:=by
   rw [seqIndex_of h0 h4] at h1
   exact Option.some.inj h1
  exact PySem.W.ki_setAt ho h0 (by lia) (by rw [List.size_toArray,← hl]; exact h4) (by rw [hk]; exact ⟨_,I',q⟩)
 ·have hk:(k + (its.toArray.size:Int)).toNat=j:=by
   rw [seqIndex_neg (by lia) h3] at h1
   rw [List.size_toArray,← hl]
   exact Option.some.inj h1
  exact PySem.W.ki_setBack ho (by lia) (by rw [List.size_toArray,← hl]; exact h3) (by lia) (by rw [hk]; exact ⟨_,I',q⟩)
theorem slice_bounds (lo hi:Option Int) (n:Nat):(sliceBounds lo hi none n).1=((HT.sIx n 0 lo:Nat):Int)∧(sliceBounds lo hi none n).2.1=((HT.sIx n n hi:Nat):Int)∧(sliceBounds lo hi none n).2.2=1:=by
 refine ⟨?_,?_,rfl⟩
 ·cases lo with
  | none=>simp [sliceBounds,HT.sIx]
  | some i =>
   simp only [sliceBounds,HT.sIx,Option.getD_none,show (1:Int) > 0 by decide,if_true]
   by_cases h:i < 0
   ·simp only [h,if_true] <;> lia
   ·simp only [h,if_false] <;> lia
 ·cases hi with
  | none=>simp [sliceBounds,HT.sIx]
  | some i =>
   simp only [sliceBounds,HT.sIx,Option.getD_none,show (1:Int) > 0 by decide,if_true]
   by_cases h:i < 0
   ·simp only [h,if_true] <;> lia
   ·simp only [h,if_false] <;> lia
theorem slicePick_cut (its:List Value) (lo hi:Option Int):slicePick its.toArray lo hi none=((its.drop (HT.sIx its.length 0 lo)).take (HT.sIx its.length its.length hi - HT.sIx its.length 0 lo)).toArray:=by
 obtain ⟨h1,h2,h3⟩:=slice_bounds lo hi its.toArray.size
 unfold slicePick
 rw [h1,h2,h3]
 simp only [sliceRange_one,pick_run,List.size_toArray] <;> rfl
noncomputable def rSlL (K:PySem.W.Frag):V→Option Int→Option Int→Hp→VK→Prop:=fun x lo hi H Q=>∃ a xs,x=.ref a∧SqL K H a xs∧∀ p,H p=none→Q (.ref p) (upd H p (.lst (cutV xs lo hi)))
theorem sl_list:SlR X (rSlL X.K):=by
 intro pins s σ H x v vl vu lo hi sl Q I rx hs pl pu h
 obtain ⟨a,xs,rfl,hx,q⟩:=h
 cases rx
 obtain ⟨its,r,ht,hz⟩:=I.list hx
 have hlen:=r.length
 refine ⟨"list",_,slot_list_getitem.lookup,ht.isList.typeIs,?_⟩
 refine wpAny_getItem_list_slice ht.isList hs pl pu .none (by simp) ?_ (by rw [List.size_toArray] <;> lia)
 rw [slicePick_cut,← hlen]
 refine ⟨.ref s.heap.objs.size,_,I.laid (t':=s.toks) (o:=.lst (cutV xs lo hi)) (fun b ob q=>Heap.get?_push_of_some _ q) (Nat.le_refl _) ?_,rfl,q _ (I.hok.fresh (Nat.le_refl _))⟩
 exact ⟨Nat.le_trans (cutV_length xs lo hi) hz,_,0,(r.drop (HT.sIx xs.length 0 lo)).take (HT.sIx xs.length xs.length hi - HT.sIx xs.length 0 lo),Heap.get?_push_size _ rfl⟩
noncomputable def flatV:V→Bool
 | .non=>true
 | .bl _=>true
 | .int _=>true
 | .str _=>true
 | _=>false
noncomputable def eqV:V→V→Bool
 | .non,.non=>true
 | .bl a,.bl b=>a == b
 | .bl a,.int b=>(if a then 1 else 0) == b
 | .int a,.bl b=>a == (if b then 1 else 0)
 | .int a,.int b=>a == b
 | .str a,.str b=>a == b
 | _,_=>false
theorem eqAt_V {A:Around} {s:Shared} {y x:V} {u v:Value} (ry:RelV y u) (rx:RelV x v) (fy:flatV y=true) (fx:flatV x=true):SeqAt.EqAt A s u v (eqV y x):=by
 cases y with
 | non =>
  cases ry
  cases x with
  | non=>cases rx; exact SeqAt.EqAt.same _
  | bl b=>cases rx; exact SeqAt.EqAt.none_bool b
  | int b=>obtain ⟨t,rfl⟩:=rx; exact SeqAt.EqAt.none_int b t
  | str b=>obtain ⟨t,rfl⟩:=rx; exact SeqAt.EqAt.none_str b t
  | _=>exact absurd (show false=true from fx) Bool.false_ne_true
 | bl a =>
  cases ry
  cases x with
  | non=>cases rx; exact SeqAt.EqAt.bool_none a
  | bl b=>cases rx; exact SeqAt.EqAt.bool_bool a b
  | int b=>obtain ⟨t,rfl⟩:=rx; exact SeqAt.EqAt.bool_int a b t
  | str b=>obtain ⟨t,rfl⟩:=rx; exact SeqAt.EqAt.bool_str a b t
  | _=>exact absurd (show false=true from fx) Bool.false_ne_true
 | int a =>
  obtain ⟨t',rfl⟩:=ry
  cases x with
  | non=>cases rx; exact SeqAt.EqAt.int_none a t'
  | bl b=>cases rx; exact SeqAt.EqAt.int_bool a t' b
  | int b=>obtain ⟨t,rfl⟩:=rx; exact SeqAt.EqAt.int_int a t' b t
  | str b=>obtain ⟨t,rfl⟩:=rx; exact SeqAt.EqAt.int_str a t' b t
  | _=>exact absurd (show false=true from fx) Bool.false_ne_true
 | str a =>
  obtain ⟨t',rfl⟩:=ry
  cases x with
  | non=>cases rx; exact SeqAt.EqAt.str_none a t'
  | bl b=>cases rx; exact SeqAt.EqAt.str_bool a t' b
  | int b=>obtain ⟨t,rfl⟩:=rx; exact SeqAt.EqAt.str_int a t' b t
  | str b=>obtain ⟨t,rfl⟩:=rx; exact SeqAt.EqAt.str_str a t' b t
  | _=>exact absurd (show false=true from fx) Bool.false_ne_true
 | _=>exact absurd (show false=true from fy) Bool.false_ne_true
noncomputable def eqU (x:V) (u:Value):Bool:=match u with
 | .none=>eqV .non x
 | .bool b=>eqV (.bl b) x
 | .int i _=>eqV (.int i) x
 | .str z _=>eqV (.str z) x
 | _=>false
theorem eqU_of {x y:V} {u:Value} (r:RelV y u) (f:flatV y=true):eqU x u=eqV y x:=by
 cases y with
 | non=>cases r; rfl
 | bl b=>cases r; rfl
 | int i=>obtain ⟨t,rfl⟩:=r; rfl
 | str z=>obtain ⟨t,rfl⟩:=r; rfl
 | _=>exact absurd (show false=true from f) Bool.false_ne_true
theorem any_eqU {x:V}:∀ {xs:List V} {us:List Value},Vals xs us→xs.all flatV=true→us.any (eqU x)=xs.any fun y=>eqV y x
 | _,_,.nil,_=>rfl
 | y :: xs,u :: us,.cons r t,f=>by
  rw [List.all_cons,Bool.and_eq_true] at f
  rw [List.any_cons,List.any_cons,eqU_of r f.1,any_eqU t f.2]
theorem mem_eqAt {A:Around} {s:Shared} {x:V} {v:Value} (rx:RelV x v) (fx:flatV x=true):∀ {xs:List V} {us:List Value},Vals xs us→xs.all flatV=true→∀ u∈us,SeqAt.EqAt A s u v (eqU x u)
 | _,_,.nil,_=>fun u hu=>by cases hu
 | y :: xs,u :: us,.cons r t,f=>fun u' hu=>by
  rw [List.all_cons,Bool.and_eq_true] at f
  rcases List.mem_cons.mp hu with rfl | hu
  ·rw [eqU_of r f.1]; exact eqAt_V r rx f.1 fx
  ·exact mem_eqAt rx fx t f.2 u' hu
noncomputable def inV (x:V) (xs:List V):Bool:=xs.any fun y=>eqV y x
noncomputable def rIn (K:PySem.W.Frag) (neg:Bool):R2:=fun x y H Q=>∃ p xs,y=.ref p∧(SqL K H p xs∨SqT K H p xs)∧flatV x=true∧xs.all flatV=true∧Q (.bl (if neg then !inV x xs else inV x xs)) H
theorem op_in_seq:OpR X (compareOp .In) (rIn X.K false):=by
 intro pins s σ H x y v u Q I rx ry h
 obtain ⟨p,xs,rfl,hq,fx,fs,q⟩:=h
 cases ry
 rcases hq with hq | hq
 ·obtain ⟨its,r,pl,hz⟩:=I.list hq
  refine SeqAt.in_listAt (eqU x) pl.isList (fun w hw=>mem_eqAt rx fx r fs w (by simpa using hw)) ⟨.bl _,H,I,rfl,?_⟩
  rw [show its.toArray.any (eqU x)=its.any (eqU x) by simp,any_eqU r fs]
  exact q
 ·obtain ⟨its,r,pl,hz⟩:=I.tuple hq
  refine SeqAt.in_tupleAt (eqU x) pl (fun w hw=>mem_eqAt rx fx r fs w (by simpa using hw)) ⟨.bl _,H,I,rfl,?_⟩
  rw [show its.toArray.any (eqU x)=its.any (eqU x) by simp,any_eqU r fs]
  exact q
theorem call_len_seq:CallR X (.builtin "len") (fun xs H Q=>∃ p ys,xs=[.ref p]∧(SqL X.K H p ys∨SqT X.K H p ys)∧Q (.int ys.length) H):=by
 intro pins s σ H xs us Q I r h
 obtain ⟨p,ys,rfl,hq,q⟩:=h
 obtain ⟨u,rfl,rx⟩:=vals1 r
 cases rx
 have hn:=line63
 rcases hq with hq | hq
 ·obtain ⟨its,r',pl,hz⟩:=I.list hq
  have hlen:=r'.length
  exact Calls.call_len_list pl.isList (by simp only [List.size_toArray] <;> lia) ⟨.int ys.length,H,I.tok _,⟨s.toks + 1,by rw [List.size_toArray,hlen]⟩,q⟩
 ·obtain ⟨its,r',pl,hz⟩:=I.tuple hq
  have hlen:=r'.length
  exact len_tuple pl (by simp only [List.size_toArray] <;> lia) ⟨.int ys.length,H,I.tok _,⟨s.toks + 1,by rw [List.size_toArray,hlen]⟩,q⟩
theorem call_tuple_of:CallR X (.type "tuple") (fun xs H Q=>∃ p ys,xs=[.ref p]∧((SqL X.K H p ys∧∀ l,H l=none→Q (.ref l) (upd H l (.tup ys)))∨(SqT X.K H p ys∧Q (.ref p) H))):=by
 intro pins s σ H xs us Q I r h
 obtain ⟨p,ys,rfl,h⟩:=h
 obtain ⟨u,rfl,rx⟩:=vals1 r
 cases rx
 rcases h with ⟨hq,q⟩ | ⟨hq,q⟩
 ·obtain ⟨its,r',pl,hz⟩:=I.list hq
  have hlen:=r'.length
  refine call_tuple_list pl.isList (fun h' kp=>?_) (by simp only [List.size_toArray] <;> lia)
  have I1:Inv X pins σ H { s with heap:=h' }:=I.kept (t':=s.toks) kp
  have I2:Inv X pins σ (upd H h'.objs.size (.tup ys)) { s with heap:=h'.push { cls:=.type "tuple",data:=.seq its.toArray } } :=
   I1.laid (t':=s.toks) (fun b o e=>Heap.get?_push_of_some _ e) (Nat.le_refl _) (show ObjOk X.prog X.w _ _ _ (.tup ys) from ⟨hz,its,r',IsTup.new _ _⟩)
  exact ⟨.ref h'.objs.size,_,I2,rfl,q _ (I1.hok.fresh (Nat.le_refl _))⟩
 ·obtain ⟨its,r',pl,hz⟩:=I.tuple hq
  exact call_tuple_same pl ⟨.ref p,H,I,rfl,q⟩
noncomputable def tyV (K:PySem.W.Frag) (T:String) (x:V) (H:Hp):Prop:=match x with
 | .str _=>T="str"
 | .int _=>T="int"
 | .ref p=>(T="list"∧∃ xs,SqL K H p xs)∨(T="tuple"∧∃ o,K.lookup p=some o∧o.cls=.type "tuple"∧o.dict=none) ∨
   (T="dict"∧((∃ kvs,H p=some (.dK kvs))∨∃ kvs,H p=some (.dT kvs)))∨(T="set"∧∃ S n,H p=some (.set S n))
 | _=>False
theorem tyV_is {pins:List (Addr×Obj)} {σ:St} {H:Hp} {s:Shared} {T:String} {x:V} {v:Value} (I:Inv X pins σ H s) (r:RelV x v) (ty:tyV X.K T x H) :
  s.TypeIs v T∧∀ a,v=.ref a→∃ ob,s.heap.get? a=some ob∧ob.dict=none:=by
 cases x with
 | str z =>
  obtain ⟨t,rfl⟩:=r
  cases (show T="str" from ty)
  exact ⟨typeIs_str s z t,fun _ e=>nomatch e⟩
 | int i =>
  obtain ⟨t,rfl⟩:=r
  cases (show T="int" from ty)
  exact ⟨typeIs_int s i t,fun _ e=>nomatch e⟩
 | ref p =>
  cases r
  rcases ty with ⟨rfl,xs,hq⟩ | ⟨rfl,o,hk,hc,hd⟩ | ⟨rfl,hk⟩ | ⟨rfl,S,n,hk⟩
  ·obtain ⟨its,_,pl,_⟩:=I.list hq
   refine ⟨pl.isList.typeIs,fun a e=>?_⟩
   cases e
   obtain ⟨o,n,e,c,hd,_⟩:=pl
   exact ⟨o,e,hd⟩
  ·refine ⟨⟨o,I.kIn p o hk,hc⟩,fun a e=>?_⟩
   cases e
   exact ⟨o,I.kIn _ o hk,hd⟩
  ·have z:∃ o,s.heap.get? p=some o∧o.ExactDict:=by
    rcases hk with ⟨kvs,hk⟩ | ⟨kvs,hk⟩
    ·obtain ⟨_,_,_,_,o,_,_,e,ex,_⟩:=I.hok p _ hk
     exact ⟨o,e,ex⟩
    ·obtain ⟨_,_,_,_,o,_,_,e,ex,_⟩:=I.hok p _ hk
     exact ⟨o,e,ex⟩
   obtain ⟨o,e,ex⟩:=z
   refine ⟨⟨o,e,ex.1⟩,fun a e2=>?_⟩
   cases e2
   exact ⟨o,e,ex.2.1⟩
  ·obtain ⟨o,_,_,_,e,ex,_⟩:=I.hok p _ hk
   refine ⟨⟨o,e,ex.1⟩,fun a e2=>?_⟩
   cases e2
   exact ⟨o,e,ex.2.1⟩
 | _=>exact False.elim ty
noncomputable def tBM0 (K:PySem.W.Frag) (T:String) (r:V→List V→Hp→VK→Prop) (to:TE):TE:=fun σ H Q=>to σ H fun x H1=>tyV K T x H1∧r x [] H1 Q
noncomputable def tBM (K:PySem.W.Frag) (T:String) (r:V→List V→Hp→VK→Prop) (to:TE) (t:TA):TE:=fun σ H Q=>to σ H fun x H1=>tyV K T x H1∧t σ H1 fun xs H2=>r x xs H2 Q
variable {o e:Expr} {es:List Expr} {to:TE} {t:TA} {name:Str} {apos cpos:Pos} {T id:String} {r:V→List V→Hp→VK→Prop}
theorem pe_bm0 (pa:PlainAttrs T) (slot:Slot T name id) (hty:typeOf (.builtin id)=pure (.type "method_descriptor")) (hm:MtR X id r) (ho:PE X o to)
  (hbase:attributeBase o name X.env (eval o X.env)=eval o X.env:=by rfl) (hline:(apos.endLine == cpos.line)=true:=by rfl):PE X (.Call (.Attribute o name apos) [] [] cpos) (tBM0 X.K T r to):=by
 intro pins s σ H Q I h
 refine wpAny_Call_method0_late hbase hline (thn (ho pins s σ H _ I h) fun v s1 ⟨x,H1,I1,r1,ty,q1⟩=>?_)
 obtain ⟨h1,h2⟩:=tyV_is I1 r1 ty
 exact ⟨T,id,pa,slot,hty,h1,h2,Calls.callWith_builtin rfl (PySem.evalArgs_none (hm pins s1 σ H1 x [] v [] Q I1 r1 .nil q1))⟩
theorem pe_bm (pa:PlainAttrs T) (slot:Slot T name id) (hty:typeOf (.builtin id)=pure (.type "method_descriptor")) (hm:MtR X id r) (ho:PE X o to) (ha:PA X (e :: es) t)
  (hbase:attributeBase o name X.env (eval o X.env)=eval o X.env:=by rfl)
  (hfew:((backTo cpos (starEach (e :: es) X.env)).all (fun x=>!x.1) && (backToKw cpos (keywordEach [] X.env)).all (fun x=>x.1.isSome)
   && decide ((e :: es).length + ([]:List Keyword).length + (if ([]:List Keyword).isEmpty then 0 else 1) < 30))=true:=by rfl)
  (hline:(apos.endLine == cpos.line)=true:=by rfl) (hs:starEach (e :: es) X.env=(false,eval e X.env) :: starEach es X.env:=by rfl) (hplain:(backTo cpos (starEach es X.env)).any (·.1)=false:=by rfl) :
  PE X (.Call (.Attribute o name apos) (e :: es) [] cpos) (tBM X.K T r to t):=by
 intro pins s σ H Q I h
 refine wpAny_Call_method_late hbase hfew hline rfl (thn (ho pins s σ H _ I h) fun v s1 ⟨x,H1,I1,r1,ty,q1⟩=>?_)
 obtain ⟨h1,h2⟩:=tyV_is I1 r1 ty
 refine ⟨T,id,pa,slot,hty,h1,h2,?_⟩
 have hA:=ha cpos pins s1 σ H1 _ I1 q1
 rw [hs] at hA ⊢
 refine Calls.callWith_builtin (by show (false || (backTo cpos (starEach es X.env)).any (·.1))=false; rw [hplain] <;> rfl) (Calls.evalArgs_plain ?_)
 exact thn hA fun us s2 ⟨vs,H2,I2,r2,q2⟩=>hm pins s2 σ H2 x vs v us Q I2 r1 r2 q2
end
end L2
namespace L2
open PySem PySem.Spec PyProof.Rows
noncomputable def MtM (X:Cx) (id:String) (r:V→List V→Hp→VK→Prop):Prop :=
 ∀ (pins:List (Addr×Obj)) (s:Shared) (σ:St) (H:Hp) (x:V) (xs:List V) (v:Value) (us:List Value) (Q:VK),Inv X pins σ H s→RelV x v→Vals xs us→r x xs H Q →
  wpAny (model X.prog X.w) X.A (call (.builtin id) (v :: us)) (EP X pins σ Q) X.xe s
theorem Vals.one:∀ {x:V} {us:List Value},Vals [x] us→∃ u,us=[u]∧RelV x u
 | _,_,.cons r .nil=>⟨_,rfl,r⟩
theorem Vals.zero:∀ {us:List Value},Vals [] us→us=[]
 | _,.nil=>rfl
theorem Vals.dropLast {xs:List V} {us:List Value} (h:Vals xs us):Vals xs.dropLast us.dropLast:=by
 induction h with
 | nil=>exact .nil
 | cons r t ih =>
  cases t with
  | nil=>exact .nil
  | cons q t'=>exact .cons r ih
theorem Vals.reverse {xs:List V} {us:List Value} (h:Vals xs us):Vals xs.reverse us.reverse:=by
 induction h with
 | nil=>exact .nil
 | cons r t ih=>rw [List.reverse_cons,List.reverse_cons]; exact Vals.append ih (.cons r .nil)
theorem erase_last {α:Type} (l:List α):l.eraseIdx (l.length - 1)=l.dropLast:=by
 induction l with
 | nil=>rfl
 | cons a r ih =>
  cases r with
  | nil=>rfl
  | cons b r =>
   have e:(a :: b :: r).length - 1=((b :: r).length - 1) + 1:=by
    have h1:(a :: b :: r).length=r.length + 2:=rfl
    have h2:(b :: r).length=r.length + 1:=rfl
    lia
   rw [e,List.eraseIdx_cons_succ,ih]
   all_goals rfl
section
variable {X:Cx} {pins:List (Addr×Obj)} {σ:St} {H:Hp} {s:Shared} {l b:Addr} {xs ys zs:List V}
theorem Inv.lset {its its':List Value} {n:Nat} {f:Array Value→Array Value} {t':Nat} (I:Inv X pins σ H s) (hH:H l=some (.lst xs))
  (e:s.heap.get? l=some { cls:=.type "list",data:=.seq its.toArray n }) (hf:f its.toArray=its'.toArray) (hv:Vals ys its') (hz:ys.length≤sizeLine) :
  Inv X pins σ (upd H l (.lst ys)) { s with heap:=s.heap.update l (Obj.mapSeq f),toks:=t' }:=by
 have q:=PySem.IsL.update e f
 rw [hf] at q
 refine I.write (x:=l) (e:=l) (by rw [hH]; exact trivial) (.inl rfl) (fun b' u hb hu=>(Heap.get?_update_other s.heap (Obj.mapSeq f) (Ne.symm hb)).trans hu) ⟨_,q⟩ ?_
 exact ⟨hz,its',_,hv,q⟩
theorem Inv.lnew {its:List Value} {t':Nat} (I:Inv X pins σ H s) (hv:Vals ys its) (hz:ys.length≤sizeLine) :
  Inv X pins σ (upd H s.heap.objs.size (.lst ys)) { s with heap:=s.heap.push { cls:=.type "list",data:=.seq its.toArray },toks:=t' } :=
 I.laid (fun _ _ q=>Heap.get?_push_of_some _ q) (Nat.le_refl _) ⟨hz,its,0,hv,Heap.get?_push_size _ rfl⟩
theorem Inv.fresh (I:Inv X pins σ H s):H s.heap.objs.size=none:=I.hok.fresh (Nat.le_refl _)
theorem Inv.lstM (I:Inv X pins σ H s) (hH:H l=some (.lst xs)):xs.length≤sizeLine∧∃ (its:List Value) (n:Nat),Vals xs its∧xs.length=its.length∧s.heap.get? l=some { cls:=.type "list",data:=.seq its.toArray n }:=by
 obtain ⟨z,its,n,r,e⟩:=I.hok l _ hH
 exact ⟨z,its,n,r,r.length,e⟩
theorem notLongL {n:Nat} (h:n≤sizeLine):Builtin.List.listTooLong n=false:=by
 unfold Builtin.List.listTooLong
 exact decide_eq_false (by lia)
end
section
variable {X:Cx}
noncomputable def rAppend:V→List V→Hp→VK→Prop:=fun x vs H Q=>∃ l xs y,x=.ref l∧vs=[y]∧H l=some (.lst xs)∧xs.length < sizeLine∧Q .non (upd H l (.lst (xs++[y])))
theorem mt_append:MtM X "list.append" rAppend:=by
 intro pins s σ H x vs v us Q I rx rv h
 obtain ⟨l,xs,y,rfl,rfl,hH,hz,q⟩:=h
 cases rx
 obtain ⟨u,rfl,ru⟩:=rv.one
 obtain ⟨z,its,n,r,hl,e⟩:=I.lstM hH
 refine call_meets F.slot_list_append ⟨_,e,rfl⟩ F.entry_list_append (F.args_list_append_2 _ _) (PySem.list_append l its.toArray n u (by rw [List.size_toArray]; lia)) ⟨e,?_⟩
 refine ⟨.non,_,I.lset (its':=its++[u]) hH e (by simp) (r.append (.cons ru .nil)) ?_,rfl,q⟩
 rw [List.length_append,List.length_singleton]
 lia
noncomputable def rExtend:V→List V→Hp→VK→Prop:=fun x vs H Q=>∃ l b xs zs,x=.ref l∧vs=[.ref b]∧H l=some (.lst xs)∧H b=some (.lst zs)∧xs.length + zs.length≤sizeLine∧Q .non (upd H l (.lst (xs++zs)))
theorem mt_extend:MtM X "list.extend" rExtend:=by
 intro pins s σ H x vs v us Q I rx rv h
 obtain ⟨l,b,xs,zs,rfl,rfl,hH,hB,hz,q⟩:=h
 cases rx
 obtain ⟨u,rfl,ru⟩:=rv.one
 cases ru
 obtain ⟨z,its,n,r,hl,e⟩:=I.lstM hH
 obtain ⟨z2,its2,n2,r2,hl2,e2⟩:=I.lstM hB
 have hsz:its.toArray.size + its2.toArray.size≤sizeLine:=by rw [List.size_toArray,List.size_toArray]; lia
 have hlong:¬ (!its.toArray.isEmpty && Builtin.List.listTooLong (its.toArray.size + its2.toArray.size))=true:=by
  rw [notLongL hsz,Bool.and_false]
  exact Bool.false_ne_true
 refine call_meets F.slot_list_extend ⟨_,e,rfl⟩ F.entry_list_extend (F.args_list_extend_2 _ _)
  (AutoSeq1.list_extend_list_list_0 l its.toArray n b its2.toArray n2 hlong (by rw [List.size_toArray]; lia) (by lia)) ⟨e,e2,?_⟩
 refine ⟨.non,_,I.lset (its':=its++its2) hH e (by simp) (r.append r2) ?_,rfl,q⟩
 rw [List.length_append]
 lia
noncomputable def rPop:V→List V→Hp→VK→Prop:=fun x vs H Q=>∃ l xs y,x=.ref l∧vs=[]∧H l=some (.lst xs)∧xs[xs.length - 1]?=some y∧Q y (upd H l (.lst xs.dropLast))
theorem mt_pop:MtM X "list.pop" rPop:=by
 intro pins s σ H x vs v us Q I rx rv h
 obtain ⟨l,xs,y,rfl,rfl,hH,hy,q⟩:=h
 cases rx
 have hus:=rv.zero
 subst hus
 obtain ⟨z,its,n,r,hl,e⟩:=I.lstM hH
 obtain ⟨u,hu,ru⟩:=r.get hy
 have hy':its.toArray[its.toArray.size - 1]?=some u:=by
  show its.toArray[its.length - 1]?=some u
  rw [← Array.getElem?_toList,← hl]
  exact hu
 refine call_meets F.slot_list_pop ⟨_,e,rfl⟩ F.entry_list_pop (F.args_list_pop_1 _) (MeetsSeq.list_pop_last l its.toArray n u hy' (by rw [List.size_toArray]; lia)) ⟨e,?_⟩
 refine ⟨y,_,I.lset (its':=its.dropLast) hH e ?_ r.dropLast ?_,ru,q⟩
 ·show its.toArray.eraseIdxIfInBounds (its.toArray.size - 1)=its.dropLast.toArray
  rw [List.size_toArray,List.eraseIdxIfInBounds_toArray,erase_last]
 ·rw [List.length_dropLast]
  lia
noncomputable def rCat:R2:=fun x y H Q=>∃ l b xs zs,x=.ref l∧y=.ref b∧H l=some (.lst xs)∧H b=some (.lst zs)∧xs.length + zs.length≤sizeLine∧∀ p,H p=none→Q (.ref p) (upd H p (.lst (xs++zs)))
theorem op_cat:OpR X (binaryOp .Add) rCat:=by
 intro pins s σ H x y v u Q I rx ry h
 obtain ⟨l,b,xs,zs,rfl,rfl,hH,hB,hz,q⟩:=h
 cases rx
 cases ry
 obtain ⟨z,its,n,r,hl,e⟩:=I.lstM hH
 obtain ⟨z2,its2,n2,r2,hl2,e2⟩:=I.lstM hB
 refine PySem.P.add_list e e2 ?_ (by rw [List.size_toArray,List.size_toArray]; lia)
 have ea:its.toArray++its2.toArray=(its++its2).toArray:=by simp
 rw [ea]
 exact ⟨.ref _,_,I.lnew (t':=s.toks) (r.append r2) (by rw [List.length_append]; lia),rfl,q _ I.fresh⟩
end
section
variable {prog:Program} {w:World} {A:Around} {E:Value→Shared→Prop} {s:Shared}
set_option maxRecDepth 100000 in
end
section
variable {X:Cx}
end
end L2
namespace Att
open PySem PySem.W PySem.Calls PyProof.Rows
theorem ints_of_wellAll {P:Params} {h:Heap}:∀ (ns:List Int) (vs:List Value),WellAll P h vs (ns.map WData.int)→IntsAre vs ns:=by
 intro ns
 induction ns with
 | nil =>
  intro vs w
  rw [List.map_nil] at w
  cases w
  exact .nil
 | cons n ns ih =>
  intro vs w
  rw [List.map_cons] at w
  cases w with
  | cons a b =>
   cases a
   exact .cons _ _ (ih _ b)
theorem script_of {l:OpenLaw} {n:Nat} (hn:l.most=some n) {P:Params} {h:Heap} {args:List WData} {vals:List Value}
    (hpre:l.row.toRowW.claim.pre args=true) (hwl:WellAll P h vals args) :
    ∃ a vs ns,vals=[Value.ref a]∧args=[WData.list (ns.map WData.int)]∧h.get? a=some { cls:=.type "list",data:=.seq vs.toArray }∧IntsAre vs ns∧ns.length≤n:=by
  have hsh:WShape.hasAll [] args [.list .int]=true:=(pre_splitW hpre).1
  have hc:l.pre.holds [] { args:=args }=true:=(pre_splitW hpre).2
  obtain ⟨d,r,rfl,h1,h2⟩:=hasAllW_cons hsh
  obtain rfl:=hasAllW_nil h2
  obtain ⟨xs,rfl,h3⟩:=hasW_list h1
  obtain ⟨ns,rfl⟩:=items_int h3
  have hlen:ns.length≤n:=by
    unfold OpenLaw.pre at hc
    have h4:(WTm.not (.lt (.lit (.int (n:Int))) (.len (.arg 0)))).holds [] { args:=[.list (ns.map .int)] }=true:=by
      have h4:=(holds_andW hc).1
      rw [hn] at h4
      exact h4
    have h5:=condW_of h4 (w_not (w_lt w_lit (w_len_list (w_arg rfl))))
    rw [List.length_map] at h5
    refine Nat.le_of_not_lt fun q=>?_
    have q':(n:Int) < ((ns.length:Nat):Int):=by lia
    first
      | (rw [decide_eq_true q'] at h5; exact absurd h5 (by decide))
      | (simp at h5; lia)
  cases hwl with
  | cons w1 w2 =>
    cases w2
    cases w1 with
    | list ho hall=>exact ⟨_,_,ns,rfl,rfl,ho,ints_of_wellAll ns _ hall,hlen⟩
theorem post_true (l:OpenLaw) (args:List WData):l.row.toRowW.claim.post args (.bool true) args=true :=
 postW_of (r:=l.row.toRowW) (X:=(true == true))
  (show WShape.has [] (.bool true) .bool=true by first | rfl | decide | simp [WShape.has,WShape.arms,WShape.armsAll])
  (show (WTm.eq .res (.lit (.bool true))).value [] { args:=args,res:=some (.bool true),after:=args }=some (.bool (true == true)) from w_eq_bool (w_res rfl) w_lit) rfl
theorem attach_call {l:OpenLaw} {n:Nat} {q:Program} {loose:List Str} {XP:(Str→Option Value)→Heap→Prop} {YP:World→Heap→Prop} {d:DefRec}
  (hn:l.most=some n) (hdf:d.params.defaults=[])
  (call:∀ (w:World) (s₀ s₁:Shared) (mg mb:Str→Option Value) (fa:Addr) (o:Obj) (pm cd doc:Value) (a:Addr) (vs:List Value) (ns:List Int),
   Ground q loose [] XP w s₀ mg mb s₁.heap→YP w s₁.heap →
   s₁.heap.get? fa=some o→o.data=.func (docDef d.name d.params d.body d.scope pm cd doc)→s₁.heap.CodeRec cd d.name→mg d.name=some (.ref fa) →
   s₁.heap.get? a=some { cls:=.type "list",data:=.seq vs.toArray }→IntsAre vs ns→ns.length≤n→s₁.gens=#[] →
   codeAny (model l.prog w) callerA (.call (.ref fa) ⟨[.ref a],[]⟩) (fun r s'=>r=.ok (.ret (.bool true))∧OldK s₁.heap s'.heap∧s'.os=s₁.os∧AllBare s'.gens) s₁) :
  WalkO q loose XP YP l.row.toRowW d [] (fun f vs=>PySem.call f vs):=by
 intro w s₀ s₁ mg mb G Y fa o pm cd doc dV kV ho hd hcd hD hmg hg args vals as hpre hlay hrd hwl hlo
 obtain rfl:dV=.none:=Dflts.none hD hdf
 obtain rfl:kV=.none:=Dflts.noKw hD
 obtain ⟨a,vs,ns,rfl,rfl,hobj,hints,hlen⟩:=script_of hn hpre hwl
 refine enter_call (codeAny_mono (call w s₀ s₁ mg mb fa o pm cd doc a vs ns G Y ho (fd_plain hd) hcd hmg hobj hints hlen hg) fun r s' hq=>?_)
 obtain ⟨rfl,h2,h3,h4⟩:=hq
 exact ⟨.inl ⟨.bool true,.bool true,[],rfl,fun _=>rfl,.bool true,post_true l _,fun _=>⟨List.Pairwise.nil,fun _ hm=>(nomatch hm)⟩⟩,h2,h3,h4⟩
section
variable {prog:Program} {w:World} {A:Around} {E:Value→Shared→Prop} {s:Shared} {K:Frag}
end
end Att
namespace L2
open PySem PySem.Spec PyProof.Rows
theorem vals_ints:∀ {vs:List Value} {ns:List Int},IntsAre vs ns→Vals (ns.map V.int) vs
 | _,_,.nil=>.nil
 | _,_,.cons n t h=>.cons ⟨t,rfl⟩ (vals_ints h)
noncomputable def Only (H:Hp):Prop:=∀ b,H b=none∨∃ o xs,H b=some (.frz o (.lst xs))
theorem law_call {P:Program} {w:World} {K:PySem.W.Frag} {mg mb:Str→Option Value} {CX:CXT} {k:Nat} {fa a:Addr} {fd:FuncData} {x:Str} {sp:Sp} {s₁:Shared} {vs:List Value} {ns:List Int}
  (KX:K.In s₁.heap) (hns:s₁.heap.Ns mainGlobals mg) (hb:s₁.heap.Ns builtinsNs mb) (hbb:∀ x:Str,x≠"__name__"→mb x=bootBuiltins x) (hlim:s₁.heap.NoLimit) (hg:s₁.gens=#[])
  (ha:s₁.heap.get? a=some { cls:=.type "list",data:=.seq vs.toArray }) (hi:IntsAre vs ns) (hl:ns.length≤sizeLine) (hr:Room k callerA)
  (F:∀ base:Heap,K.In base→base.Ns mainGlobals mg→FnOk P w K mg base CX k fa fd [x] sp) (hbind:∀ (s:Shared) (u:Value),BindsTo s fd ⟨[u],[]⟩ [(x,u)])
  (hsp:∀ H:Hp,Only H→SqL K H a (ns.map V.int)→sp [.ref a] H (fun v _=>v=.bl true) fun _ _ _=>False)
  (hCX:∀ H e s',CX [] H s₁ (fun _ _ _=>False) e s'→False) :
  codeAny (model P w) callerA (.call (.ref fa) ⟨[.ref a],[]⟩) (fun r s'=>r=.ok (.ret (.bool true))∧OldK s₁.heap s'.heap∧s'.os=s₁.os∧AllBare s'.gens) s₁:=by
 have rv:=vals_ints hi
 have lenV:=hi.length
 have core:∀ H:Hp,Only H→SqL K H a (ns.map V.int)→HOk P w H s₁.heap→(∀ b,H b≠none→b=a)→(H a≠none→K.lookup a=none) →
   codeAny (model P w) callerA (.call (.ref fa) ⟨[.ref a],[]⟩) (fun r s'=>r=.ok (.ret (.bool true))∧OldK s₁.heap s'.heap∧s'.os=s₁.os∧AllBare s'.gens) s₁:=by
  intro H hO hS hok hA hK
  have base_of:∀ {b:Addr} {o:Obj},s₁.heap.get? b=some o→H b=none→(hidT s₁.heap H).get? b=some o:=fun e n=>hidT_get e n
  have noA:∀ {b:Addr} {o:Obj} {es:Array DictEntry} {ep:Nat},s₁.heap.get? b=some o→o.data=.dict es ep→H b=none:=fun {b o es ep} e d=>by
   cases q:H b with
   | none=>rfl
   | some u =>
    have e':b=a:=hA b (by rw [q]; simp)
    subst e'
    rw [ha] at e; cases e
    have d':Data.seq vs.toArray _=Data.dict es ep:=d
    cases d'
  have nsK:∀ {b:Addr} {m:Str→Option Value},s₁.heap.Ns b m→(hidT s₁.heap H).Ns b m:=fun {b m} ⟨o,es,ep,e,d,r⟩=>⟨o,es,ep,base_of e (noA e d),d,r⟩
  have hKb:K.In (hidT s₁.heap H):=fun b o e=>base_of (KX b o e) (by
   cases q:H b with
   | none=>rfl
   | some u =>
    have e':b=a:=hA b (by rw [q]; simp)
    subst e'
    rw [hK (by rw [q]; simp)] at e; cases e)
  have hM:Mod K mg (hidT s₁.heap H):=⟨hKb,nsK hns,⟨mb,nsK hb,hbb⟩,let ⟨mc,h1,h2⟩:=hlim; ⟨mc,nsK h1,h2⟩⟩
  have e0:Env0 P w K mg (hidT s₁.heap H) callerA [] s₁ H:=⟨rfl,hM,fun b o e=>of_hidT e,Nat.le_of_eq (hidT_size _ _),trivial,fun b hb=>absurd (show b∈([]:List Addr) from hb) (by simp),hok,.of_eq hg⟩
  refine codeAny_mono ((F _ hKb (nsK hns)).run callerA [] s₁ H ⟨[.ref a],[]⟩ [.ref a] [.ref a] _ _ hr e0 (hbind s₁ (.ref a)) (.cons rfl .nil) (hsp H hO hS)) fun r s' h=>?_
  cases r with
  | error e=>exact (hCX H e s' h).elim
  | ok fl =>
   cases fl with
   | next=>exact False.elim h
   | brk=>exact False.elim h
   | cont=>exact False.elim h
   | ret u =>
    obtain ⟨v,H',os,bare,un,hok',r',q⟩:=h
    have q':v=.bl true:=q
    subst q'
    obtain rfl:u=Value.bool true:=r'
    refine ⟨rfl,OldK.of_keep fun b o e=>?_,os,bare⟩
    cases q:H b with
    | none=>exact un.keep b o e q (by intro z; exact absurd (show b∈([]:List Addr) from z) (by simp)) (by simp)
    | some u =>
     rcases hO b with z | ⟨ob,xs,z⟩
     ·rw [q] at z; cases z
     ·have z2:=un.frzs b ob _ z
      obtain ⟨e1,_⟩:=hok b _ z
      obtain ⟨e2,_⟩:=hok' b _ z2
      rw [e] at e1; cases e1
      exact e2
 cases hk:K.lookup a with
 | some o =>
  have e:=KX a o hk
  rw [ha] at e
  cases e
  refine core (fun _=>none) (fun _=>.inl rfl) (.inr ⟨_,vs.toArray,_,hk,rfl,rfl,rfl,by rw [List.size_toArray,lenV]; exact hl,by simpa using rv⟩) (fun b u z=>by have z':(none:Option HO)=some u:=z; cases z') (fun b z=>absurd rfl z) fun z=>absurd rfl z
 | none =>
  refine core (fun b=>if b=a then some (.frz { cls:=.type "list",data:=.seq vs.toArray } (.lst (ns.map V.int))) else none) (fun b=>?_) (.inl (.inr ⟨{ cls:=.type "list",data:=.seq vs.toArray },if_pos rfl⟩)) (fun b u z=>?_) (fun b z=>?_) fun _=>hk
  ·by_cases hb:b=a
   ·exact .inr ⟨_,_,if_pos hb⟩
   ·exact .inl (if_neg hb)
  ·by_cases hb:b=a
   ·have z':=(if_pos hb).symm.trans z
    cases z'
    subst hb
    exact ⟨ha,by rw [List.length_map]; exact hl,vs,_,rv,ha⟩
   ·have z':=(if_neg hb).symm.trans z
    cases z'
  ·by_cases hb:b=a
   ·exact hb
   ·exact absurd (if_neg hb) z
end L2
namespace L2
open PySem PySem.Spec PyProof.Rows
theorem walk_of {l:PySem.W.OpenLaw} {n k:Nat} {q:Program} {loose:List Str} {XP:(Str→Option Value)→Heap→Prop} {YP:World→Heap→Prop} {d:DefRec} {K:Params→PySem.W.Frag} {CX:World→CXT} {sp:World→Sp} {x:Str}
  (hn:l.most=some n) (hn2:n≤sizeLine) (hdf:d.params.defaults=[]) (hr:Room k callerA)
  (hY:∀ (w:World) (h:Heap),YP w h→(K w.params).In h)
  (F:∀ (w:World) (mg:Str→Option Value) (fa:Addr) (h:Heap),(K w.params).In h→h.Ns mainGlobals mg→mg d.name=some (.ref fa) →
   ∃ fd:FuncData,(∀ (s:Shared) (u:Value),BindsTo s fd ⟨[u],[]⟩ [(x,u)]) ∧
    ∀ base:Heap,(K w.params).In base→base.Ns mainGlobals mg→FnOk l.prog w (K w.params) mg base (CX w) k fa fd [x] (sp w))
  (hsp:∀ (w:World) (H:Hp) (a:Addr) (ns:List Int),ns.length≤n→Only H→SqL (K w.params) H a (ns.map V.int)→sp w [.ref a] H (fun v _=>v=.bl true) fun _ _ _=>False)
  (hCX:∀ (w:World) (H:Hp) (s:Shared) (e:Value) (s':Shared),CX w [] H s (fun _ _ _=>False) e s'→False) :
  PySem.W.WalkO q loose XP YP l.row.toRowW d [] (fun f vs=>PySem.call f vs):=by
 refine Att.attach_call hn hdf fun w s₀ s₁ mg mb fa o pm cd doc a vs ns G Y ho hd hcd hmg hobj hints hlen hg=>?_
 have KX:=hY w _ Y
 obtain ⟨fd,hb,hF⟩:=F w mg fa _ KX G.T.g hmg
 exact law_call KX G.T.g G.T.b G.T.builtins G.T.nolimit hg hobj hints (Nat.le_trans hlen hn2) hr hF hb (fun H hO hS=>hsp w H a ns hlen hO hS) fun H e s'=>hCX w H s₁ e s'
end L2
namespace L2
open PySem PySem.Spec PyProof.Rows
noncomputable def inClass (s:Stmt) (j:Nat):Stmt:=match s with
 | .ClassDef _ _ _ body _ _ _ _ _ _ _=>body.getD j (.Pass ⟨0,0,0,0⟩)
 | _=>.Pass ⟨0,0,0,0⟩
noncomputable def defArgs (s:Stmt):Arguments:=match s with
 | .FunctionDef _ a _ _ _ _ _ _ _ _=>a
 | _=>{ posonlyargs:=[],args:=[],vararg:=none,kwonlyargs:=[],kw_defaults:=[],kwarg:=none,defaults:=[] }
noncomputable def defBody (s:Stmt):List Stmt:=match s with
 | .FunctionDef _ _ b _ _ _ _ _ _ _=>b
 | _=>[]
noncomputable def defScope (s:Stmt):Scope:=match s with
 | .FunctionDef _ _ _ _ _ _ sc _ _ _=>sc
 | _=>{ kind:=.function,names:=[],isGenerator:=false,isCoroutine:=false }
noncomputable abbrev CX0:CXT:=fun _ _ _ _ _ _=>False
noncomputable abbrev E0:XK:=fun _ _ _=>False
theorem pass0 {X:Cx}:Passes CX0 X E0:=fun _ _ _ _ _ _ _ h=>h.elim
structure Fun (K:PySem.W.Frag) (x qual:Str) (st:Stmt) (f:Addr) (fd:FuncData):Prop where
 ex:∃ (oc:Value) (od:Option Addr) (kV doc pm:Value) (an:Option Addr) (cdv ct:Value) (osl:Array (Option Value)),
  fd=PySem.W.fnOf x qual (defArgs st) (defBody st) (defScope st) .none kV doc pm an cdv ct∧K.lookup f=some ⟨oc,od,.func fd,osl⟩∧PySem.W.codeIn K cdv qual=true
 kp:PySem.W.keepIn K (.ref f)=true
section
variable {P:Program} {w:World} {K:PySem.W.Frag} {mg:Str→Option Value} {base:Heap}
theorem Fun.ok {x qual:Str} {st:Stmt} {f:Addr} {fd:FuncData} {N ps:List Str} {k:Nat} {sp:Sp} (F:Fun K x qual st f fd) (S:FnScope N ps (defScope st)) (len:∀ vs H Q E,sp vs H Q E→vs.length=ps.length)
  (hbody:∀ (cdv:Value) (A:Around) (outer:List Env) (s:Shared) (H:Hp) (vs:List V) (Q:VK) (E:XK),Room k (A.deeper (envOfC qual (defScope st) s.heap.objs.size f cdv))→sp vs H Q E →
   ∃ t,PSs (cxOf CX0 P w K mg base N qual (defScope st) f cdv A outer s H E).nox (defBody st) t∧t { nx:=fun _ H'=>Q .non H',rt:=Q } (start N vs) H):FnOk P w K mg base CX0 (k + 1) f fd ps sp:=by
 obtain ⟨oc,od,kV,doc,pm,an,cdv,ct,osl,rfl,lk,hcd⟩:=F.ex
 refine fn_of lk hcd S len fun A outer s H vs Q E hr hsp=>?_
 obtain ⟨t,h,q⟩:=hbody cdv A outer s H vs Q E hr hsp
 exact ⟨t,h.nox,q⟩
theorem Fun.binds {x qual:Str} {st:Stmt} {f:Addr} {fd:FuncData} {ps:List Str} (F:Fun K x qual st f fd)
  (h:∀ (kV doc pm:Value) (an:Option Addr) (cdv ct:Value) (us:List Value),us.length=ps.length→bindArgs (PySem.W.fnOf x qual (defArgs st) (defBody st) (defScope st) .none kV doc pm an cdv ct) ⟨us,[]⟩=pure (ps.zip us)):Binds K fd ps []:=by
 obtain ⟨oc,od,kV,doc,pm,an,cdv,ct,osl,rfl,lk,hcd⟩:=F.ex
 exact .all (h kV doc pm an cdv ct)
theorem fun_mk {x qual:Str} {st:Stmt} {f:Addr} {oc:Value} {od an:Option Addr} {osl:Array (Option Value)} {kV doc pm cdv ct:Value} (l:K.lookup f=some ⟨oc,od,.func (PySem.W.fnOf x qual (defArgs st) (defBody st) (defScope st) .none kV doc pm an cdv ct),osl⟩)
  (c:PySem.W.codeIn K cdv qual=true) (k:PySem.W.keepIn K (.ref f)=true):Fun K x qual st f (PySem.W.fnOf x qual (defArgs st) (defBody st) (defScope st) .none kV doc pm an cdv ct):=⟨⟨oc,od,kV,doc,pm,an,cdv,ct,osl,rfl,l,c⟩,k⟩
end
theorem small1000 {n:Nat} (h:n≤1000):n < sizeLine:=Nat.lt_of_le_of_lt h (by decide)
section
variable {X:Cx}
theorem pv (i:Nat) {x:Str} {pos:Pos} (hN:X.N[i]?=some x:=by rfl) (hv:Vis X.env.scope x:=by first | exact Or.inl rfl | exact Or.inr (Or.inl rfl) | exact Or.inr (Or.inr rfl)) (hd:(x == ("__debug__":Str))=false:=by decide)
  (hcd:(x == ("__classdict__":Str))=false:=by decide):PE X (.Name x pos) (tVar i):=pe_var hN hv hd hcd
end
theorem iteF {A B:Prop} (h:B):if false=true then A else B:=by
 rw [if_neg Bool.false_ne_true]
 exact h
theorem iteT {A B:Prop} (h:A):if true=true then A else B:=by
 rw [if_pos rfl]
 exact h
theorem ite2 {c A B:Prop} [Decidable c] (h1:c→A) (h2:¬ c→B):if c then A else B:=by
 by_cases h:c
 ·rw [if_pos h]
  exact h1 h
 ·rw [if_neg h]
  exact h2 h
theorem iteNS {c A B:Prop} [Decidable c] (hc:c) (h:B):if (!decide c)=true then A else B:=by
 rw [decide_eq_true hc]
 exact iteF h
noncomputable def Same (H H':Hp):Prop:=∀ b o,H b=some o→H' b=some o
theorem Same.refl (H:Hp):Same H H:=fun _ _ h=>h
theorem Same.trans {H H1 H2:Hp} (a:Same H H1) (b:Same H1 H2):Same H H2:=fun c o h=>b c o (a c o h)
theorem Same.free {H H':Hp} (e:Same H H') {l:Addr} (h:H' l=Option.none):H l=Option.none:=by
 cases q:H l with
 | none=>rfl
 | some o =>
  rw [e l o q] at h
  cases h
theorem Same.seq {K:PySem.W.Frag} {H H':Hp} {a:Addr} {xs:List V} (e:Same H H') (h:SqL K H a xs):SqL K H' a xs:=by
 rcases h with (h | ⟨o,h⟩) | h
 ·exact .inl (.inl (e _ _ h))
 ·exact .inl (.inr ⟨o,e _ _ h⟩)
 ·exact .inr h
end L2
namespace L2
open PySem PySem.Spec PyProof.Rows
section
variable {X:Cx}
theorem op_mulB:OpR X (binaryOp .Mult) (rI IntMulOk fun i j=>.int (i * j)):=opI fun _ _ _ _ _ _ _ hc q=>mul_int q hc
theorem log2_lt_of {n k:Nat} (hk:0 < k) (h:n < 2 ^ k):n.log2 < k:=by
 rcases Nat.eq_zero_or_pos n with h0 | hp
 ·rw [h0]; simpa using hk
 ·exact (Nat.log2_lt (Nat.ne_of_gt hp)).mpr h
theorem mulOk_of {a b:Int} (ha:a.natAbs < 2 ^ 4000) (hb:b.natAbs < 2 ^ 4000):IntMulOk a b:=by
 have l:∀ {z:Int},z.natAbs < 2 ^ 4000→Builtin.Int.intBits z≤4000:=by
  intro z hz
  unfold Builtin.Int.intBits
  split
  ·exact Nat.zero_le _
  ·have:=log2_lt_of (by decide:0 < 4000) hz
   lia
 have h1:=l ha
 have h2:=l hb
 unfold IntMulOk
 have:Builtin.Int.intTooBig ((Builtin.Int.intBits a:Int) + (Builtin.Int.intBits b:Int))=false:=by
  unfold Builtin.Int.intTooBig bitsLine
  exact decide_eq_false (by lia)
 rw [this]; simp
noncomputable def CDivB (i j:Int):Prop:=0 < j∧j.natAbs < 2 ^ 4000
theorem op_fdivB:OpR X (binaryOp .FloorDiv) (rI CDivB fun i j=>.int (i / j)):=opI fun i j _ _ _ _ _ hc q=>by
 have h1:(0:Int) < j:=hc.1
 have h2:=log2_lt_of (by decide:0 < 4000) hc.2
 exact floordiv_int (by lia) (by rw [Int.fdiv_eq_ediv_of_nonneg i (by lia)]; exact q) (.inl (PyProof.noPylong_of_log2 (by lia)))
theorem call_isinst:CallR X (.builtin "isinstance") (fun xs H Q=>∃ x T t b,xs=[x,.ty T]∧TyOf X.K H x t∧PySem.W.kitOne X.K t (.type T)=some b∧Q (.bl b) H):=by
 intro pins s σ H xs us Q I r h
 obtain ⟨x,T,t,b,rfl,ty,e,q⟩:=h
 obtain ⟨u,u2,rfl,rx,r2⟩:=vals2 r
 obtain rfl:u2=Value.type T:=r2
 exact isinst_ok I rx ty e fun tk=>⟨.bl b,H,I.tok tk,rfl,q⟩
theorem kit_int_int (K:PySem.W.Frag):PySem.W.kitOne K (.type "int") (.type "int")=some true:=by with_unfolding_all rfl
theorem kit_int_str (K:PySem.W.Frag):PySem.W.kitOne K (.type "int") (.type "str")=some false:=by with_unfolding_all rfl
theorem kit_int_bool (K:PySem.W.Frag):PySem.W.kitOne K (.type "int") (.type "bool")=some false:=by with_unfolding_all rfl
theorem kit_int_tuple (K:PySem.W.Frag):PySem.W.kitOne K (.type "int") (.type "tuple")=some false:=by with_unfolding_all rfl
theorem kit_str_str (K:PySem.W.Frag):PySem.W.kitOne K (.type "str") (.type "str")=some true:=by with_unfolding_all rfl
theorem kit_str_tuple (K:PySem.W.Frag):PySem.W.kitOne K (.type "str") (.type "tuple")=some false:=by with_unfolding_all rfl
theorem kit_tup_int (K:PySem.W.Frag):PySem.W.kitOne K (.type "tuple") (.type "int")=some false:=by with_unfolding_all rfl
theorem kit_tup_tup (K:PySem.W.Frag):PySem.W.kitOne K (.type "tuple") (.type "tuple")=some true:=by with_unfolding_all rfl
theorem call_sum (hc:X.calm=true):CallR X (.builtin "sum") (fun xs H Q=>∃ (p:Addr) (ns:List Int),xs=[.ref p]∧SqL X.K H p (ns.map V.int)∧Q (.int ns.sum) H):=by
 intro pins s σ H xs us Q I r h
 obtain ⟨p,ns,rfl,hS,q⟩:=h
 obtain ⟨u,rfl,rx⟩:=vals1 r
 obtain rfl:u=Value.ref p:=rx
 obtain ⟨its,rv,pl,hz⟩:=I.list hS
 have hi:=intsAre_of rv
 obtain ⟨xs,e⟩:=hi.allInts.items
 have e2:(xs.toList.map (·.1))=ns:=by
  rw [← nums_intItems,← e]
  exact hi.numsOf
 refine sum_intListG (xs:=xs) (I.ok.hd hc) (by rw [← e]; exact pl.isList) fun h' tk t' hk=>⟨.int ns.sum,H,I.kept hk,⟨t',?_⟩,q⟩
 rw [preSum_eq,List.take_of_length_le (by simp),e2]
noncomputable def tRev (K:PySem.W.Frag) (te:TE):TE:=fun σ H Q=>te σ H fun x H1=>∃ a xs,x=.ref a∧SqL K H1 a xs∧∀ p,H1 p=none→Q (.ref p) (upd H1 p (.lst xs.reverse))
theorem pe_rev {e:Expr} {te:TE} {j} {p2 p3 p4 pos:Pos} (he:PE X e te):PE X (.Subscript e (.Slice none none (some (.UnaryOp .USub (.Constant (.int 1) j p3) p4)) p2) pos) (tRev X.K te):=by
 intro pins s σ H Q I h
 refine Subscript_ (thn (he pins s σ H _ I h) fun v s1 ⟨x,H1,I1,r1,q1⟩=>?_)
 obtain ⟨a,xs,rfl,hx,q⟩:=q1
 obtain rfl:v=Value.ref a:=r1
 refine wpAny_Slice ?_
 rw [evalPart_none]
 refine wpAny_pure ?_
 refine wpAny_pure ?_
 refine thn (po_some (X:=X) (pe_un un_neg pe_int) pins s1 σ H1 (fun o H'=>o=some (-1)∧H'=H1) I1 ⟨1,rfl,-1,rfl,rfl,rfl⟩) fun vs s2 ⟨o,H2,I2,ip,eo,eH⟩=>?_
 subst eo eH
 obtain ⟨its,r,ht,hz⟩:=I2.list hx
 have hlen:=r.length
 have I4:Inv X pins σ H2 { s2 with heap:=s2.heap.push { cls:=.type "slice",data:=.fields #[.none,.none,vs] } }:=I2.kept (t':=s2.toks) fun b ob q=>Heap.get?_push_of_some _ q
 have ht4:PlainL (s2.heap.push { cls:=.type "slice",data:=.fields #[.none,.none,vs] }) a its.toArray:=by
  obtain ⟨o,n,e1,e2⟩:=ht
  exact ⟨o,n,Heap.get?_push_of_some _ e1,e2⟩
 refine tail_any (ops:=[.ref a,.ref s2.heap.objs.size]) ht4.isList.typeIs slot_list_getitem.lookup ?_ (by with_unfolding_all rfl)
 refine wpAny_getItem_list_slice ht4.isList (Heap.IsSliceOf.new ..) .none .none ip (by simp) ?_ (by rw [List.size_toArray] <;> lia)
 rw [PySem.W.krv_pick]
 refine ⟨.ref _,_,I4.laid (t':=s2.toks) (o:=.lst xs.reverse) (fun b ob q=>Heap.get?_push_of_some _ q) (Nat.le_refl _) ?_,rfl,q _ (I4.hok.fresh (Nat.le_refl _))⟩
 exact ⟨by rw [List.length_reverse]; exact hz,its.reverse,0,r.reverse,Heap.get?_push_size _ rfl⟩
noncomputable def TopDict (w:World) (K:PySem.W.Frag) (a:Addr):Prop:=∃ es n,K.lookup a=some ⟨.type "dict",none,.dict es n,#[]⟩∧PySem.W.KeysLit w.params es.toList
noncomputable def rIxD (w:World) (K:PySem.W.Frag):R2:=fun x y H Q=>∃ a z v u,x=.ref a∧y=.str z∧TopDict w K a∧PySem.W.nsIn K a z=some (some u)∧RelV v u∧Q v H
theorem ix_top:IxR X (rIxD X.w X.K):=by
 intro value slice pins s σ H x y v u Q I rx ry h hs
 obtain ⟨a,z,v',u',rfl,rfl,⟨es,n,hl,hk⟩,e,r,q⟩:=h
 obtain rfl:v=Value.ref a:=rx
 obtain ⟨t,rfl⟩:=ry
 obtain ⟨m,F⟩:=I.fr
 exact PySem.W.topItem_K F I.mod.kin hl hk e ⟨v',H,I.tok _,r,q⟩ hs
structure Callee (P:Program) (w:World) (K:PySem.W.Frag) (mg:Str→Option Value) (base:Heap) (CX:CXT) (k:Nat) (f:Addr) (sp:Sp):Prop where
 ok:∃ fd ps,FnOk P w K mg base CX k f fd ps sp∧Binds K fd ps []
 kp:PySem.W.keepIn K (.ref f)=true
noncomputable def tCallV (Fam:Addr→Sp→Prop) (E:XK) (tf:TE) (t:TA):TE:=fun σ H Q=>tf σ H fun x H1=>∃ f sp,x=.ref f∧Fam f sp∧t σ H1 fun vs H2=>sp vs H2 Q E
theorem pe_callV {CX:CXT} {k:Nat} {Fam:Addr→Sp→Prop} {E:XK} {x:Str} {p pos:Pos} {e:Expr} {es:List Expr} {tf:TE} {t:TA} (hF:∀ f sp,Fam f sp→Callee X.prog X.w X.K X.mg X.base CX k f sp) (hr:Room k X.A) (hx:Passes CX X E) (hf:PE X (.Name x p) tf) (ha:PA X (e :: es) t)
  (he:starEach (e :: es) X.env=(false,eval e X.env) :: starEach es X.env:=by rfl) (hpl:(backTo pos (starEach es X.env)).any (·.1)=false:=by rfl) :
  PE X (.Call (.Name x p) (e :: es) [] pos) (tCallV Fam E tf t):=by
 intro pins s σ H Q I h
 refine wpAny_Call_Name_kw (thn (hf pins s σ H _ I h) fun u s1 ⟨y,H1,I1,r1,f,sp,ey,fam,q⟩=>?_)
 subst ey
 obtain rfl:u=Value.ref f:=r1
 obtain ⟨⟨fd,ps,F,hb⟩,hk⟩:=hF f sp fam
 refine PySem.W.callWith_K (h₀:=X.base) I.ok.mod.kin hk (thn (ha pos pins s1 σ H1 _ I1 q) fun us s2 ⟨vs,H2,I2,r,q2⟩=>⟨I2.kIn,?_⟩) he hpl
 exact run_fn (dvs:=[]) (ds:=[]) F hr hb .nil hx I2 r (by rw [List.append_nil]; exact q2)
end
end L2
namespace L2
open PySem PySem.Spec PyProof.Rows
theorem bt_len:bootBuiltins "len"=some (.builtin "len"):=by decide +kernel
theorem bt_sum:bootBuiltins "sum"=some (.builtin "sum"):=by decide +kernel
theorem bt_isinstance:bootBuiltins "isinstance"=some (.builtin "isinstance"):=by decide +kernel
theorem bt_int:bootBuiltins "int"=some (.type "int"):=by decide +kernel
theorem bt_str:bootBuiltins "str"=some (.type "str"):=by decide +kernel
theorem bt_bool:bootBuiltins "bool"=some (.type "bool"):=by decide +kernel
theorem bt_tuple:bootBuiltins "tuple"=some (.type "tuple"):=by decide +kernel
structure Def (P:Program) (w:World) (K:PySem.W.Frag) (mg:Str→Option Value) (base:Heap) (CX:CXT) (k:Nat) (x:Str) (sp:Sp):Prop where
 ex:∃ f fd ps,FnOk P w K mg base CX k f fd ps sp∧Binds K fd ps []∧mg x=some (.ref f)∧PySem.W.keepIn K (.ref f)=true
section
variable {X:Cx} {CX:CXT} {k:Nat} {sp:Sp} {x:Str} {p pos:Pos} {e:Expr} {es:List Expr} {t:TA}
theorem pe_def (G:Def X.prog X.w X.K X.mg X.base CX0 k x sp) (hr:Room k X.A) (ha:PA X (e :: es) t) (hg:Gl X x:=by rfl) (hdb:(x == ("__debug__":Str))=false:=by decide)
  (he:starEach (e :: es) X.env=(false,eval e X.env) :: starEach es X.env:=by rfl) (hpl:(backTo pos (starEach es X.env)).any (·.1)=false:=by rfl) :
  PE X (.Call (.Name x p) (e :: es) [] pos) (tCall sp [] E0 t):=by
 obtain ⟨f,fd,ps,a,b,c,d⟩:=G.ex
 exact pe_call a hr hg c d b .nil pass0 ha hdb he hpl
noncomputable def rIsin (K:PySem.W.Frag):List V→Hp→VK→Prop:=fun xs H Q=>match xs with
 | [x,.ty T]=>∃ t b,TyOf K H x t∧PySem.W.kitOne K t (.type T)=some b∧Q (.bl b) H
 | _=>False
theorem call_isin:CallR X (.builtin "isinstance") (rIsin X.K):=by
 intro pins s σ H xs us Q I r h
 unfold rIsin at h
 split at h
 ·obtain ⟨t,b,ty,e,q⟩:=h
  exact call_isinst pins s σ H _ us Q I r ⟨_,_,t,b,rfl,ty,e,q⟩
 ·exact h.elim
theorem pe_isin {T:Str} {TT:String} {a:Expr} {ta:TE} {p2:Pos} (hm:X.mg "isinstance"=none) (hT:X.mg T=none) (hv:bootBuiltins T=some (.type TT)) (ha:PE X a ta) (hg:Gl X "isinstance":=by rfl) (hg2:Gl X T:=by rfl) (hn:T≠"__name__":=by decide) (hd:(T == ("__debug__":Str))=false:=by decide)
  (he:starEach [a,.Name T p2] X.env=(false,eval a X.env) :: starEach [.Name T p2] X.env:=by rfl) (hpl:(backTo pos (starEach [.Name T p2] X.env)).any (·.1)=false:=by rfl) (he2:starEach [.Name T p2] X.env=[(false,eval (.Name T p2) X.env)]:=by rfl) :
  PE X (.Call (.Name "isinstance" p) [a,.Name T p2] [] pos) (fun σ H Q=>ta σ H fun x H1=>∃ t b,TyOf X.K H1 x t∧PySem.W.kitOne X.K t (.type TT)=some b∧Q (.bl b) H1) :=
 pe_callB call_isin hg hm bt_isinstance (pa_cons ha (pa_cons (pe_bltn (v:=.ty TT) hg2 hT hv rfl hn hd) pa_nil he2) he) (by decide) (by decide) he hpl
end
end L2
set_option maxHeartbeats 4000000
namespace L2
open PySem PySem.Spec PyProof.Rows
noncomputable def closes (cells:List (Str×Addr)):List (Str×NameKind)→List (Str×Addr)→Option (List (Str×Addr))
 | [],acc=>some acc
 | (n,k) :: r,acc=>if (k == .free)=true then (match cells.lookup n with
  | some a=>closes cells r ((n,a) :: acc)
  | none=>none) else closes cells r acc
theorem closureFor_of {scope:Scope} {env:Env} {cl:List (Str×Addr)} (h:closes env.cells scope.names []=some cl):closureFor scope env=pure cl:=by
 have gen:∀ (l:List (Str×NameKind)) (acc cl:List (Str×Addr)),closes env.cells l acc=some cl →
   (forIn (m:=Sem) l acc fun (x:Str×NameKind) (cs:List (Str×Addr))=>if (x.2 == .free)=true then (do let c ← cellOf env x.1; pure (ForInStep.yield ((x.1,c) :: cs))) else pure (ForInStep.yield cs))=pure cl:=by
  intro l
  induction l with
  | nil=>intro acc cl h; cases h; rfl
  | cons y r ih =>
   intro acc cl h
   obtain ⟨n,k⟩:=y
   unfold closes at h
   rw [List.forIn_cons]
   by_cases hk:(k == .free)=true
   ·rw [if_pos hk] at h
    dsimp only
    rw [if_pos hk]
    cases e:env.cells.lookup n with
    | none=>rw [e] at h; cases h
    | some a =>
     rw [e] at h
     have ec:cellOf env n=pure a:=by unfold cellOf; rw [e]
     rw [ec,pure_bind,pure_bind]
     exact ih _ _ h
   ·rw [if_neg hk] at h
    dsimp only
    rw [if_neg hk,pure_bind]
    exact ih _ _ h
 unfold closureFor
 exact (bind_pure _).trans (gen scope.names [] cl h)
theorem closes_mem {cells:List (Str×Addr)}:∀ {l:List (Str×NameKind)} {acc cl:List (Str×Addr)},closes cells l acc=some cl→(∀ p∈acc,cells.lookup p.1=some p.2)→∀ p∈cl,cells.lookup p.1=some p.2
 | [],acc,cl,h,ha=>by cases h; exact ha
 | (n,k) :: r,acc,cl,h,ha=>by
  unfold closes at h
  split at h
  ·cases e:cells.lookup n with
   | none=>rw [e] at h; cases h
   | some a =>
    rw [e] at h
    refine closes_mem h fun p hp=>?_
    rcases List.mem_cons.mp hp with q | q
    ·subst q; exact e
    ·exact ha p q
  ·exact closes_mem h ha
theorem closes_has {cells:List (Str×Addr)} {x:Str}:∀ {l:List (Str×NameKind)} {acc cl:List (Str×Addr)},closes cells l acc=some cl→((x,NameKind.free)∈l∨∃ c,(x,c)∈acc)→∃ c,(x,c)∈cl
 | [],acc,cl,h,hx=>by
  cases h
  rcases hx with q | q
  ·cases q
  ·exact q
 | (n,k) :: r,acc,cl,h,hx=>by
  unfold closes at h
  split at h
  ·cases e:cells.lookup n with
   | none=>rw [e] at h; cases h
   | some a =>
    rw [e] at h
    refine closes_has h ?_
    rcases hx with q | ⟨c,q⟩
    ·rcases List.mem_cons.mp q with z | z
     ·cases z; exact .inr ⟨a,List.mem_cons_self⟩
     ·exact .inl z
    ·exact .inr ⟨c,List.mem_cons_of_mem _ q⟩
  ·rename_i hk
   refine closes_has h ?_
   rcases hx with q | q
   ·rcases List.mem_cons.mp q with z | z
    ·cases z; exact absurd rfl hk
    ·exact .inl z
   ·exact .inr q
theorem lookup_of_mem {α:Type} {x:Str} {c:α}:∀ {l:List (Str×α)},(x,c)∈l→∃ d,l.lookup x=some d∧(x,d)∈l
 | (n,a) :: r,h=>by
  rw [List.lookup_cons]
  by_cases e:(x == n)=true
  ·rw [e]
   have e':x=n:=by simpa using e
   exact ⟨a,rfl,by rw [e']; exact List.mem_cons_self⟩
  ·have e2:(x == n)=false:=by simpa using e
   rw [e2]
   rcases List.mem_cons.mp h with z | z
   ·cases z; simp at e
   ·obtain ⟨d,h1,h2⟩:=lookup_of_mem z
    exact ⟨d,h1,List.mem_cons_of_mem _ h2⟩
noncomputable def cxC (X:Cx) (N:List Str) (scope:Scope) (cl:List (Str×Addr)) (C:Addr) (s2:Shared) (H2:Hp) (fp:List Addr):Cx where
 prog:=X.prog
 w:=X.w
 K:=X.K
 mg:=X.mg
 base:=X.base
 A:=X.A
 N:=N
 s₀:=s2
 H₀:=H2
 env:=compEnvC scope cl C X.env
 outer:=X.stack
 stack:=X.stack
 ex:=fp
 fn:=fun _=>false
 calm:=X.calm
 pn:=[]
 xe:=fun _ _=>False
noncomputable def compStart0 (mp:List (Option Nat)) (σ:St):St:=mp.map fun o=>match o with
 | some j=>(σ[j]?).bind id
 | none=>none
noncomputable def PTL (X:Cx) (ifs:List Expr) (t:TT):Prop :=
 ∀ (pins:List (Addr×Obj)) (s:Shared) (σ:St) (H:Hp) (Q:Bool→Hp→Prop),Inv X pins σ H s→t σ H Q →
  wpAny (model X.prog X.w) X.A (forIn ifs true fun c r=>if r=true then do let ok ← isTrue c X.env (eval c X.env); pure (ForInStep.yield ok) else pure (ForInStep.yield r)) (TP X pins σ Q) X.xe s
section
variable {prog:Program} {w:World} {A:Around} {R:Result→Shared→Prop} {s:Shared}
theorem compLoop_go {elt target iter:Expr} {ifs:List Expr} {scope:Scope} {pos:Pos} {it acc:Value} {env:Env} (I:Nat→Shared→Prop)
  (turn:∀ n s,I n s→wpAny (model prog w) A (pyNext it) (fun r s₁=>match r with
   | none=>R (.ok .next) s₁
   | some v=>wpAny (model prog w) A (letOwnedTupleGo target it v) (fun _ s1=>wpAny (model prog w) A (assign target env v) (fun _ s₂ =>
     wpAny (model prog w) A (forIn ifs true fun c r=>if r=true then do let ok ← isTrue c env (eval c env); pure (ForInStep.yield ok) else pure (ForInStep.yield r)) (fun ok s₃ =>
      if ok=true then wpAny (model prog w) A (eval elt env) (fun x s₄ =>
       wpAny (model prog w) A (call (.builtin "list.append") [acc,x]) (fun _ s₅=>∃ m,m < n∧I m s₅) (fun _ _=>False) s₄) (fun _ _=>False) s₃
      else ∃ m,m < n∧I m s₃) (fun _ _=>False) s₂) (fun _ _=>False) s1) (fun _ _=>False) s₁) (fun _ _=>False) s)
  (n:Nat) (h:I n s) :
  codeAny (model prog w) A (.compLoop (.ListComp elt [⟨target,iter,ifs,0⟩] scope pos) 0 it acc env) R s:=by
 refine codeAny_loop rfl I (fun n s hI=>?_) n h
 show wpAny _ A ((compTurn (.ListComp elt [⟨target,iter,ifs,0⟩] scope pos) 0 it acc env).onRaise (fun x=>do noteFrame x env; theTreesLotGoes x)) _ _ s
 refine wpAny_noted ?_
 rw [compTurn_list]
 refine wpAny_bind (wpAny_standAt (wpAny_bind (wpAny_mono (turn n s hI) (fun r s₁ h₁=>?_) fun _ _ h'=>h'.elim)))
 cases r with
 | none=>exact wpAny_pure h₁
 | some v =>
  refine wpAny_bind (wpAny_mono h₁ (fun _ s1 h1=>wpAny_bind (wpAny_mono h1 (fun _ s₂ h₂=>wpAny_bind (wpAny_mono h₂ (fun ok s₃ h₃=>?_) fun _ _ h'=>h'.elim)) fun _ _ h'=>h'.elim)) fun _ _ h'=>h'.elim)
  cases ok with
  | false=>exact wpAny_pure ⟨rfl,h₃⟩
  | true =>
   exact wpAny_bind (wpAny_bind (wpAny_mono h₃ (fun x s₄ h₄=>wpAny_bind (wpAny_mono h₄ (fun _ s₅ h₅=>wpAny_pure (wpAny_pure ⟨rfl,h₅⟩)) fun _ _ h'=>h'.elim)) fun _ _ h'=>h'.elim))
end
section
variable {X:Cx}
theorem ptl_nil:PTL X [] (fun _ H Q=>Q true H):=fun pins s σ H Q I h=>wpAny_tests_nil ⟨H,I,h⟩
theorem ptl_one {c:Expr} {t:TT} (h:PT X c t):PTL X [c] t:=fun pins s σ H Q I hq=>wpAny_tests_one (h pins s σ H Q I hq)
noncomputable def tComp (mp:List (Option Nat)) (wi:TI) (g:Addr→Shared→Hp→List Addr→TG) (tt:Addr→Shared→Hp→List Addr→TT) (te:Addr→Shared→Hp→List Addr→TE):TE:=fun σ H Q=>wi σ H fun J H1=>∀ (D:Addr),H1 D=none→∀ (C:Addr) (s2:Shared) (fp:List Addr),
 ∃ W:Nat→Nat→St→Hp→Prop,(∃ m,W 0 m (compStart0 mp σ) (upd H1 D (.lst [])))∧∀ i m σ2 H2,W i m σ2 H2 →
  (J.stop i H2∧Q (.ref D) H2)∨(J.go i H2∧∃ N:St→Hp→Prop,(∀ σ' H',N σ' H'→∃ m',m' < m∧W (i + 1) m' σ' H')∧∀ x H',J.yld i H2 x H'→g C s2 H1 fp x σ2 H' fun σ3 H3=>tt C s2 H1 fp σ3 H3 fun b H4 =>
   if b=true then te C s2 H1 fp σ3 H4 fun y H5=>∃ xs,H5 D=some (.lst xs)∧xs.length < sizeLine∧N σ3 (upd H5 D (.lst (xs++[y]))) else N σ3 H4)
end
end L2
namespace L2
open PySem PySem.Spec PyProof.Rows
inductive D where
 | non
 | bl (b:Bool)
 | int (i:Int)
 | str (x:Str)
 | tup (l:List D)
 | lst (l:List D)
mutual
noncomputable def Rep (K:PySem.W.Frag) (H:Hp):D→V→Prop
 | .non,v=>v=.non
 | .bl b,v=>v=.bl b
 | .int i,v=>v=.int i
 | .str x,v=>v=.str x
 | .tup ds,v=>∃ p xs,v=.ref p∧SqT K H p xs∧Reps K H ds xs
 | .lst ds,v=>∃ p xs,v=.ref p∧SqL K H p xs∧Reps K H ds xs
noncomputable def Reps (K:PySem.W.Frag) (H:Hp):List D→List V→Prop
 | [],xs=>xs=[]
 | d :: ds,xs=>∃ x r,xs=x :: r∧Rep K H d x∧Reps K H ds r
end
mutual
noncomputable def eqD:D→D→Bool
 | .non,.non=>true
 | .bl a,.bl b=>a == b
 | .bl a,.int b=>(if a then 1 else 0) == b
 | .int a,.bl b=>a == (if b then 1 else 0)
 | .int a,.int b=>a == b
 | .str a,.str b=>a == b
 | .tup a,.tup b=>eqDs a b
 | .lst a,.lst b=>eqDs a b
 | _,_=>false
noncomputable def eqDs:List D→List D→Bool
 | [],[]=>true
 | a :: r,b :: t=>eqD a b && eqDs r t
 | _,_=>false
end
mutual
noncomputable def D.dep:D→Nat
 | .tup l=>deps l + 1
 | .lst l=>deps l + 1
 | _=>0
noncomputable def deps:List D→Nat
 | []=>0
 | d :: r=>max d.dep (deps r)
end
theorem Reps.len {K:PySem.W.Frag} {H:Hp}:∀ {ds:List D} {xs:List V},Reps K H ds xs→ds.length=xs.length
 | [],xs,h=>by
  unfold Reps at h; subst h; rfl
 | d :: ds,xs,h=>by
  unfold Reps at h
  obtain ⟨x,r,rfl,_,h⟩:=h
  rw [List.length_cons,List.length_cons,Reps.len h]
theorem Reps.get {K:PySem.W.Frag} {H:Hp}:∀ {ds:List D} {xs:List V} {j:Nat} {d:D},Reps K H ds xs→ds[j]?=some d→∃ x,xs[j]?=some x∧Rep K H d x
 | [],xs,j,d,h,e=>by cases e
 | a :: ds,xs,j,d,h,e=>by
  unfold Reps at h
  obtain ⟨x,r,rfl,h1,h2⟩:=h
  match j,e with
  | 0,e=>cases e; exact ⟨x,rfl,h1⟩
  | j + 1,e=>exact Reps.get (ds:=ds) (j:=j) h2 (by simpa using e)
mutual
theorem eqD_refl:∀ d:D,eqD d d=true
 | .non=>rfl
 | .bl b=>by unfold eqD; simp
 | .int i=>by unfold eqD; simp
 | .str x=>by unfold eqD; simp
 | .tup l=>by unfold eqD; exact eqDs_refl l
 | .lst l=>by unfold eqD; exact eqDs_refl l
theorem eqDs_refl:∀ l:List D,eqDs l l=true
 | []=>by unfold eqDs; rfl
 | d :: r=>by unfold eqDs; rw [eqD_refl d,eqDs_refl r]; rfl
end
section
variable {X:Cx} {pins:List (Addr×Obj)} {σ:St} {H:Hp} {s:Shared}
theorem Inv.list_tup (I:Inv X pins σ H s) {a:Addr} {xs ys:List V} (h1:SqL X.K H a xs) (h2:SqT X.K H a ys):False:=by
 obtain ⟨its,_,⟨o,n,e1,c1,_⟩,_⟩:=I.list h1
 obtain ⟨its2,_,⟨o2,e2,c2,_⟩,_⟩:=I.tuple h2
 rw [e1] at e2; cases e2
 rw [c1] at c2
 injection c2 with c3
 exact absurd c3 (by decide)
mutual
theorem rep_inj (I:Inv X pins σ H s):∀ (d e:D) (v:V),Rep X.K H d v→Rep X.K H e v→d=e
  | .non,e,v,h1,h2=>by
    unfold Rep at h1; subst h1
    cases e <;> (unfold Rep at h2; first | rfl | (obtain ⟨_,_,z,_⟩:=h2; cases z; done) | cases h2)
  | .bl b,e,v,h1,h2=>by
    unfold Rep at h1; subst h1
    cases e <;> (unfold Rep at h2; first | (obtain ⟨_,_,z,_⟩:=h2; cases z; done) | (cases h2; rfl) | cases h2)
  | .int b,e,v,h1,h2=>by
    unfold Rep at h1; subst h1
    cases e <;> (unfold Rep at h2; first | (obtain ⟨_,_,z,_⟩:=h2; cases z; done) | (cases h2; rfl) | cases h2)
  | .str b,e,v,h1,h2=>by
    unfold Rep at h1; subst h1
    cases e <;> (unfold Rep at h2; first | (obtain ⟨_,_,z,_⟩:=h2; cases z; done) | (cases h2; rfl) | cases h2)
  | .tup l,e,v,h1,h2=>by
    unfold Rep at h1
    obtain ⟨p,xs,rfl,q,r⟩:=h1
    cases e with
    | tup l2 =>
      unfold Rep at h2
      obtain ⟨p2,xs2,z,q2,r2⟩:=h2
      cases z
      rw [I.tuple_inj q2 q] at r2
      rw [reps_inj I l l2 xs r r2]
    | lst l2 =>
      unfold Rep at h2
      obtain ⟨p2,xs2,z,q2,r2⟩:=h2
      cases z
      exact (I.list_tup q2 q).elim
    | _=>unfold Rep at h2; cases h2
  | .lst l,e,v,h1,h2=>by
    unfold Rep at h1
    obtain ⟨p,xs,rfl,q,r⟩:=h1
    cases e with
    | lst l2 =>
      unfold Rep at h2
      obtain ⟨p2,xs2,z,q2,r2⟩:=h2
      cases z
      rw [I.list_inj q2 q] at r2
      rw [reps_inj I l l2 xs r r2]
    | tup l2 =>
      unfold Rep at h2
      obtain ⟨p2,xs2,z,q2,r2⟩:=h2
      cases z
      exact (I.list_tup q q2).elim
    | _=>unfold Rep at h2; cases h2
theorem reps_inj (I:Inv X pins σ H s):∀ (ds es:List D) (xs:List V),Reps X.K H ds xs→Reps X.K H es xs→ds=es
 | [],es,xs,h1,h2=>by
  unfold Reps at h1; subst h1
  cases es with
  | nil=>rfl
  | cons e es=>unfold Reps at h2; obtain ⟨_,_,z,_⟩:=h2; cases z
 | d :: ds,es,xs,h1,h2=>by
  unfold Reps at h1
  obtain ⟨x,r,rfl,a,b⟩:=h1
  cases es with
  | nil=>unfold Reps at h2; cases h2
  | cons e es =>
   unfold Reps at h2
   obtain ⟨x2,r2,z,a2,b2⟩:=h2
   cases z
   rw [rep_inj I d e x a a2,reps_inj I ds es r b b2]
end
theorem eqDs_all:∀ (ds es:List D),ds.length=es.length→(List.range ds.length).all (fun j=>match ds[j]?,es[j]? with
  | some d,some e=>eqD d e
  | _,_=>false)=eqDs ds es
 | [],[],_=>by unfold eqDs; rfl
 | d :: ds,e :: es,h=>by
  rw [List.length_cons,List.range_succ_eq_map,List.all_cons,List.all_map]
  unfold eqDs
  rw [← eqDs_all ds es (by simpa using h)]
  rfl
theorem eqDs_len:∀ (ds es:List D),ds.length≠es.length→eqDs ds es=false
 | [],[],h=>absurd rfl h
 | [],_ :: _,_=>by unfold eqDs; rfl
 | _ :: _,[],_=>by unfold eqDs; rfl
 | d :: ds,e :: es,h=>by
  unfold eqDs
  rw [eqDs_len ds es (by simpa using h),Bool.and_false]
noncomputable def eAt (ds es:List D) (j:Nat):Bool:=match ds[j]?,es[j]? with
  | some d,some e=>eqD d e
  | _,_=>false
theorem items_eq {A:Around} {ds es:List D} {xs ys:List V} {us vs:List Value} (r1:Reps X.K H ds xs) (r2:Reps X.K H es ys) (v1:Vals xs us) (v2:Vals ys vs)
  (ih:∀ (j:Nat) (d e:D) (x y:V) (u v:Value),ds[j]?=some d→es[j]?=some e→Rep X.K H d x→Rep X.K H e y→RelV x u→RelV y v→SeqAt.EqAt A s u v (eqD d e)) :
  ∀ j (h1:j < us.toArray.size) (h2:j < vs.toArray.size),SeqAt.EqAt A s us.toArray[j] vs.toArray[j] (eAt ds es j):=by
 intro j h1 h2
 rw [List.size_toArray] at h1 h2
 have l1:=r1.len
 have l2:=r2.len
 have l3:=v1.length
 have l4:=v2.length
 have e1:ds[j]?=some (ds[j]'(by lia)):=List.getElem?_eq_getElem _
 have e2:es[j]?=some (es[j]'(by lia)):=List.getElem?_eq_getElem _
 obtain ⟨x,hx,px⟩:=r1.get e1
 obtain ⟨y,hy,py⟩:=r2.get e2
 obtain ⟨u,hu,ru⟩:=v1.get hx
 obtain ⟨v,hv,rv⟩:=v2.get hy
 have q:=ih j _ _ x y u v e1 e2 px py ru rv
 have hu':us.toArray[j]'(by simpa using h1)=u:=by
  have:=List.getElem?_eq_getElem h1
  rw [hu] at this
  simpa using (Option.some.inj this).symm
 have hv':vs.toArray[j]'(by simpa using h2)=v:=by
  have:=List.getElem?_eq_getElem h2
  rw [hv] at this
  simpa using (Option.some.inj this).symm
 rw [hu',hv']
 unfold eAt
 rw [e1,e2]
 exact q
theorem range_lst {ds es:List D} {n:Nat} (h:ds.length=n) (h2:es.length=n):(List.range n).all (eAt ds es)=eqDs ds es:=by
 rw [← h,← eqDs_all ds es (h.trans h2.symm)]
 rfl
theorem range_tup {ds es:List D} {n m:Nat} (h:ds.length=n) (h2:es.length=m):((List.range (min n m)).all (eAt ds es) && (n == m))=eqDs ds es:=by
 by_cases e:n=m
 ·subst e
  rw [Nat.min_self,range_lst h h2]
  simp
 ·have e2:(n == m)=false:=by simpa using e
  rw [e2,Bool.and_false,eqDs_len ds es (by rw [h,h2]; exact e)]
theorem rc_lists {A:Around} {l b:Addr} {ds es:List D} {xs ys:List V} (I:Inv X pins σ H s) (h1:SqL X.K H l xs) (h2:SqL X.K H b ys) (r1:Reps X.K H ds xs) (r2:Reps X.K H es ys) (hu:A.units < cLine)
  (ih:∀ (j:Nat) (d e:D) (x y:V) (u v:Value),ds[j]?=some d→es[j]?=some e→Rep X.K H d x→Rep X.K H e y→RelV x u→RelV y v→SeqAt.EqAt A.in1 s u v (eqD d e)) :
  SeqAt.RcAt A s (.ref l) (.ref b) (eqDs ds es)∧SeqAt.RcNeAt A s (.ref l) (.ref b) (!eqDs ds es):=by
 obtain ⟨us,v1,p1,z1⟩:=I.list h1
 obtain ⟨vs,v2,p2,z2⟩:=I.list h2
 have l1:=r1.len
 have l2:=r2.len
 have l3:=v1.length
 have l4:=v2.length
 by_cases e:us.length=vs.length
 ·have it:=items_eq r1 r2 v1 v2 ih
  have a1:=SeqAt.RcAt.lists (A:=A) p1.isList p2.isList (by simpa using e) hu it
  have a2:=SeqAt.RcNeAt.lists (A:=A) p1.isList p2.isList (by simpa using e) hu it
  rw [range_lst (ds:=ds) (es:=es) (by simp; lia) (by simp; lia)] at a1 a2
  exact ⟨a1,a2⟩
 ·have ne:(us.toArray.size != vs.toArray.size)=true:=by simpa using e
  rw [eqDs_len ds es (by lia)]
  exact ⟨SeqAt.RcAt.lists_lengths p1.isList p2.isList ne hu,SeqAt.RcNeAt.lists_lengths p1.isList p2.isList ne hu⟩
theorem rc_tups {A:Around} {l b:Addr} {ds es:List D} {xs ys:List V} (I:Inv X pins σ H s) (h1:SqT X.K H l xs) (h2:SqT X.K H b ys) (r1:Reps X.K H ds xs) (r2:Reps X.K H es ys) (hu:A.units < cLine)
  (ih:∀ (j:Nat) (d e:D) (x y:V) (u v:Value),ds[j]?=some d→es[j]?=some e→Rep X.K H d x→Rep X.K H e y→RelV x u→RelV y v→SeqAt.EqAt A.in1 s u v (eqD d e)) :
  SeqAt.RcAt A s (.ref l) (.ref b) (eqDs ds es)∧SeqAt.RcNeAt A s (.ref l) (.ref b) (!eqDs ds es):=by
 obtain ⟨us,v1,p1,z1⟩:=I.tuple h1
 obtain ⟨vs,v2,p2,z2⟩:=I.tuple h2
 have l1:=r1.len
 have l2:=r2.len
 have l3:=v1.length
 have l4:=v2.length
 have it:=items_eq r1 r2 v1 v2 ih
 have a1:=SeqAt.RcAt.tuples (A:=A) (show s.heap.IsTuple l us.toArray from p1) (show s.heap.IsTuple b vs.toArray from p2) hu it
 have a2:=SeqAt.RcNeAt.tuples (A:=A) (show s.heap.IsTuple l us.toArray from p1) (show s.heap.IsTuple b vs.toArray from p2) hu it
 rw [range_tup (ds:=ds) (es:=es) (by simp; lia) (by simp; lia)] at a1 a2
 exact ⟨a1,a2⟩
theorem deps_get:∀ {l:List D} {j:Nat} {d:D},l[j]?=some d→d.dep≤deps l
 | a :: l,0,d,e=>by cases e; unfold deps; lia
 | a :: l,j + 1,d,e=>by
  have:=deps_get (l:=l) (j:=j) (d:=d) (by simpa using e)
  unfold deps; lia
theorem rep_eq (I:Inv X pins σ H s):∀ (n:Nat) (A:Around) (d e:D) (x y:V) (u v:Value),d.dep≤n→A.units + n < cLine→Rep X.K H d x→Rep X.K H e y→RelV x u→RelV y v→SeqAt.EqAt A s u v (eqD d e):=by
 intro n
 induction n with
 | zero =>
  intro A d e x y u v hd hu r1 r2 ru rv
  have hu0:A.units < cLine:=by lia
  cases d with
  | tup l=>unfold D.dep at hd; lia
  | lst l=>unfold D.dep at hd; lia
  | non =>
   unfold Rep at r1; subst r1; cases ru
   cases e with
   | non=>unfold Rep at r2; subst r2; cases rv; exact SeqAt.EqAt.same _
   | bl b=>unfold Rep at r2; subst r2; cases rv; exact SeqAt.EqAt.none_bool b
   | int b=>unfold Rep at r2; subst r2; obtain ⟨t,rfl⟩:=rv; exact SeqAt.EqAt.none_int b t
   | str b=>unfold Rep at r2; subst r2; obtain ⟨t,rfl⟩:=rv; exact SeqAt.EqAt.none_str b t
   | tup l=>unfold Rep at r2; obtain ⟨p,xs,rfl,q,_⟩:=r2; cases rv; obtain ⟨us,_,pt,_⟩:=I.tuple q; exact SeqAt.EqAt.none_tuple (show s.heap.IsTuple p us.toArray from pt) hu0
   | lst l=>unfold Rep at r2; obtain ⟨p,xs,rfl,q,_⟩:=r2; cases rv; obtain ⟨us,_,pt,_⟩:=I.list q; exact SeqAt.EqAt.none_list pt.isList hu0
  | bl a =>
   unfold Rep at r1; subst r1; cases ru
   cases e with
   | non=>unfold Rep at r2; subst r2; cases rv; exact SeqAt.EqAt.bool_none a
   | bl b=>unfold Rep at r2; subst r2; cases rv; exact SeqAt.EqAt.bool_bool a b
   | int b=>unfold Rep at r2; subst r2; obtain ⟨t,rfl⟩:=rv; exact SeqAt.EqAt.bool_int a b t
   | str b=>unfold Rep at r2; subst r2; obtain ⟨t,rfl⟩:=rv; exact SeqAt.EqAt.bool_str a b t
   | tup l=>unfold Rep at r2; obtain ⟨p,xs,rfl,q,_⟩:=r2; cases rv; obtain ⟨us,_,pt,_⟩:=I.tuple q; exact SeqAt.EqAt.bool_tuple a (show s.heap.IsTuple p us.toArray from pt) hu0
   | lst l=>unfold Rep at r2; obtain ⟨p,xs,rfl,q,_⟩:=r2; cases rv; obtain ⟨us,_,pt,_⟩:=I.list q; exact SeqAt.EqAt.bool_list a pt.isList hu0
  | int a =>
   unfold Rep at r1; subst r1; obtain ⟨t1,rfl⟩:=ru
   cases e with
   | non=>unfold Rep at r2; subst r2; cases rv; exact SeqAt.EqAt.int_none a t1
   | bl b=>unfold Rep at r2; subst r2; cases rv; exact SeqAt.EqAt.int_bool a t1 b
   | int b=>unfold Rep at r2; subst r2; obtain ⟨t,rfl⟩:=rv; exact SeqAt.EqAt.int_int a t1 b t
   | str b=>unfold Rep at r2; subst r2; obtain ⟨t,rfl⟩:=rv; exact SeqAt.EqAt.int_str a t1 b t
   | tup l=>unfold Rep at r2; obtain ⟨p,xs,rfl,q,_⟩:=r2; cases rv; obtain ⟨us,_,pt,_⟩:=I.tuple q; exact SeqAt.EqAt.int_tuple a t1 (show s.heap.IsTuple p us.toArray from pt) hu0
   | lst l=>unfold Rep at r2; obtain ⟨p,xs,rfl,q,_⟩:=r2; cases rv; obtain ⟨us,_,pt,_⟩:=I.list q; exact SeqAt.EqAt.int_list a t1 pt.isList hu0
  | str a =>
   unfold Rep at r1; subst r1; obtain ⟨t1,rfl⟩:=ru
   cases e with
   | non=>unfold Rep at r2; subst r2; cases rv; exact SeqAt.EqAt.str_none a t1
   | bl b=>unfold Rep at r2; subst r2; cases rv; exact SeqAt.EqAt.str_bool a t1 b
   | int b=>unfold Rep at r2; subst r2; obtain ⟨t,rfl⟩:=rv; exact SeqAt.EqAt.str_int a t1 b t
   | str b=>unfold Rep at r2; subst r2; obtain ⟨t,rfl⟩:=rv; exact SeqAt.EqAt.str_str a t1 b t
   | tup l=>unfold Rep at r2; obtain ⟨p,xs,rfl,q,_⟩:=r2; cases rv; obtain ⟨us,_,pt,_⟩:=I.tuple q; exact SeqAt.EqAt.str_tuple a t1 (show s.heap.IsTuple p us.toArray from pt) hu0
   | lst l=>unfold Rep at r2; obtain ⟨p,xs,rfl,q,_⟩:=r2; cases rv; obtain ⟨us,_,pt,_⟩:=I.list q; exact SeqAt.EqAt.str_list a t1 pt.isList hu0
 | succ n ihn =>
  intro A d e x y u v hd hu r1 r2 ru rv
  have hu0:A.units < cLine:=by lia
  have hu1:A.in1.units + n < cLine:=by show A.units + 1 + n < cLine; lia
  cases d with
  | tup l =>
   have r1':=r1
   unfold Rep at r1
   obtain ⟨p,xs,rfl,q,rs⟩:=r1
   cases ru
   have hd':deps l≤n:=by unfold D.dep at hd; lia
   obtain ⟨us,_,pt,_⟩:=id (I.tuple q)
   cases e with
   | non=>unfold Rep at r2; subst r2; cases rv; exact SeqAt.EqAt.tuple_none (show s.heap.IsTuple p us.toArray from pt) hu0
   | bl b=>unfold Rep at r2; subst r2; cases rv; exact SeqAt.EqAt.tuple_bool b (show s.heap.IsTuple p us.toArray from pt) hu0
   | int b=>unfold Rep at r2; subst r2; obtain ⟨t,rfl⟩:=rv; exact SeqAt.EqAt.tuple_int b t (show s.heap.IsTuple p us.toArray from pt) hu0
   | str b=>unfold Rep at r2; subst r2; obtain ⟨t,rfl⟩:=rv; exact SeqAt.EqAt.tuple_str b t (show s.heap.IsTuple p us.toArray from pt) hu0
   | tup l2 =>
    have r2':=r2
    unfold Rep at r2
    obtain ⟨p2,xs2,rfl,q2,rs2⟩:=r2
    cases rv
    by_cases hp:p=p2
    ·subst hp
     rw [rep_inj I _ _ _ r1' r2',eqD_refl]
     exact SeqAt.EqAt.same _
    ·unfold eqD
     exact SeqAt.EqAt.of_refs hp (rc_tups I q q2 rs rs2 hu0 fun j d e x y u v e1 e2 a b c f=>ihn A.in1 d e x y u v (Nat.le_trans (deps_get e1) hd') hu1 a b c f).1
   | lst l2 =>
    unfold Rep at r2
    obtain ⟨p2,xs2,rfl,q2,rs2⟩:=r2
    cases rv
    obtain ⟨us2,_,pt2,_⟩:=I.list q2
    exact SeqAt.EqAt.tuple_list (show s.heap.IsTuple p us.toArray from pt) pt2.isList hu0
  | lst l =>
   have r1':=r1
   unfold Rep at r1
   obtain ⟨p,xs,rfl,q,rs⟩:=r1
   cases ru
   have hd':deps l≤n:=by unfold D.dep at hd; lia
   obtain ⟨us,_,pt,_⟩:=id (I.list q)
   cases e with
   | non=>unfold Rep at r2; subst r2; cases rv; exact SeqAt.EqAt.list_none pt.isList hu0
   | bl b=>unfold Rep at r2; subst r2; cases rv; exact SeqAt.EqAt.list_bool b pt.isList hu0
   | int b=>unfold Rep at r2; subst r2; obtain ⟨t,rfl⟩:=rv; exact SeqAt.EqAt.list_int b t pt.isList hu0
   | str b=>unfold Rep at r2; subst r2; obtain ⟨t,rfl⟩:=rv; exact SeqAt.EqAt.list_str b t pt.isList hu0
   | lst l2 =>
    have r2':=r2
    unfold Rep at r2
    obtain ⟨p2,xs2,rfl,q2,rs2⟩:=r2
    cases rv
    by_cases hp:p=p2
    ·subst hp
     rw [rep_inj I _ _ _ r1' r2',eqD_refl]
     exact SeqAt.EqAt.same _
    ·unfold eqD
     exact SeqAt.EqAt.of_refs hp (rc_lists I q q2 rs rs2 hu0 fun j d e x y u v e1 e2 a b c f=>ihn A.in1 d e x y u v (Nat.le_trans (deps_get e1) hd') hu1 a b c f).1
   | tup l2 =>
    unfold Rep at r2
    obtain ⟨p2,xs2,rfl,q2,rs2⟩:=r2
    cases rv
    obtain ⟨us2,_,pt2,_⟩:=I.tuple q2
    exact SeqAt.EqAt.list_tuple pt.isList (show s.heap.IsTuple p2 us2.toArray from pt2) hu0
  | _=>exact ihn A _ e x y u v (by unfold D.dep; exact Nat.zero_le _) (by lia) r1 r2 ru rv
noncomputable def rEqS (K:PySem.W.Frag) (neg:Bool):R2:=fun x y H Q=>∃ ds es,((Rep K H (.lst ds) x∧Rep K H (.lst es) y)∨(Rep K H (.tup ds) x∧Rep K H (.tup es) y))∧deps ds≤50∧Q (.bl (if neg then !eqDs ds es else eqDs ds es)) H
theorem rc_both (I:Inv X pins σ H s) {x y:V} {u v:Value} {ds es:List D} (hA:X.A.units + 60 < cLine) (ru:RelV x u) (rv:RelV y v) (h:(Rep X.K H (.lst ds) x∧Rep X.K H (.lst es) y)∨(Rep X.K H (.tup ds) x∧Rep X.K H (.tup es) y)) (hd:deps ds≤50) :
  SeqAt.RcAt X.A s u v (eqDs ds es)∧SeqAt.RcNeAt X.A s u v (!eqDs ds es):=by
 have ih:∀ (j:Nat) (d e:D) (x y:V) (u v:Value),ds[j]?=some d→es[j]?=some e→Rep X.K H d x→Rep X.K H e y→RelV x u→RelV y v→SeqAt.EqAt X.A.in1 s u v (eqD d e) :=
  fun j d e x y u v e1 e2 a b c f=>rep_eq I 50 X.A.in1 d e x y u v (Nat.le_trans (deps_get e1) hd) (by show X.A.units + 1 + 50 < cLine; lia) a b c f
 rcases h with ⟨h1,h2⟩ | ⟨h1,h2⟩
 ·unfold Rep at h1 h2
  obtain ⟨p,xs,rfl,q,rs⟩:=h1
  obtain ⟨p2,xs2,rfl,q2,rs2⟩:=h2
  cases ru; cases rv
  exact rc_lists I q q2 rs rs2 (by lia) ih
 ·unfold Rep at h1 h2
  obtain ⟨p,xs,rfl,q,rs⟩:=h1
  obtain ⟨p2,xs2,rfl,q2,rs2⟩:=h2
  cases ru; cases rv
  exact rc_tups I q q2 rs rs2 (by lia) ih
theorem op_eqS (hA:X.A.units + 60 < cLine):OpR X (compareOp .Eq) (rEqS X.K false):=by
 intro pins s σ H x y u v Q I ru rv h
 obtain ⟨ds,es,h,hd,q⟩:=h
 exact (rc_both I hA ru rv h hd).1 X.prog X.w X.xe _ ⟨.bl (eqDs ds es),H,I,rfl,q⟩
theorem op_neS (hA:X.A.units + 60 < cLine):OpR X (compareOp .NotEq) (rEqS X.K true):=by
 intro pins s σ H x y u v Q I ru rv h
 obtain ⟨ds,es,h,hd,q⟩:=h
 exact (rc_both I hA ru rv h hd).2 X.prog X.w X.xe _ ⟨.bl (!eqDs ds es),H,I,rfl,q⟩
theorem reps_ints {K:PySem.W.Frag} {H:Hp}:∀ ns:List Int,Reps K H (ns.map D.int) (ns.map V.int)
 | []=>by show Reps K H [] []; unfold Reps; rfl
 | n :: r=>by show Reps K H (D.int n :: r.map D.int) (V.int n :: r.map V.int); unfold Reps; exact ⟨_,_,rfl,(by unfold Rep; rfl),reps_ints r⟩
theorem eqDs_ints:∀ ns ms:List Int,eqDs (ns.map D.int) (ms.map D.int)=decide (ns=ms)
 | [],[]=>by rw [List.map_nil]; unfold eqDs; rfl
 | [],_ :: _=>by rw [List.map_nil,List.map_cons]; unfold eqDs; rfl
 | _ :: _,[]=>by rw [List.map_nil,List.map_cons]; unfold eqDs; rfl
 | n :: ns,m :: ms=>by
  rw [List.map_cons,List.map_cons]
  unfold eqDs
  rw [eqDs_ints ns ms]
  unfold eqD
  by_cases h:n=m
  ·subst h
   by_cases h2:ns=ms
   ·subst h2; simp
   ·simp [h2]
  ·simp [h]
theorem deps_ints:∀ ns:List Int,deps (ns.map D.int)=0
 | []=>by rw [List.map_nil]; unfold deps; rfl
 | n :: r=>by rw [List.map_cons]; unfold deps; rw [deps_ints r]; unfold D.dep; rfl
end
end L2
namespace L2
open PySem PySem.Spec PyProof.Rows
section
variable {X:Cx} {pos:Pos}
theorem hu60 {k:Nat} {A:Around} (hr:Room k A):A.units + 60 < cLine:=by have:=hr.units; lia
noncomputable def outChk (XN:List Str) (xn:List (Str×NameKind)) (N:List Str) (cn:List (Str×NameKind)):List (Option Nat)→Nat→Bool
 | [],_=>true
 | none :: r,i=>outChk XN xn N cn r (i + 1)
 | some j :: r,i=>(match N[i]? with
  | some x=>XN[j]? == some x && (xn.lookup x == some .cell || xn.lookup x == some .free) && cn.lookup x == some .free
  | none=>false) && outChk XN xn N cn r (i + 1)
theorem outChk_ok {XN:List Str} {xn:List (Str×NameKind)} {N:List Str} {cn:List (Str×NameKind)}:∀ {mp:List (Option Nat)} {k:Nat},outChk XN xn N cn mp k=true→∀ (i j:Nat),mp[i]?=some (some j)→∃ x,N[k + i]?=some x∧XN[j]?=some x∧(xn.lookup x=some .cell∨xn.lookup x=some .free)∧cn.lookup x=some .free
 | [],k,h,i,j,e=>by cases e
 | none :: r,k,h,0,j,e=>by cases e
 | none :: r,k,h,i + 1,j,e=>by
  have:=outChk_ok (mp:=r) (k:=k + 1) h i j (by simpa using e)
  rw [show k + (i + 1)=k + 1 + i by lia]; exact this
 | some m :: r,k,h,0,j,e=>by
  cases e
  unfold outChk at h
  rw [Bool.and_eq_true] at h
  have h1:=h.1
  cases en:N[k]? with
  | none=>rw [en] at h1; cases h1
  | some x =>
   rw [en] at h1
   simp only [Bool.and_eq_true,Bool.or_eq_true,beq_iff_eq] at h1
   exact ⟨x,rfl,h1.1.1,h1.1.2,h1.2⟩
 | some m :: r,k,h,i + 1,j,e=>by
  unfold outChk at h
  rw [Bool.and_eq_true] at h
  have:=outChk_ok (mp:=r) (k:=k + 1) h.2 i j (by simpa using e)
  rw [show k + (i + 1)=k + 1 + i by lia]; exact this
noncomputable def NextC (Pv:Nat→List V→St→Hp→Prop) (D:Addr) (i:Nat):St→Hp→Prop:=fun σ' H'=>∃ ys,ys.length≤i + 1∧Pv (i + 1) ys σ' H'∧H' D=some (.lst ys)
theorem comp_list {K:PySem.W.Frag} {a:Addr} {xs:List V} {H1:Hp} {D:Addr} {σ0:St} {g:TG} {tt:TT} {te:TE} {R:Hp→Prop}
  (Pv:Nat→List V→St→Hp→Prop) (hl:∀ i ys σ H2,Pv i ys σ H2→SqL K H2 a xs) (h0:Pv 0 [] σ0 (upd H1 D (.lst [])))
  (hs:∀ i x ys σ H2,xs[i]?=some x→ys.length≤i→Pv i ys σ H2→H2 D=some (.lst ys)→g x σ H2 fun σ3 H3=>tt σ3 H3 fun b H4=>if b=true then te σ3 H4 fun y H5=>∃ zs,H5 D=some (.lst zs)∧zs.length < sizeLine∧NextC Pv D i σ3 (upd H5 D (.lst (zs++[y]))) else NextC Pv D i σ3 H4)
  (hd:∀ ys σ H2,Pv xs.length ys σ H2→H2 D=some (.lst ys)→R H2) :
  ∃ W:Nat→Nat→St→Hp→Prop,(∃ m,W 0 m σ0 (upd H1 D (.lst [])))∧∀ i m σ2 H2,W i m σ2 H2 →
  ((Itl K a).stop i H2∧R H2)∨((Itl K a).go i H2∧∃ N:St→Hp→Prop,(∀ σ' H',N σ' H'→∃ m',m' < m∧W (i + 1) m' σ' H')∧∀ x H',(Itl K a).yld i H2 x H'→g x σ2 H' fun σ3 H3=>tt σ3 H3 fun b H4 =>
   if b=true then te σ3 H4 fun y H5=>∃ xs,H5 D=some (.lst xs)∧xs.length < sizeLine∧N σ3 (upd H5 D (.lst (xs++[y]))) else N σ3 H4):=by
 refine ⟨fun i m σ H'=>m=xs.length - i∧i≤xs.length∧∃ ys,ys.length≤i∧Pv i ys σ H'∧H' D=some (.lst ys),⟨xs.length,by simp,Nat.zero_le _,[],Nat.le_refl _,h0,upd_same⟩,?_⟩
 rintro i m σ2 H2 ⟨rfl,hi,ys,hy,p,e⟩
 have q:=hl i ys σ2 H2 p
 by_cases hlt:i < xs.length
 ·refine .inr ⟨⟨xs,xs[i],q,by simp [hlt]⟩,NextC Pv D i,fun σ' H' ⟨ys',l',p',e'⟩=>⟨xs.length - (i + 1),by lia,rfl,hlt,ys',l',p',e'⟩,fun x' H' y=>?_⟩
  obtain ⟨e1,y⟩:=y
  subst e1
  exact hs i x' ys σ2 _ (y xs q) hy p e
 ·have ei:i=xs.length:=by lia
  subst ei
  exact .inl ⟨⟨xs,q,Nat.le_refl _⟩,hd ys σ2 H2 p e⟩
theorem comp_tup {K:PySem.W.Frag} {a:Addr} {xs:List V} {H1:Hp} {D:Addr} {σ0:St} {g:TG} {tt:TT} {te:TE} {R:Hp→Prop}
  (Pv:Nat→List V→St→Hp→Prop) (hl:∀ i ys σ H2,Pv i ys σ H2→SqT K H2 a xs) (h0:Pv 0 [] σ0 (upd H1 D (.lst [])))
  (hs:∀ i x ys σ H2,xs[i]?=some x→ys.length≤i→Pv i ys σ H2→H2 D=some (.lst ys)→g x σ H2 fun σ3 H3=>tt σ3 H3 fun b H4=>if b=true then te σ3 H4 fun y H5=>∃ zs,H5 D=some (.lst zs)∧zs.length < sizeLine∧NextC Pv D i σ3 (upd H5 D (.lst (zs++[y]))) else NextC Pv D i σ3 H4)
  (hd:∀ ys σ H2,Pv xs.length ys σ H2→H2 D=some (.lst ys)→R H2) :
  ∃ W:Nat→Nat→St→Hp→Prop,(∃ m,W 0 m σ0 (upd H1 D (.lst [])))∧∀ i m σ2 H2,W i m σ2 H2 →
  ((Itt K a).stop i H2∧R H2)∨((Itt K a).go i H2∧∃ N:St→Hp→Prop,(∀ σ' H',N σ' H'→∃ m',m' < m∧W (i + 1) m' σ' H')∧∀ x H',(Itt K a).yld i H2 x H'→g x σ2 H' fun σ3 H3=>tt σ3 H3 fun b H4 =>
   if b=true then te σ3 H4 fun y H5=>∃ xs,H5 D=some (.lst xs)∧xs.length < sizeLine∧N σ3 (upd H5 D (.lst (xs++[y]))) else N σ3 H4):=by
 refine ⟨fun i m σ H'=>m=xs.length - i∧i≤xs.length∧∃ ys,ys.length≤i∧Pv i ys σ H'∧H' D=some (.lst ys),⟨xs.length,by simp,Nat.zero_le _,[],Nat.le_refl _,h0,upd_same⟩,?_⟩
 rintro i m σ2 H2 ⟨rfl,hi,ys,hy,p,e⟩
 have q:=hl i ys σ2 H2 p
 by_cases hlt:i < xs.length
 ·refine .inr ⟨⟨xs,xs[i],q,by simp [hlt]⟩,NextC Pv D i,fun σ' H' ⟨ys',l',p',e'⟩=>⟨xs.length - (i + 1),by lia,rfl,hlt,ys',l',p',e'⟩,fun x' H' y=>?_⟩
  obtain ⟨e1,y⟩:=y
  subst e1
  exact hs i x' ys σ2 _ (y xs q) hy p e
 ·have ei:i=xs.length:=by lia
  subst ei
  exact .inl ⟨⟨xs,q,Nat.le_refl _⟩,hd ys σ2 H2 p e⟩
end
end L2
namespace L2
open PySem PySem.Spec PyProof.Rows
section
variable {prog:Program} {w:World} {A:Around} {E:Value→Shared→Prop} {s:Shared}
end
section
variable {prog:Program} {w:World} {A:Around} {E:Value→Shared→Prop} {s:Shared}
end
section
variable {X:Cx} {es:List Expr} {kk:Nat} {tpos:Pos}
end
end L2
namespace L2
open PySem PySem.Spec PyProof.Rows PySem.Builtin.Str
section
variable {X:Cx}
end
end L2
namespace L2
open PySem PySem.Spec PyProof.Rows PySem.Builtin.Str
section
variable {prog:Program} {w:World} {A:Around} {E:Value→Shared→Prop} {s:Shared}
end
section
variable {X:Cx} {pos p2:Pos}
end
end L2
namespace L2
open PySem PySem.Spec PyProof.Rows
section
variable {X:Cx}
end
section
variable {prog:Program} {w:World} {A:Around} {E:Value→Shared→Prop} {s:Shared}
end
section
variable {X:Cx} {es:List Expr} {kk:Nat} {tpos:Pos}
end
end L2
namespace HT
open PySem PySem.Spec PyProof.Rows
section
variable {prog:Program} {w:World} {A:Around} {E:Value→Shared→Prop} {s:Shared}
end
end HT
namespace L2
open PySem PySem.Spec PyProof.Rows
variable {X:Cx}
end L2
namespace L2
open PySem PySem.Spec PyProof.Rows
section
variable {O:KeyOrd}
noncomputable def Up (f:Nat→O.α) (n:Nat):Prop:=∀ i j,i≤j→j < n→O.kle (f i) (f j)
noncomputable def Dn (f:Nat→O.α) (n:Nat):Prop:=∀ i j,i≤j→j < n→O.kle (f j) (f i)
theorem Up.one (f:Nat→O.α):Up f 1:=fun i j a b=>by
 have e:i=j:=by lia
 rw [e]; exact KeyOrd.kle_refl _
theorem Dn.one (f:Nat→O.α):Dn f 1:=fun i j a b=>by
 have e:i=j:=by lia
 rw [e]; exact KeyOrd.kle_refl _
theorem Up.snoc {f:Nat→O.α} {n:Nat} (u:Up f n) (h:O.kle (f (n - 1)) (f n)):Up f (n + 1):=fun i j a b=>by
 rcases Nat.lt_or_ge j n with c | c
 ·exact u i j a c
 have ej:j=n:=by lia
 rw [ej]
 rcases Nat.lt_or_ge i n with c2 | c2
 ·exact KeyOrd.kle_trans (u i (n - 1) (by lia) (by lia)) h
 ·have ei:i=n:=by lia
  rw [ei]; exact KeyOrd.kle_refl _
theorem Dn.snoc {f:Nat→O.α} {n:Nat} (u:Dn f n) (h:O.kle (f n) (f (n - 1))):Dn f (n + 1):=fun i j a b=>by
 rcases Nat.lt_or_ge j n with c | c
 ·exact u i j a c
 have ej:j=n:=by lia
 rw [ej]
 rcases Nat.lt_or_ge i n with c2 | c2
 ·exact KeyOrd.kle_trans h (u i (n - 1) (by lia) (by lia))
 ·have ei:i=n:=by lia
  rw [ei]; exact KeyOrd.kle_refl _
theorem Dn.congr {f g:Nat→O.α} {n:Nat} (u:Dn f n) (h:∀ i,g i=f i):Dn g n:=fun i j a b=>by rw [h,h]; exact u i j a b
end
section
variable {O:KeyOrd} (κ:Keyed→O.α) (d:O.α)
noncomputable def fk (xs:Array Keyed) (i:Nat):O.α:=match xs[i]? with
 | some p=>κ p
 | none=>d
theorem fk_eq {xs ys:Array Keyed} {i j:Nat} (h:xs[i]?=ys[j]?):fk κ d xs i=fk κ d ys j:=by unfold fk; rw [h]
theorem fk_turn {xs:Array Keyed} {i j:Nat} (hj:j≤xs.size) (k:Nat):fk κ d (mirror xs i j ((j - i) / 2)) k=if i≤k∧k < j then fk κ d xs (i + j - 1 - k) else fk κ d xs k:=by
 have e:=getElem?_mirror_all (i:=i) hj k
 split at e
 ·rename_i c; rw [if_pos c]; exact fk_eq κ d e
 ·rename_i c; rw [if_neg c]; exact fk_eq κ d e
theorem fk_flat {xs:Array Keyed} {i j:Nat} (hj:j≤xs.size) (h:∀ k,i≤k→k < j→fk κ d xs k=fk κ d xs (j - 1)) (k:Nat):fk κ d (mirror xs i j ((j - i) / 2)) k=fk κ d xs k:=by
 rw [fk_turn κ d hj]
 split
 ·rename_i c
  rw [h _ (by lia) (by lia),← h k c.1 c.2]
 ·rfl
theorem fk_down {xs:Array Keyed} {a b:Nat} (ha:a < xs.size) (hb:b≤a) (k:Nat):fk κ d (bubble xs a b) k=if k=a - b then fk κ d xs a else if a - b < k∧k≤a then fk κ d xs (k - 1) else fk κ d xs k:=by
 have e:=getElem?_bubble ha b hb k
 split at e
 ·rename_i c; rw [if_pos c]; exact fk_eq κ d e
 ·rename_i c
  rw [if_neg c]
  split at e
  ·rename_i c2; rw [if_pos c2]; exact fk_eq κ d e
  ·rename_i c2; rw [if_neg c2]; exact fk_eq κ d e
end
structure Srt (M:Model) (A:Around) (E:Value→Shared→Prop) (s:Shared) {O:KeyOrd} (κ:Keyed→O.α) (d:O.α) (n:Nat) (Bs:SortSt→Prop):Prop where
 lt:∀ {st:SortSt} {i j:Nat} {Q:Option Bool→SortSt→Prop},Bs st→i < n→j < n→Q (some (O.blt (fk κ d (arrOf st) i) (fk κ d (arrOf st) j))) st→wpS M A E s (ltAt' i j) Q st
 put:∀ {st:SortSt} {xs:Array Keyed},Bs st→xs.Perm (arrOf st)→Bs (setArr st xs)
 sz:∀ {st:SortSt},Bs st→(arrOf st).size=n
section
variable {prog:Program} {w:World} {A:Around} {E:Value→Shared→Prop} {s:Shared} {O:KeyOrd} {κ:Keyed→O.α} {d:O.α} {n:Nat} {Bs:SortSt→Prop}
theorem srt_asc (S:Srt (model prog w) A E s κ d n Bs) {st:SortSt} (hb:Bs st) {a m:Nat} (h1:1≤a) (ham:a≤m) (hmn:m≤n) (up:Up (fk κ d (arrOf st)) a) {Q:AscSt→SortSt→Prop}
  (q:∀ k,a≤k→k≤m→Up (fk κ d (arrOf st)) k→(k=m∨O.klt (fk κ d (arrOf st) k) (fk κ d (arrOf st) (k - 1)))→Q (none,k) st):wpS (model prog w) A E s (ascLoop a m) Q st:=by
 unfold ascLoop
 refine wpS_forRange (fun x c st'=>st'=st∧c=(none,x)∧Up (fk κ d (arrOf st)) x) (fun x c st' hx hm hI=>?_) (fun c st' hI=>?_) ⟨rfl,rfl,up⟩
 ·obtain ⟨e1,e2,u⟩:=hI
  subst e1 e2
  refine wpS_bind (S.lt hb (show x < n by lia) (show x - 1 < n by lia) ?_)
  dsimp only
  cases e:O.blt (fk κ d (arrOf st') x) (fk κ d (arrOf st') (x - 1)) with
  | true=>rw [if_pos rfl]; exact wpS_pure (q x hx (by lia) u (.inr e))
  | false=>rw [if_neg Bool.false_ne_true]; exact wpS_pure ⟨rfl,rfl,u.snoc e⟩
 ·obtain ⟨e1,e2,u⟩:=hI
  subst e1 e2
  rw [Nat.max_eq_right ham] at u ⊢
  exact q m ham (Nat.le_refl m) u (.inl rfl)
theorem srt_tail (S:Srt (model prog w) A E s κ d n Bs) {st:SortSt} (hb:Bs st) {a m:Nat} (h1:1≤a) (ham:a≤m) (hmn:m≤n) (dn:Dn (fk κ d (arrOf st)) a) {Q:Option Nat→SortSt→Prop}
  (q:∀ k st',Bs st'→1≤k→k≤m→Up (fk κ d (arrOf st')) k→Q (some k) st'):wpS (model prog w) A E s (tail3 a m) Q st:=by
 have z:a≤(arrOf st).size:=by rw [S.sz hb]; lia
 unfold tail3
 refine wpS_bind (wpS_reverse ?_)
 have hb2:=S.put hb (mirror_perm (arrOf st) 0 a ((a - 0) / 2))
 have u2:Up (fk κ d (mirror (arrOf st) 0 a ((a - 0) / 2))) a:=fun i j c1 c2=>by
  rw [fk_turn κ d z,fk_turn κ d z,if_pos ⟨Nat.zero_le _,by lia⟩,if_pos ⟨Nat.zero_le _,c2⟩]
  exact dn _ _ (by lia) (by lia)
 exact wpS_bind (srt_asc S hb2 h1 ham hmn u2 fun k k1 k2 u _=>wpS_pure (q k _ hb2 (by lia) k2 u))
theorem srt_desc (S:Srt (model prog w) A E s κ d n Bs) {st:SortSt} (hb:Bs st) {a m:Nat} (h1:1≤a) (ham:a≤m) (hmn:m≤n) (dn:Dn (fk κ d (arrOf st)) a) {Q:DescSt→SortSt→Prop}
  (q:∀ k e st',Bs st'→a≤k→k≤m→Dn (fk κ d (arrOf st')) k→e + 1≤k→(∀ i,k - (e + 1)≤i→i < k→fk κ d (arrOf st') i=fk κ d (arrOf st') (k - 1))→Q (none,k,e) st'):wpS (model prog w) A E s (descLoop a m) Q st:=by
 unfold descLoop
 have one:∀ (xs:Array Keyed) (x:Nat),1≤x→∀ i,x - (0 + 1)≤i→i < x→fk κ d xs i=fk κ d xs (x - 1):=fun xs x hx i c1 c2=>by rw [show i=x - 1 by lia]
 refine wpS_forRange (fun x c st'=>∃ e,c=(none,x,e)∧Bs st'∧Dn (fk κ d (arrOf st')) x∧e + 1≤x∧∀ i,x - (e + 1)≤i→i < x→fk κ d (arrOf st') i=fk κ d (arrOf st') (x - 1)) (fun x c st' hx hm hI=>?_) (fun c st' hI=>?_) ⟨0,rfl,hb,dn,h1,one _ a h1⟩
 ·obtain ⟨e,rfl,b,u,le,fl⟩:=hI
  have z:x≤(arrOf st').size:=by rw [S.sz b]; lia
  refine wpS_bind (S.lt b (show x < n by lia) (show x - 1 < n by lia) ?_)
  dsimp only
  cases e1:O.blt (fk κ d (arrOf st') x) (fk κ d (arrOf st') (x - 1)) with
  | true =>
   rw [if_pos rfl]
   have u1:Dn (fk κ d (arrOf st')) (x + 1):=u.snoc (KeyOrd.kle_of_klt e1)
   by_cases c:e > 0
   ·rw [if_pos c]
    exact wpS_bind (wpS_reverse (wpS_pure ⟨0,rfl,S.put b (mirror_perm _ _ _ _),u1.congr (fk_flat κ d z fl),by lia,one _ (x + 1) (by lia)⟩))
   ·rw [if_neg c]
    exact wpS_pure ⟨0,rfl,b,u1,by lia,one _ (x + 1) (by lia)⟩
  | false =>
   rw [if_neg Bool.false_ne_true]
   refine wpS_bind (S.lt b (show x - 1 < n by lia) (show x < n by lia) ?_)
   dsimp only
   cases e2:O.blt (fk κ d (arrOf st') (x - 1)) (fk κ d (arrOf st') x) with
   | true=>rw [if_pos rfl]; exact wpS_pure (q x e st' b hx (by lia) u le fl)
   | false =>
    rw [if_neg Bool.false_ne_true]
    have same:fk κ d (arrOf st') x=fk κ d (arrOf st') (x - 1):=KeyOrd.kle_antisymm e2 e1
    refine wpS_pure ⟨e + 1,rfl,b,u.snoc (by rw [same]; exact KeyOrd.kle_refl _),by lia,fun i c1 c2=>?_⟩
    rw [Nat.add_sub_cancel]
    rcases Nat.lt_or_ge i x with c3 | c3
    ·rw [same]; exact fl i (by lia) c3
    ·rw [show i=x by lia]
 ·obtain ⟨e,rfl,b,u,le,fl⟩:=hI
  rw [Nat.max_eq_right ham] at u le fl ⊢
  exact q m e st' b ham (Nat.le_refl m) u le fl
theorem srt_descPart (S:Srt (model prog w) A E s κ d n Bs) {st:SortSt} (hb:Bs st) {a m:Nat} (ham:a + 1≤m) (hmn:m≤n) (dn:Dn (fk κ d (arrOf st)) (a + 1)) {Q:Option Nat→SortSt→Prop}
  (q:∀ k st',Bs st'→1≤k→k≤m→Up (fk κ d (arrOf st')) k→Q (some k) st'):wpS (model prog w) A E s (descPart a m) Q st:=by
 unfold descPart
 refine wpS_bind (wpS_lift (wpAny_rule ⟨rfl,?_⟩))
 refine wpS_bind (srt_desc S hb (by lia) ham hmn dn fun k e st' b k1 k2 u le fl=>?_)
 have z:k≤(arrOf st').size:=by rw [S.sz b]; lia
 dsimp only
 by_cases c:e > 0
 ·rw [if_pos c]
  exact wpS_bind (wpS_reverse (srt_tail S (S.put b (mirror_perm _ _ _ _)) (by lia) k2 hmn (u.congr (fk_flat κ d z fl)) q))
 ·rw [if_neg c]
  exact srt_tail S b (by lia) k2 hmn u q
theorem srt_count (S:Srt (model prog w) A E s κ d n Bs) {st:SortSt} (hb:Bs st) {m:Nat} (h1:1≤m) (hmn:m≤n) {Q:Option Nat→SortSt→Prop}
  (q:∀ k st',Bs st'→1≤k→k≤m→Up (fk κ d (arrOf st')) k→Q (some k) st'):wpS (model prog w) A E s (countRun' 0 m) Q st:=by
 rw [countRun0_eq]
 refine wpS_bind (srt_asc S hb (Nat.le_refl 1) h1 hmn (Up.one _) fun k k1 k2 u ends=>?_)
 have z:k≤(arrOf st).size:=by rw [S.sz hb]; lia
 dsimp only
 by_cases c:k=m
 ·rw [if_pos (beq_iff_eq.mpr c)]
  exact wpS_pure (q k st hb k1 k2 u)
 rw [if_neg (fun z=>c (beq_iff_eq.mp z))]
 have fall:=ends.resolve_left c
 by_cases c1:k > 1
 ·rw [if_pos c1]
  refine wpS_bind (S.lt hb (show 0 < n by lia) (show k - 1 < n by lia) ?_)
  dsimp only
  cases e:O.blt (fk κ d (arrOf st) 0) (fk κ d (arrOf st) (k - 1)) with
  | true=>rw [if_pos rfl]; exact wpS_pure (q k st hb k1 k2 u)
  | false =>
   rw [if_neg Bool.false_ne_true]
   have flat:∀ i,0≤i→i < k→fk κ d (arrOf st) i=fk κ d (arrOf st) (k - 1):=fun i _ ci =>
    KeyOrd.kle_antisymm (u i (k - 1) (by lia) (by lia)) (KeyOrd.kle_trans e (u 0 i (Nat.zero_le _) ci))
   have dn:Dn (fk κ d (arrOf st)) (k + 1):=by
    refine Dn.snoc (fun i j a b=>?_) (KeyOrd.kle_of_klt fall)
    rw [flat i (Nat.zero_le _) (by lia),flat j (Nat.zero_le _) b]
    exact KeyOrd.kle_refl _
   exact wpS_bind (wpS_reverse (srt_descPart S (S.put hb (mirror_perm _ _ _ _)) (by lia) hmn (dn.congr (fk_flat κ d z flat)) q))
 ·rw [if_neg c1]
  have e1:k=1:=by lia
  subst e1
  exact srt_descPart S hb (by lia) hmn (Dn.snoc (Dn.one _) (KeyOrd.kle_of_klt fall)) q
theorem srt_binary (S:Srt (model prog w) A E s κ d n Bs) {st:SortSt} (hb:Bs st) {a:Nat} (han:a≤n) (up:Up (fk κ d (arrOf st)) a) {Q:Bool→SortSt→Prop}
  (q:∀ st',Bs st'→Up (fk κ d (arrOf st')) n→Q true st'):wpS (model prog w) A E s (binarySort' 0 n a) Q st:=by
 rw [binarySort'_eq]
 simp only [Nat.zero_add]
 refine wpS_bind (wpS_mono (wpS_forRange (fun x c st'=>c=(none,())∧Bs st'∧Up (fk κ d (arrOf st')) (min x n)) (Q:=fun c st'=>c=(none,())∧Bs st'∧Up (fk κ d (arrOf st')) n) (fun x c st' hx hxn hI=>?_) (fun c st' hI=>?_) ⟨rfl,hb,?_⟩) ?_)
 ·obtain ⟨rfl,b,u⟩:=hI
  rw [Nat.min_eq_left (by lia)] at u
  refine wpS_bind (wpS_mono (wpS_forRange (fun y c st2=>st2=st'∧∃ l r,c=(none,l,r)∧l≤r∧r≤x∧r - l≤x - y∧(∀ i,i < l→O.kle (fk κ d (arrOf st') i) (fk κ d (arrOf st') x))∧∀ i,r≤i→i < x→O.klt (fk κ d (arrOf st') x) (fk κ d (arrOf st') i))
   (Q:=fun c st2=>st2=st'∧∃ l r,c=(none,l,r)∧l≤x∧(∀ i,i < l→O.kle (fk κ d (arrOf st') i) (fk κ d (arrOf st') x))∧∀ i,l≤i→i < x→O.klt (fk κ d (arrOf st') x) (fk κ d (arrOf st') i))
   (fun y c st2 _ hy hJ=>?_) (fun c st2 hJ=>?_) ⟨rfl,0,x,rfl,Nat.zero_le _,Nat.le_refl _,Nat.le_refl _,(fun i hi=>absurd hi (Nat.not_lt_zero i)),fun i c1 c2=>absurd c2 (Nat.not_lt.mpr c1)⟩) ?_)
  ·obtain ⟨rfl,l,r,rfl,lr,rx,dist,lo,hi⟩:=hJ
   dsimp only
   by_cases c:l ≥ r
   ·rw [if_pos c]
    exact wpS_pure ⟨rfl,l,r,rfl,by lia,lo,fun i c1 c2=>hi i (by lia) c2⟩
   rw [if_neg c]
   refine wpS_bind (S.lt b (show x < n by lia) (show (l + r) / 2 < n by lia) ?_)
   dsimp only
   cases e:O.blt (fk κ d (arrOf st2) x) (fk κ d (arrOf st2) ((l + r) / 2)) with
   | true =>
    rw [if_pos rfl]
    exact wpS_pure ⟨rfl,l,(l + r) / 2,rfl,by lia,by lia,by lia,lo,fun i c1 c2=>KeyOrd.klt_of_klt_of_kle e (u _ _ c1 c2)⟩
   | false =>
    rw [if_neg Bool.false_ne_true]
    exact wpS_pure ⟨rfl,(l + r) / 2 + 1,r,rfl,by lia,rx,by lia,fun i ci=>KeyOrd.kle_trans (u i ((l + r) / 2) (by lia) (by lia)) e,hi⟩
  ·obtain ⟨rfl,l,r,rfl,lr,rx,dist,lo,hi⟩:=hJ
   exact ⟨rfl,l,r,rfl,by lia,lo,fun i c1 c2=>hi i (by lia) c2⟩
  ·rintro c st2 ⟨rfl,l,r,rfl,lx,lo,hi⟩
   have z:x < (arrOf st2).size:=by rw [S.sz b]; exact hxn
   show wpS _ _ _ _ (moveDown' x l >>= fun _=>pure (ForInStep.yield (none,()))) _ _
   rw [moveDown'_eq]
   refine wpS_bind (wpS_modify (wpS_pure ⟨rfl,S.put b (bubble_perm _ _ _),?_⟩))
   rw [Nat.min_eq_left (by lia)]
   intro i j c1 c2
   show O.kle (fk κ d (bubble (arrOf st2) x (x - l)) i) (fk κ d (bubble (arrOf st2) x (x - l)) j)
   rw [fk_down κ d z (Nat.sub_le _ _),fk_down κ d z (Nat.sub_le _ _),show x - (x - l)=l by lia]
   by_cases a1:i=l
   ·rw [if_pos a1]
    by_cases a2:j=l
    ·rw [if_pos a2]; exact KeyOrd.kle_refl _
    ·rw [if_neg a2,if_pos ⟨by lia,by lia⟩]; exact KeyOrd.kle_of_klt (hi _ (by lia) (by lia))
   ·rw [if_neg a1]
    by_cases a3:l < i∧i≤x
    ·rw [if_pos a3,if_neg (by lia),if_pos ⟨by lia,by lia⟩]
     exact u _ _ (by lia) (by lia)
    ·rw [if_neg a3]
     by_cases a2:j=l
     ·rw [if_pos a2]; exact lo i (by lia)
     ·rw [if_neg a2]
      by_cases a4:l < j∧j≤x
      ·rw [if_pos a4]; exact u _ _ (by lia) (by lia)
      ·rw [if_neg a4]; exact u _ _ c1 (by lia)
 ·obtain ⟨rfl,b,u⟩:=hI
  rw [show min (max (max a 1) n) n=n by lia] at u
  exact ⟨rfl,b,u⟩
 ·intro i j c1 c2
  rcases Nat.lt_or_ge j a with c | c
  ·exact up i j c1 c
  ·have e:i=j:=by lia
   rw [e]; exact KeyOrd.kle_refl _
 ·rintro c st' ⟨rfl,b,u⟩
  exact wpS_pure (q st' b u)
end
end L2
namespace L2
open PySem PySem.Spec PyProof.Rows
structure TB (kd:SortKind) (a0:Array Keyed) (st:SortSt):Prop where
 kind:kindOf st=kd
 perm:(arrOf st).Perm a0
 pend:pendingOf st=#[]
 fail:failedOf st=none
section
variable {prog:Program} {w:World} {A:Around} {E:Value→Shared→Prop} {s:Shared} {O:KeyOrd} {κ:Keyed→O.α} {d:O.α} {kd:SortKind} {a0:Array Keyed}
theorem srt_runs (S:Srt (model prog w) A E s κ d a0.size (TB kd a0)) (h2:2≤a0.size) (h64:a0.size < 64) {st:SortSt} (hb:TB kd a0 st) {Q:Unit→SortSt→Prop}
  (q:∀ st',(arrOf st').Perm a0→failedOf st'=none→Up (fk κ d (arrOf st')) a0.size→Q () st'):wpS (model prog w) A E s sortRuns' Q st:=by
 have zst:=S.sz hb
 have mr:minRun' a0.size a0.size 0=a0.size:=by
  cases e:a0.size with
  | zero=>lia
  | succ k =>
   rw [minRun'_succ,if_pos (by lia)]
 rw [sortRuns'_eq]
 refine wpS_bind (wpS_get ?_)
 dsimp only
 rw [zst,mr]
 have laid:∀ st':SortSt,TB kd a0 st'→Up (fk κ d (arrOf st')) a0.size→(arrOf (setPending st' ((pendingOf st').push (0,a0.size,0)))).Perm a0∧failedOf (setPending st' ((pendingOf st').push (0,a0.size,0)))=none∧pendingOf (setPending st' ((pendingOf st').push (0,a0.size,0)))=#[(0,a0.size,0)]∧Up (fk κ d (arrOf (setPending st' ((pendingOf st').push (0,a0.size,0))))) a0.size:=fun st' b u =>
  ⟨b.perm,b.fail,(by show (pendingOf st').push (0,a0.size,0)=_; rw [b.pend]; rfl),u⟩
 refine wpS_bind (wpS_mono (wpS_forRange (fun x c st'=>(x=0∧c=(none,0)∧TB kd a0 st')∨(c=(none,a0.size)∧(arrOf st').Perm a0∧failedOf st'=none∧pendingOf st'=#[(0,a0.size,0)]∧Up (fk κ d (arrOf st')) a0.size))
  (Q:=fun c st'=>c=(none,a0.size)∧(arrOf st').Perm a0∧failedOf st'=none∧pendingOf st'=#[(0,a0.size,0)]∧Up (fk κ d (arrOf st')) a0.size) (fun x c st' _ hx hI=>?_) (fun c st' hI=>?_) (.inl ⟨rfl,rfl,hb⟩)) ?_)
 ·rcases hI with ⟨rfl,rfl,b⟩ | ⟨rfl,r⟩
  ·dsimp only
   rw [if_neg (by lia)]
   simp only [Nat.sub_zero,Nat.min_self,Nat.zero_add]
   refine wpS_bind (srt_count S b (by lia) (Nat.le_refl _) fun k st2 b2 k1 k2 u=>?_)
   dsimp only
   by_cases c:k < a0.size
   ·rw [if_pos c]
    refine wpS_bind (wpS_lift (wpAny_rule ⟨rfl,?_⟩))
    refine wpS_bind (srt_binary S b2 k2 u fun st3 b3 u3=>?_)
    simp only [Bool.not_true,Bool.false_eq_true,if_false]
    refine wpS_bind (wpS_get ?_)
    rw [show (pendingOf st3).back?=none by rw [b3.pend]; rfl]
    dsimp only
    exact wpS_bind (wpS_modify (wpS_pure (.inr ⟨rfl,laid st3 b3 u3⟩)))
   ·rw [if_neg c]
    have ek:k=a0.size:=by lia
    subst ek
    refine wpS_bind (wpS_get ?_)
    rw [show (pendingOf st2).back?=none by rw [b2.pend]; rfl]
    dsimp only
    exact wpS_bind (wpS_modify (wpS_pure (.inr ⟨rfl,laid st2 b2 u⟩)))
  ·dsimp only
   rw [if_pos (Nat.le_refl _)]
   exact wpS_pure ⟨rfl,r⟩
 ·rcases hI with ⟨h,_⟩ | h
  ·exact absurd h (by lia)
  ·exact h
 ·rintro c st' ⟨rfl,r1,r2,r3,r4⟩
  dsimp only
  refine wpS_bind (wpS_mono (wpS_forRange (fun _ c st2=>st2=st'∧c=(none,())) (Q:=fun c st2=>st2=st'∧c=(none,())) (fun x c st2 _ _ hJ=>?_) (fun c st2 hJ=>hJ) ⟨rfl,rfl⟩) ?_)
  ·obtain ⟨rfl,rfl⟩:=hJ
   refine wpS_bind (wpS_get ?_)
   rw [if_pos (by rw [r3]; exact Nat.le_refl 1)]
   exact wpS_pure ⟨rfl,rfl⟩
  ·rintro c st2 ⟨rfl,rfl⟩
   exact wpS_pure (q _ r1 r2 r4)
end
noncomputable def lx:List Int→List Int→Bool
 | [],[]=>false
 | [],_ :: _=>true
 | _ :: _,[]=>false
 | a :: x,b :: y=>if a=b then lx x y else decide (a < b)
theorem lx_cons (a b:Int) (x y:List Int):lx (a :: x) (b :: y)=if a=b then lx x y else decide (a < b):=by rw [lx]
theorem lx_irrefl:∀ x,lx x x=false
 | []=>rfl
 | a :: x=>by rw [lx_cons,if_pos rfl]; exact lx_irrefl x
theorem lx_total:∀ x y,lx x y=false→lx y x=false→x=y
 | [],[],_,_=>rfl
 | [],_ :: _,h,_=>by cases h
 | _ :: _,[],_,h=>by cases h
 | a :: x,b :: y,h1,h2=>by
  rw [lx_cons] at h1 h2
  by_cases e:a=b
  ·subst e
   rw [if_pos rfl] at h1 h2
   rw [lx_total x y h1 h2]
  ·rw [if_neg e] at h1
   rw [if_neg (Ne.symm e)] at h2
   have:=of_decide_eq_false h1
   have:=of_decide_eq_false h2
   lia
theorem lx_trans:∀ x y z,lx x y=true→lx y z=true→lx x z=true
 | [],[],_,h,_=>by cases h
 | [],_ :: _,[],_,h=>by cases h
 | [],_ :: _,_ :: _,_,_=>rfl
 | _ :: _,[],_,h,_=>by cases h
 | _ :: _,_ :: _,[],_,h=>by cases h
 | a :: x,b :: y,c :: z,h1,h2=>by
  rw [lx_cons] at h1 h2 ⊢
  by_cases e1:a=b
  ·subst e1
   rw [if_pos rfl] at h1
   by_cases e2:a=c
   ·subst e2
    rw [if_pos rfl] at h2 ⊢
    exact lx_trans x y z h1 h2
   ·rw [if_neg e2] at h2 ⊢; exact h2
  ·rw [if_neg e1] at h1
   have k1:=of_decide_eq_true h1
   by_cases e2:b=c
   ·subst e2
    rw [if_neg e1]; exact h1
   ·rw [if_neg e2] at h2
    have k2:=of_decide_eq_true h2
    rw [if_neg (by lia)]
    exact decide_eq_true (by lia)
theorem lx_neg:∀ x y z,lx x z=true→lx x y=true∨lx y z=true
 | [],[],_,h=>.inr h
 | [],_ :: _,_,_=>.inl rfl
 | _ :: _,_,[],h=>by cases h
 | _ :: _,[],_ :: _,_=>.inr rfl
 | a :: x,b :: y,c :: z,h=>by
  rw [lx_cons] at h ⊢
  rw [lx_cons]
  by_cases e1:a=b
  ·subst e1
   rw [if_pos rfl]
   by_cases e2:a=c
   ·subst e2
    rw [if_pos rfl] at h ⊢
    exact lx_neg x y z h
   ·rw [if_neg e2] at h ⊢; exact .inr h
  ·rw [if_neg e1]
   by_cases e2:b=c
   ·subst e2
    rw [if_neg e1] at h; exact .inl h
   ·rw [if_neg e2]
    by_cases e3:a < b
    ·exact .inl (decide_eq_true e3)
    ·refine .inr (decide_eq_true ?_)
     by_cases e4:a=c
     ·subst e4; lia
     ·rw [if_neg e4] at h
      have:=of_decide_eq_true h
      lia
noncomputable def lxO:KeyOrd:=⟨List Int,lx,lx_irrefl,lx_trans,fun a b c h=>lx_neg a b c h,lx_total⟩
noncomputable abbrev tupKind (b:Bool):SortKind:=(sortPriv% PySem.Builtin.KeyKind.tuples) b
noncomputable def TupI (h:Heap) (v:Value) (ns:List Int):Prop:=∃ (a:Addr) (us:List Value),v=.ref a∧h.IsTuple a us.toArray∧IntsAre us ns
theorem keyLt_tup (b:Bool) (x y:Value):keyLt' (tupKind b) x y=(do
  let xs ← Builtin.List.listItems x
  let ys ← Builtin.List.listItems y
  for ((p,q),i) in (xs.toList.zip ys.toList).zipIdx do
   if !(← eqBool p q) then return ← oneLt' (b && i == 0) p q
  return xs.size < ys.size):=rfl
section
variable {prog:Program} {w:World} {A:Around} {E:Value→Shared→Prop} {s:Shared}
theorem one_int (b:Bool) {m n:Int} {t u:Tok} {Q:Bool→Shared→Prop} (h:Q (decide (m < n)) s):wpAny (model prog w) A (oneLt' b (.int m t) (.int n u)) Q E s:=by
 cases b with
 | true=>exact oneLt_int h
 | false =>
  rw [oneLt'_eq]
  simp only [Bool.false_eq_true,if_false]
  exact wpAny_bind (HT.rcLt_int A s m t n u prog w E _ (wpAny_truthy_bool h))
noncomputable def lexO:List Int→List Int→Option Bool
 | a :: x,b :: y=>if a=b then lexO x y else some (decide (a < b))
 | _,_=>none
theorem lexO_cons (a b:Int) (x y:List Int):lexO (a :: x) (b :: y)=if a=b then lexO x y else some (decide (a < b)):=by rw [lexO]
theorem lx_lexO:∀ x y,lx x y=(lexO x y).getD (decide (x.length < y.length))
 | [],[]=>rfl
 | [],b :: y=>by
  have e:lexO [] (b :: y)=none:=by unfold lexO; rfl
  rw [e]
  exact (decide_eq_true (Nat.succ_pos y.length)).symm
 | _ :: _,[]=>rfl
 | a :: x,b :: y=>by
  rw [lx_cons,lexO_cons]
  by_cases e:a=b
  ·rw [if_pos e,if_pos e,lx_lexO x y,List.length_cons,List.length_cons]
   simp
  ·rw [if_neg e,if_neg e]; rfl
theorem lex_loop (b:Bool):∀ (us vs:List Value) (ns ms:List Int) (k:Nat) {Q:Option Bool×Unit→Shared→Prop},IntsAre us ns→IntsAre vs ms→Q (lexO ns ms,()) s →
  wpAny (model prog w) A (forIn ((us.zip vs).zipIdx k) ((none,()):Option Bool×Unit) fun x __s=>match x with
     | ((p,q),i)=>do
      let __do_lift ← eqBool p q
      if (!__do_lift)=true then do
        let __do_lift ← oneLt' (b && i == 0) p q
        pure (ForInStep.done (some __do_lift,()))
       else pure (ForInStep.yield (none,()))) Q E s
 | _,_,_,_,k,Q,.nil,_,h=>by
  rw [List.zip_nil_left,List.zipIdx_nil]
  exact wpAny_pure (by cases ‹IntsAre _ _› <;> exact h)
 | _,_,_,_,k,Q,.cons m t r,.nil,h=>by
  rw [List.zip_nil_right,List.zipIdx_nil]
  exact wpAny_pure h
 | _,_,_,_,k,Q,.cons m t (vs:=us) (ns:=ns) r,.cons n u (vs:=vs) (ns:=ms) r2,h=>by
  rw [List.zip_cons_cons,List.zipIdx_cons,List.forIn_cons]
  rw [lexO_cons] at h
  refine wpAny_bind (wpAny_bind (wpAny_eqBool_int ?_))
  by_cases e:m=n
  ·rw [if_pos e] at h
   rw [show (m == n)=true from beq_iff_eq.mpr e]
   exact wpAny_pure (lex_loop b us vs ns ms (k + 1) r r2 h)
  ·rw [if_neg e] at h
   rw [show (m == n)=false from beq_false_of_ne e]
   exact wpAny_bind (one_int _ (wpAny_pure (wpAny_pure h)))
theorem ints_len:∀ {us:List Value} {ns:List Int},IntsAre us ns→us.length=ns.length
 | _,_,.nil=>rfl
 | _,_,.cons _ _ r=>by rw [List.length_cons,List.length_cons,ints_len r]
theorem lt_tup (b:Bool) {x y:Value} {ns ms:List Int} {Q:Bool→Shared→Prop} (hx:TupI s.heap x ns) (hy:TupI s.heap y ms) (h:Q (lx ns ms) s):wpAny (model prog w) A (keyLt' (tupKind b) x y) Q E s:=by
 obtain ⟨a,us,rfl,⟨oa,ha,_,na,da⟩,iu⟩:=hx
 obtain ⟨c,vs,rfl,⟨oc,hc,_,nc,dc⟩,iv⟩:=hy
 have l1:=ints_len iu
 have l2:=ints_len iv
 rw [keyLt_tup]
 refine wpAny_bind (listItems_at ha da (wpAny_bind (listItems_at hc dc (wpAny_bind (lex_loop b us vs ns ms 0 iu iv ?_)))))
 rw [lx_lexO] at h
 cases e:lexO ns ms with
 | some r=>rw [e] at h; exact wpAny_pure h
 | none =>
  rw [e] at h
  refine wpAny_pure ?_
  rw [List.size_toArray,List.size_toArray,l1,l2]
  exact h
end
end L2
namespace L2
open PySem PySem.Spec PyProof.Rows
section
variable {prog:Program} {w:World} {A:Around} {E:Value→Shared→Prop} {s:Shared}
theorem collect_tup {l:Addr} {us:List Value} {Q:List Value→Shared→Prop} (hl:s.heap.IsTuple l us.toArray) (hz:us.length≤sizeLine)
  (q:∀ g,(∀ b o,s.heap.get? b=some o→g.get? b=some o)→g.objs.size=s.heap.objs.size + 1→Q us { s with heap:=g }):wpAny (model prog w) A (collect (.ref l)) Q E s:=by
 obtain ⟨o,ho,hc,n,hd⟩:=id hl
 have new:(s.heap.push (seqObj "list" #[] 0)).get? s.heap.objs.size=some (seqObj "list" #[] 0):=Heap.get?_push_size _ rfl
 have old:(s.heap.push (seqObj "list" #[] 0)).get? l=some o:=Heap.get?_push_of_some _ ho
 unfold collect
 refine wpAny_bind (wpAny_runValue (codeAny_builtin entry_proto_collect' ?_))
 refine wpAny_bind (m:=newList []) (wpAny_newList (wpAny_pure ⟨Code.quiet_builtin _ (by decide +kernel),codeAny_builtin entry_list_iadd' ?_⟩))
 show wpAny _ _ (Builtin.List.listExtendWith (.ref s.heap.objs.size) (.ref l) (.ref s.heap.objs.size)) _ _ _
 unfold Builtin.List.listExtendWith
 refine wpAny_bind (wpAny_typeOf (T:="tuple") ⟨o,old,hc⟩ ?_)
 rw [if_pos (by rw [show (Value.type "tuple" == Value.type "tuple")=true from rfl]; simp)]
 refine wpAny_bind (listItems_at old hd (wpAny_bind (listItems_at new rfl ?_)))
 rw [if_neg (by simp)]
 refine wpAny_bind (listUpdate_at new rfl ?_ (Nat.zero_le _) (by show (#[]++us.toArray).size≤_; rw [Array.size_append]; show 0 + us.toArray.size≤_; rw [List.size_toArray]; lia))
 refine wpAny_pure ?_
 show wpAny (model prog w) A (load s.heap.objs.size >>= fun o=>match o.data with
   | .seq xs _=>pure xs.toList
   | _=>unsupported "internal:collect") Q E { s with heap:=(s.heap.push (seqObj "list" #[] 0)).update s.heap.objs.size (Obj.mapSeq (·++us.toArray)) }
 refine wpAny_bind (wpAny_load (get?_update_seq new _) ?_)
 show wpAny _ _ (pure ((#[]:Array Value)++us.toArray).toList) Q E _
 rw [show ((#[]:Array Value)++us.toArray).toList=us by simp]
 refine wpAny_pure (q _ (fun b o' e=>?_) (by rw [Heap.size_update,Heap.size_push]))
 have ne:b≠s.heap.objs.size:=Nat.ne_of_lt (Heap.lt_size e)
 exact (Heap.get?_update_other _ _ (Ne.symm ne)).trans (Heap.get?_push_of_some _ e)
theorem mapM_wp {α β:Type} {f:α→Sem β} {r:α→β}:∀ (l:List α),(∀ x∈l,∀ {Q:β→Shared→Prop},Q (r x) s→wpAny (model prog w) A (f x) Q E s)→∀ {Q:List β→Shared→Prop},Q (l.map r) s→wpAny (model prog w) A (l.mapM f) Q E s
 | [],_,Q,h=>by rw [List.mapM_nil]; exact wpAny_pure h
 | x :: t,hf,Q,h=>by
  rw [List.mapM_cons]
  exact wpAny_bind (hf x (List.mem_cons_self ..) (wpAny_bind (mapM_wp t (fun y hy=>hf y (List.mem_cons_of_mem _ hy)) (wpAny_pure h))))
theorem kind_tup {ks:List Value} {f:Value→List Int} (hk:∀ v∈ks,TupI s.heap v (f v)∧f v≠[]) {Q:SortKind→Shared→Prop} (q:∀ b,Q (tupKind b) s):wpAny (model prog w) A (keyKind' ks.toArray) Q E s:=by
  have hf:∀ v∈ks,∃ m t,∀ {Q:Option Value→Shared→Prop},Q (some (.int m t)) s→wpAny (model prog w) A (firstOfTuple' v) Q E s:=fun v hv=>by
    obtain ⟨ht,ne⟩:=hk v hv
    cases e:f v with
    | nil=>exact absurd e ne
    | cons m r =>
      rw [e] at ht
      obtain ⟨a,us,rfl,hT,iu⟩:=ht
      cases iu with
      | cons m t r2 =>
        refine ⟨m,t,fun {Q} h=>?_⟩
        obtain ⟨o,ho,hc,n,hd⟩:=hT
        show wpAny _ _ (do if (← typeOf (.ref a)) != .type "tuple" then return none
                           return (← Builtin.List.listItems (.ref a))[0]?) _ _ s
        refine wpAny_bind (wpAny_typeOf (T:="tuple") ⟨o,ho,hc⟩ ?_)
        rw [if_neg (by decide)]
        exact wpAny_bind (listItems_at ho hd (wpAny_pure h))
  obtain ⟨g,hg⟩:∃ g:Value→Int×Tok,∀ v∈ks,∀ {Q:Option Value→Shared→Prop},Q (some (.int (g v).1 (g v).2)) s→wpAny (model prog w) A (firstOfTuple' v) Q E s:=by
    classical
    refine ⟨fun v=>if h:v∈ks then ((hf v h).choose,(hf v h).choose_spec.choose) else (0,0),fun v hv Q h=>?_⟩
    dsimp only at h
    rw [dif_pos hv] at h
    exact (hf v hv).choose_spec.choose_spec h
  rw [keyKind'_eq,List.mapM_toArray]
  rw [map_eq_pure_bind,bind_assoc]
  refine wpAny_bind (mapM_wp (r:=fun v=>some (.int (g v).1 (g v).2)) ks hg ?_)
  rw [pure_bind]
  rw [if_pos (by simp)]
  refine wpAny_bind (wpAny_rule ?_)
  have iz:∃ ns,IntsAre (ks.map fun v=>Value.int (g v).1 (g v).2) ns:=by
    clear hk hf hg q
    induction ks with
    | nil=>exact ⟨[],.nil⟩
    | cons v r ih =>
      obtain ⟨ns,h⟩:=ih
      exact ⟨_,.cons _ _ h⟩
  obtain ⟨ns,iz⟩:=iz
  have ef:(ks.map fun v=>some (Value.int (g v).1 (g v).2)).toArray.filterMap id=(ks.map fun v=>Value.int (g v).1 (g v).2).toArray:=by
    apply Array.toList_inj.mp
    rw [Array.toList_filterMap]
    show List.filterMap id (ks.map fun v=>some (Value.int (g v).1 (g v).2))=ks.map fun v=>Value.int (g v).1 (g v).2
    rw [List.filterMap_map]
    show List.filterMap (fun v=>some (Value.int (g v).1 (g v).2)) ks=_
    rw [List.filterMap_eq_map']
  rw [ef,oneTypeOnly'_eq,List.mapM_toArray,mapM_typeOf_ints iz,map_pure,pure_bind]
  cases hts:(List.map (fun x=>Value.type "int") (List.map (fun v=>Value.int (g v).fst (g v).snd) ks)).toArray[0]? with
  | none=>exact wpAny_bind (wpAny_pure (wpAny_pure (q _)))
  | some t=>exact wpAny_bind (wpAny_pure (wpAny_pure (q _)))
end
end L2
namespace L2
open PySem PySem.Spec PyProof.Rows
theorem sort_key_eq (a f:Addr):Builtin.«list.sort» ⟨[.ref a],[("key",.ref f)]⟩=(do
  let row ← Builtin.List.listItems (.ref a)
  Builtin.List.listUpdate (.ref a) fun _=>#[]
  let first ← seqEpoch a
  let kept ← newTuple row.toList
  let store ← newList []
  holding [kept,store] do
   rule "list.sort.key"
   for x in row do
    match ← (call (.ref f) [x]).attempt with
    | .ok k=>Builtin.List.listUpdate store (·.push k)
    | .error e =>
     rule "list.sort.key-raised"
     let made ← Builtin.List.listItems store
     Builtin.List.listUpdate store fun _=>#[]
     letGo made.toList.reverse [e]
     Builtin.List.listUpdate (.ref a) fun _=>row
     throw e
   let ks ← Builtin.List.listItems store
   let kd ← if row.size < 2 then pure general' else keyKind' ks
   let ((),st) ← (if row.size < 2 then pure () else sortRuns').run (SortSt.mk' kd (ks.zip row) #[] 7 none)
   Builtin.List.listUpdate store fun _=>#[]
   letGo ((arrOf st).map (·.1)).toList (failedOf st).toList
   let other:=(← seqEpoch a) != first
   Builtin.List.listUpdate (.ref a) fun _=>(arrOf st).map (·.2)
   if let some e:=failedOf st then rule "list.sort.comparison-raised"; throw e
   if other then rule "list.sort.modified"; raiseError "ValueError" "list modified during sort"
   ret .none):=rfl
end L2
namespace L2
open PySem PySem.Spec PyProof.Rows
section
variable {X:Cx} {k:Nat} {f:Addr} {fd:FuncData} {ps:List Str} {sp:Sp}
theorem run_in2 {pins:List (Addr×Obj)} {σ:St} {H:Hp} {s:Shared} {Q:VK} {us:List Value} {vs:List V} {E:XK} (F:FnOk X.prog X.w X.K X.mg X.base CX0 k f fd ps sp) (hr:Room (k + 2) X.A) (hb:Binds X.K fd ps [])
  (I:Inv X pins σ H s) (r:Vals vs us) (h:sp vs H Q E) {E':Value→Shared→Prop}:wpAny (model X.prog X.w) X.A.in1.in1 (call (.ref f) us) (EP X pins σ Q) E' s:=by
 have hl:us.length=ps.length:=by rw [← r.length]; exact F.len _ _ _ _ h
 have hb':=hb s us I.kIn (by rw [List.append_nil]; exact hl)
 rw [List.append_nil] at hb'
 refine wpAny_call (codeAny_mono (F.run X.A.in1.in1 X.stack s H ⟨us,[]⟩ us vs Q E hr.in1.in1 I.env0.in1.in1 hb' r h) fun z s' hq=>?_)
 cases z with
 | error e=>exact False.elim hq
 | ok fl =>
  cases fl with
  | ret u=>exact I.after hq
  | next=>exact False.elim hq
  | brk=>exact False.elim hq
  | cont=>exact False.elim hq
end
section
variable {prog:Program} {w:World} {A:Around} {E:Value→Shared→Prop} {s:Shared}
open Classical in
noncomputable def keyAt (h:Heap) (v:Value):List Int:=if c:∃ ns,TupI h v ns then c.choose else []
theorem ints_one {us:List Value} {ns ms:List Int} (a:IntsAre us ns) (b:IntsAre us ms):ns=ms:=by
 induction a generalizing ms with
 | nil=>cases b; rfl
 | cons n t r ih=>cases b with | cons _ _ r2=>rw [ih r2]
theorem TupI.one {h:Heap} {v:Value} {ns ms:List Int} (a:TupI h v ns) (b:TupI h v ms):ns=ms:=by
 obtain ⟨p,us,rfl,⟨o,ho,_,n,hd⟩,iu⟩:=a
 obtain ⟨p2,vs,e,⟨o2,ho2,_,n2,hd2⟩,iv⟩:=b
 cases e
 rw [ho] at ho2
 cases ho2
 rw [hd] at hd2
 have e2:us.toArray=vs.toArray:=by injection hd2
 have e3:us=vs:=by simpa using e2
 subst e3
 exact ints_one iu iv
theorem keyAt_eq {h:Heap} {v:Value} {ns:List Int} (a:TupI h v ns):keyAt h v=ns:=by
 have c:∃ ns,TupI h v ns:=⟨ns,a⟩
 unfold keyAt
 rw [dif_pos c]
 exact c.choose_spec.one a
theorem srt_tup (b:Bool) {a0:Array Keyed} (hk:∀ p∈a0.toList,∃ ns,TupI s.heap p.1 ns):Srt (O:=lxO) (model prog w) A E s (fun p=>keyAt s.heap p.1) ([]:List Int) a0.size (TB (tupKind b) a0) where
 lt:=fun {st i j Q} hb hi hj q=>by
  have z:(arrOf st).size=a0.size:=hb.perm.size_eq
  have gi:(arrOf st)[i]?=some (arrOf st)[i]:=getElem?_pos _ i (by lia)
  have gj:(arrOf st)[j]?=some (arrOf st)[j]:=getElem?_pos _ j (by lia)
  have inn:∀ p,p∈(arrOf st).toList→∃ ns,TupI s.heap p.1 ns:=fun p hp=>hk p ((Array.perm_iff_toList_perm.mp hb.perm).mem_iff.mp hp)
  obtain ⟨ni,ti⟩:=inn (arrOf st)[i] (by simp)
  obtain ⟨nj,tj⟩:=inn (arrOf st)[j] (by simp)
  have q2:Q (some (lx ni nj)) st:=by
   have e1:fk (O:=lxO) (fun p=>keyAt s.heap p.1) ([]:List Int) (arrOf st) i=ni:=by unfold fk; rw [gi]; exact keyAt_eq ti
   have e2:fk (O:=lxO) (fun p=>keyAt s.heap p.1) ([]:List Int) (arrOf st) j=nj:=by unfold fk; rw [gj]; exact keyAt_eq tj
   rw [e1,e2] at q
   exact q
  rw [ltAt'_eq]
  refine wpS_bind (wpS_get ?_)
  show wpS _ _ _ _ (elem' (arrOf st) i >>= fun x=>elem' (arrOf st) j >>= fun y=>lt' x y) Q st
  rw [elem'_eq,elem'_eq,gi,gj]
  refine wpS_bind (wpS_pure (wpS_bind (wpS_pure ?_)))
  rw [lt'_eq]
  refine wpS_bind (wpS_get ?_)
  rw [hb.kind]
  exact wpS_bind (wpS_lift (wpAny_attempt (lt_tup b ti tj ⟨rfl,wpS_pure q2⟩)))
 put:=fun {st xs} hb hp=>⟨hb.kind,hp.trans hb.perm,hb.pend,hb.fail⟩
 sz:=fun {st} hb=>hb.perm.size_eq
end
end L2
namespace L2
open PySem PySem.Spec PyProof.Rows
theorem perm_lift {α β:Type} {g:α→β}:∀ {l m:List β},l.Perm m→∀ T:List α,T.map g=m→∃ T':List α,T'.Perm T∧T'.map g=l:=by
 intro l m h
 induction h with
 | nil=>intro T e; exact ⟨T,.refl _,e⟩
 | cons x _ ih =>
  intro T e
  cases T with
  | nil=>cases e
  | cons a r =>
   injection e with e1 e2
   obtain ⟨T',p,e3⟩:=ih r e2
   exact ⟨a :: T',.cons a p,by rw [List.map_cons,e1,e3]⟩
 | swap x y l =>
  intro T e
  match T,e with
  | a :: b :: r,e =>
   injection e with e1 e2
   injection e2 with e3 e4
   exact ⟨b :: a :: r,.swap a b r,by rw [List.map_cons,List.map_cons,e1,e3,e4]⟩
 | trans _ _ i1 i2 =>
  intro T e
  obtain ⟨T1,p1,e1⟩:=i2 T e
  obtain ⟨T2,p2,e2⟩:=i1 T1 e1
  exact ⟨T2,p2.trans p1,e2⟩
theorem vals_refs:∀ {ts:List Addr} {us:List Value},Vals (ts.map V.ref) us→us=ts.map Value.ref
 | [],_,.nil=>rfl
 | t :: r,_,.cons h h2=>by
  have e:_=Value.ref t:=h
  rw [List.map_cons,← vals_refs h2,e]
theorem vals_of {T:List (Keyed×V)} (h:∀ p∈T,RelV p.2 p.1.2):Vals (T.map (·.2)) (T.map (·.1.2)):=by
 induction T with
 | nil=>exact .nil
 | cons p r ih=>exact .cons (h p (List.mem_cons_self ..)) (ih fun x hx=>h x (List.mem_cons_of_mem _ hx))
theorem zip3 {R:Addr→V→Prop}:∀ {ts:List Addr} {xs:List V} {us:List Value},Paired R ts xs→Vals xs us →
  ((((ts.map Value.ref).zip us).zip xs).map (·.1)=(ts.map Value.ref).zip us)∧((((ts.map Value.ref).zip us).zip xs).map (·.2)=xs)∧∀ p∈((ts.map Value.ref).zip us).zip xs,RelV p.2 p.1.2∧∃ t,p.1.1=.ref t∧R t p.2
 | [],[],[],.nil,.nil=>⟨rfl,rfl,fun p hp=>by cases hp⟩
 | t :: ts,x :: xs,u :: us,.cons a r,.cons b r2=>by
  obtain ⟨h1,h2,h3⟩:=zip3 r r2
  refine ⟨by rw [List.map_cons,List.zip_cons_cons,List.zip_cons_cons,List.map_cons,h1],by rw [List.map_cons,List.zip_cons_cons,List.zip_cons_cons,List.map_cons,h2],fun p hp=>?_⟩
  rw [List.map_cons,List.zip_cons_cons,List.zip_cons_cons] at hp
  rcases List.mem_cons.mp hp with rfl | hp
  ·exact ⟨b,t,rfl,a⟩
  ·exact h3 p hp
theorem pr_app {α β:Type} {R:α→β→Prop}:∀ {a:List α} {b:List β} {c:List α} {d:List β},Paired R a b→Paired R c d→Paired R (a++c) (b++d)
 | _,_,_,_,.nil,h=>h
 | _,_,_,_,.cons x r,h=>.cons x (pr_app r h)
theorem order_out {h:Heap} {T:List (Keyed×V)} {a:Array Keyed} {key:V→List Int} (hp:a.toList.Perm (T.map (·.1))) (hT:∀ p∈T,RelV p.2 p.1.2∧TupI h p.1.1 (key p.2))
  (up:Up (O:=lxO) (fk (O:=lxO) (fun p=>keyAt h p.1) ([]:List Int) a) a.size):∃ ys:List V,ys.Perm (T.map (·.2))∧Vals ys (a.toList.map (·.2))∧ys.Pairwise (fun x y=>lx (key y) (key x)=false):=by
 obtain ⟨T',pT,eT⟩:=perm_lift (g:=fun p:Keyed×V=>p.1) hp T rfl
 have mem:∀ p∈T',RelV p.2 p.1.2∧TupI h p.1.1 (key p.2):=fun p hp=>hT p (pT.mem_iff.mp hp)
 have lenT:T'.length=a.size:=by
  have:=congrArg List.length eT
  rw [List.length_map,Array.length_toList] at this
  exact this
 refine ⟨T'.map (·.2),pT.map _,?_,?_⟩
 ·have e:a.toList.map (·.2)=T'.map (·.1.2):=by rw [← eT,List.map_map]; rfl
  rw [e]
  exact vals_of fun p hp=>(mem p hp).1
 ·rw [List.pairwise_map,List.pairwise_iff_getElem]
  intro i j hi hj hij
  have kk:∀ (m:Nat) (hm:m < T'.length),fk (O:=lxO) (fun p=>keyAt h p.1) ([]:List Int) a m=key T'[m].2:=fun m hm=>by
   have g:a[m]?=some T'[m].1:=by
    rw [← Array.getElem?_toList,← eT,List.getElem?_map,List.getElem?_eq_getElem hm]
    rfl
   unfold fk
   rw [g]
   exact keyAt_eq (mem T'[m] (List.getElem_mem hm)).2
  have u:=up i j (Nat.le_of_lt hij) (by lia)
  rw [kk i hi,kk j hj] at u
  exact u
theorem pr_mem {α β:Type} {R:α→β→Prop}:∀ {a:List α} {b:List β} {x:α},Paired R a b→x∈a→∃ y∈b,R x y
 | _,_,_,.cons h r,hx=>by
  rcases List.mem_cons.mp hx with rfl | hx
  ·exact ⟨_,List.mem_cons_self ..,h⟩
  ·obtain ⟨y,hy,e⟩:=pr_mem r hx
   exact ⟨y,List.mem_cons_of_mem _ hy,e⟩
theorem args_sortedK (a f:Value):argsOk "sorted" ⟨[a],[("key",f)]⟩:=by unfold argsOk; kernel_rfl
theorem args_sortK (a f:Value):argsOk "list.sort" ⟨[a],[("key",f)]⟩:=by unfold argsOk; kernel_rfl
section
variable {X:Cx} {k:Nat} {f:Addr} {fd:FuncData} {ps:List Str} {sp:Sp}
theorem sort_call {pins:List (Addr×Obj)} {σ:St} {H:Hp} {s:Shared} {Q:VK} {l:Addr} {xs:List V} {E:XK} (key:V→List Int) (F:FnOk X.prog X.w X.K X.mg X.base CX0 k f fd ps sp) (hr:Room (k + 2) X.A) (hb:Binds X.K fd ps [])
  (I:Inv X pins σ H s) (hl:SqT X.K H l xs) (h64:xs.length < 64) (hne:∀ x∈xs,key x≠[])
  (hk:∀ (H':Hp) (x:V),Same H H'→x∈xs→∀ Q':VK,(∀ (t:Addr) (H'':Hp),Same H' H''→H'' t=some (.tup ((key x).map V.int))→Q' (.ref t) H'')→sp [x] H' Q' E)
  (q:∀ (p:Addr) (ys:List V) (H':Hp),Same H H'→H' p=some (.lst ys)→ys.Perm xs→ys.Pairwise (fun a b=>lx (key b) (key a)=false)→Q (.ref p) H') :
  wpAny (model X.prog X.w) X.A (call (.builtin "sorted") [.ref l] [("key",.ref f)]) (EP X pins σ Q) X.xe s:=by
 obtain ⟨us,ru,pu,hz⟩:=I.tuple hl
 have lu:xs.length=us.length:=ru.length
 have szl:=sizeLine_eq
 refine call_function_entry_kw kind_sorted plain_sorted entry_sorted (args_sortedK _ _) ?_
 unfold Builtin.«sorted»
 refine wpAny_bind (m:=checkCount "sorted" 1 1 _) (wpAny_pure ?_)
 refine wpAny_bind (collect_tup (show s.heap.IsTuple l us.toArray from pu) (by lia) fun g1 k1 z1=>?_)
 refine wpAny_bind (wpAny_newList ?_)
 have gL:(g1.push (seqObj "list" us.toArray 0)).get? g1.objs.size=some (seqObj "list" us.toArray 0):=Heap.get?_push_size _ rfl
 refine wpAny_bind (wpAny_holding (wpAny_call_entry_kw slot_list_sort ⟨_,gL,rfl⟩ entry_list_sort ?_ (args_sortK _ _)))
 rw [sort_key_eq]
 refine wpAny_bind (listItems_at gL rfl (wpAny_bind (listUpdate_at gL rfl ?_ (by rw [List.size_toArray]; lia) (Nat.zero_le _))))
 obtain ⟨e1,gE⟩:∃ e1,((g1.push (seqObj "list" us.toArray 0)).update g1.objs.size (Obj.mapSeq fun _=>#[])).get? g1.objs.size=some (seqObj "list" #[] e1):=⟨_,get?_update_seq gL (fun _=>#[])⟩
 refine wpAny_bind (seqEpoch_at gE rfl (wpAny_bind (wpAny_newTuple (wpAny_bind (wpAny_newList (wpAny_holding ?_))))))
 dsimp only
 have L1:s.heap.objs.size≤g1.objs.size:=by lia
 have kA:∀ b o,s.heap.get? b=some o→((((g1.push (seqObj "list" us.toArray 0)).update g1.objs.size (Obj.mapSeq fun _=>#[])).push (seqObj "tuple" us.toArray 0)).push (seqObj "list" #[] 0)).get? b=some o:=fun b o e=>by
  have ne:b≠g1.objs.size:=Nat.ne_of_lt (Nat.lt_of_lt_of_le (Heap.lt_size e) L1)
  exact Heap.get?_push_of_some _ (Heap.get?_push_of_some _ ((Heap.get?_update_other _ _ (Ne.symm ne)).trans (Heap.get?_push_of_some _ (k1 b o e))))
 have zA:(((g1.push (seqObj "list" us.toArray 0)).update g1.objs.size (Obj.mapSeq fun _=>#[])).push (seqObj "tuple" us.toArray 0)).objs.size=g1.objs.size + 2:=by rw [Heap.size_push,Heap.size_update,Heap.size_push]
 have gL5:((((g1.push (seqObj "list" us.toArray 0)).update g1.objs.size (Obj.mapSeq fun _=>#[])).push (seqObj "tuple" us.toArray 0)).push (seqObj "list" #[] 0)).get? g1.objs.size=some (seqObj "list" #[] e1):=Heap.get?_push_of_some _ (Heap.get?_push_of_some _ gE)
 have gS5:((((g1.push (seqObj "list" us.toArray 0)).update g1.objs.size (Obj.mapSeq fun _=>#[])).push (seqObj "tuple" us.toArray 0)).push (seqObj "list" #[] 0)).get? (g1.objs.size + 2)=some (seqObj "list" #[] 0):=by
  have:=Heap.get?_push_size (((g1.push (seqObj "list" us.toArray 0)).update g1.objs.size (Obj.mapSeq fun _=>#[])).push (seqObj "tuple" us.toArray 0)) (o:=seqObj "list" #[] 0) rfl
  rw [zA] at this
  exact this
 rw [zA]
 generalize (((g1.push (seqObj "list" us.toArray 0)).update g1.objs.size (Obj.mapSeq fun _=>#[])).push (seqObj "tuple" us.toArray 0)).push (seqObj "list" #[] 0)=g5 at kA gL5 gS5 ⊢
 generalize hLe:g1.objs.size=L at *
 have fL:=I.fpOk (b:=L) (H':=H) (by lia) (I.hok.fresh (by lia))
 have nS:H (L + 2)=none:=I.hok.fresh (by lia)
 have I2:Inv X pins σ (upd H (L + 2) (.lst [])) { s with heap:=g5 }:=I.laid (t':=s.toks) kA (by lia) ⟨Nat.zero_le _,[],0,.nil,gS5⟩
 have I3:Inv X (pins++[(L,seqObj "list" #[] e1)]) σ (upd H (L + 2) (.lst [])) { s with heap:=g5 }:=I2.pins_of fun p hp=>by
  rcases List.mem_append.mp hp with hp | hp
  ·exact I2.pin p (List.mem_append_right _ hp)
  ·rw [List.mem_singleton.mp hp]
   exact ⟨gL5,by rw [upd_ne (show L≠L + 2 from Nat.ne_of_lt (Nat.lt_add_of_pos_right (by decide)))]; exact fL.1,fL.2.1,fL.2.2.1,fun v e=>by cases e⟩
 refine wpAny_bind (wpAny_rule (wpAny_bind (wpAny_mono (forIn_array_ _ (fun rest _ s'=>∃ (dv rv:List V) (du:List Value) (ts:List Addr) (Hc:Hp),xs=dv++rv∧us=du++rest∧Vals rv rest∧Vals dv du∧Inv X (pins++[(L,seqObj "list" #[] e1)]) σ Hc s'∧Same H Hc∧Hc (L + 2)=some (.lst (ts.map V.ref))∧Paired (fun t x=>Hc t=some (.tup ((key x).map V.int))) ts dv)
  (fun _ s'=>∃ (ts:List Addr) (Hc:Hp),Inv X (pins++[(L,seqObj "list" #[] e1)]) σ Hc s'∧Same H Hc∧Hc (L + 2)=some (.lst (ts.map V.ref))∧Paired (fun t x=>Hc t=some (.tup ((key x).map V.int))) ts xs) ?turn ?fin us.toArray PUnit.unit ⟨[],xs,[],[],_,rfl,rfl,ru,.nil,I3,(fun b o e=>by rw [upd_ne (ne_of_none e nS)]; exact e),upd_same,.nil⟩) ?post fun _ _ e=>e)))
 case fin =>
  rintro _ s' ⟨dv,rv,du,ts,Hc,e1,e2,v1,v2,Ic,sc,hS,pr⟩
  cases v1
  rw [List.append_nil] at e1
  subst e1
  exact ⟨ts,Hc,Ic,sc,hS,pr⟩
 case turn =>
  rintro x rest _ s' ⟨dv,rv,du,ts,Hc,e1,e2,v1,v2,Ic,sc,hS,pr⟩
  cases v1 with
  | @cons xv _ rv' _ rx v1 =>
  have hm:xv∈xs:=by rw [e1]; exact List.mem_append_right _ (List.mem_cons_self ..)
  have lts:=pr.length
  have ldv:dv.length≤xs.length:=by rw [e1,List.length_append]; lia
  refine wpAny_bind (wpAny_attempt (wpAny_mono (run_in2 F hr hb Ic (.cons rx .nil) (hk Hc xv sc hm (fun v H''=>∃ t,v=.ref t∧Same Hc H''∧H'' t=some (.tup ((key xv).map V.int))) fun t H'' s2 ht=>⟨t,rfl,s2,ht⟩)) (fun u s2x h=>?_) fun _ _ e=>e))
  obtain ⟨v,H2,Id,rv2,t,rfl,s2,ht⟩:=h
  obtain rfl:u=Value.ref t:=rv2
  obtain ⟨zz,its,n,r,hl2,e⟩:=Id.lstM (s2 _ _ hS)
  have li:its.length=ts.length:=by rw [← hl2,List.length_map]
  dsimp only
  refine wpAny_bind (listUpdate_at e rfl ?_ (by rw [List.size_toArray]; lia) (by show (its.toArray.push _).size≤_; rw [Array.size_push,List.size_toArray]; lia))
  refine wpAny_pure ?_
  have I4:=Id.lset (t':=s2x.toks) (its':=its++[Value.ref t]) (f:=fun x=>x.push (Value.ref t)) (ys:=(ts++[t]).map V.ref) (s2 _ _ hS) e (by simp) (by rw [List.map_append]; exact r.append (.cons rfl .nil)) (by rw [List.length_map,List.length_append]; show _ + 1≤_; lia)
  have tkp:∀ (a:Addr) (zs:List V),H2 a=some (.tup zs)→(upd H2 (L + 2) (.lst ((ts++[t]).map V.ref))) a=some (.tup zs):=fun a zs h=>by
   rw [upd_ne (fun e=>by rw [e,s2 _ _ hS] at h; cases h)]; exact h
  exact ⟨dv++[xv],rv',du++[x],ts++[t],_,by rw [e1]; simp,by rw [e2]; simp,v1,v2.append (.cons rx .nil),I4,(fun b o eb=>by rw [upd_ne (ne_of_none eb nS)]; exact s2 _ _ (sc b o eb)),upd_same,pr_app (L2.Paired.mapP pr fun a y h=>tkp a _ (s2 _ _ h)) (.cons (tkp t _ ht) .nil)⟩
 case post =>
  rintro _ s6 ⟨ts,Hc,Ic,sc,hS,pr⟩
  have ltx:=pr.length
  obtain ⟨zz,its,n6,r6,hl6,g6⟩:=Ic.lstM hS
  have ei:=vals_refs r6
  subst ei
  obtain ⟨z1,z2,z3⟩:=zip3 pr ru
  have hT:∀ p∈((ts.map Value.ref).zip us).zip xs,RelV p.2 p.1.2∧TupI s6.heap p.1.1 (key p.2):=fun p hp=>by
   obtain ⟨a1,t,e,ht⟩:=z3 p hp
   obtain ⟨us',r',p',_⟩:=Ic.tuple (SqT.of ht)
   exact ⟨a1,t,us',e,p',intsAre_of r'⟩
  have pinL:s6.heap.get? L=some (seqObj "list" #[] e1)∧Hc L=none:=by
   have:=Ic.pin (L,seqObj "list" #[] e1) (List.mem_append_right _ (List.mem_append_right _ (List.mem_singleton.mpr rfl)))
   exact ⟨this.1,this.2.1⟩
  have sz0:((ts.map Value.ref).toArray.zip us.toArray).size=xs.length:=by
   rw [Array.size_zip,List.size_toArray,List.size_toArray,List.length_map]; lia
  have tl0:((ts.map Value.ref).toArray.zip us.toArray).toList=(((ts.map Value.ref).zip us).zip xs).map (·.1):=by rw [z1]; simp
  refine wpAny_bind (listItems_at g6 rfl ?_)
  by_cases h2:us.toArray.size < 2
  ·rw [if_pos h2]
   refine wpAny_bind (wpAny_pure ?_)
   rw [if_pos h2,StateT.run_pure]
   refine wpAny_bind (wpAny_pure ?_)
   have hp:(arrOf (SortSt.mk' general' ((ts.map Value.ref).toArray.zip us.toArray) #[] 7 none)).Perm ((ts.map Value.ref).toArray.zip us.toArray):=Array.Perm.refl _
   have hf:failedOf (SortSt.mk' general' ((ts.map Value.ref).toArray.zip us.toArray) #[] 7 none)=none:=rfl
   have up:Up (O:=lxO) (fk (O:=lxO) (fun p=>keyAt s6.heap p.1) ([]:List Int) (arrOf (SortSt.mk' general' ((ts.map Value.ref).toArray.zip us.toArray) #[] 7 none))) ((ts.map Value.ref).toArray.zip us.toArray).size:=fun i j a b=>by
    rw [List.size_toArray] at h2
    have e:i=j:=by lia
    rw [e]; exact KeyOrd.kle_refl _
   generalize SortSt.mk' general' ((ts.map Value.ref).toArray.zip us.toArray) #[] 7 none=st at hp hf up ⊢
   dsimp only
   obtain ⟨ys,py,vy,wy⟩:=order_out (h:=s6.heap) (T:=((ts.map Value.ref).zip us).zip xs) (a:=arrOf st) (key:=key) (by rw [← tl0]; exact Array.perm_iff_toList_perm.mp hp) hT (by rw [hp.size_eq]; exact up)
   have szs:(arrOf st).size=xs.length:=hp.size_eq.trans sz0
   refine wpAny_bind (listUpdate_at g6 rfl ?_ (by rw [List.size_toArray,List.length_map]; lia) (Nat.zero_le _))
   have I7:=Ic.lset (t':=s6.toks) (its':=[]) (f:=fun _=>#[]) (ys:=[]) hS g6 rfl .nil (Nat.zero_le _)
   have gL7:=(I7.pin (L,seqObj "list" #[] e1) (List.mem_append_right _ (List.mem_append_right _ (List.mem_singleton.mpr rfl))))
   refine wpAny_bind (wpAny_letGo (wpAny_bind (seqEpoch_at gL7.1 rfl (wpAny_bind (listUpdate_at gL7.1 rfl ?_ (Nat.zero_le _) (by rw [Array.size_map]; lia))))))
   rw [hf]
   dsimp only
   rw [if_neg (by simp)]
   refine wpAny_pure ⟨_,rfl,wpAny_pure ⟨_,rfl,?_⟩⟩
   have I8:=I7.pins_of (pins':=pins) fun p hp=>I7.pin p (List.mem_append_right _ (List.mem_append_left _ hp))
   have nL:=gL7.2.1
   have oth:∀ b o,b ∉ [L]→(s6.heap.update (L + 2) (Obj.mapSeq fun _=>#[])).get? b=some o→((s6.heap.update (L + 2) (Obj.mapSeq fun _=>#[])).update L (Obj.mapSeq fun _=>(arrOf st).map (·.2))).get? b=some o:=fun b o nb e=>by
    have ne:b≠L:=fun z=>nb (by rw [z]; exact List.mem_singleton.mpr rfl)
    exact (Heap.get?_update_other _ _ (Ne.symm ne)).trans e
   refine ⟨.ref L,upd (upd Hc (L + 2) (.lst [])) L (.lst ys),?_,rfl,q L ys _ (fun b o e=>?_) upd_same (by rw [z2] at py; exact py) wy⟩
   ·refine Inv.step (s:={ s6 with heap:=s6.heap.update (L + 2) (Obj.mapSeq fun _=>#[]) }) (g':=s6.gens) (d':=s6.drawn) (t':=s6.toks) (ch:=[L]) I8 (fun b hb=>?_) (fun b o _ _ hc e _=>oth b o hc e) (fun b o _ _ hc e _=>⟨o.slots,oth b o hc e⟩) (fun b o hc e n=>?_) (fun b o hc e=>⟨o,oth b o hc e⟩) (fun b zs e=>?_) (fun b o u e=>?_) (fun b ps e=>⟨#[],?_⟩) (fun m hm=>?_) (fun b o e=>?_) I8.bare
    ·rw [List.mem_singleton.mp hb]
     exact ⟨fL.2.2.2.1,fL.2.1,fL.2.2.2.2.1,fL.2.2.2.2.2⟩
    ·rw [upd_ne (fun z=>hc (by rw [z]; exact List.mem_singleton.mpr rfl))]; exact n
    ·rw [upd_ne (ne_of_none e nL)]; exact e
    ·rw [upd_ne (ne_of_none e nL)]; exact e
    ·rw [upd_ne (ne_of_none e nL),e]; simp
    ·obtain ⟨o,es,ep,ho,r⟩:=hm
     exact ⟨o,es,ep,oth _ o (fun z=>fL.2.1 (List.mem_singleton.mp z).symm) ho,r⟩
    ·by_cases hb:b=L
     ·subst hb
      rw [upd_same] at e
      cases e
      have lys:ys.length=(arrOf st).size:=by have:=py.length_eq; rw [z2] at this; lia
      exact ⟨by lia,_,_,vy,by
       have:=get?_update_seq gL7.1 (fun _=>(arrOf st).map (·.2))
       rw [this]
       congr 3
       apply Array.toList_inj.mp
       simp⟩
     ·rw [upd_ne hb] at e
      refine (I8.hok b o e).stay (fun c v' hcc r=>?_) (fun c r=>by rw [upd_ne (ne_of_none r nL)]; exact r) fun c xs r=>by rw [upd_ne (ne_of_none r nL)]; exact r
      rcases hcc with rfl | hcc
      ·exact oth c v' (fun z=>hb (List.mem_singleton.mp z)) r
      ·exact oth c v' (fun z=>ne_of_none hcc nL (List.mem_singleton.mp z)) r
   ·rw [upd_ne (ne_of_none e fL.1),upd_ne (ne_of_none e nS)]; exact sc b o e
  ·rw [if_neg h2]
   refine wpAny_bind (kind_tup (f:=fun v=>keyAt s6.heap v) (fun v hv=>?_) fun b=>?_)
   ·obtain ⟨t,ht,rfl⟩:=List.mem_map.mp hv
    obtain ⟨x,hx,e⟩:=pr_mem pr ht
    obtain ⟨us',r',p',_⟩:=Ic.tuple (SqT.of e)
    have ti:TupI s6.heap (.ref t) (key x):=⟨t,us',rfl,p',intsAre_of r'⟩
    rw [keyAt_eq ti]
    exact ⟨ti,hne x hx⟩
   rw [if_neg h2]
   rw [List.size_toArray] at h2
   have hk0:∀ p∈((ts.map Value.ref).toArray.zip us.toArray).toList,∃ ns,TupI s6.heap p.1 ns:=fun p hp=>by
    rw [tl0] at hp
    obtain ⟨p2,h2,rfl⟩:=List.mem_map.mp hp
    exact ⟨_,(hT p2 h2).2⟩
   refine wpAny_bind (wpAny_mono (srt_runs (srt_tup b hk0) (by rw [sz0]; lia) (by rw [sz0]; exact h64) (st:=SortSt.mk' (tupKind b) ((ts.map Value.ref).toArray.zip us.toArray) #[] 7 none) ⟨rfl,Array.Perm.refl _,rfl,rfl⟩ (Q:=fun _ st=>(arrOf st).Perm ((ts.map Value.ref).toArray.zip us.toArray)∧failedOf st=none∧Up (O:=lxO) (fk (O:=lxO) (fun p=>keyAt s6.heap p.1) ([]:List Int) (arrOf st)) ((ts.map Value.ref).toArray.zip us.toArray).size) fun st' a b c=>⟨a,b,c⟩) ?_ fun _ _ e=>e)
   rintro ⟨⟨⟩,st⟩ s' ⟨es,hp,hf,up⟩
   have es2:=es.symm
   subst es2
   dsimp only
   obtain ⟨ys,py,vy,wy⟩:=order_out (h:=s6.heap) (T:=((ts.map Value.ref).zip us).zip xs) (a:=arrOf st) (key:=key) (by rw [← tl0]; exact Array.perm_iff_toList_perm.mp hp) hT (by rw [hp.size_eq]; exact up)
   have szs:(arrOf st).size=xs.length:=hp.size_eq.trans sz0
   refine wpAny_bind (listUpdate_at g6 rfl ?_ (by rw [List.size_toArray,List.length_map]; lia) (Nat.zero_le _))
   have I7:=Ic.lset (t':=s6.toks) (its':=[]) (f:=fun _=>#[]) (ys:=[]) hS g6 rfl .nil (Nat.zero_le _)
   have gL7:=(I7.pin (L,seqObj "list" #[] e1) (List.mem_append_right _ (List.mem_append_right _ (List.mem_singleton.mpr rfl))))
   refine wpAny_bind (wpAny_letGo (wpAny_bind (seqEpoch_at gL7.1 rfl (wpAny_bind (listUpdate_at gL7.1 rfl ?_ (Nat.zero_le _) (by rw [Array.size_map]; lia))))))
   rw [hf]
   dsimp only
   rw [if_neg (by simp)]
   refine wpAny_pure ⟨_,rfl,wpAny_pure ⟨_,rfl,?_⟩⟩
   have I8:=I7.pins_of (pins':=pins) fun p hp=>I7.pin p (List.mem_append_right _ (List.mem_append_left _ hp))
   have nL:=gL7.2.1
   have oth:∀ b o,b ∉ [L]→(s6.heap.update (L + 2) (Obj.mapSeq fun _=>#[])).get? b=some o→((s6.heap.update (L + 2) (Obj.mapSeq fun _=>#[])).update L (Obj.mapSeq fun _=>(arrOf st).map (·.2))).get? b=some o:=fun b o nb e=>by
    have ne:b≠L:=fun z=>nb (by rw [z]; exact List.mem_singleton.mpr rfl)
    exact (Heap.get?_update_other _ _ (Ne.symm ne)).trans e
   refine ⟨.ref L,upd (upd Hc (L + 2) (.lst [])) L (.lst ys),?_,rfl,q L ys _ (fun b o e=>?_) upd_same (by rw [z2] at py; exact py) wy⟩
   ·refine Inv.step (s:={ s6 with heap:=s6.heap.update (L + 2) (Obj.mapSeq fun _=>#[]) }) (g':=s6.gens) (d':=s6.drawn) (t':=s6.toks) (ch:=[L]) I8 (fun b hb=>?_) (fun b o _ _ hc e _=>oth b o hc e) (fun b o _ _ hc e _=>⟨o.slots,oth b o hc e⟩) (fun b o hc e n=>?_) (fun b o hc e=>⟨o,oth b o hc e⟩) (fun b zs e=>?_) (fun b o u e=>?_) (fun b ps e=>⟨#[],?_⟩) (fun m hm=>?_) (fun b o e=>?_) I8.bare
    ·rw [List.mem_singleton.mp hb]
     exact ⟨fL.2.2.2.1,fL.2.1,fL.2.2.2.2.1,fL.2.2.2.2.2⟩
    ·rw [upd_ne (fun z=>hc (by rw [z]; exact List.mem_singleton.mpr rfl))]; exact n
    ·rw [upd_ne (ne_of_none e nL)]; exact e
    ·rw [upd_ne (ne_of_none e nL)]; exact e
    ·rw [upd_ne (ne_of_none e nL),e]; simp
    ·obtain ⟨o,es,ep,ho,r⟩:=hm
     exact ⟨o,es,ep,oth _ o (fun z=>fL.2.1 (List.mem_singleton.mp z).symm) ho,r⟩
    ·by_cases hb:b=L
     ·subst hb
      rw [upd_same] at e
      cases e
      have lys:ys.length=(arrOf st).size:=by have:=py.length_eq; rw [z2] at this; lia
      exact ⟨by lia,_,_,vy,by
       have:=get?_update_seq gL7.1 (fun _=>(arrOf st).map (·.2))
       rw [this]
       congr 3
       apply Array.toList_inj.mp
       simp⟩
     ·rw [upd_ne hb] at e
      refine (I8.hok b o e).stay (fun c v' hcc r=>?_) (fun c r=>by rw [upd_ne (ne_of_none r nL)]; exact r) fun c xs r=>by rw [upd_ne (ne_of_none r nL)]; exact r
      rcases hcc with rfl | hcc
      ·exact oth c v' (fun z=>hb (List.mem_singleton.mp z)) r
      ·exact oth c v' (fun z=>ne_of_none hcc nL (List.mem_singleton.mp z)) r
   ·rw [upd_ne (ne_of_none e fL.1),upd_ne (ne_of_none e nS)]; exact sc b o e
end
end L2
namespace L2
open PySem PySem.Spec PyProof.Rows
theorem bt_sorted:bootBuiltins "sorted"=some (.builtin "sorted"):=by decide +kernel
section
variable {X:Cx} {k:Nat} {f:Addr} {fd:FuncData} {ps:List Str} {sp:Sp}
noncomputable def tSortK (K:PySem.W.Frag) (sp:Sp) (E:XK) (ta:TE):TE:=fun σ H Q=>ta σ H fun x H1=>∃ (l:Addr) (xs:List V) (key:V→List Int),x=.ref l∧SqT K H1 l xs∧xs.length < 64∧(∀ x∈xs,key x≠[]) ∧
 (∀ (H':Hp) (x:V),Same H1 H'→x∈xs→∀ Q':VK,(∀ (t:Addr) (H'':Hp),Same H' H''→H'' t=some (.tup ((key x).map V.int))→Q' (.ref t) H'')→sp [x] H' Q' E) ∧
 ∀ (p:Addr) (ys:List V) (H':Hp),Same H1 H'→H' p=some (.lst ys)→ys.Perm xs→ys.Pairwise (fun a b=>lx (key b) (key a)=false)→Q (.ref p) H'
theorem pe_sortK {a:Expr} {ta:TE} {g:Str} {p p2 kp pos:Pos} {E:XK} (F:FnOk X.prog X.w X.K X.mg X.base CX0 k f fd ps sp) (hb:Binds X.K fd ps []) (hm:X.mg g=some (.ref f)) (hr:Room (k + 2) X.A) (hms:X.mg "sorted"=none) (ha:PE X a ta)
  (hgs:Gl X "sorted":=by rfl) (hg:Gl X g:=by rfl) (hdb:(g == ("__debug__":Str))=false:=by decide) (hs:starEach [a] X.env=[(false,eval a X.env)]:=by rfl) :
  PE X (.Call (.Name "sorted" p) [a] [⟨some "key",.Name g p2,kp⟩] pos) (tSortK X.K sp E ta):=by
 intro pins s σ H Q I h
 refine wpAny_Call_Name_kw (ld_blt I hgs hms bt_sorted ?_)
 refine callWith_kw (thn ((pa_cons ha pa_nil hs) pos pins s σ H (fun vs H1=>match vs with
  | [x]=>∃ (l:Addr) (xs:List V) (key:V→List Int),x=.ref l∧SqT X.K H1 l xs∧xs.length < 64∧(∀ x∈xs,key x≠[]) ∧
   (∀ (H':Hp) (x:V),Same H1 H'→x∈xs→∀ Q':VK,(∀ (t:Addr) (H'':Hp),Same H' H''→H'' t=some (.tup ((key x).map V.int))→Q' (.ref t) H'')→sp [x] H' Q' E) ∧
   ∀ (p:Addr) (ys:List V) (H':Hp),Same H1 H'→H' p=some (.lst ys)→ys.Perm xs→ys.Pairwise (fun a b=>lx (key b) (key a)=false)→Q (.ref p) H'
  | _=>False) I h) fun us s1 ⟨vs,H1,I1,r1,q0⟩=>?_) (by rw [hs]; rfl) (by rw [hs]; rfl)
 obtain ⟨x,rfl,l,xs,key,rfl,h1,h2,h3,h4,q⟩:∃ x,vs=[x]∧∃ (l:Addr) (xs:List V) (key:V→List Int),x=.ref l∧SqT X.K H1 l xs∧xs.length < 64∧(∀ x∈xs,key x≠[]) ∧
   (∀ (H':Hp) (x:V),Same H1 H'→x∈xs→∀ Q':VK,(∀ (t:Addr) (H'':Hp),Same H' H''→H'' t=some (.tup ((key x).map V.int))→Q' (.ref t) H'')→sp [x] H' Q' E) ∧
   ∀ (p:Addr) (ys:List V) (H':Hp),Same H1 H'→H' p=some (.lst ys)→ys.Perm xs→ys.Pairwise (fun a b=>lx (key b) (key a)=false)→Q (.ref p) H':=by
  match vs,q0 with
  | [x],q0=>exact ⟨x,rfl,q0⟩
 obtain ⟨u,rfl,ru⟩:=vals1 r1
 cases ru
 refine kws_cons (ld_glob I1 hg hm (kws_nil ?_) hdb)
 exact sort_call key F hr hb I1 h1 h2 h3 h4 q
theorem pe_sortD {a:Expr} {ta:TE} {g:Str} {p p2 kp pos:Pos} {E:XK} (G:Def X.prog X.w X.K X.mg X.base CX0 k g sp) (hr:Room (k + 2) X.A) (hms:X.mg "sorted"=none) (ha:PE X a ta)
  (hgs:Gl X "sorted":=by rfl) (hg:Gl X g:=by rfl) (hdb:(g == ("__debug__":Str))=false:=by decide) (hs:starEach [a] X.env=[(false,eval a X.env)]:=by rfl) :
  PE X (.Call (.Name "sorted" p) [a] [⟨some "key",.Name g p2,kp⟩] pos) (tSortK X.K sp E ta):=by
 obtain ⟨f,fd,ps,F,b,c,_⟩:=G.ex
 exact pe_sortK F b c hr hms ha hgs hg hdb hs
end
end L2
namespace HT
open PySem PySem.Spec PyProof.Rows
theorem adj_rev (n:Nat):Builtin.Slice.sliceAdjust none none (-1) (n:Int)=((n:Int) - 1,-1):=by
 unfold Builtin.Slice.sliceAdjust
 rfl
theorem places_rev (n:Nat):Builtin.Slice.slicePlaces ((n:Int) - 1) (-1) (-1)=n:=by
 unfold Builtin.Slice.slicePlaces
 simp
 lia
theorem fm_congr {α β:Type} {f g:α→Option β}:∀ {l:List α},(∀ x∈l,f x=g x)→l.filterMap f=l.filterMap g
 | [],_=>rfl
 | a :: r,h=>by
  rw [List.filterMap_cons,List.filterMap_cons,h a (List.mem_cons_self ..),fm_congr fun x hx=>h x (List.mem_cons_of_mem _ hx)]
theorem pick_rev (xs:List Value):((List.range xs.length).filterMap fun (m:Nat)=>xs.toArray[(((xs.length:Int) - 1) + (m:Int) * (-1)).toNat]?).toArray=xs.reverse.toArray:=by
 have e:=pick_gen xs.reverse.toArray 0 xs.length
 have e2:(xs.reverse.toArray.toList.drop 0).take xs.length=xs.reverse:=by
  show (xs.reverse.drop 0).take xs.length=xs.reverse
  rw [List.drop_zero,← List.length_reverse,List.take_length]
 rw [e2] at e
 rw [← e]
 refine congrArg List.toArray (fm_congr fun m hm=>?_)
 have hm':m < xs.length:=List.mem_range.mp hm
 rw [show (((xs.length:Int) - 1) + (m:Int) * (-1)).toNat=xs.length - 1 - m by lia,show ((((0:Nat):Int)) + (m:Int) * 1).toNat=m by lia]
 rw [List.getElem?_toArray,List.getElem?_toArray,List.getElem?_reverse hm']
section
variable {prog:Program} {w:World} {A:Around} {E:Value→Shared→Prop} {s:Shared}
theorem sliceApplied_rev {sl:Addr} {vs:Value} {n:Nat} {Q:Int×Int×Nat→Shared→Prop} (hs:s.heap.IsSliceOf sl .none .none vs) (pv:IsPart vs (some (-1))) (h:Q ((n:Int) - 1,-1,n) s):wpAny (model prog w) A (Builtin.Slice.sliceApplied (.ref sl) (pure (n:Int))) Q E s:=by
 obtain ⟨os,hos,hcs,hds⟩:=id hs
 unfold Builtin.Slice.sliceApplied Builtin.Slice.sliceFields
 refine wpAny_bind (wpAny_bind (wpAny_field hos hds (x:=.none) rfl (wpAny_bind (wpAny_field hos hds (x:=.none) rfl (wpAny_bind (wpAny_field hos hds (x:=vs) rfl (wpAny_pure ?_)))))))
 refine wpAny_bind (slicePart_ pv ?_)
 show wpAny _ _ (if ((-1:Int) == 0)=true then _ else _) _ _ s
 rw [if_neg (by decide)]
 refine wpAny_bind (slicePart_none (wpAny_bind (slicePart_none (wpAny_bind (wpAny_pure ?_)))))
 show wpAny _ _ (match Builtin.Slice.sliceAdjust none none (-1) (n:Int) with | (lo,hi)=>pure (lo,(-1:Int),Builtin.Slice.slicePlaces lo hi (-1))) _ _ s
 rw [adj_rev n]
 show wpAny _ _ (pure ((n:Int) - 1,(-1:Int),Builtin.Slice.slicePlaces ((n:Int) - 1) (-1) (-1))) _ _ s
 rw [places_rev]
 exact wpAny_pure h
theorem getItem_tuple_rev {t sl:Addr} {us:List Value} {vs:Value} {Q:Value→Shared→Prop} (ht:IsTup s.heap t us.toArray) (hs:s.heap.IsSliceOf sl .none .none vs) (pv:IsPart vs (some (-1)))
    (h:Q (.ref s.heap.objs.size) { s with heap:=s.heap.push { cls:=.type "tuple",data:=.seq us.reverse.toArray } }) (hsz:us.length≤sizeLine):wpAny (model prog w) A (getItem (.ref t) (.ref sl)) Q E s:=by
  obtain ⟨os,hos,hcs,hds⟩:=id hs
  have hTs:s.TypeIs (.ref sl) "slice":=⟨os,hos,hcs⟩
  unfold getItem
  try with_reducible refine wpAny_holding ?_
  first | refine wpAny_bind (wpAny_pure ?_) | skip
  refine wpAny_bind (wpAny_sequenceKey ht.typeIs (by decide) ?_)
  refine wpAny_bind (wpAny_callSpecial?_slot (name:=Str.ofString "__getitem__") ht.typeIs PyProof.Rows.slot_tuple_getitem
    (wpAny_call_entry PyProof.Rows.slot_tuple_getitem ht.typeIs entry_tuple_getitem ?_ (args_tuple_getitem _ _)))
  show wpAny _ _ (Builtin.Tuple.tupleItemsOf (.ref t) >>= _) _ _ s
  refine wpAny_bind (tupleItemsOf_ ht ?_)
  refine wpAny_bind (wpAny_typeOf hTs ?_)
  rw [if_pos (by decide)]
  rw [show us.toArray.size=us.length from List.size_toArray ..]
  refine wpAny_bind (sliceApplied_rev hs pv ?_)
  show wpAny _ _ (if (((us.length:Int) - 1) == 0 && (-1:Int) == 1 && us.length == us.length)=true then _ else _) _ _ s
  rw [if_neg (by simp),pick_rev]
  have hk:sizeOk (.seq us.reverse.toArray):=by show us.reverse.toArray.size≤sizeLine; rw [List.size_toArray,List.length_reverse]; exact hsz
  first
    | exact wpAny_bind (m:=Builtin.Tuple.tupleExact _) (wpAny_newObj_type (wpAny_pure ⟨_,rfl,wpAny_pure h⟩) hk)
    | exact wpAny_bind (m:=Builtin.Tuple.tupleExact _) (wpAny_newObj_type (wpAny_bind (wpAny_pure (wpAny_pure ⟨_,rfl,wpAny_pure h⟩))) hk)
    | exact wpAny_bind (wpAny_bind (m:=Builtin.Tuple.tupleExact _) (wpAny_newObj_type (wpAny_pure (wpAny_pure ⟨_,rfl,wpAny_pure h⟩)) hk))
    | exact wpAny_bind (wpAny_bind (m:=Builtin.Tuple.tupleExact _) (wpAny_newObj_type (wpAny_pure ⟨_,rfl,wpAny_pure h⟩) hk))
end
end HT
namespace L2
open PySem PySem.Spec PyProof.Rows
variable {X:Cx}
theorem pe_revT {e:Expr} {te:TE} {j} {p2 p3 p4 pos:Pos} (he:PE X e te):PE X (.Subscript e (.Slice none none (some (.UnaryOp .USub (.Constant (.int 1) j p3) p4)) p2) pos) (fun σ H Q=>te σ H fun x H1=>∃ a xs,x=.ref a∧SqT X.K H1 a xs∧∀ p,H1 p=none→Q (.ref p) (upd H1 p (.tup xs.reverse))):=by
 intro pins s σ H Q I h
 refine Subscript_ (thn (he pins s σ H _ I h) fun v s1 ⟨x,H1,I1,r1,q1⟩=>?_)
 obtain ⟨a,xs,rfl,hx,q⟩:=q1
 obtain rfl:v=Value.ref a:=r1
 refine wpAny_Slice ?_
 rw [evalPart_none]
 refine wpAny_pure (wpAny_pure ?_)
 refine thn (po_some (X:=X) (pe_un un_neg pe_int) pins s1 σ H1 (fun o H'=>o=some (-1)∧H'=H1) I1 ⟨1,rfl,-1,rfl,rfl,rfl⟩) fun vs s2 ⟨o,H2,I2,ip,eo,eH⟩=>?_
 subst eo eH
 obtain ⟨its,r,ht,hz⟩:=I2.tuple hx
 have hlen:=r.length
 have I4:Inv X pins σ H2 { s2 with heap:=s2.heap.push { cls:=.type "slice",data:=.fields #[.none,.none,vs] } }:=I2.kept (t':=s2.toks) fun b ob q=>Heap.get?_push_of_some _ q
 obtain ⟨its4,r4,ht4,hz4⟩:=I4.tuple hx
 refine tail_any (ops:=[.ref a,.ref s2.heap.objs.size]) ht4.typeIs PyProof.Rows.slot_tuple_getitem.lookup ?_ (by with_unfolding_all rfl)
 refine HT.getItem_tuple_rev ht4 (Heap.IsSliceOf.new ..) ip ?_ (by rw [← r4.length]; exact hz4)
 refine ⟨.ref _,_,I4.laid (t':=s2.toks) (o:=.tup xs.reverse) (fun b ob q=>Heap.get?_push_of_some _ q) (Nat.le_refl _) ?_,rfl,q _ (I4.hok.fresh (Nat.le_refl _))⟩
 exact ⟨by rw [List.length_reverse]; exact hz,its4.reverse,r4.reverse,IsTup.new _ _⟩
theorem mt_extendT:MtM X "list.extend" (fun x vs H Q=>∃ l b xs zs,x=.ref l∧vs=[.ref b]∧H l=some (.lst xs)∧H b=some (.tup zs)∧xs.length + zs.length≤1000000∧Q .non (upd H l (.lst (xs++zs)))):=by
 intro pins s σ H x vs v us Q I rx rv h
 obtain ⟨l,b,xs,zs,rfl,rfl,hH,hB,hz,q⟩:=h
 cases rx
 obtain ⟨u,rfl,ru⟩:=rv.one
 cases ru
 have szl:=sizeLine_eq
 obtain ⟨z,its,n,r,hl,e⟩:=I.lstM hH
 obtain ⟨its2,r2,⟨o2,e2,c2,n2,d2⟩,z2⟩:=I.tuple (SqT.of hB)
 have l1:=r.length
 have l2:=r2.length
 refine wpAny_call_entry F.slot_list_extend ⟨_,e,rfl⟩ F.entry_list_extend ?_ (F.args_list_extend_2 _ _)
 show wpAny _ _ (Builtin.List.listExtendWith (.ref l) (.ref b) .none) _ _ s
 unfold Builtin.List.listExtendWith
 refine wpAny_bind (wpAny_typeOf (T:="tuple") ⟨o2,e2,c2⟩ ?_)
 rw [if_pos (by rw [show (Value.type "tuple" == Value.type "tuple")=true from rfl]; simp)]
 refine wpAny_bind (listItems_at e2 d2 (wpAny_bind (listItems_at e rfl ?_)))
 have nl:¬ (!its.toArray.isEmpty && Builtin.List.listTooLong (its.toArray.size + its2.toArray.size))=true:=by
  rw [notLongL (by rw [List.size_toArray,List.size_toArray]; lia),Bool.and_false]
  exact Bool.false_ne_true
 rw [if_neg nl]
 refine wpAny_bind (listUpdate_at e rfl ?_ (by rw [List.size_toArray]; lia) (by rw [Array.size_append,List.size_toArray,List.size_toArray]; lia))
 refine wpAny_pure ⟨_,rfl,.non,_,I.lset (t':=s.toks) (its':=its++its2) hH e (by simp) (r.append r2) (by rw [List.length_append]; lia),rfl,q⟩
theorem op_catG:OpR X (binaryOp .Add) (fun x y H Q=>∃ a b xs ys,x=.ref a∧y=.ref b∧H a=some (.tup xs)∧H b=some (.tup ys)∧xs.length + ys.length≤1000000∧∀ p H',Same H H'→H' p=some (.tup (xs++ys))→Q (.ref p) H'):=by
 intro pins s σ H x y v u Q I rx ry h
 obtain ⟨a,b,xs,ys,rfl,rfl,ha,hb,hz,q⟩:=h
 have szl:=sizeLine_eq
 by_cases hx:xs=[]
 ·subst hx
  cases rx
  cases ry
  obtain ⟨its,r1,⟨⟨cls,dd,data,sl⟩,ho,hc,n,hd⟩,_⟩:=I.tuple (SqT.of ha)
  obtain ⟨its2,r2,⟨⟨cls2,dd2,data2,sl2⟩,ho2,hc2,n2,hd2⟩,_⟩:=I.tuple (SqT.of hb)
  simp only at hc hd hc2 hd2
  subst hc hd hc2 hd2
  have e0:its=[]:=r1.nil_iff.mpr rfl
  exact concat_meets ⟨_,ho,rfl⟩ ⟨_,ho2,rfl⟩ noFill_tuple_add seq_tuple_add PySem.F.slot_tuple_add PySem.F.entry_tuple_add (PySem.F.args_tuple_add_2 _ _)
   (tuple_addW0 a b its.toArray its2.toArray n n2 dd dd2 sl sl2 (by simp [e0])) ⟨ho,ho2,⟨.ref b,H,I,rfl,q b H (Same.refl H) hb⟩⟩
 ·exact op_catT pins s σ H _ _ v u Q I rx ry ⟨a,b,xs,ys,rfl,rfl,SqT.of ha,SqT.of hb,hx,by lia,(fun e=>q a H (Same.refl H) (by rw [e,List.append_nil]; exact ha)),fun _ p hp=>q p _ (fun c o e=>by rw [upd_ne (ne_of_none e hp)]; exact e) upd_same⟩
end L2
namespace Law
open PySem L2
noncomputable def Keep (S:List Addr) (H H':Hp):Prop:=∀ b o,H b=some o→b ∉ S→H' b=some o
theorem Keep.trans {S:List Addr} {H H1 H2:Hp} (a:Keep S H H1) (b:Keep S H1 H2):Keep S H H2:=fun c o h n=>b c o (a c o h n) n
theorem Keep.same {S:List Addr} {H H':Hp} (a:Same H H'):Keep S H H':=fun b o h _=>a b o h
theorem Keep.new {S:List Addr} {H:Hp} {p:Addr} {o:HO} (h:H p=none):Keep S H (upd H p o):=fun b u q _=>by rw [upd_ne (ne_of_none q h)]; exact q
theorem Keep.upd {S:List Addr} {H:Hp} {p:Addr} {o:HO} (h:p∈S):Keep S H (upd H p o):=fun b u q n=>by
 have hb:b≠p:=fun e=>n (by rw [e]; exact h)
 rw [upd_ne hb]; exact q
theorem Same.new {H:Hp} {p:Addr} {o:HO} (h:H p=none):Same H (L2.upd H p o):=fun b u q=>by rw [upd_ne (ne_of_none q h)]; exact q
noncomputable def KT (H H':Hp):Prop:=∀ p xs,H p=some (.tup xs)→H' p=some (.tup xs)
theorem KT.trans {H H1 H2:Hp} (a:KT H H1) (b:KT H1 H2):KT H H2:=fun p xs h=>b p xs (a p xs h)
theorem KT.same {H H':Hp} (a:Same H H'):KT H H':=fun p xs h=>a p _ h
theorem KT.upd {H:Hp} {p:Addr} {o:HO} {ys:List V} (h:H p=some (.lst ys)):KT H (L2.upd H p o):=fun b xs q=>by
 rw [upd_ne]; · exact q
 ·intro e; subst e; rw [h] at q; cases q
theorem KT.new {H:Hp} {p:Addr} {o:HO} (h:H p=none):KT H (L2.upd H p o):=KT.same (Same.new h)
noncomputable def DeckAt (H:Hp) (d c:Addr):Prop:=∃ (cells:List Int) (a seed:Int),H d=some (.lst [.ref c,.int a,.int seed])∧H c=some (.lst (cells.map V.int))∧0 < cells.length
theorem DeckAt.kt {H H':Hp} {d c:Addr} (D:DeckAt H d c) (k:Keep [d,c] H H'):KT H H':=by
 obtain ⟨cells,a,seed,h1,h2,_⟩:=D
 intro p xs h
 refine k p _ h ?_
 intro m
 rcases List.mem_cons.mp m with e | m
 ·subst e; rw [h1] at h; cases h
 ·rcases List.mem_cons.mp m with e | m
  ·subst e; rw [h2] at h; cases h
  ·cases m
theorem DeckAt.ne {H:Hp} {d c:Addr} (D:DeckAt H d c):d≠c:=by
 obtain ⟨cells,a,seed,h1,h2,h3⟩:=D
 intro e; subst e; rw [h1] at h2
 cases cells with
 | nil=>cases h3
 | cons n r=>cases h2
theorem DeckAt.same {H H':Hp} {d c:Addr} (D:DeckAt H d c) (s:Same H H'):DeckAt H' d c:=by
 obtain ⟨cells,a,seed,h1,h2,h3⟩:=D
 exact ⟨cells,a,seed,s _ _ h1,s _ _ h2,h3⟩
theorem DeckAt.new {H:Hp} {d c p:Addr} {o:HO} (D:DeckAt H d c) (h:H p=none):DeckAt (L2.upd H p o) d c:=D.same (Same.new h)
theorem DeckAt.nin {H:Hp} {d c p:Addr} (D:DeckAt H d c) (h:H p=none):p ∉ [d,c]:=by
 obtain ⟨cells,a,seed,h1,h2,_⟩:=D
 intro m
 rcases List.mem_cons.mp m with e | m
 ·subst e; rw [h1] at h; cases h
 ·rcases List.mem_cons.mp m with e | m
  ·subst e; rw [h2] at h; cases h
  ·cases m
theorem atI_mem {α:Type} {xs:List α} {r:Int} (h0:0≤r) (h1:r < (xs.length:Int)):∃ v,atI xs r=some v∧v∈xs:=by
 have hl:r.toNat < xs.length:=by lia
 have e:r=((r.toNat:Nat):Int):=by lia
 have h:atI xs ((r.toNat:Nat):Int)=some xs[r.toNat]:=atI_nat (List.getElem?_eq_getElem hl)
 rw [← e] at h
 exact ⟨xs[r.toNat],h,List.getElem_mem hl⟩
theorem ixN_of {n:Nat} {k:Int} (h0:0≤k) (h1:k < (n:Int)):ixN n k=some k.toNat:=by
 unfold ixN
 rw [if_pos h0,if_pos h1]
theorem cut_all {xs:List V} {k:Nat} (h:xs.length≤k):cutV xs none (some (k:Int))=xs:=by
 unfold cutV
 rw [HT.sIx_none,HT.sIx_nat,List.drop_zero]
 exact List.take_of_length_le (by lia)
theorem set_int {cells:List Int} {j:Nat} {z:Int}:(cells.map V.int).set j (V.int z)=(cells.set j z).map V.int:=by rw [List.map_set]
noncomputable def spTake:Sp:=fun vs H Q _=>∃ (d c:Addr) (many:Int),vs=[.ref d,.int many]∧DeckAt H d c∧0 < many∧many < 1073741824 ∧
 ∀ (r:Int) (H':Hp),0≤r→r < many→Keep [d,c] H H'→DeckAt H' d c→Q (.int r) H'
noncomputable def spDraw (top:Int):Sp:=fun vs H Q _=>∃ (d c:Addr),vs=[.ref d]∧DeckAt H d c ∧
 ∀ (r:Int) (H':Hp),1≤r→r≤top→Keep [d,c] H H'→DeckAt H' d c→Q (.int r) H'
noncomputable def spDeck (K:PySem.W.Frag):Sp:=fun vs H Q _=>∃ (a:Addr) (ns:List Int),vs=[.ref a]∧SqL K H a (ns.map V.int)∧ns.length≤63 ∧
 ∀ (d c:Addr) (H':Hp),Same H H'→H d=none→H c=none→DeckAt H' d c→Q (.ref d) H'
structure Blt (mg:Str→Option Value):Prop where
 len:mg "len"=none
 sum:mg "sum"=none
 range:mg "range"=none
 isinstance:mg "isinstance"=none
 int:mg "int"=none
 str:mg "str"=none
 bool:mg "bool"=none
 tuple:mg "tuple"=none
 zip:mg "zip"=none
end Law
namespace Law
open PySem L2
noncomputable def okWord (w:Str):Prop:=w="plus"∨w="less"∨w="times"∨w="share"
instance okWordDec (w:Str):Decidable (okWord w):=by unfold okWord; infer_instance
inductive Way where
 | num (n:Int)
 | op (w:Str) (a b:Way)
noncomputable def Way.size:Way→Nat
 | .num _=>1
 | .op _ a b=>a.size + b.size
noncomputable def Way.ht:Way→Nat
 | .num _=>0
 | .op _ a b=>max a.ht b.ht + 1
noncomputable def Way.nodes:Way→Nat
 | .num _=>1
 | .op _ a b=>a.nodes + b.nodes + 1
noncomputable def Way.ok (m:Int):Way→Prop
 | .num n=>1≤n∧n≤m
 | .op w a b=>okWord w∧a.ok m∧b.ok m
theorem Way.size_pos (x:Way):1≤x.size:=by
 induction x with
 | num n=>exact Nat.le_refl _
 | op w a b iha ihb=>show 1≤a.size + b.size; lia
theorem Way.ht_lt (x:Way):x.ht < x.size:=by
 induction x with
 | num n=>exact Nat.le_refl _
 | op w a b iha ihb =>
  have:=a.size_pos; have:=b.size_pos
  show max a.ht b.ht + 1 < a.size + b.size; lia
theorem Way.nodes_eq (x:Way):x.nodes + 1=2 * x.size:=by
 induction x with
 | num n=>rfl
 | op w a b iha ihb=>show a.nodes + b.nodes + 1 + 1=2 * (a.size + b.size); lia
noncomputable def byE (w:Str) (a b:Int):Sum Str Int :=
 if w="plus" then .inr (a + b) else if w="times" then .inr (a * b) else if w="less" then (if b < a then .inr (a - b) else .inl w) else (if a % b=0 then .inr (a / b) else .inl w)
noncomputable def worthE:Way→Sum Str Int
 | .num n=>.inr n
 | .op w a b=>match worthE a with
  | .inl e=>.inl e
  | .inr x=>match worthE b with
   | .inl e=>.inl e
   | .inr y=>byE w x y
theorem worthE_op (w:Str) (a b:Way):worthE (.op w a b)=match worthE a with
  | .inl e=>.inl e
  | .inr x=>match worthE b with
   | .inl e=>.inl e
   | .inr y=>byE w x y:=rfl
noncomputable def resV:Sum Str Int→V
 | .inl e=>.str e
 | .inr n=>.int n
theorem pow_ge {m:Int} (hm:2≤m) {k:Nat} (hk:1≤k):2≤m ^ k:=by
 induction k with
 | zero=>lia
 | succ k ih =>
  rw [Int.pow_succ]
  rcases Nat.eq_zero_or_pos k with h | h
  ·subst h; simpa using hm
  ·have:=ih h
   have h2:m ^ k * 1≤m ^ k * m:=Int.mul_le_mul_of_nonneg_left (by lia) (by lia)
   lia
theorem byE_bound {w:Str} {a b n X Y:Int} (ha:1≤a) (hb:1≤b) (hx:a≤X) (hy:b≤Y) (X2:2≤X) (Y2:2≤Y) (h:byE w a b=.inr n):1≤n∧n≤X * Y:=by
 have xy:X + Y≤X * Y:=by
  have:0≤(X - 1) * (Y - 1) - 1:=by
   have:1 * 1≤(X - 1) * (Y - 1):=Int.mul_le_mul (by lia) (by lia) (by lia) (by lia)
   lia
  have e:(X - 1) * (Y - 1)=X * Y - X - Y + 1:=by rw [Int.sub_mul,Int.mul_sub,Int.mul_one,Int.one_mul]; lia
  lia
 unfold byE at h
 split at h
 ·cases h; lia
 split at h
 ·cases h
  have h1:a * b≤X * Y:=Int.mul_le_mul hx hy (by lia) (by lia)
  have h2:1 * 1≤a * b:=Int.mul_le_mul ha hb (by lia) (by lia)
  lia
 split at h
 ·split at h
  ·cases h; lia
  ·cases h
 ·split at h
  ·rename_i e
   cases h
   have h1:=Int.emod_add_mul_ediv a b
   rw [e] at h1
   have h2:a / b≤a:=Int.ediv_le_self _ (by lia)
   have h3:0≤a / b:=Int.ediv_nonneg (by lia) (by lia)
   have h4:a / b≠0:=fun z=>by rw [z] at h1; lia
   lia
  ·cases h
theorem worth_bound {m:Int} (hm:2≤m):∀ {x:Way} {n:Int},x.ok m→worthE x=.inr n→1≤n∧n≤m ^ x.size:=by
 intro x
 induction x with
 | num k=>intro n ⟨h1,h2⟩ e; cases e; exact ⟨h1,by show k≤m ^ 1; rw [Int.pow_succ,Int.pow_zero,Int.one_mul]; exact h2⟩
 | op w a b iha ihb =>
  intro n ⟨hw,h1,h2⟩ e
  rw [worthE_op] at e
  split at e
  ·cases e
  ·rename_i x ex
   split at e
   ·cases e
   ·rename_i y ey
    obtain ⟨a1,a2⟩:=iha h1 ex
    obtain ⟨b1,b2⟩:=ihb h2 ey
    have:=byE_bound a1 b1 a2 b2 (pow_ge hm a.size_pos) (pow_ge hm b.size_pos) e
    rw [show (Way.op w a b).size=a.size + b.size from rfl,Int.pow_add]
    exact this
noncomputable def Way.fit (x:Way):Prop:=∃ m:Int,2≤m∧x.ok m∧m ^ x.size < 2 ^ 4000
theorem pow_le_pow {m:Int} (hm:2≤m) {i j:Nat} (h:i≤j):m ^ i≤m ^ j:=by
 induction h with
 | refl=>exact Int.le_refl _
 | step h ih =>
  rename_i k
  rw [Int.pow_succ]
  have:0≤m ^ k:=Int.pow_nonneg (by lia)
  have h2:m ^ k * 1≤m ^ k * m:=Int.mul_le_mul_of_nonneg_left (by lia) this
  lia
theorem Way.fit.sub {w:Str} {a b:Way} (h:(Way.op w a b).fit):okWord w∧a.fit∧b.fit:=by
 obtain ⟨m,h1,⟨h2,h3,h4⟩,h5⟩:=h
 have e:(Way.op w a b).size=a.size + b.size:=rfl
 have p1:=pow_le_pow h1 (show a.size≤(Way.op w a b).size by lia)
 have p2:=pow_le_pow h1 (show b.size≤(Way.op w a b).size by lia)
 exact ⟨h2,⟨m,h1,h3,by lia⟩,⟨m,h1,h4,by lia⟩⟩
theorem Way.fit.worth {x:Way} (h:x.fit) {n:Int} (e:worthE x=.inr n):1≤n∧n < 2 ^ 4000:=by
 obtain ⟨m,h1,h2,h5⟩:=h
 have:=worth_bound h1 h2 e
 lia
theorem fit_of {x:Way} (h:x.ok 1000000) (hs:x.size≤100):x.fit:=by
 refine ⟨1000000,by decide,h,?_⟩
 have:=pow_le_pow (m:=1000000) (by decide) hs
 have h2:(1000000:Int) ^ 100 < 2 ^ 4000:=by decide +kernel
 lia
noncomputable def spBy:Sp:=fun vs H Q _=>∃ (wd:Str) (a b:Int),vs=[.str wd,.int a,.int b]∧okWord wd∧1≤a∧a < 2 ^ 4000∧1≤b∧b < 2 ^ 4000∧∀ H',Same H H'→Q (resV (byE wd a b)) H'
inductive WayIn (H:Hp):V→Way→Prop where
 | num (n:Int):WayIn H (.int n) (.num n)
 | op {p:Addr} {w:Str} {x y:V} {a b:Way} (h:H p=some (.tup [.str w,x,y])) (ha:WayIn H x a) (hb:WayIn H y b):WayIn H (.ref p) (.op w a b)
theorem WayIn.kt {H H':Hp} {v:V} {x:Way} (h:WayIn H v x) (k:KT H H'):WayIn H' v x:=by
 induction h with
 | num n=>exact .num n
 | op h ha hb iha ihb=>exact .op (k _ _ h) iha ihb
noncomputable def post:Way→List V
 | .num n=>[.int n]
 | .op w a b=>post a++post b++[.str w]
theorem post_len (x:Way):(post x).length=x.nodes:=by
 induction x with
 | num n=>rfl
 | op w a b iha ihb=>simp only [post,List.length_append,iha,ihb,Way.nodes,List.length_cons,List.length_nil]
inductive Out where
 | bad
 | no (w:Str)
 | val (st:List Int)
noncomputable def stepsRun:List V→List Int→Out
 | [],st=>.val st
 | .int n :: r,st=>stepsRun r (n :: st)
 | .str w :: r,b :: a :: st=>if okWord w∧1≤a∧a < 2 ^ 4000∧1≤b∧b < 2 ^ 4000 then (match byE w a b with
  | .inr c=>stepsRun r (c :: st)
  | .inl e=>.no e) else .bad
 | _,_=>.bad
theorem run_str (w:Str) (r:List V) (a b:Int) (st:List Int):stepsRun (.str w :: r) (b :: a :: st)=if okWord w∧1≤a∧a < 2 ^ 4000∧1≤b∧b < 2 ^ 4000 then (match byE w a b with
  | .inr c=>stepsRun r (c :: st)
  | .inl e=>.no e) else .bad:=by rw [stepsRun]
theorem run_int (n:Int) (r:List V) (st:List Int):stepsRun (.int n :: r) st=stepsRun r (n :: st):=by rw [stepsRun]
theorem run_post {x:Way} (hx:x.fit):∀ (r:List V) (st:List Int),stepsRun (post x++r) st=match worthE x with
  | .inr n=>stepsRun r (n :: st)
  | .inl e=>.no e:=by
 induction x with
 | num n=>intro r st; rfl
 | op w a b iha ihb =>
  intro r st
  obtain ⟨hw,fa,fb⟩:=hx.sub
  rw [post,List.append_assoc,List.append_assoc,iha fa]
  rw [worthE_op]
  cases ea:worthE a with
  | inl e=>rfl
  | inr n =>
   dsimp only
   rw [ihb fb]
   cases eb:worthE b with
   | inl e=>rfl
   | inr k =>
    dsimp only
    have h1:=fa.worth ea
    have h2:=fb.worth eb
    show stepsRun (.str w :: r) (k :: n :: st)=_
    rw [run_str,if_pos ⟨hw,h1.1,h1.2,h2.1,h2.2⟩]
noncomputable def spWorth (n:Nat):Sp:=fun vs H Q _=>∃ (v:V) (x:Way),vs=[v]∧WayIn H v x∧x.fit∧x.ht < n∧∀ H',Same H H'→Q (resV (worthE x)) H'
noncomputable def spGood (n:Nat):Sp:=fun vs H Q _=>∃ (d c:Addr) (many:Int),vs=[.ref d,.int many]∧DeckAt H d c∧1≤many∧many≤8∧many≤(n:Int) ∧
 ∀ (v:V) (x:Way) (r:Int) (H':Hp),WayIn H' v x→x.ok 1000000→(x.size:Int)=many→worthE x=.inr r→Keep [d,c] H H'→DeckAt H' d c→Q v H'
noncomputable def spSteps:Sp:=fun vs H Q _=>∃ (v:V) (x:Way),vs=[v]∧WayIn H v x∧x.nodes≤1000∧∀ (r:Addr) (H':Hp),Same H H'→H' r=some (.lst (post x))→Q (.ref r) H'
noncomputable def spWorthOf:Sp:=fun vs H Q _=>∃ (v:V) (x:Way) (n:Int),vs=[v]∧WayIn H v x∧x.fit∧x.nodes≤1000∧worthE x=.inr n∧∀ H',Same H H'→Q (.int n) H'
noncomputable def spLaw (K:PySem.W.Frag):Sp:=fun vs H Q _=>∃ (a:Addr) (ns:List Int),vs=[.ref a]∧SqL K H a (ns.map V.int)∧ns.length≤63∧∀ H',Q (.bl true) H'
theorem mkDef {P:Program} {w:World} {K:PySem.W.Frag} {mg:Str→Option Value} {base:Heap} {CX:CXT} {k:Nat} {x:Str} {sp:Sp} {f:Addr} {fd:FuncData} {ps:List Str} (a:FnOk P w K mg base CX k f fd ps sp) (b:Binds K fd ps []) (c:mg x=some (.ref f)) (d:PySem.W.keepIn K (.ref f)=true):Def P w K mg base CX k x sp:=⟨f,fd,ps,a,b,c,d⟩
noncomputable def emit:Way→List V
 | .num n=>[.int n]
 | .op w a b=>.str w :: (emit b++emit a)
theorem emit_rev (x:Way):(emit x).reverse=post x:=by
 induction x with
 | num n=>rfl
 | op w a b iha ihb=>rw [emit,List.reverse_cons,List.reverse_append,iha,ihb,post]
theorem emit_len (x:Way):(emit x).length=x.nodes:=by rw [← post_len,← emit_rev,List.length_reverse]
noncomputable def sumNodes (ws:List Way):Nat:=(ws.map Way.nodes).sum
theorem emits_len (ws:List Way):(ws.flatMap emit).length=sumNodes ws:=by
 induction ws with
 | nil=>rfl
 | cons a r ih=>rw [List.flatMap_cons,List.length_append,emit_len,ih]; simp [sumNodes]
theorem nodes_pos (x:Way):1≤x.nodes:=by cases x <;> simp [Way.nodes]
theorem len_le_nodes (ws:List Way):ws.length≤sumNodes ws:=by
 induction ws with
 | nil=>exact Nat.le_refl _
 | cons a r ih =>
  have:=nodes_pos a
  have e:sumNodes (a :: r)=a.nodes + sumNodes r:=by simp [sumNodes]
  rw [e,List.length_cons]; lia
noncomputable def Way.deeds:Way→Nat
 | .num _=>0
 | .op _ a b=>a.deeds + b.deeds + 1
noncomputable def Way.nums:Way→List Int
 | .num n=>[n]
 | .op _ a b=>a.nums++b.nums
theorem Way.nums_len (x:Way):x.nums.length=x.size:=by
 induction x with
 | num n=>rfl
 | op w a b iha ihb=>rw [Way.nums,List.length_append,iha,ihb]; rfl
theorem Way.deeds_lt (x:Way):x.deeds + 1=x.size:=by
 induction x with
 | num n=>rfl
 | op w a b iha ihb=>show a.deeds + b.deeds + 1 + 1=a.size + b.size; lia
noncomputable def isS:V→Bool
 | .str _=>true
 | _=>false
theorem post_words (x:Way):((post x).filter isS).length=x.deeds:=by
 induction x with
 | num n=>rfl
 | op w a b iha ihb =>
  rw [post,List.filter_append,List.filter_append,List.length_append,List.length_append,iha,ihb]
  rfl
theorem post_nums (x:Way):(post x).filter (fun v=>!isS v)=x.nums.map V.int:=by
 induction x with
 | num n=>rfl
 | op w a b iha ihb =>
  rw [post,List.filter_append,List.filter_append,iha,ihb,Way.nums,List.map_append]
  show _++[]=_
  rw [List.append_nil]
theorem post_kind {x:Way}:∀ {v:V},v∈post x→(∃ n,v=.int n)∨∃ w,v=.str w:=by
 induction x with
 | num n=>intro v h; exact .inl ⟨n,by simpa [post] using h⟩
 | op w a b iha ihb =>
  intro v h
  rw [post] at h
  rcases List.mem_append.mp h with h | h
  ·rcases List.mem_append.mp h with h | h
   ·exact iha h
   ·exact ihb h
  ·exact .inr ⟨w,by simpa using h⟩
theorem take_filter {p:V→Bool} {xs:List V} {i:Nat} {x:V} (h:xs[i]?=some x):(xs.take (i + 1)).filter p=(xs.take i).filter p++(if p x then [x] else []):=by
 rw [List.take_add_one,h,List.filter_append]
 congr 1
 cases e:p x <;> simp [Option.toList,List.filter,e]
noncomputable def spDeeds:Sp:=fun vs H Q _=>∃ (v:V) (x:Way),vs=[v]∧WayIn H v x∧x.nodes≤1000∧∀ H',Same H H'→Q (.int x.deeds) H'
noncomputable def spNumbers:Sp:=fun vs H Q _=>∃ (v:V) (x:Way),vs=[v]∧WayIn H v x∧x.nodes≤1000∧∀ (t:Addr) (H':Hp),Same H H'→H' t=some (.tup (x.nums.map V.int))→Q (.ref t) H'
theorem ok_mono {m n:Int} (h:m≤n):∀ {x:Way},x.ok m→x.ok n
 | .num _,⟨a,b⟩=>⟨a,Int.le_trans b h⟩
 | .op _ _ _,⟨a,b,c⟩=>⟨a,ok_mono h b,ok_mono h c⟩
theorem fit_ofN {x:Way} (h:x.ok 1000000000000000000000000000000000000000000000000) (hs:x.size≤24):x.fit:=by
 refine ⟨1000000000000000000000000000000000000000000000000,by decide,h,?_⟩
 have:=pow_le_pow (m:=1000000000000000000000000000000000000000000000000) (by decide) hs
 have h2:(1000000000000000000000000000000000000000000000000:Int) ^ 24 < 2 ^ 4000:=by decide +kernel
 lia
end Law
namespace L2
open PySem PySem.Spec PyProof.Rows
end L2
namespace Law
open PySem L2 PySem.NumText PyProof.Rows
noncomputable def wd:Way→D
 | .num n=>.int n
 | .op w a b=>.tup [.str w,wd a,wd b]
mutual
noncomputable def Dat (H:Hp):D→V→Prop
 | .non,v=>v=.non
 | .bl b,v=>v=.bl b
 | .int i,v=>v=.int i
 | .str x,v=>v=.str x
 | .tup ds,v=>∃ p xs,v=.ref p∧H p=some (.tup xs)∧Dats H ds xs
 | .lst ds,v=>False
noncomputable def Dats (H:Hp):List D→List V→Prop
 | [],xs=>xs=[]
 | d :: ds,xs=>∃ x r,xs=x :: r∧Dat H d x∧Dats H ds r
end
mutual
theorem Dat.kt {H H':Hp} (k:KT H H'):∀ (d:D) {v:V},Dat H d v→Dat H' d v
 | .non,v,h=>by unfold Dat at h ⊢; exact h
 | .bl b,v,h=>by unfold Dat at h ⊢; exact h
 | .int b,v,h=>by unfold Dat at h ⊢; exact h
 | .str b,v,h=>by unfold Dat at h ⊢; exact h
 | .tup ds,v,h=>by
  unfold Dat at h ⊢
  obtain ⟨p,xs,e,hp,hs⟩:=h
  exact ⟨p,xs,e,k _ _ hp,Dats.kt k ds hs⟩
 | .lst ds,v,h=>by unfold Dat at h; exact h.elim
theorem Dats.kt {H H':Hp} (k:KT H H'):∀ (ds:List D) {vs:List V},Dats H ds vs→Dats H' ds vs
 | [],vs,h=>by unfold Dats at h ⊢; exact h
 | d :: ds,vs,h=>by
  unfold Dats at h ⊢
  obtain ⟨x,r,e,h1,h2⟩:=h
  exact ⟨x,r,e,Dat.kt k d h1,Dats.kt k ds h2⟩
end
mutual
theorem Dat.rep {K:PySem.W.Frag} {H:Hp}:∀ (d:D) {v:V},Dat H d v→Rep K H d v
 | .non,v,h=>by unfold Dat at h; unfold Rep; exact h
 | .bl b,v,h=>by unfold Dat at h; unfold Rep; exact h
 | .int b,v,h=>by unfold Dat at h; unfold Rep; exact h
 | .str b,v,h=>by unfold Dat at h; unfold Rep; exact h
 | .tup ds,v,h=>by
  unfold Dat at h; unfold Rep
  obtain ⟨p,xs,e,hp,hs⟩:=h
  exact ⟨p,xs,e,SqT.of hp,Dats.rep ds hs⟩
 | .lst ds,v,h=>by unfold Dat at h; exact h.elim
theorem Dats.rep {K:PySem.W.Frag} {H:Hp}:∀ (ds:List D) {vs:List V},Dats H ds vs→Reps K H ds vs
 | [],vs,h=>by unfold Dats at h; unfold Reps; exact h
 | d :: ds,vs,h=>by
  unfold Dats at h; unfold Reps
  obtain ⟨x,r,e,h1,h2⟩:=h
  exact ⟨x,r,e,Dat.rep d h1,Dats.rep ds h2⟩
end
theorem Dats.len {H:Hp}:∀ {ds:List D} {xs:List V},Dats H ds xs→ds.length=xs.length
 | [],xs,h=>by unfold Dats at h; subst h; rfl
 | d :: ds,xs,h=>by
  unfold Dats at h
  obtain ⟨x,r,rfl,_,h⟩:=h
  rw [List.length_cons,List.length_cons,Dats.len h]
theorem Dats.at {H:Hp}:∀ {ds:List D} {xs:List V} {j:Nat} {x:V},Dats H ds xs→xs[j]?=some x→∃ d,ds[j]?=some d∧Dat H d x
 | [],xs,j,x,h,e=>by unfold Dats at h; subst h; cases e
 | a :: ds,xs,j,x,h,e=>by
  unfold Dats at h
  obtain ⟨y,r,rfl,h1,h2⟩:=h
  match j,e with
  | 0,e=>cases e; exact ⟨a,rfl,h1⟩
  | j + 1,e=>exact Dats.at (ds:=ds) (j:=j) h2 (by simpa using e)
theorem WayIn.dat {H:Hp} {v:V} {x:Way} (h:WayIn H v x):Dat H (wd x) v:=by
 induction h with
 | num n=>unfold wd Dat; rfl
 | op h ha hb iha ihb =>
  unfold wd Dat
  refine ⟨_,_,rfl,h,?_⟩
  unfold Dats; refine ⟨_,_,rfl,by unfold Dat; rfl,?_⟩
  unfold Dats; refine ⟨_,_,rfl,iha,?_⟩
  unfold Dats; refine ⟨_,_,rfl,ihb,?_⟩
  unfold Dats; rfl
end Law
namespace Law
open PySem L2
inductive IsForm:D→Prop
 | num {i:Int} (h0:1≤i) (h1:i≤1000000000000000000000000000000000000000000000000):IsForm (.int i)
 | grp {k:Str} {m0:D} {more off:List D} (hk:k="sum"∨k="product") (h0:IsForm m0) (h1:∀ x∈more,IsForm x) (h2:∀ x∈off,IsForm x):IsForm (.tup [.str k,.tup (m0 :: more),.tup off])
mutual
noncomputable def lv:D→Nat
 | .int _=>1
 | .tup l=>lvs l
 | _=>0
noncomputable def lvs:List D→Nat
 | []=>0
 | d :: r=>lv d + lvs r
end
mutual
noncomputable def sz:D→Nat
 | .tup l=>1 + szs l
 | _=>1
noncomputable def szs:List D→Nat
 | []=>0
 | d :: r=>sz d + 1 + szs r
end
noncomputable def pt (k:Str):Str:=if k="sum" then "plus" else "times"
noncomputable def tk (k:Str):Str:=if k="sum" then "less" else "share"
inductive R where
 | w (x:Way)
 | s (k:Str)
 | l (xs:List Way)
noncomputable def toW:R→Way
 | .w x=>x
 | _=>.num 0
noncomputable def fold1 (w:Str) (a:Way) (xs:List Way):Way:=xs.foldl (fun acc x=>.op w acc x) a
noncomputable def comb:List R→R
 | [.s k,.l (m0 :: more),.l off]=>.w (fold1 (tk k) (fold1 (pt k) m0 more) off)
 | xs=>.l (xs.map toW)
mutual
noncomputable def fx:D→R
 | .int i=>.w (.num i)
 | .str k=>.s k
 | .tup l=>comb (fxs l)
 | _=>.w (.num 0)
noncomputable def fxs:List D→List R
 | []=>[]
 | d :: r=>fx d :: fxs r
end
noncomputable def fw (d:D):Way:=toW (fx d)
theorem fw_int (i:Int):fw (.int i)=.num i:=by unfold fw fx; rfl
theorem comb_ws (l:List Way):comb (l.map R.w)=.l l:=by
 have e:(l.map R.w).map toW=l:=by
  rw [List.map_map]
  show l.map (fun x=>x)=l
  simp
 cases l with
 | nil=>rfl
 | cons a r =>
  show R.l ((R.w a :: r.map R.w).map toW)=.l (a :: r)
  rw [show (R.w a :: r.map R.w)=(a :: r).map R.w from rfl,e]
theorem fxs_of:∀ {l:List D},(∀ x∈l,fx x=.w (fw x))→fxs l=(l.map fw).map R.w
 | [],_=>by unfold fxs; rfl
 | d :: r,h=>by
  unfold fxs
  rw [h d (List.mem_cons_self ..),fxs_of fun x hx=>h x (List.mem_cons_of_mem _ hx)]
  rfl
theorem fx_grp {k:Str} {m0:D} {more off:List D} (h0:fx m0=.w (fw m0)) (h1:∀ x∈more,fx x=.w (fw x)) (h2:∀ x∈off,fx x=.w (fw x)) :
  fx (.tup [.str k,.tup (m0 :: more),.tup off])=.w (fold1 (tk k) (fold1 (pt k) (fw m0) (more.map fw)) (off.map fw)):=by
 have a:fx (.tup (m0 :: more))=.l ((m0 :: more).map fw):=by
  unfold fx
  rw [fxs_of (l:=m0 :: more) (fun x hx=>by
   rcases List.mem_cons.mp hx with rfl | hx
   ·exact h0
   ·exact h1 x hx),comb_ws]
 have b:fx (.tup off)=.l (off.map fw):=by
  unfold fx
  rw [fxs_of h2,comb_ws]
 have c:fx (.str k)=.s k:=by unfold fx; rfl
 unfold fx
 unfold fxs
 unfold fxs
 unfold fxs
 unfold fxs
 rw [a,b,c]
 rfl
theorem fx_form {d:D} (h:IsForm d):fx d=.w (fw d):=by
 induction h with
 | num=>unfold fw fx; rfl
 | @grp k m0 more off hk h0 h1 h2 i0 i1 i2 =>
  have e:=fx_grp (k:=k) i0 i1 i2
  show _=R.w (toW (fx _))
  rw [e]
  rfl
theorem fw_grp {k:Str} {m0:D} {more off:List D} (h0:IsForm m0) (h1:∀ x∈more,IsForm x) (h2:∀ x∈off,IsForm x) :
  fw (.tup [.str k,.tup (m0 :: more),.tup off])=fold1 (tk k) (fold1 (pt k) (fw m0) (more.map fw)) (off.map fw):=by
 show toW (fx _)=_
 rw [fx_grp (fx_form h0) (fun x hx=>fx_form (h1 x hx)) fun x hx=>fx_form (h2 x hx)]
 rfl
theorem pt_ok (k:Str):okWord (pt k):=by unfold pt; split; exact .inl rfl; exact .inr (.inr (.inl rfl))
theorem tk_ok (k:Str):okWord (tk k):=by unfold tk; split; exact .inr (.inl rfl); exact .inr (.inr (.inr rfl))
theorem fold1_post (w:Str):∀ (xs:List Way) (a:Way),post (fold1 w a xs)=post a++xs.flatMap (fun x=>post x++[.str w])
 | [],a=>by simp [fold1]
 | x :: r,a=>by
  have ih:=fold1_post w r (.op w a x)
  show post (fold1 w (.op w a x) r)=_
  rw [ih]
  simp [post]
theorem fold1_size (w:Str):∀ (xs:List Way) (a:Way),(fold1 w a xs).size=a.size + (xs.map Way.size).sum
 | [],a=>by simp [fold1]
 | x :: r,a=>by
  have ih:=fold1_size w r (.op w a x)
  show (fold1 w (.op w a x) r).size=_
  rw [ih,List.map_cons,List.sum_cons]
  show a.size + x.size + _=_
  lia
theorem lvs_sum:∀ {l:List D},(∀ x∈l,(fw x).size=lv x)→((l.map fw).map Way.size).sum=lvs l
 | [],_=>by unfold lvs; rfl
 | d :: r,h=>by
  unfold lvs
  rw [List.map_cons,List.map_cons,List.sum_cons,h d (List.mem_cons_self ..),lvs_sum fun x hx=>h x (List.mem_cons_of_mem _ hx)]
theorem lv_grp (k:Str) (m0:D) (more off:List D):lv (.tup [.str k,.tup (m0 :: more),.tup off])=lv m0 + lvs more + lvs off:=by
 have e1:∀ l,lv (.tup l)=lvs l:=fun l=>by unfold lv; rfl
 have e2:lv (.str k)=0:=by unfold lv; rfl
 have e3:∀ (d:D) (r:List D),lvs (d :: r)=lv d + lvs r:=fun d r=>by rw [lvs]
 have e4:lvs []=0:=by unfold lvs; rfl
 rw [e1,e3,e3,e3,e4,e2,e1,e1,e3]
 lia
theorem fw_size {d:D} (h:IsForm d):(fw d).size=lv d:=by
 induction h with
 | num=>rw [fw_int]; unfold lv; rfl
 | grp hk h0 h1 h2 i0 i1 i2 =>
  rw [fw_grp h0 h1 h2,fold1_size,fold1_size,lvs_sum i1,lvs_sum i2,i0,lv_grp]
theorem deps_mem {l:List D} {d:D} (h:d∈l):d.dep≤deps l:=by
 obtain ⟨j,hj⟩:=List.getElem?_of_mem h
 exact deps_get hj
noncomputable def itV:D→List V
 | .str w=>[.str w]
 | d=>post (fw d)
noncomputable def unf:D→List D
 | .tup [.str k,.tup (m0 :: more),.tup off]=>m0 :: (more.flatMap (fun p=>[p,.str (pt k)])++off.flatMap (fun p=>[p,.str (tk k)]))
 | _=>[]
theorem itV_form {d:D} (h:IsForm d):itV d=post (fw d):=by cases h <;> rfl
theorem itV_pairs {w:Str}:∀ {l:List D},(∀ x∈l,IsForm x)→(l.flatMap (fun p=>[p,.str w])).flatMap itV=(l.map fw).flatMap (fun x=>post x++[.str w])
 | [],_=>rfl
 | d :: r,h=>by
  have ih:=itV_pairs (w:=w) (l:=r) fun x hx=>h x (List.mem_cons_of_mem _ hx)
  rw [List.flatMap_cons,List.flatMap_append,ih,List.map_cons,List.flatMap_cons]
  congr 1
  show itV d++(itV (.str w)++[])=_
  rw [itV_form (h d (List.mem_cons_self ..))]
  rfl
theorem unf_it {k:Str} {m0:D} {more off:List D} (h0:IsForm m0) (h1:∀ x∈more,IsForm x) (h2:∀ x∈off,IsForm x) :
  (unf (.tup [.str k,.tup (m0 :: more),.tup off])).flatMap itV=post (fw (.tup [.str k,.tup (m0 :: more),.tup off])):=by
 rw [fw_grp h0 h1 h2,fold1_post,fold1_post]
 show (m0 :: (_++_)).flatMap itV=_
 rw [List.flatMap_cons,List.flatMap_append,itV_pairs h1,itV_pairs h2,itV_form h0,List.append_assoc]
noncomputable def szl (l:List D):Nat:=(l.map sz).sum
theorem szl_pairs (w:Str):∀ l:List D,szl (l.flatMap (fun p=>[p,.str w]))=szs l
 | []=>by unfold szs; rfl
 | d :: r=>by
  have ih:=szl_pairs w r
  have e:sz (.str w)=1:=by unfold sz; rfl
  unfold szs
  rw [List.flatMap_cons]
  unfold szl at ih ⊢
  rw [List.map_append,List.sum_append,ih]
  show sz d + (sz (.str w) + 0) + szs r=_
  rw [e]
theorem szl_unf (k:Str) (m0:D) (more off:List D):szl (unf (.tup [.str k,.tup (m0 :: more),.tup off])) < sz (.tup [.str k,.tup (m0 :: more),.tup off]):=by
 have e1:∀ l,sz (.tup l)=1 + szs l:=fun l=>by rw [sz]
 have e3:∀ (d:D) (r:List D),szs (d :: r)=sz d + 1 + szs r:=fun d r=>by rw [szs]
 have e4:szs []=0:=by rw [szs]
 have a:=szl_pairs (pt k) more
 have b:=szl_pairs (tk k) off
 show szl (m0 :: (_++_)) < _
 unfold szl at a b ⊢
 rw [List.map_cons,List.sum_cons,List.map_append,List.sum_append,a,b,e1,e3,e3,e3,e4,e1,e1,e3]
 lia
theorem sz_pos (d:D):1≤sz d:=by cases d <;> unfold sz <;> lia
theorem lvs_app:∀ a b:List D,lvs (a++b)=lvs a + lvs b
 | [],b=>by rw [List.nil_append,show lvs []=0 by rw [lvs]]; lia
 | d :: r,b=>by
  have ih:=lvs_app r b
  rw [List.cons_append,lvs,lvs,ih]; lia
theorem lvs_perm {a b:List D} (h:a.Perm b):lvs a=lvs b:=by
 induction h with
 | nil=>rfl
 | cons x _ ih=>rw [lvs,lvs,ih]
 | swap x y l=>rw [lvs,lvs,lvs,lvs]; lia
 | trans _ _ i1 i2=>rw [i1,i2]
theorem deps_le {l:List D} {n:Nat} (h:∀ x∈l,x.dep≤n):deps l≤n:=by
 induction l with
 | nil=>rw [deps]; lia
 | cons d r ih =>
  have:=h d (List.mem_cons_self ..)
  have:=ih fun x hx=>h x (List.mem_cons_of_mem _ hx)
  rw [deps]; lia
end Law
namespace Law
open PySem L2
noncomputable def rkK (k:Str):Int:=if k="sum" then 2 else 3
mutual
noncomputable def kD:D→List Int
 | .int i=>[1,i]
 | .tup l=>kG l
 | _=>[]
noncomputable def kG:List D→List Int
 | .str k :: r=>rkK k :: kR r
 | _=>[]
noncomputable def kR:List D→List Int
 | []=>[]
 | d :: r=>kRow d++0 :: kR r
noncomputable def kRow:D→List Int
 | .tup l=>kS l
 | _=>[]
noncomputable def kS:List D→List Int
 | []=>[]
 | d :: r=>kD d++kS r
end
theorem kD_int (i:Int):kD (.int i)=[1,i]:=by rw [kD]
theorem kD_grp (k:Str) (more off:List D):kD (.tup [.str k,.tup more,.tup off])=rkK k :: (kS more++0 :: (kS off++[0])):=by
 rw [kD,kG,kR,kR,kR,kRow,kRow]
theorem kS_cons (d:D) (r:List D):kS (d :: r)=kD d++kS r:=by rw [kS]
theorem kS_nil:kS []=[]:=by rw [kS]
theorem kD_head {d:D} (h:IsForm d):∃ a r,kD d=a :: r∧0 < a:=by
 cases h with
 | num h0 h1=>rw [kD_int]; exact ⟨1,_,rfl,by decide⟩
 | @grp k m0 more off hk _ _ _=>rw [kD_grp]; exact ⟨_,_,rfl,by unfold rkK; split <;> decide⟩
noncomputable def sl (a b:List Int):Prop:=∃ (p:List Int) (u v:Int) (x y:List Int),a=p++u :: x∧b=p++v :: y∧u < v
theorem sl.app {a b:List Int} (h:sl a b) (x y:List Int):sl (a++x) (b++y):=by
 obtain ⟨p,u,v,x1,y1,rfl,rfl,l⟩:=h
 exact ⟨p,u,v,x1++x,y1++y,by simp,by simp,l⟩
theorem sl.pre {a b:List Int} (h:sl a b) (p:List Int):sl (p++a) (p++b):=by
 obtain ⟨p1,u,v,x1,y1,rfl,rfl,l⟩:=h
 exact ⟨p++p1,u,v,x1,y1,by simp,by simp,l⟩
theorem sl.cons {a b:List Int} (h:sl a b) (c:Int):sl (c :: a) (c :: b):=h.pre [c]
theorem sl_head {a b:Int} (h:a < b) (x y:List Int):sl (a :: x) (b :: y):=⟨[],a,b,x,y,rfl,rfl,h⟩
theorem sl.lx {a b:List Int} (h:sl a b):lx a b=true:=by
 obtain ⟨p,u,v,x,y,rfl,rfl,l⟩:=h
 induction p with
 | nil=>show L2.lx (u :: x) (v :: y)=true; rw [lx_cons,if_neg (by lia)]; exact decide_eq_true l
 | cons a p ih=>show L2.lx (a :: (p++u :: x)) (a :: (p++v :: y))=true; rw [lx_cons,if_pos rfl]; exact ih
theorem lx_not {a b:List Int} (h:L2.lx a b=true):L2.lx b a=false:=by
 cases e:L2.lx b a with
 | false=>rfl
 | true =>
  have:=lx_trans _ _ _ h e
  rw [lx_irrefl] at this
  cases this
noncomputable def Tri (d e:D):Prop:=d=e∨sl (kD d) (kD e)∨sl (kD e) (kD d)
theorem rows_tri:∀ {a b:List D},(∀ x∈a,IsForm x)→(∀ y∈b,IsForm y)→(∀ x∈a,∀ y∈b,Tri x y)→∀ (s t:List Int),a=b∨sl (kS a++0 :: s) (kS b++0 :: t)∨sl (kS b++0 :: t) (kS a++0 :: s)
 | [],[],_,_,_,s,t=>.inl rfl
 | [],y :: r,_,hb,_,s,t=>by
  obtain ⟨c,z,e,hc⟩:=kD_head (hb y (List.mem_cons_self ..))
  rw [kS_nil,kS_cons,e]
  exact .inr (.inl (sl_head hc _ _))
 | x :: r,[],ha,_,_,s,t=>by
  obtain ⟨c,z,e,hc⟩:=kD_head (ha x (List.mem_cons_self ..))
  rw [kS_nil,kS_cons,e]
  exact .inr (.inr (sl_head hc _ _))
 | x :: r,y :: q,ha,hb,ht,s,t=>by
  rw [kS_cons,kS_cons,List.append_assoc,List.append_assoc]
  rcases ht x (List.mem_cons_self ..) y (List.mem_cons_self ..) with rfl | h | h
  ·rcases rows_tri (fun z hz=>ha z (List.mem_cons_of_mem _ hz)) (fun z hz=>hb z (List.mem_cons_of_mem _ hz)) (fun z hz w hw=>ht z (List.mem_cons_of_mem _ hz) w (List.mem_cons_of_mem _ hw)) s t with rfl | h | h
   ·exact .inl rfl
   ·exact .inr (.inl (h.pre _))
   ·exact .inr (.inr (h.pre _))
  ·exact .inr (.inl (h.app _ _))
  ·exact .inr (.inr (h.app _ _))
theorem tri {d:D} (hd:IsForm d):∀ {e:D},IsForm e→Tri d e:=by
 induction hd with
 | @num i h0 h1 =>
  intro e he
  cases he with
  | @num j _ _ =>
   unfold Tri
   rw [kD_int,kD_int]
   rcases Int.lt_trichotomy i j with h | h | h
   ·exact .inr (.inl ((sl_head h [] []).cons 1))
   ·exact .inl (by rw [h])
   ·exact .inr (.inr ((sl_head h [] []).cons 1))
  | @grp k m0 more off hk _ _ _ =>
   refine .inr (.inl ?_)
   rw [kD_int,kD_grp]
   exact sl_head (by unfold rkK; split <;> decide) _ _
 | @grp k m0 more off hk h0 h1 h2 i0 i1 i2 =>
  intro e he
  cases he with
  | @num j _ _ =>
   refine .inr (.inr ?_)
   rw [kD_int,kD_grp]
   exact sl_head (by unfold rkK; split <;> decide) _ _
  | @grp k' m0' more' off' hk' h0' h1' h2' =>
   have f1:∀ x∈m0 :: more,IsForm x:=fun x hx=>by rcases List.mem_cons.mp hx with rfl | hx; exact h0; exact h1 x hx
   have f1':∀ x∈m0' :: more',IsForm x:=fun x hx=>by rcases List.mem_cons.mp hx with rfl | hx; exact h0'; exact h1' x hx
   have t1:∀ x∈m0 :: more,∀ y∈m0' :: more',Tri x y:=fun x hx y hy=>by
    rcases List.mem_cons.mp hx with rfl | hx
    ·exact i0 (f1' y hy)
    ·exact i1 x hx (f1' y hy)
   by_cases ek:k=k'
   ·subst ek
    unfold Tri
    rw [kD_grp,kD_grp]
    rcases rows_tri f1 f1' t1 (kS off++[0]) (kS off'++[0]) with e1 | h | h
    ·rcases rows_tri h2 h2' (fun x hx y hy=>i2 x hx (h2' y hy)) [] [] with e2 | h | h
     ·exact .inl (by rw [e1,e2])
     ·rw [e1]; exact .inr (.inl (((h.cons 0).pre _).cons _))
     ·rw [e1]; exact .inr (.inr (((h.cons 0).pre _).cons _))
    ·exact .inr (.inl (h.cons _))
    ·exact .inr (.inr (h.cons _))
   ·unfold Tri
    rw [kD_grp,kD_grp]
    rcases hk with rfl | rfl <;> rcases hk' with rfl | rfl
    ·exact absurd rfl ek
    ·exact .inr (.inl (sl_head (by decide) _ _))
    ·exact .inr (.inr (sl_head (by decide) _ _))
    ·exact absurd rfl ek
theorem kD_inj {d e:D} (hd:IsForm d) (he:IsForm e) (h:kD d=kD e):d=e:=by
 rcases tri hd he with r | r | r
 ·exact r
 ·have:=r.lx; rw [h,lx_irrefl] at this; cases this
 ·have:=r.lx; rw [h,lx_irrefl] at this; cases this
noncomputable def Le (a b:D):Prop:=L2.lx (kD b) (kD a)=false
noncomputable def Ord (l:List D):Prop:=l.Pairwise Le
theorem ord_unique:∀ {a b:List D},(∀ x∈a,IsForm x)→a.Perm b→Ord a→Ord b→a=b
 | [],b,_,p,_,_=>(List.nil_perm.mp p).symm
 | x :: r,b,hf,p,oa,ob=>by
  cases b with
  | nil=>exact absurd (p.length_eq) (by simp)
  | cons y q =>
   have hfb:∀ z∈y :: q,IsForm z:=fun z hz=>hf z (p.mem_iff.mpr hz)
   obtain ⟨a1,a2⟩:=List.pairwise_cons.mp oa
   obtain ⟨b1,b2⟩:=List.pairwise_cons.mp ob
   have e:x=y:=by
    by_cases c:x=y
    ·exact c
    have m1:x∈q:=by
     rcases List.mem_cons.mp (p.mem_iff.mp (List.mem_cons_self ..)) with h | h
     ·exact absurd h c
     ·exact h
    have m2:y∈r:=by
     rcases List.mem_cons.mp (p.mem_iff.mpr (List.mem_cons_self ..)) with h | h
     ·exact absurd h.symm c
     ·exact h
    exact kD_inj (hf x (List.mem_cons_self ..)) (hf y (List.mem_cons_of_mem _ m2)) (lx_total _ _ (b1 x m1) (a1 y m2))
   subst e
   rw [ord_unique (fun z hz=>hf z (List.mem_cons_of_mem _ hz)) (List.Perm.cons_inv p) a2 b2]
theorem ord_insert:∀ {l:List D} {x:D},Ord l→Ord (l.take (l.countP fun y=>!L2.lx (kD x) (kD y))++x :: l.drop (l.countP fun y=>!L2.lx (kD x) (kD y)))
 | [],x,_=>List.pairwise_singleton _ _
 | y :: r,x,o=>by
  obtain ⟨o1,o2⟩:=List.pairwise_cons.mp o
  have ih:=ord_insert (x:=x) o2
  rw [List.countP_cons]
  cases e:L2.lx (kD x) (kD y) with
  | false =>
   rw [if_pos (by rfl),List.take_succ_cons,List.drop_succ_cons,List.cons_append]
   refine List.pairwise_cons.mpr ⟨fun z hz=>?_,ih⟩
   have hz':z=x∨z∈r:=by
    rcases List.mem_append.mp hz with h | h
    ·exact .inr (List.mem_of_mem_take h)
    ·rcases List.mem_cons.mp h with h | h
     ·exact .inl h
     ·exact .inr (List.mem_of_mem_drop h)
   rcases hz' with rfl | h
   ·exact e
   ·exact o1 z h
  | true =>
   have none:(r.countP fun y=>!L2.lx (kD x) (kD y))=0:=List.countP_eq_zero.mpr fun z hz=>by
    have h1:=o1 z hz
    cases e2:L2.lx (kD x) (kD z) with
    | true=>decide
    | false =>
     rcases lx_neg _ (kD z) _ e with h | h
     ·rw [e2] at h; cases h
     ·have h1':L2.lx (kD z) (kD y)=false:=h1
      rw [h1'] at h; cases h
   rw [none,if_neg (by decide)]
   show Ord (x :: (y :: r))
   refine List.pairwise_cons.mpr ⟨fun z hz=>?_,o⟩
   rcases List.mem_cons.mp hz with rfl | hz
   ·exact lx_not e
   ·show L2.lx (kD z) (kD x)=false
    have h1:L2.lx (kD z) (kD y)=false:=o1 z hz
    cases e2:L2.lx (kD z) (kD x) with
    | false=>rfl
    | true=>have:=lx_trans _ _ _ e2 e; rw [h1] at this; cases this
end Law
namespace Law
open PySem L2
noncomputable def insD (l:List D) (x:D):List D:=l.take (l.countP fun y=>!L2.lx (kD x) (kD y))++x :: l.drop (l.countP fun y=>!L2.lx (kD x) (kD y))
theorem insD_perm (l:List D) (x:D):(insD l x).Perm (l++[x]):=by
 unfold insD
 refine List.perm_middle.trans ?_
 rw [List.take_append_drop]
 exact List.perm_append_comm (l₁:=[x])
noncomputable def srtD (l:List D):List D:=l.foldl insD []
theorem srt_fold:∀ (l acc:List D),Ord acc→Ord (l.foldl insD acc)∧(l.foldl insD acc).Perm (acc++l)
 | [],acc,o=>⟨o,by rw [List.append_nil]; exact .refl _⟩
 | x :: r,acc,o=>by
  obtain ⟨a,b⟩:=srt_fold r (insD acc x) (ord_insert o)
  refine ⟨a,b.trans ?_⟩
  have:=(insD_perm acc x).append_right r
  rw [List.append_assoc] at this
  exact this
theorem srtD_ord (l:List D):Ord (srtD l):=(srt_fold l [] List.Pairwise.nil).1
theorem srtD_perm (l:List D):(srtD l).Perm l:=by have:=(srt_fold l [] List.Pairwise.nil).2; rwa [List.nil_append] at this
theorem srtD_eq {l m:List D} (hf:∀ x∈l,IsForm x) (h:l.Perm m):srtD l=srtD m :=
 ord_unique (fun x hx=>hf x ((srtD_perm l).mem_iff.mp hx)) ((srtD_perm l).trans (h.trans (srtD_perm m).symm)) (srtD_ord l) (srtD_ord m)
theorem srtD_of {l m:List D} (hf:∀ x∈m,IsForm x) (p:l.Perm m) (o:Ord l):l=srtD m :=
 ord_unique (fun x hx=>hf x (p.mem_iff.mp hx)) (p.trans (srtD_perm m).symm) o (srtD_ord m)
noncomputable def knd (w:Str):Str:=if w="plus"∨w="less" then "sum" else "product"
noncomputable def trn (w:Str):Bool:=decide (w="less"∨w="share")
theorem knd_ok (w:Str):knd w="sum"∨knd w="product":=by unfold knd; split; exact .inl rfl; exact .inr rfl
noncomputable def pf (k:Str):D→List D×List D
 | .tup [.str k',.tup m,.tup o]=>if k'=k then (m,o) else ([.tup [.str k',.tup m,.tup o]],[])
 | d=>([d],[])
noncomputable def swp (b:Bool) (p:List D×List D):List D×List D:=if b then (p.2,p.1) else p
noncomputable def fP:Way→D
 | .num n=>.int n
 | .op w a b=>.tup [.str (knd w),.tup (srtD ((pf (knd w) (fP a)).1++(swp (trn w) (pf (knd w) (fP b))).1)),.tup (srtD ((pf (knd w) (fP a)).2++(swp (trn w) (pf (knd w) (fP b))).2))]
theorem pf_int (k:Str) (i:Int):pf k (.int i)=([.int i],[]):=rfl
theorem pf_grp (k k':Str) (m o:List D):pf k (.tup [.str k',.tup m,.tup o])=if k'=k then (m,o) else ([.tup [.str k',.tup m,.tup o]],[]):=rfl
theorem pf_form {k:Str} {d:D} (h:IsForm d):(∃ m0 r,(pf k d).1=m0 :: r)∧(∀ x∈(pf k d).1,IsForm x)∧∀ x∈(pf k d).2,IsForm x:=by
 have one:∀ x∈[d],IsForm x:=fun x hx=>by rw [List.mem_singleton.mp hx]; exact h
 cases h with
 | num h0 h1=>exact ⟨⟨_,_,rfl⟩,one,fun x hx=>by cases hx⟩
 | @grp k' m0 more off hk g0 g1 g2 =>
  rw [pf_grp]
  split
  ·refine ⟨⟨_,_,rfl⟩,fun x hx=>?_,g2⟩
   rcases List.mem_cons.mp hx with rfl | hx
   ·exact g0
   ·exact g1 x hx
  ·exact ⟨⟨_,_,rfl⟩,one,fun x hx=>by cases hx⟩
theorem srt_cons {l:List D} {m0:D} {r:List D} (h:l=m0 :: r):∃ x t,srtD l=x :: t:=by
 cases e:srtD l with
 | nil=>have:=(srtD_perm l).length_eq; rw [e,h] at this; cases this
 | cons x t=>exact ⟨x,t,rfl⟩
theorem swp_forms {b:Bool} {k:Str} {d:D} (h:IsForm d):(∀ x∈(swp b (pf k d)).1,IsForm x)∧∀ x∈(swp b (pf k d)).2,IsForm x:=by
 obtain ⟨_,h1,h2⟩:=pf_form (k:=k) h
 cases b
 ·exact ⟨h1,h2⟩
 ·exact ⟨h2,h1⟩
theorem fP_form:∀ {x:Way},x.ok 1000000000000000000000000000000000000000000000000→IsForm (fP x):=by
 intro x
 induction x with
 | num n=>intro h; exact .num h.1 h.2
 | op w a b ia ib =>
  intro h
  obtain ⟨_,ha,hb⟩:=h
  have fa:=ia ha
  have fb:=ib hb
  obtain ⟨⟨m0,r,e⟩,a1,a2⟩:=pf_form (k:=knd w) fa
  obtain ⟨b1,b2⟩:=swp_forms (b:=trn w) (k:=knd w) fb
  have f1:∀ x∈srtD ((pf (knd w) (fP a)).1++(swp (trn w) (pf (knd w) (fP b))).1),IsForm x:=fun x hx=>by
   rcases List.mem_append.mp ((srtD_perm _).mem_iff.mp hx) with h | h
   ·exact a1 x h
   ·exact b1 x h
  have f2:∀ x∈srtD ((pf (knd w) (fP a)).2++(swp (trn w) (pf (knd w) (fP b))).2),IsForm x:=fun x hx=>by
   rcases List.mem_append.mp ((srtD_perm _).mem_iff.mp hx) with h | h
   ·exact a2 x h
   ·exact b2 x h
  show IsForm (.tup [.str (knd w),.tup _,.tup _])
  obtain ⟨x,t,es⟩:=srt_cons (l:=(pf (knd w) (fP a)).1++(swp (trn w) (pf (knd w) (fP b))).1) (m0:=m0) (r:=r++(swp (trn w) (pf (knd w) (fP b))).1) (by rw [e]; rfl)
  rw [es] at f1 ⊢
  exact .grp (knd_ok w) (f1 x (List.mem_cons_self ..)) (fun y hy=>f1 y (List.mem_cons_of_mem _ hy)) f2
end Law
namespace Law
open PySem L2
theorem Dats.nilI (H:Hp):Dats H [] []:=by unfold Dats; rfl
theorem Dats.consI {H:Hp} {d:D} {ds:List D} {x:V} {xs:List V} (a:Dat H d x) (b:Dats H ds xs):Dats H (d :: ds) (x :: xs):=by unfold Dats; exact ⟨x,xs,rfl,a,b⟩
theorem Dats.consE {H:Hp} {d:D} {ds:List D} {xs:List V} (h:Dats H (d :: ds) xs):∃ x r,xs=x :: r∧Dat H d x∧Dats H ds r:=by unfold Dats at h; exact h
theorem Dats.nilE {H:Hp} {xs:List V} (h:Dats H [] xs):xs=[]:=by unfold Dats at h; exact h
theorem Dats.app {H:Hp}:∀ {a b:List D} {xs ys:List V},Dats H a xs→Dats H b ys→Dats H (a++b) (xs++ys)
 | [],b,xs,ys,h,h2=>by rw [h.nilE]; exact h2
 | d :: r,b,xs,ys,h,h2=>by
  obtain ⟨x,t,rfl,h1,h3⟩:=h.consE
  exact .consI h1 (Dats.app h3 h2)
theorem Dat.tupI {H:Hp} {ds:List D} {p:Addr} {xs:List V} (h:H p=some (.tup xs)) (d:Dats H ds xs):Dat H (.tup ds) (.ref p):=by unfold Dat; exact ⟨p,xs,rfl,h,d⟩
theorem Dat.tupE {H:Hp} {ds:List D} {v:V} (h:Dat H (.tup ds) v):∃ p xs,v=.ref p∧H p=some (.tup xs)∧Dats H ds xs:=by unfold Dat at h; exact h
theorem Dat.strI {H:Hp} (x:Str):Dat H (.str x) (.str x):=by unfold Dat; rfl
theorem Dat.strE {H:Hp} {x:Str} {v:V} (h:Dat H (.str x) v):v=.str x:=by unfold Dat at h; exact h
theorem Dat.intI {H:Hp} (i:Int):Dat H (.int i) (.int i):=by unfold Dat; rfl
theorem Dat.intE {H:Hp} {i:Int} {v:V} (h:Dat H (.int i) v):v=.int i:=by unfold Dat at h; exact h
theorem dat_grp {H:Hp} {k:Str} {m0:D} {more off:List D} {v:V} (h:Dat H (.tup [.str k,.tup (m0 :: more),.tup off]) v):∃ (p pm po:Addr) (x0:V) (xm xo:List V),v=.ref p∧H p=some (.tup [.str k,.ref pm,.ref po])∧H pm=some (.tup (x0 :: xm))∧H po=some (.tup xo)∧Dat H m0 x0∧Dats H more xm∧Dats H off xo:=by
 obtain ⟨p,xs,rfl,hp,h⟩:=h.tupE
 obtain ⟨a,r,rfl,ha,h⟩:=h.consE
 obtain ⟨b,r,rfl,hb,h⟩:=h.consE
 obtain ⟨c,r,rfl,hc,h⟩:=h.consE
 have:=h.nilE
 subst this
 have:=ha.strE
 subst this
 obtain ⟨pm,xm,rfl,hpm,hm⟩:=hb.tupE
 obtain ⟨po,xo,rfl,hpo,ho⟩:=hc.tupE
 obtain ⟨x0,r,rfl,h0,hm⟩:=hm.consE
 exact ⟨p,pm,po,x0,r,xo,rfl,hp,hpm,hpo,h0,hm,ho⟩
theorem szs_len:∀ l:List D,2 * l.length≤szs l
 | []=>Nat.zero_le _
 | d :: r=>by
  have:=szs_len r
  have:=sz_pos d
  rw [szs,List.length_cons]; lia
theorem sz_grp (k:Str) (m0:D) (more off:List D):szs (m0 :: more) + szs off + 5≤sz (.tup [.str k,.tup (m0 :: more),.tup off]):=by
 have e1:∀ l,sz (.tup l)=1 + szs l:=fun l=>by rw [sz]
 have e3:∀ (d:D) (r:List D),szs (d :: r)=sz d + 1 + szs r:=fun d r=>by rw [szs]
 have e4:szs []=0:=by rw [szs]
 rw [e1,e3 (.str k),e3 (.tup _),e3 (.tup off),e4,e1,e1]
 lia
theorem dat_fun {H:Hp} {d:D} (hd:IsForm d):∀ {e:D} {v:V},IsForm e→Dat H d v→Dat H e v→d=e:=by
 have rows:∀ {a b:List D} {xs:List V},(∀ x∈a,∀ {e:D} {v:V},IsForm e→Dat H x v→Dat H e v→x=e)→(∀ x∈b,IsForm x)→Dats H a xs→Dats H b xs→a=b:=by
  intro a
  induction a with
  | nil =>
   intro b xs _ _ h1 h2
   have:=h1.nilE
   subst this
   cases b with
   | nil=>rfl
   | cons y q=>obtain ⟨_,_,e,_⟩:=h2.consE; cases e
  | cons x r ih =>
   intro b xs hx hb h1 h2
   obtain ⟨u,t,rfl,g1,g2⟩:=h1.consE
   cases b with
   | nil=>have:=h2.nilE; cases this
   | cons y q =>
    obtain ⟨u',t',e,k1,k2⟩:=h2.consE
    cases e
    rw [hx x (List.mem_cons_self ..) (hb y (List.mem_cons_self ..)) g1 k1,ih (fun z hz=>hx z (List.mem_cons_of_mem _ hz)) (fun z hz=>hb z (List.mem_cons_of_mem _ hz)) g2 k2]
 induction hd with
 | @num i h0 h1 =>
  intro e v he h h'
  have:=h.intE
  subst this
  cases he with
  | @num j _ _=>have:=h'.intE; cases this; rfl
  | grp _ _ _ _=>obtain ⟨_,_,e,_⟩:=h'.tupE; cases e
 | @grp k m0 more off hk h0 h1 h2 i0 i1 i2 =>
  intro e v he h h'
  cases he with
  | @num j _ _=>have:=h'.intE; subst this; obtain ⟨_,_,e,_⟩:=h.tupE; cases e
  | @grp k' m0' more' off' hk' h0' h1' h2' =>
   obtain ⟨p,pm,po,x0,xm,xo,rfl,a1,a2,a3,a4,a5,a6⟩:=dat_grp h
   obtain ⟨p',pm',po',x0',xm',xo',e,b1,b2,b3,b4,b5,b6⟩:=dat_grp h'
   cases e
   rw [a1] at b1
   cases b1
   rw [a2] at b2
   cases b2
   rw [a3] at b3
   cases b3
   rw [i0 h0' a4 b4,rows i1 h1' a5 b5,rows i2 h2' a6 b6]
theorem dats_perm {H:Hp} {ys xs:List V} (p:ys.Perm xs):∀ {ds:List D},Dats H ds xs→∃ es,es.Perm ds∧Dats H es ys:=by
 induction p with
 | nil=>intro ds h; exact ⟨ds,.refl _,h⟩
 | cons x q ih =>
  intro ds h
  cases ds with
  | nil=>have:=h.nilE; cases this
  | cons d r =>
   obtain ⟨u,t,e,g1,g2⟩:=h.consE
   cases e
   obtain ⟨es,p1,p2⟩:=ih g2
   exact ⟨d :: es,p1.cons d,.consI g1 p2⟩
 | swap x y l =>
  intro ds h
  cases ds with
  | nil=>have:=h.nilE; cases this
  | cons d r =>
   obtain ⟨u,t,e,g1,g2⟩:=h.consE
   cases e
   cases r with
   | nil=>have:=g2.nilE; cases this
   | cons d2 r2 =>
    obtain ⟨u,t,e,g3,g4⟩:=g2.consE
    cases e
    exact ⟨d2 :: d :: r2,.swap ..,.consI g3 (.consI g1 g4)⟩
 | trans _ _ i1 i2 =>
  intro ds h
  obtain ⟨es,p1,h1⟩:=i2 h
  obtain ⟨fs,p2,h2⟩:=i1 h1
  exact ⟨fs,p2.trans p1,h2⟩
theorem dats_mem {H:Hp}:∀ {ds:List D} {xs:List V} {x:V},Dats H ds xs→x∈xs→∃ d∈ds,Dat H d x
 | [],xs,x,h,hx=>by rw [h.nilE] at hx; cases hx
 | d :: r,xs,x,h,hx=>by
  obtain ⟨u,t,rfl,g1,g2⟩:=h.consE
  rcases List.mem_cons.mp hx with rfl | hx
  ·exact ⟨d,List.mem_cons_self ..,g1⟩
  ·obtain ⟨e,he,k⟩:=dats_mem g2 hx
   exact ⟨e,List.mem_cons_of_mem _ he,k⟩
theorem dats_memL {H:Hp}:∀ {ds:List D} {xs:List V} {d:D},Dats H ds xs→d∈ds→∃ x∈xs,Dat H d x
 | [],xs,x,h,hx=>by cases hx
 | d :: r,xs,x,h,hx=>by
  obtain ⟨u,t,rfl,g1,g2⟩:=h.consE
  rcases List.mem_cons.mp hx with rfl | hx
  ·exact ⟨u,List.mem_cons_self ..,g1⟩
  ·obtain ⟨e,he,k⟩:=dats_memL g2 hx
   exact ⟨e,List.mem_cons_of_mem _ he,k⟩
open Classical in
noncomputable def keyH (H:Hp) (v:V):List Int:=if h:∃ d,IsForm d∧Dat H d v then kD h.choose else []
theorem keyH_eq {H:Hp} {v:V} {d:D} (hf:IsForm d) (h:Dat H d v):keyH H v=kD d:=by
 unfold keyH
 have e:∃ d,IsForm d∧Dat H d v:=⟨d,hf,h⟩
 rw [dif_pos e]
 rw [dat_fun e.choose_spec.1 hf e.choose_spec.2 h]
theorem dats_ord {H:Hp}:∀ {es:List D} {ys:List V},(∀ x∈es,IsForm x)→Dats H es ys→ys.Pairwise (fun a b=>lx (keyH H b) (keyH H a)=false)→Ord es
 | [],ys,_,_,_=>List.Pairwise.nil
 | d :: r,ys,hf,h,o=>by
  obtain ⟨u,t,rfl,g1,g2⟩:=h.consE
  obtain ⟨o1,o2⟩:=List.pairwise_cons.mp o
  refine List.pairwise_cons.mpr ⟨fun e he=>?_,dats_ord (fun z hz=>hf z (List.mem_cons_of_mem _ hz)) g2 o2⟩
  obtain ⟨x,hx,k⟩:=dats_memL g2 he
  have:=o1 x hx
  rw [keyH_eq (hf e (List.mem_cons_of_mem _ he)) k,keyH_eq (hf d (List.mem_cons_self ..)) g1] at this
  exact this
theorem sorted_dats {H H':Hp} {xs ys:List V} {ds:List D} (s:Same H H') (hf:∀ x∈ds,IsForm x) (h:Dats H ds xs) (p:ys.Perm xs) (o:ys.Pairwise (fun a b=>lx (keyH H b) (keyH H a)=false)):Dats H' (srtD ds) ys:=by
 obtain ⟨es,p1,h1⟩:=dats_perm p h
 have e:=srtD_of hf p1 (dats_ord (fun x hx=>hf x (p1.mem_iff.mp hx)) h1 o)
 rw [← e]
 exact Dats.kt (KT.same s) _ h1
theorem kS_len:∀ {l:List D},(∀ x∈l,(kD x).length≤2 * sz x)→(kS l).length≤2 * szs l
 | [],_=>by rw [kS_nil]; exact Nat.zero_le _
 | d :: r,h=>by
  have ih:=kS_len (l:=r) fun x hx=>h x (List.mem_cons_of_mem _ hx)
  have:=h d (List.mem_cons_self ..)
  rw [kS_cons,szs,List.length_append]
  lia
theorem kD_len {d:D} (h:IsForm d):(kD d).length≤2 * sz d:=by
 induction h with
 | @num i _ _=>rw [kD_int]; have:=sz_pos (.int i); show 2≤_; lia
 | @grp k m0 more off hk h0 h1 h2 i0 i1 i2 =>
  have sg:=sz_grp k m0 more off
  have a:=kS_len (l:=m0 :: more) (fun x hx=>by rcases List.mem_cons.mp hx with rfl | hx; exact i0; exact i1 x hx)
  have b:=kS_len i2
  rw [kD_grp,List.length_cons,List.length_append,List.length_cons,List.length_append]
  show _ + (_ + (1) + 1) + 1≤_
  lia
theorem szs_app:∀ (a b:List D),szs (a++b)=szs a + szs b
 | [],b=>by rw [szs]; simp
 | d :: r,b=>by
  show szs (d :: (r++b))=_
  rw [szs,szs,szs_app r b]
  lia
theorem szs_perm {a b:List D} (p:a.Perm b):szs a=szs b:=by
 induction p with
 | nil=>rfl
 | cons x _ ih=>rw [szs,szs,ih]
 | swap x y l=>rw [szs,szs,szs,szs]; lia
 | trans _ _ i1 i2=>rw [i1,i2]
theorem sz_grpE (k:Str) (more off:List D):sz (.tup [.str k,.tup more,.tup off])=szs more + szs off + 7:=by
 have e1:∀ l,sz (.tup l)=1 + szs l:=fun l=>by rw [sz]
 have e2:sz (.str k)=1:=by rw [sz]; all_goals simp
 have e3:∀ (d:D) (r:List D),szs (d :: r)=sz d + 1 + szs r:=fun d r=>by rw [szs]
 have e4:szs []=0:=by rw [szs]
 rw [e1,e3 (.str k),e3 (.tup more),e3 (.tup off),e4,e2,e1,e1]
 lia
theorem pf_sz {k:Str} {d:D} (h:IsForm d):szs (pf k d).1 + szs (pf k d).2≤sz d + 1:=by
 have e0:szs []=0:=by rw [szs]
 have e1:∀ (d:D) (r:List D),szs (d :: r)=sz d + 1 + szs r:=fun d r=>by rw [szs]
 have one:∀ d:D,szs [d] + szs []=sz d + 1:=fun d=>by rw [e1,e0]
 cases h with
 | num h0 h1=>rw [pf_int]; exact Nat.le_of_eq (one _)
 | @grp k' m0 more off hk g0 g1 g2 =>
  rw [pf_grp]
  split
  ·rw [sz_grpE]; show szs (m0 :: more) + szs off≤_; lia
  ·exact Nat.le_of_eq (one _)
theorem swp_sz (b:Bool) (p:List D×List D):szs (swp b p).1 + szs (swp b p).2=szs p.1 + szs p.2:=by
 cases b
 ·rfl
 ·show szs p.2 + szs p.1=_; lia
theorem fP_sz:∀ {x:Way},x.ok 1000000000000000000000000000000000000000000000000→sz (fP x) + 10≤11 * x.size:=by
 intro x
 induction x with
 | num n=>intro _; show sz (.int n) + 10≤11 * 1; rw [sz]; all_goals simp
 | op w a b ia ib =>
  intro h
  obtain ⟨_,ha,hb⟩:=h
  have fa:=pf_sz (k:=knd w) (fP_form ha)
  have fb:=pf_sz (k:=knd w) (fP_form hb)
  have sw:=swp_sz (trn w) (pf (knd w) (fP b))
  have i1:=ia ha
  have i2:=ib hb
  rw [fP,sz_grpE,szs_perm (srtD_perm _),szs_perm (srtD_perm _),szs_app,szs_app]
  show _≤11 * (a.size + b.size)
  lia
theorem mem_sz:∀ {l:List D} {x:D},x∈l→sz x + 1≤szs l
 | d :: r,x,h=>by
  rw [szs]
  rcases List.mem_cons.mp h with rfl | h
  ·lia
  ·have:=mem_sz h; lia
end Law
namespace Law
open PySem L2
end Law
namespace Law
open PySem L2
end Law
namespace Law
open PySem L2
noncomputable def valD (d:D):Int:=match worthE (fw d) with
 | .inr n=>n
 | .inl _=>0
noncomputable def okD (d:D):Prop:=∃ n,worthE (fw d)=.inr n∧1≤n
theorem valD_of {d:D} {n:Int} (h:worthE (fw d)=.inr n):valD d=n:=by unfold valD; rw [h]
theorem okD.val {d:D} (h:okD d):worthE (fw d)=.inr (valD d)∧1≤valD d:=by
 obtain ⟨n,h1,h2⟩:=h
 rw [valD_of h1]
 exact ⟨h1,h2⟩
noncomputable def sumD (l:List D):Int:=(l.map valD).sum
noncomputable def prodI:List Int→Int
 | []=>1
 | a :: r=>a * prodI r
noncomputable def prodD (l:List D):Int:=prodI (l.map valD)
theorem sumD_app (a b:List D):sumD (a++b)=sumD a + sumD b:=by unfold sumD; rw [List.map_append,List.sum_append]
theorem prodI_app:∀ a b:List Int,prodI (a++b)=prodI a * prodI b
 | [],b=>by show prodI b=1 * prodI b; rw [Int.one_mul]
 | x :: a,b=>by show x * prodI (a++b)=x * prodI a * prodI b; rw [prodI_app a b,Int.mul_assoc]
theorem prodD_app (a b:List D):prodD (a++b)=prodD a * prodD b:=by unfold prodD; rw [List.map_append,prodI_app]
theorem sumD_perm {a b:List D} (h:a.Perm b):sumD a=sumD b:=by
 unfold sumD
 induction h with
 | nil=>rfl
 | cons x _ ih=>rw [List.map_cons,List.map_cons,List.sum_cons,List.sum_cons,ih]
 | swap x y l=>simp only [List.map_cons,List.sum_cons]; lia
 | trans _ _ i j=>exact i.trans j
theorem prodD_perm {a b:List D} (h:a.Perm b):prodD a=prodD b:=by
 unfold prodD
 induction h with
 | nil=>rfl
 | cons x _ ih=>rw [List.map_cons,List.map_cons,prodI,prodI,ih]
 | swap x y l=>simp only [List.map_cons,prodI]; rw [Int.mul_left_comm]
 | trans _ _ i j=>exact i.trans j
theorem sumD_nn {l:List D} (h:∀ x∈l,okD x):0≤sumD l:=by
 induction l with
 | nil=>exact Int.le_refl _
 | cons d r ih =>
  show 0≤(valD d :: r.map valD).sum
  rw [List.sum_cons]
  have:=(h d (List.mem_cons_self ..)).val.2
  have:=ih fun x hx=>h x (List.mem_cons_of_mem _ hx)
  unfold sumD at this
  lia
theorem fold1_cons (w:Str) (a x:Way) (xs:List Way):fold1 w a (x :: xs)=fold1 w (.op w a x) xs:=rfl
theorem worth_two {w:Str} {a b:Way} {x y:Int} (h1:worthE a=.inr x) (h2:worthE b=.inr y):worthE (.op w a b)=byE w x y:=by rw [worthE_op,h1,h2]
theorem worth_parts {w:Str} {a b:Way} {n:Int} (h:worthE (.op w a b)=.inr n):∃ x y,worthE a=.inr x∧worthE b=.inr y∧byE w x y=.inr n:=by
 rw [worthE_op] at h
 cases e1:worthE a with
 | inl e=>rw [e1] at h; cases h
 | inr x =>
  rw [e1] at h
  cases e2:worthE b with
  | inl e=>rw [e2] at h; cases h
  | inr y=>rw [e2] at h; exact ⟨x,y,rfl,rfl,h⟩
theorem by_plus (a b:Int):byE "plus" a b=.inr (a + b):=by unfold byE; rw [if_pos rfl]
theorem by_times (a b:Int):byE "times" a b=.inr (a * b):=by unfold byE; rw [if_neg (by decide +kernel),if_pos rfl]
theorem by_less (a b:Int):byE "less" a b=if b < a then .inr (a - b) else .inl "less":=by unfold byE; rw [if_neg (by decide +kernel),if_neg (by decide +kernel),if_pos rfl]
theorem by_share (a b:Int):byE "share" a b=if a % b=0 then .inr (a / b) else .inl "share":=by unfold byE; rw [if_neg (by decide +kernel),if_neg (by decide +kernel),if_neg (by decide +kernel)]
theorem plus_fold:∀ (l:List D) (a:Way) (x:Int),worthE a=.inr x→(∀ d∈l,okD d)→worthE (fold1 "plus" a (l.map fw))=.inr (x + sumD l)
 | [],a,x,h,_=>by
  show worthE a=.inr (x + 0)
  rw [h,Int.add_zero]
 | d :: r,a,x,h,ho=>by
  rw [List.map_cons,fold1_cons,plus_fold r (.op "plus" a (fw d)) (x + valD d) (by rw [worth_two h (ho d (List.mem_cons_self ..)).val.1,by_plus]) fun z hz=>ho z (List.mem_cons_of_mem _ hz)]
  show Sum.inr (x + valD d + sumD r)=Sum.inr (x + (valD d :: r.map valD).sum)
  rw [List.sum_cons,Int.add_assoc]; rfl
theorem times_fold:∀ (l:List D) (a:Way) (x:Int),worthE a=.inr x→(∀ d∈l,okD d)→worthE (fold1 "times" a (l.map fw))=.inr (x * prodD l)
 | [],a,x,h,_=>by
  show worthE a=.inr (x * 1)
  rw [h,Int.mul_one]
 | d :: r,a,x,h,ho=>by
  rw [List.map_cons,fold1_cons,times_fold r (.op "times" a (fw d)) (x * valD d) (by rw [worth_two h (ho d (List.mem_cons_self ..)).val.1,by_times]) fun z hz=>ho z (List.mem_cons_of_mem _ hz)]
  show Sum.inr (x * valD d * prodD r)=Sum.inr (x * (valD d * prodI (r.map valD)))
  rw [Int.mul_assoc]; rfl
theorem less_fold:∀ (l:List D) (a:Way) (x:Int),worthE a=.inr x→(∀ d∈l,okD d)→1≤x - sumD l→worthE (fold1 "less" a (l.map fw))=.inr (x - sumD l)
 | [],a,x,h,_,_=>by
  show worthE a=.inr (x - 0)
  rw [h,Int.sub_zero]
 | d :: r,a,x,h,ho,hx=>by
  have e:sumD (d :: r)=valD d + sumD r:=by unfold sumD; rw [List.map_cons,List.sum_cons]
  have ho':∀ z∈r,okD z:=fun z hz=>ho z (List.mem_cons_of_mem _ hz)
  have hn:=sumD_nn ho'
  rw [e] at hx ⊢
  rw [List.map_cons,fold1_cons,less_fold r (.op "less" a (fw d)) (x - valD d) (by rw [worth_two h (ho d (List.mem_cons_self ..)).val.1,by_less,if_pos (by lia)]) ho' (by lia)]
  congr 1; lia
theorem share_fold:∀ (l:List D) (a:Way) (n:Int),worthE a=.inr (n * prodD l)→(∀ d∈l,okD d)→worthE (fold1 "share" a (l.map fw))=.inr n
 | [],a,n,h,_=>by
  show worthE a=.inr n
  rw [h]
  show Sum.inr (n * 1)=Sum.inr n
  rw [Int.mul_one]
 | d :: r,a,n,h,ho=>by
  have e:prodD (d :: r)=valD d * prodD r:=rfl
  have hd:=(ho d (List.mem_cons_self ..)).val
  have hne:valD d≠0:=by lia
  have e2:n * (valD d * prodD r)=(n * prodD r) * valD d:=by rw [Int.mul_comm (valD d),Int.mul_assoc]
  rw [e,e2] at h
  rw [List.map_cons,fold1_cons]
  refine share_fold r _ n ?_ fun z hz=>ho z (List.mem_cons_of_mem _ hz)
  rw [worth_two h hd.1,by_share,if_pos (Int.mul_emod_left ..),Int.mul_ediv_cancel _ hne]
theorem any_back (w:Str):∀ (l:List Way) (a:Way) (n:Int),worthE (fold1 w a l)=.inr n→∃ x,worthE a=.inr x∧(∀ y∈l,∃ z,worthE y=.inr z)
 | [],a,n,h=>⟨n,h,fun y hy=>by cases hy⟩
 | d :: r,a,n,h=>by
  rw [fold1_cons] at h
  obtain ⟨x,h1,h2⟩:=any_back w r _ n h
  obtain ⟨p,q,h3,h4,_⟩:=worth_parts h1
  exact ⟨p,h3,fun y hy=>by
   rcases List.mem_cons.mp hy with rfl | hy
   ·exact ⟨q,h4⟩
   ·exact h2 y hy⟩
theorem less_back:∀ (l:List D) (a:Way) (x n:Int),worthE a=.inr x→(∀ d∈l,okD d)→worthE (fold1 "less" a (l.map fw))=.inr n→n=x - sumD l
 | [],a,x,n,h,_,h2=>by
  have h2':worthE a=.inr n:=h2
  rw [h] at h2'
  cases h2'
  show x=x - 0
  lia
 | d :: r,a,x,n,h,ho,h2=>by
  have e:sumD (d :: r)=valD d + sumD r:=by unfold sumD; rw [List.map_cons,List.sum_cons]
  rw [List.map_cons,fold1_cons] at h2
  obtain ⟨y,h3,_⟩:=any_back "less" _ _ n h2
  have h4:=h3
  rw [worth_two h (ho d (List.mem_cons_self ..)).val.1,by_less] at h4
  split at h4
  ·cases h4
   have:=less_back r _ _ n h3 (fun z hz=>ho z (List.mem_cons_of_mem _ hz)) h2
   lia
  ·cases h4
theorem share_back:∀ (l:List D) (a:Way) (x n:Int),worthE a=.inr x→(∀ d∈l,okD d)→worthE (fold1 "share" a (l.map fw))=.inr n→n * prodD l=x
 | [],a,x,n,h,_,h2=>by
  have h2':worthE a=.inr n:=h2
  rw [h] at h2'
  cases h2'
  show x * 1=x
  exact Int.mul_one _
 | d :: r,a,x,n,h,ho,h2=>by
  rw [List.map_cons,fold1_cons] at h2
  obtain ⟨y,h3,_⟩:=any_back "share" _ _ n h2
  have h4:=h3
  rw [worth_two h (ho d (List.mem_cons_self ..)).val.1,by_share] at h4
  split at h4
  ·rename_i hm
   cases h4
   have ih:=share_back r _ _ n h3 (fun z hz=>ho z (List.mem_cons_of_mem _ hz)) h2
   show n * (valD d * prodD r)=x
   rw [Int.mul_left_comm,ih]
   exact Int.mul_ediv_cancel' (Int.dvd_of_emod_eq_zero hm)
  ·cases h4
noncomputable def Rel (k:Str) (m o:List D) (n:Int):Prop:=(k="sum"→n=sumD m - sumD o)∧(k="product"→n * prodD o=prodD m)
theorem grp_worth {k:Str} {m0:D} {more off:List D} {n:Int} (hk:k="sum"∨k="product") (h0:IsForm m0) (h1:∀ x∈more,IsForm x) (h2:∀ x∈off,IsForm x)
  (om:∀ x∈m0 :: more,okD x) (oo:∀ x∈off,okD x) (hn:1≤n) (hr:Rel k (m0 :: more) off n):worthE (fw (.tup [.str k,.tup (m0 :: more),.tup off]))=.inr n:=by
 rw [fw_grp h0 h1 h2]
 have hv:=(om m0 (List.mem_cons_self ..)).val.1
 have om':∀ x∈more,okD x:=fun x hx=>om x (List.mem_cons_of_mem _ hx)
 rcases hk with rfl | rfl
 ·have e:=hr.1 rfl
  have es:sumD (m0 :: more)=valD m0 + sumD more:=by unfold sumD; rw [List.map_cons,List.sum_cons]
  rw [es] at e
  rw [show pt "sum"="plus" by decide,show tk "sum"="less" by decide,less_fold off _ _ (plus_fold more _ _ hv om') oo (by lia),e]
 ·have e:=hr.2 rfl
  have es:prodD (m0 :: more)=valD m0 * prodD more:=rfl
  rw [es] at e
  rw [show pt "product"="times" by decide,show tk "product"="share" by decide]
  exact share_fold off _ n (by rw [times_fold more _ _ hv om',e]) oo
theorem form_pos {d:D} {n:Int} (h:IsForm d) (e:worthE (fw d)=.inr n):1≤n:=by
 have:(fw d).ok 1000000000000000000000000000000000000000000000000:=by
  induction h with
  | num h0 h1=>rw [fw_int]; exact ⟨h0,h1⟩
  | @grp k m0 more off hk g0 g1 g2 ih0 ih1 ih2 =>
   rw [fw_grp g0 g1 g2]
   have fo:∀ (w:Str) (l:List Way) (a:Way),okWord w→a.ok 1000000000000000000000000000000000000000000000000→(∀ y∈l,y.ok 1000000000000000000000000000000000000000000000000)→(fold1 w a l).ok 1000000000000000000000000000000000000000000000000:=by
    intro w l
    induction l with
    | nil=>intro a _ ha _; exact ha
    | cons x r ih=>intro a hw ha hl; rw [fold1_cons]; exact ih _ hw ⟨hw,ha,hl x (List.mem_cons_self ..)⟩ fun y hy=>hl y (List.mem_cons_of_mem _ hy)
   have all:∀ (x:D),(m0=x∨x∈more∨x∈off)→(fw x).ok 1000000000000000000000000000000000000000000000000:=fun x hx=>by
    have q:∀ (x:D),IsForm x→(fw x).ok 1000000000000000000000000000000000000000000000000:=fun x hx=>by
     clear ih0 ih1 ih2 hk g0 g1 g2 e
     induction hx with
     | num h0 h1=>rw [fw_int]; exact ⟨h0,h1⟩
     | @grp k m0 more off hk g0 g1 g2 ih0 ih1 ih2 =>
      rw [fw_grp g0 g1 g2]
      refine fo _ _ _ (tk_ok k) (fo _ _ _ (pt_ok k) ih0 fun y hy=>?_) fun y hy=>?_
      ·obtain ⟨z,hz,rfl⟩:=List.mem_map.mp hy; exact ih1 z hz
      ·obtain ⟨z,hz,rfl⟩:=List.mem_map.mp hy; exact ih2 z hz
    rcases hx with rfl | hx | hx
    ·exact q _ g0
    ·exact q _ (g1 x hx)
    ·exact q _ (g2 x hx)
   refine fo _ _ _ (tk_ok k) (fo _ _ _ (pt_ok k) (all m0 (.inl rfl)) fun y hy=>?_) fun y hy=>?_
   ·obtain ⟨z,hz,rfl⟩:=List.mem_map.mp hy; exact all z (.inr (.inl hz))
   ·obtain ⟨z,hz,rfl⟩:=List.mem_map.mp hy; exact all z (.inr (.inr hz))
 exact (worth_bound (by decide) this e).1
theorem grp_back {k:Str} {m0:D} {more off:List D} {n:Int} (hk:k="sum"∨k="product") (h0:IsForm m0) (h1:∀ x∈more,IsForm x) (h2:∀ x∈off,IsForm x) (e:worthE (fw (.tup [.str k,.tup (m0 :: more),.tup off]))=.inr n) :
  (∀ x∈m0 :: more,okD x)∧(∀ x∈off,okD x)∧Rel k (m0 :: more) off n:=by
 rw [fw_grp h0 h1 h2] at e
 obtain ⟨x,ex,eo⟩:=any_back (tk k) _ _ n e
 obtain ⟨y,ey,em⟩:=any_back (pt k) _ _ x ex
 have oo:∀ d∈off,okD d:=fun d hd=>by
  obtain ⟨z,hz⟩:=eo (fw d) (List.mem_map_of_mem hd)
  exact ⟨z,hz,form_pos (h2 d hd) hz⟩
 have om:∀ d∈more,okD d:=fun d hd=>by
  obtain ⟨z,hz⟩:=em (fw d) (List.mem_map_of_mem hd)
  exact ⟨z,hz,form_pos (h1 d hd) hz⟩
 have o0:okD m0:=⟨y,ey,form_pos h0 ey⟩
 refine ⟨fun d hd=>?_,oo,?_⟩
 ·rcases List.mem_cons.mp hd with rfl | hd
  ·exact o0
  ·exact om d hd
 ·rcases hk with rfl | rfl
  ·refine ⟨fun _=>?_,fun z=>absurd z (by decide)⟩
   have es:sumD (m0 :: more)=valD m0 + sumD more:=by unfold sumD; rw [List.map_cons,List.sum_cons]
   rw [show pt "sum"="plus" by decide] at ex e
   rw [show tk "sum"="less" by decide] at e
   have:=less_back off _ _ n (plus_fold more _ _ o0.val.1 om) oo e
   rw [es]; exact this
  ·refine ⟨fun z=>absurd z (by decide),fun _=>?_⟩
   have es:prodD (m0 :: more)=valD m0 * prodD more:=rfl
   rw [show pt "product"="times" by decide] at ex e
   rw [show tk "product"="share" by decide] at e
   have:=share_back off _ _ n (times_fold more _ _ o0.val.1 om) oo e
   rw [es]; exact this
theorem pf_rel {k:Str} {d:D} {n:Int} (hk:k="sum"∨k="product") (h:IsForm d) (e:worthE (fw d)=.inr n):(∀ x∈(pf k d).1,okD x)∧(∀ x∈(pf k d).2,okD x)∧Rel k (pf k d).1 (pf k d).2 n:=by
 have one:∀ d:D,worthE (fw d)=.inr n→1≤n→(∀ x∈[d],okD x)∧(∀ x∈([]:List D),okD x)∧Rel k [d] [] n:=fun d e hn=>by
  have hv:=valD_of e
  refine ⟨fun x hx=>by rw [List.mem_singleton.mp hx]; exact ⟨n,e,hn⟩,(fun x hx=>by cases hx),fun _=>?_,fun _=>?_⟩
  ·show n=(valD d + 0) - 0
   rw [hv]; lia
  ·show n * 1=valD d * 1
   rw [hv]
 have hn:=form_pos h e
 cases h with
 | num h0 h1=>rw [pf_int]; exact one _ e hn
 | @grp k' m0 more off hk' g0 g1 g2 =>
  rw [pf_grp]
  by_cases hkk:k'=k
  ·rw [if_pos hkk]
   subst hkk
   exact grp_back hk' g0 g1 g2 e
  ·rw [if_neg hkk]
   exact one _ e hn
theorem knd_wd {w:Str} (h:okWord w):(w="plus"∧knd w="sum"∧trn w=false)∨(w="less"∧knd w="sum"∧trn w=true)∨(w="times"∧knd w="product"∧trn w=false)∨(w="share"∧knd w="product"∧trn w=true):=by
 rcases h with rfl | rfl | rfl | rfl
 ·exact .inl ⟨rfl,by unfold knd; decide,by decide⟩
 ·exact .inr (.inl ⟨rfl,by unfold knd; decide,by decide⟩)
 ·exact .inr (.inr (.inl ⟨rfl,by unfold knd; decide,by decide⟩))
 ·exact .inr (.inr (.inr ⟨rfl,by unfold knd; decide,by decide⟩))
theorem form_worth:∀ {x:Way} {n:Int},x.ok 1000000000000000000000000000000000000000000000000→worthE x=.inr n→worthE (fw (fP x))=.inr n:=by
 intro x
 induction x with
 | num i=>intro n _ e; show worthE (fw (.int i))=_; rw [fw_int]; exact e
 | op w a b iha ihb =>
  intro n ho e
  obtain ⟨hw,oa,ob⟩:=id ho
  obtain ⟨p,q,ep,eq,eb⟩:=worth_parts e
  have fa:=fP_form oa
  have fb:=fP_form ob
  have hn:=(worth_bound (m:=1000000000000000000000000000000000000000000000000) (by decide) ho e).1
  have hq:=(worth_bound (m:=1000000000000000000000000000000000000000000000000) (by decide) ob eq).1
  obtain ⟨am,ao,ar⟩:=pf_rel (knd_ok w) fa (iha oa ep)
  obtain ⟨bm,bo,br⟩:=pf_rel (knd_ok w) fb (ihb ob eq)
  obtain ⟨⟨m0,r0,em0⟩,fam,fao⟩:=pf_form (k:=knd w) fa
  obtain ⟨sm,so⟩:=swp_forms (b:=trn w) (k:=knd w) fb
  have key:Rel (knd w) ((pf (knd w) (fP a)).1++(swp (trn w) (pf (knd w) (fP b))).1) ((pf (knd w) (fP a)).2++(swp (trn w) (pf (knd w) (fP b))).2) n:=by
   rcases knd_wd hw with ⟨rfl,hk,ht⟩ | ⟨rfl,hk,ht⟩ | ⟨rfl,hk,ht⟩ | ⟨rfl,hk,ht⟩
   ·rw [hk] at ar br ⊢
    rw [ht]
    refine ⟨fun _=>?_,fun z=>absurd z (by decide)⟩
    have h1:=ar.1 rfl
    have h2:=br.1 rfl
    rw [by_plus] at eb
    cases eb
    show p + q=sumD (_++(pf "sum" (fP b)).1) - sumD (_++(pf "sum" (fP b)).2)
    rw [sumD_app,sumD_app]; lia
   ·rw [hk] at ar br ⊢
    rw [ht]
    refine ⟨fun _=>?_,fun z=>absurd z (by decide)⟩
    have h1:=ar.1 rfl
    have h2:=br.1 rfl
    rw [by_less] at eb
    split at eb
    ·cases eb
     show p - q=sumD (_++(pf "sum" (fP b)).2) - sumD (_++(pf "sum" (fP b)).1)
     rw [sumD_app,sumD_app]; lia
    ·cases eb
   ·rw [hk] at ar br ⊢
    rw [ht]
    refine ⟨fun z=>absurd z (by decide),fun _=>?_⟩
    have h1:=ar.2 rfl
    have h2:=br.2 rfl
    rw [by_times] at eb
    cases eb
    show p * q * prodD (_++(pf "product" (fP b)).2)=prodD (_++(pf "product" (fP b)).1)
    rw [prodD_app,prodD_app,← h1,← h2,Int.mul_assoc,Int.mul_assoc]
    congr 1
    rw [← Int.mul_assoc,Int.mul_comm q,Int.mul_assoc]
   ·rw [hk] at ar br ⊢
    rw [ht]
    refine ⟨fun z=>absurd z (by decide),fun _=>?_⟩
    have h1:=ar.2 rfl
    have h2:=br.2 rfl
    rw [by_share] at eb
    split at eb
    ·rename_i hm
     cases eb
     have hp:p / q * q=p:=Int.ediv_mul_cancel (Int.dvd_of_emod_eq_zero hm)
     show p / q * prodD (_++(pf "product" (fP b)).1)=prodD (_++(pf "product" (fP b)).2)
     rw [prodD_app,prodD_app,← h1,← h2]
     rw [show p / q * (prodD (pf "product" (fP a)).2 * (q * prodD (pf "product" (fP b)).2))=(p / q * q) * (prodD (pf "product" (fP a)).2 * prodD (pf "product" (fP b)).2) by
      rw [Int.mul_assoc (p / q) q]
      congr 1
      rw [Int.mul_left_comm],hp,Int.mul_assoc]
    ·cases eb
  have pm:=srtD_perm ((pf (knd w) (fP a)).1++(swp (trn w) (pf (knd w) (fP b))).1)
  have po:=srtD_perm ((pf (knd w) (fP a)).2++(swp (trn w) (pf (knd w) (fP b))).2)
  have bs1:∀ x∈(swp (trn w) (pf (knd w) (fP b))).1,okD x:=fun x hx=>by
   unfold swp at hx
   split at hx
   ·exact bo x hx
   ·exact bm x hx
  have bs2:∀ x∈(swp (trn w) (pf (knd w) (fP b))).2,okD x:=fun x hx=>by
   unfold swp at hx
   split at hx
   ·exact bm x hx
   ·exact bo x hx
  obtain ⟨x0,t0,e0⟩:=srt_cons (l:=(pf (knd w) (fP a)).1++(swp (trn w) (pf (knd w) (fP b))).1) (m0:=m0) (r:=r0++(swp (trn w) (pf (knd w) (fP b))).1) (by rw [em0]; rfl)
  have hF:∀ x∈x0 :: t0,IsForm x∧okD x:=fun x hx=>by
   rw [← e0] at hx
   rcases List.mem_append.mp (pm.mem_iff.mp hx) with h | h
   ·exact ⟨fam x h,am x h⟩
   ·exact ⟨sm x h,bs1 x h⟩
  have hO:∀ x∈srtD ((pf (knd w) (fP a)).2++(swp (trn w) (pf (knd w) (fP b))).2),IsForm x∧okD x:=fun x hx=>by
   rcases List.mem_append.mp (po.mem_iff.mp hx) with h | h
   ·exact ⟨fao x h,ao x h⟩
   ·exact ⟨so x h,bs2 x h⟩
  show worthE (fw (.tup [.str (knd w),.tup (srtD ((pf (knd w) (fP a)).1++(swp (trn w) (pf (knd w) (fP b))).1)),.tup (srtD ((pf (knd w) (fP a)).2++(swp (trn w) (pf (knd w) (fP b))).2))]))=_
  have key2:Rel (knd w) (x0 :: t0) (srtD ((pf (knd w) (fP a)).2++(swp (trn w) (pf (knd w) (fP b))).2)) n:=by
   rw [← e0]
   refine ⟨fun z=>?_,fun z=>?_⟩
   ·rw [sumD_perm pm,sumD_perm po]; exact key.1 z
   ·rw [prodD_perm pm,prodD_perm po]; exact key.2 z
  rw [e0]
  exact grp_worth (knd_ok w) (hF x0 (List.mem_cons_self ..)).1 (fun x hx=>(hF x (List.mem_cons_of_mem _ hx)).1) (fun x hx=>(hO x hx).1) (fun x hx=>(hF x hx).2) (fun x hx=>(hO x hx).2) hn key2
end Law
namespace Law
open PySem L2
noncomputable def isK (k:Str):D→Bool
 | .tup (.str k' :: _)=>decide (k'=k)
 | _=>false
inductive Kept:D→Prop
 | num {i:Int} (h0:1≤i) (h1:i≤1000000000000000000000000000000000000000000000000):Kept (.int i)
 | grp {k:Str} {m0:D} {more off:List D} (hk:k="sum"∨k="product") (h2:1≤more.length + off.length) (nm:∀ x∈m0 :: more,isK k x=false) (no:∀ x∈off,isK k x=false) (om:Ord (m0 :: more)) (oo:Ord off)
   (g0:Kept m0) (g1:∀ x∈more,Kept x) (g2:∀ x∈off,Kept x):Kept (.tup [.str k,.tup (m0 :: more),.tup off])
theorem Kept.form {d:D} (h:Kept d):IsForm d:=by
 induction h with
 | num h0 h1=>exact .num h0 h1
 | grp hk _ _ _ _ _ _ _ _ i0 i1 i2=>exact .grp hk i0 i1 i2
theorem pf_kept {k:Str} {d:D} (h:Kept d):(∀ x∈(pf k d).1,Kept x∧isK k x=false)∧∀ x∈(pf k d).2,Kept x∧isK k x=false:=by
 cases h with
 | num h0 h1 =>
  rw [pf_int]
  exact ⟨fun x hx=>by rw [List.mem_singleton.mp hx]; exact ⟨.num h0 h1,rfl⟩,fun x hx=>by cases hx⟩
 | @grp k' m0 more off hk h2 nm no om oo g0 g1 g2 =>
  rw [pf_grp]
  by_cases e:k'=k
  ·rw [if_pos e]
   subst e
   refine ⟨fun x hx=>⟨?_,nm x hx⟩,fun x hx=>⟨g2 x hx,no x hx⟩⟩
   rcases List.mem_cons.mp hx with rfl | hx
   ·exact g0
   ·exact g1 x hx
  ·rw [if_neg e]
   refine ⟨fun x hx=>?_,fun x hx=>by cases hx⟩
   rw [List.mem_singleton.mp hx]
   exact ⟨.grp hk h2 nm no om oo g0 g1 g2,decide_eq_false e⟩
theorem form_kept:∀ {x:Way},x.ok 1000000000000000000000000000000000000000000000000→Kept (fP x):=by
 intro x
 induction x with
 | num n=>intro h; exact .num h.1 h.2
 | op w a b iha ihb =>
  intro h
  obtain ⟨hw,ha,hb⟩:=id h
  obtain ⟨a1,a2⟩:=pf_kept (k:=knd w) (iha ha)
  obtain ⟨b1,b2⟩:=pf_kept (k:=knd w) (ihb hb)
  obtain ⟨⟨m0,r0,em0⟩,_,_⟩:=pf_form (k:=knd w) (fP_form ha)
  obtain ⟨⟨m1,r1,em1⟩,_,_⟩:=pf_form (k:=knd w) (fP_form hb)
  have pm:=srtD_perm ((pf (knd w) (fP a)).1++(swp (trn w) (pf (knd w) (fP b))).1)
  have po:=srtD_perm ((pf (knd w) (fP a)).2++(swp (trn w) (pf (knd w) (fP b))).2)
  have s1:∀ x∈(swp (trn w) (pf (knd w) (fP b))).1,Kept x∧isK (knd w) x=false:=fun x hx=>by
   unfold swp at hx
   split at hx
   ·exact b2 x hx
   ·exact b1 x hx
  have s2:∀ x∈(swp (trn w) (pf (knd w) (fP b))).2,Kept x∧isK (knd w) x=false:=fun x hx=>by
   unfold swp at hx
   split at hx
   ·exact b1 x hx
   ·exact b2 x hx
  have sl:1≤(swp (trn w) (pf (knd w) (fP b))).1.length + (swp (trn w) (pf (knd w) (fP b))).2.length:=by
   have:1≤(pf (knd w) (fP b)).1.length:=by rw [em1,List.length_cons]; lia
   unfold swp
   split
   ·show 1≤(pf (knd w) (fP b)).2.length + (pf (knd w) (fP b)).1.length; lia
   ·lia
  obtain ⟨x0,t0,e0⟩:=srt_cons (l:=(pf (knd w) (fP a)).1++(swp (trn w) (pf (knd w) (fP b))).1) (m0:=m0) (r:=r0++(swp (trn w) (pf (knd w) (fP b))).1) (by rw [em0]; rfl)
  have lm:=pm.length_eq
  have lo:=po.length_eq
  have om:=srtD_ord ((pf (knd w) (fP a)).1++(swp (trn w) (pf (knd w) (fP b))).1)
  have hM:∀ x∈x0 :: t0,Kept x∧isK (knd w) x=false:=fun x hx=>by
   rw [← e0] at hx
   rcases List.mem_append.mp (pm.mem_iff.mp hx) with h | h
   ·exact a1 x h
   ·exact s1 x h
  have hO:∀ x∈srtD ((pf (knd w) (fP a)).2++(swp (trn w) (pf (knd w) (fP b))).2),Kept x∧isK (knd w) x=false:=fun x hx=>by
   rcases List.mem_append.mp (po.mem_iff.mp hx) with h | h
   ·exact a2 x h
   ·exact s2 x h
  show Kept (.tup [.str (knd w),.tup (srtD ((pf (knd w) (fP a)).1++(swp (trn w) (pf (knd w) (fP b))).1)),.tup (srtD ((pf (knd w) (fP a)).2++(swp (trn w) (pf (knd w) (fP b))).2))])
  rw [e0] at om lm ⊢
  refine .grp (knd_ok w) ?_ (fun x hx=>(hM x hx).2) (fun x hx=>(hO x hx).2) om (srtD_ord _) (hM x0 (List.mem_cons_self ..)).1 (fun x hx=>(hM x (List.mem_cons_of_mem _ hx)).1) fun x hx=>(hO x hx).1
  rw [List.length_append,em0,List.length_cons,List.length_cons] at lm
  rw [List.length_append] at lo
  lia
theorem lx_unique:∀ {a b:List (List Int)},a.Perm b→a.Pairwise (fun x y=>lx y x=false)→b.Pairwise (fun x y=>lx y x=false)→a=b
 | [],b,p,_,_=>(List.nil_perm.mp p).symm
 | x :: a,[],p,_,_=>absurd (List.perm_nil.mp p) (by simp)
 | x :: a,y :: b,p,ha,hb=>by
  obtain ⟨hx,ha'⟩:=List.pairwise_cons.mp ha
  obtain ⟨hy,hb'⟩:=List.pairwise_cons.mp hb
  have e:x=y:=by
   have h1:x∈y :: b:=p.mem_iff.mp (List.mem_cons_self ..)
   have h2:y∈x :: a:=p.mem_iff.mpr (List.mem_cons_self ..)
   rcases List.mem_cons.mp h1 with e | h1
   ·exact e
   rcases List.mem_cons.mp h2 with e | h2
   ·exact e.symm
   exact lx_total _ _ (hy x h1) (hx y h2)
  subst e
  rw [lx_unique ((List.perm_cons x).mp p) ha' hb']
theorem fw_ok {d:D} (h:IsForm d):(fw d).ok 1000000000000000000000000000000000000000000000000:=by
 induction h with
 | num h0 h1=>rw [fw_int]; exact ⟨h0,h1⟩
 | @grp k m0 more off hk g0 g1 g2 ih0 ih1 ih2 =>
  rw [fw_grp g0 g1 g2]
  have fo:∀ (w:Str) (l:List Way) (a:Way),okWord w→a.ok 1000000000000000000000000000000000000000000000000→(∀ y∈l,y.ok 1000000000000000000000000000000000000000000000000)→(fold1 w a l).ok 1000000000000000000000000000000000000000000000000:=by
   intro w l
   induction l with
   | nil=>intro a _ ha _; exact ha
   | cons x r ih=>intro a hw ha hl; rw [fold1_cons]; exact ih _ hw ⟨hw,ha,hl x (List.mem_cons_self ..)⟩ fun y hy=>hl y (List.mem_cons_of_mem _ hy)
  refine fo _ _ _ (tk_ok k) (fo _ _ _ (pt_ok k) ih0 fun y hy=>?_) fun y hy=>?_
  ·obtain ⟨z,hz,rfl⟩:=List.mem_map.mp hy; exact ih1 z hz
  ·obtain ⟨z,hz,rfl⟩:=List.mem_map.mp hy; exact ih2 z hz
end Law
namespace Law
open PySem L2
theorem pf_one {k:Str} {x:D} (hx:Kept x) (h:isK k x=false):pf k x=([x],[]):=by
 cases hx with
 | num h0 h1=>rfl
 | @grp k' m0 more off hk h2 nm no om oo g0 g1 g2 =>
  have ne:¬ k'=k:=of_decide_eq_false h
  rw [pf_grp,if_neg ne]
theorem fold_any {w k:Str} (hk:knd w=k):∀ (l:List D) (a:Way) (A B:List D),(∀ x∈A,IsForm x)→(∀ x∈B,IsForm x)→(pf k (fP a)).1.Perm A→(pf k (fP a)).2.Perm B→(∀ x∈l,IsForm x∧fP (fw x)=x∧pf k x=([x],[])) →
  (pf k (fP (fold1 w a (l.map fw)))).1.Perm (if trn w then A else A++l)∧(pf k (fP (fold1 w a (l.map fw)))).2.Perm (if trn w then B++l else B) ∧
  (l≠[]→fP (fold1 w a (l.map fw))=.tup [.str k,.tup (srtD (if trn w then A else A++l)),.tup (srtD (if trn w then B++l else B))])
 | [],a,A,B,_,_,pA,pB,_=>by
  refine ⟨?_,?_,fun h=>absurd rfl h⟩
  ·rw [List.append_nil]; split <;> exact pA
  ·rw [List.append_nil]; split <;> exact pB
 | x :: r,a,A,B,fA,fB,pA,pB,hl=>by
  obtain ⟨fx,ex,px⟩:=hl x (List.mem_cons_self ..)
  have hr:=fun y hy=>hl y (List.mem_cons_of_mem _ hy)
  have e1:fP (.op w a (fw x))=.tup [.str k,.tup (srtD (if trn w then A else A++[x])),.tup (srtD (if trn w then B++[x] else B))]:=by
   rw [fP,hk,ex,px]
   unfold swp
   cases trn w with
   | false =>
    show D.tup [.str k,.tup (srtD ((pf k (fP a)).1++[x])),.tup (srtD ((pf k (fP a)).2++[]))]=.tup [.str k,.tup (srtD (A++[x])),.tup (srtD B)]
    have p1:((pf k (fP a)).1++[x]).Perm (A++[x]):=pA.append_right _
    have p2:((pf k (fP a)).2++[]).Perm B:=by rw [List.append_nil]; exact pB
    rw [srtD_eq (fun y hy=>by
     rcases List.mem_append.mp (p1.mem_iff.mp hy) with h | h
     ·exact fA y h
     ·rw [List.mem_singleton.mp h]; exact fx) p1,srtD_eq (fun y hy=>fB y (p2.mem_iff.mp hy)) p2]
   | true =>
    show D.tup [.str k,.tup (srtD ((pf k (fP a)).1++[])),.tup (srtD ((pf k (fP a)).2++[x]))]=.tup [.str k,.tup (srtD A),.tup (srtD (B++[x]))]
    have p1:((pf k (fP a)).2++[x]).Perm (B++[x]):=pB.append_right _
    have p2:((pf k (fP a)).1++[]).Perm A:=by rw [List.append_nil]; exact pA
    rw [srtD_eq (fun y hy=>by
     rcases List.mem_append.mp (p1.mem_iff.mp hy) with h | h
     ·exact fB y h
     ·rw [List.mem_singleton.mp h]; exact fx) p1,srtD_eq (fun y hy=>fA y (p2.mem_iff.mp hy)) p2]
  have ep:pf k (fP (.op w a (fw x)))=(srtD (if trn w then A else A++[x]),srtD (if trn w then B++[x] else B)):=by rw [e1,pf_grp,if_pos rfl]
  have one:∀ {C:List D},(∀ y∈C,IsForm y)→∀ y∈C++[x],IsForm y:=fun h y hy=>by
   rcases List.mem_append.mp hy with h' | h'
   ·exact h y h'
   ·rw [List.mem_singleton.mp h']; exact fx
  have ih:=fold_any hk r (.op w a (fw x)) (if trn w then A else A++[x]) (if trn w then B++[x] else B) (by split; exact fA; exact one fA) (by split; exact one fB; exact fB) (by rw [ep]; exact srtD_perm _) (by rw [ep]; exact srtD_perm _) hr
  rw [List.map_cons,fold1_cons]
  have eA:(if trn w then (if trn w then A else A++[x]) else (if trn w then A else A++[x])++r)=if trn w then A else A++(x :: r):=by
   cases trn w
   ·show A++[x]++r=A++(x :: r); rw [List.append_assoc]; rfl
   ·rfl
  have eB:(if trn w then (if trn w then B++[x] else B)++r else (if trn w then B++[x] else B))=if trn w then B++(x :: r) else B:=by
   cases trn w
   ·rfl
   ·show B++[x]++r=B++(x :: r); rw [List.append_assoc]; rfl
  rw [eA,eB] at ih
  refine ⟨ih.1,ih.2.1,fun _=>?_⟩
  cases r with
  | nil=>exact e1
  | cons y t=>exact ih.2.2 (List.cons_ne_nil _ _)
theorem knd_pt {k:Str} (hk:k="sum"∨k="product"):knd (pt k)=k∧knd (tk k)=k∧trn (pt k)=false∧trn (tk k)=true:=by
 rcases hk with rfl | rfl <;> decide +kernel
theorem fP_fw {d:D} (h:Kept d):fP (fw d)=d:=by
 induction h with
 | num h0 h1=>rw [fw_int]; rfl
 | @grp k m0 more off hk h2 nm no om oo g0 g1 g2 i0 i1 i2 =>
  obtain ⟨kp,kt,tp,tt⟩:=knd_pt hk
  have f1:=fun x hx=>(g1 x hx).form
  have f2:=fun x hx=>(g2 x hx).form
  rw [fw_grp g0.form f1 f2]
  have a1:=fold_any kp more (fw m0) [m0] [] (fun x hx=>by rw [List.mem_singleton.mp hx]; exact g0.form) (fun x hx=>by cases hx) (by rw [i0,pf_one g0 (nm _ (List.mem_cons_self ..))]) (by rw [i0,pf_one g0 (nm _ (List.mem_cons_self ..))])
   (fun x hx=>⟨f1 x hx,i1 x hx,pf_one (g1 x hx) (nm x (List.mem_cons_of_mem _ hx))⟩)
  rw [tp] at a1
  simp only [Bool.false_eq_true,if_false,List.singleton_append] at a1
  have fm:∀ x∈m0 :: more,IsForm x:=fun x hx=>by
   rcases List.mem_cons.mp hx with rfl | hx
   ·exact g0.form
   ·exact f1 x hx
  have a2:=fold_any kt off (fold1 (pt k) (fw m0) (more.map fw)) (m0 :: more) [] fm (fun x hx=>by cases hx) a1.1 a1.2.1 (fun x hx=>⟨f2 x hx,i2 x hx,pf_one (g2 x hx) (no x hx)⟩)
  rw [tt] at a2
  simp only [if_true,List.nil_append] at a2
  have eM:srtD (m0 :: more)=m0 :: more:=(srtD_of fm (.refl _) om).symm
  have eO:srtD off=off:=(srtD_of f2 (.refl _) oo).symm
  cases off with
  | cons y t=>rw [a2.2.2 (List.cons_ne_nil _ _),eM,eO]
  | nil =>
   cases more with
   | nil=>exact absurd h2 (by decide)
   | cons y t =>
    show fP (fold1 (pt k) (fw m0) ((y :: t).map fw))=_
    rw [a1.2.2 (List.cons_ne_nil _ _),eM]
    rfl
theorem back {x:Way} (h:x.ok 1000000000000000000000000000000000000000000000000):fP (fw (fP x))=fP x:=fP_fw (form_kept h)
end Law
namespace Law
open PySem L2
noncomputable def nmW:Way→List Int
 | .num n=>[n]
 | .op _ a b=>nmW a++nmW b
mutual
noncomputable def nmD:D→List Int
 | .int i=>[i]
 | .tup l=>nmL l
 | _=>[]
noncomputable def nmL:List D→List Int
 | []=>[]
 | d :: r=>nmD d++nmL r
end
theorem nmL_nil:nmL []=[]:=by rw [nmL]
theorem nmL_cons (d:D) (r:List D):nmL (d :: r)=nmD d++nmL r:=by rw [nmL]
theorem nmD_int (i:Int):nmD (.int i)=[i]:=by rw [nmD]
theorem nmD_grp (k:Str) (m o:List D):nmD (.tup [.str k,.tup m,.tup o])=nmL m++nmL o:=by
 have e:nmD (.str k)=[]:=by rw [nmD] <;> intros <;> simp_all
 rw [nmD,nmL_cons,nmL_cons,nmL_cons,nmL_nil,e,nmD,nmD,List.append_nil,List.nil_append]
theorem nmL_app:∀ a b:List D,nmL (a++b)=nmL a++nmL b
 | [],b=>by rw [nmL_nil]; rfl
 | d :: r,b=>by rw [List.cons_append,nmL_cons,nmL_cons,nmL_app r b,List.append_assoc]
theorem nmL_perm {a b:List D} (h:a.Perm b):(nmL a).Perm (nmL b):=by
 induction h with
 | nil=>exact .refl _
 | cons x _ ih=>rw [nmL_cons,nmL_cons]; exact ih.append_left _
 | swap x y l=>rw [nmL_cons,nmL_cons,nmL_cons,nmL_cons,← List.append_assoc,← List.append_assoc]; exact List.perm_append_comm.append_right _
 | trans _ _ i j=>exact i.trans j
theorem pf_nm {k:Str} {d:D} (h:IsForm d):nmL (pf k d).1++nmL (pf k d).2=nmD d:=by
 have one:nmL [d]++nmL []=nmD d:=by rw [nmL_cons,nmL_nil,List.append_nil,List.append_nil]
 cases h with
 | num h0 h1=>rw [pf_int]; exact one
 | @grp k' m0 more off hk g0 g1 g2 =>
  rw [pf_grp]
  split
  ·rw [nmD_grp]
  ·exact one
theorem four {α:Type} (a b c d:List α):((a++c)++(b++d)).Perm ((a++b)++(c++d)):=by
 rw [List.append_assoc,List.append_assoc]
 refine List.Perm.append_left a ?_
 rw [← List.append_assoc,← List.append_assoc]
 exact List.perm_append_comm.append_right d
theorem fP_nm:∀ {x:Way},x.ok 1000000000000000000000000000000000000000000000000→(nmD (fP x)).Perm (nmW x):=by
 intro x
 induction x with
 | num n=>intro _; rw [fP,nmD_int]; exact .refl _
 | op w a b ia ib =>
  intro h
  obtain ⟨hw,ha,hb⟩:=id h
  have pa:=pf_nm (k:=knd w) (fP_form ha)
  have pb:=pf_nm (k:=knd w) (fP_form hb)
  have pbs:(nmL (swp (trn w) (pf (knd w) (fP b))).1++nmL (swp (trn w) (pf (knd w) (fP b))).2).Perm (nmD (fP b)):=by
   unfold swp
   split
   ·refine List.perm_append_comm.trans ?_
    rw [← pb]
   ·rw [← pb]
  rw [fP,nmD_grp]
  have s1:=nmL_perm (srtD_perm ((pf (knd w) (fP a)).1++(swp (trn w) (pf (knd w) (fP b))).1))
  have s2:=nmL_perm (srtD_perm ((pf (knd w) (fP a)).2++(swp (trn w) (pf (knd w) (fP b))).2))
  rw [nmL_app] at s1 s2
  refine (s1.append s2).trans ((four _ _ _ _).trans ?_)
  rw [pa,nmW]
  exact (ia ha).append (pbs.trans (ib hb))
theorem fold1_nm (w:Str):∀ (xs:List Way) (a:Way),nmW (fold1 w a xs)=nmW a++xs.flatMap nmW
 | [],a=>by show nmW a=_; rw [List.flatMap_nil,List.append_nil]
 | x :: r,a=>by rw [fold1_cons,fold1_nm w r,nmW,List.flatMap_cons,List.append_assoc]
theorem flat_nm:∀ {l:List D},(∀ x∈l,nmW (fw x)=nmD x)→(l.map fw).flatMap nmW=nmL l
 | [],_=>by rw [nmL_nil]; rfl
 | d :: r,h=>by rw [List.map_cons,List.flatMap_cons,nmL_cons,h d (List.mem_cons_self ..),flat_nm fun x hx=>h x (List.mem_cons_of_mem _ hx)]
theorem fw_nm {d:D} (h:IsForm d):nmW (fw d)=nmD d:=by
 induction h with
 | num h0 h1=>rw [fw_int,nmD_int,nmW]
 | @grp k m0 more off hk g0 g1 g2 i0 i1 i2=>rw [fw_grp g0 g1 g2,fold1_nm,fold1_nm,flat_nm i1,flat_nm i2,i0,nmD_grp,nmL_cons]
theorem told_nm {x:Way} (h:x.ok 1000000000000000000000000000000000000000000000000):(nmW (fw (fP x))).Perm (nmW x):=by rw [fw_nm (fP_form h)]; exact fP_nm h
theorem size_nm:∀ x:Way,x.size=(nmW x).length:=by
 intro x
 induction x with
 | num n=>rfl
 | op w a b ia ib=>show a.size + b.size=_; rw [nmW,List.length_append,ia,ib]
theorem told_size {x:Way} (h:x.ok 1000000000000000000000000000000000000000000000000):(fw (fP x)).size=x.size:=by rw [size_nm,size_nm]; exact (told_nm h).length_eq
theorem turned {m0:D} {more:List D} {o0:D} {off:List D} {n:Int} (h:IsForm (.tup [.str "sum",.tup (m0 :: more),.tup (o0 :: off)])) (e:worthE (fw (.tup [.str "sum",.tup (m0 :: more),.tup (o0 :: off)]))=.inr n):∀ z,worthE (fw (.tup [.str "sum",.tup (o0 :: off),.tup (m0 :: more)]))≠.inr z:=by
 intro z ez
 cases h with
 | grp hk g0 g1 g2 =>
  have gO:IsForm o0:=g2 _ (List.mem_cons_self ..)
  have gOf:∀ x∈off,IsForm x:=fun x hx=>g2 x (List.mem_cons_of_mem _ hx)
  have gM:∀ x∈m0 :: more,IsForm x:=fun x hx=>by
   rcases List.mem_cons.mp hx with rfl | hx
   ·exact g0
   ·exact g1 x hx
  have b1:=grp_back (.inl rfl) g0 g1 g2 e
  have b2:=grp_back (.inl rfl) gO gOf gM ez
  have p1:=form_pos (.grp hk g0 g1 g2) e
  have p2:=form_pos (.grp hk gO gOf gM) ez
  have r1:=b1.2.2.1 rfl
  have r2:=b2.2.2.1 rfl
  lia
end Law
namespace L2
open PySem PySem.Spec PyProof.Rows
noncomputable def XAt (h:Heap) (e:Addr) (cls:Value) (dx:Option Addr) (tb:Value):Prop:=∃ oe vs,h.get? e=some oe∧oe.cls=cls∧oe.dict=dx∧oe.data=.fields vs∧vs[1]?=some tb
noncomputable def TbAt (h:Heap) (T:Addr) (fl:Value):Prop:=∃ oT ts,h.get? T=some oT∧oT.data=.fields ts∧ts[3]?=some fl
section
variable {M:Model} {A:Around} {E:Value→Shared→Prop} {s:Shared}
theorem frame_not_rec {h base:Heap} {l:List Env} (hl:h.FunFrames base l) {b:Addr} (hb:b∈frs l) {o:Obj} (ho:h.get? b=some o) (vs:Array Value):o.data≠.fields vs:=by
 obtain ⟨_,o2,h2,hn⟩:=hl.mem hb
 rw [ho] at h2
 cases h2
 exact hn vs
theorem entry_new {base:Heap} {env:Env} {outer:List Env} {L e:Addr} {oe:Obj} {vs:Array Value} {hd:Value} {hn:Bool} {Q:Unit→Shared→Prop} (hfr:A.frames=some (env :: outer)) (hl:s.heap.FunFrames base (env :: outer)) (hf:env.frame=some L)
  (he:s.heap.get? e=some oe) (hdat:oe.data=.fields vs) (hsz:1 < vs.size)
  (h:∀ h' T,(∀ b o,s.heap.get? b=some o→b ∉ frs (env :: outer)→b≠e→h'.get? b=some o)→(∀ b o,s.heap.get? b=some o→b≠e→∃ sl,h'.get? b=some { o with slots:=sl })→s.heap.objs.size≤T→T≠e→XAt h' e oe.cls oe.dict (.ref T)→TbAt h' T (rawInt L) →
   Q () { s with heap:=h' }) :
  wpAny M A (frameOf env >>= fun a=>entryPlaceOf L hn >>= fun pl=>EntryCells.newEntry hd a .none (rawInt L) .none pl >>= fun b=>setField (.ref e) 1 b) Q E s:=by
 have ne:e ∉ frs (env :: outer):=fun z=>frame_not_rec hl z he vs hdat
 refine wpAny_bind (wpAny_frameOf_fun hfr hl hf fun h1 so=>wpAny_bind (wpAny_entryPlaceOf fun pl isP=>?_))
 unfold EntryCells.newEntry newFields
 refine wpAny_bind (wpAny_newObj_type ?_ (isP.sizeOk5 _ _ _ _ _))
 generalize hts:([hd,.ref L,.none,rawInt L,.none]++(if pl.isEmpty then List.replicate 6 Value.none else pl)).toArray=ts
 have h3:ts[3]?=some (rawInt L):=by rw [← hts]; simp
 have ge:h1.get? e=some oe:=(so.2.1 e ne).trans he
 have lt:e < h1.objs.size:=Heap.lt_size ge
 refine wpAny_setField (Heap.get?_push_of_some _ ge) hdat hsz ?_
 refine h _ h1.objs.size (fun b o hb nb nbe=>?_) (fun b o hb nbe=>?_) (Nat.le_of_eq so.1.symm) (Nat.ne_of_gt lt) ?_ ?_
 ·rw [Heap.get?_update_other _ _ (Ne.symm nbe)]
  exact Heap.get?_push_of_some _ ((so.2.1 b nb).trans hb)
 ·obtain ⟨sl,q⟩:=so.2.2 b o hb
  exact ⟨sl,by rw [Heap.get?_update_other _ _ (Ne.symm nbe)]; exact Heap.get?_push_of_some _ q⟩
 ·have dm:=Obj.data_mapFields hdat (·.setIfInBounds 1 (Value.ref h1.objs.size))
  refine ⟨_,_,Heap.get?_update_self _ (Heap.get?_push_of_some _ ge) (Obj.isFreed_of_fields dm),Obj.cls_mapFields _ _,?_,dm,by simp [hsz]⟩
  obtain ⟨c,d,dt,sl⟩:=oe
  cases dt <;> first | rfl | cases hdat
 ·exact ⟨_,ts,by rw [Heap.get?_update_other _ _ (Nat.ne_of_lt lt)]; exact Heap.get?_push_size _ rfl,rfl,h3⟩
end
structure Chg (fs ch:List Addr) (h h':Heap):Prop where
 keep:∀ b o,h.get? b=some o→b ∉ fs→b ∉ ch→h'.get? b=some o
 slot:∀ b o,h.get? b=some o→b ∉ ch→∃ sl,h'.get? b=some { o with slots:=sl }
structure Own (X:Cx) (H:Hp) (b:Addr):Prop where
 free:H b=none
 new:X.s₀.heap.objs.size≤b
 loc:b≠X.env.locals
 cel:∀ x c,X.env.cells.lookup x=some c→c≠b
 pin:∀ p∈X.pn,p.1≠b
section
variable {X:Cx} {σ:St} {H:Hp} {s:Shared}
theorem Inv.chg {ch:List Addr} {h':Heap} (I:Inv X [] σ H s) (c:Chg (frs X.stack) ch s.heap h') (hc:∀ b∈ch,Own X H b):Inv X [] σ H { s with heap:=h' }:=by
 refine I.call (g':=s.gens) (t':=s.toks) (d':=s.drawn) (ch:=ch) (H':=H) ⟨fun b o e _ nf nc=>c.keep b o e nf nc,fun b o e _ _ nc=>c.slot b o e nc,fun _ _ _ n _=>n,fun b o e nc=>let ⟨sl,q⟩:=c.slot b o e nc; ⟨_,q⟩,fun _ _ e=>e,fun _ _ _ e=>e,fun b ps e=>⟨#[],by rw [e]; simp⟩⟩ (fun b u e=>?_) I.bare fun b hb=>⟨.inr (hc b hb).new,(hc b hb).loc,(hc b hb).cel,fun p hp=>(hc b hb).pin p (by simpa using hp)⟩
 refine (I.hok b u e).stay (fun c' v hh q=>c.keep c' v q (fun z=>?_) fun z=>?_) (fun _ q=>q) fun _ _ q=>q
 ·have:=I.stkFree c' z
  rcases hh with rfl | hh
  ·rw [this] at e; cases e
  ·rw [this] at hh; cases hh
 ·have:=(hc c' z).free
  rcases hh with rfl | hh
  ·rw [this] at e; cases e
  ·rw [this] at hh; cases hh
theorem Inv.own_new (I:Inv X [] σ H s) {b:Addr} (hb:s.heap.objs.size≤b):Own X H b where
 free:=I.hok.fresh hb
 new:=Nat.le_trans I.sz hb
 loc:=Nat.ne_of_gt (Nat.lt_of_lt_of_le I.lt hb)
 cel:=fun x c e z=>by
  obtain ⟨v,q⟩:=I.cell x c e
  exact absurd (Nat.lt_of_lt_of_le q.lt (by rw [z]; exact hb)) (Nat.lt_irrefl _)
 pin:=fun p hp z=>absurd (Nat.lt_of_lt_of_le (Heap.lt_size (I.pin p (by simpa using hp)).1) (by rw [z]; exact hb)) (Nat.lt_irrefl _)
end
noncomputable abbrev XS:=Value→Option Addr→St→Hp→Prop
noncomputable def FlOk (mk:Option Bool) (fl:Value) (L:Addr):Prop:=match mk with
 | none=>fl=.none∨fl=rawInt L
 | some true=>fl=rawInt L
 | some false=>fl=.none
theorem FlOk.any {mk:Option Bool} {fl:Value} {L:Addr} (h:FlOk mk fl L):fl=.none∨fl=rawInt L:=by
 match mk,h with
 | none,h=>exact h
 | some true,h=>exact .inr h
 | some false,h=>exact .inl h
noncomputable def XBe (X:Cx) (E:XS) (tb:Bool) (mk:Option Bool) (ev:Value) (s:Shared):Prop:=∃ e cls dx σ H,ev=.ref e∧Inv X [] σ H s∧Own X H e ∧
 ((tb=false∧XAt s.heap e cls dx .none)∨∃ T fl,XAt s.heap e cls dx (.ref T)∧Own X H T∧T≠e∧TbAt s.heap T fl∧FlOk mk fl X.env.locals)∧E cls dx σ H
noncomputable abbrev XIn (X:Cx) (E:XS):Value→Shared→Prop:=XBe X E false none
theorem XBe.weak {X:Cx} {E:XS} {tb:Bool} {mk:Option Bool} {ev:Value} {s:Shared} (h:XBe X E tb mk ev s):XIn X E ev s:=by
 obtain ⟨e,cls,dx,σ,H,h1,h2,h3,h4,h5⟩:=h
 refine ⟨e,cls,dx,σ,H,h1,h2,h3,?_,h5⟩
 rcases h4 with ⟨_,h4⟩ | ⟨T,fl,a,b,c,d,f⟩
 ·exact .inl ⟨rfl,h4⟩
 ·exact .inr ⟨T,fl,a,b,c,d,f.any⟩
section
variable {X:Cx} {E:XS} {M:Model} {A:Around} {F:Value→Shared→Prop} {s:Shared} {ev:Value} {tb:Bool} {mk:Option Bool}
theorem x_note {Q:Unit→Shared→Prop} (hA:A.frames=some X.stack) (hst:X.stack=X.env :: X.outer) (hf:X.env.frame=some X.env.locals) (h:XBe X E tb mk ev s) (hQ:∀ s',XBe X E true (some true) ev s'→Q () s'):wpAny M A (noteFrame ev X.env) Q F s:=by
 obtain ⟨e,cls,dx,σ,H,rfl,I,oe,ht,hE⟩:=h
 have fin:∀ {s1:Shared} {hd:Value} {ob:Obj} {vs:Array Value},Inv X [] σ H s1→s1.heap.get? e=some ob→ob.cls=cls→ob.dict=dx→ob.data=.fields vs→1 < vs.size →
   wpAny M A (frameOf X.env >>= fun a=>entryPlaceOf X.env.locals (hd != .none) >>= fun pl=>EntryCells.newEntry hd a .none (rawInt X.env.locals) .none pl >>= fun b=>setField (.ref e) 1 b) Q F s1:=by
  intro s1 hd ob vs I1 ge hcls hdx hdat hsz
  have fr:=I1.stack
  rw [hst] at fr
  refine entry_new (hA.trans (by rw [hst])) fr hf ge hdat hsz fun h' T k1 k2 hT ne xa ta=>?_
  rw [hcls,hdx] at xa
  have J:=I1.chg (ch:=[e]) (h':=h') ⟨fun b o q nf nc=>k1 b o q (by rw [← hst]; exact nf) (by simpa using nc),fun b o q nc=>k2 b o q (by simpa using nc)⟩ fun b hb=>by
   have:b=e:=by simpa using hb
   subst this; exact oe
  exact hQ _ ⟨e,cls,dx,σ,H,rfl,J,oe,.inr ⟨T,_,xa,I1.own_new hT,ne,ta,rfl⟩,hE⟩
 unfold noteFrame
 simp only [hf]
 rcases ht with ⟨_,ob,vs,ge,hcls,hdx,hdat,h1⟩ | ⟨T,fl,⟨ob,vs,ge,hcls,hdx,hdat,h1⟩,oT,ne,⟨ot,ts,gT,dT,h3⟩,hfl⟩
 ·refine wpAny_bind (wpAny_field ge hdat h1 ?_)
  rw [if_neg (by decide)]
  exact fin I ge hcls hdx hdat (Array.getElem?_eq_some_iff.mp h1).1
 ·refine wpAny_bind (wpAny_field ge hdat h1 ?_)
  rw [if_pos (show (Value.ref T != Value.none)=true by simp)]
  refine wpAny_bind (wpAny_field gT dT h3 ?_)
  rcases hfl.any with rfl | rfl
  ·rw [if_neg (show ¬ ((Value.none == rawInt X.env.locals)=true) by simp [rawInt])]
   refine wpAny_bind (wpAny_setField gT dT (Array.getElem?_eq_some_iff.mp h3).1 ?_)
   have J:=I.chg (ch:=[T]) (h':=s.heap.update T (Obj.mapFields (·.setIfInBounds 3 Value.none))) ⟨fun b o q _ nc=>(Heap.get?_update_other _ _ (fun z=>nc (by simp [z]))).trans q,fun b o q nc=>⟨o.slots,(Heap.get?_update_other _ _ (fun z=>nc (by simp [z]))).trans q⟩⟩ fun b hb=>by
    have:b=T:=by simpa using hb
    subst this; exact oT
   exact fin J ((Heap.get?_update_other _ _ ne).trans ge) hcls hdx hdat (Array.getElem?_eq_some_iff.mp h1).1
  ·rw [if_pos (show (rawInt X.env.locals == rawInt X.env.locals)=true by first | exact beq_self_eq_true _ | simp)]
   exact wpAny_pure (hQ s ⟨e,cls,dx,σ,H,rfl,I,oe,.inr ⟨T,_,⟨ob,vs,ge,hcls,hdx,hdat,h1⟩,oT,ne,⟨ot,ts,gT,dT,h3⟩,rfl⟩,hE⟩)
theorem x_flight {Q:Unit→Shared→Prop} {fr:Option Addr} (hfr:fr=none∨fr=some X.env.locals) (h:XBe X E true mk ev s) (hQ:∀ s',XBe X E true (some fr.isSome) ev s'→Q () s'):wpAny M A (setFlight ev fr) Q F s:=by
 obtain ⟨e,cls,dx,σ,H,rfl,I,oe,ht,hE⟩:=h
 rcases ht with ⟨z,_⟩ | ⟨T,fl,⟨ob,vs,ge,hcls,hdx,hdat,h1⟩,oT,ne,⟨ot,ts,gT,dT,h3⟩,hfl⟩
 ·cases z
 ·have h3s:=(Array.getElem?_eq_some_iff.mp h3).1
  unfold setFlight
  refine wpAny_bind (wpAny_field ge hdat h1 ?_)
  rw [if_pos (show (Value.ref T != Value.none)=true by simp)]
  refine wpAny_setField gT dT h3s (hQ _ ?_)
  generalize hx:(fr.elim Value.none fun f=>rawInt f)=x
  have J:=I.chg (ch:=[T]) (h':=s.heap.update T (Obj.mapFields (·.setIfInBounds 3 x))) ⟨fun b o q _ nc=>(Heap.get?_update_other _ _ (fun z=>nc (by simp [z]))).trans q,fun b o q nc=>⟨o.slots,(Heap.get?_update_other _ _ (fun z=>nc (by simp [z]))).trans q⟩⟩ fun b hb=>by
   have:b=T:=by simpa using hb
   subst this; exact oT
  have dm:=Obj.data_mapFields dT (·.setIfInBounds 3 x)
  refine ⟨e,cls,dx,σ,H,rfl,J,oe,.inr ⟨T,x,⟨ob,vs,(Heap.get?_update_other _ _ ne).trans ge,hcls,hdx,hdat,h1⟩,oT,ne,⟨_,_,Heap.get?_update_self _ gT (Obj.isFreed_of_fields dm),dm,by simp [h3s]⟩,?_⟩,hE⟩
  rcases hfr with rfl | rfl
  ·exact hx.symm
  ·exact hx.symm
theorem x_back {Q:Unit→Shared→Prop} (hf:X.env.frame=some X.env.locals) (h:XBe X E true mk ev s) (hQ:∀ s',XIn X E ev s'→Q () s') :
    wpAny M A (do if (← field ev 1) == .none then unsupported "frame.own-activation:exception-without-traceback"
                  setFlight ev X.env.frame) Q F s:=by
  obtain ⟨e,cls,dx,σ,H,rfl,I,oe,ht,hE⟩:=id h
  rcases ht with ⟨z,_⟩ | ⟨T,fl,⟨ob,vs,ge,hcls,hdx,hdat,h1⟩,r⟩
  · cases z
  · refine wpAny_bind (wpAny_field ge hdat h1 ?_)
    rw [if_neg (show ¬ ((Value.ref T == Value.none)=true) by simp)]
    first
      | exact x_flight (fr:=X.env.frame) (.inr hf) h fun s' q=>hQ s' q.weak
      | exact wpAny_bind (wpAny_pure (x_flight (fr:=X.env.frame) (.inr hf) h fun s' q=>hQ s' q.weak))
theorem XBe.frames (h:XBe X E tb mk ev s):X.A.frames=some X.stack:=by
 obtain ⟨_,_,_,_,_,_,I,_⟩:=h
 exact I.ok.frames
theorem x_passes (hst:X.stack=X.env :: X.outer) (hf:X.env.frame=some X.env.locals):PassesOwn M X.A X.env (XIn X E):=fun ev s h =>
 x_note h.frames hst hf h fun s' q=>x_back hf q fun s'' z=>z
end
noncomputable def CXF (P:Program) (w:World):CXT:=fun l H s E ev s'=>∃ e cls dx H' T,ev=.ref e∧s'.os=s.os∧AllBare s'.gens∧Un (frs l) [] H H' s.heap s'.heap∧HOk P w H' s'.heap∧H' e=none∧s.heap.objs.size≤e ∧
 XAt s'.heap e cls dx (.ref T)∧T≠e∧H' T=none∧s.heap.objs.size≤T∧TbAt s'.heap T .none∧E cls dx H'
section
variable {X:Cx} {E:XS}
theorem x_leave {EK:XK} {M:Model} {A:Around} {F:Value→Shared→Prop} {s:Shared} {ev:Value} {tb:Bool} {mk:Option Bool} (hA:A.frames=some X.stack) (hst:X.stack=X.env :: X.outer) (hf:X.env.frame=some X.env.locals) (hex:X.ex=[])
  (h:XBe X (fun cls dx _ H=>EK cls dx H) tb mk ev s):wpAny M A (leaving X.env ev) (fun _ s''=>CXF X.prog X.w X.outer X.H₀ X.s₀ EK ev s'') F s:=by
 unfold leaving
 refine wpAny_bind (x_note hA hst hf h fun s1 q=>x_flight (.inl rfl) q fun s2 q2=>?_)
 obtain ⟨e,cls,dx,σ,H,rfl,I,oe,ht,hE⟩:=q2
 rcases ht with ⟨z,_⟩ | ⟨T,fl,xa,oT,ne,ta,hfl⟩
 ·cases z
 ·have e1:fl=.none:=hfl
  subst e1
  have b:=I.base
  rw [hex] at b
  exact ⟨e,cls,dx,H,T,rfl,I.os,I.bare,b,I.hok,oe.free,oe.new,xa,ne,oT.free,oT.new,ta,hE⟩
theorem x_come {EK:XK} {pins:List (Addr×Obj)} {σ:St} {H:Hp} {s s':Shared} {ev:Value} (I:Inv X pins σ H s) (h:CXF X.prog X.w X.stack H s EK ev s') (hE:∀ cls dx H',EK cls dx H'→E cls dx σ H'):XIn X E ev s':=by
 obtain ⟨e,cls,dx,H',T,rfl,os,ba,un,hok,he,le,xa,ne,hT,lT,ta,q⟩:=h
 have J:=I.call' os un hok ba (fun b z=>absurd z (by simp))
 have J0:Inv X [] σ H' s':=J.pins_of fun p hp=>absurd hp (by simp)
 have own:∀ b,H' b=none→s.heap.objs.size≤b→Own X H' b:=fun b hb lb=>⟨hb,Nat.le_trans I.sz lb,Nat.ne_of_gt (Nat.lt_of_lt_of_le I.lt lb),fun x c e z=>by
  obtain ⟨v,q⟩:=I.cell x c e
  exact absurd (Nat.lt_of_lt_of_le q.lt (by rw [z]; exact lb)) (Nat.lt_irrefl _),fun p hp z=>absurd (Nat.lt_of_lt_of_le (Heap.lt_size (I.pin p (List.mem_append_left _ hp)).1) (by rw [z]; exact lb)) (Nat.lt_irrefl _)⟩
 exact ⟨e,cls,dx,σ,H',rfl,J0,own e he le,.inr ⟨T,.none,xa,own T hT lT,ne,ta,.inl rfl⟩,hE _ _ _ q⟩
end
noncomputable abbrev Cx.raises (X:Cx) (E:XS):Cx:=X.wish (XIn X E)
theorem PSs.wish {X:Cx} {f:Value→Shared→Prop} {st:List Stmt} {t:TS} (h:PSs (X.wish f) st t) (hf:∀ e s,f e s→X.xe e s):PSs X st t:=fun pins s σ H D I hw =>
 wpAny_mono (h pins s σ H D (I.wish _) hw) (fun _ _ q=>q.unwish) hf
section
variable {X:Cx} {E:XS} {k:Nat} {sp:Sp} {x:Str} {p pos:Pos} {e:Expr} {es:List Expr} {t:TA}
noncomputable def tCallX (sp:Sp) (E:XS) (t:TA):TE:=fun σ H Q=>t σ H fun vs H1=>sp vs H1 Q fun cls dx H'=>E cls dx σ H'
theorem pe_defX (G:Def X.prog X.w X.K X.mg X.base (CXF X.prog X.w) k x sp) (hr:Room k X.A) (ha:PA (X.raises E) (e :: es) t) (hg:Gl (X.raises E) x:=by rfl) (hdb:(x == ("__debug__":Str))=false:=by decide)
  (he:starEach (e :: es) X.env=(false,eval e X.env) :: starEach es X.env:=by rfl) (hpl:(backTo pos (starEach es X.env)).any (·.1)=false:=by rfl) :
  PE (X.raises E) (.Call (.Name x p) (e :: es) [] pos) (tCallX sp E t):=by
 obtain ⟨f,fd,ps,F,b,c,d⟩:=G.ex
 intro pins s σ H Q I h
 refine wpAny_Call_Name_kw (ld_glob I hg c (PySem.W.callWith_K (h₀:=X.base) I.ok.mod.kin d
  (thn (ha pos pins s σ H _ I h) fun us s1 ⟨vs,H1,I1,r,q⟩=>⟨I1.kIn,?_⟩) he hpl) hdb)
 have hl:us.length=ps.length:=by rw [← r.length]; exact F.len _ _ _ _ q
 have bd:=b s1 us I1.kIn (by simpa using hl)
 rw [List.append_nil] at bd
 refine wpAny_call (codeAny_mono (F.run X.A X.stack s1 H1 ⟨us,[]⟩ us vs Q (fun cls dx H'=>E cls dx σ H') hr I1.unwish.env0 bd r q) fun r s' hq=>?_)
 cases r with
 | error ev=>exact x_come I1.unwish hq fun _ _ _ z=>z
 | ok fl =>
  cases fl with
  | ret u=>exact (I1.after hq:EP (X.raises E) pins σ Q u s')
  | _=>exact False.elim hq
end
section
variable {P:Program} {w:World} {K:PySem.W.Frag} {mg:Str→Option Value} {base:Heap}
theorem Fun.okX {x qual:Str} {st:Stmt} {f:Addr} {fd:FuncData} {N ps:List Str} {k:Nat} {sp:Sp} (F:Fun K x qual st f fd) (S:FnScope N ps (defScope st)) (len:∀ vs H Q E,sp vs H Q E→vs.length=ps.length)
  (hbody:∀ (cdv:Value) (A:Around) (outer:List Env) (s:Shared) (H:Hp) (vs:List V) (Q:VK) (E:XK),Room k (A.deeper (envOfC qual (defScope st) s.heap.objs.size f cdv))→sp vs H Q E →
   ∃ t,PSs ((cxOf (CXF P w) P w K mg base N qual (defScope st) f cdv A outer s H E).raises fun cls dx _ H'=>E cls dx H') (defBody st) t∧t { nx:=fun _ H'=>Q .non H',rt:=Q } (start N vs) H):FnOk P w K mg base (CXF P w) (k + 1) f fd ps sp:=by
 obtain ⟨oc,od,kV,doc,pm,an,cdv,ct,osl,rfl,lk,hcd⟩:=F.ex
 refine fn_of lk hcd S len fun A outer s H vs Q E hr hsp=>?_
 obtain ⟨t,ht,q⟩:=hbody cdv A outer s H vs Q E hr hsp
 exact ⟨t,ht.wish fun ev s' z=>x_leave z.frames rfl rfl rfl z,q⟩
end
section
variable {X:Cx} {pins:List (Addr×Obj)} {σ:St} {H:Hp} {s:Shared}
noncomputable abbrev Cx.pinTo (X:Cx) (ps:List (Addr×Obj)):Cx:={ X with pn:=X.pn++ps }
noncomputable abbrev Cx.suite (X:Cx) (ev:Value) (ps:List (Addr×Obj)):Cx:={ X with pn:=X.pn++ps,A:=X.A.mark (some ev),calm:=false,xe:=fun _ _=>False }
theorem Inv.pinTo (I:Inv X pins σ H s):Inv (X.pinTo pins) [] σ H s:=by
 obtain ⟨ok,a1,a2,a3,a4,a5,a6,a7,a8,a9,a10⟩:=I
 exact ⟨⟨ok.mod,ok.kind,ok.glob,ok.blt,ok.above,ok.inj,ok.has,ok.cab,ok.hd,ok.frames,ok.stk,ok.exf,ok.bs,ok.bsz,ok.noex,ok.exfs,ok.funs,ok.frf⟩,a1,a2,a3,a4,a5,a6,a7,fun p hp=>a8 p (by simpa using hp),a9,a10⟩
theorem Inv.unpinTo (I:Inv (X.pinTo pins) [] σ H s):Inv X pins σ H s:=by
 obtain ⟨ok,a1,a2,a3,a4,a5,a6,a7,a8,a9,a10⟩:=I
 exact ⟨⟨ok.mod,ok.kind,ok.glob,ok.blt,ok.above,ok.inj,ok.has,ok.cab,ok.hd,ok.frames,ok.stk,ok.exf,ok.bs,ok.bsz,ok.noex,ok.exfs,ok.funs,ok.frf⟩,a1,a2,a3,a4,a5,a6,a7,fun p hp=>a8 p (by simpa using hp),a9,a10⟩
theorem Inv.insuite {ev:Value} {ps:List (Addr×Obj)} (I:Inv (X.pinTo pins) ps σ H s):Inv (X.suite ev pins) ps σ H s:=by
 obtain ⟨ok,a1,a2,a3,a4,a5,a6,a7,a8,a9,a10⟩:=I
 exact ⟨⟨ok.mod,ok.kind,ok.glob,ok.blt,ok.above,ok.inj,ok.has,ok.cab,(fun z=>by cases z),ok.frames,ok.stk,ok.exf,ok.bs,ok.bsz,ok.noex,ok.exfs,ok.funs,ok.frf⟩,a1,a2,a3,a4,a5,a6,a7,a8,a9,a10⟩
theorem Inv.outsuite {ev:Value} {ps:List (Addr×Obj)} (I:Inv (X.suite ev pins) ps σ H s) (h0:X.Ok):Inv (X.pinTo pins) ps σ H s:=by
 obtain ⟨ok,a1,a2,a3,a4,a5,a6,a7,a8,a9,a10⟩:=I
 exact ⟨⟨ok.mod,ok.kind,ok.glob,ok.blt,ok.above,ok.inj,ok.has,ok.cab,h0.hd,ok.frames,ok.stk,ok.exf,ok.bs,ok.bsz,ok.noex,ok.exfs,ok.funs,ok.frf⟩,a1,a2,a3,a4,a5,a6,a7,a8,a9,a10⟩
end
end L2
namespace L2
open PySem PySem.Spec PyProof.Rows
noncomputable def xO (fr:Bool) (cls:Value) (dx:Option Addr) (e:Addr):HO:=.ext fun h=>∃ oe vs,h.get? e=some oe∧oe.cls=cls∧oe.dict=dx∧oe.data=.fields vs∧(fr=true→∃ a0,vs=#[a0,.none,.none,.none,.bool false,.none])
theorem xO_ok {P:Program} {w:World} {H:Hp} {h:Heap} {fr:Bool} {cls:Value} {dx:Option Addr} {e:Addr} {oe:Obj} {vs:Array Value} (h1:h.get? e=some oe) (h2:oe.cls=cls) (h3:oe.dict=dx) (h4:oe.data=.fields vs)
  (h5:fr=true→∃ a0,vs=#[a0,.none,.none,.none,.bool false,.none]):ObjOk P w H h e (xO fr cls dx e):=⟨⟨oe,vs,h1,h2,h3,h4,h5⟩,⟨oe,h1⟩,fun _ _ ⟨o,vs,y1,y2⟩ k=>⟨o,vs,k o y1,y2⟩⟩
noncomputable def XCls (K:PySem.W.Frag) (C:Addr) (bm:List Value):Prop:=bm.contains (.type "BaseException")=true∧∃ nm q N bs hdct sn sub ab col dd k0 k1 k2 k3 k5 newId,K.lookup C=some (excClassObj nm q C N bs bm hdct sn sub ab col dd k0 k1 k2 k3 k5 newId)
section
variable {X:Cx} {pins:List (Addr×Obj)} {σ:St} {H:Hp} {s:Shared}
end
section
variable {M:Model} {A:Around} {E:Value→Shared→Prop}
theorem exc_matches {h:Heap} {g:Array GenState} {d:Drawn} {t:Nat} {os:OsState} {e C W:Addr} {oe:Obj} {bm bw:List Value} {Q:Bool→Shared→Prop} {nm q nm' q':Str} {N N':Addr} {bs bs':List Value} {hdct hdct':Bool} {sn sn':List Str} {sub sub':List Value} {ab ab':Bool} {col col':Option Bool} {dd dd':Option Addr} {k0 k1 k2 k3 k5 l0 l1 l2 l3 l5:Option Value} {newId newId':String}
    (hC:h.get? C=some (excClassObj nm q C N bs bm hdct sn sub ab col dd k0 k1 k2 k3 k5 newId)) (hW:h.get? W=some (excClassObj nm' q' W N' bs' bw hdct' sn' sub' ab' col' dd' l0 l1 l2 l3 l5 newId'))
    (he:h.get? e=some oe) (hcls:oe.cls=.ref C) (hb:bw.contains (.type "BaseException")=true) (hm:(Value.ref C :: bm).contains (.ref W)=true) (hq:Q true ⟨h,g,d,t,os⟩):wpAny M A (excMatches (.ref e) (.ref W)) Q E ⟨h,g,d,t,os⟩:=by
  have hwB:(Value.ref W :: bw).contains (.type "BaseException")=true:=by rw [List.contains_cons,hb,Bool.or_true]
  have nt:=tc_notTuple
  unfold excMatches
  repeat (first | (with_reducible refine wpAny_loadPart_at he ?_; rw [hcls]) | with_reducible refine wpAny_loadPart_at hW ?_
                | (with_reducible refine wpAny_isSubtype_exc hW ?_; rw [hwB]) | (with_reducible refine wpAny_isSubtype_exc hC ?_; rw [hm]) | wp_step)
  exact hq
end
section
variable {X:Cx} {i:Nat} {n x:Str} {C:Addr} {bw:List Value} {body suite:List Stmt} {b0:Stmt} {np hp pos:Pos} {tb:XS→TS} {ts:TS}
theorem SP.unpin {E:XS} {pins:List (Addr×Obj)} {D:Ends} {f:Flow} {s:Shared} (h:SP ((X.pinTo pins).raises E) [] D f s):SP X pins D f s:=by
 match f,h with
 | .next,⟨σ,H,I,q⟩=>exact ⟨σ,H,I.unwish.unpinTo,q⟩
 | .brk,⟨σ,H,I,q⟩=>exact ⟨σ,H,I.unwish.unpinTo,q⟩
 | .cont,⟨σ,H,I,q⟩=>exact ⟨σ,H,I.unwish.unpinTo,q⟩
 | .ret u,⟨v,σ,H,I,r,q⟩=>exact ⟨v,σ,H,I.unwish.unpinTo,r,q⟩
end
end L2
namespace L2
open PySem PySem.Spec PyProof.Rows
noncomputable abbrev vMro:List Value:=[.type "ValueError",.type "Exception",.type "BaseException",.type "object"]
theorem tail_has {K:PySem.W.Frag} {bB:List Value} {v:Value} (hv:bB.contains v=true):∀ {l:List Value},PySem.W.tailIn K bB l=true→l.contains v=true
 | [],e=>by
  have z:bB=[]:=beq_iff_eq.mp e
  rw [z] at hv
  exact hv
 | u :: r,e=>by
  unfold PySem.W.tailIn at e
  rcases Bool.or_eq_true_iff.mp e with q | q
  ·rw [beq_iff_eq.mp q]; exact hv
  ·split at q
   ·split at q
    ·simp only [Bool.and_eq_true] at q
     rw [List.contains_cons,tail_has hv q.2,Bool.or_true]
    ·cases q
   ·cases q
theorem tail_lets {K:PySem.W.Frag} (self:Value):∀ {l:List Value},PySem.W.tailIn K vMro l=true→refuseLoop self "__setattr__" l=pure ()
 | [],e=>by cases beq_iff_eq.mp e
 | u :: r,e=>by
  unfold PySem.W.tailIn at e
  rcases Bool.or_eq_true_iff.mp e with q | q
  ·rw [beq_iff_eq.mp q]; exact PySem.F.store_ValueError.passes self
  ·split at q
   ·split at q
    ·simp only [Bool.and_eq_true] at q
     rw [refuseLoop_ref]
     exact tail_lets self q.2
    ·cases q
   ·cases q
structure XC (K:PySem.W.Frag) (C:Addr) (bm:List Value):Prop where
 lk:∃ nm q N bs sn sub ab col dd k0 k1 k2 k3 k5,K.lookup C=some (excClassObj nm q C N bs bm true sn sub ab col dd k0 k1 k2 k3 k5 "ValueError.__new__")
 tl:PySem.W.tailIn K vMro bm=true
 kp:PySem.W.keepIn K (.ref C)=true
 ga:PySem.W.findIn K (.ref C) "__getattribute__"=some (some (.builtin "BaseException.__getattribute__"))
 gh:PySem.W.findIn K (.ref C) "__getattr__"=some none
 gc:PySem.W.findIn K (.ref C) "__class__"=some (some (.builtin "object.__class__"))
 sa:PySem.W.findIn K (.ref C) "__setattr__"=some (some (.builtin "object.__setattr__"))
section
variable {K:PySem.W.Frag} {C W:Addr} {bm bw:List Value}
theorem XC.cls (c:XC K C bm):∃ cd,PySem.W.clsIn K C=some cd∧cd.mro=.ref C :: bm∧cd.hasDict=true:=by
 obtain ⟨nm,q,N,bs,sn,sub,ab,col,dd,k0,k1,k2,k3,k5,lk⟩:=c.lk
 exact ⟨_,by unfold PySem.W.clsIn; rw [lk],rfl,rfl⟩
theorem XC.mro (c:XC K C bm) (v:Value):PySem.W.mroIn K C v=some ((Value.ref C :: bm).contains v):=by
 obtain ⟨cd,h1,h2,_⟩:=c.cls
 unfold PySem.W.mroIn
 rw [h1,Option.bind_some,h2,if_neg (by simp)]
theorem XC.has (c:XC K C bm) {v:Value} (hv:vMro.contains v=true):(Value.ref C :: bm).contains v=true:=by rw [List.contains_cons,tail_has hv c.tl,Bool.or_true]
theorem XC.xcls (c:XC K C bm):XCls K C bm:=by
 obtain ⟨nm,q,N,bs,sn,sub,ab,col,dd,k0,k1,k2,k3,k5,lk⟩:=c.lk
 exact ⟨tail_has (by decide) c.tl,_,_,_,_,_,_,_,_,_,_,_,_,_,_,_,_,lk⟩
theorem XC.tail (c:XC K C bm) {h:Heap} (X:K.In h):OwnTail h vMro bm:=PySem.W.tail_of_in X c.tl
end
noncomputable abbrev xTup (us:List Value):Obj:={ cls:=.type "tuple",data:=.seq us.toArray }
noncomputable abbrev xNew (C t:Addr):Obj:={ cls:=.ref C,data:=.fields #[.ref t,.none,.none,.none,.bool false,.none] }
noncomputable abbrev xHp (h:Heap) (C:Addr) (us:List Value):Heap:=(h.push (xTup us)).push (xNew C h.objs.size)
section
variable {prog:Program} {w:World} {A:Around} {E:Value→Shared→Prop} {h:Heap} {g:Array GenState} {d:Drawn} {t:Nat} {os:OsState} {K:PySem.W.Frag} {C:Addr} {bm us:List Value}
theorem xHp_keep {b:Addr} {o:Obj} (e:h.get? b=some o):(xHp h C us).get? b=some o:=Heap.get?_push_of_some _ (Heap.get?_push_of_some _ e)
theorem xHp_new:(xHp h C us).get? (h.objs.size + 1)=some (xNew C h.objs.size):=by
 have:=Heap.get?_push_size (h.push (xTup us)) (o:=xNew C h.objs.size) rfl
 rwa [Heap.size_push] at this
theorem x_born {init:Value} {Q:Fin→Shared→Prop} (X:K.In h) (c:XC K C bm) (hu:us.length≤sizeLine) (hi:PySem.W.Looks (model prog w) h (typeLookup (.ref C) "__init__") (some init))
    (hb:∀ self,PySem.W.Looks (model prog w) h (bindSpecial init self) (init,[self]))
    (go:wpAny (model prog w) A (call init (.ref (h.objs.size + 1) :: us)) (fun r s'=>r=.none∧Q (.done (.ret (.ref (h.objs.size + 1)))) s') E ⟨xHp h C us,g,d,t,os⟩) :
    wpAny (model prog w) A (Builtin.«type.__call__» ⟨.ref C :: us,[]⟩) Q E ⟨h,g,d,t,os⟩:=by
  have F:=PySem.F.excBase_ValueError
  have T:=c.tail X
  obtain ⟨nm,qn,N,bs,sn,sub,ab,col,dd,k0,k1,k2,k3,k5,lk⟩:=c.lk
  have cC:=X _ _ lk
  repeat (first
    | with_reducible refine wpAny_loadPart_at cC ?_
    | with_reducible refine wpAny_madeBy_exc cC ?_
    | wp_step)
  refine codeAny_call_builtin_code (Code.quiet_builtin _ F.quiet) (wpAny_check_new_subT F T cC ?_)
  refine codeAny_exc_new_subT F T cC ?_ hu
  show wpAny _ _ _ _ _ _
  have c2:=xHp_keep (C:=C) (us:=us) cC
  have n2:(xHp h C us).get? (h.objs.size + 1)=some (xNew C h.objs.size):=xHp_new
  have self:(Value.ref C :: bm).contains (.ref C)=true:=by simp
  unfold isInstance
  repeat (first
    | with_reducible refine wpAny_loadPart_at n2 ?_
    | (with_reducible refine wpAny_isSubtype_exc c2 ?_; rw [self])
    | wp_step)
  show wpAny _ _ (typeLookup (.ref C) _) _ _ _
  refine (hi.keeps fun _ _=>xHp_keep).at ?_
  refine wpAny_holding (wpAny_bind (((hb _).keeps fun _ _=>xHp_keep).at ?_))
  refine wpAny_bind (wpAny_mono go (fun r s' z=>?_) fun _ _ z=>z)
  obtain ⟨rfl,z⟩:=z
  wp_walk
  exact z
theorem x_call {init:Value} {Q:Value→Shared→Prop} (X:K.In h) (c:XC K C bm) (hu:us.length≤sizeLine) (hi:PySem.W.Looks (model prog w) h (typeLookup (.ref C) "__init__") (some init))
    (hb:∀ self,PySem.W.Looks (model prog w) h (bindSpecial init self) (init,[self]))
    (go:wpAny (model prog w) (A.under (.builtin "type.__call__" ⟨.ref C :: us,[]⟩)) (call init (.ref (h.objs.size + 1) :: us)) (fun r s'=>r=.none∧Q (.ref (h.objs.size + 1)) s') E ⟨xHp h C us,g,d,t,os⟩) :
    wpAny (model prog w) A (call (.ref C) us) Q E ⟨h,g,d,t,os⟩:=by
  obtain ⟨nm,qn,N,bs,sn,sub,ab,col,dd,k0,k1,k2,k3,k5,lk⟩:=c.lk
  have cC:=X _ _ lk
  have l1:=tc_lookup
  have l2:=tc_bind (.ref C)
  have ty:(⟨h,g,d,t,os⟩:Shared).TypeIs (.ref C) "type":=⟨_,cC,rfl⟩
  refine wpAny_call (codeAny_of_tree ?_)
  show wpAny _ _ (callAny (.ref C) _) _ _ _
  repeat (any_goals (first
    | assumption
    | with_reducible refine wpAny_loadPart_at cC ?_
    | wp_step))
  refine ⟨rfl,?_⟩
  exact codeAny_call_builtin_at (Code.quiet_builtin _ (by decide +kernel)) entry_typeCall (wpAny_check_type_call_sub cC (x_born X c hu hi hb go))
end
end L2
namespace L2
open PySem PySem.Spec PyProof.Rows
section
variable {prog:Program} {w:World} {A:Around} {E:Value→Shared→Prop} {s:Shared} {K:PySem.W.Frag} {C x:Addr} {bm:List Value} {ox:Obj} {od:Option Obj} {name:Str}
theorem x_set {v:Value} {vs:Array Value} {o:Obj} {Q:Unit→Shared→Prop} (X:K.In s.heap) (c:XC K C bm) (ha:PySem.W.findIn K (.ref C) name=some none) (hx:s.heap.get? x=some o) (hc:o.cls=.ref C) (hd:o.dict=none) (hv:o.data=.fields vs)
  (go:∀ h' tk,h'.get? x=some { o with dict:=some s.heap.objs.size }→h'.Ns1 s.heap.objs.size (fun y=>if y=name then some v else none)→(∀ b ob,b≠x→s.heap.get? b=some ob→h'.get? b=some ob)→Q () { s with heap:=h',toks:=tk }) :
  wpAny (model prog w) A (setAttr (.ref x) name v) Q E s:=by
 have I:PySem.W.InstAt s.heap x o C none:=⟨hx,hc,by unfold PySem.W.notCls; rw [hv],by rw [hd]; trivial⟩
 have SF:=PySem.F.store_object
 obtain ⟨cd,h1,h2,h3⟩:=c.cls
 have l0:=I.type (M:=model prog w)
 have l1:=PySem.W.looks_findIn (M:=model prog w) X ha
 have l2:PySem.W.Looks (model prog w) s.heap (mroOf (.ref C)) cd.mro:=(PySem.W.looks_clsIn X h1).andThen .now
 have l3:=PySem.W.looks_clsIn (M:=model prog w) X h1
 have lb:PySem.W.Looks (model prog w) s.heap (isInstance (.ref x) (.type "object")) true:=l0.andThen (PySem.W.looks_mroIn X (by rw [c.mro,c.has (by decide)]))
 refine PySem.W.set_plain X I c.sa ?_
 refine codeAny_call_builtin SF.slot.plain SF.entry (@PySem.W.check_slot (model prog w) _ _ { s with toks:=s.toks + 1 } "object.__setattr__" "object" "__setattr__" (.ref x) [.str name s.toks,v] [] _ SF.kind SF.split lb (SF.args (.ref x) (.str name s.toks) v) ?_)
 rw [PySem.W.osa_eq,refuse_eq]
 obtain ⟨hh,g,d,t,os⟩:=s
 refine wpAny_bind (wpAny_bind (l0.at (wpAny_bind (l2.at ?_))))
 rw [h2,refuseLoop_ref,tail_lets _ c.tl]
 refine wpAny_pure (wpAny_bind (l0.at (wpAny_bind (l1.at (wpAny_bind (wpAny_pure ?_))))))
 obtain ⟨oc,odi,oda,osl⟩:=o
 dsimp only at hc hd hv hx go
 subst hc hd hv
 show wpAny _ _ (Builtin.ObjectAttr.storeInOwnDict _ _ _ _ _ _) _ _ _
 unfold Builtin.ObjectAttr.storeInOwnDict
 refine wpAny_bind (wpAny_pure (wpAny_bind ?_))
 show wpAny _ _ (instanceDict x true) _ _ _
 unfold instanceDict
 refine wpAny_bind (wpAny_loadPart hx ?_)
 dsimp only
 refine wpAny_bind (l3.at ?_)
 rw [h3]
 have nsz:x≠hh.objs.size:=Nat.ne_of_lt (Heap.lt_size hx)
 have x1:=Heap.get?_push_of_some PySem.W.emptyDict hx
 refine wpAny_bind (wpAny_alloc' (wpAny_bind (wpAny_update' x1 ?_)))
 refine wpAny_pure ?_
 generalize hg:((hh.push PySem.W.emptyDict).update x fun o=>{ o with dict:=some hh.objs.size })=h2
 have xd:h2.get? x=some ⟨.ref C,some hh.objs.size,.fields vs,osl⟩:=by rw [← hg]; exact Heap.get?_update_self _ x1 rfl
 have dd:h2.get? hh.objs.size=some PySem.W.emptyDict:=by rw [← hg]; exact (Heap.get?_update_ne _ _ _ _ nsz.symm).trans (Heap.get?_push_at rfl rfl)
 have kp:∀ b ob,b≠x→hh.get? b=some ob→h2.get? b=some ob:=fun b ob nb q=>by rw [← hg]; exact (Heap.get?_update_ne _ _ _ _ nb).trans (Heap.get?_push_of_some _ q)
 have nd:h2.Ns hh.objs.size (fun _=>none):=⟨_,#[],_,dd,rfl,fun e he=>absurd he (by simp),fun _=>rfl⟩
 show wpAny _ _ (Builtin.ObjectAttr.storeInDict hh.objs.size _ name v) _ _ _
 unfold Builtin.ObjectAttr.storeInDict Builtin.ObjectAttr.newKeyGuard
 refine wpAny_bind (wpAny_pure (wpAny_bind (wpAny_nsSet1 (Heap.Ns1.of_empty nd) fun h' hn sb=>?_)))
 obtain ⟨oD,es,ep,g1,g2,g3⟩:=hn.count (Within.cons name v Within.nil)
 refine wpAny_bind (wpAny_lookBehind g1 (by rw [g2]; exact pastItsLine_dict (Nat.le_trans g3 (by rw [List.length_cons,List.length_nil,sizeLine_eq]; lia))) ?_)
 refine wpAny_pure ?_
 exact go h' _ ((sb.2 x nsz).trans xd) hn fun b ob nb q=>(sb.2 b (Nat.ne_of_lt (Heap.lt_size q))).trans (kp b ob nb q)
end
end L2
namespace L2
open PySem PySem.Spec PyProof.Rows
section
variable {X:Cx} {a c o e value:Expr} {ta tc tv:TE} {p pos pos':Pos} {f:Str}
noncomputable def sXFld (K:PySem.W.Frag) (ta tv:TE) (f:Str):TS:=fun D σ H=>tv σ H fun y H1=>ta σ H1 fun x H2=>∃ a C bm fr,x=.ref a∧XC K C bm∧H2 a=some (xO fr (.ref C) none a)∧NoAttr K C f ∧
 ∀ dx,H2 dx=none→dx≠a→D.nx σ (upd (upd H2 a (xO fr (.ref C) (some dx) a)) dx (.xd [(f,y)]))
theorem ps_xfld (ha:PE X o ta) (hv:PE X value tv) (hs:swapsWith value (some (.Attribute o f pos')) pos.line X.env=pure false):PS X (.Assign [.Attribute o f pos'] value pos) (sXFld X.K ta tv f):=by
 intro pins s σ H D I h
 refine plainObj_wpAny_Assign_Attribute (thn (hv pins s σ H _ I h) fun u s1 ⟨y,H1,I1,ry,q⟩=>thn (ha pins s1 σ H1 _ I1 q) fun ov s2 ⟨x,H2,I2,rx,a,C,bm,fr,ex,c,hA,n,q2⟩=>?_) hs
 subst ex
 obtain rfl:ov=Value.ref a:=rx
 obtain ⟨⟨oe,vs,g1,g2,g3,g4,g5⟩,_⟩:=(show ObjOk X.prog X.w H2 s2.heap a (xO fr (.ref C) none a) from I2.hok a _ hA)
 have fr0:H2 s2.heap.objs.size=none:=I2.hok.fresh (Nat.le_refl _)
 have na:s2.heap.objs.size≠a:=Ne.symm (Nat.ne_of_lt (Heap.lt_size g1))
 refine x_set I2.kIn c n g1 g2 g3 g4 fun h' tk k1 k2 k3=>⟨σ,_,?_,q2 _ fr0 na⟩
 have old:∀ b ob,H2 b=none→s2.heap.get? b=some ob→h'.get? b=some ob:=fun b ob hb e=>k3 b ob (fun z=>by rw [z,hA] at hb; cases hb) e
 have up:∀ b,b≠a→b≠s2.heap.objs.size→upd (upd H2 a (xO fr (.ref C) (some s2.heap.objs.size) a)) s2.heap.objs.size (.xd [(f,y)]) b=H2 b:=fun b n1 n2=>by rw [upd_ne n2,upd_ne n1]
 have lt:∀ b ob,s2.heap.get? b=some ob→b≠s2.heap.objs.size:=fun b ob e=>Nat.ne_of_lt (Heap.lt_size e)
 refine I2.un (t':=tk) ⟨fun b ob e n _ _=>old b ob n e,fun b ob e n _ _=>⟨ob.slots,old b ob n e⟩,fun b ob e n _=>?_,fun b ob e _=>?_,fun b xs e=>?_,fun b ob u e=>?_,fun b ps e=>⟨#[],?_⟩⟩ fun b u e=>?_
 ·rw [up b (fun z=>by rw [z,hA] at n; cases n) (lt b ob e)]; exact n
 ·by_cases hb:b=a
  ·subst hb; exact ⟨_,k1⟩
  ·exact ⟨ob,k3 b ob hb e⟩
 ·rw [up b (fun z=>by rw [z,hA] at e; cases e) (fun z=>by rw [z,fr0] at e; cases e)]; exact e
 ·rw [up b (fun z=>by rw [z,hA] at e; cases e) (fun z=>by rw [z,fr0] at e; cases e)]; exact e
 ·rw [up b (fun z=>by rw [z,hA] at e; cases e) (fun z=>by rw [z,fr0] at e; cases e),e]; simp
 ·by_cases hd:b=s2.heap.objs.size
  ·subst hd
   rw [upd_same] at e
   cases e
   refine ⟨_,k2,fun g=>?_⟩
   by_cases z:g=f
   ·subst z; simp [List.lookup,RelO]; exact ry
   ·have z2:(g == f)=false:=beq_eq_false_iff_ne.mpr z
    simp [List.lookup,z,z2,RelO]
  ·by_cases hb:b=a
   ·subst hb
    rw [upd_ne hd,upd_same] at e
    cases e
    exact xO_ok k1 g2 rfl g4 g5
   ·rw [up b hb hd] at e
    refine (I2.hok b u e).stay (fun x ox hh r=>k3 x ox (fun z=>?_) r) (fun x r=>?_) fun x xs r=>?_
    ·subst z
     rcases hh with hh | hh
     ·exact hb hh.symm
     ·rw [hA] at hh; cases hh
    ·rw [up x (fun z=>by rw [z,hA] at r; cases r) (fun z=>by rw [z,fr0] at r; cases r)]; exact r
    ·rw [up x (fun z=>by rw [z,hA] at r; cases r) (fun z=>by rw [z,fr0] at r; cases r)]; exact r
end
noncomputable def del (H:Hp) (e:Addr):Hp:=fun b=>if b=e then none else H b
theorem del_ne {H:Hp} {e b:Addr} (h:b≠e):del H e b=H b:=if_neg h
theorem del_same {H:Hp} {e:Addr}:del H e e=none:=if_pos rfl
theorem del_upd {H:Hp} {e:Addr} {o:HO} (h:H e=none):del (upd H e o) e=H:=by
 funext b
 by_cases q:b=e
 ·subst q; rw [del_same,h]
 ·rw [del_ne q,upd_ne q]
theorem del_upd_ne {H:Hp} {e d:Addr} {o:HO} (h:d≠e):del (upd H d o) e=upd (del H e) d o:=by
 funext b
 by_cases q:b=e
 ·subst q; rw [del_same,upd_ne (Ne.symm h),del_same]
 ·rw [del_ne q]
  by_cases z:b=d
  ·subst z; rw [upd_same,upd_same]
  ·rw [upd_ne z,upd_ne z,del_ne q]
section
variable {X:Cx} {pins:List (Addr×Obj)} {σ:St} {H:Hp} {s:Shared}
theorem Inv.untrack {e:Addr} {φ:Heap→Prop} (I:Inv X pins σ H s) (hx:H e=some (.ext φ)):Inv X pins σ (del H e) s:=by
 have nn:∀ b,H b=none→del H e b=none:=fun b n=>by
  by_cases q:b=e
  ·rw [q]; exact del_same
  ·rw [del_ne q]; exact n
 have ne:∀ {b:Addr} {o:HO},H b=some o→(∀ ψ,o≠.ext ψ)→del H e b=some o:=fun {b o} q n=>by
  rw [del_ne (fun z=>by rw [z,hx] at q; exact n φ (Option.some.inj q).symm)]; exact q
 refine ⟨I.ok,I.os,I.bare,⟨I.base.keep,I.base.slot,fun b o q n m=>nn b (I.base.free b o q n m),I.base.there,fun b xs q=>ne (I.base.tups b xs q) fun _ z=>(by cases z),fun b o u q=>ne (I.base.frzs b o u q) fun _ z=>(by cases z),fun b ps q=>?_⟩,I.loc,I.cell,nn _ I.free,fun y c q=>nn _ (I.freeC y c q),fun p hp=>?_,fun b u q=>?_,I.len⟩
 ·obtain ⟨more,z⟩:=I.base.tbls b ps q
  exact ⟨more,ne z fun _ z=>by cases z⟩
 ·obtain ⟨a,b,c⟩:=I.pin p hp
  exact ⟨a,nn _ b,c⟩
 ·by_cases z:b=e
  ·rw [z,del_same] at q; cases q
  ·rw [del_ne z] at q
   exact (I.hok b u q).stay (fun _ _ _ r=>r) (fun c r=>ne r fun _ z=>by cases z) fun c xs r=>ne r fun _ z=>by cases z
end
section
variable {X:Cx} {C f:Addr} {bm:List Value} {k:Nat} {fd:FuncData} {ps:List Str} {sp:Sp} {x:Str} {p pos rpos:Pos} {e:Expr} {es:List Expr} {t:TA}
structure XMk (P:Program) (w:World) (K:PySem.W.Frag) (mg:Str→Option Value) (base:Heap) (C:Addr) (k:Nat) (sp:Sp):Prop where
 ok:∃ f fd ps,PySem.W.findIn K (.ref C) "__init__"=some (some (.ref f))∧PySem.W.typeIn K (.ref f)=some (.type "function")∧FnOk P w K mg base CX0 k f fd ps sp∧Binds K fd ps []
theorem Inv.xborn {pins:List (Addr×Obj)} {σ:St} {H:Hp} {s:Shared} {us:List Value} (I:Inv X pins σ H s):Inv X pins σ (upd H (s.heap.objs.size + 1) (xO true (.ref C) none (s.heap.objs.size + 1))) { s with heap:=xHp s.heap C us } :=
 I.laid (a:=s.heap.objs.size + 1) (o:=xO true (.ref C) none (s.heap.objs.size + 1)) (t':=s.toks) (fun _ _=>xHp_keep) (Nat.le_succ _) (xO_ok xHp_new rfl rfl rfl fun _=>⟨_,rfl⟩)
theorem run_x {pins:List (Addr×Obj)} {σ:St} {H:Hp} {s:Shared} {Q:Addr→Hp→Prop} {us:List Value} {vs:List V} (c:XC X.K C bm) (M:XMk X.prog X.w X.K X.mg X.base C k sp) (hr:Room (k + 1) X.A) (I:Inv X pins σ H s) (r:Vals vs us) (hu:vs.length≤sizeLine)
  (h:∀ e,H e=none→sp (.ref e :: vs) (upd H e (xO true (.ref C) none e)) (fun v H2=>v=.non∧Q e H2) E0) :
  wpAny (model X.prog X.w) X.A (call (.ref C) us) (fun u s'=>∃ e H2,u=.ref e∧s.heap.objs.size≤e∧Inv X pins σ H2 s'∧Q e H2) X.xe s:=by
 obtain ⟨f,fd,ps,hi,hf,F,hb⟩:=M.ok
 have hq:=h (s.heap.objs.size + 1) (I.hok.fresh (Nat.le_succ _))
 have I2:=Inv.xborn (C:=C) (us:=us) I
 have r2:Vals (V.ref (s.heap.objs.size + 1) :: vs) (Value.ref (s.heap.objs.size + 1) :: us):=.cons rfl r
 have hl:(Value.ref (s.heap.objs.size + 1) :: us++[]).length=ps.length:=by
  rw [List.append_nil,← r2.length]
  exact F.len _ _ _ _ hq
 have bd:=hb _ (Value.ref (s.heap.objs.size + 1) :: us) I2.kIn hl
 rw [List.append_nil] at bd
 have run:=F.run _ X.stack _ _ ⟨Value.ref (s.heap.objs.size + 1) :: us,[]⟩ (Value.ref (s.heap.objs.size + 1) :: us) _ _ E0 (hr.make C us []) (I2.env0.make C us []) bd r2 hq
 have K0:=I.kIn
 have sz:s.heap.objs.size≤s.heap.objs.size + 1:=Nat.le_succ _
 obtain ⟨hh,g,d,tk,os⟩:=s
 refine x_call K0 c (by rw [← r.length]; exact hu) (PySem.W.looks_findIn K0 hi) (fun self=>PySem.W.bind_fn K0 self hf) ?_
 refine wpAny_call (codeAny_mono run fun rr s' z=>?_)
 cases rr with
 | error ev=>exact z.elim
 | ok fl =>
  cases fl with
  | ret u =>
   obtain ⟨v,H',I3,rv,ev,q3⟩:=I2.after z
   subst ev
   exact ⟨rv,_,H',rfl,sz,I3,q3⟩
  | _=>exact z.elim
theorem ev_exc {pins:List (Addr×Obj)} {σ:St} {H:Hp} {s:Shared} {R:List V→Hp→Prop} {Q:Value→Shared→Prop} (c:XC X.K C bm) (hg:Gl X x) (hm:X.mg x=some (.ref C)) (ha:PA X (e :: es) t) (I:Inv X pins σ H s) (h:t σ H R)
  (go:∀ us vs s1 H1,Inv X pins σ H1 s1→Vals vs us→R vs H1→X.s₀.heap.objs.size≤s1.heap.objs.size→wpAny (model X.prog X.w) X.A (call (.ref C) us) Q X.xe s1)
  (hdb:(x == ("__debug__":Str))=false:=by decide) (he:starEach (e :: es) X.env=(false,eval e X.env) :: starEach es X.env:=by rfl) (hpl:(backTo pos (starEach es X.env)).any (·.1)=false:=by rfl) :
  wpAny (model X.prog X.w) X.A (eval (.Call (.Name x p) (e :: es) [] pos) X.env) Q X.xe s:=by
 refine wpAny_Call_Name_kw (ld_glob I hg hm ?_ hdb)
 exact PySem.W.callWith_K (h₀:=X.base) I.ok.mod.kin c.kp (thn (ha pos pins s σ H _ I h) fun us s1 ⟨vs,H1,I1,r,q⟩=>⟨I1.kIn,go us vs s1 H1 I1 r q I1.sz⟩) he hpl
theorem x_raise {M:Model} {A:Around} {E:Value→Shared→Prop} {s:Shared} {env:Env} {v:Sem Value} {Q:Flow→Shared→Prop} {K:PySem.W.Frag} (hh:A.handled=none) (c:XC K C bm)
    (h:wpAny M A v (fun u s1=>∃ e oe a0,u=.ref e∧K.In s1.heap∧s1.heap.get? e=some oe∧oe.cls=.ref C∧oe.data=.fields #[a0,.none,.none,.none,.bool false,.none]∧E u s1) E s):wpAny M A (raiseStmt env (some v) none) Q E s:=by
  have hB:=c.has (v:=.type "BaseException") (by decide)
  obtain ⟨nm,qn,N,bs,sn,sub,ab,col,dd,k0,k1,k2,k3,k5,lk⟩:=c.lk
  unfold raiseStmt
  refine wpAny_bind (wpAny_mono h (fun u s1 z=>?_) fun _ _ z=>z)
  obtain ⟨e,oe,a0,rfl,X,he,hc,hd,hE⟩:=z
  have cC:=X _ _ lk
  obtain ⟨hp,g,d,tk,os⟩:=s1
  obtain ⟨oc,odi,oda,osl⟩:=oe
  dsimp only at hc hd
  subst hc hd
  repeat (first
    | with_reducible refine wpAny_loadPart_at he ?_
    | with_reducible refine wpAny_loadPart_at cC ?_
    | (with_reducible refine wpAny_isSubtype_exc cC ?_; rw [hB])
    | wp_step)
  exact wpAny_raiseNew_none hh hE
theorem XIn.fresh {E:XS} {σ:St} {H1 H2:Hp} {s1 s2:Shared} {pins:List (Addr×Obj)} {e:Addr} {dx:Option Addr} (I1:Inv X pins σ H1 s1) (I2:Inv X pins σ H2 s2) (le:s1.heap.objs.size≤e) (hx:H2 e=some (xO true (.ref C) dx e)) (hE:E (.ref C) dx σ (del H2 e)):XIn X E (.ref e) s2:=by
 obtain ⟨⟨oe,vs,g1,g2,g3,g4,g5⟩,_⟩:=(show ObjOk X.prog X.w H2 s2.heap e (xO true (.ref C) dx e) from I2.hok e _ hx)
 obtain ⟨a0,rfl⟩:=g5 rfl
 refine ⟨e,.ref C,dx,σ,del H2 e,rfl,(I2.untrack hx).pins_of fun p hp=>absurd hp (by simp),⟨del_same,Nat.le_trans I1.sz le,Nat.ne_of_gt (Nat.lt_of_lt_of_le I1.lt le),fun y c q z=>?_,fun p hp z=>?_⟩,.inl ⟨rfl,oe,_,g1,g2,g3,g4,rfl⟩,hE⟩
 ·obtain ⟨v,q⟩:=I1.cell y c q
  exact absurd (Nat.lt_of_lt_of_le q.lt (by rw [z]; exact le)) (Nat.lt_irrefl _)
 ·exact absurd (Nat.lt_of_lt_of_le (Heap.lt_size (I1.pin p (List.mem_append_left _ hp)).1) (by rw [z]; exact le)) (Nat.lt_irrefl _)
noncomputable def tRaise (C:Addr) (sp:Sp) (E:XS) (t:TA):TS:=fun _ σ H=>t σ H fun vs H1=>vs.length≤sizeLine∧∀ e,H1 e=none→sp (.ref e :: vs) (upd H1 e (xO true (.ref C) none e)) (fun v H2=>v=.non∧∃ dx,H2 e=some (xO true (.ref C) dx e)∧E (.ref C) dx σ (del H2 e)) E0
theorem ps_raise {E:XS} (hc:X.calm=true) (c:XC X.K C bm) (M:XMk X.prog X.w X.K X.mg X.base C k sp) (hr:Room (k + 1) X.A) (hm:X.mg x=some (.ref C)) (ha:PA (X.raises E) (e :: es) t) (hg:Gl X x:=by rfl)
  (hdb:(x == ("__debug__":Str))=false:=by decide) (he:starEach (e :: es) X.env=(false,eval e X.env) :: starEach es X.env:=by rfl) (hpl:(backTo pos (starEach es X.env)).any (·.1)=false:=by rfl) :
  PS (X.raises E) (.Raise (some (.Call (.Name x p) (e :: es) [] pos)) none rpos) (tRaise C sp E t):=by
 intro pins s σ H D I h
 rw [arm_exec_Raise]
 refine wpAny_bind (wpAny_standAt ?_)
 refine x_raise (K:=X.K) (I.ok.hd hc) c (wpAny_bind (ev_exc (X:=X.raises E) c hg hm ha I h (fun us vs s1 H1 I1 r ⟨z,q⟩ _=>thn (run_x (X:=X.raises E) (Q:=fun e H2=>∃ dx,H2 e=some (xO true (.ref C) dx e)∧E (.ref C) dx σ (del H2 e)) c M hr I1 r z q) fun u s2 ⟨e2,H2,eu,le,I2,dx,hx,hE⟩=>?_) hdb he hpl))
 subst eu
 obtain ⟨⟨oe,vs',g1,g2,g3,g4,g5⟩,_⟩:=(show ObjOk X.prog X.w H2 s2.heap e2 (xO true (.ref C) dx e2) from I2.hok e2 _ hx)
 obtain ⟨a0,rfl⟩:=g5 rfl
 exact wpAny_bind (wpAny_standAt (wpAny_pure ⟨e2,oe,a0,rfl,I2.kIn,g1,g2,g4,XIn.fresh I1.unwish I2.unwish le hx hE⟩))
end
section
variable {X:Cx} {E:XS} {k:Nat} {Fam:Addr→Sp→Prop} {x:Str} {p pos:Pos} {e:Expr} {es:List Expr} {tf:TE} {t:TA}
noncomputable def tCallVX (Fam:Addr→Sp→Prop) (E:XS) (tf:TE) (t:TA):TE:=fun σ H Q=>tf σ H fun x H1=>∃ f sp,x=.ref f∧Fam f sp∧t σ H1 fun vs H2=>sp vs H2 Q fun cls dx H'=>E cls dx σ H'
theorem pe_callVX (hF:∀ f sp,Fam f sp→Callee X.prog X.w X.K X.mg X.base (CXF X.prog X.w) k f sp) (hr:Room k X.A) (hf:PE (X.raises E) (.Name x p) tf) (ha:PA (X.raises E) (e :: es) t)
  (he:starEach (e :: es) X.env=(false,eval e X.env) :: starEach es X.env:=by rfl) (hpl:(backTo pos (starEach es X.env)).any (·.1)=false:=by rfl) :
  PE (X.raises E) (.Call (.Name x p) (e :: es) [] pos) (tCallVX Fam E tf t):=by
 intro pins s σ H Q I h
 refine wpAny_Call_Name_kw (thn (hf pins s σ H _ I h) fun u s1 ⟨y,H1,I1,r1,f,sp,ey,fam,q⟩=>?_)
 subst ey
 obtain rfl:u=Value.ref f:=r1
 obtain ⟨⟨fd,ps,F,hb⟩,hk⟩:=hF f sp fam
 refine PySem.W.callWith_K (h₀:=X.base) I.ok.mod.kin hk (thn (ha pos pins s1 σ H1 _ I1 q) fun us s2 ⟨vs,H2,I2,r,q2⟩=>⟨I2.kIn,?_⟩) he hpl
 have hl:us.length=ps.length:=by rw [← r.length]; exact F.len _ _ _ _ q2
 have bd:=hb s2 us I2.kIn (by simpa using hl)
 rw [List.append_nil] at bd
 refine wpAny_call (codeAny_mono (F.run X.A X.stack s2 H2 ⟨us,[]⟩ us vs Q (fun cls dx H'=>E cls dx σ H') hr I2.unwish.env0 bd r q2) fun rr s' z=>?_)
 cases rr with
 | error ev=>exact x_come I2.unwish z fun _ _ _ z=>z
 | ok fl =>
  cases fl with
  | ret u=>exact (I2.after z:EP (X.raises E) pins σ Q u s')
  | _=>exact z.elim
end
end L2
namespace L2
open PySem PySem.Spec PyProof.Rows
theorem cells_app:∀ (l:List (Str×NameKind)) (n:Nat) (acc:List (Str×Addr)),cellsFrom n l acc=cellsFrom n l []++acc
 | [],_,_=>rfl
 | (y,k) :: r,n,acc=>by
  unfold cellsFrom
  split
  ·rw [cells_app r (n + 1) ((y,n) :: acc),cells_app r (n + 1) [(y,n)],List.append_assoc]; rfl
  ·exact cells_app r n acc
theorem own_mem {x:Str} {c:Addr}:∀ {l:List (Str×NameKind)} {n:Nat} {acc:List (Str×Addr)},(x,c)∈cellsFrom n l acc→(x,NameKind.cell)∈l∨(x,c)∈acc
 | [],_,_,h=>.inr h
 | (y,k) :: r,n,acc,h=>by
  unfold cellsFrom at h
  split at h
  ·rename_i hk
   have hk':k=.cell:=by simpa using hk
   rcases own_mem h with q | q
   ·exact .inl (List.mem_cons_of_mem _ q)
   ·rcases List.mem_cons.mp q with z | z
    ·cases z; subst hk'; exact .inl List.mem_cons_self
    ·exact .inr z
  ·rcases own_mem h with q | q
   ·exact .inl (List.mem_cons_of_mem _ q)
   ·exact .inr q
theorem own_has {x:Str}:∀ {l:List (Str×NameKind)} {n:Nat} {acc:List (Str×Addr)},((x,NameKind.cell)∈l∨∃ c,(x,c)∈acc)→∃ c,(x,c)∈cellsFrom n l acc
 | [],_,_,h=>by
  rcases h with h | h
  ·cases h
  ·exact h
 | (y,k) :: r,n,acc,h=>by
  unfold cellsFrom
  split
  ·rename_i hk
   refine own_has ?_
   rcases h with h | ⟨c,h⟩
   ·rcases List.mem_cons.mp h with z | z
    ·cases z; exact .inr ⟨n,List.mem_cons_self⟩
    ·exact .inl z
   ·exact .inr ⟨c,List.mem_cons_of_mem _ h⟩
  ·rename_i hk
   refine own_has ?_
   rcases h with h | h
   ·rcases List.mem_cons.mp h with z | z
    ·cases z; exact absurd rfl hk
    ·exact .inl z
   ·exact .inr h
noncomputable abbrev ownCs (scope:Scope) (C:Addr):List (Str×Addr):=cellsFrom (C + 1) scope.names []
noncomputable def cxCC (X:Cx) (N:List Str) (scope:Scope) (cl:List (Str×Addr)) (C:Addr) (s2:Shared) (H2:Hp) (fp:List Addr):Cx:={ cxC X N scope (cellsFrom (C + 1) scope.names cl) C s2 H2 fp with fn:=fun x=>scope.names.lookup x == some .cell }
structure CompScopeC (X:Cx) (N:List Str) (mp:List (Option Nat)) (scope:Scope):Prop where
 kind:scope.kind=.function
 cells:∀ y∈scope.names,y.2=.cell→scope.names.lookup y.1=some .cell
 names:∀ y∈scope.names,y.2=.local→scope.names.lookup y.1=some .local
 len:mp.length=N.length
 out:∀ (i j:Nat),mp[i]?=some (some j)→∃ x,N[i]?=some x∧X.N[j]?=some x∧(X.env.scope.names.lookup x=some .cell∨X.env.scope.names.lookup x=some .free)∧scope.names.lookup x=some .free
section
variable {M:Model} {A:Around} {E:Value→Shared→Prop} {s:Shared}
theorem newEnv_cells {scope:Scope} {globals builtins:Addr} {cl:List (Str×Addr)} {qual:Str} {env:Env} {Q:Env→Shared→Prop}
  (h:Q (newEnv scope s.heap.objs.size globals (cellsFrom (s.heap.objs.size + 1) scope.names cl) qual none .none (some env) builtins) { s with heap:=pushCells (s.heap.push PySem.W.emptyDict) scope.names }) :
  wpAny M A (newFunctionEnv scope globals cl [] qual none .none (some env) builtins) Q E s:=by
 simp only [newFunctionEnv,Option.isSome_some,if_true]
 refine wpAny_bind (wpAny_alloc ?_)
 refine wpAny_bind (wpAny_layCells _ (fun name kind cells=>by cases hkc:kind == NameKind.cell <;> simp [hkc]) _ _ _ _ ?_)
 rw [show ({ s with heap:=s.heap.push { cls:=.type "dict",data:=.dict #[] } }:Shared).heap.objs.size=s.heap.objs.size + 1 from Heap.size_push ..]
 refine wpAny_bind (wpAny_pure ?_)
 exact wpAny_pure h
end
section
variable {X:Cx}
theorem comp_invO {pins:List (Addr×Obj)} {σ:St} {H:Hp} {s2:Shared} {N:List Str} {mp:List (Option Nat)} {scope:Scope} {cl:List (Str×Addr)} {fp:List Addr} {h1:Heap} {tk:Nat} (I:Inv X pins σ H s2) (S:CompScopeC X N mp scope)
  (hcl:closes X.env.cells scope.names []=some cl) (hfp:∀ b∈fp,FpOk X pins H b) (hfo:∀ b∈fp,∃ o,s2.heap.get? b=some o)
  (old:∀ b o,s2.heap.get? b=some o→h1.get? b=some o) {oo:HO} (hD:ObjOk X.prog X.w (upd H s2.heap.objs.size oo) h1 s2.heap.objs.size oo) {m:Str→Option Value} (hC:h1.Ns (s2.heap.objs.size + 1) m) (cok:CellsOk h1 (s2.heap.objs.size + 2) (ownCs scope (s2.heap.objs.size + 1))) :
  Inv (cxCC X N scope cl (s2.heap.objs.size + 1) s2 H fp) [] (compStart0 mp σ) (upd H s2.heap.objs.size oo) { s2 with heap:=h1,toks:=tk }:=by
 have clm:∀ {x:Str} {c:Addr},cl.lookup x=some c→X.env.cells.lookup x=some c:=fun {x c} e=>closes_mem hcl (fun p z=>absurd z (by simp)) (x,c) (PySem.mem_of_lookup e)
 have hn:H s2.heap.objs.size=none:=I.hok.fresh (Nat.le_refl _)
 have hnC:H (s2.heap.objs.size + 1)=none:=I.hok.fresh (Nat.le_succ _)
 have cellLt:∀ {x:Str} {c:Addr},X.env.cells.lookup x=some c→c < s2.heap.objs.size:=fun {x c} e=>by
  obtain ⟨v,q⟩:=I.cell x c e
  exact q.lt
 have freeOf:∀ x,((relabel scope X.env).names.lookup x=some .cell∨(relabel scope X.env).names.lookup x=some .free)→(x,NameKind.free)∈scope.names∨(x,NameKind.cell)∈scope.names:=fun x hx=>by
  have hm:(x,NameKind.cell)∈(relabel scope X.env).names∨(x,NameKind.free)∈(relabel scope X.env).names:=hx.elim (fun z=>.inl (PySem.mem_of_lookup z)) fun z=>.inr (PySem.mem_of_lookup z)
  have conv:∀ k,(x,k)∈(relabel scope X.env).names→(k=.cell∨k=.free)→(x,NameKind.free)∈scope.names∨(x,NameKind.cell)∈scope.names:=fun k hm hk=>by
   obtain ⟨⟨n,k'⟩,hy,e⟩:=List.mem_map.mp hm
   dsimp only at e
   split at e
   ·rename_i hc
    simp only [Bool.and_eq_true,beq_iff_eq] at hc
    cases e
    rw [hc.1.1] at hy
    exact .inl hy
   ·cases e
    rcases hk with z | z
    ·subst z; exact .inr hy
    ·subst z; exact .inl hy
  exact hm.elim (fun z=>conv _ z (.inl rfl)) fun z=>conv _ z (.inr rfl)
 have app:∀ x,(cellsFrom (s2.heap.objs.size + 1 + 1) scope.names cl).lookup x=((ownCs scope (s2.heap.objs.size + 1)).lookup x).or (cl.lookup x):=fun x=>by rw [cells_app,List.lookup_append]
 have two:∀ {x:Str} {c:Addr},(cellsFrom (s2.heap.objs.size + 1 + 1) scope.names cl).lookup x=some c→((ownCs scope (s2.heap.objs.size + 1)).lookup x=some c∧(h1.IsCell c none∧s2.heap.objs.size + 2≤c))∨X.env.cells.lookup x=some c:=fun {x c} e=>by
  rw [app] at e
  cases eo:(ownCs scope (s2.heap.objs.size + 1)).lookup x with
  | some d =>
   rw [eo] at e
   cases e
   exact .inl ⟨rfl,cok.empty _ _ (PySem.mem_of_lookup eo)⟩
  | none =>
   rw [eo] at e
   exact .inr (clm e)
 have ownHas:∀ {x:Str},(x,NameKind.cell)∈scope.names→∃ c,(ownCs scope (s2.heap.objs.size + 1)).lookup x=some c:=fun {x} hx=>by
  obtain ⟨c,hc⟩:=own_has (n:=s2.heap.objs.size + 1 + 1) (acc:=[]) (.inl hx)
  obtain ⟨d,hd,_⟩:=lookup_of_mem hc
  exact ⟨d,hd⟩
 have ok:(cxCC X N scope cl (s2.heap.objs.size + 1) s2 H fp).Ok:=by
  refine ⟨I.ok.mod,S.kind,I.ok.glob,I.ok.blt,Nat.le_succ _,fun x y c e1 e2=>?_,fun x hx=>?_,fun x c z e=>?_,I.ok.hd,I.ok.frames,.inl rfl,fun b hb=>⟨?_,fun x c e=>?_⟩,I.bs,Nat.le_trans I.ok.bsz I.sz,fun b o e hb=>?_,fun b hb z=>?_,I.stack,I.stkFree⟩
  ·rcases two e1 with ⟨o1,_,l1⟩ | o1 <;> rcases two e2 with ⟨o2,_,l2⟩ | o2
   ·exact name_of_addr cok.apart (PySem.mem_of_lookup o1) (PySem.mem_of_lookup o2)
   ·exact absurd (Nat.lt_of_lt_of_le (cellLt o2) (Nat.le_trans (Nat.le_add_right _ 2) l1)) (Nat.lt_irrefl _)
   ·exact absurd (Nat.lt_of_lt_of_le (cellLt o1) (Nat.le_trans (Nat.le_add_right _ 2) l2)) (Nat.lt_irrefl _)
   ·exact I.ok.inj x y c o1 o2
  ·show ∃ c,(cellsFrom (s2.heap.objs.size + 1 + 1) scope.names cl).lookup x=some c
   rcases freeOf x hx with q | q
   ·obtain ⟨c,hc⟩:=closes_has hcl (.inl q)
    obtain ⟨d,hd,_⟩:=lookup_of_mem hc
    rw [app,hd]
    cases (ownCs scope (s2.heap.objs.size + 1)).lookup x with
    | none=>exact ⟨d,rfl⟩
    | some c'=>exact ⟨c',rfl⟩
   ·obtain ⟨c,hc⟩:=ownHas q
    exact ⟨c,by rw [app,hc]; rfl⟩
  ·have z':scope.names.lookup x=some .cell:=beq_iff_eq.mp z
   obtain ⟨c',hc'⟩:=ownHas (PySem.mem_of_lookup z')
   have e':(cellsFrom (s2.heap.objs.size + 1 + 1) scope.names cl).lookup x=some c:=e
   rw [app,hc'] at e'
   cases e'
   exact Nat.le_trans (Nat.le_add_right _ 2) (cok.empty _ _ (PySem.mem_of_lookup hc')).2
  ·obtain ⟨o,e⟩:=hfo b hb
   exact Nat.ne_of_lt (Nat.lt_succ_of_lt (Heap.lt_size e))
  ·rcases two e with ⟨_,_,l⟩ | o
   ·obtain ⟨ob,eb⟩:=hfo b hb
    exact Ne.symm (Nat.ne_of_lt (Nat.lt_of_lt_of_le (Heap.lt_size eb) (Nat.le_trans (Nat.le_add_right _ 2) l)))
   ·exact (hfp b hb).2.2.2.2.1 x c o
  ·rcases (hfp b hb).2.2.2.1 with z | z
   ·exact I.ok.noex b o e z
   ·exact absurd (Nat.lt_of_lt_of_le (Heap.lt_size e) (Nat.le_trans I.ok.bsz z)) (Nat.lt_irrefl _)
  ·rcases List.mem_cons.mp (I.stkSub b z) with q | q
   ·exact (hfp b hb).2.1 q
   ·exact (hfp b hb).2.2.1 q
 refine ⟨ok,rfl,I.bare,Un.laid old (Nat.le_refl _) hn,⟨m,hC,fun i x v e1 e2 e3=>?_⟩,fun x c e=>?_,?_,fun x c e=>?_,(fun p hp=>nomatch hp),?_,?_⟩
 ·
  unfold compStart0 at e2
  rw [List.getElem?_map] at e2
  cases em:mp[i]? with
  | none=>rw [em] at e2; cases e2
  | some o =>
   rw [em] at e2
   cases o with
   | none=>cases e2
   | some j =>
    have e2':(σ[j]?).bind id=some v:=Option.some.inj e2
    obtain ⟨x',n1,n2,n3,n4⟩:=S.out i j em
    rw [show (cxCC X N scope cl (s2.heap.objs.size + 1) s2 H fp).N[i]?=N[i]? from rfl,n1] at e1
    cases e1
    have sj:σ[j]?=some (some v):=by
     cases ej:σ[j]? with
     | none=>rw [ej] at e2'; cases e2'
     | some o=>rw [ej] at e2'; exact congrArg some e2'
    obtain ⟨m0,hm0,hl⟩:=I.loc
    obtain ⟨u,ru,lk⟩:=hl j x v n2 sj (.inr n3)
    refine ⟨u,ru,.inr ⟨?_,?_⟩⟩
    ·have hf:(x,NameKind.free)∈scope.names:=PySem.mem_of_lookup n4
     have key:∀ l:List (Str×NameKind),l.lookup x=some .free→((l.map fun (n,k)=>if (k == NameKind.free && X.env.scope.kind == .function && X.env.kindOf n == some .cell) then (n,NameKind.cell) else (n,k)).lookup x=some .cell ∨
       (l.map fun (n,k)=>if (k == NameKind.free && X.env.scope.kind == .function && X.env.kindOf n == some .cell) then (n,NameKind.cell) else (n,k)).lookup x=some .free):=by
      intro l
      induction l with
      | nil=>intro z; cases z
      | cons y r ih =>
       obtain ⟨n,k⟩:=y
       intro z
       rw [List.lookup_cons] at z
       rw [List.map_cons]
       dsimp only
       by_cases en:(x == n)=true
       ·rw [en] at z
        dsimp only at z
        cases z
        split
        ·exact .inl (by rw [List.lookup_cons,en])
        ·exact .inr (by rw [List.lookup_cons,en])
       ·have en2:(x == n)=false:=by simpa using en
        rw [en2] at z
        dsimp only at z
        split
        ·rw [List.lookup_cons,en2]; exact ih z
        ·rw [List.lookup_cons,en2]; exact ih z
     exact key scope.names n4
    ·have hf:(x,NameKind.free)∈scope.names:=PySem.mem_of_lookup n4
     obtain ⟨c,hc⟩:=closes_has hcl (.inl hf)
     obtain ⟨d,hd,_⟩:=lookup_of_mem hc
     rcases lk with ⟨k1,_⟩ | ⟨_,c',hc',z⟩
     ·have k1':X.env.scope.names.lookup x=some .local:=k1
      rcases n3 with z | z <;> (rw [k1'] at z; cases z)
     ·have e:=clm hd
      rw [hc'] at e
      have e3:c'=d:=Option.some.inj e
      obtain ⟨o,ho,hdt⟩:=z
      rw [e3] at ho
      have no:(ownCs scope (s2.heap.objs.size + 1)).lookup x=none:=by
       cases eo:(ownCs scope (s2.heap.objs.size + 1)).lookup x with
       | none=>rfl
       | some c0 =>
        rcases own_mem (PySem.mem_of_lookup eo) with q | q
        ·have:=S.cells _ q rfl
         rw [n4] at this
         cases this
        ·cases q
      exact ⟨d,by show (cellsFrom (s2.heap.objs.size + 1 + 1) scope.names cl).lookup x=some d; rw [app,no]; exact hd,o,old _ _ ho,hdt⟩
 ·rcases two e with ⟨_,ic,_⟩ | q
  ·exact ⟨_,ic⟩
  ·obtain ⟨v,o,ho,hdt⟩:=I.cell x c q
   exact ⟨v,o,old _ _ ho,hdt⟩
 ·show upd H s2.heap.objs.size oo (s2.heap.objs.size + 1)=none
  rw [upd_ne (Nat.ne_of_gt (Nat.lt_succ_self _))]; exact hnC
 ·show upd H s2.heap.objs.size oo c=none
  rcases two e with ⟨_,_,l⟩ | q
  ·rw [upd_ne (Nat.ne_of_gt (Nat.lt_of_lt_of_le (Nat.lt_add_of_pos_right (by decide)) l))]
   exact I.hok.fresh (Nat.le_trans (Nat.le_add_right _ 2) l)
  ·rw [upd_ne (Nat.ne_of_lt (cellLt q))]
   exact I.freeC x c q
 ·exact I.hok.laid old (Nat.le_refl _) hD
 ·show (compStart0 mp σ).length=N.length
  unfold compStart0
  rw [List.length_map]; exact S.len
theorem comp_invC {pins:List (Addr×Obj)} {σ:St} {H:Hp} {s2:Shared} {N:List Str} {mp:List (Option Nat)} {scope:Scope} {cl:List (Str×Addr)} {fp:List Addr} {h1:Heap} {tk:Nat} (I:Inv X pins σ H s2) (S:CompScopeC X N mp scope)
  (hcl:closes X.env.cells scope.names []=some cl) (hfp:∀ b∈fp,FpOk X pins H b) (hfo:∀ b∈fp,∃ o,s2.heap.get? b=some o)
  (old:∀ b o,s2.heap.get? b=some o→h1.get? b=some o) (hD:h1.get? s2.heap.objs.size=some { cls:=.type "list",data:=.seq ([]:List Value).toArray }) {m:Str→Option Value} (hC:h1.Ns (s2.heap.objs.size + 1) m) (cok:CellsOk h1 (s2.heap.objs.size + 2) (ownCs scope (s2.heap.objs.size + 1))) :
  Inv (cxCC X N scope cl (s2.heap.objs.size + 1) s2 H fp) [] (compStart0 mp σ) (upd H s2.heap.objs.size (.lst [])) { s2 with heap:=h1,toks:=tk } :=
 comp_invO I S hcl hfp hfo old ⟨by show 0≤sizeLine; exact Nat.zero_le _,[],0,.nil,hD⟩ hC cok
theorem comp_run {elt iter tg:Expr} {ifs:List Expr} {scope:Scope} {pos:Pos} {N:List Str} {mp:List (Option Nat)} {cl:List (Str×Addr)} {wi:TI} {g:Addr→Shared→Hp→List Addr→TG} {tt:Addr→Shared→Hp→List Addr→TT} {te:Addr→Shared→Hp→List Addr→TE}
  (hc:X.calm=true) (S:CompScopeC X N mp scope) (hcl:closes X.env.cells scope.names []=some cl) (hi:PI X tg iter wi)
  (hg:∀ C s2 H2 fp,PG (cxCC X N scope cl C s2 H2 fp) tg (g C s2 H2 fp)) (ht:∀ C s2 H2 fp,PTL (cxCC X N scope cl C s2 H2 fp) ifs (tt C s2 H2 fp)) (he:∀ C s2 H2 fp,PE (cxCC X N scope cl C s2 H2 fp) elt (te C s2 H2 fp))
  (hs:∀ x,foldedSetIterable iter X.env x=pure x)
  {use:Option (Value→Sem Unit)} {PQ:Value→Shared→Prop} {pins:List (Addr×Obj)} {s:Shared} {σ:St} {H:Hp} {Q:VK} (I:Inv X pins σ H s) (h:tComp mp wi g tt te σ H Q)
  (fin:∀ (H2:Hp) (s2:Shared) (fp:List Addr) (σ':St) (H':Hp) (s':Shared),Inv X pins σ H2 s2→(∀ b∈fp,FpOk X pins H2 b)→Inv (cxCC X N scope cl (s2.heap.objs.size + 1) s2 H2 fp) [] σ' H' s'→Q (.ref s2.heap.objs.size) H' →
   compPost (model X.prog X.w) X.A X.xe use PQ (.ref s2.heap.objs.size) (s2.heap.objs.size + 1) (.ok .next) s') :
  wpAny (model X.prog X.w) X.A (comprehension (.ListComp elt [⟨tg,iter,ifs,0⟩] scope pos) scope X.env (firstIterPos [⟨tg,iter,ifs,0⟩] pos) (newList []) (firstAsync [⟨tg,iter,ifs,0⟩]) (firstIter [⟨tg,iter,ifs,0⟩] X.env) use) PQ X.xe s:=by
 refine wpAny_comprehension_free (use:=use) rfl hs (closureFor_of hcl) S.kind S.names (thn (hi pins s σ H _ I h) fun v s1 h1=>thn h1 fun itv s2 h2=>?_)
 obtain ⟨it,fp,tn,J,H2,e,I2,T,st2,f2,h3⟩:=h2
 subst e
 refine wpAny_newObj_type (newEnv_cells ?_)
 dsimp only
 have hn2:H2 s2.heap.objs.size=none:=I2.hok.fresh (Nat.le_refl _)
 generalize hH2:s2.heap.push { cls:=.type "list",dict:=none,data:=.seq ([]:List Value).toArray }=G2
 have hC:G2.objs.size=s2.heap.objs.size + 1:=by rw [← hH2,Heap.size_push]
 generalize hh1:pushCells (G2.push PySem.W.emptyDict) scope.names=h₁
 have old1:∀ b o,G2.get? b=some o→h₁.get? b=some o:=fun b o e=>by rw [← hh1]; exact pushCells_keeps _ _ b o (Heap.get?_push_of_some _ e)
 have old:∀ b o,s2.heap.get? b=some o→h₁.get? b=some o:=fun b o e=>old1 b o (hH2 ▸ Heap.get?_push_of_some _ e)
 have hD1:h₁.get? s2.heap.objs.size=some { cls:=.type "list",data:=.seq ([]:List Value).toArray }:=old1 _ _ (hH2 ▸ Heap.get?_push_size _ rfl)
 have hns₁:h₁.Ns (s2.heap.objs.size + 1) (fun _=>none):=by
  have e1:h₁.get? G2.objs.size=some PySem.W.emptyDict:=by rw [← hh1]; exact pushCells_keeps _ _ _ _ (Heap.get?_push_size _ rfl)
  rw [hC] at e1
  exact ⟨_,#[],_,e1,rfl,fun e he=>absurd he (by simp),fun _=>rfl⟩
 have cok:CellsOk h₁ (s2.heap.objs.size + 2) (ownCs scope (s2.heap.objs.size + 1)):=by
  have:=cellsFrom_ok scope.names (G2.push PySem.W.emptyDict) (s2.heap.objs.size + 2) [] ⟨fun _ _ hm=>(nomatch hm),List.Pairwise.nil⟩ (by rw [Heap.size_push,hC]; exact Nat.le_refl _)
  rw [Heap.size_push,hC,hh1] at this
  exact this
 obtain ⟨W,⟨m0,w0⟩,turn⟩:=h3 s2.heap.objs.size hn2 (s2.heap.objs.size + 1) s2 fp
 have I4:=comp_invC (tk:=s2.toks) I2 S hcl f2 (fun b hb=>let ⟨o,e,_⟩:=T.obj _ _ st2 b hb; ⟨o,e⟩) old hD1 hns₁ cok
 have st4:tn 0 h₁:=T.keep _ _ _ st2 fun b hb o e=>old b o e
 have stat:∀ {pl:List (Addr×Obj)} {H':Hp},(∀ b∈fp,H' b=none)→(∀ p∈pl,p.1 ∉ fp)→∀ b∈fp,FpOk (cxCC X N scope cl (s2.heap.objs.size + 1) s2 H2 fp) pl H' b:=fun {pl H'} hn hp b hb =>
  ⟨hn b hb,(I4.ok.exf b hb).1,I4.ok.exfs b hb,.inl hb,(I4.ok.exf b hb).2,fun p z q=>hp p (by simpa [cxC,cxCC] using z) (by rw [q]; exact hb)⟩
 have fr0:∀ b∈fp,(upd H2 s2.heap.objs.size (.lst [])) b=none:=fun b hb=>by
  obtain ⟨o,e,_⟩:=T.obj _ _ st2 b hb
  rw [upd_ne (Nat.ne_of_lt (Heap.lt_size e))]
  exact (f2 b hb).1
 have loop:codeAny (model X.prog X.w) X.A (.compLoop (.ListComp elt [⟨tg,iter,ifs,0⟩] scope pos) 0 (.ref it) (.ref s2.heap.objs.size) (compEnvC scope (cellsFrom (s2.heap.objs.size + 1 + 1) scope.names cl) (s2.heap.objs.size + 1) X.env))
   (compPost (model X.prog X.w) X.A X.xe use PQ (.ref s2.heap.objs.size) (s2.heap.objs.size + 1)) { s2 with heap:=h₁,toks:=s2.toks }:=by
  refine compLoop_go (fun n s'=>∃ i σ' H',Inv (cxCC X N scope cl (s2.heap.objs.size + 1) s2 H2 fp) [] σ' H' s'∧tn i s'.heap∧(∀ b∈fp,H' b=none)∧W i n σ' H') ?_ m0 ⟨0,_,_,I4,st4,fr0,w0⟩
  rintro n s3 ⟨i,σ3,H3,I3,st3,fr3,w3⟩
  rcases turn i n σ3 H3 w3 with ⟨stop,qn⟩ | ⟨go,N',hN,step⟩
  ·refine (thn (T.done (cxCC X N scope cl (s2.heap.objs.size + 1) s2 H2 fp) rfl rfl rfl hc i [] s3 σ3 H3 (fun _ _=>False) I3 (stat fr3 (fun _ z=>nomatch z)) st3 stop) fun r s4 ⟨hr,I4'⟩=>?_)
   subst hr
   exact fin H2 s2 fp _ _ _ I2 f2 I4' qn
  ·refine (thn (T.item (cxCC X N scope cl (s2.heap.objs.size + 1) s2 H2 fp) rfl rfl rfl hc i [] s3 σ3 H3 (fun _ _=>False) I3 (stat fr3 (fun _ z=>nomatch z)) st3 go) fun r s4 ⟨u,hr,h4⟩=>?_)
   subst hr
   refine thn h4 fun _ s5 ⟨x,H5,I5,r5,y5,st5,fr5⟩=>?_
   have I5':=I5.pinned (pins:=[]) (stat fr5 (fun _ z=>nomatch z)) (T.obj _ _ st5)
   refine (thn (hg (s2.heap.objs.size + 1) s2 H2 fp _ s5 σ3 H5 x u _ I5' r5 (step x H5 y5)) fun _ s6 ⟨σ6,H6,I6,q6⟩=>?_)
   refine (thn (ht (s2.heap.objs.size + 1) s2 H2 fp _ s6 σ6 H6 _ I6 q6) fun b s7 ⟨H7,I7,q7⟩=>?_)
   have again:∀ {σ7:St} {H7:Hp} {s7:Shared},Inv (cxCC X N scope cl (s2.heap.objs.size + 1) s2 H2 fp) ([]++pinsAt fp s5.heap) σ7 H7 s7→N' σ7 H7→∃ m,m < n∧∃ i σ' H',Inv (cxCC X N scope cl (s2.heap.objs.size + 1) s2 H2 fp) [] σ' H' s7∧tn i s7.heap∧(∀ b∈fp,H' b=none)∧W i m σ' H':=fun {σ7 H7 s7} I7 n7=>by
    obtain ⟨m',hm,w7⟩:=hN σ7 H7 n7
    refine ⟨m',hm,i + 1,σ7,H7,I7.unpinned,T.keep _ _ _ st5 fun b hb o e=>(I7.pin (b,o) (List.mem_append_right _ (List.mem_append_right _ (mem_pinsAt hb e)))).1,fun b hb=>?_,w7⟩
    obtain ⟨o,e,d⟩:=T.obj _ _ st5 b hb
    exact (I7.pin (b,o) (List.mem_append_right _ (List.mem_append_right _ (mem_pinsAt hb e)))).2.1
   cases b with
   | false =>
    rw [if_neg Bool.false_ne_true] at q7 ⊢
    exact again I7 q7
   | true =>
    rw [if_pos rfl] at q7 ⊢
    refine (thn (he (s2.heap.objs.size + 1) s2 H2 fp _ s7 σ6 H7 _ I7 q7) fun y s8 ⟨yv,H8,I8,ry,xs,hx,hz,n8⟩=>?_)
    refine (thn (mt_append (X:=cxCC X N scope cl (s2.heap.objs.size + 1) s2 H2 fp) _ s8 σ6 H8 (.ref s2.heap.objs.size) [yv] (.ref s2.heap.objs.size) [y] (fun _ H'=>N' σ6 H') I8 rfl (.cons ry .nil) ⟨_,xs,yv,rfl,rfl,hx,hz,n8⟩) fun _ s9 ⟨_,H9,I9,_,n9⟩=>?_)
    exact again I9 n9
 have goal:=codeAny_compStart_list loop (T.self X.A 0 { s2 with heap:=h₁,toks:=s2.toks } _ _ st4 loop)
 rw [hC]
 exact goal
theorem comp_back {N:List Str} {scope:Scope} {cl:List (Str×Addr)} {pins:List (Addr×Obj)} {σ σ':St} {H2 H':Hp} {s2 s':Shared} {fp:List Addr} {h'':Heap} (I2:Inv X pins σ H2 s2) (f2:∀ b∈fp,FpOk X pins H2 b) (J':Inv (cxCC X N scope cl (s2.heap.objs.size + 1) s2 H2 fp) [] σ' H' s')
  (keepC:∀ b o,b≠s2.heap.objs.size + 1→s'.heap.get? b=some o→h''.get? b=some o):Inv X pins σ H' { s' with heap:=h'' }:=by
 have u0:=J'.base
 have neC:∀ b o,s2.heap.get? b=some o→b≠s2.heap.objs.size + 1:=fun b o e=>Nat.ne_of_lt (Nat.lt_succ_of_lt (Heap.lt_size e))
 have u:Un (frs X.stack) fp H2 H' s2.heap h'':=⟨fun b o e n hb hx=>keepC b o (neC b o e) (u0.keep b o e n hb hx),fun b o e n hb hx=>by
   obtain ⟨sl,e1⟩:=u0.slot b o e n hb hx
   exact ⟨sl,keepC b _ (neC b o e) e1⟩,u0.free,fun b o e hx=>by
   obtain ⟨o',e1⟩:=u0.there b o e hx
   exact ⟨o',keepC b o' (neC b o e) e1⟩,u0.tups,u0.frzs,u0.tbls⟩
 have freeC:H' (s2.heap.objs.size + 1)=none:=J'.free
 have hok:HOk X.prog X.w H' h'':=fun b o e=>(J'.hok b o e).stay (fun c v hcc r=>keepC c v (by
   intro z
   rcases hcc with q1 | q1
   ·rw [← q1,z,freeC] at e; cases e
   ·rw [z,freeC] at q1; cases q1) r) (fun _ z=>z) fun _ _ z=>z
 exact I2.call' (s':={ s' with heap:=h'' }) J'.os u hok J'.bare fun b hb=>⟨(f2 b hb).2.2.2.1,(f2 b hb).2.1,(f2 b hb).2.2.2.2.1,(f2 b hb).2.2.2.2.2⟩
theorem pe_compC {elt iter tg:Expr} {ifs:List Expr} {scope:Scope} {pos:Pos} {N:List Str} {mp:List (Option Nat)} {cl:List (Str×Addr)} {wi:TI} {g:Addr→Shared→Hp→List Addr→TG} {tt:Addr→Shared→Hp→List Addr→TT} {te:Addr→Shared→Hp→List Addr→TE}
  (hc:X.calm=true) (S:CompScopeC X N mp scope) (hcl:closes X.env.cells scope.names []=some cl) (hi:PI X tg iter wi)
  (hg:∀ C s2 H2 fp,PG (cxCC X N scope cl C s2 H2 fp) tg (g C s2 H2 fp)) (ht:∀ C s2 H2 fp,PTL (cxCC X N scope cl C s2 H2 fp) ifs (tt C s2 H2 fp)) (he:∀ C s2 H2 fp,PE (cxCC X N scope cl C s2 H2 fp) elt (te C s2 H2 fp))
  (hs:∀ x,foldedSetIterable iter X.env x=pure x:=by intro _; rfl) :
  PE X (.ListComp elt [⟨tg,iter,ifs,0⟩] scope pos) (tComp mp wi g tt te):=by
 intro pins s σ H Q I h
 rw [eval_ListComp]
 refine comp_run hc S hcl hi hg ht he hs I h fun H2 s2 fp σ' H' s' I2 f2 J' q=>?_
 obtain ⟨m,hm,_⟩:=id J'.loc
 exact ⟨m,hm,fun h'' sb=>⟨.ref s2.heap.objs.size,H',comp_back I2 f2 J' fun b o hb e=>sb.extBut b o hb e,rfl,q⟩⟩
theorem ps_setC {i:Nat} {x:Str} {pos' spos:Pos} {elt iter tg:Expr} {ifs:List Expr} {scope:Scope} {pos:Pos} {N:List Str} {mp:List (Option Nat)} {cl:List (Str×Addr)} {wi:TI} {g:Addr→Shared→Hp→List Addr→TG} {tt:Addr→Shared→Hp→List Addr→TT} {te:Addr→Shared→Hp→List Addr→TE}
  (hN:X.N.Nodup) (hx:X.N[i]?=some x) (hl:Loc X.env.scope x) (hc:X.calm=true) (S:CompScopeC X N mp scope) (hcl:closes X.env.cells scope.names []=some cl) (hi:PI X tg iter wi)
  (hg:∀ C s2 H2 fp,PG (cxCC X N scope cl C s2 H2 fp) tg (g C s2 H2 fp)) (ht:∀ C s2 H2 fp,PTL (cxCC X N scope cl C s2 H2 fp) ifs (tt C s2 H2 fp)) (he:∀ C s2 H2 fp,PE (cxCC X N scope cl C s2 H2 fp) elt (te C s2 H2 fp))
  (hs:∀ x,foldedSetIterable iter X.env x=pure x:=by intro _; rfl)
  (hsw:swapsWith (.ListComp elt [⟨tg,iter,ifs,0⟩] scope pos) (some (.Name x pos')) spos.line X.env=pure true:=by rfl)
  (hf:X.fn x=true∨X.env.scope.names.lookup x=some .local:=by first | exact .inl rfl | exact .inr rfl | assumption) :
  PS X (.Assign [.Name x pos'] (.ListComp elt [⟨tg,iter,ifs,0⟩] scope pos) spos) (fun D σ H=>tComp mp wi g tt te σ H fun v H1=>D.nx (σ.set i (some v)) H1):=by
 intro pins s σ H D I h
 rw [exec_Assign_Name_used _ _ _ _ hsw]
 refine wpAny_bind (wpAny_standAt ?_)
 rw [arm_evalThenUse_ListComp]
 refine wpAny_bind (wpAny_bind (thn (comp_run hc S hcl hi hg ht he hs (PQ:=fun _ s'=>SP X pins D .next s') I h fun H2 s2 fp σ' H' s' I2 f2 J' q=>?_) fun _ _ z=>wpAny_pure (wpAny_pure z)))
 ·obtain ⟨m,⟨oC,es,ep,ho,r⟩,_⟩:=id J'.loc
  have I3:Inv X pins σ H' s':=comp_back (h'':=s'.heap) I2 f2 J' fun b o _ e=>e
  have nL:s2.heap.objs.size + 1≠X.env.locals:=Nat.ne_of_gt (Nat.lt_of_lt_of_le I2.lt (Nat.le_succ _))
  have nf:s2.heap.objs.size + 1 ∉ X.fs:=I2.nofs (Nat.le_succ _)
  have fp:=Inv.fpOk (H':=H') I2 (Nat.le_succ _) (b:=s2.heap.objs.size + 1) J'.free
  have I4:Inv X (pins++[(s2.heap.objs.size + 1,oC)]) σ H' s':=I3.pins_of fun p hp=>by
   rcases List.mem_append.mp hp with z | z
   ·exact I3.pin p (List.mem_append_right _ z)
   ·have e:p=(s2.heap.objs.size + 1,oC):=by simpa using z
    subst e
    exact ⟨ho,J'.free,nL,nf,fun v z=>by rw [r.1] at z; cases z⟩
  show wpAny _ _ (assign (.Name x pos') X.env _) _ _ _
  refine wpAny_bind (wpAny_standAt (wpAny_bindName (store_ok I4 hN hx hl (show RelV (.ref s2.heap.objs.size) (.ref s2.heap.objs.size) from rfl) (fun s5 I5=>?_) hf)))
  obtain ⟨hC,_⟩:=I5.pin (s2.heap.objs.size + 1,oC) (List.mem_append_right _ (List.mem_append_right _ (by simp)))
  refine ⟨m,⟨oC,es,ep,hC,r⟩,fun h' sb=>⟨_,H',?_,q⟩⟩
  have I6:Inv X pins (σ.set i (some (.ref s2.heap.objs.size))) H' s5:=I5.pins_of fun p hp=>I5.pin p (List.mem_append_right _ (List.mem_append_left _ hp))
  exact I6.turned (t':=s5.toks) (it:=s2.heap.objs.size + 1) (fun b o hb e=>sb.extBut b o hb e) fp.1 fp.2.1 fp.2.2.2.1 fp.2.2.2.2.1 fp.2.2.2.2.2
theorem csC_of {N:List Str} {scope:Scope} (mp:List (Option Nat)) (h1:scope.kind=.function) (h2:∀ y∈scope.names,y.2=.cell→scope.names.lookup y.1=some .cell) (h3:∀ y∈scope.names,y.2=.local→scope.names.lookup y.1=some .local) (h4:mp.length=N.length)
  (h5:outChk X.N X.env.scope.names N scope.names mp 0=true):CompScopeC X N mp scope :=
 ⟨h1,h2,h3,h4,fun i j e=>by
  obtain ⟨x,a,b,c,d⟩:=outChk_ok h5 i j e
  exact ⟨x,by simpa using a,b,c,d⟩⟩
end
end L2
namespace L2
open PySem PySem.Spec PyProof.Rows
section
variable {prog:Program} {w:World} {A:Around} {R:Result→Shared→Prop} {s:Shared}
end
section
variable {X:Cx}
end
end L2
namespace L2
open PySem PySem.Spec PyProof.Rows
section
variable {P:Program} {w:World} {K:PySem.W.Frag} {mg:Str→Option Value} {base:Heap}
theorem FnOk.hush {f:Addr} {fd:FuncData} {ps:List Str} {k:Nat} {sp sp':Sp} (F:FnOk P w K mg base (CXF P w) k f fd ps sp) (h:∀ vs H Q E,sp' vs H Q E→sp vs H Q E0):FnOk P w K mg base CX0 k f fd ps sp' :=
 ⟨fun vs H Q E q=>F.len vs H Q E0 (h _ _ _ _ q),fun A outer s H args us vs Q E hr he hb hv hs=>codeAny_mono (F.run A outer s H args us vs Q E0 hr he hb hv (h _ _ _ _ hs)) fun r s' z=>by
  cases r with
  | error e =>
   obtain ⟨_,_,_,_,_,_,_,_,_,_,_,_,_,_,_,_,_,q⟩:=z
   exact q.elim
  | ok fl=>cases fl <;> exact z⟩
end
end L2
namespace L2
open PySem PySem.Spec PyProof.Rows
section
variable {X:Cx} {tg:Expr}
end
end L2
namespace L2
open PySem PySem.Spec PyProof.Rows PySem.Builtin.Str
variable {X:Cx}
end L2
namespace L2
open PySem PySem.Spec PyProof.Rows PySem.Builtin.Str
variable {X:Cx}
end L2
namespace L2
open PySem PySem.Spec PyProof.Rows PySem.Builtin.Str
variable {X:Cx}
end L2
namespace L2
open PySem PySem.Spec PyProof.Rows
structure Wr (p:Prop):Prop where
 un:p
section
variable {X:Cx} {e:Expr} {es:List Expr} {te:TE} {t:TA} {pos:Pos} {a b:Expr} {ta tb:TE}
theorem w_str {x:Str} {j:Nat}:Wr (PE X (.Constant (.str x) j pos) (tC (.str x))):=⟨pe_str⟩
theorem w_int {i:Int} {j:Nat}:Wr (PE X (.Constant (.int i) j pos) (tC (.int i))):=⟨pe_int⟩
theorem w_nil:Wr (PA X [] tNil):=⟨pa_nil⟩
theorem w_cons (ha:Wr (PE X e te)) (hr:Wr (PA X es t)) (hs:starEach (e :: es) X.env=(false,eval e X.env) :: starEach es X.env:=by rfl):Wr (PA X (e :: es) (tCons te t)):=⟨pa_cons ha.un hr.un hs⟩
theorem wss_cons {st:Stmt} {rest:List Stmt} {t u:TS} (h1:Wr (PS X st t)) (h2:Wr (PSs X rest u)):Wr (PSs X (st :: rest) (tSeq t u)):=⟨pss_cons h1.un h2.un⟩
theorem wss_one {st:Stmt} {t:TS} (h1:Wr (PS X st t)):Wr (PSs X [st] t):=⟨pss_one h1.un⟩
end
section
variable {P:Program} {w:World} {K:PySem.W.Frag} {mg:Str→Option Value} {base:Heap}
theorem Fun.okW {x qual:Str} {st:Stmt} {f:Addr} {fd:FuncData} {N ps:List Str} {k:Nat} {sp:Sp} (F:Fun K x qual st f fd) (S:FnScope N ps (defScope st)) (len:∀ vs H Q E,sp vs H Q E→vs.length=ps.length)
  (hb:∀ (cdv:Value) (A:Around) (outer:List Env) (s:Shared) (H:Hp) (vs:List V) (Q:VK) (E:XK),Room k (A.deeper (envOfC qual (defScope st) s.heap.objs.size f cdv))→sp vs H Q E →
   ∃ t,Wr (PSs (cxOf CX0 P w K mg base N qual (defScope st) f cdv A outer s H E).nox (defBody st) t)∧t { nx:=fun _ H'=>Q .non H',rt:=Q } (start N vs) H):FnOk P w K mg base CX0 (k + 1) f fd ps sp :=
 F.ok S len fun cdv A outer s H vs Q E hr h=>by
  obtain ⟨t,h1,q⟩:=hb cdv A outer s H vs Q E hr h
  exact ⟨t,h1.un,q⟩
end
end L2
namespace L2
open PySem PySem.Spec PyProof.Rows
variable {X:Cx}
end L2
namespace HT
open PySem PySem.Spec PyProof.Rows
section
variable {prog:Program} {w:World} {A:Around} {E:Value→Shared→Prop} {s:Shared}
end
end HT
namespace L2
open PySem PySem.Spec PyProof.Rows
variable {X:Cx}
end L2
namespace L2
open PySem PySem.Spec PyProof.Rows
theorem star_tup {es:List Expr} {k:Nat} {pos:Pos} {r:List Expr} {env:Env}:starEach (.Tuple es k pos :: r) env=(false,eval (.Tuple es k pos) env) :: starEach r env:=rfl
theorem w_tup {X:Cx} {es:List Expr} {t:TA} {k:Nat} {pos:Pos} (h:Wr (PA X es t)):Wr (PE X (.Tuple es k pos) (tTup t)):=⟨pe_tup h.un⟩
end L2
namespace L2
open PySem PySem.Spec PyProof.Rows
section
variable {X:Cx} {pos:Pos}
end
end L2
namespace L2
open PySem PySem.Spec PyProof.Rows
noncomputable def tEx0 (K:PySem.W.Frag) (C:Addr) (ts:TS) (D:Ends):XS:=fun cls dx σ H=>(∃ Ce bm,cls=.ref Ce∧XCls K Ce bm∧(Value.ref Ce :: bm).contains (.ref C)=true)∧ts D σ H
noncomputable def tTry0 (K:PySem.W.Frag) (C:Addr) (tb:XS→TS) (ts:TS):TS:=fun D σ H=>tb (tEx0 K C ts D) D σ H
section
variable {X:Cx} {x:Str} {C:Addr} {bw:List Value} {body suite:List Stmt} {b0:Stmt} {np hp pos:Pos} {tb:XS→TS} {ts:TS}
theorem ps_try0 (hg:Gl X x) (hm:X.mg x=some (.ref C)) (hC:XCls X.K C bw) (hst:X.stack=X.env :: X.outer) (hf:X.env.frame=some X.env.locals)
  (hb:∀ EX pins,PSs ((X.pinTo pins).raises EX) body (tb EX)) (hs:∀ e pins,PSs (X.suite (.ref e) pins) (b0 :: suite) ts) (hd:(x == ("__debug__":Str))=false:=by decide) :
  PS X (.Try body [.ExceptHandler (some (.Name x np)) none (b0 :: suite) hp] [] [] pos) (tTry0 X.K C tb ts):=by
 intro pins s σ H D I h
 have ok:=I.ok
 refine wpAny_Try_except (wpAny_mono (hb (tEx0 X.K C ts D) pins [] s σ H D (I.pinTo.wish _) h) (fun f s1 q=>?_) fun ev s1 q=>?_)
 ·have q':=SP.unpin q
  cases f with
  | next =>
   show wpAny _ _ (execs [] _) _ _ _
   exact (wpAny_execs_nil q':_)
  | _=>exact q'
 ·have q0:XIn (X.pinTo pins) (tEx0 X.K C ts D) ev s1:=q
  refine x_note (X:=X.pinTo pins) q0.frames hst hf q0 fun s2 q2=>x_flight (X:=X.pinTo pins) (.inl rfl) q2 fun s3 q3=>?_
  obtain ⟨e,cls,dx,σ1,H1,rfl,I1,oe,ht,hE⟩:=id q3
  obtain ⟨⟨Ce,bm,rfl,hCe,hmro⟩,hgo⟩:=hE
  obtain ⟨hbB,nm',q',N',bs',hdct',sn',sub',ab',col',dd',l0,l1,l2,l3,l5,newId',lkW⟩:=hC
  obtain ⟨hbC,nm,qn,N,bs,hdct,sn,sub,ab,col,dd,k0,k1,k2,k3,k5,newId,lkC⟩:=hCe
  have ge:∃ oe,s3.heap.get? e=some oe∧oe.cls=.ref Ce:=by
   rcases ht with ⟨_,ob,vs,g1,g2,_⟩ | ⟨T,fl,⟨ob,vs,g1,g2,_⟩,_⟩
   ·exact ⟨ob,g1,g2⟩
   ·exact ⟨ob,g1,g2⟩
  obtain ⟨ob,ge,gc⟩:=ge
  have gW:=I1.kIn C _ lkW
  have gC:=I1.kIn Ce _ lkC
  refine wpAny_handleBy_cons (codeAny_handlers_test (ld_glob (X:=X.suite (.ref e) pins) (I1.insuite (X:=X) (ev:=.ref e)) hg hm ?_ hd)) (by intro z; cases z)
  obtain ⟨h3,g3,d3,t3,os3⟩:=s3
  refine exc_matches gC gW ge gc hbB hmro ?_
  refine codeAny_handlers_suite (x_flight (X:=X.pinTo pins) (.inl rfl) q3 fun s4 q4=>?_)
  obtain ⟨e',cls4,dx4,σ4,H4,ee,I4,oe4,ht4,hE4⟩:=q4
  cases ee
  obtain ⟨_,hgo4⟩:=hE4
  refine wpAny_mono (hs e pins [] s4 _ _ _ (I4.insuite (X:=X) (ev:=.ref e)) hgo4) (fun f s6 q6=>?_) fun _ _ z=>z.elim
  match f,q6 with
  | .next,⟨σ6,H6,I6,z⟩=>exact ⟨_,H6,(I6.outsuite ok).unpinTo,z⟩
  | .brk,⟨σ6,H6,I6,z⟩=>exact ⟨_,H6,(I6.outsuite ok).unpinTo,z⟩
  | .cont,⟨σ6,H6,I6,z⟩=>exact ⟨_,H6,(I6.outsuite ok).unpinTo,z⟩
  | .ret u,⟨v,σ6,H6,I6,r,z⟩=>exact ⟨v,_,H6,(I6.outsuite ok).unpinTo,r,z⟩
end
end L2
namespace L2
open PySem PySem.Spec PyProof.Rows
section
variable {prog:Program} {w:World} {A:Around} {E:Value→Shared→Prop} {s:Shared}
theorem TupI.keep {h h':Heap} {v:Value} {ns:List Int} {a:Addr} {n:Nat} {us:Array Value} (t:TupI h v ns) (ho:h.get? a=some (seqObj "list" us n)) (k:∀ b o,b≠a→h.get? b=some o→h'.get? b=some o):TupI h' v ns:=by
 obtain ⟨b,ws,e,⟨o,e1,e2,e3⟩,i⟩:=t
 refine ⟨b,ws,e,⟨o,k b o (fun z=>?_) e1,e2,e3⟩,i⟩
 subst z
 rw [ho] at e1
 cases e1
 have e4:Value.type "list"=Value.type "tuple":=e2
 injection e4 with e5
 exact absurd e5 (by decide)
theorem list_sort_tup {a:Addr} {vs:List Value} {f:Value→List Int} {n:Nat} {P:PySem.Fin→Shared→Prop} (ho:s.heap.get? a=some (seqObj "list" vs.toArray n))
  (hk:∀ v∈vs,TupI s.heap v (f v)∧f v≠[]) (h64:vs.length < 64)
  (h:∀ (arr:Array Keyed),arr.toList.Perm (vs.zip vs)→Up (O:=lxO) (fk (O:=lxO) (fun p=>keyAt s.heap p.1) ([]:List Int) arr) arr.size→P (.done (.ret .none)) { s with heap:=sortedHeap s.heap a vs (arr.map (·.2)) }) :
  wpAny (model prog w) A (Builtin.«list.sort» ⟨[.ref a],[]⟩) P E s:=by
 rw [list_sort_plain]
 have ha:a < s.heap.objs.size:=Heap.lt_size ho
 refine wpAny_bind (listItems_at ho rfl ?_)
 refine wpAny_bind (listUpdate_at ho rfl ?_)
 obtain ⟨e1,ho1⟩:∃ e1,(s.heap.update a (Obj.mapSeq fun _=>#[])).get? a=some (seqObj "list" #[] e1):=⟨_,get?_update_seq ho (fun _=>#[])⟩
 refine wpAny_bind (seqEpoch_at ho1 rfl ?_)
 refine wpAny_bind (wpAny_newTuple ?_)
 refine wpAny_bind (wpAny_newList ?_)
 refine wpAny_holding ?_
 have ho6:(((s.heap.update a (Obj.mapSeq fun _=>#[])).push (seqObj "tuple" vs.toArray 0)).push (seqObj "list" #[] 0)).get? a=some (seqObj "list" #[] e1):=by
  rw [Heap.get?_push_ne _ _ _ (by rw [size_push',Heap.size_update]; exact Nat.ne_of_lt (Nat.lt_succ_of_lt ha)),Heap.get?_push_ne _ _ _ (by rw [Heap.size_update]; exact Nat.ne_of_lt ha)]
  exact ho1
 have kp:∀ b o,b≠a→s.heap.get? b=some o→(((s.heap.update a (Obj.mapSeq fun _=>#[])).push (seqObj "tuple" vs.toArray 0)).push (seqObj "list" #[] 0)).get? b=some o:=fun b o hb e =>
  Heap.get?_push_of_some _ (Heap.get?_push_of_some _ ((Heap.get?_update_other _ _ (Ne.symm hb)).trans e))
 show wpAny (model prog w) A _ P E { s with heap:=((s.heap.update a (Obj.mapSeq fun _=>#[])).push (seqObj "tuple" vs.toArray 0)).push (seqObj "list" #[] 0) }
 dsimp only
 have hsz:vs.toArray.size=vs.length:=by simp
 have a0:(vs.toArray.zip vs.toArray).toList=vs.zip vs:=by simp
 have z0:(vs.toArray.zip vs.toArray).size=vs.length:=by simp
 generalize hg6:((s.heap.update a (Obj.mapSeq fun _=>#[])).push (seqObj "tuple" vs.toArray 0)).push (seqObj "list" #[] 0)=g6 at ho6 kp ⊢
 have hk6:∀ v∈vs,TupI g6 v (f v)∧f v≠[]:=fun v hv=>⟨(hk v hv).1.keep ho kp,(hk v hv).2⟩
 have same:∀ (arr:Array Keyed),arr.toList.Perm (vs.zip vs)→fk (O:=lxO) (fun p=>keyAt g6 p.1) ([]:List Int) arr=fk (O:=lxO) (fun p=>keyAt s.heap p.1) ([]:List Int) arr:=fun arr hp=>by
  funext i
  unfold fk
  cases e:arr[i]? with
  | none=>rfl
  | some p =>
   have hm:p∈vs.zip vs:=hp.mem_iff.mp (by
    have:p∈arr:=Array.mem_of_getElem? e
    exact Array.mem_toList_iff.mpr this)
   have hm1:p.1∈vs:=(List.of_mem_zip (show (p.1,p.2)∈vs.zip vs from hm)).1
   show keyAt g6 p.1=keyAt s.heap p.1
   rw [keyAt_eq (hk6 _ hm1).1,keyAt_eq (hk _ hm1).1]
 by_cases h2:vs.toArray.size < 2
 ·rw [if_pos h2,if_pos h2]
  refine wpAny_bind (wpAny_pure ?_)
  rw [StateT.run_pure]
  refine wpAny_bind (wpAny_pure ?_)
  dsimp only
  refine wpAny_bind (seqEpoch_at ho6 rfl ?_)
  refine wpAny_bind (listUpdate_at ho6 rfl ?_ (hsz2:=by rw [Array.size_map]; show (vs.toArray.zip vs.toArray).size≤_; rw [z0,sizeLine_eq]; lia))
  simp only [bne_self_eq_false,Bool.false_eq_true,if_false]
  refine wpAny_pure ?_
  have:=h (vs.toArray.zip vs.toArray) (by rw [a0]) (fun i j hij hj=>by
   have:i=j:=by rw [z0] at hj; lia
   subst this; exact KeyOrd.kle_refl _)
  unfold sortedHeap at this
  rw [hg6] at this
  exact this
 ·rw [if_neg h2,if_neg h2]
  refine wpAny_bind (kind_tup (s:={ s with heap:=g6 }) (f:=f) (fun v hv=>hk6 v (by simpa using hv)) fun b=>?_)
  have hk0:∀ p∈(vs.toArray.zip vs.toArray).toList,∃ ns,TupI ({ s with heap:=g6 }:Shared).heap p.1 ns:=fun p hp=>by
   rw [a0] at hp
   exact ⟨_,(hk6 p.1 (List.of_mem_zip (show (p.1,p.2)∈vs.zip vs from hp)).1).1⟩
  refine wpAny_bind (wpAny_mono (srt_runs (srt_tup (s:={ s with heap:=g6 }) b hk0) (by rw [z0]; rw [hsz] at h2; lia) (by rw [z0]; exact h64) (st:=SortSt.mk' (tupKind b) (vs.toArray.zip vs.toArray) #[] 7 none) ⟨rfl,Array.Perm.refl _,rfl,rfl⟩ (Q:=fun _ st=>(arrOf st).Perm (vs.toArray.zip vs.toArray)∧failedOf st=none∧Up (O:=lxO) (fk (O:=lxO) (fun p=>keyAt g6 p.1) ([]:List Int) (arrOf st)) (vs.toArray.zip vs.toArray).size) fun st' a b c=>⟨a,b,c⟩) ?_ fun _ _ e=>e)
  rintro ⟨⟨⟩,st⟩ s' ⟨es,hp,hf,up⟩
  have es2:=es.symm
  subst es2
  dsimp only
  have hp':(arrOf st).toList.Perm (vs.zip vs):=by rw [← a0]; exact Array.perm_iff_toList_perm.mp hp
  refine wpAny_bind (seqEpoch_at ho6 rfl ?_)
  refine wpAny_bind (listUpdate_at ho6 rfl ?_ (hsz2:=by rw [Array.size_map,hp.size_eq,z0,sizeLine_eq]; lia))
  rw [hf]
  simp only [bne_self_eq_false,Bool.false_eq_true,if_false]
  refine wpAny_pure ?_
  rw [same _ hp',← hp.size_eq] at up
  have:=h (arrOf st) hp' up
  unfold sortedHeap at this
  rw [hg6] at this
  exact this
theorem sorted_tups {l:Addr} {vs:List Value} {f:Value→List Int} {Q:Value→Shared→Prop} (hl:s.heap.IsList l vs.toArray) (hk:∀ v∈vs,TupI s.heap v (f v)∧f v≠[]) (h64:vs.length < 64)
  (h:∀ (arr:Array Keyed),arr.toList.Perm (vs.zip vs)→Up (O:=lxO) (fk (O:=lxO) (fun p=>f p.1) ([]:List Int) arr) arr.size→Q (.ref (s.heap.objs.size + 1)) { s with heap:=sortedAll s.heap vs (arr.map (·.2)) }) :
  wpAny (model prog w) A (call (.builtin "sorted") [.ref l]) Q E s:=by
 refine Calls.call_function_entry kind_sorted plain_sorted entry_sorted (args_sorted1 _) ?_
 unfold Builtin.«sorted»
 refine wpAny_bind (m:=checkCount "sorted" 1 1 _) (wpAny_pure ?_)
 refine wpAny_bind (collect_list hl ?_)
 refine wpAny_bind (wpAny_newList ?_)
 have hsz:((s.heap.push (seqObj "list" #[] 0)).update s.heap.objs.size (Obj.mapSeq (·++vs.toArray))).objs.size=s.heap.objs.size + 1:=by
  rw [Heap.size_update,size_push']
 have hoL:(((s.heap.push (seqObj "list" #[] 0)).update s.heap.objs.size (Obj.mapSeq (·++vs.toArray))).push (seqObj "list" vs.toArray 0)).get? (s.heap.objs.size + 1)=some (seqObj "list" vs.toArray 0):=by
  rw [← hsz]; exact Heap.get?_push_size _ rfl
 show wpAny _ _ _ _ _ { s with heap:=((s.heap.push (seqObj "list" #[] 0)).update s.heap.objs.size (Obj.mapSeq (·++vs.toArray))).push (seqObj "list" vs.toArray 0) }
 rw [hsz]
 have kp:∀ b o,s.heap.get? b=some o→(((s.heap.push (seqObj "list" #[] 0)).update s.heap.objs.size (Obj.mapSeq (·++vs.toArray))).push (seqObj "list" vs.toArray 0)).get? b=some o:=fun b o e =>
  Heap.get?_push_of_some _ ((Heap.get?_update_other _ _ (Nat.ne_of_gt (Heap.lt_size e))).trans (Heap.get?_push_of_some _ e))
 have hk2:∀ v∈vs,TupI (((s.heap.push (seqObj "list" #[] 0)).update s.heap.objs.size (Obj.mapSeq (·++vs.toArray))).push (seqObj "list" vs.toArray 0)) v (f v)∧f v≠[]:=fun v hv=>by
  obtain ⟨⟨b,ws,e,⟨o,e1,e2,e3⟩,i⟩,hn⟩:=hk v hv
  exact ⟨⟨b,ws,e,⟨o,kp b o e1,e2,e3⟩,i⟩,hn⟩
 refine wpAny_bind (wpAny_holding (wpAny_call_entry slot_list_sort ⟨_,hoL,rfl⟩ entry_list_sort (list_sort_tup (f:=f) hoL hk2 h64 fun arr hp up=>⟨_,rfl,?_⟩) (args_list_sort _)))
 refine wpAny_pure ⟨_,rfl,h arr hp ?_⟩
 have e:fk (O:=lxO) (fun p=>f p.1) ([]:List Int) arr=fk (O:=lxO) (fun p=>keyAt (((s.heap.push (seqObj "list" #[] 0)).update s.heap.objs.size (Obj.mapSeq (·++vs.toArray))).push (seqObj "list" vs.toArray 0)) p.1) ([]:List Int) arr:=by
  funext i
  unfold fk
  cases e:arr[i]? with
  | none=>rfl
  | some p =>
   have hm:p∈vs.zip vs:=hp.mem_iff.mp (Array.mem_toList_iff.mpr (Array.mem_of_getElem? e))
   have hm1:p.1∈vs:=(List.of_mem_zip (show (p.1,p.2)∈vs.zip vs from hm)).1
   show f p.1=keyAt _ p.1
   rw [keyAt_eq (hk2 _ hm1).1]
 rw [e]
 exact up
end
section
variable {X:Cx}
theorem refs_of {xs:List V} (h:∀ x∈xs,∃ t,x=.ref t):∃ ts:List Addr,xs=ts.map V.ref:=by
 induction xs with
 | nil=>exact ⟨[],rfl⟩
 | cons x r ih =>
  obtain ⟨t,rfl⟩:=h x (List.mem_cons_self ..)
  obtain ⟨ts,rfl⟩:=ih fun y hy=>h y (List.mem_cons_of_mem _ hy)
  exact ⟨t :: ts,rfl⟩
theorem call_sortT:CallR X (.builtin "sorted") (fun vs H Q=>∃ (l:Addr) (xs:List V) (key:V→List Int),vs=[.ref l]∧H l=some (.lst xs)∧xs.length < 64∧(∀ x∈xs,key x≠[]∧∃ t,x=.ref t∧H t=some (.tup ((key x).map V.int))) ∧
  ∀ (p:Addr) (ys:List V) (H':Hp),Same H H'→H' p=some (.lst ys)→ys.Perm xs→ys.Pairwise (fun a b=>lx (key b) (key a)=false)→Q (.ref p) H'):=by
 intro pins s σ H vs us Q I r h
 obtain ⟨l,xs,key,rfl,hl,h64,hk,q⟩:=h
 obtain ⟨u,rfl,rx⟩:=vals1 r
 cases rx
 obtain ⟨its,rv,pl,hz⟩:=I.list (SqL.of hl)
 obtain ⟨ts,rfl⟩:=refs_of (xs:=xs) fun x hx=>let ⟨_,t,e,_⟩:=hk x hx; ⟨t,e⟩
 have ei:=vals_refs rv
 subst ei
 rw [List.length_map] at h64
 have hkT:∀ t∈ts,TupI s.heap (.ref t) (key (.ref t))∧key (.ref t)≠[]:=fun t ht=>by
  obtain ⟨hne,t',e,ht'⟩:=hk (.ref t) (List.mem_map_of_mem ht)
  cases e
  obtain ⟨us',r',p',_⟩:=I.tuple (SqT.of ht')
  exact ⟨⟨t,us',rfl,p',intsAre_of r'⟩,hne⟩
 refine sorted_tups (f:=fun v=>match v with | .ref t=>key (.ref t) | _=>[]) pl.isList (fun v hv=>?_) (by rw [List.length_map]; exact h64) fun arr hp up=>?_
 ·obtain ⟨t,ht,rfl⟩:=List.mem_map.mp hv
  exact hkT t ht
 have pr:Paired (fun (t:Addr) (x:V)=>t∈ts∧x=.ref t) ts (ts.map V.ref):=by
  have:∀ l:List Addr,(∀ t∈l,t∈ts)→Paired (fun (t:Addr) (x:V)=>t∈ts∧x=.ref t) l (l.map V.ref):=by
   intro l
   induction l with
   | nil=>intro _; exact .nil
   | cons a b ih=>intro h; exact .cons ⟨h a (List.mem_cons_self ..),rfl⟩ (ih fun t ht=>h t (List.mem_cons_of_mem _ ht))
  exact this ts fun t ht=>ht
 obtain ⟨z1,z2,z3⟩:=zip3 pr rv
 have hT:∀ p∈((ts.map Value.ref).zip (ts.map Value.ref)).zip (ts.map V.ref),RelV p.2 p.1.2∧TupI s.heap p.1.1 (key p.2):=fun p hp=>by
  obtain ⟨a1,t,e,hm,ex⟩:=z3 p hp
  rw [e,ex]
  exact ⟨ex ▸ a1,(hkT t hm).1⟩
 have e:fk (O:=lxO) (fun p=>match p.1 with | .ref t=>key (.ref t) | _=>[]) ([]:List Int) arr=fk (O:=lxO) (fun p=>keyAt s.heap p.1) ([]:List Int) arr:=by
  funext i
  unfold fk
  cases e:arr[i]? with
  | none=>rfl
  | some p =>
   have hm:p∈(ts.map Value.ref).zip (ts.map Value.ref):=hp.mem_iff.mp (Array.mem_toList_iff.mpr (Array.mem_of_getElem? e))
   have hm1:p.1∈ts.map Value.ref:=(List.of_mem_zip (show (p.1,p.2)∈_ from hm)).1
   obtain ⟨t,ht,et⟩:=List.mem_map.mp hm1
   show (match p.1 with | .ref t=>key (.ref t) | _=>[])=keyAt s.heap p.1
   rw [← et,keyAt_eq (hkT t ht).1]
 obtain ⟨ys,py,vy,wy⟩:=order_out (h:=s.heap) (T:=((ts.map Value.ref).zip (ts.map Value.ref)).zip (ts.map V.ref)) (a:=arr) (key:=key) (by rw [z1]; exact hp) hT (by rw [← e]; exact up)
 rw [z2] at py
 obtain ⟨ep,at1⟩:=sortedAll_at s.heap (ts.map Value.ref) (arr.map (·.2))
 have hf:H (s.heap.objs.size + 1)=none:=I.hok.fresh (Nat.le_succ _)
 have lys:ys.length=ts.length:=by have:=py.length_eq; rw [List.length_map] at this; exact this
 refine ⟨.ref (s.heap.objs.size + 1),upd H (s.heap.objs.size + 1) (.lst ys),I.laid (t':=s.toks) (fun b o e=>sortedAll_old e) (Nat.le_succ _) ⟨by rw [lys,sizeLine_eq]; lia,arr.toList.map (·.2),ep,vy,?_⟩,rfl,q _ ys _ (fun b o e=>by rw [upd_ne (ne_of_none e hf)]; exact e) upd_same py wy⟩
 rw [at1]
 show some (seqObj "list" _ ep)=some (seqObj "list" _ ep)
 congr 2
 apply Array.toList_inj.mp
 simp
theorem range_get (bs:List Bool):(List.range bs.length).map (fun i=>bs.getD i false)=bs:=by
 apply List.ext_getElem?
 intro i
 rw [List.getElem?_map]
 by_cases h:i < bs.length
 ·rw [List.getElem?_range h,List.getElem?_eq_getElem h]
  show some (bs.getD i false)=_
  rw [List.getD_eq_getElem?_getD,List.getElem?_eq_getElem h]; rfl
 ·rw [List.getElem?_eq_none (by simpa using h),List.getElem?_eq_none (by lia)]; rfl
theorem range_all (bs:List Bool):(List.range bs.length).all (fun i=>bs.getD i false)=bs.all id:=by
 have:=congrArg (fun l=>List.all l id) (range_get bs)
 rw [List.all_map] at this
 exact this
theorem range_any (bs:List Bool):(List.range bs.length).any (fun i=>bs.getD i false)=bs.any id:=by
 have:=congrArg (fun l=>List.any l id) (range_get bs)
 rw [List.any_map] at this
 exact this
theorem bools_walk {pins:List (Addr×Obj)} {σ:St} {H:Hp} {s:Shared} {E:Value→Shared→Prop} {p:Addr} {bs:List Bool} (hc:X.calm=true) (I:Inv X pins σ H s) (hS:SqL X.K H p (bs.map V.bl)) {R:Value→Shared→Prop}
  (h:∀ (J:Addr) (St:Nat→Heap→Prop) (s2:Shared) (fp wr:List Addr) (its:Array Value),its.size=bs.length→Walks X.prog X.w X.A.in1 J fp wr its.size (fun i v=>its[i]?=some v) St→St 0 s2.heap→(∀ (i:Nat) (v:Value),its[i]?=some v→v=Value.bool (bs.getD i false)) →
   (∀ h' tk,(∀ b o,b ∉ wr→s2.heap.get? b=some o→h'.get? b=some o)→Inv X pins σ H { s2 with heap:=h',toks:=tk })→R (.ref J) s2):wpAny (model X.prog X.w) X.A.in1 (pyIter (.ref p)) R E s:=by
 obtain ⟨its,rv,pl,hz⟩:=I.list hS
 have hl:=pl.isList
 have hlt:p < s.heap.objs.size:=by obtain ⟨_,e,_⟩:=hl; exact Heap.lt_size e
 have len:=rv.length
 rw [List.length_map] at len
 refine wpAny_pyIter_list hl (h _ _ _ _ _ its.toArray (by simp; lia) (Walks.list (A:=X.A.in1) (I.ok.hd hc) s.heap.objs.size p (Nat.ne_of_lt hlt) its.toArray) ⟨⟨_,Heap.get?_push_size _ rfl,rfl,rfl⟩,hl.push _⟩ (fun i v hv=>?_) fun h' tk hk=>?_)
 ·have hv':its[i]?=some v:=by simpa using hv
  have hi:i < bs.length:=by rw [len]; exact (List.getElem?_eq_some_iff.mp hv').1
  obtain ⟨u,e1,r1⟩:=rv.get (i:=i) (x:=.bl (bs.getD i false)) (by rw [List.getElem?_map,List.getD_eq_getElem?_getD,List.getElem?_eq_getElem hi]; rfl)
  rw [hv'] at e1
  cases e1
  exact r1
 ·exact I.kept fun b o e=>hk b o (fun z=>absurd (Heap.lt_size e) (by rw [List.mem_singleton.mp z]; exact Nat.lt_irrefl _)) (Heap.get?_push_of_some _ e)
theorem call_allL (hc:X.calm=true):CallR X (.builtin "all") (fun xs H Q=>∃ (p:Addr) (bs:List Bool),xs=[.ref p]∧SqL X.K H p (bs.map V.bl)∧Q (.bl (bs.all id)) H):=by
 intro pins s σ H xs us Q I r h
 obtain ⟨p,bs,rfl,hS,q⟩:=h
 obtain ⟨u,rfl,rx⟩:=vals1 r
 cases rx
 refine call_all_walk (bools_walk hc I hS fun J St s2 fp wr its hsz W st hv hI=>⟨J,fp,wr,_,_,St,fun i=>bs.getD i false,rfl,W,st,fun i v s3 Q3 E3 hP hQ=>?_,fun h' tk hk=>⟨.bl _,H,hI h' tk hk,rfl,?_⟩⟩)
 ·rw [hv i v hP]
  exact wpAny_truthy_bool hQ
 ·rw [hsz,range_all]; exact q
theorem call_anyL (hc:X.calm=true):CallR X (.builtin "any") (fun xs H Q=>∃ (p:Addr) (bs:List Bool),xs=[.ref p]∧SqL X.K H p (bs.map V.bl)∧Q (.bl (bs.any id)) H):=by
 intro pins s σ H xs us Q I r h
 obtain ⟨p,bs,rfl,hS,q⟩:=h
 obtain ⟨u,rfl,rx⟩:=vals1 r
 cases rx
 refine call_any_walk (bools_walk hc I hS fun J St s2 fp wr its hsz W st hv hI=>⟨J,fp,wr,_,_,St,fun i=>bs.getD i false,rfl,W,st,fun i v s3 Q3 E3 hP hQ=>?_,fun h' tk hk=>⟨.bl _,H,hI h' tk hk,rfl,?_⟩⟩)
 ·rw [hv i v hP]
  exact wpAny_truthy_bool hQ
 ·rw [hsz,range_any]; exact q
theorem bt_all:bootBuiltins "all"=some (.builtin "all"):=by decide +kernel
theorem bt_any:bootBuiltins "any"=some (.builtin "any"):=by decide +kernel
end
end L2
namespace L2
open PySem PySem.Spec PyProof.Rows
section
variable {X:Cx} {es:List Expr} {kk:Nat} {tpos:Pos}
end
end L2
namespace L2
open PySem PySem.Spec PyProof.Rows
end L2
namespace L2
open PySem PySem.Spec PyProof.Rows
section
variable {prog:Program} {w:World} {A:Around} {E:Value→Shared→Prop} {s:Shared}
theorem sorted_tupI {l:Addr} {us:List Value} {ns:List Int} {Q:Value→Shared→Prop} (hl:s.heap.IsTuple l us.toArray) (hI:IntsAre us ns) (h64:us.length < 64)
  (h:∀ (out:Array Value) (ns':List Int) (g:Heap) (e:Nat),IntsAre out.toList ns'→ns'.Perm ns→ns'.Pairwise (·≤·)→(∀ b o,s.heap.get? b=some o→g.get? b=some o)→g.get? (s.heap.objs.size + 1)=some (seqObj "list" out e)→Q (.ref (s.heap.objs.size + 1)) { s with heap:=g }) :
  wpAny (model prog w) A (call (.builtin "sorted") [.ref l]) Q E s:=by
 have szl:=sizeLine_eq
 refine Calls.call_function_entry kind_sorted plain_sorted entry_sorted (args_sorted1 _) ?_
 unfold Builtin.«sorted»
 refine wpAny_bind (m:=checkCount "sorted" 1 1 _) (wpAny_pure ?_)
 refine wpAny_bind (collect_tup hl (by lia) fun g1 k1 z1=>?_)
 refine wpAny_bind (wpAny_newList ?_)
 have gL:(g1.push (seqObj "list" us.toArray 0)).get? g1.objs.size=some (seqObj "list" us.toArray 0):=Heap.get?_push_size _ rfl
 refine wpAny_bind (wpAny_holding (wpAny_call_entry slot_list_sort ⟨_,gL,rfl⟩ entry_list_sort (list_sort_tree gL hI h64 fun out ns' a1 a2 a3=>⟨_,rfl,?_⟩) (args_list_sort _)))
 obtain ⟨e,at1⟩:=sortedHeap_at (out:=out) gL
 have old:∀ b o,s.heap.get? b=some o→(sortedHeap (g1.push (seqObj "list" us.toArray 0)) g1.objs.size us out).get? b=some o:=fun b o hb=>by
  have hlt:b < g1.objs.size:=Heap.lt_size (k1 b o hb)
  rw [sortedHeap_old (Nat.ne_of_lt hlt) (by rw [size_push']; exact Nat.lt_succ_of_lt hlt),Heap.get?_push_ne _ _ _ (Nat.ne_of_lt hlt)]
  exact k1 b o hb
 have:=h out ns' _ e a1 a2 a3 old (by rw [← z1]; exact at1)
 rw [← z1] at this
 exact wpAny_pure ⟨_,rfl,this⟩
end
section
variable {X:Cx}
theorem call_sortIL:CallR X (.builtin "sorted") (fun vs H Q=>∃ (l:Addr) (ns:List Int),vs=[.ref l]∧H l=some (.lst (ns.map V.int))∧ns.length < 64 ∧
  ∀ (p:Addr) (ns':List Int) (H':Hp),Same H H'→H' p=some (.lst (ns'.map V.int))→ns'.Perm ns→ns'.Pairwise (·≤·)→Q (.ref p) H'):=by
 intro pins s σ H vs us Q I r h
 obtain ⟨l,ns,rfl,hl,h64,q⟩:=h
 obtain ⟨u,rfl,rx⟩:=vals1 r
 cases rx
 obtain ⟨its,rv,pl,hz⟩:=I.list (SqL.of hl)
 have len:=rv.length
 rw [List.length_map] at len
 refine sorted_ints pl.isList (intsAre_of rv) (by lia) fun out ns' a1 a2 a3=>?_
 obtain ⟨ep,at1⟩:=sortedAll_at s.heap its out
 have hf:H (s.heap.objs.size + 1)=none:=I.hok.fresh (Nat.le_succ _)
 have l1:ns'.length=ns.length:=a2.length_eq
 refine ⟨.ref (s.heap.objs.size + 1),upd H (s.heap.objs.size + 1) (.lst (ns'.map V.int)),I.laid (t':=s.toks) (fun b o e=>sortedAll_old e) (Nat.le_succ _) ⟨by rw [List.length_map,sizeLine_eq]; lia,out.toList,ep,vals_ints a1,?_⟩,rfl,q _ ns' _ (fun b o e=>by rw [upd_ne (ne_of_none e hf)]; exact e) upd_same a2 a3⟩
 rw [at1]
theorem call_sortIT:CallR X (.builtin "sorted") (fun vs H Q=>∃ (l:Addr) (ns:List Int),vs=[.ref l]∧SqT X.K H l (ns.map V.int)∧ns.length < 64 ∧
  ∀ (p:Addr) (ns':List Int) (H':Hp),Same H H'→H' p=some (.lst (ns'.map V.int))→ns'.Perm ns→ns'.Pairwise (·≤·)→Q (.ref p) H'):=by
 intro pins s σ H vs us Q I r h
 obtain ⟨l,ns,rfl,hl,h64,q⟩:=h
 obtain ⟨u,rfl,rx⟩:=vals1 r
 cases rx
 obtain ⟨its,rv,pl,hz⟩:=I.tuple hl
 have len:=rv.length
 rw [List.length_map] at len
 refine sorted_tupI (show s.heap.IsTuple l its.toArray from pl) (intsAre_of rv) (by lia) fun out ns' g ep a1 a2 a3 k1 at1=>?_
 have hf:H (s.heap.objs.size + 1)=none:=I.hok.fresh (Nat.le_succ _)
 have l1:ns'.length=ns.length:=a2.length_eq
 refine ⟨.ref (s.heap.objs.size + 1),upd H (s.heap.objs.size + 1) (.lst (ns'.map V.int)),I.laid (t':=s.toks) k1 (Nat.le_succ _) ⟨by rw [List.length_map,sizeLine_eq]; lia,out.toList,ep,vals_ints a1,?_⟩,rfl,q _ ns' _ (fun b o e=>by rw [upd_ne (ne_of_none e hf)]; exact e) upd_same a2 a3⟩
 exact at1
theorem ints_unique:∀ {a b:List Int},a.Perm b→a.Pairwise (·≤·)→b.Pairwise (·≤·)→a=b
 | [],b,p,_,_=>by rw [p.symm.eq_nil]
 | x :: r,[],p,_,_=>absurd p.length_eq (by simp)
 | x :: r,y :: t,p,ha,hb=>by
  have h1:=List.pairwise_cons.mp ha
  have h2:=List.pairwise_cons.mp hb
  have e:x=y:=by
   have m1:y∈x :: r:=p.mem_iff.mpr (List.mem_cons_self ..)
   have m2:x∈y :: t:=p.mem_iff.mp (List.mem_cons_self ..)
   rcases List.mem_cons.mp m1 with e | m1
   ·exact e.symm
   ·rcases List.mem_cons.mp m2 with e | m2
    ·exact e
    ·exact Int.le_antisymm (h1.1 y m1) (h2.1 x m2)
  subst e
  rw [ints_unique (List.perm_cons _ |>.mp p) h1.2 h2.2]
end
end L2
namespace Law
open PySem L2
noncomputable def top (i:Nat):Stmt:=PySem.Challenge.pw_ledtowish_k11_whole_forms_and_ways.main.body.getD i (.Pass ⟨0,0,0,0⟩)
end Law
namespace Law
open PySem L2
section
variable {P:Program} {w:World} {K:PySem.W.Frag} {mg:Str→Option Value} {base:Heap}
noncomputable def spId:Sp:=fun vs H Q _=>∃ v:V,vs=[v]∧Q v H
noncomputable abbrev s_number_itself:Stmt:=top 11
theorem sc_number_itself:FnScope ["number"] ["number"] (defScope s_number_itself):=⟨rfl,rfl,rfl,by decide +kernel,rfl,by decide +kernel,by decide +kernel⟩
theorem ok_id {f:Addr} {fd:FuncData} (F:Fun K "number_itself" "number_itself" s_number_itself f fd):FnOk P w K mg base CX0 1 f fd ["number"] spId:=by
 refine F.ok sc_number_itself (fun vs H Q E h=>?_) (fun cdv A outer s H vs Q E hr h=>?_)
 ·obtain ⟨v,rfl,_⟩:=h
  rfl
 obtain ⟨v,rfl,q⟩:=h
 exact ⟨_,(pss_one (ps_ret (pv 0))),⟨_,rfl,q⟩⟩
noncomputable def kO:Option D→List Int
 | none=>[0]
 | some d=>kD d
noncomputable def sO:Option D→Nat
 | none=>1
 | some d=>sz d
noncomputable def sOs (l:List (Option D)):Nat:=(l.map sO).sum
inductive DatO (H:Hp):V→Option D→Prop
 | non:DatO H .non none
 | som {d:D} {v:V}:IsForm d→Dat H d v→DatO H v (some d)
theorem DatO.kt {H H':Hp} (k:KT H H') {o:Option D} {v:V} (h:DatO H v o):DatO H' v o:=by
 cases h with
 | non=>exact .non
 | som a b=>exact .som a (Dat.kt k _ b)
theorem sO_pos (o:Option D):1≤sO o:=by
 cases o with
 | none=>exact Nat.le_refl _
 | some d=>exact sz_pos d
theorem sOs_cons (o:Option D) (r:List (Option D)):sOs (o :: r)=sO o + sOs r:=by unfold sOs; rw [List.map_cons,List.sum_cons]
theorem sOs_app (a b:List (Option D)):sOs (a++b)=sOs a + sOs b:=by unfold sOs; rw [List.map_append,List.sum_append]
theorem sOs_some:∀ l:List D,sOs (l.map some)≤szs l
 | []=>Nat.zero_le _
 | d :: r=>by
  have:=sOs_some r
  rw [List.map_cons,sOs_cons,szs]
  show sz d + _≤_
  lia
theorem sOs_len:∀ l:List (Option D),l.length≤sOs l
 | []=>Nat.zero_le _
 | o :: r=>by
  have:=sOs_len r
  have:=sO_pos o
  rw [sOs_cons,List.length_cons]
  lia
theorem kO_some:∀ l:List D,(l.map some).flatMap kO=kS l
 | []=>by rw [kS_nil]; rfl
 | d :: r=>by rw [List.map_cons,List.flatMap_cons,kO_some r,kS_cons]; rfl
theorem datO_some {H:Hp}:∀ {l:List D} {xs:List V},(∀ x∈l,IsForm x)→Dats H l xs→Paired (DatO H) xs (l.map some)
 | [],xs,_,h=>by rw [h.nilE]; exact .nil
 | d :: r,xs,hf,h=>by
  obtain ⟨x,t,rfl,h1,h2⟩:=h.consE
  exact .cons (.som (hf d (List.mem_cons_self ..)) h1) (datO_some (fun z hz=>hf z (List.mem_cons_of_mem _ hz)) h2)
noncomputable def spOrder:Sp:=fun vs H Q _=>∃ (v:V) (d:D),vs=[v]∧Dat H d v∧IsForm d∧sz d≤400∧∀ (t:Addr) (H':Hp),Same H H'→H' t=some (.tup ((kD d).map V.int))→Q (.ref t) H'
noncomputable abbrev s_order_of:Stmt:=top 27
theorem sc_order_of:FnScope ["form","order","waiting","part","kind","more","off"] ["form"] (defScope s_order_of):=⟨rfl,rfl,rfl,by decide +kernel,rfl,by decide +kernel,by decide +kernel⟩
theorem ok_order {f dR:Addr} {fd:FuncData} (F:Fun K "order_of" "order_of" s_order_of f fd) (B:Blt mg) (mR:mg "RANKS"=some (.ref dR)) (TR:TopDict w K dR)
  (hR:∀ k:Str,(k="sum"∨k="product")→∃ t,PySem.W.nsIn K dR k=some (some (.int (rkK k) t))):FnOk P w K mg base CX0 1 f fd ["form"] spOrder:=by
 refine F.ok sc_order_of (fun vs H Q E h=>?_) (fun cdv A outer s H vs Q E hr h=>?_)
 ·obtain ⟨v,d,rfl,_⟩:=h
  rfl
 obtain ⟨v,d,rfl,hd,hF,hz,q⟩:=h
 have kl:=kD_len hF
 refine ⟨_,(pss_cons (ps_set (i:=1) sc_order_of.nd rfl (by first | exact Or.inl rfl | exact Or.inr rfl) (pe_lst pa_nil))
   (pss_cons (ps_set (i:=2) sc_order_of.nd rfl (by first | exact Or.inl rfl | exact Or.inr rfl) (pe_lst (pa_cons (pv 0) pa_nil)))
   (pss_cons (ps_while PassesOwn.never (pt_truth (pv 2) (fun _=>rfl)) (pss_cons (ps_set (i:=3) sc_order_of.nd rfl (by first | exact Or.inl rfl | exact Or.inr rfl) (pe_bm0 PySem.F.plainAttrs_list PySem.F.slot_list_pop PySem.F.type_list_pop mt_pop (pv 2)))
   (pss_one (ps_if (pt_cmpR op_isN (pv 3) pe_non (nomark _)) (pss_one (ps_expr (pe_bm PySem.F.plainAttrs_list PySem.F.slot_list_append PySem.F.type_list_append mt_append (pv 1) (pa_cons pe_int pa_nil)))) (pss_one (ps_if (pt_val (pe_isin B.isinstance B.tuple bt_tuple (pv 3))) (pss_cons (ps_asg (pv 3) (pg_tup rfl (pgs_cons (pg_name (i:=4) sc_order_of.nd rfl (by first | exact Or.inl rfl | exact Or.inr rfl)) (pgs_cons (pg_name (i:=5) sc_order_of.nd rfl (by first | exact Or.inl rfl | exact Or.inr rfl)) (pgs_cons (pg_name (i:=6) sc_order_of.nd rfl (by first | exact Or.inl rfl | exact Or.inr rfl)) pgs_nil)))))
   (pss_cons (ps_expr (pe_bm PySem.F.plainAttrs_list PySem.F.slot_list_append PySem.F.type_list_append mt_append (pv 1) (pa_cons (pe_ix ix_top (pe_glob (v:=.ref dR) rfl mR rfl) (pv 4) (fun _ _=>rfl)) pa_nil)))
   (pss_cons (ps_expr (pe_bm PySem.F.plainAttrs_list PySem.F.slot_list_append PySem.F.type_list_append mt_append (pv 2) (pa_cons pe_non pa_nil)))
   (pss_cons (ps_expr (pe_bm PySem.F.plainAttrs_list PySem.F.slot_list_extend PySem.F.type_list_extend mt_extendT (pv 2) (pa_cons (pe_revT (pv 6)) pa_nil)))
   (pss_cons (ps_expr (pe_bm PySem.F.plainAttrs_list PySem.F.slot_list_append PySem.F.type_list_append mt_append (pv 2) (pa_cons pe_non pa_nil)))
   (pss_one (ps_expr (pe_bm PySem.F.plainAttrs_list PySem.F.slot_list_extend PySem.F.type_list_extend mt_extendT (pv 2) (pa_cons (pe_revT (pv 5)) pa_nil))))))))) (pss_cons (ps_expr (pe_bm PySem.F.plainAttrs_list PySem.F.slot_list_append PySem.F.type_list_append mt_append (pv 1) (pa_cons pe_int pa_nil)))
   (pss_one (ps_expr (pe_bm PySem.F.plainAttrs_list PySem.F.slot_list_append PySem.F.type_list_append mt_append (pv 1) (pa_cons (pv 3) pa_nil)))))))))))
   (pss_one (ps_ret (pe_callTy call_tuple_of rfl B.tuple bt_tuple (pa_cons (pv 1) pa_nil))))))),?_⟩
 refine ⟨(by show 0≤sizeLine; decide),fun ps hps=>⟨_,rfl,(by show 1≤sizeLine; decide),fun pw hpw=>?_⟩⟩
 have hs1:(upd (upd H ps (.lst [])) pw (.lst [v])) ps=some (.lst []):=by rw [upd_ne (ne_of_none upd_same hpw),upd_same]
 have npw:H pw=none:=(Same.new hps).free hpw
 have nsw:ps≠pw:=ne_of_none upd_same hpw
 have S0:Same H (upd (upd H ps (.lst [])) pw (.lst [v])):=(Same.new hps).trans (Same.new hpw)
 refine ⟨fun m σ H'=>∃ (vr:List V) (wr:List (Option D)) (st:List Int) (o1 o2 o3 o4:Option V),σ=[some v,some (.ref ps),some (.ref pw),o1,o2,o3,o4]∧Same H H'∧H' ps=some (.lst (st.map V.int))∧H' pw=some (.lst vr.reverse)∧Paired (DatO H') vr wr∧st++wr.flatMap kO=kD d∧sOs wr≤400∧m=sOs wr,
  ⟨_,[v],[some d],[],none,none,none,none,rfl,S0,hs1,upd_same,.cons (.som hF (Dat.kt (KT.same S0) _ hd)) .nil,by rw [List.flatMap_cons,List.flatMap_nil,List.append_nil]; rfl,by unfold sOs; simpa [sO] using hz,rfl⟩,?_⟩
 rintro m σ H' ⟨vr,wr,st,o1,o2,o3,o4,rfl,sH,h1,h2,pr,eq,hsz,em⟩
 have lv:=pr.length
 have lw:=sOs_len wr
 have lst:st.length≤800:=by
  have:=congrArg List.length eq
  rw [List.length_append] at this
  lia
 have big:∀ k:Nat,k≤1000→k < sizeLine:=fun k=>small1000
 refine ⟨_,rfl,_,.inl ⟨_,SqL.of h2,rfl⟩,?_⟩
 cases pr with
 | nil =>
  refine iteF ?_
  have e:st=kD d:=by simpa using eq
  rw [e] at h1
  exact ⟨_,rfl,ps,_,rfl,.inl ⟨SqL.of h1,fun l hl=>q l _ (sH.trans (Same.new hl)) upd_same⟩⟩
 | @cons y z vr' wr' hy pr' =>
  have e2:(y :: vr').reverse=vr'.reverse++[y]:=List.reverse_cons
  have sn:=sOs_cons z wr'
  have zp:=sO_pos z
  rw [e2] at h2
  refine (show (if _ then _ else _:Prop) from ?_)
  have ne:(!((y :: vr').reverse).isEmpty)=true:=by rw [e2]; simp
  rw [if_pos ne]
  refine ⟨fun σ' H'=>∃ m',m' < m∧∃ (vr:List V) (wr:List (Option D)) (st:List Int) (o1 o2 o3 o4:Option V),σ'=[some v,some (.ref ps),some (.ref pw),o1,o2,o3,o4]∧Same H H'∧H' ps=some (.lst (st.map V.int))∧H' pw=some (.lst vr.reverse)∧Paired (DatO H') vr wr∧st++wr.flatMap kO=kD d∧sOs wr≤400∧m'=sOs wr,fun σ' H' h=>h,?_⟩
  refine ⟨_,rfl,.inl ⟨rfl,_,SqL.of h2⟩,pw,_,y,rfl,rfl,h2,(by simp),?_⟩
  rw [List.dropLast_concat]
  have h1a:(upd H' pw (.lst vr'.reverse)) ps=some (.lst (st.map V.int)):=by rw [upd_ne nsw]; exact h1
  have h2a:(upd H' pw (.lst vr'.reverse)) pw=some (.lst vr'.reverse):=upd_same
  have sW:∀ (o:HO) (H'':Hp),Same H H''→Same H (upd H'' pw o):=fun o H'' s b u e=>by rw [upd_ne (ne_of_none e npw)]; exact s b u e
  have sP:∀ (o:HO) (H'':Hp),Same H H''→Same H (upd H'' ps o):=fun o H'' s b u e=>by rw [upd_ne (ne_of_none e hps)]; exact s b u e
  have sHa:=sW (.lst vr'.reverse) _ sH
  have ka:KT H' (upd H' pw (.lst vr'.reverse)):=KT.upd h2
  have pra:=L2.Paired.mapP pr' fun _ _ h=>h.kt ka
  have hya:=hy.kt ka
  have eqz:st++(kO z++wr'.flatMap kO)=kD d:=by rw [← List.flatMap_cons]; exact eq
  have push:∀ (u:List Int) (a b c d':Option V) (m1:Hp),kO z=u→Same H m1→m1 ps=some (.lst (st.map V.int++u.map V.int))→m1 pw=some (.lst vr'.reverse)→KT (upd H' pw (.lst vr'.reverse)) m1→∃ m',m' < m∧∃ (vr:List V) (wr:List (Option D)) (st:List Int) (o1 o2 o3 o4:Option V),[some v,some (.ref ps),some (.ref pw),a,b,c,d']=[some v,some (.ref ps),some (.ref pw),o1,o2,o3,o4]∧Same H m1∧m1 ps=some (.lst (st.map V.int))∧m1 pw=some (.lst vr.reverse)∧Paired (DatO m1) vr wr∧st++wr.flatMap kO=kD d∧sOs wr≤400∧m'=sOs wr:=fun u a b c d' m1 hu g1 g2 g3 g4 =>
   ⟨sOs wr',by lia,vr',wr',st++u,a,b,c,d',rfl,g1,by rw [g2,List.map_append],g3,L2.Paired.mapP pra fun _ _ h=>h.kt g4,by rw [List.append_assoc,← hu]; exact eqz,by lia,rfl⟩
  have lsm:(st.map V.int).length≤800:=by rw [List.length_map]; exact lst
  cases hya with
  | non =>
   refine ⟨_,rfl,rfl,_,rfl,iteT ?_⟩
   refine ⟨_,rfl,.inl ⟨rfl,_,SqL.of h1a⟩,ps,_,_,rfl,rfl,h1a,big _ (by lia),?_⟩
   exact push [0] _ _ _ _ _ rfl (sP _ _ sHa) upd_same (by rw [upd_ne nsw.symm]; exact h2a) (KT.upd h1a)
  | @som z' _ hz1 hdz =>
   cases hz1 with
   | @num i g0 g1 =>
    have:=hdz.intE
    subst this
    refine ⟨_,rfl,rfl,_,rfl,iteF ?_⟩
    refine ⟨_,rfl,_,_,TyOf.int _,kit_int_tuple _,_,rfl,iteF ?_⟩
    refine ⟨_,rfl,.inl ⟨rfl,_,SqL.of h1a⟩,ps,_,_,rfl,rfl,h1a,big _ (by lia),?_⟩
    refine ⟨_,rfl,.inl ⟨rfl,_,SqL.of upd_same⟩,_,rfl,ps,_,_,rfl,rfl,upd_same,big _ (by rw [List.length_append]; show _ + 1≤_; lia),?_⟩
    exact push [1,i] _ _ _ _ _ (kD_int i) (sP _ _ (sP _ _ sHa)) (by rw [upd_same,List.append_assoc]; rfl) (by rw [upd_ne nsw.symm,upd_ne nsw.symm]; exact h2a) ((KT.upd h1a).trans (KT.upd upd_same))
   | @grp k m0 more off hk g0 g1 g2 =>
    obtain ⟨p,pm,po,x0,xm,xo,rfl,hp,hpm,hpo,d0,d1,d2⟩:=dat_grp hdz
    have sg:=sz_grp k m0 more off
    obtain ⟨t1,e1⟩:=hR k hk
    have szz:sO (some (D.tup [.str k,.tup (m0 :: more),.tup off]))=sz (.tup [.str k,.tup (m0 :: more),.tup off]):=rfl
    have c1:=szs_len (m0 :: more)
    have c2:=szs_len off
    have lm:=d1.len
    have lo:=d2.len
    rw [List.length_cons] at c1
    have lv':=pra.length
    have lw':=sOs_len wr'
    refine ⟨_,rfl,rfl,_,rfl,iteF ?_⟩
    refine ⟨_,rfl,_,_,TyOf.tup hp,kit_tup_tup _,_,rfl,iteT ?_⟩
    refine ⟨_,rfl,p,_,rfl,SqT.of hp,rfl,_,_,rfl,_,_,rfl,_,_,rfl,rfl,?_⟩
    refine ⟨_,rfl,.inl ⟨rfl,_,SqL.of h1a⟩,?_⟩
    refine ⟨_,rfl,dR,k,.int (rkK k),_,rfl,rfl,TR,e1,⟨t1,rfl⟩,?_⟩
    refine ⟨ps,_,_,rfl,rfl,h1a,big _ (by lia),?_⟩
    have h2b:(upd (upd H' pw (.lst vr'.reverse)) ps (.lst (st.map V.int++[.int (rkK k)]))) pw=some (.lst vr'.reverse):=by rw [upd_ne nsw.symm]; exact h2a
    refine ⟨_,rfl,.inl ⟨rfl,_,SqL.of h2b⟩,pw,_,_,rfl,rfl,h2b,big _ (by rw [List.length_reverse]; lia),?_⟩
    have k0:KT (upd H' pw (.lst vr'.reverse)) (upd (upd H' pw (.lst vr'.reverse)) ps (.lst (st.map V.int++[.int (rkK k)]))):=KT.upd h1a
    have k1:=k0.trans (KT.upd (o:=.lst (vr'.reverse++[.non])) h2b)
    have s1:=sW (.lst (vr'.reverse++[.non])) _ (sP (.lst (st.map V.int++[.int (rkK k)])) _ sHa)
    have f1:(upd (upd (upd H' pw (.lst vr'.reverse)) ps (.lst (st.map V.int++[.int (rkK k)]))) pw (.lst (vr'.reverse++[.non]))) ps=some (.lst (st.map V.int++[.int (rkK k)])):=by rw [upd_ne nsw,upd_same]
    have f2:(upd (upd (upd H' pw (.lst vr'.reverse)) ps (.lst (st.map V.int++[.int (rkK k)]))) pw (.lst (vr'.reverse++[.non]))) pw=some (.lst (vr'.reverse++[.non])):=upd_same
    generalize upd (upd (upd H' pw (.lst vr'.reverse)) ps (.lst (st.map V.int++[.int (rkK k)]))) pw (.lst (vr'.reverse++[.non]))=G1 at k1 s1 f1 f2 ⊢
    refine ⟨_,rfl,.inl ⟨rfl,_,SqL.of f2⟩,_,rfl,po,_,rfl,SqT.of (k1 _ _ hpo),fun pp hpp=>?_⟩
    have f3:=Same.new (o:=.tup xo.reverse) hpp _ _ f2
    refine ⟨pw,pp,_,_,rfl,rfl,f3,upd_same,by rw [List.length_append,List.length_reverse,List.length_reverse]; show _ + 1 + _≤_; lia,?_⟩
    have k2:=(k1.trans (KT.new (o:=.tup xo.reverse) hpp)).trans (KT.upd (o:=.lst (vr'.reverse++[.non]++xo.reverse)) f3)
    have s2:=sW (.lst (vr'.reverse++[.non]++xo.reverse)) _ (s1.trans (Same.new (o:=.tup xo.reverse) hpp))
    have f4:(upd (upd G1 pp (.tup xo.reverse)) pw (.lst (vr'.reverse++[.non]++xo.reverse))) ps=some (.lst (st.map V.int++[.int (rkK k)])):=by rw [upd_ne nsw]; exact Same.new hpp _ _ f1
    have f5:(upd (upd G1 pp (.tup xo.reverse)) pw (.lst (vr'.reverse++[.non]++xo.reverse))) pw=some (.lst (vr'.reverse++[.non]++xo.reverse)):=upd_same
    generalize upd (upd G1 pp (.tup xo.reverse)) pw (.lst (vr'.reverse++[.non]++xo.reverse))=G3 at k2 s2 f4 f5 ⊢
    refine ⟨_,rfl,.inl ⟨rfl,_,SqL.of f5⟩,pw,_,_,rfl,rfl,f5,big _ (by rw [List.length_append,List.length_append,List.length_reverse,List.length_reverse]; show _ + 1 + _≤_; lia),?_⟩
    have k4:=k2.trans (KT.upd (o:=.lst (vr'.reverse++[.non]++xo.reverse++[.non])) f5)
    have s4:=sW (.lst (vr'.reverse++[.non]++xo.reverse++[.non])) _ s2
    have f6:(upd G3 pw (.lst (vr'.reverse++[.non]++xo.reverse++[.non]))) ps=some (.lst (st.map V.int++[.int (rkK k)])):=by rw [upd_ne nsw]; exact f4
    have f7:(upd G3 pw (.lst (vr'.reverse++[.non]++xo.reverse++[.non]))) pw=some (.lst (vr'.reverse++[.non]++xo.reverse++[.non])):=upd_same
    generalize upd G3 pw (.lst (vr'.reverse++[.non]++xo.reverse++[.non]))=G4 at k4 s4 f6 f7 ⊢
    refine ⟨_,rfl,.inl ⟨rfl,_,SqL.of f7⟩,_,rfl,pm,_,rfl,SqT.of (k4 _ _ hpm),fun pq hpq=>?_⟩
    have f8:=Same.new (o:=.tup (x0 :: xm).reverse) hpq _ _ f7
    refine ⟨pw,pq,_,_,rfl,rfl,f8,upd_same,by rw [List.length_append,List.length_append,List.length_append,List.length_reverse,List.length_reverse,List.length_reverse]; show _ + 1 + _ + 1 + (xm.length + 1)≤_; lia,?_⟩
    have k6:=(k4.trans (KT.new (o:=.tup (x0 :: xm).reverse) hpq)).trans (KT.upd (o:=.lst (vr'.reverse++[.non]++xo.reverse++[.non]++(x0 :: xm).reverse)) f8)
    have a1:=sOs_some (m0 :: more)
    have a2:=sOs_some off
    have cnt:sOs ((m0 :: more).map some++(none :: (off.map some++(none :: wr'))))≤szs (m0 :: more) + szs off + 2 + sOs wr':=by
     rw [sOs_app,sOs_cons,sOs_app,sOs_cons]
     show _ + (1 + (_ + (1 + _)))≤_
     lia
    refine ⟨sOs ((m0 :: more).map some++(none :: (off.map some++(none :: wr')))),by lia,(x0 :: xm)++(.non :: (xo++(.non :: vr'))),(m0 :: more).map some++(none :: (off.map some++(none :: wr'))),st++[rkK k],_,_,_,_,rfl,sW _ _ (s4.trans (Same.new hpq)),?_,?_,?_,?_,by lia,rfl⟩
    ·rw [upd_ne nsw,Same.new hpq _ _ f6,List.map_append]; rfl
    ·rw [upd_same]; simp
    ·have w1:=datO_some (l:=m0 :: more) (fun x hx=>by rcases List.mem_cons.mp hx with rfl | hx; exact g0; exact g1 x hx) (.consI (Dat.kt k6 _ d0) (Dats.kt k6 _ d1))
     have w2:=datO_some g2 (Dats.kt k6 _ d2)
     exact pr_app w1 (.cons .non (pr_app w2 (.cons .non (L2.Paired.mapP pra fun _ _ h=>h.kt k6))))
    ·rw [List.flatMap_append,List.flatMap_cons,List.flatMap_append,List.flatMap_cons,kO_some,kO_some,← eqz]
     show _=st++(kD _++_)
     rw [kD_grp]
     simp [kO]
noncomputable def spIn:Sp:=fun vs H Q _=>∃ (l:Addr) (xs:List V) (ds:List D),vs=[.ref l]∧H l=some (.tup xs)∧Dats H ds xs∧(∀ x∈ds,IsForm x)∧szs ds≤120∧∀ (t:Addr) (H':Hp),Same H H'→Dat H' (.tup (srtD ds)) (.ref t)→Q (.ref t) H'
noncomputable abbrev s_in_order:Stmt:=top 26
theorem sc_in_order:FnScope ["parts"] ["parts"] (defScope s_in_order):=⟨rfl,rfl,rfl,by decide +kernel,rfl,by decide +kernel,by decide +kernel⟩
theorem ok_in {f:Addr} {fd:FuncData} (F:Fun K "in_order" "in_order" s_in_order f fd) (B:Blt mg) (hms:mg "sorted"=none) (Gorder:Def P w K mg base CX0 1 "order_of" spOrder):FnOk P w K mg base CX0 4 f fd ["parts"] spIn:=by
 refine F.ok (k:=3) sc_in_order (fun vs H Q E h=>?_) (fun cdv A outer s H vs Q E hr h=>?_)
 ·obtain ⟨l,xs,ds,rfl,_⟩:=h
  rfl
 obtain ⟨l,xs,ds,rfl,hl,hd,hf,hz,q⟩:=h
 have c:=szs_len ds
 have ln:=hd.len
 refine ⟨_,(pss_one (ps_ret (pe_callTy call_tuple_of rfl B.tuple bt_tuple (pa_cons (pe_sortD (E:=E) Gorder (hr.mono (by lia)) hms (pv 0)) pa_nil)))),?_⟩
 refine ⟨_,rfl,l,xs,keyH H,rfl,SqT.of hl,by lia,fun x hx=>?_,fun H' x s' hx Q' q'=>?_,fun p ys H' s' hp pp po=>?_⟩
 ·obtain ⟨d,hd1,hd2⟩:=dats_mem hd hx
  rw [keyH_eq (hf d hd1) hd2]
  obtain ⟨a,r,e,_⟩:=kD_head (hf d hd1)
  rw [e]
  exact fun h=>nomatch h
 ·obtain ⟨d,hd1,hd2⟩:=dats_mem hd hx
  have m:=mem_sz hd1
  refine ⟨x,d,rfl,Dat.kt (KT.same s') _ hd2,hf d hd1,by lia,fun t H'' s2 ht=>q' t H'' s2 ?_⟩
  rw [keyH_eq (hf d hd1) hd2]
  exact ht
 ·refine ⟨p,_,rfl,.inl ⟨SqL.of hp,fun t ht=>?_⟩⟩
  have s3:=s'.trans (Same.new (o:=.tup ys) ht)
  exact q t _ s3 (.tupI upd_same (sorted_dats s3 hf hd pp po))
noncomputable def spIsOf:Sp:=fun vs H Q _=>∃ (k:Str) (v:V) (d:D),vs=[.str k,v]∧Dat H d v∧IsForm d∧Q (.bl (match d with | .tup (.str k' :: _)=>decide (k'=k) | _=>false)) H
noncomputable abbrev s_is_of:Stmt:=top 25
theorem sc_is_of:FnScope ["kind","form"] ["kind","form"] (defScope s_is_of):=⟨rfl,rfl,rfl,by decide +kernel,rfl,by decide +kernel,by decide +kernel⟩
theorem ok_is {f:Addr} {fd:FuncData} (F:Fun K "is_of" "is_of" s_is_of f fd) (B:Blt mg):FnOk P w K mg base CX0 1 f fd ["kind","form"] spIsOf:=by
 refine F.ok sc_is_of (fun vs H Q E h=>?_) (fun cdv A outer s H vs Q E hr h=>?_)
 ·obtain ⟨k,v,d,rfl,_⟩:=h
  rfl
 obtain ⟨k,v,d,rfl,hd,hF,q⟩:=h
 refine ⟨_,(pss_one (ps_ret (pe_and (pe_isin B.isinstance B.tuple bt_tuple (pv 1)) (pe_one (pe_cmpR op_eq (pe_ix ix_tup (pv 1) pe_int (fun _ _=>rfl)) (pv 0) (nomark _)))))),?_⟩
 cases hF with
 | num g0 g1 =>
  have:=hd.intE
  subst this
  exact ⟨_,rfl,_,_,TyOf.int _,kit_int_tuple _,_,rfl,iteF q⟩
 | @grp k' m0 more off hk g0 g1 g2 =>
  obtain ⟨p,pm,po,x0,xm,xo,rfl,hp,hpm,hpo,d0,d1,d2⟩:=dat_grp hd
  refine ⟨_,rfl,_,_,TyOf.tup hp,kit_tup_tup _,_,rfl,iteT ?_⟩
  exact ⟨_,rfl,p,_,0,_,rfl,rfl,SqT.of hp,atI_nat (j:=0) rfl,_,rfl,rfl,by rw [show decide (V.str k'=V.str k)=decide (k'=k) from decide_eq_decide.mpr ⟨fun e=>V.str.inj e,fun e=>congrArg V.str e⟩]; exact q⟩
noncomputable def spParts:Sp:=fun vs H Q _=>∃ (k:Str) (v:V) (d:D),vs=[.str k,v]∧Dat H d v∧IsForm d∧∀ (t a b:Addr) (xs ys:List V) (H':Hp),Same H H'→H' t=some (.tup [.ref a,.ref b])→H' a=some (.tup xs)→H' b=some (.tup ys)→Dats H' (pf k d).1 xs→Dats H' (pf k d).2 ys→Q (.ref t) H'
noncomputable abbrev s_parts_for:Stmt:=top 24
theorem sc_parts_for:FnScope ["kind","form"] ["kind","form"] (defScope s_parts_for):=⟨rfl,rfl,rfl,by decide +kernel,rfl,by decide +kernel,by decide +kernel⟩
theorem ok_parts {f:Addr} {fd:FuncData} (F:Fun K "parts_for" "parts_for" s_parts_for f fd) (B:Blt mg) (Gis:Def P w K mg base CX0 1 "is_of" spIsOf):FnOk P w K mg base CX0 2 f fd ["kind","form"] spParts:=by
 refine F.ok (k:=1) sc_parts_for (fun vs H Q E h=>?_) (fun cdv A outer s H vs Q E hr h=>?_)
 ·obtain ⟨k,v,d,rfl,_⟩:=h
  rfl
 obtain ⟨k,v,d,rfl,hd,hF,q⟩:=h
 refine ⟨_,(pss_cons (ps_if (pt_val (pe_def Gis (hr.mono (by lia)) (pa_cons (pv 0) (pa_cons (pv 1) pa_nil)))) (pss_one (ps_ret (pe_tup (pa_cons (pe_ix ix_tup (pv 1) pe_int (fun _ _=>rfl)) (pa_cons (pe_ix ix_tup (pv 1) pe_int (fun _ _=>rfl)) pa_nil))))) pss_nil)
   (pss_one (ps_ret (pe_tup (pa_cons (pe_tup (pa_cons (pv 1) pa_nil)) (pa_cons (pe_tup pa_nil) pa_nil star_tup) star_tup))))),?_⟩
 refine ⟨_,rfl,_,rfl,k,v,d,rfl,hd,hF,_,rfl,?_⟩
 have single:((pf k d).1=[d]∧(pf k d).2=[])→∀ (p1 p2 p3:Addr),H p1=none→(upd H p1 (.tup [v])) p2=none→(upd (upd H p1 (.tup [v])) p2 (.tup [])) p3=none→Q (.ref p3) (upd (upd (upd H p1 (.tup [v])) p2 (.tup [])) p3 (.tup [.ref p1,.ref p2])):=by
  intro hp p1 p2 p3 h1 h2 h3
  have s1:Same H (upd (upd (upd H p1 (.tup [v])) p2 (.tup [])) p3 (.tup [.ref p1,.ref p2])):=((Same.new h1).trans (Same.new h2)).trans (Same.new h3)
  refine q p3 p1 p2 [v] [] _ s1 upd_same ((Same.new h2).trans (Same.new h3) _ _ upd_same) (Same.new h3 _ _ upd_same) ?_ ?_
  ·rw [hp.1]; exact .consI (Dat.kt (KT.same s1) _ hd) (.nilI _)
  ·rw [hp.2]; exact .nilI _
 have fin:((pf k d).1=[d]∧(pf k d).2=[])→∀ (p1:Addr),H p1=none→([]:List V).length≤sizeLine∧∀ p2,(upd H p1 (.tup [v])) p2=none→[V.ref p1,V.ref p2].length≤sizeLine∧∀ p3,(upd (upd H p1 (.tup [v])) p2 (.tup [])) p3=none→Q (.ref p3) (upd (upd (upd H p1 (.tup [v])) p2 (.tup [])) p3 (.tup [.ref p1,.ref p2])):=fun hp p1 h1=>⟨by show 0≤sizeLine; decide,fun p2 h2=>⟨by show 2≤sizeLine; decide,fun p3 h3=>single hp p1 p2 p3 h1 h2 h3⟩⟩
 cases hF with
 | num g0 g1 =>
  refine iteF ?_
  exact ⟨_,rfl,(by show 1≤sizeLine; decide),fin ⟨rfl,rfl⟩⟩
 | @grp k' m0 more off hk g0 g1 g2 =>
  by_cases e:k'=k
  ·subst e
   obtain ⟨p,pm,po,x0,xm,xo,rfl,hp,hpm,hpo,d0,d1,d2⟩:=dat_grp hd
   refine (show (if decide (k'=k')=true then _ else _:Prop) from ?_)
   rw [if_pos (decide_eq_true rfl)]
   refine ⟨_,rfl,p,_,1,_,rfl,rfl,SqT.of hp,atI_nat (j:=1) rfl,_,rfl,p,_,2,_,rfl,rfl,SqT.of hp,atI_nat (j:=2) rfl,(by show 2≤sizeLine; decide),fun t ht=>?_⟩
   have s1:Same H (upd H t (.tup [.ref pm,.ref po])):=Same.new ht
   have ep:pf k' (.tup [.str k',.tup (m0 :: more),.tup off])=(m0 :: more,off):=by rw [pf_grp,if_pos rfl]
   refine q t pm po _ _ _ s1 upd_same (s1 _ _ hpm) (s1 _ _ hpo) ?_ ?_
   ·rw [ep]; exact .consI (Dat.kt (KT.same s1) _ d0) (Dats.kt (KT.same s1) _ d1)
   ·rw [ep]; exact Dats.kt (KT.same s1) _ d2
  ·have ep:pf k (.tup [.str k',.tup (m0 :: more),.tup off])=([.tup [.str k',.tup (m0 :: more),.tup off]],[]):=by rw [pf_grp,if_neg e]
   refine (show (if decide (k'=k)=true then _ else _:Prop) from ?_)
   rw [if_neg (by rw [decide_eq_false e]; decide)]
   exact ⟨_,rfl,(by show 1≤sizeLine; decide),fin (by rw [ep]; exact ⟨rfl,rfl⟩)⟩
noncomputable def spJoin:Sp:=fun vs H Q _=>∃ (wd:Str) (u v:V) (a b:Way),vs=[.str wd,u,v]∧(Way.op wd a b).ok 1000000000000000000000000000000000000000000000000∧(Way.op wd a b).size≤12∧Dat H (fP a) u∧Dat H (fP b) v∧∀ (t:V) (H':Hp),Same H H'→Dat H' (fP (.op wd a b)) t→Q t H'
noncomputable def TurnT (K:PySem.W.Frag) (a:Addr):Prop:=∀ H:Hp,SqT K H a [.str "less",.str "share"]
theorem eqV_str (a b:Str):eqV (.str a) (.str b)=decide (a=b):=by
 unfold eqV
 first | rfl | (by_cases h:a=b <;> simp [h])
theorem trn_in (wd:Str):inV (.str wd) [.str "less",.str "share"]=trn wd:=by
 unfold inV trn
 rw [List.any_cons,List.any_cons,List.any_nil,Bool.or_false]
 rw [eqV_str,eqV_str]
 by_cases h1:wd="less"
 ·subst h1; decide
 ·by_cases h2:wd="share"
  ·subst h2; decide
  ·rw [decide_eq_false (show ¬ ("less":Str)=wd from fun e=>h1 e.symm),decide_eq_false (show ¬ ("share":Str)=wd from fun e=>h2 e.symm),decide_eq_false (by rintro (h | h); exact h1 h; exact h2 h)]; rfl
noncomputable abbrev s_joined:Stmt:=top 23
theorem sc_joined:FnScope ["word","first","second","kind","more","off","put","taken"] ["word","first","second"] (defScope s_joined):=⟨rfl,rfl,rfl,by decide +kernel,rfl,by decide +kernel,by decide +kernel⟩
theorem ok_join {f dK tT:Addr} {fd:FuncData} (F:Fun K "joined" "joined" s_joined f fd) (B:Blt mg) (mK:mg "KINDS"=some (.ref dK)) (mT:mg "TURNED"=some (.ref tT)) (TK:TopDict w K dK) (TT:TurnT K tT)
  (hK:∀ k:Str,okWord k→∃ t,PySem.W.nsIn K dK k=some (some (.str (knd k) t))) (Gparts:Def P w K mg base CX0 2 "parts_for" spParts) (Gin:Def P w K mg base CX0 4 "in_order" spIn):FnOk P w K mg base CX0 5 f fd ["word","first","second"] spJoin:=by
 refine F.ok (k:=4) sc_joined (fun vs H Q E h=>?_) (fun cdv A outer s H vs Q E hr h=>?_)
 ·obtain ⟨wd,u,v,a,b,rfl,_⟩:=h
  rfl
 obtain ⟨wd,u,v,a,b,rfl,hok,hs,du,dv,q⟩:=h
 obtain ⟨ow,oa,ob⟩:=id hok
 obtain ⟨t1,e1⟩:=hK wd ow
 have za:=fP_sz oa
 have zb:=fP_sz ob
 have pa:=pf_sz (k:=knd wd) (fP_form oa)
 have pb:=pf_sz (k:=knd wd) (fP_form ob)
 have sw:=swp_sz (trn wd) (pf (knd wd) (fP b))
 have hs':a.size + b.size≤12:=hs
 obtain ⟨_,fa1,fa2⟩:=pf_form (k:=knd wd) (fP_form oa)
 obtain ⟨fb1,fb2⟩:=swp_forms (b:=trn wd) (k:=knd wd) (fP_form ob)
 refine ⟨_,(pss_cons (ps_set (i:=3) sc_joined.nd rfl (by first | exact Or.inl rfl | exact Or.inr rfl) (pe_ix ix_top (pe_glob (v:=.ref dK) rfl mK rfl) (pv 0) (fun _ _=>rfl)))
   (pss_cons (ps_asg (pe_def Gparts (hr.mono (by lia)) (pa_cons (pv 3) (pa_cons (pv 1) pa_nil))) (pg_tup rfl (pgs_cons (pg_name (i:=4) sc_joined.nd rfl (by first | exact Or.inl rfl | exact Or.inr rfl)) (pgs_cons (pg_name (i:=5) sc_joined.nd rfl (by first | exact Or.inl rfl | exact Or.inr rfl)) pgs_nil))))
   (pss_cons (ps_asg (pe_def Gparts (hr.mono (by lia)) (pa_cons (pv 3) (pa_cons (pv 2) pa_nil))) (pg_tup rfl (pgs_cons (pg_name (i:=6) sc_joined.nd rfl (by first | exact Or.inl rfl | exact Or.inr rfl)) (pgs_cons (pg_name (i:=7) sc_joined.nd rfl (by first | exact Or.inl rfl | exact Or.inr rfl)) pgs_nil))))
   (pss_cons (ps_if (pt_cmpR op_in_seq (pv 0) (pe_glob (v:=.ref tT) rfl mT rfl) rfl) (pss_one (ps_par (i:=6) (j:=7) rfl sc_joined.nd rfl rfl (by decide) rfl rfl (pa_cons (pv 7) (pa_cons (pv 6) pa_nil)) rfl)) pss_nil)
   (pss_one (ps_ret (pe_tup (pa_cons (pv 3) (pa_cons (pe_def Gin (hr.mono (by lia)) (pa_cons (pe_op op_catG (pv 4) (pv 6)) pa_nil)) (pa_cons (pe_def Gin (hr.mono (by lia)) (pa_cons (pe_op op_catG (pv 5) (pv 7)) pa_nil)) pa_nil)))))))))),?_⟩
 refine ⟨_,rfl,dK,wd,.str (knd wd),_,rfl,rfl,TK,e1,⟨t1,rfl⟩,?_⟩
 refine ⟨_,rfl,_,rfl,knd wd,u,fP a,rfl,du,fP_form oa,fun t a1 a2 xs ys H1 s1 ht h1 h2 dx dy=>?_⟩
 refine ⟨t,_,rfl,SqT.of ht,rfl,_,_,rfl,_,_,rfl,rfl,?_⟩
 refine ⟨_,rfl,_,rfl,knd wd,v,fP b,rfl,Dat.kt (KT.same s1) _ dv,fP_form ob,fun t2 b1 b2 zs ws H2 s2 ht2 h3 h4 dz dw=>?_⟩
 refine ⟨t2,_,rfl,SqT.of ht2,rfl,_,_,rfl,_,_,rfl,rfl,?_⟩
 refine ⟨_,rfl,tT,_,rfl,.inr (TT _),rfl,rfl,_,rfl,?_⟩
 refine (show (if inV (.str wd) [.str "less",.str "share"]=true then _ else _:Prop) from ?_)
 rw [trn_in]
 have k2:=KT.same s2
 have g1:=s2 _ _ h1
 have g2:=s2 _ _ h2
 have ex:=Dats.kt k2 _ dx
 have ey:=Dats.kt k2 _ dy
 have s12:=s1.trans s2
 cases ht0:trn wd with
 | false =>
  refine iteF ?_
  rw [ht0] at fb1 fb2 sw
  have ef:fP (.op wd a b)=.tup [.str (knd wd),.tup (srtD ((pf (knd wd) (fP a)).1++(swp false (pf (knd wd) (fP b))).1)),.tup (srtD ((pf (knd wd) (fP a)).2++(swp false (pf (knd wd) (fP b))).2))]:=by rw [fP,ht0]
  rw [ef] at q
  have d1:Dats H2 ((pf (knd wd) (fP a)).1++(swp false (pf (knd wd) (fP b))).1) _:=Dats.app ex dz
  have d2:Dats H2 ((pf (knd wd) (fP a)).2++(swp false (pf (knd wd) (fP b))).2) _:=Dats.app ey dw
  have z1:=szs_len ((pf (knd wd) (fP a)).1++(swp false (pf (knd wd) (fP b))).1)
  have z2:=szs_len ((pf (knd wd) (fP a)).2++(swp false (pf (knd wd) (fP b))).2)
  have l1:=d1.len
  have l2:=d2.len
  have c1:=szs_app (pf (knd wd) (fP a)).1 (swp false (pf (knd wd) (fP b))).1
  have c2:=szs_app (pf (knd wd) (fP a)).2 (swp false (pf (knd wd) (fP b))).2
  refine ⟨_,rfl,_,rfl,_,rfl,a1,b1,_,_,rfl,rfl,g1,h3,by rw [← List.length_append]; lia,fun p H3 s3 hp=>?_⟩
  refine ⟨p,_,_,rfl,hp,Dats.kt (KT.same s3) _ d1,fun x hx=>?_,by lia,fun m H4 s4 dm=>?_⟩
  ·rcases List.mem_append.mp hx with h | h
   ·exact fa1 x h
   ·exact fb1 x h
  have s34:=s3.trans s4
  refine ⟨_,rfl,_,rfl,a2,b2,_,_,rfl,rfl,s34 _ _ g2,s34 _ _ h4,by rw [← List.length_append]; lia,fun p2 H5 s5 hp2=>?_⟩
  refine ⟨p2,_,_,rfl,hp2,Dats.kt (KT.same (s34.trans s5)) _ d2,fun x hx=>?_,by lia,fun o H6 s6 do_=>?_⟩
  ·rcases List.mem_append.mp hx with h | h
   ·exact fa2 x h
   ·exact fb2 x h
  refine ⟨(by show 3≤sizeLine; decide),fun r hr0=>?_⟩
  have sr:Same H6 (upd H6 r (.tup [.str (knd wd),.ref m,.ref o])):=Same.new hr0
  exact q (.ref r) _ ((s12.trans s34).trans ((s5.trans s6).trans sr)) (.tupI upd_same (.consI (.strI _) (.consI (Dat.kt (KT.same ((s5.trans s6).trans sr)) _ dm) (.consI (Dat.kt (KT.same sr) _ do_) (.nilI _)))))
 | true =>
  refine iteT ?_
  rw [ht0] at fb1 fb2 sw
  have ef:fP (.op wd a b)=.tup [.str (knd wd),.tup (srtD ((pf (knd wd) (fP a)).1++(swp true (pf (knd wd) (fP b))).1)),.tup (srtD ((pf (knd wd) (fP a)).2++(swp true (pf (knd wd) (fP b))).2))]:=by rw [fP,ht0]
  rw [ef] at q
  refine ⟨_,rfl,_,rfl,_,_,rfl,?_⟩
  have d1:Dats H2 ((pf (knd wd) (fP a)).1++(swp true (pf (knd wd) (fP b))).1) _:=Dats.app ex dw
  have d2:Dats H2 ((pf (knd wd) (fP a)).2++(swp true (pf (knd wd) (fP b))).2) _:=Dats.app ey dz
  have z1:=szs_len ((pf (knd wd) (fP a)).1++(swp true (pf (knd wd) (fP b))).1)
  have z2:=szs_len ((pf (knd wd) (fP a)).2++(swp true (pf (knd wd) (fP b))).2)
  have l1:=d1.len
  have l2:=d2.len
  have c1:=szs_app (pf (knd wd) (fP a)).1 (swp true (pf (knd wd) (fP b))).1
  have c2:=szs_app (pf (knd wd) (fP a)).2 (swp true (pf (knd wd) (fP b))).2
  refine ⟨_,rfl,_,rfl,_,rfl,a1,b2,_,_,rfl,rfl,g1,h4,by rw [← List.length_append]; lia,fun p H3 s3 hp=>?_⟩
  refine ⟨p,_,_,rfl,hp,Dats.kt (KT.same s3) _ d1,fun x hx=>?_,by lia,fun m H4 s4 dm=>?_⟩
  ·rcases List.mem_append.mp hx with h | h
   ·exact fa1 x h
   ·exact fb1 x h
  have s34:=s3.trans s4
  refine ⟨_,rfl,_,rfl,a2,b1,_,_,rfl,rfl,s34 _ _ g2,s34 _ _ h3,by rw [← List.length_append]; lia,fun p2 H5 s5 hp2=>?_⟩
  refine ⟨p2,_,_,rfl,hp2,Dats.kt (KT.same (s34.trans s5)) _ d2,fun x hx=>?_,by lia,fun o H6 s6 do_=>?_⟩
  ·rcases List.mem_append.mp hx with h | h
   ·exact fa2 x h
   ·exact fb2 x h
  refine ⟨(by show 3≤sizeLine; decide),fun r hr0=>?_⟩
  have sr:Same H6 (upd H6 r (.tup [.str (knd wd),.ref m,.ref o])):=Same.new hr0
  exact q (.ref r) _ ((s12.trans s34).trans ((s5.trans s6).trans sr)) (.tupI upd_same (.consI (.strI _) (.consI (Dat.kt (KT.same ((s5.trans s6).trans sr)) _ dm) (.consI (Dat.kt (KT.same sr) _ do_) (.nilI _)))))
noncomputable def wayRun:List V→List Way→Option (List Way)
 | [],st=>some st
 | .int n :: r,st=>wayRun r (.num n :: st)
 | .str w :: r,b :: a :: st=>wayRun r (.op w a b :: st)
 | _,_=>none
theorem wr_int (n:Int) (r:List V) (st:List Way):wayRun (.int n :: r) st=wayRun r (.num n :: st):=by rw [wayRun]
theorem wr_str (w:Str) (r:List V) (a b:Way) (st:List Way):wayRun (.str w :: r) (b :: a :: st)=wayRun r (.op w a b :: st):=by rw [wayRun]
theorem wr_some {y:V} {r:List V} {st out:List Way} (h:wayRun (y :: r) st=some out):(∃ n:Int,y=.int n∧wayRun r (.num n :: st)=some out)∨∃ (w:Str) (a b:Way) (t:List Way),y=.str w∧st=b :: a :: t∧wayRun r (.op w a b :: t)=some out:=by
 cases y with
 | int n=>rw [wr_int] at h; exact .inl ⟨n,rfl,h⟩
 | str w =>
  match st,h with
  | [],h=>simp [wayRun] at h
  | [_],h=>simp [wayRun] at h
  | b :: a :: t,h=>rw [wr_str] at h; exact .inr ⟨w,a,b,t,rfl,rfl,h⟩
 | _=>simp [wayRun] at h
theorem wr_post:∀ (x:Way) (r:List V) (st:List Way),wayRun (post x++r) st=wayRun r (x :: st):=by
 intro x
 induction x with
 | num n=>intro r st; show wayRun (.int n :: r) st=_; rw [wr_int]
 | op w a b iha ihb =>
  intro r st
  show wayRun ((post a++post b++[.str w])++r) st=_
  rw [List.append_assoc,List.append_assoc,iha,ihb]
  exact wr_str w r a b st
noncomputable def FormIn (H:Hp) (v:V) (x:Way):Prop:=Dat H (fP x) v
theorem FormIn.kt {H H':Hp} {v:V} {x:Way} (k:KT H H') (h:FormIn H v x):FormIn H' v x:=Dat.kt k _ h
theorem wr_down {p:Way→Prop} (hp:∀ w a b,p (.op w a b)→p a∧p b):∀ {l:List V} {st out:List Way},wayRun l st=some out→(∀ z∈out,p z)→∀ y∈st,p y
 | [],st,out,h,ho=>by rw [wayRun] at h; cases h; exact ho
 | y :: r,st,out,h,ho=>by
  rcases wr_some h with ⟨n,rfl,h1⟩ | ⟨w,a,b,t,rfl,rfl,h1⟩
  ·have:=wr_down hp h1 ho
   exact fun y hy=>this y (List.mem_cons_of_mem _ hy)
  ·have:=wr_down hp h1 ho
   obtain ⟨ha,hb⟩:=hp _ _ _ (this _ (List.mem_cons_self ..))
   intro y hy
   rcases List.mem_cons.mp hy with rfl | hy
   ·exact hb
   rcases List.mem_cons.mp hy with rfl | hy
   ·exact ha
   ·exact this y (List.mem_cons_of_mem _ hy)
noncomputable def Small (x:Way):Prop:=x.ok 1000000000000000000000000000000000000000000000000∧x.size≤12
theorem small_down (w:Str) (a b:Way) (h:Small (.op w a b)):Small a∧Small b:=by
 obtain ⟨⟨_,ha,hb⟩,hs⟩:=h
 have hs':a.size + b.size≤12:=hs
 exact ⟨⟨ha,by lia⟩,hb,by lia⟩
noncomputable def spCome (fN fW:Addr):Sp:=fun vs H Q _=>∃ (r:Addr) (x:Way),vs=[.ref r,.ref fN,.ref fW]∧H r=some (.lst (post x))∧Small x∧x.nodes≤900∧∀ (v:V) (H':Hp),Same H H'→FormIn H' v x→Q v H'
noncomputable abbrev s_come_of:Stmt:=top 10
theorem sc_come_of:FnScope ["steps","of_number","of_word","come","step","second","first"] ["steps","of_number","of_word"] (defScope s_come_of):=⟨rfl,rfl,rfl,by decide +kernel,rfl,by decide +kernel,by decide +kernel⟩
theorem ok_come {f fN fW:Addr} {fd:FuncData} (F:Fun K "come_of" "come_of" s_come_of f fd) (B:Blt mg) (CN:Callee P w K mg base CX0 1 fN spId) (CW:Callee P w K mg base CX0 5 fW spJoin):FnOk P w K mg base CX0 6 f fd ["steps","of_number","of_word"] (spCome fN fW):=by
 have FN_ok:∀ g sp,(g=fN∧sp=spId)→Callee P w K mg base CX0 1 g sp:=by
  rintro g sp ⟨rfl,rfl⟩
  exact CN
 have FW_ok:∀ g sp,(g=fW∧sp=spJoin)→Callee P w K mg base CX0 5 g sp:=by
  rintro g sp ⟨rfl,rfl⟩
  exact CW
 refine F.ok (k:=5) sc_come_of (fun vs H Q E h=>?_) (fun cdv A outer s H vs Q E hr h=>?_)
 ·obtain ⟨r,x,rfl,_⟩:=h
  rfl
 obtain ⟨r,x,rfl,hr1,hsm,hn,q⟩:=h
 refine ⟨_,(pss_cons (ps_set (i:=3) sc_come_of.nd rfl (by first | exact Or.inl rfl | exact Or.inr rfl) (pe_lst pa_nil))
   (pss_cons (ps_for PassesOwn.never rfl (pi_list (pv 0)) (pg_name (i:=4) sc_come_of.nd rfl (by first | exact Or.inl rfl | exact Or.inr rfl)) (pss_one (ps_if (pt_val (pe_isin B.isinstance B.str bt_str (pv 4))) (pss_cons (ps_set (i:=5) sc_come_of.nd rfl (by first | exact Or.inl rfl | exact Or.inr rfl) (pe_bm0 PySem.F.plainAttrs_list PySem.F.slot_list_pop PySem.F.type_list_pop mt_pop (pv 3)))
   (pss_cons (ps_set (i:=6) sc_come_of.nd rfl (by first | exact Or.inl rfl | exact Or.inr rfl) (pe_bm0 PySem.F.plainAttrs_list PySem.F.slot_list_pop PySem.F.type_list_pop mt_pop (pv 3)))
   (pss_one (ps_expr (pe_bm PySem.F.plainAttrs_list PySem.F.slot_list_append PySem.F.type_list_append mt_append (pv 3) (pa_cons (pe_callV FW_ok (hr.mono (by lia)) pass0 (pv 2) (pa_cons (pv 4) (pa_cons (pv 6) (pa_cons (pv 5) pa_nil)))) pa_nil)))))) (pss_one (ps_expr (pe_bm PySem.F.plainAttrs_list PySem.F.slot_list_append PySem.F.type_list_append mt_append (pv 3) (pa_cons (pe_callV FN_ok (hr.mono (by lia)) pass0 (pv 1) (pa_cons (pv 4) pa_nil)) pa_nil)))))))
   (pss_one (ps_ret (pe_ix ix_list (pv 3) pe_int (fun _ _=>rfl)))))),?_⟩
 refine ⟨(by show 0≤sizeLine; decide),fun pw hpw=>?_⟩
 have pl:=post_len x
 have nrw:r≠pw:=ne_of_none hr1 hpw
 refine ⟨_,rfl,r,rfl,⟨_,SqL.of (Same.new hpw _ _ hr1)⟩,for_list (K:=K) (a:=r) (xs:=post x) (fun i σ H'=>∃ (vr:List V) (st:List Way) (a b c:Option V),σ=[some (.ref r),some (.ref fN),some (.ref fW),some (.ref pw),a,b,c]∧Same H H'∧H' pw=some (.lst vr.reverse)∧Paired (FormIn H') vr st∧st.length≤i∧wayRun ((post x).drop i) st=some [x])
  ⟨[],[],none,none,none,rfl,Same.new hpw,upd_same,.nil,Nat.le_refl _,by have:=wr_post x [] []; rw [List.append_nil] at this; exact this⟩ (fun i σ H' _ ⟨_,_,_,_,_,_,g,_⟩=>SqL.of (g _ _ hr1)) ?_ ?_⟩
 ·rintro i y σ H' hi ⟨vr,st,a,b,c,rfl,sH,hP,pr,hl,hrn⟩
  have il:i < (post x).length:=(List.getElem?_eq_some_iff.mp hi).1
  have ed:(post x).drop i=y :: (post x).drop (i + 1):=by
   rw [List.drop_eq_getElem_cons il,(List.getElem?_eq_some_iff.mp hi).2]
  rw [ed] at hrn
  have big:∀ k:Nat,k≤1000→k < sizeLine:=fun k=>small1000
  have sU:∀ (o:HO) (H'':Hp),Same H H''→Same H (upd H'' pw o):=fun o H'' s b u e=>by rw [upd_ne (ne_of_none e hpw)]; exact s b u e
  have lv:vr.length=st.length:=pr.length
  rcases wr_some hrn with ⟨n,rfl,hrn1⟩ | ⟨wd,a1,b1,t,rfl,rfl,hrn1⟩
  ·refine ⟨_,rfl,_,_,TyOf.int _,kit_int_str _,_,rfl,iteF ?_⟩
   refine ⟨_,rfl,.inl ⟨rfl,_,SqL.of hP⟩,_,rfl,fN,spId,rfl,⟨rfl,rfl⟩,_,rfl,_,rfl,pw,_,_,rfl,rfl,hP,big _ (by rw [List.length_reverse]; lia),?_⟩
   have k1:KT H' (upd H' pw (.lst (vr.reverse++[.int n]))):=KT.upd hP
   exact ⟨.int n :: vr,.num n :: st,_,_,_,rfl,sU _ _ sH,by rw [upd_same,List.reverse_cons],.cons (Dat.intI n) (L2.Paired.mapP pr fun _ _ h=>h.kt k1),Nat.succ_le_succ hl,hrn1⟩
  ·cases pr with
   | @cons v2 _ vr1 _ h2 pr1 =>
   cases pr1 with
   | @cons v1 _ vr2 _ h1 pr2 =>
   have e2:(v2 :: v1 :: vr2).reverse=(vr2.reverse++[v1])++[v2]:=by simp
   rw [e2] at hP
   refine ⟨_,rfl,_,_,TyOf.str _,kit_str_str _,_,rfl,iteT ?_⟩
   refine ⟨_,rfl,.inl ⟨rfl,_,SqL.of hP⟩,pw,_,v2,rfl,rfl,hP,(by simp),?_⟩
   rw [List.dropLast_concat]
   refine ⟨_,rfl,.inl ⟨rfl,_,SqL.of upd_same⟩,pw,_,v1,rfl,rfl,upd_same,(by simp),?_⟩
   rw [List.dropLast_concat]
   have l2:vr2.length + 2=t.length + 2:=by simpa using lv
   have l3:t.length + 2≤i:=by simpa using hl
   have sm:=wr_down small_down hrn1 (fun z hz=>by rw [List.mem_singleton.mp hz]; exact hsm) _ (List.mem_cons_self ..)
   have k0:KT H' (upd (upd H' pw (.lst (vr2.reverse++[v1]))) pw (.lst vr2.reverse)):=(KT.upd hP).trans (KT.upd upd_same)
   refine ⟨_,rfl,.inl ⟨rfl,_,SqL.of upd_same⟩,_,rfl,fW,spJoin,rfl,⟨rfl,rfl⟩,_,rfl,_,rfl,_,rfl,wd,v1,v2,a1,b1,rfl,sm.1,sm.2,Dat.kt k0 _ h1,Dat.kt k0 _ h2,fun tv H2 s2 dt=>?_⟩
   have hP2:H2 pw=some (.lst vr2.reverse):=s2 _ _ upd_same
   refine ⟨pw,_,_,rfl,rfl,hP2,big _ (by rw [List.length_reverse]; lia),?_⟩
   have k2:KT H2 (upd H2 pw (.lst (vr2.reverse++[tv]))):=KT.upd hP2
   have k1:=(k0.trans (KT.same s2)).trans k2
   exact ⟨tv :: vr2,.op wd a1 b1 :: t,_,_,_,rfl,sU _ _ ((sU _ _ (sU _ _ sH)).trans s2),by rw [upd_same,List.reverse_cons],.cons (Dat.kt k2 _ dt) (L2.Paired.mapP pr2 fun _ _ h=>h.kt k1),by show t.length + 1≤i + 1; lia,hrn1⟩
 ·rintro σ H' ⟨vr,st,a,b,c,rfl,sH,hP,pr,hl,hrn⟩
  rw [List.drop_length,wayRun] at hrn
  cases hrn
  cases pr with
  | @cons v _ vr1 _ h1 pr1 =>
  cases pr1
  exact ⟨_,rfl,pw,_,_,v,rfl,rfl,SqL.of hP,rfl,q v H' sH h1⟩
noncomputable def spFormOf:Sp:=fun vs H Q _=>∃ (v:V) (x:Way),vs=[v]∧WayIn H v x∧Small x∧∀ (u:V) (H':Hp),Same H H'→Dat H' (fP x) u→Q u H'
noncomputable abbrev s_form_of:Stmt:=top 22
theorem sc_form_of:FnScope ["way"] ["way"] (defScope s_form_of):=⟨rfl,rfl,rfl,by decide +kernel,rfl,by decide +kernel,by decide +kernel⟩
theorem ok_form_of {f fN fJ:Addr} {fd:FuncData} (F:Fun K "form_of" "form_of" s_form_of f fd) (B:Blt mg) (mN:mg "number_itself"=some (.ref fN)) (mJ:mg "joined"=some (.ref fJ)) (Gcome:Def P w K mg base CX0 6 "come_of" (spCome fN fJ)) (Gsteps:Def P w K mg base CX0 1 "steps_of" spSteps):FnOk P w K mg base CX0 7 f fd ["way"] spFormOf:=by
 refine F.ok (k:=6) sc_form_of (fun vs H Q E h=>?_) (fun cdv A outer s H vs Q E hr h=>?_)
 ·obtain ⟨v,x,rfl,_⟩:=h
  rfl
 obtain ⟨v,x,rfl,hw,hs,q⟩:=h
 have ns:=x.nodes_eq
 have h2:=hs.2
 refine ⟨_,(pss_one (ps_ret (pe_def Gcome (hr.mono (by lia)) (pa_cons (pe_def Gsteps (hr.mono (by lia)) (pa_cons (pv 0) pa_nil)) (pa_cons (pe_glob (v:=.ref fN) rfl mN rfl) (pa_cons (pe_glob (v:=.ref fJ) rfl mJ rfl) pa_nil)))))),?_⟩
 exact ⟨_,rfl,v,x,rfl,hw,by lia,fun r H1 s1 h1=>⟨r,x,rfl,h1,hs,by lia,fun u H2 s2 hw=>q u H2 (s1.trans s2) hw⟩⟩
theorem repInts {K:PySem.W.Frag} {H:Hp}:∀ l:List Int,Reps K H (l.map D.int) (l.map V.int)
 | []=>by unfold Reps; rfl
 | i :: r=>by
  show Reps K H (D.int i :: r.map D.int) (V.int i :: r.map V.int)
  unfold Reps
  exact ⟨_,_,rfl,by unfold Rep; rfl,repInts r⟩
theorem depInts:∀ l:List Int,deps (l.map D.int)=0
 | []=>by rw [List.map_nil,deps]
 | i :: r=>by
  rw [List.map_cons,deps,depInts r,D.dep]
  all_goals simp
noncomputable def spTwins:Sp:=fun vs H Q _=>∃ (u v:V) (x y:Way),vs=[u,v]∧WayIn H u x∧WayIn H v y∧Small x∧Small y∧∀ H',Same H H'→Q (.bl (decide (kD (fP x)=kD (fP y)))) H'
noncomputable abbrev s_are_twins:Stmt:=top 28
theorem sc_are_twins:FnScope ["one","other"] ["one","other"] (defScope s_are_twins):=⟨rfl,rfl,rfl,by decide +kernel,rfl,by decide +kernel,by decide +kernel⟩
theorem ok_twins {f:Addr} {fd:FuncData} (F:Fun K "are_twins" "are_twins" s_are_twins f fd) (B:Blt mg) (Gorder:Def P w K mg base CX0 1 "order_of" spOrder) (Gformof:Def P w K mg base CX0 7 "form_of" spFormOf):FnOk P w K mg base CX0 8 f fd ["one","other"] spTwins:=by
 refine F.ok (k:=7) sc_are_twins (fun vs H Q E h=>?_) (fun cdv A outer s H vs Q E hr h=>?_)
 ·obtain ⟨u,v,x,y,rfl,_⟩:=h
  rfl
 obtain ⟨u,v,x,y,rfl,hu,hv,sx,sy,q⟩:=h
 have zx:=fP_sz sx.1
 have zy:=fP_sz sy.1
 have hx2:=sx.2
 have hy2:=sy.2
 refine ⟨_,(pss_one (ps_ret (pe_cmpR (op_eqS (hu60 hr)) (pe_def Gorder (hr.mono (by lia)) (pa_cons (pe_def Gformof (hr.mono (by lia)) (pa_cons (pv 0) pa_nil)) pa_nil)) (pe_def Gorder (hr.mono (by lia)) (pa_cons (pe_def Gformof (hr.mono (by lia)) (pa_cons (pv 1) pa_nil)) pa_nil)) (nomark _)))),?_⟩
 refine ⟨_,rfl,u,x,rfl,hu,sx,fun u1 H1 s1 d1=>⟨u1,fP x,rfl,d1,fP_form sx.1,by lia,fun t1 H2 s2 ht1=>?_⟩⟩
 have s12:=s1.trans s2
 refine ⟨_,rfl,v,y,rfl,hv.kt (KT.same s12),sy,fun u2 H3 s3 d2=>⟨u2,fP y,rfl,d2,fP_form sy.1,by lia,fun t2 H4 s4 ht2=>?_⟩⟩
 have ht1':=(s3.trans s4) _ _ ht1
 refine ⟨(kD (fP x)).map D.int,(kD (fP y)).map D.int,.inr ⟨⟨t1,_,rfl,SqT.of ht1',repInts _⟩,⟨t2,_,rfl,SqT.of ht2,repInts _⟩⟩,by rw [depInts]; lia,?_⟩
 rw [if_neg (by decide),eqDs_ints]
 exact q _ (s12.trans (s3.trans s4))
end
end Law
namespace Law
open PySem L2
section
variable {P:Program} {w:World} {K:PySem.W.Frag} {mg:Str→Option Value} {base:Heap}
noncomputable abbrev s_law_take:Stmt:=top 41
theorem sc_law_take:FnScope ["deck","many","at","cell","one"] ["deck","many"] (defScope s_law_take):=⟨rfl,rfl,rfl,by decide +kernel,rfl,by decide +kernel,by decide +kernel⟩
theorem ok_law_take {f:Addr} {fd:FuncData} (F:Fun K "_law_take" "_law_take" s_law_take f fd) (B:Blt mg):FnOk P w K mg base CX0 1 f fd ["deck","many"] spTake:=by
 refine F.ok sc_law_take (fun vs H Q E h=>?_) (fun cdv A outer s H vs Q E hr h=>?_)
 ·obtain ⟨d,c,many,rfl,_⟩:=h
  rfl
 obtain ⟨d,c,many,rfl,D,m0,m1,q⟩:=h
 have hdc:=D.ne
 obtain ⟨cells,a,seed,hd,hc,hl⟩:=id D
 refine ⟨_,(pss_cons (ps_set (i:=2) sc_law_take.nd rfl (by first | exact Or.inl rfl | exact Or.inr rfl) (pe_op op_mod (pe_ix ix_list (pv 0) pe_int (fun _ _=>rfl)) (pe_callB call_len_seq rfl B.len bt_len (pa_cons (pe_ix ix_list (pv 0) pe_int (fun _ _=>rfl)) pa_nil))))
   (pss_cons (ps_asg (pe_op op_add (pe_ix ix_list (pv 0) pe_int (fun _ _=>rfl)) pe_int) (pg_sub (pv 0) pe_int set_list))
   (pss_cons (ps_set (i:=3) sc_law_take.nd rfl (by first | exact Or.inl rfl | exact Or.inr rfl) (pe_ix ix_list (pe_ix ix_list (pv 0) pe_int (fun _ _=>rfl)) (pv 2) (fun _ _=>rfl)))
   (pss_cons (ps_if (PW.pt (pw_or (pt_cmpR op_eq (pv 3) pe_int (nomark _)) (pw_or1 (pt_cmpR op_eq (pv 3) (pe_un un_neg pe_int) (nomark _))))) (pss_cons (ps_set (i:=4) sc_law_take.nd rfl (by first | exact Or.inl rfl | exact Or.inr rfl) (pe_op op_mod (pe_op op_mul (pe_op op_mod (pe_op op_add (pe_ix ix_list (pv 0) pe_int (fun _ _=>rfl)) (pe_op op_mul pe_int (pe_ix ix_list (pv 0) pe_int (fun _ _=>rfl)))) pe_int) pe_int) pe_int))
   (pss_cons (ps_set (i:=4) sc_law_take.nd rfl (by first | exact Or.inl rfl | exact Or.inr rfl) (pe_op op_mod (pe_op op_mul (pe_op op_mod (pe_op op_add (pe_op op_mul (pv 4) (pv 4)) (pe_op op_mul pe_int (pe_ix ix_list (pv 0) pe_int (fun _ _=>rfl)))) pe_int) pe_int) pe_int))
   (pss_one (ps_ret (pe_op op_mod (pe_op op_fdiv (pv 4) pe_int) (pv 1)))))) pss_nil)
   (pss_cons (ps_asg (pe_op op_fdiv (pv 3) (pv 1)) (pg_sub (pe_ix ix_list (pv 0) pe_int (fun _ _=>rfl)) (pv 2) set_list))
   (pss_one (ps_ret (pe_op op_mod (pv 3) (pv 1))))))))),?_⟩
 have lc:(cells.map V.int).length=cells.length:=List.length_map _
 have l0:0 < (((cells.map V.int).length:Nat):Int):=by lia
 refine ⟨_,rfl,d,_,_,_,rfl,rfl,SqL.of hd,rfl,_,rfl,d,_,_,_,rfl,rfl,SqL.of hd,rfl,c,_,rfl,.inl (SqL.of hc),_,_,rfl,rfl,l0,?_⟩
 have i0:0≤a % (((cells.map V.int).length:Nat):Int):=Int.emod_nonneg _ (by lia)
 have i1:a % (((cells.map V.int).length:Nat):Int) < (cells.length:Int):=by rw [← lc]; exact Int.emod_lt_of_pos _ l0
 obtain ⟨j,hj⟩:∃ j:Nat,a % (((cells.map V.int).length:Nat):Int)=(j:Int):=⟨(a % (((cells.map V.int).length:Nat):Int)).toNat,by lia⟩
 have jl:j < cells.length:=by lia
 refine ⟨_,rfl,d,_,_,_,rfl,rfl,SqL.of hd,rfl,_,_,rfl,rfl,_,rfl,d,_,1,1,rfl,rfl,hd,rfl,?_⟩
 have hd1:(upd H d (.lst [.ref c,.int (a + 1),.int seed])) d=some (.lst [.ref c,.int (a + 1),.int seed]):=upd_same
 have hc1:(upd H d (.lst [.ref c,.int (a + 1),.int seed])) c=some (.lst (cells.map V.int)):=by rw [upd_ne hdc.symm]; exact hc
 have k1:Keep [d,c] H (upd H d (.lst [.ref c,.int (a + 1),.int seed])):=Keep.upd (by simp)
 obtain ⟨cell,hcell⟩:∃ cell,cells[j]?=some cell:=⟨cells[j],List.getElem?_eq_getElem jl⟩
 have hat:atI (cells.map V.int) (a % (((cells.map V.int).length:Nat):Int))=some (.int cell):=by
  rw [hj]; exact atI_nat (by rw [List.getElem?_map,hcell]; rfl)
 have hix:ixN (cells.map V.int).length (a % (((cells.map V.int).length:Nat):Int))=some j:=by
  unfold ixN
  rw [if_pos i0,if_pos (by lia)]
  exact congrArg some (by lia)
 refine ⟨_,rfl,d,_,_,_,rfl,rfl,SqL.of hd1,rfl,_,rfl,c,_,_,_,rfl,rfl,SqL.of hc1,hat,?_⟩
 have D1:DeckAt (upd H d (.lst [.ref c,.int (a + 1),.int seed])) d c:=⟨cells,_,_,hd1,hc1,hl⟩
 refine ⟨_,rfl,rfl,_,rfl,?_⟩
 refine ite2 (fun _=>iteT ?g1) (fun _=>?g3)
 case g3 =>
  refine ⟨_,rfl,1,rfl,rfl,_,rfl,?_⟩
  refine ite2 (fun _=>?g2) (fun _=>?g4)
  case g4 =>
   refine ⟨_,rfl,_,rfl,_,_,rfl,rfl,⟨m0,m1⟩,_,rfl,d,_,_,_,rfl,rfl,SqL.of hd1,rfl,_,rfl,c,_,_,j,rfl,rfl,hc1,hix,?_⟩
   refine ⟨_,rfl,_,rfl,_,_,rfl,rfl,m0,?_⟩
   refine q _ _ (Int.emod_nonneg _ (by lia)) (Int.emod_lt_of_pos _ m0) (k1.trans (Keep.upd (by simp))) ⟨cells.set j (cell / many),_,_,by rw [upd_ne hdc]; exact hd1,?_,by rw [List.length_set]; exact hl⟩
   rw [upd_same,List.map_set]
  case g2 =>
   refine ⟨_,rfl,d,_,_,_,rfl,rfl,SqL.of hd1,rfl,_,rfl,d,_,_,_,rfl,rfl,SqL.of hd1,rfl,_,_,rfl,rfl,.inl ⟨by decide,by decide⟩,_,_,rfl,rfl,_,_,rfl,rfl,(by show (0:Int) < _; decide),_,_,rfl,rfl,.inr ⟨by decide,by decide⟩,_,_,rfl,rfl,(by show (0:Int) < _; decide),?_⟩
   refine ⟨_,rfl,_,rfl,_,_,rfl,rfl,.inl ⟨by lia,by lia⟩,_,rfl,d,_,_,_,rfl,rfl,SqL.of hd1,rfl,_,_,rfl,rfl,.inl ⟨by decide,by decide⟩,_,_,rfl,rfl,_,_,rfl,rfl,(by show (0:Int) < _; decide),_,_,rfl,rfl,.inr ⟨by decide,by decide⟩,_,_,rfl,rfl,(by show (0:Int) < _; decide),?_⟩
   refine ⟨_,rfl,_,_,rfl,rfl,⟨by decide,by decide⟩,_,rfl,_,_,rfl,rfl,m0,?_⟩
   exact q _ _ (Int.emod_nonneg _ (by lia)) (Int.emod_lt_of_pos _ m0) k1 D1
 case g1 =>
  refine ⟨_,rfl,d,_,_,_,rfl,rfl,SqL.of hd1,rfl,_,rfl,d,_,_,_,rfl,rfl,SqL.of hd1,rfl,_,_,rfl,rfl,.inl ⟨by decide,by decide⟩,_,_,rfl,rfl,_,_,rfl,rfl,(by show (0:Int) < _; decide),_,_,rfl,rfl,.inr ⟨by decide,by decide⟩,_,_,rfl,rfl,(by show (0:Int) < _; decide),?_⟩
  refine ⟨_,rfl,_,rfl,_,_,rfl,rfl,.inl ⟨by lia,by lia⟩,_,rfl,d,_,_,_,rfl,rfl,SqL.of hd1,rfl,_,_,rfl,rfl,.inl ⟨by decide,by decide⟩,_,_,rfl,rfl,_,_,rfl,rfl,(by show (0:Int) < _; decide),_,_,rfl,rfl,.inr ⟨by decide,by decide⟩,_,_,rfl,rfl,(by show (0:Int) < _; decide),?_⟩
  refine ⟨_,rfl,_,_,rfl,rfl,⟨by decide,by decide⟩,_,rfl,_,_,rfl,rfl,m0,?_⟩
  exact q _ _ (Int.emod_nonneg _ (by lia)) (Int.emod_lt_of_pos _ m0) k1 D1
noncomputable abbrev s_law_number:Stmt:=top 42
theorem sc_law_number:FnScope ["deck","some"] ["deck"] (defScope s_law_number):=⟨rfl,rfl,rfl,by decide +kernel,rfl,by decide +kernel,by decide +kernel⟩
theorem ok_law_number {f:Addr} {fd:FuncData} (F:Fun K "_law_number" "_law_number" s_law_number f fd) (B:Blt mg) (Gtake:Def P w K mg base CX0 1 "_law_take" spTake):FnOk P w K mg base CX0 2 f fd ["deck"] (spDraw 1000000):=by
 refine F.ok sc_law_number (fun vs H Q E h=>?_) (fun cdv A outer s H vs Q E hr h=>?_)
 ·obtain ⟨d,c,rfl,_⟩:=h
  rfl
 obtain ⟨d,c,rfl,D,q⟩:=h
 refine ⟨_,(pss_cons (ps_set (i:=1) sc_law_number.nd rfl (by first | exact Or.inl rfl | exact Or.inr rfl) (pe_lst (pa_cons pe_int (pa_cons pe_int (pa_cons (pe_op op_add pe_int (pe_def Gtake (hr.mono (by lia)) (pa_cons (pv 0) (pa_cons pe_int pa_nil)))) (pa_cons (pe_op op_add pe_int (pe_def Gtake (hr.mono (by lia)) (pa_cons (pv 0) (pa_cons pe_int pa_nil)))) (pa_cons pe_int (pa_cons pe_int (pa_cons pe_int pa_nil)))))))))
   (pss_cons (ps_set (i:=1) sc_law_number.nd rfl (by first | exact Or.inl rfl | exact Or.inr rfl) (pe_op op_cat (pv 1) (pe_lst (pa_cons (pe_op op_add pe_int (pe_def Gtake (hr.mono (by lia)) (pa_cons (pv 0) (pa_cons (pe_op op_pow pe_int pe_int) pa_nil)))) (pa_cons (pe_op op_pow pe_int pe_int) pa_nil)))))
   (pss_one (ps_ret (pe_ix ix_list (pv 1) (pe_def Gtake (hr.mono (by lia)) (pa_cons (pv 0) (pa_cons pe_int pa_nil))) (fun _ _=>rfl)))))),?_⟩
 refine ⟨_,rfl,d,c,10,rfl,D,by decide,by decide,fun r1 H1 a1 b1 k1 D1=>⟨_,_,rfl,rfl,_,rfl,d,c,10,rfl,D1,by decide,by decide,fun r2 H2 a2 b2 k2 D2=>⟨_,_,rfl,rfl,(by show 7≤sizeLine; decide),fun p hp=>?_⟩⟩⟩
 have D3:DeckAt (upd H2 p (.lst [.int 1,.int 2,.int (1 + r1),.int (1 + r2),.int 25,.int 75,.int 100])) d c:=D2.new hp
 have np:p ∉ [d,c]:=D2.nin hp
 refine ⟨_,rfl,_,rfl,_,_,rfl,rfl,⟨by decide,by decide,by decide⟩,d,c,_,rfl,D3,by decide,by decide,fun r3 H3 a3 b3 k3 D4=>⟨_,_,rfl,rfl,_,_,rfl,rfl,⟨by decide,by decide,by decide⟩,(by show 2≤sizeLine; decide),fun p2 hp2=>?_⟩⟩
 have h3:H3 p=some (.lst [.int 1,.int 2,.int (1 + r1),.int (1 + r2),.int 25,.int 75,.int 100]):=k3 _ _ upd_same np
 refine ⟨p,p2,_,_,rfl,rfl,(by rw [upd_ne (ne_of_none h3 hp2)]; exact h3),upd_same,(by show 9≤sizeLine; decide),fun p3 hp3=>?_⟩
 have D5:DeckAt (upd (upd H3 p2 (.lst [.int (1 + r3),.int ((10:Int) ^ (6:Int).toNat)])) p3 (.lst ([.int 1,.int 2,.int (1 + r1),.int (1 + r2),.int 25,.int 75,.int 100]++[.int (1 + r3),.int ((10:Int) ^ (6:Int).toNat)]))) d c:=(D4.new hp2).new hp3
 have np3:p3 ∉ [d,c]:=(D4.new hp2).nin hp3
 refine ⟨_,rfl,_,rfl,d,c,9,rfl,D5,by decide,by decide,fun r4 H4 a4 b4 k4 D6=>?_⟩
 have h5:=k4 _ _ upd_same np3
 obtain ⟨v,hv,hm⟩:=atI_mem (xs:=([.int 1,.int 2,.int (1 + r1),.int (1 + r2),.int 25,.int 75,.int 100]++[.int (1 + r3),.int ((10:Int) ^ (6:Int).toNat)]:List V)) a4 (by exact b4)
 refine ⟨p3,_,_,_,rfl,rfl,SqL.of h5,hv,?_⟩
 have kk:Keep [d,c] H H4:=k1.trans (k2.trans ((Keep.new hp).trans (k3.trans ((Keep.new hp2).trans ((Keep.new hp3).trans k4)))))
 have b3':r3 < 1000000:=b3
 have e6:(10:Int) ^ (6:Int).toNat=1000000:=by decide
 simp only [List.cons_append,List.nil_append,List.mem_cons,List.not_mem_nil,or_false,e6] at hm
 rcases hm with rfl | rfl | rfl | rfl | rfl | rfl | rfl | rfl | rfl <;> exact q _ H4 (by lia) (by lia) kk D6
noncomputable abbrev s_law_size:Stmt:=top 47
theorem sc_law_size:FnScope ["deck"] ["deck"] (defScope s_law_size):=⟨rfl,rfl,rfl,by decide +kernel,rfl,by decide +kernel,by decide +kernel⟩
theorem ok_law_size {f:Addr} {fd:FuncData} (F:Fun K "_law_size" "_law_size" s_law_size f fd) (B:Blt mg) (Gtake:Def P w K mg base CX0 1 "_law_take" spTake):FnOk P w K mg base CX0 2 f fd ["deck"] (spDraw 8):=by
 refine F.ok sc_law_size (fun vs H Q E h=>?_) (fun cdv A outer s H vs Q E hr h=>?_)
 ·obtain ⟨d,c,rfl,_⟩:=h
  rfl
 obtain ⟨d,c,rfl,D,q⟩:=h
 refine ⟨_,(pss_one (ps_ret (pe_ix ix_list (pe_lst (pa_cons pe_int (pa_cons pe_int (pa_cons pe_int (pa_cons pe_int (pa_cons (pe_op op_add pe_int (pe_def Gtake (hr.mono (by lia)) (pa_cons (pv 0) (pa_cons pe_int pa_nil)))) (pa_cons pe_int pa_nil))))))) (pe_def Gtake (hr.mono (by lia)) (pa_cons (pv 0) (pa_cons pe_int pa_nil))) (fun _ _=>rfl)))),?_⟩
 refine ⟨_,rfl,d,c,8,rfl,D,by decide,by decide,fun r1 H1 a1 b1 k1 D1=>⟨_,_,rfl,rfl,(by show 6≤sizeLine; decide),fun p hp=>?_⟩⟩
 have D3:DeckAt (upd H1 p (.lst [.int 1,.int 2,.int 3,.int 4,.int (1 + r1),.int 8])) d c:=D1.new hp
 have np:p ∉ [d,c]:=D1.nin hp
 refine ⟨_,rfl,d,c,6,rfl,D3,by decide,by decide,fun r4 H4 a4 b4 k4 D6=>?_⟩
 have h5:=k4 _ _ upd_same np
 obtain ⟨v,hv,hm⟩:=atI_mem (xs:=([.int 1,.int 2,.int 3,.int 4,.int (1 + r1),.int 8]:List V)) a4 (by exact b4)
 refine ⟨p,_,_,_,rfl,rfl,SqL.of h5,hv,?_⟩
 have kk:Keep [d,c] H H4:=k1.trans ((Keep.new hp).trans k4)
 simp only [List.mem_cons,List.not_mem_nil,or_false] at hm
 rcases hm with rfl | rfl | rfl | rfl | rfl | rfl <;> exact q _ H4 (by lia) (by lia) kk D6
noncomputable abbrev s_law_deck:Stmt:=top 40
theorem sc_law_deck:FnScope ["script","cells","seed","k","mixed"] ["script"] (defScope s_law_deck):=⟨rfl,rfl,rfl,by decide +kernel,rfl,by decide +kernel,by decide +kernel⟩
theorem ok_law_deck {f:Addr} {fd:FuncData} (F:Fun K "_law_deck" "_law_deck" s_law_deck f fd) (B:Blt mg):FnOk P w K mg base CX0 1 f fd ["script"] (spDeck K):=by
 refine F.ok sc_law_deck (fun vs H Q E h=>?_) (fun cdv A outer s H vs Q E hr h=>?_)
 ·obtain ⟨a,ns,rfl,_⟩:=h
  rfl
 obtain ⟨a,ns,rfl,hS,hl,q⟩:=h
 have hlm:(ns.map V.int).length=ns.length:=List.length_map _
 have cut:cutV (ns.map V.int) none (some (63:Int))=ns.map V.int:=cut_all (k:=63) (by lia)
 refine ⟨_,(pss_cons (ps_set (i:=1) sc_law_deck.nd rfl (by first | exact Or.inl rfl | exact Or.inr rfl) (pe_op op_cat (pe_slice sl_list (pv 0) po_none (po_some pe_int)) (pe_lst (pa_cons (pe_callB call_len_seq rfl B.len bt_len (pa_cons (pv 0) pa_nil)) pa_nil))))
   (pss_cons (ps_set (i:=2) sc_law_deck.nd rfl (by first | exact Or.inl rfl | exact Or.inr rfl) (pe_op op_mod (pe_op op_add (pe_op op_add (pe_op op_mul (pe_callB (call_sum rfl) rfl B.sum bt_sum (pa_cons (pe_slice sl_list (pv 0) po_none (po_some pe_int)) pa_nil)) pe_int) (pe_op op_mul pe_int (pe_callB call_len_seq rfl B.len bt_len (pa_cons (pv 0) pa_nil)))) pe_int) pe_int))
   (pss_cons (ps_if (pt_cmpR op_eq (pe_op op_mod (pe_callB (call_sum rfl) rfl B.sum bt_sum (pa_cons (pe_slice sl_list (pv 0) po_none (po_some pe_int)) pa_nil)) pe_int) pe_int (nomark _)) (pss_one (ps_for PassesOwn.never rfl (pi_range1 rfl B.range (pa_cons (pe_callB call_len_seq rfl B.len bt_len (pa_cons (pv 1) pa_nil)) pa_nil)) (pg_name (i:=3) sc_law_deck.nd rfl (by first | exact Or.inl rfl | exact Or.inr rfl)) (pss_cons (ps_set (i:=4) sc_law_deck.nd rfl (by first | exact Or.inl rfl | exact Or.inr rfl) (pe_op op_mod (pe_op op_mul (pe_op op_add (pe_op op_add (pe_op op_mod (pe_ix ix_list (pv 1) (pv 3) (fun _ _=>rfl)) pe_int) (pe_op op_mul pe_int (pv 3))) pe_int) pe_int) pe_int))
   (pss_cons (ps_set (i:=4) sc_law_deck.nd rfl (by first | exact Or.inl rfl | exact Or.inr rfl) (pe_op op_mod (pe_op op_mul (pe_op op_mod (pe_op op_add (pe_op op_mul (pv 4) (pv 4)) (pe_op op_mul pe_int (pv 3))) pe_int) pe_int) pe_int))
   (pss_one (ps_asg (pe_op op_add (pe_op op_mul (pe_op op_mul (pv 4) (pv 4)) pe_int) (pe_op op_mod (pe_op op_mul (pv 4) pe_int) pe_int)) (pg_sub (pv 1) (pv 3) set_list))))))) pss_nil)
   (pss_one (ps_ret (pe_lst (pa_cons (pv 1) (pa_cons pe_int (pa_cons (pv 2) pa_nil))))))))),?_⟩
 refine ⟨_,rfl,63,rfl,a,_,rfl,hS,fun p1 hp1=>?_⟩
 have s1:Same H (upd H p1 (.lst (cutV (ns.map V.int) none (some (63:Int))))):=Same.new hp1
 refine ⟨_,rfl,a,_,rfl,.inl (s1.seq hS),(by show 1≤sizeLine; decide),fun p2 hp2=>?_⟩
 have h1:(upd H p1 (.lst (cutV (ns.map V.int) none (some (63:Int))))) p1=some (.lst (cutV (ns.map V.int) none (some (63:Int)))):=upd_same
 refine ⟨p1,p2,_,_,rfl,rfl,(by rw [upd_ne (ne_of_none h1 hp2)]; exact h1),upd_same,(by rw [cut,hlm]; exact Nat.le_of_lt (small1000 (by show ns.length + 1≤1000; lia))),fun p3 hp3=>?_⟩
 rw [cut] at hp2 hp3 ⊢
 generalize eH:upd (upd (upd H p1 (.lst (ns.map V.int))) p2 (.lst [.int (((ns.map V.int).length:Nat):Int)])) p3 (.lst (ns.map V.int++[.int (((ns.map V.int).length:Nat):Int)]))=H3
 have s3:Same H H3:=by
  rw [← eH]
  exact (Same.new hp1).trans ((Same.new hp2).trans (Same.new hp3))
 have np3:H p3=none:=((Same.new hp1).trans (Same.new hp2)).free hp3
 have h3:H3 p3=some (.lst ((ns++[(((ns.map V.int).length:Nat):Int)]).map V.int)):=by
  rw [← eH,upd_same,List.map_append]
  rfl
 refine ⟨_,rfl,63,rfl,a,_,rfl,s3.seq hS,fun p4 hp4=>⟨p4,ns,rfl,(by rw [cut]; exact SqL.of upd_same),_,_,rfl,rfl,.inr ⟨by decide,by decide⟩,_,rfl,a,_,rfl,.inl ((s3.trans (Same.new hp4)).seq hS),_,_,rfl,rfl,.inl ⟨by decide,by decide⟩,_,_,rfl,rfl,_,_,rfl,rfl,_,_,rfl,rfl,(by show (0:Int) < _; decide),?_⟩⟩
 have s4:=s3.trans (Same.new (o:=.lst (cutV (ns.map V.int) none (some (63:Int)))) hp4)
 have h4:=Same.new (o:=.lst (cutV (ns.map V.int) none (some (63:Int)))) hp4 _ _ h3
 refine ⟨_,rfl,63,rfl,a,_,rfl,s4.seq hS,fun p5 hp5=>⟨p5,ns,rfl,(by rw [cut]; exact SqL.of upd_same),_,_,rfl,rfl,(by show (0:Int) < _; decide),rfl,_,rfl,?_⟩⟩
 have s5:=s4.trans (Same.new (o:=.lst (cutV (ns.map V.int) none (some (63:Int)))) hp5)
 have h5:=Same.new (o:=.lst (cutV (ns.map V.int) none (some (63:Int)))) hp5 _ _ h4
 have lc:((ns++[(((ns.map V.int).length:Nat):Int)]).map V.int).length=ns.length + 1:=by simp
 refine ite2 (fun _=>?_) (fun _=>?_)
 ·refine ⟨_,rfl,p3,_,rfl,.inl (SqL.of h5),_,rfl,(by rw [lc]; lia),(by rw [lc]; lia),for_range (n:=_)
   (fun i σ H'=>∃ (cells:List Int) (sd:Int) (v m:Option V),σ=[some (.ref a),some (.ref p3),some (.int sd),v,m]∧Same H H'∧H' p3=some (.lst (cells.map V.int))∧cells.length=ns.length + 1)
   ⟨_,_,none,none,rfl,s5,h5,by simp⟩ ?_ ?_⟩
  ·rintro i σ H' hi ⟨cells,sd,v,m,rfl,s6,h6,l6⟩
   rw [lc] at hi
   have lm:(cells.map V.int).length=cells.length:=List.length_map _
   have i1:(0:Int) + (i:Int) < (((cells.map V.int).length:Nat):Int):=by lia
   obtain ⟨x,hx,hm⟩:=atI_mem (xs:=cells.map V.int) (r:=0 + (i:Int)) (by lia) i1
   obtain ⟨cell,_,rfl⟩:=List.mem_map.mp hm
   refine ⟨_,rfl,_,rfl,p3,_,_,_,rfl,rfl,SqL.of h6,hx,_,_,rfl,rfl,(by show (0:Int) < _; decide),_,rfl,_,_,rfl,rfl,.inl ⟨by decide,by decide⟩,_,_,rfl,rfl,_,_,rfl,rfl,_,_,rfl,rfl,.inr ⟨by decide,by decide⟩,_,_,rfl,rfl,(by show (0:Int) < _; decide),?_⟩
   refine ⟨_,rfl,_,rfl,_,_,rfl,rfl,.inl ⟨by lia,by lia⟩,_,rfl,_,_,rfl,rfl,.inl ⟨by decide,by decide⟩,_,_,rfl,rfl,_,_,rfl,rfl,(by show (0:Int) < _; decide),_,_,rfl,rfl,.inr ⟨by decide,by decide⟩,_,_,rfl,rfl,(by show (0:Int) < _; decide),?_⟩
   refine ⟨_,rfl,_,rfl,_,_,rfl,rfl,.inl ⟨by lia,by lia⟩,_,_,rfl,rfl,.inr ⟨by decide,by decide⟩,_,rfl,_,_,rfl,rfl,.inr ⟨by decide,by decide⟩,_,_,rfl,rfl,(by show (0:Int) < _; decide),_,_,rfl,rfl,_,rfl,_,rfl,p3,_,_,_,rfl,rfl,h6,ixN_of (by lia) i1,?_⟩
   refine ⟨_,sd,_,_,rfl,fun b o e=>?_,upd_same.trans (congrArg (fun l=>some (HO.lst l)) set_int),by rw [List.length_set]; exact l6⟩
   rw [upd_ne (ne_of_none e np3)]
   exact s6 b o e
  ·rintro σ H' ⟨cells,sd,v,m,rfl,s6,h6,l6⟩
   refine ⟨_,rfl,_,rfl,(by show 3≤sizeLine; decide),fun d hd=>?_⟩
   exact q d p3 _ (s6.trans (Same.new hd)) (s6.free hd) np3 ⟨cells,0,sd,upd_same,(by rw [upd_ne (ne_of_none h6 hd)]; exact h6),by lia⟩
 ·refine ⟨_,rfl,_,rfl,(by show 3≤sizeLine; decide),fun d hd=>?_⟩
  exact q d p3 _ (s5.trans (Same.new hd)) (s5.free hd) np3 ⟨_,0,_,upd_same,(by rw [upd_ne (ne_of_none h5 hd)]; exact h5),by simp⟩
noncomputable abbrev s_law_by:Stmt:=top 43
theorem sc_law_by:FnScope ["word","one","other"] ["word","one","other"] (defScope s_law_by):=⟨rfl,rfl,rfl,by decide +kernel,rfl,by decide +kernel,by decide +kernel⟩
theorem ok_law_by {f:Addr} {fd:FuncData} (F:Fun K "_law_by" "_law_by" s_law_by f fd) (B:Blt mg):FnOk P w K mg base CX0 1 f fd ["word","one","other"] spBy:=by
 refine F.ok sc_law_by (fun vs H Q E h=>?_) (fun cdv A outer s H vs Q E hr h=>?_)
 ·obtain ⟨wd,a,b,rfl,_⟩:=h
  rfl
 obtain ⟨wd,a,b,rfl,hw,ha,ha2,hb,hb2,q⟩:=h
 have hmul:IntMulOk a b:=mulOk_of (by lia) (by lia)
 refine ⟨_,(pss_cons (ps_if (pt_cmpR op_eq (pv 0) pe_str (nomark _)) (pss_one (ps_ret (pe_op op_add (pv 1) (pv 2)))) pss_nil)
   (pss_cons (ps_if (pt_cmpR op_eq (pv 0) pe_str (nomark _)) (pss_one (ps_ret (pe_op op_mulB (pv 1) (pv 2)))) pss_nil)
   (pss_cons (ps_if (pt_cmpR op_eq (pv 0) pe_str (nomark _)) (pss_one (ps_ret (pe_ix ix_list (pe_lst (pa_cons (pv 0) (pa_cons (pe_op op_sub (pv 1) (pv 2)) pa_nil))) (pe_callTy call_int1 rfl B.int bt_int (pa_cons (pe_cmpR op_gt (pv 1) (pv 2) (nomark _)) pa_nil)) (fun _ _=>rfl)))) pss_nil)
   (pss_one (ps_ret (pe_ix ix_list (pe_lst (pa_cons (pv 0) (pa_cons (pe_op op_fdivB (pv 1) (pv 2)) pa_nil))) (pe_callTy call_int1 rfl B.int bt_int (pa_cons (pe_cmpR op_eq (pe_op op_mod (pv 1) (pv 2)) pe_int (nomark _)) pa_nil)) (fun _ _=>rfl))))))),?_⟩
 refine ⟨_,rfl,rfl,_,rfl,?_⟩
 refine ite2 (fun c=>?_) (fun c=>?_)
 ·have e:wd="plus":=V.str.inj (of_decide_eq_true c)
  subst e
  refine ⟨_,rfl,_,rfl,_,_,rfl,rfl,?_⟩
  exact q H (Same.refl H)
 have c1:¬ wd="plus":=fun e=>c (decide_eq_true (congrArg V.str e))
 refine ⟨_,rfl,rfl,_,rfl,?_⟩
 refine ite2 (fun c=>?_) (fun c=>?_)
 ·have e:wd="times":=V.str.inj (of_decide_eq_true c)
  subst e
  refine ⟨_,rfl,_,rfl,_,_,rfl,rfl,hmul,?_⟩
  exact q H (Same.refl H)
 have c2:¬ wd="times":=fun e=>c (decide_eq_true (congrArg V.str e))
 refine ⟨_,rfl,rfl,_,rfl,?_⟩
 refine ite2 (fun c=>?_) (fun c=>?_)
 ·have e:wd="less":=V.str.inj (of_decide_eq_true c)
  subst e
  refine ⟨_,rfl,_,rfl,_,rfl,_,_,rfl,rfl,(by show 2≤sizeLine; decide),fun p hp=>?_⟩
  refine ⟨_,rfl,_,rfl,_,_,rfl,rfl,.inr ⟨_,rfl,p,_,_,resV (byE "less" a b),rfl,rfl,SqL.of upd_same,?_,q _ (Same.new hp)⟩⟩
  by_cases h:b < a
  ·rw [decide_eq_true h]
   simp only [byE,if_neg c1,if_neg c2,if_pos h,if_true]
   rfl
  ·rw [decide_eq_false h]
   simp only [byE,if_neg c1,if_neg c2,if_neg h,if_true]
   rfl
 have c3:¬ wd="less":=fun e=>c (decide_eq_true (congrArg V.str e))
 refine ⟨_,rfl,_,rfl,_,rfl,_,_,rfl,rfl,⟨by lia,by lia⟩,(by show 2≤sizeLine; decide),fun p hp=>?_⟩
 refine ⟨_,rfl,_,rfl,_,_,rfl,rfl,(by show (0:Int) < b; lia),rfl,.inr ⟨_,rfl,p,_,_,resV (byE wd a b),rfl,rfl,SqL.of upd_same,?_,q _ (Same.new hp)⟩⟩
 by_cases h:a % b=0
 ·rw [decide_eq_true (congrArg V.int h)]
  simp only [byE,if_neg c1,if_neg c2,if_neg c3,if_pos h]
  rfl
 ·rw [decide_eq_false (fun e=>h (V.int.inj e))]
  simp only [byE,if_neg c1,if_neg c2,if_neg c3,if_neg h]
  rfl
noncomputable abbrev s_law_worth:Stmt:=top 44
theorem sc_law_worth:FnScope ["way","one","other"] ["way"] (defScope s_law_worth):=⟨rfl,rfl,rfl,by decide +kernel,rfl,by decide +kernel,by decide +kernel⟩
theorem ok_law_worth_step {n:Nat} {f:Addr} {fd:FuncData} (F:Fun K "_law_worth" "_law_worth" s_law_worth f fd) (B:Blt mg) (Gby:Def P w K mg base CX0 1 "_law_by" spBy) (Gworth:Def P w K mg base CX0 (n + 2) "_law_worth" (spWorth n)):FnOk P w K mg base CX0 (n + 3) f fd ["way"] (spWorth (n + 1)):=by
 refine F.ok sc_law_worth (fun vs H Q E h=>?_) (fun cdv A outer s H vs Q E hr h=>?_)
 ·obtain ⟨v,x,rfl,_⟩:=h
  rfl
 obtain ⟨v,x,rfl,hx,fx,hn,q⟩:=h
 refine ⟨_,(pss_cons (ps_if (pt_val (pe_isin B.isinstance B.int bt_int (pv 0))) (pss_one (ps_ret (pv 0))) pss_nil)
   (pss_cons (ps_set (i:=1) sc_law_worth.nd rfl (by first | exact Or.inl rfl | exact Or.inr rfl) (pe_def Gworth (hr.mono (by lia)) (pa_cons (pe_ix ix_tup (pv 0) pe_int (fun _ _=>rfl)) pa_nil)))
   (pss_cons (ps_set (i:=2) sc_law_worth.nd rfl (by first | exact Or.inl rfl | exact Or.inr rfl) (pv 1))
   (pss_cons (ps_if (pt_not (pt_val (pe_isin B.isinstance B.str bt_str (pv 1)))) (pss_one (ps_set (i:=2) sc_law_worth.nd rfl (by first | exact Or.inl rfl | exact Or.inr rfl) (pe_def Gworth (hr.mono (by lia)) (pa_cons (pe_ix ix_tup (pv 0) pe_int (fun _ _=>rfl)) pa_nil)))) pss_nil)
   (pss_cons (ps_if (pt_val (pe_isin B.isinstance B.str bt_str (pv 2))) (pss_one (ps_ret (pv 2))) pss_nil)
   (pss_one (ps_ret (pe_def Gby (hr.mono (by lia)) (pa_cons (pe_ix ix_tup (pv 0) pe_int (fun _ _=>rfl)) (pa_cons (pv 1) (pa_cons (pv 2) pa_nil))))))))))),?_⟩
 cases hx with
 | num k =>
  refine ⟨_,rfl,_,_,TyOf.int _,kit_int_int _,_,rfl,iteT ⟨_,rfl,?_⟩⟩
  exact q H (Same.refl H)
 | @op p wd x y a b h ha hb =>
  obtain ⟨hw,fa,fb⟩:=fx.sub
  have hta:a.ht < n:=by have:max a.ht b.ht + 1 < n + 1:=hn; lia
  have htb:b.ht < n:=by have:max a.ht b.ht + 1 < n + 1:=hn; lia
  rw [worthE_op] at q
  refine ⟨_,rfl,_,_,TyOf.tup h,kit_tup_int _,_,rfl,iteF ?_⟩
  refine ⟨_,rfl,p,_,_,x,rfl,rfl,SqT.of h,rfl,x,a,rfl,ha,fa,hta,fun H1 s1=>?_⟩
  cases ea:worthE a with
  | inl e =>
   rw [ea] at q
   refine ⟨_,rfl,?_⟩
   refine ⟨_,rfl,_,_,TyOf.str _,kit_str_str _,_,rfl,iteF ?_⟩
   refine ⟨_,rfl,_,_,TyOf.str _,kit_str_str _,_,rfl,iteT ⟨_,rfl,?_⟩⟩
   exact q _ s1
  | inr i =>
   rw [ea] at q
   refine ⟨_,rfl,?_⟩
   refine ⟨_,rfl,_,_,TyOf.int _,kit_int_str _,_,rfl,iteT ?_⟩
   refine ⟨_,rfl,p,_,_,y,rfl,rfl,SqT.of (s1 _ _ h),rfl,y,b,rfl,hb.kt (KT.same s1),fb,htb,fun H2 s2=>?_⟩
   cases eb:worthE b with
   | inl e =>
    rw [eb] at q
    refine ⟨_,rfl,_,_,TyOf.str _,kit_str_str _,_,rfl,iteT ⟨_,rfl,?_⟩⟩
    exact q _ (s1.trans s2)
   | inr j =>
    rw [eb] at q
    have i1:=fa.worth ea
    have j1:=fb.worth eb
    refine ⟨_,rfl,_,_,TyOf.int _,kit_int_str _,_,rfl,iteF ?_⟩
    refine ⟨_,rfl,p,_,_,_,rfl,rfl,SqT.of (s2 _ _ (s1 _ _ h)),rfl,_,rfl,_,rfl,wd,i,j,rfl,hw,i1.1,i1.2,j1.1,j1.2,fun H3 s3=>?_⟩
    exact q _ (s1.trans (s2.trans s3))
theorem ok_law_worth {f:Addr} {fd:FuncData} (F:Fun K "_law_worth" "_law_worth" s_law_worth f fd) (b:Binds K fd ["way"] []) (m:mg "_law_worth"=some (.ref f)) (B:Blt mg) (Gby:Def P w K mg base CX0 1 "_law_by" spBy):∀ n,FnOk P w K mg base CX0 (n + 2) f fd ["way"] (spWorth n)
 | 0=>by
  have no:∀ vs H Q E,¬ spWorth 0 vs H Q E:=fun vs H Q E h=>by
   obtain ⟨v,x,_,_,_,h,_⟩:=h
   lia
  exact ⟨fun vs H Q E h=>absurd h (no vs H Q E),fun A outer s H args us vs Q E _ _ _ _ h=>absurd h (no vs H Q E)⟩
 | n + 1=>ok_law_worth_step F B Gby (mkDef (ok_law_worth F b m B Gby n) b m F.kp)
noncomputable abbrev s_law_good_way:Stmt:=top 46
theorem sc_law_good_way:FnScope ["deck","many","first","one","other","word","way"] ["deck","many"] (defScope s_law_good_way):=⟨rfl,rfl,rfl,by decide +kernel,rfl,by decide +kernel,by decide +kernel⟩
theorem okw_of {r:Int} (h0:0≤r) (h1:r < 4):∃ wd:Str,atI [V.str "plus",V.str "less",V.str "times",V.str "share"] r=some (.str wd)∧okWord wd:=by
 obtain ⟨v,hv,hm⟩:=atI_mem (xs:=[V.str "plus",V.str "less",V.str "times",V.str "share"]) h0 (by exact h1)
 simp only [List.mem_cons,List.not_mem_nil,or_false] at hm
 rcases hm with rfl | rfl | rfl | rfl
 ·exact ⟨_,hv,.inl rfl⟩
 ·exact ⟨_,hv,.inr (.inl rfl)⟩
 ·exact ⟨_,hv,.inr (.inr (.inl rfl))⟩
 ·exact ⟨_,hv,.inr (.inr (.inr rfl))⟩
theorem ok_law_good_step {n:Nat} {f:Addr} {fd:FuncData} (F:Fun K "_law_good_way" "_law_good_way" s_law_good_way f fd) (B:Blt mg) (Gtake:Def P w K mg base CX0 1 "_law_take" spTake) (Gnumber:Def P w K mg base CX0 2 "_law_number" (spDraw 1000000))
  (Gby:Def P w K mg base CX0 1 "_law_by" spBy) (Gworth:Def P w K mg base CX0 12 "_law_worth" (spWorth 10)) (Ggood:Def P w K mg base CX0 (n + 13) "_law_good_way" (spGood n)):FnOk P w K mg base CX0 (n + 14) f fd ["deck","many"] (spGood (n + 1)):=by
 refine F.ok sc_law_good_way (fun vs H Q E h=>?_) (fun cdv A outer s H vs Q E hr h=>?_)
 ·obtain ⟨d,c,many,rfl,_⟩:=h
  rfl
 obtain ⟨d,c,many,rfl,D,m1,m8,mn,q⟩:=h
 refine ⟨_,(pss_cons (ps_if (pt_cmpR op_eq (pv 1) pe_int (nomark _)) (pss_one (ps_ret (pe_def Gnumber (hr.mono (by lia)) (pa_cons (pv 0) pa_nil)))) pss_nil)
   (pss_cons (ps_set (i:=2) sc_law_good_way.nd rfl (by first | exact Or.inl rfl | exact Or.inr rfl) (pe_op op_add pe_int (pe_def Gtake (hr.mono (by lia)) (pa_cons (pv 0) (pa_cons (pe_op op_sub (pv 1) pe_int) pa_nil)))))
   (pss_cons (ps_set (i:=3) sc_law_good_way.nd rfl (by first | exact Or.inl rfl | exact Or.inr rfl) (pe_def Ggood (hr.mono (by lia)) (pa_cons (pv 0) (pa_cons (pv 2) pa_nil))))
   (pss_cons (ps_set (i:=4) sc_law_good_way.nd rfl (by first | exact Or.inl rfl | exact Or.inr rfl) (pe_def Ggood (hr.mono (by lia)) (pa_cons (pv 0) (pa_cons (pe_op op_sub (pv 1) (pv 2)) pa_nil))))
   (pss_cons (ps_set (i:=5) sc_law_good_way.nd rfl (by first | exact Or.inl rfl | exact Or.inr rfl) (pe_ix ix_list (pe_lst (pa_cons pe_str (pa_cons pe_str (pa_cons pe_str (pa_cons pe_str pa_nil))))) (pe_def Gtake (hr.mono (by lia)) (pa_cons (pv 0) (pa_cons pe_int pa_nil))) (fun _ _=>rfl)))
   (pss_cons (ps_for PassesOwn.never rfl (pi_list (pe_lst (pa_cons (pe_tup (pa_cons (pv 5) (pa_cons (pv 3) (pa_cons (pv 4) pa_nil)))) (pa_cons (pe_tup (pa_cons (pv 5) (pa_cons (pv 4) (pa_cons (pv 3) pa_nil)))) pa_nil star_tup) star_tup))) (pg_name (i:=6) sc_law_good_way.nd rfl (by first | exact Or.inl rfl | exact Or.inr rfl)) (pss_one (ps_if (pt_not (pt_val (pe_isin B.isinstance B.str bt_str (pe_def Gby (hr.mono (by lia)) (pa_cons (pv 5) (pa_cons (pe_def Gworth (hr.mono (by lia)) (pa_cons (pe_ix ix_tup (pv 6) pe_int (fun _ _=>rfl)) pa_nil)) (pa_cons (pe_def Gworth (hr.mono (by lia)) (pa_cons (pe_ix ix_tup (pv 6) pe_int (fun _ _=>rfl)) pa_nil)) pa_nil))))))) (pss_one (ps_ret (pv 6))) pss_nil)))
   (pss_one (ps_ret (pe_tup (pa_cons (pe_ix ix_list (pe_lst (pa_cons (pe_ix ix_list (pe_lst (pa_cons pe_str (pa_cons pe_str pa_nil))) (pe_callTy call_int1 rfl B.int bt_int (pa_cons (pe_cmpR op_eq (pv 5) pe_str (nomark _)) pa_nil)) (fun _ _=>rfl)) (pa_cons pe_str pa_nil))) (pe_callTy call_int1 rfl B.int bt_int (pa_cons (pe_cmpR op_gt (pe_def Gworth (hr.mono (by lia)) (pa_cons (pv 3) pa_nil)) (pe_op op_pow pe_int pe_int) (nomark _)) pa_nil)) (fun _ _=>rfl)) (pa_cons (pv 3) (pa_cons (pv 4) pa_nil)))))))))))),?_⟩
 refine ⟨_,rfl,rfl,_,rfl,?_⟩
 refine ite2 (fun e=>?_) (fun e=>?_)
 ·have e1:many=1:=V.int.inj (of_decide_eq_true e)
  refine ⟨_,rfl,d,c,rfl,D,fun r H1 r1 r2 k1 D1=>?_⟩
  exact q (.int r) (.num r) r H1 (.num r) ⟨r1,r2⟩ e1.symm rfl k1 D1
 have e1:many≠1:=fun z=>e (decide_eq_true (congrArg V.int z))
 refine ⟨_,rfl,_,rfl,_,_,rfl,rfl,d,c,_,rfl,D,by lia,by lia,fun r H1 r1 r2 k1 D1=>⟨_,_,rfl,rfl,?_⟩⟩
 refine ⟨_,rfl,_,rfl,d,c,_,rfl,D1,by lia,by lia,by lia,fun v1 x1 n1 H2 w1 o1 z1 e1 k2 D2=>?_⟩
 refine ⟨_,rfl,_,rfl,_,rfl,_,_,rfl,rfl,d,c,_,rfl,D2,by lia,by lia,by lia,fun v2 x2 n2 H3 w2 o2 z2 e2 k3 D3=>?_⟩
 refine ⟨(by show 4≤sizeLine; decide),fun p hp=>⟨_,rfl,d,c,4,rfl,D3.new hp,by decide,by decide,fun r4 H4 a4 b4 k4 D4=>?_⟩⟩
 obtain ⟨wd,hwd,hw⟩:=okw_of a4 b4
 refine ⟨p,_,_,_,rfl,rfl,SqL.of (k4 _ _ upd_same (D3.nin hp)),hwd,?_⟩
 have kt34:KT H3 H4:=(KT.new hp).trans ((D3.new hp).kt k4)
 have w1':WayIn H4 v1 x1:=(w1.kt (D2.kt k3)).kt kt34
 have w2':WayIn H4 v2 x2:=w2.kt kt34
 have kk:Keep [d,c] H H4:=k1.trans (k2.trans (k3.trans ((Keep.new hp).trans k4)))
 have s1:=x1.size_pos
 have s2:=x2.size_pos
 have f1:x1.fit:=fit_of o1 (by lia)
 have f2:x2.fit:=fit_of o2 (by lia)
 have t1:x1.ht < 10:=by have:=x1.ht_lt; lia
 have t2:x2.ht < 10:=by have:=x2.ht_lt; lia
 have b1:=f1.worth e1
 have b2:=f2.worth e2
 refine ⟨_,rfl,_,rfl,_,rfl,(by show 3≤sizeLine; decide),fun ta hta=>⟨_,rfl,_,rfl,_,rfl,(by show 3≤sizeLine; decide),fun tb htb=>⟨(by show 2≤sizeLine; decide),fun l hl=>?_⟩⟩⟩
 have h1:(upd (upd H4 ta (.tup [.str wd,v1,v2])) tb (.tup [.str wd,v2,v1])) ta=some (.tup [.str wd,v1,v2]):=by
  rw [upd_ne (ne_of_none upd_same htb),upd_same]
 have h2:(upd (upd H4 ta (.tup [.str wd,v1,v2])) tb (.tup [.str wd,v2,v1])) tb=some (.tup [.str wd,v2,v1]):=upd_same
 have sH:Same H4 (upd (upd (upd H4 ta (.tup [.str wd,v1,v2])) tb (.tup [.str wd,v2,v1])) l (.lst [.ref ta,.ref tb])):=(Same.new hta).trans ((Same.new htb).trans (Same.new hl))
 have h1':=Same.new (o:=.lst [.ref ta,.ref tb]) hl _ _ h1
 have h2':=Same.new (o:=.lst [.ref ta,.ref tb]) hl _ _ h2
 refine ⟨l,rfl,⟨_,SqL.of upd_same⟩,for_list (K:=K) (a:=l) (xs:=[.ref ta,.ref tb])
  (fun i σ H'=>∃ (z:Option V),σ=[some (.ref d),some (.int many),some (.int (1 + r)),some v1,some v2,some (.str wd),z]∧Same H4 H'∧H' ta=some (.tup [.str wd,v1,v2])∧H' tb=some (.tup [.str wd,v2,v1])∧H' l=some (.lst [.ref ta,.ref tb]))
  ⟨none,rfl,sH,h1',h2',upd_same⟩ (fun i σ H' _ ⟨_,_,_,_,_,g⟩=>SqL.of g) ?_ ?_⟩
 ·rintro i y σ H' hi ⟨z,rfl,sH',g1,g2,g3⟩
  obtain ⟨t,va,vb,xa,xb,na,nb,ey,ht,wa,wb,fa,fb,ta',tb',ea,eb,oa,ob,zz⟩:∃ (t:Addr) (va vb:V) (xa xb:Way) (na nb:Int),y=.ref t∧H' t=some (.tup [.str wd,va,vb])∧WayIn H' va xa∧WayIn H' vb xb∧xa.fit∧xb.fit∧xa.ht < 10∧xb.ht < 10∧worthE xa=.inr na∧worthE xb=.inr nb∧xa.ok 1000000∧xb.ok 1000000∧((xa.size + xb.size:Nat):Int)=many:=by
   match i,hi with
   | 0,hi =>
    cases hi
    exact ⟨ta,v1,v2,x1,x2,n1,n2,rfl,g1,w1'.kt (KT.same sH'),w2'.kt (KT.same sH'),f1,f2,t1,t2,e1,e2,o1,o2,by lia⟩
   | 1,hi =>
    cases hi
    exact ⟨tb,v2,v1,x2,x1,n2,n1,rfl,g2,w2'.kt (KT.same sH'),w1'.kt (KT.same sH'),f2,f1,t2,t1,e2,e1,o2,o1,by lia⟩
   | i + 2,hi=>cases hi
  subst ey
  have ba:=fa.worth ea
  have bb:=fb.worth eb
  refine ⟨_,rfl,_,rfl,t,_,_,_,rfl,rfl,SqT.of ht,rfl,va,xa,rfl,wa,fa,ta',fun H5 s5=>?_⟩
  rw [ea]
  refine ⟨_,rfl,t,_,_,_,rfl,rfl,SqT.of (s5 _ _ ht),rfl,vb,xb,rfl,wb.kt (KT.same s5),fb,tb',fun H6 s6=>?_⟩
  rw [eb]
  refine ⟨wd,na,nb,rfl,hw,ba.1,ba.2,bb.1,bb.2,fun H7 s7=>?_⟩
  have s57:Same H' H7:=s5.trans (s6.trans s7)
  cases e:byE wd na nb with
  | inr k =>
   refine ⟨_,_,TyOf.int _,kit_int_str _,_,rfl,iteT ⟨_,rfl,?_⟩⟩
   refine q (.ref t) (.op wd xa xb) k H7 (.op (s57 _ _ ht) (wa.kt (KT.same s57)) (wb.kt (KT.same s57))) ⟨hw,oa,ob⟩ zz ?_ (kk.trans ((Keep.same sH').trans (Keep.same s57))) ((D4.same sH').same s57)
   rw [worthE_op,ea,eb]
   exact e
  | inl e =>
   refine ⟨_,_,TyOf.str _,kit_str_str _,_,rfl,iteF ?_⟩
   exact ⟨_,rfl,sH'.trans s57,s57 _ _ g1,s57 _ _ g2,s57 _ _ g3⟩
 ·rintro σ H' ⟨z,rfl,sH',g1,g2,g3⟩
  refine ⟨(by show 2≤sizeLine; decide),fun p5 hp5=>⟨_,rfl,rfl,.inr ⟨_,rfl,p5,_,_,.str (if wd="less" then "plus" else "times"),rfl,rfl,SqL.of upd_same,?_,(by show 2≤sizeLine; decide),fun p6 hp6=>?_⟩⟩⟩
  ·by_cases h:wd="less"
   ·rw [decide_eq_true (congrArg V.str h),if_pos h]
    rfl
   ·rw [decide_eq_false (fun e=>h (V.str.inj e)),if_neg h]
    rfl
  have s56:Same H' (upd (upd H' p5 (.lst [.str "times",.str "plus"])) p6 (.lst [.str (if wd="less" then "plus" else "times"),.str "plus"])):=(Same.new hp5).trans (Same.new hp6)
  refine ⟨_,rfl,v1,x1,rfl,w1'.kt (KT.same (sH'.trans s56)),f1,t1,fun H7 s7=>?_⟩
  rw [e1]
  obtain ⟨wd2,hwd2,hv2⟩:∃ wd2:Str,(wd2="plus"∨wd2="times")∧atI [V.str (if wd="less" then "plus" else "times"),V.str "plus"] (if decide ((10:Int) ^ (40:Int).toNat < n1) then 1 else 0)=some (.str wd2):=by
   by_cases h:(10:Int) ^ (40:Int).toNat < n1
   ·rw [decide_eq_true h]
    exact ⟨"plus",.inl rfl,rfl⟩
   ·rw [decide_eq_false h]
    by_cases h2:wd="less"
    ·rw [if_pos h2]
     exact ⟨"plus",.inl rfl,rfl⟩
    ·rw [if_neg h2]
     exact ⟨"times",.inr rfl,rfl⟩
  refine ⟨_,_,rfl,rfl,⟨by decide,by decide,by decide⟩,_,_,rfl,rfl,.inr ⟨_,rfl,p6,_,_,_,rfl,rfl,SqL.of (s7 _ _ upd_same),hv2,_,rfl,_,rfl,(by show 3≤sizeLine; decide),fun t ht=>?_⟩⟩
  have sA:Same H4 H7:=sH'.trans (s56.trans s7)
  have sB:Same H7 (upd H7 t (.tup [.str wd2,v1,v2])):=Same.new ht
  have okw:okWord wd2:=hwd2.elim .inl fun h=>.inr (.inr (.inl h))
  obtain ⟨k,hk⟩:∃ k,byE wd2 n1 n2=.inr k:=by
   rcases hwd2 with h | h
   ·exact ⟨n1 + n2,by unfold byE; rw [if_pos h]⟩
   ·subst h
    exact ⟨n1 * n2,by unfold byE; rw [if_neg (by decide +kernel),if_pos rfl]⟩
  refine q (.ref t) (.op wd2 x1 x2) k _ (.op upd_same (w1'.kt (KT.same (sA.trans sB))) (w2'.kt (KT.same (sA.trans sB)))) ⟨okw,o1,o2⟩ (by show ((x1.size + x2.size:Nat):Int)=many; lia) ?_ (kk.trans (Keep.same (sA.trans sB))) (D4.same (sA.trans sB))
  rw [worthE_op,e1,e2]
  exact hk
theorem ok_law_good {f:Addr} {fd:FuncData} (F:Fun K "_law_good_way" "_law_good_way" s_law_good_way f fd) (b:Binds K fd ["deck","many"] []) (m:mg "_law_good_way"=some (.ref f)) (B:Blt mg) (Gtake:Def P w K mg base CX0 1 "_law_take" spTake) (Gnumber:Def P w K mg base CX0 2 "_law_number" (spDraw 1000000))
  (Gby:Def P w K mg base CX0 1 "_law_by" spBy) (Gworth:Def P w K mg base CX0 12 "_law_worth" (spWorth 10)):∀ n,FnOk P w K mg base CX0 (n + 13) f fd ["deck","many"] (spGood n)
 | 0=>by
  have no:∀ vs H Q E,¬ spGood 0 vs H Q E:=fun vs H Q E h=>by
   obtain ⟨d,c,many,_,_,h1,_,h2,_⟩:=h
   lia
  exact ⟨fun vs H Q E h=>absurd h (no vs H Q E),fun A outer s H args us vs Q E _ _ _ _ h=>absurd h (no vs H Q E)⟩
 | n + 1=>ok_law_good_step F B Gtake Gnumber Gby Gworth (mkDef (ok_law_good F b m B Gtake Gnumber Gby Gworth n) b m F.kp)
noncomputable abbrev s_steps_of:Stmt:=top 9
theorem sc_steps_of:FnScope ["way","steps","waiting","part","word","first","second"] ["way"] (defScope s_steps_of):=⟨rfl,rfl,rfl,by decide +kernel,rfl,by decide +kernel,by decide +kernel⟩
theorem ok_steps_of {f:Addr} {fd:FuncData} (F:Fun K "steps_of" "steps_of" s_steps_of f fd) (B:Blt mg):FnOk P w K mg base CX0 1 f fd ["way"] spSteps:=by
 refine F.ok sc_steps_of (fun vs H Q E h=>?_) (fun cdv A outer s H vs Q E hr h=>?_)
 ·obtain ⟨v,x,rfl,_⟩:=h
  rfl
 obtain ⟨v,x,rfl,hx,hn,q⟩:=h
 refine ⟨_,(pss_cons (ps_set (i:=1) sc_steps_of.nd rfl (by first | exact Or.inl rfl | exact Or.inr rfl) (pe_lst pa_nil))
   (pss_cons (ps_set (i:=2) sc_steps_of.nd rfl (by first | exact Or.inl rfl | exact Or.inr rfl) (pe_lst (pa_cons (pv 0) pa_nil)))
   (pss_cons (ps_while PassesOwn.never (pt_truth (pv 2) (fun _=>rfl)) (pss_cons (ps_set (i:=3) sc_steps_of.nd rfl (by first | exact Or.inl rfl | exact Or.inr rfl) (pe_bm0 PySem.F.plainAttrs_list PySem.F.slot_list_pop PySem.F.type_list_pop mt_pop (pv 2)))
   (pss_one (ps_if (pt_val (pe_isin B.isinstance B.tuple bt_tuple (pv 3))) (pss_cons (ps_asg (pv 3) (pg_tup rfl (pgs_cons (pg_name (i:=4) sc_steps_of.nd rfl (by first | exact Or.inl rfl | exact Or.inr rfl)) (pgs_cons (pg_name (i:=5) sc_steps_of.nd rfl (by first | exact Or.inl rfl | exact Or.inr rfl)) (pgs_cons (pg_name (i:=6) sc_steps_of.nd rfl (by first | exact Or.inl rfl | exact Or.inr rfl)) pgs_nil)))))
   (pss_cons (ps_expr (pe_bm PySem.F.plainAttrs_list PySem.F.slot_list_append PySem.F.type_list_append mt_append (pv 1) (pa_cons (pv 4) pa_nil)))
   (pss_cons (ps_expr (pe_bm PySem.F.plainAttrs_list PySem.F.slot_list_append PySem.F.type_list_append mt_append (pv 2) (pa_cons (pv 5) pa_nil)))
   (pss_one (ps_expr (pe_bm PySem.F.plainAttrs_list PySem.F.slot_list_append PySem.F.type_list_append mt_append (pv 2) (pa_cons (pv 6) pa_nil))))))) (pss_one (ps_expr (pe_bm PySem.F.plainAttrs_list PySem.F.slot_list_append PySem.F.type_list_append mt_append (pv 1) (pa_cons (pv 3) pa_nil))))))))
   (pss_one (ps_ret (pe_rev (pv 1))))))),?_⟩
 refine ⟨(by show 0≤sizeLine; decide),fun ps hps=>⟨_,rfl,(by show 1≤sizeLine; decide),fun pw hpw=>?_⟩⟩
 have hs1:(upd (upd H ps (.lst [])) pw (.lst [v])) ps=some (.lst []):=by rw [upd_ne (ne_of_none upd_same hpw),upd_same]
 have npw:H pw=none:=(Same.new hps).free hpw
 have nsw:ps≠pw:=ne_of_none upd_same hpw
 refine ⟨fun m σ H'=>∃ (vr:List V) (wr:List Way) (st:List V) (a b c d:Option V),σ=[some v,some (.ref ps),some (.ref pw),a,b,c,d]∧Same H H'∧H' ps=some (.lst st)∧H' pw=some (.lst vr.reverse)∧Paired (WayIn H) vr wr∧st++wr.flatMap emit=emit x∧m=sumNodes wr,
  ⟨_,[v],[x],[],none,none,none,none,rfl,(Same.new hps).trans (Same.new hpw),hs1,upd_same,.cons hx .nil,by simp,rfl⟩,?_⟩
 rintro m σ H' ⟨vr,wr,st,a,b,c,d,rfl,sH,h1,h2,pr,eq,em⟩
 have lenAll:st.length + sumNodes wr=x.nodes:=by rw [← emits_len,← List.length_append,eq,emit_len]
 have lenW:=len_le_nodes wr
 have lenV:vr.length=wr.length:=pr.length
 refine ⟨_,rfl,_,.inl ⟨_,SqL.of h2,rfl⟩,?_⟩
 cases pr with
 | nil =>
  refine iteF ?_
  have e:st=emit x:=by simpa using eq
  refine ⟨_,rfl,ps,_,rfl,SqL.of h1,fun p hp=>?_⟩
  refine q p _ (sH.trans (Same.new hp)) ?_
  rw [upd_same,e,emit_rev]
 | @cons y z vr' wr' hy pr' =>
  have e2:(y :: vr').reverse=vr'.reverse++[y]:=List.reverse_cons
  have sn:sumNodes (z :: wr')=z.nodes + sumNodes wr':=by simp [sumNodes]
  rw [sn] at lenAll em
  have lv':vr'.length=wr'.length:=pr'.length
  have lw':=len_le_nodes wr'
  have np:=nodes_pos z
  rw [e2] at h2
  refine (show (if _ then _ else _:Prop) from ?_)
  have ne:(!((y :: vr').reverse).isEmpty)=true:=by rw [e2]; simp
  rw [if_pos ne]
  refine ⟨fun σ' H'=>∃ m',m' < m∧∃ (vr:List V) (wr:List Way) (st:List V) (a b c d:Option V),σ'=[some v,some (.ref ps),some (.ref pw),a,b,c,d]∧Same H H'∧H' ps=some (.lst st)∧H' pw=some (.lst vr.reverse)∧Paired (WayIn H) vr wr∧st++wr.flatMap emit=emit x∧m'=sumNodes wr,fun σ' H' h=>h,?_⟩
  refine ⟨_,rfl,.inl ⟨rfl,_,SqL.of h2⟩,pw,_,y,rfl,rfl,h2,(by simp),?_⟩
  rw [List.dropLast_concat]
  have h1a:(upd H' pw (.lst vr'.reverse)) ps=some (.lst st):=by rw [upd_ne nsw]; exact h1
  have h2a:(upd H' pw (.lst vr'.reverse)) pw=some (.lst vr'.reverse):=upd_same
  have sHa:Same H (upd H' pw (.lst vr'.reverse)):=fun b o e=>by rw [upd_ne (ne_of_none e npw)]; exact sH b o e
  have nps:H ps=none:=hps
  have big:∀ k:Nat,k≤1000→k < sizeLine:=fun k=>small1000
  cases hy with
  | num n =>
   refine ⟨_,rfl,_,_,TyOf.int _,kit_int_tuple _,_,rfl,iteF ?_⟩
   refine ⟨_,rfl,.inl ⟨rfl,_,SqL.of h1a⟩,_,rfl,ps,st,_,rfl,rfl,h1a,big _ (by lia),?_⟩
   refine ⟨sumNodes wr',by lia,vr',wr',st++[.int n],_,_,_,_,rfl,?_,upd_same,?_,pr',?_,rfl⟩
   ·exact fun b o e=>by rw [upd_ne (ne_of_none e nps)]; exact sHa b o e
   ·rw [upd_ne nsw.symm]; exact h2a
   ·rw [List.append_assoc]; exact eq
  | @op p wd x1 y1 a1 b1 h ha hb =>
   refine ⟨_,rfl,_,_,TyOf.tup (sHa _ _ h),kit_tup_tup _,_,rfl,iteT ?_⟩
   refine ⟨_,rfl,p,_,rfl,SqT.of (sHa _ _ h),rfl,_,_,rfl,_,_,rfl,_,_,rfl,rfl,?_⟩
   refine ⟨_,rfl,.inl ⟨rfl,_,SqL.of h1a⟩,_,rfl,ps,st,_,rfl,rfl,h1a,big _ (by lia),?_⟩
   have h2b:(upd (upd H' pw (.lst vr'.reverse)) ps (.lst (st++[.str wd]))) pw=some (.lst vr'.reverse):=by rw [upd_ne nsw.symm]; exact h2a
   have nd:(Way.op wd a1 b1).nodes=a1.nodes + b1.nodes + 1:=rfl
   have n1:=nodes_pos a1
   have n2:=nodes_pos b1
   refine ⟨_,rfl,.inl ⟨rfl,_,SqL.of h2b⟩,_,rfl,pw,_,_,rfl,rfl,h2b,big _ (by rw [List.length_reverse]; lia),?_⟩
   refine ⟨_,rfl,.inl ⟨rfl,_,SqL.of upd_same⟩,_,rfl,pw,_,_,rfl,rfl,upd_same,big _ (by rw [List.length_append,List.length_reverse]; show vr'.length + 1≤1000; lia),?_⟩
   refine ⟨b1.nodes + (a1.nodes + sumNodes wr'),by lia,y1 :: x1 :: vr',b1 :: a1 :: wr',st++[.str wd],_,_,_,_,rfl,?_,?_,?_,.cons hb (.cons ha pr'),?_,by simp [sumNodes]⟩
   ·exact fun b o e=>by rw [upd_ne (ne_of_none e npw),upd_ne (ne_of_none e npw),upd_ne (ne_of_none e nps)]; exact sHa b o e
   ·rw [upd_ne nsw,upd_ne nsw,upd_same]
   ·rw [upd_same,List.reverse_cons,List.reverse_cons]
   ·rw [← eq,List.append_assoc,List.flatMap_cons,List.flatMap_cons,List.flatMap_cons,emit]
    simp
noncomputable abbrev s_deeds_of:Stmt:=top 14
theorem sc_deeds_of:FnScope ["way"] ["way"] (defScope s_deeds_of):=⟨rfl,rfl,rfl,by decide +kernel,rfl,by decide +kernel,by decide +kernel⟩
theorem ok_deeds_of {f:Addr} {fd:FuncData} (F:Fun K "deeds_of" "deeds_of" s_deeds_of f fd) (B:Blt mg) (Gsteps:Def P w K mg base CX0 1 "steps_of" spSteps):FnOk P w K mg base CX0 2 f fd ["way"] spDeeds:=by
 refine F.ok sc_deeds_of (fun vs H Q E h=>?_) (fun cdv A outer s H vs Q E hr h=>?_)
 ·obtain ⟨v,x,rfl,_⟩:=h
  rfl
 obtain ⟨v,x,rfl,hx,hn,q⟩:=h
 refine ⟨_,(pss_one (ps_ret (pe_callB call_len_seq rfl B.len bt_len (pa_cons (pe_compC (N:=["step"]) rfl (csC_of [none] rfl (by decide +kernel) (by decide +kernel) rfl rfl) rfl (pi_list (pe_def Gsteps (hr.mono (by lia)) (pa_cons (pv 0) pa_nil))) (fun _ _ _ _=>(pg_name (i:=0) (show (["step"]:List Str).Nodup by decide +kernel) rfl (by first | exact Or.inl rfl | exact Or.inr rfl))) (fun _ _ _ _=>(ptl_one (pt_val (pe_isin B.isinstance B.str bt_str (pv 0))))) (fun _ _ _ _=>(pv 0))) pa_nil)))),?_⟩
 refine ⟨_,rfl,v,x,rfl,hx,hn,fun r H2 s2 hr2=>⟨r,rfl,⟨_,SqL.of hr2⟩,fun Dl hD C s3 fp=>comp_list (K:=K) (a:=r) (xs:=post x)
  (fun i ys σ H'=>∃ z,σ=[z]∧Same H H'∧H' r=some (.lst (post x))∧ys=((post x).take i).filter isS) (fun i ys σ H' ⟨_,_,_,g,_⟩=>SqL.of g) ⟨none,rfl,s2.trans (Same.new hD),Same.new hD _ _ hr2,rfl⟩ ?_ ?_⟩⟩
 ·rintro i y ys σ H' hi hl ⟨z,rfl,sH,g,ey⟩ e
  have nrd:r≠Dl:=ne_of_none hr2 hD
  have nD:H Dl=none:=s2.free hD
  have tf:=take_filter (p:=isS) hi
  have pl:=post_len x
  have il:i < (post x).length:=(List.getElem?_eq_some_iff.mp hi).1
  rcases post_kind (List.mem_of_getElem? hi) with ⟨k,rfl⟩ | ⟨wd,rfl⟩
  ·refine ⟨_,rfl,_,_,TyOf.int _,kit_int_str _,_,rfl,iteF ?_⟩
   refine ⟨ys,Nat.le_succ_of_le hl,⟨_,rfl,sH,g,?_⟩,e⟩
   rw [tf,ey]
   show _=_++[]
   rw [List.append_nil]
  ·refine ⟨_,rfl,_,_,TyOf.str _,kit_str_str _,_,rfl,iteT ?_⟩
   refine ⟨_,rfl,ys,e,small1000 (by lia),?_⟩
   refine ⟨_,by rw [List.length_append]; exact Nat.add_le_add_right hl 1,⟨_,rfl,fun b o eb=>?_,?_,?_⟩,upd_same⟩
   ·rw [upd_ne (ne_of_none eb nD)]; exact sH b o eb
   ·rw [upd_ne nrd]; exact g
   ·rw [tf,ey]; rfl
 ·rintro ys σ H' ⟨z,rfl,sH,g,ey⟩ e
  refine ⟨Dl,ys,rfl,.inl (SqL.of e),?_⟩
  rw [ey,List.take_length,post_words]
  exact q H' sH
noncomputable abbrev s_numbers_of:Stmt:=top 15
theorem sc_numbers_of:FnScope ["way"] ["way"] (defScope s_numbers_of):=⟨rfl,rfl,rfl,by decide +kernel,rfl,by decide +kernel,by decide +kernel⟩
theorem ok_numbers_of {f:Addr} {fd:FuncData} (F:Fun K "numbers_of" "numbers_of" s_numbers_of f fd) (B:Blt mg) (Gsteps:Def P w K mg base CX0 1 "steps_of" spSteps):FnOk P w K mg base CX0 2 f fd ["way"] spNumbers:=by
 refine F.ok sc_numbers_of (fun vs H Q E h=>?_) (fun cdv A outer s H vs Q E hr h=>?_)
 ·obtain ⟨v,x,rfl,_⟩:=h
  rfl
 obtain ⟨v,x,rfl,hx,hn,q⟩:=h
 refine ⟨_,(pss_one (ps_ret (pe_callTy call_tuple_of rfl B.tuple bt_tuple (pa_cons (pe_compC (N:=["step"]) rfl (csC_of [none] rfl (by decide +kernel) (by decide +kernel) rfl rfl) rfl (pi_list (pe_def Gsteps (hr.mono (by lia)) (pa_cons (pv 0) pa_nil))) (fun _ _ _ _=>(pg_name (i:=0) (show (["step"]:List Str).Nodup by decide +kernel) rfl (by first | exact Or.inl rfl | exact Or.inr rfl))) (fun _ _ _ _=>(ptl_one (pt_not (pt_val (pe_isin B.isinstance B.str bt_str (pv 0)))))) (fun _ _ _ _=>(pv 0))) pa_nil)))),?_⟩
 refine ⟨_,rfl,v,x,rfl,hx,hn,fun r H2 s2 hr2=>⟨r,rfl,⟨_,SqL.of hr2⟩,fun Dl hD C s3 fp=>comp_list (K:=K) (a:=r) (xs:=post x)
  (fun i ys σ H'=>∃ z,σ=[z]∧Same H H'∧H' r=some (.lst (post x))∧ys=((post x).take i).filter (fun v=>!isS v)) (fun i ys σ H' ⟨_,_,_,g,_⟩=>SqL.of g) ⟨none,rfl,s2.trans (Same.new hD),Same.new hD _ _ hr2,rfl⟩ ?_ ?_⟩⟩
 ·rintro i y ys σ H' hi hl ⟨z,rfl,sH,g,ey⟩ e
  have nrd:r≠Dl:=ne_of_none hr2 hD
  have nD:H Dl=none:=s2.free hD
  have tf:=take_filter (p:=fun v=>!isS v) hi
  have pl:=post_len x
  have il:i < (post x).length:=(List.getElem?_eq_some_iff.mp hi).1
  rcases post_kind (List.mem_of_getElem? hi) with ⟨k,rfl⟩ | ⟨wd,rfl⟩
  ·refine ⟨_,rfl,_,_,TyOf.int _,kit_int_str _,_,rfl,iteT ?_⟩
   refine ⟨_,rfl,ys,e,small1000 (by lia),?_⟩
   refine ⟨_,by rw [List.length_append]; exact Nat.add_le_add_right hl 1,⟨_,rfl,fun b o eb=>?_,?_,?_⟩,upd_same⟩
   ·rw [upd_ne (ne_of_none eb nD)]; exact sH b o eb
   ·rw [upd_ne nrd]; exact g
   ·rw [tf,ey]; rfl
  ·refine ⟨_,rfl,_,_,TyOf.str _,kit_str_str _,_,rfl,iteF ?_⟩
   refine ⟨ys,Nat.le_succ_of_le hl,⟨_,rfl,sH,g,?_⟩,e⟩
   rw [tf,ey]
   show _=_++[]
   rw [List.append_nil]
 ·rintro ys σ H' ⟨z,rfl,sH,g,ey⟩ e
  refine ⟨Dl,ys,rfl,.inl ⟨SqL.of e,fun t ht=>?_⟩⟩
  rw [List.take_length,post_nums] at ey
  refine q t _ (sH.trans (Same.new ht)) ?_
  rw [upd_same,ey]
end
end Law
namespace Law
open PySem L2
section
variable {P:Program} {w:World} {K:PySem.W.Frag} {mg:Str→Option Value} {base:Heap}
theorem inV_two {a b w:Str}:inV (.str w) [V.str a,V.str b]=true↔(w=a∨w=b):=by
 show ((a == w) || ((b == w) || false))=true↔_
 constructor
 ·intro h
  rcases Bool.or_eq_true_iff.mp h with h | h
  ·exact .inl (eq_of_beq h).symm
  ·rcases Bool.or_eq_true_iff.mp h with h | h
   ·exact .inr (eq_of_beq h).symm
   ·cases h
 ·rintro (rfl | rfl)
  ·rw [beq_self_eq_true,Bool.true_or]
  ·rw [beq_self_eq_true,Bool.true_or,Bool.or_true]
end
end Law
namespace L2
open PySem PySem.Spec PyProof.Rows Law
noncomputable def isF (d:D):Prop:=(∃ i,d=.int i)∨∃ l,d=.tup l
noncomputable def rEqF (K:PySem.W.Frag) (neg:Bool):R2:=fun x y H Q=>∃ d e:D,Rep K H d x∧Rep K H e y∧L2.isF d∧L2.isF e∧d.dep≤50∧Q (.bl (if neg then !eqD d e else eqD d e)) H
theorem op_neF {X:Cx} (hA:X.A.units + 60 < cLine):OpR X (compareOp .NotEq) (rEqF X.K true):=by
 intro pins s σ H x y u v Q I ru rv h
 obtain ⟨d,e,hd,he,fd,fe,hdep,q⟩:=h
 rcases fd with ⟨i,rfl⟩ | ⟨l,rfl⟩ <;> rcases fe with ⟨j,rfl⟩ | ⟨m,rfl⟩
 ·unfold Rep at hd he
  subst hd he
  refine op_ne pins s σ H _ _ u v Q I ru rv ⟨rfl,?_⟩
  rw [L2.dec_int]
  rw [if_pos rfl,eqD] at q
  exact q
 ·unfold Rep at hd he
  subst hd
  obtain ⟨p,xs,rfl,hq,_⟩:=he
  obtain ⟨t,rfl⟩:=ru
  cases rv
  obtain ⟨its,r,ht,_⟩:=I.tuple hq
  have q':Q (.bl true) H:=by
   rw [if_pos rfl] at q
   simpa [eqD] using q
  exact SeqAt.RcNeAt.int_tuple i t (show s.heap.IsTuple p its.toArray from ht) (by lia) X.prog X.w X.xe _ ⟨.bl true,H,I,rfl,q'⟩
 ·unfold Rep at hd he
  subst he
  obtain ⟨p,xs,rfl,hq,_⟩:=hd
  obtain ⟨t,rfl⟩:=rv
  cases ru
  obtain ⟨its,r,ht,_⟩:=I.tuple hq
  have q':Q (.bl true) H:=by
   rw [if_pos rfl] at q
   simpa [eqD] using q
  exact SeqAt.RcNeAt.tuple_int j t (show s.heap.IsTuple p its.toArray from ht) (by lia) X.prog X.w X.xe _ ⟨.bl true,H,I,rfl,q'⟩
 ·refine op_neS hA pins s σ H x y u v Q I ru rv ⟨l,m,.inr ⟨hd,he⟩,?_,?_⟩
  ·rw [D.dep] at hdep; lia
  ·rw [if_pos rfl] at q ⊢
   rw [eqD] at q
   exact q
end L2
namespace Law
open PySem L2
section
variable {P:Program} {w:World} {K:PySem.W.Frag} {mg:Str→Option Value} {base:Heap}
end
end Law
namespace Law
open PySem L2
section
variable {P:Program} {w:World} {K:PySem.W.Frag} {mg:Str→Option Value} {base:Heap}
end
namespace Wy
section
variable {P:Program} {w:World} {K:PySem.W.Frag} {mg:Str→Option Value} {base:Heap}
noncomputable def spId:Sp:=fun vs H Q _=>∃ v:V,vs=[v]∧Q v H
noncomputable def spMk:Sp:=fun vs H Q _=>∃ a b c:V,vs=[a,b,c]∧∀ t,H t=none→Q (.ref t) (upd H t (.tup [a,b,c]))
noncomputable abbrev s_number_itself:Stmt:=top 11
theorem sc_number_itself:FnScope ["number"] ["number"] (defScope s_number_itself):=⟨rfl,rfl,rfl,by decide +kernel,rfl,by decide +kernel,by decide +kernel⟩
theorem ok_id {f:Addr} {fd:FuncData} (F:Fun K "number_itself" "number_itself" s_number_itself f fd):FnOk P w K mg base CX0 1 f fd ["number"] spId:=by
 refine F.ok sc_number_itself (fun vs H Q E h=>?_) (fun cdv A outer s H vs Q E hr h=>?_)
 ·obtain ⟨v,rfl,_⟩:=h
  rfl
 obtain ⟨v,rfl,q⟩:=h
 exact ⟨_,(pss_one (ps_ret (pv 0))),⟨_,rfl,q⟩⟩
noncomputable abbrev s_way_with:Stmt:=top 30
theorem sc_way_with:FnScope ["word","first","second"] ["word","first","second"] (defScope s_way_with):=⟨rfl,rfl,rfl,by decide +kernel,rfl,by decide +kernel,by decide +kernel⟩
theorem ok_mk {f:Addr} {fd:FuncData} (F:Fun K "way_with" "way_with" s_way_with f fd):FnOk P w K mg base CX0 1 f fd ["word","first","second"] spMk:=by
 refine F.ok sc_way_with (fun vs H Q E h=>?_) (fun cdv A outer s H vs Q E hr h=>?_)
 ·obtain ⟨a,b,c,rfl,_⟩:=h
  rfl
 obtain ⟨a,b,c,rfl,q⟩:=h
 exact ⟨_,(pss_one (ps_ret (pe_tup (pa_cons (pv 0) (pa_cons (pv 1) (pa_cons (pv 2) pa_nil)))))),⟨_,rfl,_,rfl,_,rfl,(by show 3≤sizeLine; decide),fun t ht=>q t ht⟩⟩
noncomputable def wayRun:List V→List Way→Option (List Way)
 | [],st=>some st
 | .int n :: r,st=>wayRun r (.num n :: st)
 | .str w :: r,b :: a :: st=>wayRun r (.op w a b :: st)
 | _,_=>none
theorem wr_int (n:Int) (r:List V) (st:List Way):wayRun (.int n :: r) st=wayRun r (.num n :: st):=by rw [wayRun]
theorem wr_str (w:Str) (r:List V) (a b:Way) (st:List Way):wayRun (.str w :: r) (b :: a :: st)=wayRun r (.op w a b :: st):=by rw [wayRun]
theorem wr_some {y:V} {r:List V} {st out:List Way} (h:wayRun (y :: r) st=some out):(∃ n:Int,y=.int n∧wayRun r (.num n :: st)=some out)∨∃ (w:Str) (a b:Way) (t:List Way),y=.str w∧st=b :: a :: t∧wayRun r (.op w a b :: t)=some out:=by
 cases y with
 | int n=>rw [wr_int] at h; exact .inl ⟨n,rfl,h⟩
 | str w =>
  match st,h with
  | [],h=>simp [wayRun] at h
  | [_],h=>simp [wayRun] at h
  | b :: a :: t,h=>rw [wr_str] at h; exact .inr ⟨w,a,b,t,rfl,rfl,h⟩
 | _=>simp [wayRun] at h
theorem wr_post:∀ (x:Way) (r:List V) (st:List Way),wayRun (post x++r) st=wayRun r (x :: st):=by
 intro x
 induction x with
 | num n=>intro r st; show wayRun (.int n :: r) st=_; rw [wr_int]
 | op w a b iha ihb =>
  intro r st
  show wayRun ((post a++post b++[.str w])++r) st=_
  rw [List.append_assoc,List.append_assoc,iha,ihb]
  exact wr_str w r a b st
noncomputable def spCome (fN fW:Addr):Sp:=fun vs H Q _=>∃ (r:Addr) (x:Way),vs=[.ref r,.ref fN,.ref fW]∧H r=some (.lst (post x))∧x.nodes≤900∧∀ (v:V) (H':Hp),Same H H'→WayIn H' v x→Q v H'
noncomputable abbrev s_come_of:Stmt:=top 10
theorem sc_come_of:FnScope ["steps","of_number","of_word","come","step","second","first"] ["steps","of_number","of_word"] (defScope s_come_of):=⟨rfl,rfl,rfl,by decide +kernel,rfl,by decide +kernel,by decide +kernel⟩
theorem ok_come {f fN fW:Addr} {fd:FuncData} (F:Fun K "come_of" "come_of" s_come_of f fd) (B:Blt mg) (CN:Callee P w K mg base CX0 1 fN spId) (CW:Callee P w K mg base CX0 1 fW spMk):FnOk P w K mg base CX0 2 f fd ["steps","of_number","of_word"] (spCome fN fW):=by
 have FN_ok:∀ g sp,(g=fN∧sp=spId)→Callee P w K mg base CX0 1 g sp:=by
  rintro g sp ⟨rfl,rfl⟩
  exact CN
 have FW_ok:∀ g sp,(g=fW∧sp=spMk)→Callee P w K mg base CX0 1 g sp:=by
  rintro g sp ⟨rfl,rfl⟩
  exact CW
 refine F.ok sc_come_of (fun vs H Q E h=>?_) (fun cdv A outer s H vs Q E hr h=>?_)
 ·obtain ⟨r,x,rfl,_⟩:=h
  rfl
 obtain ⟨r,x,rfl,hr1,hn,q⟩:=h
 refine ⟨_,(pss_cons (ps_set (i:=3) sc_come_of.nd rfl (by first | exact Or.inl rfl | exact Or.inr rfl) (pe_lst pa_nil))
   (pss_cons (ps_for PassesOwn.never rfl (pi_list (pv 0)) (pg_name (i:=4) sc_come_of.nd rfl (by first | exact Or.inl rfl | exact Or.inr rfl)) (pss_one (ps_if (pt_val (pe_isin B.isinstance B.str bt_str (pv 4))) (pss_cons (ps_set (i:=5) sc_come_of.nd rfl (by first | exact Or.inl rfl | exact Or.inr rfl) (pe_bm0 PySem.F.plainAttrs_list PySem.F.slot_list_pop PySem.F.type_list_pop mt_pop (pv 3)))
   (pss_cons (ps_set (i:=6) sc_come_of.nd rfl (by first | exact Or.inl rfl | exact Or.inr rfl) (pe_bm0 PySem.F.plainAttrs_list PySem.F.slot_list_pop PySem.F.type_list_pop mt_pop (pv 3)))
   (pss_one (ps_expr (pe_bm PySem.F.plainAttrs_list PySem.F.slot_list_append PySem.F.type_list_append mt_append (pv 3) (pa_cons (pe_callV FW_ok (hr.mono (by lia)) pass0 (pv 2) (pa_cons (pv 4) (pa_cons (pv 6) (pa_cons (pv 5) pa_nil)))) pa_nil)))))) (pss_one (ps_expr (pe_bm PySem.F.plainAttrs_list PySem.F.slot_list_append PySem.F.type_list_append mt_append (pv 3) (pa_cons (pe_callV FN_ok (hr.mono (by lia)) pass0 (pv 1) (pa_cons (pv 4) pa_nil)) pa_nil)))))))
   (pss_one (ps_ret (pe_ix ix_list (pv 3) pe_int (fun _ _=>rfl)))))),?_⟩
 refine ⟨(by show 0≤sizeLine; decide),fun pw hpw=>?_⟩
 have pl:=post_len x
 have nrw:r≠pw:=ne_of_none hr1 hpw
 refine ⟨_,rfl,r,rfl,⟨_,SqL.of (Same.new hpw _ _ hr1)⟩,for_list (K:=K) (a:=r) (xs:=post x) (fun i σ H'=>∃ (vr:List V) (st:List Way) (a b c:Option V),σ=[some (.ref r),some (.ref fN),some (.ref fW),some (.ref pw),a,b,c]∧Same H H'∧H' pw=some (.lst vr.reverse)∧Paired (WayIn H') vr st∧st.length≤i∧wayRun ((post x).drop i) st=some [x])
  ⟨[],[],none,none,none,rfl,Same.new hpw,upd_same,.nil,Nat.le_refl _,by have:=wr_post x [] []; rw [List.append_nil] at this; exact this⟩ (fun i σ H' _ ⟨_,_,_,_,_,_,g,_⟩=>SqL.of (g _ _ hr1)) ?_ ?_⟩
 ·rintro i y σ H' hi ⟨vr,st,a,b,c,rfl,sH,hP,pr,hl,hrn⟩
  have il:i < (post x).length:=(List.getElem?_eq_some_iff.mp hi).1
  have ed:(post x).drop i=y :: (post x).drop (i + 1):=by
   rw [List.drop_eq_getElem_cons il,(List.getElem?_eq_some_iff.mp hi).2]
  rw [ed] at hrn
  have big:∀ k:Nat,k≤1000→k < sizeLine:=fun k=>small1000
  have sU:∀ (o:HO) (H'':Hp),Same H H''→Same H (upd H'' pw o):=fun o H'' s b u e=>by rw [upd_ne (ne_of_none e hpw)]; exact s b u e
  have lv:vr.length=st.length:=pr.length
  rcases wr_some hrn with ⟨n,rfl,hrn⟩ | ⟨wd,a1,b1,t,rfl,rfl,hrn⟩
  ·refine ⟨_,rfl,_,_,TyOf.int _,kit_int_str _,_,rfl,iteF ?_⟩
   refine ⟨_,rfl,.inl ⟨rfl,_,SqL.of hP⟩,_,rfl,fN,spId,rfl,⟨rfl,rfl⟩,_,rfl,_,rfl,pw,_,_,rfl,rfl,hP,big _ (by rw [List.length_reverse]; lia),?_⟩
   have k1:KT H' (upd H' pw (.lst (vr.reverse++[.int n]))):=KT.upd hP
   exact ⟨.int n :: vr,.num n :: st,_,_,_,rfl,sU _ _ sH,by rw [upd_same,List.reverse_cons],.cons (.num n) (L2.Paired.mapP pr fun _ _ h=>h.kt k1),Nat.succ_le_succ hl,hrn⟩
  ·cases pr with
   | @cons v2 _ vr1 _ h2 pr1 =>
   cases pr1 with
   | @cons v1 _ vr2 _ h1 pr2 =>
   have e2:(v2 :: v1 :: vr2).reverse=(vr2.reverse++[v1])++[v2]:=by simp
   rw [e2] at hP
   refine ⟨_,rfl,_,_,TyOf.str _,kit_str_str _,_,rfl,iteT ?_⟩
   refine ⟨_,rfl,.inl ⟨rfl,_,SqL.of hP⟩,pw,_,v2,rfl,rfl,hP,(by simp),?_⟩
   rw [List.dropLast_concat]
   refine ⟨_,rfl,.inl ⟨rfl,_,SqL.of upd_same⟩,pw,_,v1,rfl,rfl,upd_same,(by simp),?_⟩
   rw [List.dropLast_concat]
   have l2:vr2.length + 2=t.length + 2:=by simpa using lv
   have l3:t.length + 2≤i:=by simpa using hl
   refine ⟨_,rfl,.inl ⟨rfl,_,SqL.of upd_same⟩,_,rfl,fW,spMk,rfl,⟨rfl,rfl⟩,_,rfl,_,rfl,_,rfl,_,_,_,rfl,fun tp htp=>?_⟩
   have k0:KT H' (upd (upd H' pw (.lst (vr2.reverse++[v1]))) pw (.lst vr2.reverse)):=(KT.upd hP).trans (KT.upd upd_same)
   have hP2:(upd (upd (upd H' pw (.lst (vr2.reverse++[v1]))) pw (.lst vr2.reverse)) tp (.tup [.str wd,v1,v2])) pw=some (.lst vr2.reverse):=Same.new htp _ _ upd_same
   refine ⟨pw,_,_,rfl,rfl,hP2,big _ (by rw [List.length_reverse]; lia),?_⟩
   have k1:=k0.trans ((KT.new (o:=.tup [.str wd,v1,v2]) htp).trans (KT.upd (o:=.lst (vr2.reverse++[.ref tp])) hP2))
   have ntp:tp≠pw:=fun e=>by rw [e,upd_same] at htp; cases htp
   have sH2:Same H (upd (upd (upd H' pw (.lst (vr2.reverse++[v1]))) pw (.lst vr2.reverse)) tp (.tup [.str wd,v1,v2])):=(sU _ _ (sU _ _ sH)).trans (Same.new htp)
   exact ⟨.ref tp :: vr2,.op wd a1 b1 :: t,_,_,_,rfl,sU _ _ sH2,by rw [upd_same,List.reverse_cons],.cons (.op (by rw [upd_ne ntp,upd_same]) (h1.kt k1) (h2.kt k1)) (L2.Paired.mapP pr2 fun _ _ h=>h.kt k1),by show t.length + 1≤i + 1; lia,hrn⟩
 ·rintro σ H' ⟨vr,st,a,b,c,rfl,sH,hP,pr,hl,hrn⟩
  rw [List.drop_length,wayRun] at hrn
  cases hrn
  cases pr with
  | @cons v _ vr1 _ h1 pr1 =>
  cases pr1
  exact ⟨_,rfl,pw,_,_,v,rfl,rfl,SqL.of hP,rfl,q v H' sH h1⟩
theorem Dats.app {H:Hp}:∀ {a b:List D} {xs ys:List V},Dats H a xs→Dats H b ys→Dats H (a++b) (xs++ys)
 | [],b,xs,ys,h,h2=>by rw [h.nilE]; exact h2
 | d :: r,b,xs,ys,h,h2=>by
  obtain ⟨x,t,rfl,h1,h3⟩:=h.consE
  exact .consI h1 (Dats.app h3 h2)
theorem dat_grp {H:Hp} {k:Str} {m0:D} {more off:List D} {v:V} (h:Dat H (.tup [.str k,.tup (m0 :: more),.tup off]) v):∃ (p pm po:Addr) (x0:V) (xm xo:List V),v=.ref p∧H p=some (.tup [.str k,.ref pm,.ref po])∧H pm=some (.tup (x0 :: xm))∧H po=some (.tup xo)∧Dat H m0 x0∧Dats H more xm∧Dats H off xo:=by
 obtain ⟨p,xs,rfl,hp,h⟩:=h.tupE
 obtain ⟨a,r,rfl,ha,h⟩:=h.consE
 obtain ⟨b,r,rfl,hb,h⟩:=h.consE
 obtain ⟨c,r,rfl,hc,h⟩:=h.consE
 have:=h.nilE
 subst this
 have:=ha.strE
 subst this
 obtain ⟨pm,xm,rfl,hpm,hm⟩:=hb.tupE
 obtain ⟨po,xo,rfl,hpo,ho⟩:=hc.tupE
 obtain ⟨x0,r,rfl,h0,hm⟩:=hm.consE
 exact ⟨p,pm,po,x0,r,xo,rfl,hp,hpm,hpo,h0,hm,ho⟩
theorem Dats.pairs {H:Hp} (w:Str):∀ {l:List D} {xs:List V},Dats H l xs→Dats H (l.flatMap fun p=>[p,.str w]) (xs.flatMap fun y=>[y,.str w])
 | [],xs,h=>by rw [h.nilE]; exact .nilI H
 | d :: r,xs,h=>by
  obtain ⟨x,t,rfl,h1,h2⟩:=h.consE
  exact .consI h1 (.consI (.strI w) (Dats.pairs w h2))
noncomputable def spUnf:Sp:=fun vs H Q _=>∃ (v:V) (k:Str) (m0:D) (more off:List D),vs=[v]∧Dat H (.tup [.str k,.tup (m0 :: more),.tup off]) v∧(k="sum"∨k="product")∧more.length + off.length≤400∧∀ (r:Addr) (us:List V) (H':Hp),Same H H'→H' r=some (.lst us)→Dats H' (unf (.tup [.str k,.tup (m0 :: more),.tup off])) us→Q (.ref r) H'
theorem pairs_len (w:Str):∀ xs:List V,(xs.flatMap fun y=>[y,V.str w]).length=2 * xs.length
 | []=>rfl
 | x :: r=>by
  rw [List.flatMap_cons,List.length_append,pairs_len w r]
  show 2 + 2 * r.length=2 * (r.length + 1)
  lia
theorem pairs_take {w:Str} {xs:List V} {i:Nat} {y:V} (h:xs[i]?=some y):((xs.take (i + 1)).flatMap fun y=>[y,V.str w])=((xs.take i).flatMap fun y=>[y,V.str w])++[y,.str w]:=by
 have il:=(List.getElem?_eq_some_iff.mp h).1
 rw [List.take_succ,h]
 simp
noncomputable abbrev s_unfolded:Stmt:=top 32
theorem sc_unfolded:FnScope ["form","kind","more","off","row","part"] ["form"] (defScope s_unfolded):=⟨rfl,rfl,rfl,by decide +kernel,rfl,by decide +kernel,by decide +kernel⟩
theorem ok_unf {f dP dT:Addr} {fd:FuncData} (F:Fun K "unfolded" "unfolded" s_unfolded f fd) (B:Blt mg) (mP:mg "PUT"=some (.ref dP)) (mT:mg "TAKEN"=some (.ref dT)) (TP:TopDict w K dP) (TT:TopDict w K dT)
  (hP:∀ k:Str,(k="sum"∨k="product")→∃ t,PySem.W.nsIn K dP k=some (some (.str (pt k) t))) (hT:∀ k:Str,(k="sum"∨k="product")→∃ t,PySem.W.nsIn K dT k=some (some (.str (tk k) t))):FnOk P w K mg base CX0 1 f fd ["form"] spUnf:=by
 refine F.ok sc_unfolded (fun vs H Q E h=>?_) (fun cdv A outer s H vs Q E hr h=>?_)
 ·obtain ⟨v,k,m0,more,off,rfl,_⟩:=h
  rfl
 obtain ⟨v,k,m0,more,off,rfl,hd,hk,hl,q⟩:=h
 obtain ⟨p,pm,po,x0,xm,xo,rfl,hp,hpm,hpo,h0,h1,h2⟩:=dat_grp hd
 have l1:=h1.len
 have l2:=h2.len
 obtain ⟨t1,e1⟩:=hP k hk
 obtain ⟨t2,e2⟩:=hT k hk
 refine ⟨_,(pss_cons (ps_asg (pv 0) (pg_tup rfl (pgs_cons (pg_name (i:=1) sc_unfolded.nd rfl (by first | exact Or.inl rfl | exact Or.inr rfl)) (pgs_cons (pg_name (i:=2) sc_unfolded.nd rfl (by first | exact Or.inl rfl | exact Or.inr rfl)) (pgs_cons (pg_name (i:=3) sc_unfolded.nd rfl (by first | exact Or.inl rfl | exact Or.inr rfl)) pgs_nil)))))
   (pss_cons (ps_set (i:=4) sc_unfolded.nd rfl (by first | exact Or.inl rfl | exact Or.inr rfl) (pe_lst (pa_cons (pe_ix ix_tup (pv 2) pe_int (fun _ _=>rfl)) pa_nil)))
   (pss_cons (ps_for PassesOwn.never rfl (pi_tup (pe_slice sl_tup (pv 2) (po_some pe_int) po_none)) (pg_name (i:=5) sc_unfolded.nd rfl (by first | exact Or.inl rfl | exact Or.inr rfl)) (pss_cons (ps_expr (pe_bm PySem.F.plainAttrs_list PySem.F.slot_list_append PySem.F.type_list_append mt_append (pv 4) (pa_cons (pv 5) pa_nil)))
   (pss_one (ps_expr (pe_bm PySem.F.plainAttrs_list PySem.F.slot_list_append PySem.F.type_list_append mt_append (pv 4) (pa_cons (pe_ix ix_top (pe_glob (v:=.ref dP) rfl mP rfl) (pv 1) (fun _ _=>rfl)) pa_nil))))))
   (pss_cons (ps_for PassesOwn.never rfl (pi_tup (pv 3)) (pg_name (i:=5) sc_unfolded.nd rfl (by first | exact Or.inl rfl | exact Or.inr rfl)) (pss_cons (ps_expr (pe_bm PySem.F.plainAttrs_list PySem.F.slot_list_append PySem.F.type_list_append mt_append (pv 4) (pa_cons (pv 5) pa_nil)))
   (pss_one (ps_expr (pe_bm PySem.F.plainAttrs_list PySem.F.slot_list_append PySem.F.type_list_append mt_append (pv 4) (pa_cons (pe_ix ix_top (pe_glob (v:=.ref dT) rfl mT rfl) (pv 1) (fun _ _=>rfl)) pa_nil))))))
   (pss_one (ps_ret (pv 4))))))),?_⟩
 refine ⟨_,rfl,p,_,rfl,SqT.of hp,rfl,_,_,rfl,_,_,rfl,_,_,rfl,rfl,?_⟩
 refine ⟨_,rfl,pm,_,0,x0,rfl,rfl,SqT.of hpm,atI_nat (j:=0) rfl,(by show 1≤sizeLine; decide),fun r hr0=>?_⟩
 refine ⟨_,rfl,_,rfl,pm,_,rfl,SqT.of (Same.new hr0 _ _ hpm),?_,fun tp htp=>?_⟩
 ·intro z
  have:min (1:Int).toNat (xm.length + 1)=0:=z.1
  lia
 have ec:cutV (x0 :: xm) (some 1) none=xm:=by
  unfold cutV
  show ((x0 :: xm).drop (min 1 (xm.length + 1))).take (xm.length + 1 - min 1 (xm.length + 1))=xm
  rw [Nat.min_eq_left (by lia)]
  show xm.take (xm.length + 1 - 1)=xm
  rw [Nat.add_sub_cancel,List.take_length]
 rw [ec]
 have s1:Same H (upd (upd H r (.lst [x0])) tp (.tup xm)):=(Same.new hr0).trans (Same.new htp)
 have ntr:r≠tp:=ne_of_none upd_same htp
 have np:H tp=none:=(Same.new hr0).free htp
 have big:∀ k:Nat,k≤1000→k < sizeLine:=fun k=>small1000
 have sU:∀ (o:HO) (H'':Hp),Same H H''→Same H (upd H'' r o):=fun o H'' s b u e=>by rw [upd_ne (ne_of_none e hr0)]; exact s b u e
 refine ⟨tp,rfl,⟨_,SqT.of upd_same⟩,for_tup (K:=K) (a:=tp) (xs:=xm) (fun i σ H'=>∃ o,σ=[some (.ref p),some (.str k),some (.ref pm),some (.ref po),some (.ref r),o]∧Same H H'∧H' tp=some (.tup xm)∧H' r=some (.lst (x0 :: ((xm.take i).flatMap fun y=>[y,V.str (pt k)])))) ⟨none,rfl,s1,upd_same,by rw [upd_ne ntr,upd_same]; rfl⟩ (fun i σ H' _ ⟨_,_,_,g,_⟩=>SqT.of g) ?_ ?_⟩
 ·rintro i y σ H' hi ⟨o,rfl,sH,gt,gr⟩
  have il:=(List.getElem?_eq_some_iff.mp hi).1
  have ln:(x0 :: ((xm.take i).flatMap fun y=>[y,V.str (pt k)])).length≤900:=by
   rw [List.length_cons,pairs_len,List.length_take]; lia
  refine ⟨_,rfl,.inl ⟨rfl,_,SqL.of gr⟩,_,rfl,r,_,_,rfl,rfl,gr,big _ (by lia),?_⟩
  refine ⟨_,rfl,.inl ⟨rfl,_,SqL.of upd_same⟩,?_⟩
  refine ⟨_,rfl,dP,k,.str (pt k),_,rfl,rfl,TP,e1,⟨t1,rfl⟩,?_⟩
  refine ⟨r,_,_,rfl,rfl,upd_same,big _ (by rw [List.length_append]; show _ + 1≤_; lia),?_⟩
  refine ⟨_,rfl,sU _ _ (sU _ _ sH),by rw [upd_ne ntr.symm,upd_ne ntr.symm]; exact gt,?_⟩
  rw [upd_same,pairs_take hi]
  simp
 rintro σ H' ⟨o,rfl,sH,gt,gr⟩
 rw [List.take_length] at gr
 have s2:=sH
 refine ⟨_,rfl,po,rfl,⟨_,SqT.of (sH _ _ hpo)⟩,for_tup (K:=K) (a:=po) (xs:=xo) (fun i σ H'=>∃ o,σ=[some (.ref p),some (.str k),some (.ref pm),some (.ref po),some (.ref r),o]∧Same H H'∧H' r=some (.lst (x0 :: (xm.flatMap fun y=>[y,V.str (pt k)])++((xo.take i).flatMap fun y=>[y,V.str (tk k)])))) ⟨_,rfl,sH,by rw [gr]; simp⟩ (fun i σ H' _ ⟨_,_,g,_⟩=>SqT.of (g _ _ hpo)) ?_ ?_⟩
 ·rintro i y σ H' hi ⟨o,rfl,sH,gr⟩
  have il:=(List.getElem?_eq_some_iff.mp hi).1
  have ln:(x0 :: (xm.flatMap fun y=>[y,V.str (pt k)])++((xo.take i).flatMap fun y=>[y,V.str (tk k)])).length≤900:=by
   rw [List.length_append,List.length_cons,pairs_len,pairs_len,List.length_take]; lia
  refine ⟨_,rfl,.inl ⟨rfl,_,SqL.of gr⟩,_,rfl,r,_,_,rfl,rfl,gr,big _ (by lia),?_⟩
  refine ⟨_,rfl,.inl ⟨rfl,_,SqL.of upd_same⟩,?_⟩
  refine ⟨_,rfl,dT,k,.str (tk k),_,rfl,rfl,TT,e2,⟨t2,rfl⟩,?_⟩
  refine ⟨r,_,_,rfl,rfl,upd_same,big _ (by rw [List.length_append]; show _ + 1≤_; lia),?_⟩
  refine ⟨_,rfl,sU _ _ (sU _ _ sH),?_⟩
  rw [upd_same,pairs_take hi]
  simp
 rintro σ H' ⟨o,rfl,sH,gr⟩
 rw [List.take_length] at gr
 refine ⟨_,rfl,q r _ H' sH gr ?_⟩
 have kt:=KT.same sH
 exact .consI (Dat.kt kt _ h0) (Dats.app (Dats.pairs _ (Dats.kt kt _ h1)) (Dats.pairs _ (Dats.kt kt _ h2)))
theorem szs_len:∀ l:List D,2 * l.length≤szs l
 | []=>Nat.zero_le _
 | d :: r=>by
  have:=szs_len r
  have:=sz_pos d
  rw [szs,List.length_cons]; lia
theorem szl_len:∀ l:List D,l.length≤szl l
 | []=>Nat.zero_le _
 | d :: r=>by
  have h:=szl_len r
  have:=sz_pos d
  unfold szl at h ⊢
  rw [List.map_cons,List.sum_cons,List.length_cons]; lia
theorem sz_grp (k:Str) (m0:D) (more off:List D):szs (m0 :: more) + szs off + 5≤sz (.tup [.str k,.tup (m0 :: more),.tup off]):=by
 have e1:∀ l,sz (.tup l)=1 + szs l:=fun l=>by rw [sz]
 have e3:∀ (d:D) (r:List D),szs (d :: r)=sz d + 1 + szs r:=fun d r=>by rw [szs]
 have e4:szs []=0:=by rw [szs]
 rw [e1,e3 (.str k),e3 (.tup _),e3 (.tup off),e4,e1,e1]
 lia
noncomputable def OkIt (d:D):Prop:=IsForm d∨∃ w,d=.str w
theorem unf_ok {k:Str} {m0:D} {more off:List D} (h0:IsForm m0) (h1:∀ x∈more,IsForm x) (h2:∀ x∈off,IsForm x):∀ x∈unf (.tup [.str k,.tup (m0 :: more),.tup off]),OkIt x:=by
 intro x hx
 rcases List.mem_cons.mp hx with rfl | hx
 ·exact .inl h0
 rcases List.mem_append.mp hx with hx | hx
 ·obtain ⟨y,hy,hx⟩:=List.mem_flatMap.mp hx
  simp only [List.mem_cons,List.not_mem_nil,or_false] at hx
  rcases hx with rfl | rfl
  ·exact .inl (h1 _ hy)
  ·exact .inr ⟨_,rfl⟩
 ·obtain ⟨y,hy,hx⟩:=List.mem_flatMap.mp hx
  simp only [List.mem_cons,List.not_mem_nil,or_false] at hx
  rcases hx with rfl | rfl
  ·exact .inl (h2 _ hy)
  ·exact .inr ⟨_,rfl⟩
noncomputable def spSF:Sp:=fun vs H Q _=>∃ (v:V) (d:D),vs=[v]∧Dat H d v∧IsForm d∧(fw d).nodes≤600∧sz d≤800∧∀ (r:Addr) (H':Hp),Same H H'→H' r=some (.lst (post (fw d)))→Q (.ref r) H'
noncomputable abbrev s_steps_of_form:Stmt:=top 31
theorem sc_steps_of_form:FnScope ["form","steps","waiting","part"] ["form"] (defScope s_steps_of_form):=⟨rfl,rfl,rfl,by decide +kernel,rfl,by decide +kernel,by decide +kernel⟩
theorem ok_sf {f:Addr} {fd:FuncData} (F:Fun K "steps_of_form" "steps_of_form" s_steps_of_form f fd) (B:Blt mg) (Gunf:Def P w K mg base CX0 1 "unfolded" spUnf):FnOk P w K mg base CX0 2 f fd ["form"] spSF:=by
 refine F.ok sc_steps_of_form (fun vs H Q E h=>?_) (fun cdv A outer s H vs Q E hr h=>?_)
 ·obtain ⟨v,d,rfl,_⟩:=h
  rfl
 obtain ⟨v,d,rfl,hd,hF,hn,hz,q⟩:=h
 have pl:=post_len (fw d)
 refine ⟨_,(pss_cons (ps_set (i:=1) sc_steps_of_form.nd rfl (by first | exact Or.inl rfl | exact Or.inr rfl) (pe_lst pa_nil))
   (pss_cons (ps_set (i:=2) sc_steps_of_form.nd rfl (by first | exact Or.inl rfl | exact Or.inr rfl) (pe_lst (pa_cons (pv 0) pa_nil)))
   (pss_cons (ps_while PassesOwn.never (pt_truth (pv 2) (fun _=>rfl)) (pss_cons (ps_set (i:=3) sc_steps_of_form.nd rfl (by first | exact Or.inl rfl | exact Or.inr rfl) (pe_bm0 PySem.F.plainAttrs_list PySem.F.slot_list_pop PySem.F.type_list_pop mt_pop (pv 2)))
   (pss_one (ps_if (pt_val (pe_isin B.isinstance B.tuple bt_tuple (pv 3))) (pss_one (ps_expr (pe_bm PySem.F.plainAttrs_list PySem.F.slot_list_extend PySem.F.type_list_extend mt_extend (pv 2) (pa_cons (pe_rev (pe_def Gunf (hr.mono (by lia)) (pa_cons (pv 3) pa_nil))) pa_nil)))) (pss_one (ps_expr (pe_bm PySem.F.plainAttrs_list PySem.F.slot_list_append PySem.F.type_list_append mt_append (pv 1) (pa_cons (pv 3) pa_nil))))))))
   (pss_one (ps_ret (pv 1)))))),?_⟩
 refine ⟨(by show 0≤sizeLine; decide),fun ps hps=>⟨_,rfl,(by show 1≤sizeLine; decide),fun pw hpw=>?_⟩⟩
 have hs1:(upd (upd H ps (.lst [])) pw (.lst [v])) ps=some (.lst []):=by rw [upd_ne (ne_of_none upd_same hpw),upd_same]
 have npw:H pw=none:=(Same.new hps).free hpw
 have nsw:ps≠pw:=ne_of_none upd_same hpw
 have S0:Same H (upd (upd H ps (.lst [])) pw (.lst [v])):=(Same.new hps).trans (Same.new hpw)
 refine ⟨fun m σ H'=>∃ (vr:List V) (wr:List D) (st:List V) (o:Option V),σ=[some v,some (.ref ps),some (.ref pw),o]∧Same H H'∧H' ps=some (.lst st)∧H' pw=some (.lst vr.reverse)∧Dats H' wr vr∧(∀ x∈wr,OkIt x)∧st++wr.flatMap itV=post (fw d)∧szl wr≤800∧m=szl wr,
  ⟨_,[v],[d],[],none,rfl,S0,hs1,upd_same,.consI (Dat.kt (KT.same S0) _ hd) (.nilI _),(fun x hx=>by rw [List.mem_singleton.mp hx]; exact .inl hF),by rw [List.flatMap_cons,List.flatMap_nil,List.append_nil,itV_form hF]; rfl,by unfold szl; simpa using hz,rfl⟩,?_⟩
 rintro m σ H' ⟨vr,wr,st,o,rfl,sH,h1,h2,pr,hok,eq,hsz,em⟩
 have lv:=pr.len
 have lw:=szl_len wr
 have lst:st.length≤600:=by
  have:=congrArg List.length eq
  rw [List.length_append,pl] at this
  lia
 have big:∀ k:Nat,k≤1000→k < sizeLine:=fun k=>small1000
 refine ⟨_,rfl,_,.inl ⟨_,SqL.of h2,rfl⟩,?_⟩
 cases wr with
 | nil =>
  have:=pr.nilE
  subst this
  refine iteF ?_
  have e:st=post (fw d):=by simpa using eq
  rw [e] at h1
  exact ⟨_,rfl,q ps H' sH h1⟩
 | cons z wr' =>
  obtain ⟨y,vr',rfl,hy,pr'⟩:=pr.consE
  have e2:(y :: vr').reverse=vr'.reverse++[y]:=List.reverse_cons
  have sn:szl (z :: wr')=sz z + szl wr':=by unfold szl; rw [List.map_cons,List.sum_cons]
  have zp:=sz_pos z
  rw [e2] at h2
  refine (show (if _ then _ else _:Prop) from ?_)
  have ne:(!((y :: vr').reverse).isEmpty)=true:=by rw [e2]; simp
  rw [if_pos ne]
  refine ⟨fun σ' H'=>∃ m',m' < m∧∃ (vr:List V) (wr:List D) (st:List V) (o:Option V),σ'=[some v,some (.ref ps),some (.ref pw),o]∧Same H H'∧H' ps=some (.lst st)∧H' pw=some (.lst vr.reverse)∧Dats H' wr vr∧(∀ x∈wr,OkIt x)∧st++wr.flatMap itV=post (fw d)∧szl wr≤800∧m'=szl wr,fun σ' H' h=>h,?_⟩
  refine ⟨_,rfl,.inl ⟨rfl,_,SqL.of h2⟩,pw,_,y,rfl,rfl,h2,(by simp),?_⟩
  rw [List.dropLast_concat]
  have h1a:(upd H' pw (.lst vr'.reverse)) ps=some (.lst st):=by rw [upd_ne nsw]; exact h1
  have h2a:(upd H' pw (.lst vr'.reverse)) pw=some (.lst vr'.reverse):=upd_same
  have sHa:Same H (upd H' pw (.lst vr'.reverse)):=fun b o e=>by rw [upd_ne (ne_of_none e npw)]; exact sH b o e
  have ka:KT H' (upd H' pw (.lst vr'.reverse)):=KT.upd h2
  have pra:=Dats.kt ka _ pr'
  have hya:=Dat.kt ka _ hy
  have hok':∀ x∈wr',OkIt x:=fun x hx=>hok x (List.mem_cons_of_mem _ hx)
  have eqz:st++(itV z++wr'.flatMap itV)=post (fw d):=by rw [← List.flatMap_cons]; exact eq
  have push:∀ u:V,itV z=[u]→∃ m',m' < m∧∃ (vr:List V) (wr:List D) (st2:List V) (o:Option V),[some v,some (.ref ps),some (.ref pw),some y]=[some v,some (.ref ps),some (.ref pw),o]∧Same H (upd (upd H' pw (.lst vr'.reverse)) ps (.lst (st++[u])))∧(upd (upd H' pw (.lst vr'.reverse)) ps (.lst (st++[u]))) ps=some (.lst st2)∧(upd (upd H' pw (.lst vr'.reverse)) ps (.lst (st++[u]))) pw=some (.lst vr.reverse)∧Dats (upd (upd H' pw (.lst vr'.reverse)) ps (.lst (st++[u]))) wr vr∧(∀ x∈wr,OkIt x)∧st2++wr.flatMap itV=post (fw d)∧szl wr≤800∧m'=szl wr:=fun u hu =>
   ⟨szl wr',by lia,vr',wr',st++[u],_,rfl,fun b o e=>by rw [upd_ne (ne_of_none e hps)]; exact sHa b o e,upd_same,by rw [upd_ne nsw.symm]; exact h2a,Dats.kt (KT.upd h1a) _ pra,hok',by rw [List.append_assoc,← hu]; exact eqz,by lia,rfl⟩
  rcases hok z (List.mem_cons_self ..) with hz1 | ⟨wz,rfl⟩
  ·cases hz1 with
   | @num i g0 g1 =>
    have:=hya.intE
    subst this
    refine ⟨_,rfl,_,_,TyOf.int _,kit_int_tuple _,_,rfl,iteF ?_⟩
    refine ⟨_,rfl,.inl ⟨rfl,_,SqL.of h1a⟩,_,rfl,ps,st,_,rfl,rfl,h1a,big _ (by lia),?_⟩
    exact push _ (by show post (fw (.int i))=_; rw [fw_int]; rfl)
   | @grp k m0 more off hk g0 g1 g2 =>
    obtain ⟨p,pm,po,x0,xm,xo,rfl,hp,_⟩:=dat_grp hya
    have sg:=sz_grp k m0 more off
    have c1:=szs_len (m0 :: more)
    have c2:=szs_len off
    rw [List.length_cons] at c1
    refine ⟨_,rfl,_,_,TyOf.tup hp,kit_tup_tup _,_,rfl,iteT ?_⟩
    refine ⟨_,rfl,.inl ⟨rfl,_,SqL.of h2a⟩,_,rfl,_,k,m0,more,off,rfl,hya,hk,by lia,fun r us H2 s2 hr2 du=>⟨r,_,rfl,SqL.of hr2,fun pp hpp=>?_⟩⟩
    have lu:=du.len
    have cu:=szl_unf k m0 more off
    have lu2:=szl_len (unf (.tup [.str k,.tup (m0 :: more),.tup off]))
    have h2b:=Same.new (o:=.lst us.reverse) hpp _ _ (s2 _ _ h2a)
    have lv':=pra.len
    have lw':=szl_len wr'
    refine ⟨pw,pp,_,_,rfl,rfl,h2b,upd_same,Nat.le_of_lt (big _ (by rw [List.length_reverse,List.length_reverse]; lia)),?_⟩
    have s3:=s2.trans (Same.new (o:=.lst us.reverse) hpp)
    have k3:=(KT.same s3).trans (KT.upd (o:=.lst (vr'.reverse++us.reverse)) h2b)
    have kr:=(KT.new (o:=.lst us.reverse) hpp).trans (KT.upd (o:=.lst (vr'.reverse++us.reverse)) h2b)
    refine ⟨szl (unf (.tup [.str k,.tup (m0 :: more),.tup off])++wr'),?_,us++vr',unf (.tup [.str k,.tup (m0 :: more),.tup off])++wr',st,_,rfl,?_,?_,?_,Dats.app (Dats.kt kr _ du) (Dats.kt k3 _ pra),?_,?_,?_,rfl⟩
    ·have e:szl (unf (.tup [.str k,.tup (m0 :: more),.tup off])++wr')=szl (unf (.tup [.str k,.tup (m0 :: more),.tup off])) + szl wr':=by unfold szl; rw [List.map_append,List.sum_append]
     lia
    ·exact fun b o e=>by rw [upd_ne (ne_of_none e npw)]; exact s3 _ _ (sHa b o e)
    ·rw [upd_ne nsw]; exact s3 _ _ h1a
    ·rw [upd_same,List.reverse_append]
    ·intro x hx
     rcases List.mem_append.mp hx with hx | hx
     ·exact unf_ok g0 g1 g2 x hx
     ·exact hok' x hx
    ·rw [List.flatMap_append,unf_it g0 g1 g2]; exact eqz
    ·have e:szl (unf (.tup [.str k,.tup (m0 :: more),.tup off])++wr')=szl (unf (.tup [.str k,.tup (m0 :: more),.tup off])) + szl wr':=by unfold szl; rw [List.map_append,List.sum_append]
     lia
  ·have:=hya.strE
   subst this
   refine ⟨_,rfl,_,_,TyOf.str _,kit_str_tuple _,_,rfl,iteF ?_⟩
   refine ⟨_,rfl,.inl ⟨rfl,_,SqL.of h1a⟩,_,rfl,ps,st,_,rfl,rfl,h1a,big _ (by lia),?_⟩
   exact push _ rfl
noncomputable def spWayOf:Sp:=fun vs H Q _=>∃ (v:V) (d:D),vs=[v]∧Dat H d v∧IsForm d∧lv d≤100∧sz d≤800∧∀ (u:V) (H':Hp),Same H H'→WayIn H' u (fw d)→Q u H'
noncomputable abbrev s_way_of:Stmt:=top 29
theorem sc_way_of:FnScope ["form"] ["form"] (defScope s_way_of):=⟨rfl,rfl,rfl,by decide +kernel,rfl,by decide +kernel,by decide +kernel⟩
theorem ok_way_of {f fN fW:Addr} {fd:FuncData} (F:Fun K "way_of" "way_of" s_way_of f fd) (B:Blt mg) (mN:mg "number_itself"=some (.ref fN)) (mW:mg "way_with"=some (.ref fW)) (Gcome:Def P w K mg base CX0 2 "come_of" (spCome fN fW)) (Gsf:Def P w K mg base CX0 2 "steps_of_form" spSF):FnOk P w K mg base CX0 3 f fd ["form"] spWayOf:=by
 refine F.ok (k:=2) sc_way_of (fun vs H Q E h=>?_) (fun cdv A outer s H vs Q E hr h=>?_)
 ·obtain ⟨v,d,rfl,_⟩:=h
  rfl
 obtain ⟨v,d,rfl,hd,hF,hl,hz,q⟩:=h
 have ns:=(fw d).nodes_eq
 have fs:=fw_size hF
 refine ⟨_,(pss_one (ps_ret (pe_def Gcome (hr.mono (by lia)) (pa_cons (pe_def Gsf (hr.mono (by lia)) (pa_cons (pv 0) pa_nil)) (pa_cons (pe_glob (v:=.ref fN) rfl mN rfl) (pa_cons (pe_glob (v:=.ref fW) rfl mW rfl) pa_nil)))))),?_⟩
 exact ⟨_,rfl,v,d,rfl,hd,hF,by lia,hz,fun r H1 s1 h1=>⟨r,fw d,rfl,h1,by lia,fun u H2 s2 hw=>q u H2 (s1.trans s2) hw⟩⟩
end
end Wy
section
end
end Law
namespace Law
open PySem L2
section
variable {P:Program} {w:World} {K:PySem.W.Frag} {mg:Str→Option Value} {base:Heap}
end
namespace Xc
section
variable {P:Program} {w:World} {K:PySem.W.Frag} {mg:Str→Option Value} {base:Heap}
noncomputable abbrev s_init:Stmt:=inClass (top 2) 0
theorem sc_init:FnScope ["self","word"] ["self","word"] (defScope s_init):=⟨rfl,rfl,rfl,by decide +kernel,rfl,by decide +kernel,by decide +kernel⟩
noncomputable def xw (wd:Str):HO:=.xd [("word",.str wd)]
noncomputable def spInit (C:Addr):Sp:=fun vs H Q _=>∃ (e:Addr) (v:V) (fr:Bool),vs=[.ref e,v]∧H e=some (xO fr (.ref C) none e)∧∀ dx,H dx=none→dx≠e→Q .non (upd (upd H e (xO fr (.ref C) (some dx) e)) dx (.xd [("word",v)]))
theorem ok_init {f C:Addr} {bm:List Value} {fd:FuncData} (F:Fun K "__init__" "NoWay.__init__" s_init f fd) (c:XC K C bm) (n:NoAttr K C "word"):FnOk P w K mg base CX0 1 f fd ["self","word"] (spInit C):=by
 refine F.ok sc_init (fun vs H Q E h=>?_) (fun cdv A outer s H vs Q E hr h=>?_)
 ·obtain ⟨e,v,fr,rfl,_⟩:=h
  rfl
 obtain ⟨e,v,fr,rfl,he,q⟩:=h
 refine ⟨_,pss_one (ps_xfld (pv 0) (pv 1) rfl),?_⟩
 refine ⟨_,rfl,_,rfl,e,C,bm,fr,rfl,c,he,n,fun dx h1 h2=>?_⟩
 exact q dx h1 h2
structure Refs (P:Program) (w:World) (K:PySem.W.Frag) (mg:Str→Option Value) (base:Heap) (W N:Addr) (bN:List Value):Prop where
 cW:XC K W vMro
 cN:XC K N bN
 gN:mg "NoWay"=some (.ref N)
 mN:XMk P w K mg base N 1 (spInit N)
 wN:NoAttr K N "word"
noncomputable def spDeedX (N:Addr) (wd:Str):Sp:=fun vs H Q E=>∃ (a b:Int),vs=[.int a,.int b]∧1≤a∧a < 2 ^ 4000∧1≤b∧b < 2 ^ 4000∧match byE wd a b with
 | .inr z=>Q (.int z) H
 | .inl e=>∀ dx,H dx=none→E (.ref N) (some dx) (upd H dx (xw e))
noncomputable def spWorthOfX (N:Addr):Sp:=fun vs H Q E=>∃ (v:V) (x:Way),vs=[v]∧WayIn H v x∧x.fit∧x.nodes≤1000∧match worthE x with
 | .inr n=>∀ H',Same H H'→Q (.int n) H'
 | .inl e=>∀ dx H',Same H H'→H dx=none→H' dx=some (xw e)→E (.ref N) (some dx) H'
noncomputable def FamX (N:Addr) (fam:Str→Addr):Addr→Sp→Prop:=fun f sp=>∃ wd,okWord wd∧f=fam wd∧sp=spDeedX N wd
structure DeedsX (P:Program) (w:World) (K:PySem.W.Frag) (mg:Str→Option Value) (base:Heap) (N dD:Addr) (fam:Str→Addr):Prop where
 top:TopDict w K dD
 gl:mg "DEEDS"=some (.ref dD)
 at_:∀ wd,okWord wd→PySem.W.nsIn K dD wd=some (some (.ref (fam wd)))
 ok:∀ wd,okWord wd→Callee P w K mg base (CXF P w) 3 (fam wd) (spDeedX N wd)
variable {W N:Addr} {bN:List Value}
theorem raised {H:Hp} {E:XS} {σ:St} {wd:Str} (h:∀ dx,H dx=none→E (.ref N) (some dx) σ (upd H dx (xw wd))) (e:Addr) (he:H e=none) :
  spInit N [.ref e,.str wd] (upd H e (xO true (.ref N) none e)) (fun v H2=>v=.non∧∃ dx,H2 e=some (xO true (.ref N) dx e)∧E (.ref N) dx σ (del H2 e)) E0:=by
 refine ⟨e,.str wd,true,rfl,upd_same,fun dx h1 h2=>⟨rfl,some dx,?_,?_⟩⟩
 ·rw [upd_ne (Ne.symm h2),upd_same]
 ·rw [del_upd_ne h2,upd_upd,del_upd he]
  refine h dx ?_
  rw [upd_ne h2] at h1
  exact h1
noncomputable abbrev s_plus:Stmt:=top 4
theorem sc_plus:FnScope ["first","second"] ["first","second"] (defScope s_plus):=⟨rfl,rfl,rfl,by decide +kernel,rfl,by decide +kernel,by decide +kernel⟩
theorem okX_plus {f:Addr} {fd:FuncData} (F:Fun K "plus" "plus" s_plus f fd):FnOk P w K mg base (CXF P w) 3 f fd ["first","second"] (spDeedX N "plus"):=by
 refine F.okX sc_plus (fun vs H Q E h=>?_) (fun cdv A outer s H vs Q E hr h=>?_)
 ·obtain ⟨a,b,rfl,_⟩:=h
  rfl
 obtain ⟨a,b,rfl,a1,a2,b1,b2,e⟩:=h
 refine ⟨_,(pss_one (ps_ret (pe_op op_add (pv 0) (pv 1)))),?_⟩
 refine ⟨_,rfl,_,rfl,_,_,rfl,rfl,?_⟩
 exact e
noncomputable abbrev s_times:Stmt:=top 6
theorem sc_times:FnScope ["first","second"] ["first","second"] (defScope s_times):=⟨rfl,rfl,rfl,by decide +kernel,rfl,by decide +kernel,by decide +kernel⟩
theorem okX_times {f:Addr} {fd:FuncData} (F:Fun K "times" "times" s_times f fd):FnOk P w K mg base (CXF P w) 3 f fd ["first","second"] (spDeedX N "times"):=by
 refine F.okX sc_times (fun vs H Q E h=>?_) (fun cdv A outer s H vs Q E hr h=>?_)
 ·obtain ⟨a,b,rfl,_⟩:=h
  rfl
 obtain ⟨a,b,rfl,a1,a2,b1,b2,e⟩:=h
 have hmul:IntMulOk a b:=mulOk_of (by lia) (by lia)
 refine ⟨_,(pss_one (ps_ret (pe_op op_mulB (pv 0) (pv 1)))),?_⟩
 refine ⟨_,rfl,_,rfl,_,_,rfl,rfl,hmul,?_⟩
 have e':byE "times" a b=.inr (a * b):=by unfold byE; rw [if_neg (by decide +kernel),if_pos rfl]
 rw [e'] at e
 exact e
noncomputable abbrev s_less:Stmt:=top 5
theorem sc_less:FnScope ["first","second"] ["first","second"] (defScope s_less):=⟨rfl,rfl,rfl,by decide +kernel,rfl,by decide +kernel,by decide +kernel⟩
theorem byE_less {a b:Int}:byE "less" a b=if b < a then .inr (a - b) else .inl "less":=by
 unfold byE; rw [if_neg (by decide +kernel),if_neg (by decide +kernel),if_pos rfl]
theorem byE_share {a b:Int}:byE "share" a b=if a % b=0 then .inr (a / b) else .inl "share":=by
 unfold byE; rw [if_neg (by decide +kernel),if_neg (by decide +kernel),if_neg (by decide +kernel)]
theorem okX_less {f:Addr} {fd:FuncData} (F:Fun K "less" "less" s_less f fd) (R:Refs P w K mg base W N bN):FnOk P w K mg base (CXF P w) 3 f fd ["first","second"] (spDeedX N "less"):=by
 refine F.okX sc_less (fun vs H Q E h=>?_) (fun cdv A outer s H vs Q E hr h=>?_)
 ·obtain ⟨a,b,rfl,_⟩:=h
  rfl
 obtain ⟨a,b,rfl,a1,a2,b1,b2,e⟩:=h
 rw [byE_less] at e
 refine ⟨_,(pss_cons (ps_if (pt_cmpR op_le (pv 0) (pv 1) (nomark _)) (pss_one (ps_raise rfl R.cN R.mN (hr.mono (by lia)) R.gN (pa_cons pe_str pa_nil))) pss_nil)
   (pss_one (ps_ret (pe_op op_sub (pv 0) (pv 1))))),?_⟩
 refine ⟨_,rfl,_,rfl,_,_,rfl,rfl,_,rfl,?_⟩
 refine ite2 (fun c=>?_) (fun c=>?_)
 ·have hle:a≤b:=of_decide_eq_true c
  rw [if_neg (by lia)] at e
  exact ⟨(by show 1≤sizeLine; decide),raised (σ:=[]) (E:=fun cls dx _ H'=>E cls dx H') e⟩
 ·have hlt:b < a:=by
   have:¬ a≤b:=fun z=>c (decide_eq_true z)
   lia
  rw [if_pos hlt] at e
  refine ⟨_,rfl,_,rfl,_,_,rfl,rfl,?_⟩
  exact e
noncomputable abbrev s_share:Stmt:=top 7
theorem sc_share:FnScope ["first","second"] ["first","second"] (defScope s_share):=⟨rfl,rfl,rfl,by decide +kernel,rfl,by decide +kernel,by decide +kernel⟩
theorem okX_share {f:Addr} {fd:FuncData} (F:Fun K "share" "share" s_share f fd) (R:Refs P w K mg base W N bN):FnOk P w K mg base (CXF P w) 3 f fd ["first","second"] (spDeedX N "share"):=by
 refine F.okX sc_share (fun vs H Q E h=>?_) (fun cdv A outer s H vs Q E hr h=>?_)
 ·obtain ⟨a,b,rfl,_⟩:=h
  rfl
 obtain ⟨a,b,rfl,a1,a2,b1,b2,e⟩:=h
 rw [byE_share] at e
 refine ⟨_,(pss_cons (ps_if (pt_cmpR op_ne (pe_op op_mod (pv 0) (pv 1)) pe_int (nomark _)) (pss_one (ps_raise rfl R.cN R.mN (hr.mono (by lia)) R.gN (pa_cons pe_str pa_nil))) pss_nil)
   (pss_one (ps_ret (pe_op op_fdivB (pv 0) (pv 1))))),?_⟩
 refine ⟨_,rfl,_,rfl,_,_,rfl,rfl,(by show (0:Int) < b; lia),rfl,_,rfl,?_⟩
 by_cases hz:a % b=0
 ·rw [if_pos hz] at e
  refine iteNS (congrArg V.int hz) ?_
  refine ⟨_,rfl,_,rfl,_,_,rfl,rfl,⟨by lia,by lia⟩,?_⟩
  exact e
 ·rw [if_neg hz] at e
  refine (show (if _ then _ else _:Prop) from ?_)
  rw [if_pos (by rw [decide_eq_false (fun z=>hz (V.int.inj z))]; rfl)]
  exact ⟨(by show 1≤sizeLine; decide),raised (σ:=[]) (E:=fun cls dx _ H'=>E cls dx H') e⟩
noncomputable def spIdX:Sp:=fun vs H Q _=>∃ v:V,vs=[v]∧Q v H
noncomputable abbrev s_number_itself:Stmt:=top 11
theorem sc_number_itself:FnScope ["number"] ["number"] (defScope s_number_itself):=⟨rfl,rfl,rfl,by decide +kernel,rfl,by decide +kernel,by decide +kernel⟩
theorem okX_id {f:Addr} {fd:FuncData} (F:Fun K "number_itself" "number_itself" s_number_itself f fd):FnOk P w K mg base (CXF P w) 3 f fd ["number"] spIdX:=by
 refine F.okX (k:=2) sc_number_itself (fun vs H Q E h=>?_) (fun cdv A outer s H vs Q E hr h=>?_)
 ·obtain ⟨v,rfl,_⟩:=h
  rfl
 obtain ⟨v,rfl,q⟩:=h
 exact ⟨_,(pss_one (ps_ret (pv 0))),⟨_,rfl,q⟩⟩
noncomputable def spWBX (N:Addr):Sp:=fun vs H Q E=>∃ (wd:Str) (a b:Int),vs=[.str wd,.int a,.int b]∧okWord wd∧1≤a∧a < 2 ^ 4000∧1≤b∧b < 2 ^ 4000∧match byE wd a b with
 | .inr z=>Q (.int z) H
 | .inl e=>∀ dx,H dx=none→E (.ref N) (some dx) (upd H dx (xw e))
noncomputable abbrev s_worth_by:Stmt:=top 12
theorem sc_worth_by:FnScope ["word","first","second","deed"] ["word","first","second"] (defScope s_worth_by):=⟨rfl,rfl,rfl,by decide +kernel,rfl,by decide +kernel,by decide +kernel⟩
theorem okX_wb {f dD:Addr} {fam:Str→Addr} {fd:FuncData} (F:Fun K "worth_by" "worth_by" s_worth_by f fd) (B:Blt mg) (De:DeedsX P w K mg base N dD fam):FnOk P w K mg base (CXF P w) 5 f fd ["word","first","second"] (spWBX N):=by
 have De_ok:∀ g sp,FamX N fam g sp→Callee P w K mg base (CXF P w) 3 g sp:=by
  rintro g sp ⟨wd,hw,rfl,rfl⟩
  exact De.ok wd hw
 refine F.okX (k:=4) sc_worth_by (fun vs H Q E h=>?_) (fun cdv A outer s H vs Q E hr h=>?_)
 ·obtain ⟨wd,a,b,rfl,_⟩:=h
  rfl
 obtain ⟨wd,a,b,rfl,hw,a1,a2,b1,b2,q⟩:=h
 refine ⟨_,(pss_cons (ps_set (i:=3) sc_worth_by.nd rfl (by first | exact Or.inl rfl | exact Or.inr rfl) (pe_ix ix_top (pe_glob (v:=.ref dD) rfl De.gl rfl) (pv 0) (fun _ _=>rfl)))
   (pss_one (ps_ret (pe_callVX De_ok (hr.mono (by lia)) (pv 3) (pa_cons (pv 1) (pa_cons (pv 2) pa_nil)))))),?_⟩
 refine ⟨_,rfl,dD,wd,.ref (fam wd),.ref (fam wd),rfl,rfl,De.top,De.at_ wd hw,rfl,?_⟩
 exact ⟨_,rfl,fam wd,spDeedX N wd,rfl,⟨wd,hw,rfl,rfl⟩,_,rfl,_,rfl,a,b,rfl,a1,a2,b1,b2,q⟩
noncomputable def spComeX (N fN fB:Addr):Sp:=fun vs H Q E=>∃ (r:Addr) (x:Way),vs=[.ref r,.ref fN,.ref fB]∧H r=some (.lst (post x))∧x.fit∧x.nodes≤1000∧match worthE x with
 | .inr n=>∀ H',Same H H'→Q (.int n) H'
 | .inl e=>∀ dx H',Same H H'→H dx=none→H' dx=some (xw e)→E (.ref N) (some dx) H'
noncomputable abbrev s_come_of:Stmt:=top 10
theorem sc_come_of:FnScope ["steps","of_number","of_word","come","step","second","first"] ["steps","of_number","of_word"] (defScope s_come_of):=⟨rfl,rfl,rfl,by decide +kernel,rfl,by decide +kernel,by decide +kernel⟩
theorem okX_come {f fN fB:Addr} {fd:FuncData} (F:Fun K "come_of" "come_of" s_come_of f fd) (B:Blt mg) (CN:Callee P w K mg base (CXF P w) 3 fN spIdX) (CW:Callee P w K mg base (CXF P w) 5 fB (spWBX N)):FnOk P w K mg base (CXF P w) 7 f fd ["steps","of_number","of_word"] (spComeX N fN fB):=by
 have FN_ok:∀ g sp,(g=fN∧sp=spIdX)→Callee P w K mg base (CXF P w) 3 g sp:=by
  rintro g sp ⟨rfl,rfl⟩
  exact CN
 have FW_ok:∀ g sp,(g=fB∧sp=spWBX N)→Callee P w K mg base (CXF P w) 5 g sp:=by
  rintro g sp ⟨rfl,rfl⟩
  exact CW
 refine F.okX (k:=6) sc_come_of (fun vs H Q E h=>?_) (fun cdv A outer s H vs Q E hr h=>?_)
 ·obtain ⟨r,x,rfl,_⟩:=h
  rfl
 obtain ⟨r,x,rfl,hr2,fx,hn,ew⟩:=h
 have hrun:stepsRun (post x) []=match worthE x with
   | .inr n=>.val [n]
   | .inl e=>.no e:=by
  have:=run_post fx [] []
  rw [List.append_nil] at this
  rw [this]
  cases worthE x <;> rfl
 refine ⟨_,(pss_cons (ps_set (i:=3) sc_come_of.nd rfl (by first | exact Or.inl rfl | exact Or.inr rfl) (pe_lst pa_nil))
   (pss_cons (ps_for (x_passes rfl rfl) rfl (pi_list (pv 0)) (pg_name (i:=4) sc_come_of.nd rfl (by first | exact Or.inl rfl | exact Or.inr rfl)) (pss_one (ps_if (pt_val (pe_isin B.isinstance B.str bt_str (pv 4))) (pss_cons (ps_set (i:=5) sc_come_of.nd rfl (by first | exact Or.inl rfl | exact Or.inr rfl) (pe_bm0 PySem.F.plainAttrs_list PySem.F.slot_list_pop PySem.F.type_list_pop mt_pop (pv 3)))
   (pss_cons (ps_set (i:=6) sc_come_of.nd rfl (by first | exact Or.inl rfl | exact Or.inr rfl) (pe_bm0 PySem.F.plainAttrs_list PySem.F.slot_list_pop PySem.F.type_list_pop mt_pop (pv 3)))
   (pss_one (ps_expr (pe_bm PySem.F.plainAttrs_list PySem.F.slot_list_append PySem.F.type_list_append mt_append (pv 3) (pa_cons (pe_callVX FW_ok (hr.mono (by lia)) (pv 2) (pa_cons (pv 4) (pa_cons (pv 6) (pa_cons (pv 5) pa_nil)))) pa_nil)))))) (pss_one (ps_expr (pe_bm PySem.F.plainAttrs_list PySem.F.slot_list_append PySem.F.type_list_append mt_append (pv 3) (pa_cons (pe_callVX FN_ok (hr.mono (by lia)) (pv 1) (pa_cons (pv 4) pa_nil)) pa_nil)))))))
   (pss_one (ps_ret (pe_ix ix_list (pv 3) pe_int (fun _ _=>rfl)))))),?_⟩
 refine ⟨(by show 0≤sizeLine; decide),fun pw hpw=>?_⟩
 refine ⟨_,rfl,r,rfl,⟨_,SqL.of (Same.new hpw _ _ hr2)⟩,for_list (K:=K) (a:=r) (xs:=post x)
  (fun i σ H'=>∃ (st:List Int) (a b c:Option V),σ=[some (.ref r),some (.ref fN),some (.ref fB),some (.ref pw),a,b,c]∧Same H H'∧H' pw=some (.lst (st.reverse.map V.int))∧st.length≤i∧stepsRun ((post x).drop i) st=stepsRun (post x) [])
  ⟨[],none,none,none,rfl,Same.new hpw,upd_same,Nat.le_refl _,rfl⟩ (fun i σ H' _ ⟨_,_,_,_,_,g,_⟩=>SqL.of (g _ _ hr2)) ?_ ?_⟩
 ·rintro i y σ H' hi ⟨st,a,b,c,rfl,sH,h2,hl,hrn⟩
  have il:i < (post x).length:=(List.getElem?_eq_some_iff.mp hi).1
  have ed:(post x).drop i=y :: (post x).drop (i + 1):=by
   rw [List.drop_eq_getElem_cons il,(List.getElem?_eq_some_iff.mp hi).2]
  have lp:=post_len x
  rw [ed] at hrn
  have big:∀ k:Nat,k≤1000→k < sizeLine:=fun k=>small1000
  have nbad:stepsRun (post x) []≠.bad:=by rw [hrun]; cases worthE x <;> exact fun z=>by cases z
  have sU:∀ (o:HO) (H'':Hp),Same H H''→Same H (upd H'' pw o):=fun o H'' s b u e=>by rw [upd_ne (ne_of_none e hpw)]; exact s b u e
  cases y with
  | int k =>
   rw [run_int] at hrn
   refine ⟨_,rfl,_,_,TyOf.int _,kit_int_str _,_,rfl,iteF ?_⟩
   refine ⟨_,rfl,.inl ⟨rfl,_,SqL.of h2⟩,_,rfl,fN,spIdX,rfl,⟨rfl,rfl⟩,_,rfl,_,rfl,pw,_,_,rfl,rfl,h2,big _ (by rw [List.length_map,List.length_reverse]; lia),?_⟩
   exact ⟨k :: st,_,_,_,rfl,sU _ _ sH,by rw [upd_same,List.reverse_cons,List.map_append]; rfl,by rw [List.length_cons]; lia,hrn⟩
  | str wd =>
   match st,hrn,h2,hl with
   | [],hrn,h2,hl=>exact absurd hrn.symm (by simpa [stepsRun] using nbad)
   | [_],hrn,h2,hl=>exact absurd hrn.symm (by simpa [stepsRun] using nbad)
   | j :: i' :: st',hrn,h2,hl =>
    rw [run_str] at hrn
    split at hrn
    ·rename_i g
     obtain ⟨hw,i1,i2,j1,j2⟩:=g
     have e2:((j :: i' :: st').reverse.map V.int)=(st'.reverse.map V.int++[.int i'])++[.int j]:=by simp
     rw [e2] at h2
     refine ⟨_,rfl,_,_,TyOf.str _,kit_str_str _,_,rfl,iteT ?_⟩
     refine ⟨_,rfl,.inl ⟨rfl,_,SqL.of h2⟩,pw,_,.int j,rfl,rfl,h2,(by simp),?_⟩
     rw [List.dropLast_concat]
     refine ⟨_,rfl,.inl ⟨rfl,_,SqL.of upd_same⟩,pw,_,.int i',rfl,rfl,upd_same,(by simp),?_⟩
     rw [List.dropLast_concat]
     refine ⟨_,rfl,.inl ⟨rfl,_,SqL.of upd_same⟩,_,rfl,fB,spWBX N,rfl,⟨rfl,rfl⟩,_,rfl,_,rfl,_,rfl,wd,i',j,rfl,hw,i1,i2,j1,j2,?_⟩
     cases eb:byE wd i' j with
     | inl e =>
      rw [eb] at hrn
      have ee:worthE x=.inl e:=by
       rw [hrun] at hrn
       cases ex:worthE x with
       | inl e'=>rw [ex] at hrn; cases hrn; rfl
       | inr n=>rw [ex] at hrn; cases hrn
      rw [ee] at ew
      intro dx hd
      have S0:=sU (.lst (st'.reverse.map V.int)) _ (sU (.lst (st'.reverse.map V.int++[.int i'])) _ sH)
      exact ew dx _ (S0.trans (Same.new hd)) (S0.free hd) upd_same
     | inr z =>
      rw [eb] at hrn
      refine ⟨pw,_,_,rfl,rfl,upd_same,big _ (by rw [List.length_map,List.length_reverse]; have:st'.length + 1 + 1≤i:=hl; lia),?_⟩
      exact ⟨z :: st',_,_,_,rfl,sU _ _ (sU _ _ (sU _ _ sH)),by rw [upd_same,List.reverse_cons,List.map_append]; rfl,by have:st'.length + 1 + 1≤i:=hl; rw [List.length_cons]; lia,hrn⟩
    ·exact absurd hrn.symm nbad
  | _=>exact absurd hrn.symm (by simpa [stepsRun] using nbad)
 ·rintro σ H' ⟨st,a,b,c,rfl,sH,h2,hl,hrn⟩
  rw [List.drop_length,stepsRun,hrun] at hrn
  cases ex:worthE x with
  | inl e=>rw [ex] at hrn; cases hrn
  | inr n =>
   rw [ex] at hrn ew
   cases hrn
   exact ⟨_,rfl,pw,_,_,.int n,rfl,rfl,SqL.of h2,rfl,ew _ sH⟩
noncomputable abbrev s_worth_of:Stmt:=top 13
theorem sc_worth_of:FnScope ["way"] ["way"] (defScope s_worth_of):=⟨rfl,rfl,rfl,by decide +kernel,rfl,by decide +kernel,by decide +kernel⟩
theorem okX_worth_of {f fN fB:Addr} {fd:FuncData} (F:Fun K "worth_of" "worth_of" s_worth_of f fd) (B:Blt mg) (mN:mg "number_itself"=some (.ref fN)) (mB:mg "worth_by"=some (.ref fB)) (Gsteps:Def P w K mg base CX0 1 "steps_of" spSteps) (GcomeX:Def P w K mg base (CXF P w) 7 "come_of" (spComeX N fN fB)):FnOk P w K mg base (CXF P w) 9 f fd ["way"] (spWorthOfX N):=by
 refine F.okX (k:=8) sc_worth_of (fun vs H Q E h=>?_) (fun cdv A outer s H vs Q E hr h=>?_)
 ·obtain ⟨v,x,rfl,_⟩:=h
  rfl
 obtain ⟨v,x,rfl,hx,fx,hn,ew⟩:=h
 refine ⟨_,(pss_one (ps_ret (pe_defX GcomeX (hr.mono (by lia)) (pa_cons (pe_def Gsteps (hr.mono (by lia)) (pa_cons (pv 0) pa_nil)) (pa_cons (pe_glob (v:=.ref fN) rfl mN rfl) (pa_cons (pe_glob (v:=.ref fB) rfl mB rfl) pa_nil)))))),?_⟩
 refine ⟨_,rfl,v,x,rfl,hx,hn,fun r H1 s1 h1=>⟨r,x,rfl,h1,fx,hn,?_⟩⟩
 cases ex:worthE x with
 | inl e=>rw [ex] at ew; exact fun dx H2 s2 hd hx2=>ew dx H2 (s1.trans s2) (s1.free hd) hx2
 | inr n=>rw [ex] at ew; exact fun H2 s2=>ew H2 (s1.trans s2)
end
end Xc
section
end
end Law
namespace Law
open PySem L2
section
variable {P:Program} {w:World} {K:PySem.W.Frag} {mg:Str→Option Value} {base:Heap}
noncomputable def toI:V→Int
 | .int i=>i
 | _=>0
noncomputable def kyH (H:Hp):V→List Int
 | .ref t=>match H t with
  | some (.tup ys)=>ys.map toI
  | _=>[]
 | _=>[]
theorem kyH_of {H:Hp} {t:Addr} {ks:List Int} (h:H t=some (.tup (ks.map V.int))):kyH H (.ref t)=ks:=by
 show (match H t with | some (.tup ys)=>ys.map toI | _=>[])=ks
 rw [h]
 show (ks.map V.int).map toI=ks
 rw [List.map_map]
 exact List.map_id' ks
theorem kD_ne (d:D) (h:IsForm d):kD d≠[]:=by
 cases h with
 | num h0 h1=>unfold kD; simp
 | grp hk _ _ _=>rw [kD_grp]; simp
theorem reps_keys {K:PySem.W.Frag} {H:Hp} {key:V→List Int}:∀ {ys:List V},(∀ y∈ys,∃ t,y=.ref t∧H t=some (.tup ((key y).map V.int)))→Reps K H (ys.map fun y=>D.tup ((key y).map D.int)) ys
 | [],_=>by unfold Reps; rfl
 | y :: r,h=>by
  rw [List.map_cons]
  unfold Reps
  obtain ⟨t,e,ht⟩:=h y (List.mem_cons_self ..)
  refine ⟨y,r,rfl,?_,reps_keys fun z hz=>h z (List.mem_cons_of_mem _ hz)⟩
  unfold Rep
  exact ⟨t,_,e,SqT.of ht,repInts _⟩
theorem deps_keys (key:V→List Int):∀ ys:List V,deps (ys.map fun y=>D.tup ((key y).map D.int))≤50
 | []=>by rw [List.map_nil,deps]; decide
 | y :: r=>by
  rw [List.map_cons,deps]
  have h1:(D.tup ((key y).map D.int)).dep=1:=by rw [D.dep,depInts]
  have:=deps_keys key r
  rw [h1]; lia
noncomputable def spInOrd:Sp:=fun vs H Q _=>∃ (l:Addr) (xs:List V) (ds:List D),vs=[.ref l]∧H l=some (.tup xs)∧Dats H ds xs∧(∀ x∈ds,IsForm x∧sz x≤400)∧ds.length < 60∧Ord ds∧∀ H',Same H H'→Q (.bl true) H'
noncomputable abbrev s_is_in_order:Stmt:=top 37
theorem sc_is_in_order:FnScope ["parts","orders"] ["parts"] (defScope s_is_in_order):=⟨rfl,rfl,rfl,by decide +kernel,rfl,by decide +kernel,by decide +kernel⟩
theorem ok_inord {f:Addr} {fd:FuncData} (F:Fun K "is_in_order" "is_in_order" s_is_in_order f fd) (B:Blt mg) (Bsorted:mg "sorted"=none) (Gorder:Def P w K mg base CX0 1 "order_of" spOrder):FnOk P w K mg base CX0 2 f fd ["parts"] spInOrd:=by
 refine F.ok (k:=1) sc_is_in_order (fun vs H Q E h=>?_) (fun cdv A outer s H vs Q E hr h=>?_)
 ·obtain ⟨l,xs,ds,rfl,_⟩:=h
  rfl
 obtain ⟨l,xs,ds,rfl,hl,hd,hF,h60,hO,q⟩:=h
 refine ⟨_,(pss_cons (ps_setC (i:=1) sc_is_in_order.nd rfl (by first | exact Or.inl rfl | exact Or.inr rfl) (N:=["part"]) rfl (csC_of [none] rfl (by decide +kernel) (by decide +kernel) rfl rfl) rfl (pi_tup (pv 0)) (fun _ _ _ _=>(pg_name (i:=0) (show (["part"]:List Str).Nodup by decide +kernel) rfl (by first | exact Or.inl rfl | exact Or.inr rfl))) (fun _ _ _ _=>ptl_nil) (fun _ _ _ _=>(pe_def Gorder (hr.mono (by lia)) (pa_cons (pv 0) pa_nil))))
   (pss_one (ps_ret (pe_cmpR (op_eqS (hu60 hr)) (pv 1) (pe_callB call_sortT rfl Bsorted bt_sorted (pa_cons (pv 1) pa_nil)) (nomark _))))),?_⟩
 have szl:=sizeLine_eq
 have ll:=hd.len
 refine ⟨_,rfl,l,rfl,⟨_,SqT.of hl⟩,fun Dl hD Cx sx fp=>?_⟩
 refine comp_tup (K:=K) (a:=l) (xs:=xs) (tt:=fun _ H Q=>Q true H) (fun i zs σ H'=>∃ o:Option V,σ=[o]∧Same H H'∧zs.length=i∧(∀ z∈zs,∃ t,z=.ref t∧∃ ks,H' t=some (.tup (ks.map V.int))∧ks≠[])∧zs.map (kyH H')=(ds.take i).map kD) (fun i zs σ H' ⟨_,_,g,_⟩=>SqT.of (g _ _ hl)) ⟨none,rfl,Same.new hD,rfl,(fun z hz=>by cases hz),rfl⟩ ?_ ?_
 ·rintro i x zs σ H2 hi hzl ⟨o,rfl,s2,lz,hz,hk⟩ g2
  have hil:=(List.getElem?_eq_some_iff.mp hi).1
  obtain ⟨d,hdi,hdx⟩:∃ d,ds[i]?=some d∧Dat H2 d x:=by
   have:∀ {ds:List D} {xs:List V} {i:Nat} {x:V},Dats H2 ds xs→xs[i]?=some x→∃ d,ds[i]?=some d∧Dat H2 d x:=by
    intro ds
    induction ds with
    | nil=>intro xs i x h e; rw [h.nilE] at e; cases e
    | cons d r ih =>
     intro xs i x h e
     obtain ⟨y,t,rfl,h1,h2⟩:=h.consE
     cases i with
     | zero=>cases e; exact ⟨d,rfl,h1⟩
     | succ i=>exact ih h2 (by simpa using e)
   exact this (Dats.kt (KT.same s2) _ hd) hi
  obtain ⟨fd',fz⟩:=hF d (List.mem_of_getElem? hdi)
  refine ⟨_,rfl,x,d,rfl,hdx,fd',fz,fun t H3 s3 ht=>⟨zs,s3 _ _ g2,by rw [szl]; lia,zs++[.ref t],by rw [List.length_append]; show zs.length + 1≤i + 1; lia,⟨_,rfl,?_,by rw [List.length_append]; show zs.length + 1=i + 1; lia,?_,?_⟩,upd_same⟩⟩
  ·exact fun b ob e=>by rw [upd_ne (ne_of_none e hD)]; exact s3 _ _ (s2 _ _ e)
  ·have kt:KT H3 (upd H3 Dl (.lst (zs++[.ref t]))):=KT.upd (s3 _ _ g2)
   intro z hz'
   rcases List.mem_append.mp hz' with h | h
   ·obtain ⟨t',e,ks,h1,h2⟩:=hz z h
    exact ⟨t',e,ks,kt _ _ (s3 _ _ h1),h2⟩
   ·rw [List.mem_singleton.mp h]
    exact ⟨t,rfl,kD d,kt _ _ ht,kD_ne d fd'⟩
  ·have kt:KT H3 (upd H3 Dl (.lst (zs++[.ref t]))):=KT.upd (s3 _ _ g2)
   rw [List.map_append,List.take_add_one,hdi]
   show _++[kyH _ (.ref t)]=((ds.take i)++[d]).map kD
   rw [List.map_append,kyH_of (kt _ _ ht),← hk]
   congr 1
   apply List.map_congr_left
   intro z hzm
   obtain ⟨t',rfl,ks,h1,_⟩:=hz z hzm
   rw [kyH_of (kt _ _ (s3 _ _ h1)),kyH_of h1]
 ·rintro zs σ H2 ⟨o,rfl,s2,lz,hz,hk⟩ g2
  rw [List.take_of_length_le (by lia)] at hk
  have hz2:∀ z∈zs,kyH H2 z≠[]∧∃ t,z=.ref t∧H2 t=some (.tup ((kyH H2 z).map V.int)):=fun z hzm=>by
   obtain ⟨t,rfl,ks,h1,h2⟩:=hz z hzm
   rw [kyH_of h1]
   exact ⟨h2,t,rfl,h1⟩
  refine ⟨_,rfl,_,rfl,Dl,zs,kyH H2,rfl,g2,by lia,hz2,fun p ys H3 s3 g3 py wy=>?_⟩
  have key2:∀ {l:List V},(∀ z∈l,z∈zs)→∀ y∈l,∃ t,y=.ref t∧H3 t=some (.tup ((kyH H2 y).map V.int)):=fun {l} hm y hy=>by
   obtain ⟨_,t,e,ht⟩:=hz2 y (hm y hy)
   exact ⟨t,e,s3 _ _ ht⟩
  have ek:ys.map (kyH H2)=zs.map (kyH H2):=by
   refine lx_unique (py.map _) ?_ ?_
   ·rw [List.pairwise_map]; exact wy
   ·rw [hk,List.pairwise_map]; exact hO
  refine ⟨_,_,.inl ⟨⟨Dl,zs,rfl,SqL.of (s3 _ _ g2),reps_keys (key:=kyH H2) (key2 fun z h=>h)⟩,⟨p,ys,rfl,SqL.of g3,reps_keys (key:=kyH H2) (key2 fun z h=>py.mem_iff.mp h)⟩⟩,deps_keys _ _,?_⟩
  have e2:(ys.map fun y=>D.tup ((kyH H2 y).map D.int))=zs.map fun y=>D.tup ((kyH H2 y).map D.int):=by
   have:=congrArg (List.map fun ks:List Int=>D.tup (ks.map D.int)) ek
   rw [List.map_map,List.map_map] at this
   exact this
  rw [if_neg (by decide),e2,eqDs_refl]
  exact q _ (s2.trans s3)
noncomputable def spGroup:Sp:=fun vs H Q _=>∃ (v:V) (d:D),vs=[v]∧Dat H d v∧IsForm d∧∀ H',Same H H'→Q (.bl (match d with | .tup _=>true | _=>false)) H'
noncomputable abbrev s_is_group:Stmt:=top 34
theorem sc_is_group:FnScope ["form","kind","more","off"] ["form"] (defScope s_is_group):=⟨rfl,rfl,rfl,by decide +kernel,rfl,by decide +kernel,by decide +kernel⟩
theorem ok_group {f:Addr} {fd:FuncData} (F:Fun K "is_group" "is_group" s_is_group f fd) (B:Blt mg):FnOk P w K mg base CX0 1 f fd ["form"] spGroup:=by
 refine F.ok sc_is_group (fun vs H Q E h=>?_) (fun cdv A outer s H vs Q E hr h=>?_)
 ·obtain ⟨v,d,rfl,_⟩:=h
  rfl
 obtain ⟨v,d,rfl,hd,hF,q⟩:=h
 refine ⟨_,(pss_cons (ps_if (PW.pt (pw_or (pt_not (pt_val (pe_isin B.isinstance B.tuple bt_tuple (pv 0)))) (pw_or1 (pt_cmpR op_ne (pe_callB call_len_seq rfl B.len bt_len (pa_cons (pv 0) pa_nil)) pe_int (nomark _))))) (pss_one (ps_ret pe_bl)) pss_nil)
   (pss_cons (ps_asg (pv 0) (pg_tup rfl (pgs_cons (pg_name (i:=1) sc_is_group.nd rfl (by first | exact Or.inl rfl | exact Or.inr rfl)) (pgs_cons (pg_name (i:=2) sc_is_group.nd rfl (by first | exact Or.inl rfl | exact Or.inr rfl)) (pgs_cons (pg_name (i:=3) sc_is_group.nd rfl (by first | exact Or.inl rfl | exact Or.inr rfl)) pgs_nil)))))
   (pss_one (ps_ret (pe_and (pe_cmpR op_in_seq (pv 1) (pe_tup (pa_cons pe_str (pa_cons pe_str pa_nil))) rfl) (pe_and (pe_isin B.isinstance B.tuple bt_tuple (pv 2)) (pe_one (pe_isin B.isinstance B.tuple bt_tuple (pv 3))))))))),?_⟩
 cases hF with
 | @num i g0 g1 =>
  have:=hd.intE
  subst this
  refine ⟨_,rfl,_,_,TyOf.int _,kit_int_tuple _,_,rfl,iteT (iteT ?_)⟩
  exact q H (Same.refl H)
 | @grp k m0 more off hk g0 g1 g2 =>
  obtain ⟨p,pm,po,x0,xm,xo,rfl,hp,hpm,hpo,_⟩:=dat_grp hd
  refine ⟨_,rfl,_,_,TyOf.tup hp,kit_tup_tup _,_,rfl,iteF ?_⟩
  refine ⟨_,rfl,p,_,rfl,.inr (SqT.of hp),rfl,_,rfl,iteNS rfl ?_⟩
  refine ⟨_,rfl,p,_,rfl,SqT.of hp,rfl,_,_,rfl,_,_,rfl,_,_,rfl,rfl,?_⟩
  refine ⟨_,rfl,(by show 2≤sizeLine; decide),fun pq hpq=>?_⟩
  have sq:=Same.new (o:=.tup [V.str "sum",V.str "product"]) hpq
  refine ⟨pq,_,rfl,.inr (SqT.of upd_same),rfl,rfl,?_⟩
  have e:inV (V.str k) [V.str "sum",V.str "product"]=true:=inV_two.mpr hk
  rw [if_neg (by decide),e]
  refine ⟨_,rfl,iteT ?_⟩
  refine ⟨_,rfl,_,_,TyOf.tup (sq _ _ hpm),kit_tup_tup _,_,rfl,iteT ?_⟩
  refine ⟨_,rfl,_,_,TyOf.tup (sq _ _ hpo),kit_tup_tup _,?_⟩
  exact q _ sq
noncomputable def spIsNum:Sp:=fun vs H Q _=>∃ i:Int,vs=[.int i]∧1≤i∧Q (.bl true) H
noncomputable abbrev s_is_number:Stmt:=top 35
theorem sc_is_number:FnScope ["form"] ["form"] (defScope s_is_number):=⟨rfl,rfl,rfl,by decide +kernel,rfl,by decide +kernel,by decide +kernel⟩
theorem ok_isnum {f:Addr} {fd:FuncData} (F:Fun K "is_number" "is_number" s_is_number f fd) (B:Blt mg):FnOk P w K mg base CX0 1 f fd ["form"] spIsNum:=by
 refine F.ok sc_is_number (fun vs H Q E h=>?_) (fun cdv A outer s H vs Q E hr h=>?_)
 ·obtain ⟨i,rfl,_⟩:=h
  rfl
 obtain ⟨i,rfl,h1,q⟩:=h
 refine ⟨_,(pss_one (ps_ret (pe_and (pe_isin B.isinstance B.int bt_int (pv 0)) (pe_and (pe_not (pe_isin B.isinstance B.bool bt_bool (pv 0))) (pe_one (pe_cmpR op_ge (pv 0) pe_int (nomark _))))))),?_⟩
 refine ⟨_,rfl,_,_,TyOf.int _,kit_int_int _,_,rfl,iteT ?_⟩
 refine ⟨_,rfl,_,_,TyOf.int _,kit_int_bool _,_,rfl,_,rfl,iteT ?_⟩
 refine ⟨_,rfl,_,_,rfl,rfl,?_⟩
 show Q (.bl (decide (1≤i))) H
 rw [decide_eq_true h1]
 exact q
noncomputable def spKept:Sp:=fun vs H Q _=>∃ (v:V) (k:Str) (m0:D) (more off:List D),vs=[v]∧Dat H (.tup [.str k,.tup (m0 :: more),.tup off]) v∧Kept (.tup [.str k,.tup (m0 :: more),.tup off])∧sz (.tup [.str k,.tup (m0 :: more),.tup off])≤100∧(m0 :: more).length + off.length≤50∧(∀ x∈m0 :: more,sz x≤400)∧(∀ x∈off,sz x≤400)∧∀ H',Same H H'→Q (.bl true) H'
noncomputable def spIsOfV (k:Str) (d:D):Bool:=match d with | .tup (.str k' :: _)=>decide (k'=k) | _=>false
noncomputable abbrev s_is_kept:Stmt:=top 36
theorem sc_is_kept:FnScope ["group","kind","more","off"] ["group"] (defScope s_is_kept):=⟨rfl,rfl,rfl,by decide +kernel,rfl,by decide +kernel,by decide +kernel⟩
theorem ok_kept {f:Addr} {fd:FuncData} (F:Fun K "is_kept" "is_kept" s_is_kept f fd) (B:Blt mg) (Bany:mg "any"=none) (Gis:Def P w K mg base CX0 1 "is_of" spIsOf) (Ginord:Def P w K mg base CX0 2 "is_in_order" spInOrd):FnOk P w K mg base CX0 3 f fd ["group"] spKept:=by
 refine F.ok (k:=2) sc_is_kept (fun vs H Q E h=>?_) (fun cdv A outer s H vs Q E hr h=>?_)
 ·obtain ⟨v,k,m0,more,off,rfl,_⟩:=h
  rfl
 obtain ⟨v,k,m0,more,off,rfl,hd,hK,hz,h50,zm,zo,q⟩:=h
 cases hK with
 | grp hk h2 nm no om oo g0 g1 g2 =>
 obtain ⟨p,pm,po,x0,xm,xo,rfl,hp,hpm,hpo,d0,d1,d2⟩:=dat_grp hd
 have szl:=sizeLine_eq
 have lm:=d1.len
 have lo:=d2.len
 have fM:∀ x∈m0 :: more,IsForm x:=fun x hx=>by
  rcases List.mem_cons.mp hx with rfl | hx
  ·exact g0.form
  ·exact (g1 x hx).form
 have fO:∀ x∈off,IsForm x:=fun x hx=>(g2 x hx).form
 rw [List.length_cons] at h50
 refine ⟨_,(pss_cons (ps_asg (pv 0) (pg_tup rfl (pgs_cons (pg_name (i:=1) sc_is_kept.nd rfl (by first | exact Or.inl rfl | exact Or.inr rfl)) (pgs_cons (pg_name (i:=2) sc_is_kept.nd rfl (by first | exact Or.inl rfl | exact Or.inr rfl)) (pgs_cons (pg_name (i:=3) sc_is_kept.nd rfl (by first | exact Or.inl rfl | exact Or.inr rfl)) pgs_nil)))))
   (pss_cons (ps_if (PW.pt (pw_or (pt_cmpR op_eq (pe_callB call_len_seq rfl B.len bt_len (pa_cons (pv 2) pa_nil)) pe_int (nomark _)) (pw_or1 (pt_cmpR op_lt (pe_op op_add (pe_callB call_len_seq rfl B.len bt_len (pa_cons (pv 2) pa_nil)) (pe_callB call_len_seq rfl B.len bt_len (pa_cons (pv 3) pa_nil))) pe_int (nomark _))))) (pss_one (ps_ret pe_bl)) pss_nil)
   (pss_cons (ps_if (pt_val (pe_callB (call_anyL rfl) rfl Bany bt_any (pa_cons (pe_compC (N:=["part","kind"]) rfl (csC_of [none,some 1] rfl (by decide +kernel) (by decide +kernel) rfl rfl) rfl (pi_tup (pe_op op_catG (pv 2) (pv 3))) (fun _ _ _ _=>(pg_name (i:=0) (show (["part","kind"]:List Str).Nodup by decide +kernel) rfl (by first | exact Or.inl rfl | exact Or.inr rfl))) (fun _ _ _ _=>ptl_nil) (fun _ _ _ _=>(pe_def Gis (hr.mono (by lia)) (pa_cons (pv 1) (pa_cons (pv 0) pa_nil))))) pa_nil))) (pss_one (ps_ret pe_bl)) pss_nil)
   (pss_one (ps_ret (pe_and (pe_def Ginord (hr.mono (by lia)) (pa_cons (pv 2) pa_nil)) (pe_one (pe_def Ginord (hr.mono (by lia)) (pa_cons (pv 3) pa_nil))))))))),?_⟩
 refine ⟨_,rfl,p,_,rfl,SqT.of hp,rfl,_,_,rfl,_,_,rfl,_,_,rfl,rfl,?_⟩
 refine ⟨_,rfl,pm,_,rfl,.inr (SqT.of hpm),rfl,_,rfl,?_⟩
 have e1:decide (V.int (((x0 :: xm).length:Nat):Int)=V.int 0)=false:=decide_eq_false (fun z=>by have:=V.int.inj z; rw [List.length_cons] at this; lia)
 rw [e1]
 refine iteF ?_
 refine ⟨_,rfl,pm,_,rfl,.inr (SqT.of hpm),_,rfl,po,_,rfl,.inr (SqT.of hpo),_,_,rfl,rfl,_,_,rfl,rfl,_,rfl,?_⟩
 have e2:decide ((((x0 :: xm).length:Nat):Int) + ((xo.length:Nat):Int) < 2)=false:=decide_eq_false (by rw [List.length_cons]; lia)
 rw [e2]
 refine iteF ?_
 refine ⟨_,rfl,_,rfl,pm,po,_,_,rfl,rfl,hpm,hpo,by rw [List.length_cons]; lia,fun pc H1 s1 hpc=>?_⟩
 have dA:Dats H1 ((m0 :: more)++off) ((x0 :: xm)++xo):=Dats.app (Dats.kt (KT.same s1) _ (.consI d0 d1)) (Dats.kt (KT.same s1) _ d2)
 have lA:=dA.len
 have kA:∀ x∈(m0 :: more)++off,IsForm x∧isK k x=false:=fun x hx=>by
  rcases List.mem_append.mp hx with h | h
  ·exact ⟨fM x h,nm x h⟩
  ·exact ⟨fO x h,no x h⟩
 have l51:((x0 :: xm)++xo).length≤51:=by rw [List.length_append,List.length_cons]; lia
 generalize (m0 :: more)++off=ds at dA lA kA
 generalize (x0 :: xm)++xo=xs at dA hpc lA l51
 refine ⟨pc,rfl,⟨_,SqT.of hpc⟩,fun Dl hD Cx sx fp=>?_⟩
 refine comp_tup (K:=K) (a:=pc) (xs:=xs) (tt:=fun _ H Q=>Q true H) (fun i zs σ H'=>∃ o:Option V,σ=[o,some (.str k)]∧Same H1 H'∧zs=(List.replicate i false).map V.bl) (fun i zs σ H' ⟨_,_,g,_⟩=>SqT.of (g _ _ hpc)) ⟨none,rfl,Same.new hD,rfl⟩ ?_ ?_
 ·rintro i x zs σ H2 hi hzl ⟨o,rfl,s2,rfl⟩ g2
  have hil:=(List.getElem?_eq_some_iff.mp hi).1
  obtain ⟨d,hdi,hdx⟩:∃ d,ds[i]?=some d∧Dat H2 d x:=by
   have:∀ {ds:List D} {xs:List V} {i:Nat} {x:V},Dats H2 ds xs→xs[i]?=some x→∃ d,ds[i]?=some d∧Dat H2 d x:=by
    intro ds
    induction ds with
    | nil=>intro xs i x h e; rw [h.nilE] at e; cases e
    | cons d r ih =>
     intro xs i x h e
     obtain ⟨y,t,rfl,h1,h2⟩:=h.consE
     cases i with
     | zero=>cases e; exact ⟨d,rfl,h1⟩
     | succ i=>exact ih h2 (by simpa using e)
   exact this (Dats.kt (KT.same s2) _ dA) hi
  obtain ⟨fd',fk'⟩:=kA d (List.mem_of_getElem? hdi)
  refine ⟨_,rfl,_,rfl,k,x,d,rfl,hdx,fd',_,g2,by rw [szl]; lia,_,by rw [List.length_append]; show _ + 1≤i + 1; lia,⟨_,rfl,fun b ob e=>by rw [upd_ne (ne_of_none e hD)]; exact s2 _ _ e,?_⟩,upd_same⟩
  have ek:spIsOfV k d=false:=by rw [← fk']; unfold spIsOfV isK; rfl
  show _++[V.bl (spIsOfV k d)]=_
  rw [ek,List.replicate_succ',List.map_append]; rfl
 ·rintro zs σ H2 ⟨o,rfl,s2,rfl⟩ g2
  refine ⟨Dl,_,rfl,SqL.of g2,?_⟩
  have ef:(List.replicate xs.length false).any id=false:=by
   rw [List.any_eq_false]
   intro b hb
   rw [List.eq_of_mem_replicate hb]
   decide
  rw [ef]
  refine ⟨_,rfl,iteF ?_⟩
  have s02:=s1.trans s2
  refine ⟨_,rfl,pm,_,m0 :: more,rfl,s02 _ _ hpm,Dats.kt (KT.same s02) _ (.consI d0 d1),(fun x hx=>⟨fM x hx,zm x hx⟩),by rw [List.length_cons]; lia,om,fun H3 s3=>⟨_,rfl,iteT ?_⟩⟩
  refine ⟨_,rfl,po,_,off,rfl,s3 _ _ (s02 _ _ hpo),Dats.kt (KT.same (s02.trans s3)) _ d2,(fun x hx=>⟨fO x hx,zo x hx⟩),by lia,oo,fun H4 s4=>?_⟩
  exact q _ (s02.trans (s3.trans s4))
end
end Law
namespace Law
open PySem L2
section
variable {P:Program} {w:World} {K:PySem.W.Frag} {mg:Str→Option Value} {base:Heap}
theorem lvs_one (d:D):lvs [d]=lv d:=by rw [lvs,lvs]; rfl
theorem pf_lv {k:Str} {d:D} (h:IsForm d):lvs (pf k d).1 + lvs (pf k d).2=lv d:=by
 cases h with
 | num h0 h1=>rw [pf_int]; show lvs [_] + lvs []=_; rw [lvs_one,lvs]; rfl
 | @grp k' m0 more off hk g0 g1 g2 =>
  rw [pf_grp]
  split
  ·show lvs (m0 :: more) + lvs off=_
   rw [lv_grp,lvs]
  ·show lvs [_] + lvs []=_
   rw [lvs_one,lvs]; rfl
theorem fP_lv:∀ {x:Way},x.ok 1000000000000000000000000000000000000000000000000→lv (fP x)=x.size:=by
 intro x
 induction x with
 | num n=>intro _; show lv (.int n)=1; unfold lv; rfl
 | op w a b iha ihb =>
  intro h
  obtain ⟨hw,ha,hb⟩:=id h
  have e1:=pf_lv (k:=knd w) (fP_form ha)
  have e2:=pf_lv (k:=knd w) (fP_form hb)
  have pm:=lvs_perm (srtD_perm ((pf (knd w) (fP a)).1++(swp (trn w) (pf (knd w) (fP b))).1))
  have po:=lvs_perm (srtD_perm ((pf (knd w) (fP a)).2++(swp (trn w) (pf (knd w) (fP b))).2))
  obtain ⟨⟨m0,r0,em0⟩,_,_⟩:=pf_form (k:=knd w) (fP_form ha)
  obtain ⟨x0,t0,e0⟩:=srt_cons (l:=(pf (knd w) (fP a)).1++(swp (trn w) (pf (knd w) (fP b))).1) (m0:=m0) (r:=r0++(swp (trn w) (pf (knd w) (fP b))).1) (by rw [em0]; rfl)
  rw [lvs_app] at pm po
  have sw:lvs (swp (trn w) (pf (knd w) (fP b))).1 + lvs (swp (trn w) (pf (knd w) (fP b))).2=lv (fP b):=by
   unfold swp
   split
   ·show lvs (pf (knd w) (fP b)).2 + lvs (pf (knd w) (fP b)).1=_; lia
   ·exact e2
  show lv (.tup [.str (knd w),.tup (srtD ((pf (knd w) (fP a)).1++(swp (trn w) (pf (knd w) (fP b))).1)),.tup (srtD ((pf (knd w) (fP a)).2++(swp (trn w) (pf (knd w) (fP b))).2))])=a.size + b.size
  rw [e0] at pm ⊢
  rw [lvs] at pm
  rw [lv_grp]
  have:=iha ha
  have:=ihb hb
  lia
noncomputable def hasW (x:Way):Bool:=match worthE x with
 | .inr _=>true
 | .inl _=>false
variable {W N:Addr} {bN:List Value}
noncomputable def spHas:Sp:=fun vs H Q _=>∃ (v:V) (x:Way),vs=[v]∧WayIn H v x∧x.fit∧x.nodes≤1000∧∀ H',Same H H'→Q (.bl (hasW x)) H'
noncomputable abbrev s_has_worth:Stmt:=top 38
theorem sc_has_worth:FnScope ["way"] ["way"] (defScope s_has_worth):=⟨rfl,rfl,rfl,by decide +kernel,rfl,by decide +kernel,by decide +kernel⟩
theorem ok_has {f:Addr} {fd:FuncData} (F:Fun K "has_worth" "has_worth" s_has_worth f fd) (R:Xc.Refs P w K mg base W N bN) (Gworthof:Def P w K mg base (CXF P w) 9 "worth_of" (Xc.spWorthOfX N)):FnOk P w K mg base CX0 10 f fd ["way"] spHas:=by
 refine F.ok (k:=9) sc_has_worth (fun vs H Q E h=>?_) (fun cdv A outer s H vs Q E hr h=>?_)
 ·obtain ⟨v,x,rfl,_⟩:=h
  rfl
 obtain ⟨v,x,rfl,hx,fx,hn,q⟩:=h
 refine ⟨_,(pss_cons (ps_try0 rfl R.gN R.cN.xcls rfl rfl (fun EX pins=>(pss_one (ps_expr (pe_defX Gworthof (hr.mono (by lia)) (pa_cons (pv 0) pa_nil))))) (fun _ pins=>(pss_one (ps_ret pe_bl))))
   (pss_one (ps_ret pe_bl))),?_⟩
 refine ⟨_,rfl,v,x,rfl,hx,fx,hn,?_⟩
 unfold hasW at q
 cases ew:worthE x with
 | inr n =>
  rw [ew] at q
  exact fun H1 s1=>q H1 s1
 | inl e =>
  rw [ew] at q
  exact fun dx H1 s1 _ _=>⟨⟨N,bN,rfl,R.cN.xcls,by simp⟩,q H1 s1⟩
end
end Law
namespace Law
open PySem L2
section
variable {P:Program} {w:World} {K:PySem.W.Frag} {mg:Str→Option Value} {base:Heap}
theorem Dats.rev {H:Hp}:∀ {ds:List D} {xs:List V},Dats H ds xs→Dats H ds.reverse xs.reverse
 | [],xs,h=>by rw [h.nilE]; exact .nilI H
 | d :: r,xs,h=>by
  obtain ⟨x,t,rfl,h1,h2⟩:=h.consE
  rw [List.reverse_cons,List.reverse_cons]
  exact Dats.app h2.rev (.consI h1 (.nilI H))
theorem szl_app (a b:List D):szl (a++b)=szl a + szl b:=by unfold szl; rw [List.map_append,List.sum_append]
theorem szl_rev (a:List D):szl a.reverse=szl a:=by
 induction a with
 | nil=>rfl
 | cons x r ih=>rw [List.reverse_cons,szl_app,ih]; unfold szl; rw [List.map_cons,List.sum_cons]; simp; lia
theorem szl_szs:∀ l:List D,szl l + l.length=szs l
 | []=>by unfold szl szs; rfl
 | d :: r=>by
  have:=szl_szs r
  have e:szs (d :: r)=sz d + 1 + szs r:=by rw [szs]
  have e2:szl (d :: r)=sz d + szl r:=by unfold szl; rw [List.map_cons,List.sum_cons]
  rw [e,e2,List.length_cons]; lia
theorem sz_mem {l:List D} {x:D} (h:x∈l):sz x + 1≤szs l:=by
 induction l with
 | nil=>cases h
 | cons d r ih =>
  have e:szs (d :: r)=sz d + 1 + szs r:=by rw [szs]
  rcases List.mem_cons.mp h with rfl | h
  ·lia
  ·have:=ih h; lia
noncomputable def GK (d:D):Prop:=∃ (k:Str) (m0:D) (more off:List D),d=.tup [.str k,.tup (m0 :: more),.tup off]∧Kept d∧sz d≤90
noncomputable def spLet:Sp:=fun vs H Q _=>∃ (v:V) (d:D),vs=[v]∧Dat H d v∧Kept d∧lv d≤9∧sz d≤90∧∀ H',Same H H'→Q (.bl (hasW (fw d))) H'
noncomputable abbrev s_form_let:Stmt:=top 33
theorem sc_form_let:FnScope ["form","groups","waiting","part"] ["form"] (defScope s_form_let):=⟨rfl,rfl,rfl,by decide +kernel,rfl,by decide +kernel,by decide +kernel⟩
theorem ok_let {f:Addr} {fd:FuncData} (F:Fun K "form_let" "form_let" s_form_let f fd) (B:Blt mg) (Ball:mg "all"=none) (Ggroup:Def P w K mg base CX0 1 "is_group" spGroup) (Gisnum:Def P w K mg base CX0 1 "is_number" spIsNum) (Gkept:Def P w K mg base CX0 3 "is_kept" spKept) (Gwayof:Def P w K mg base CX0 3 "way_of" Wy.spWayOf) (Ghas:Def P w K mg base CX0 10 "has_worth" spHas):FnOk P w K mg base CX0 11 f fd ["form"] spLet:=by
 refine F.ok (k:=10) sc_form_let (fun vs H Q E h=>?_) (fun cdv A outer s H vs Q E hr h=>?_)
 ·obtain ⟨v,d,rfl,_⟩:=h
  rfl
 obtain ⟨v,d,rfl,hd,hK,hlv,hz,q⟩:=h
 refine ⟨_,(pss_cons (ps_set (i:=1) sc_form_let.nd rfl (by first | exact Or.inl rfl | exact Or.inr rfl) (pe_lst pa_nil))
   (pss_cons (ps_set (i:=2) sc_form_let.nd rfl (by first | exact Or.inl rfl | exact Or.inr rfl) (pe_lst (pa_cons (pv 0) pa_nil)))
   (pss_cons (ps_while PassesOwn.never (pt_truth (pv 2) (fun _=>rfl)) (pss_cons (ps_set (i:=3) sc_form_let.nd rfl (by first | exact Or.inl rfl | exact Or.inr rfl) (pe_bm0 PySem.F.plainAttrs_list PySem.F.slot_list_pop PySem.F.type_list_pop mt_pop (pv 2)))
   (pss_one (ps_if (pt_val (pe_def Ggroup (hr.mono (by lia)) (pa_cons (pv 3) pa_nil))) (pss_cons (ps_expr (pe_bm PySem.F.plainAttrs_list PySem.F.slot_list_append PySem.F.type_list_append mt_append (pv 1) (pa_cons (pv 3) pa_nil)))
   (pss_one (ps_expr (pe_bm PySem.F.plainAttrs_list PySem.F.slot_list_extend PySem.F.type_list_extend mt_extendT (pv 2) (pa_cons (pe_op op_catG (pe_ix ix_tup (pv 3) pe_int (fun _ _=>rfl)) (pe_ix ix_tup (pv 3) pe_int (fun _ _=>rfl))) pa_nil))))) (pss_one (ps_if (pt_not (pt_val (pe_def Gisnum (hr.mono (by lia)) (pa_cons (pv 3) pa_nil)))) (pss_one (ps_ret pe_bl)) pss_nil))))))
   (pss_one (ps_ret (pe_and (pe_callB (call_allL rfl) rfl Ball bt_all (pa_cons (pe_compC (N:=["group"]) rfl (csC_of [none] rfl (by decide +kernel) (by decide +kernel) rfl rfl) rfl (pi_list (pv 1)) (fun _ _ _ _=>(pg_name (i:=0) (show (["group"]:List Str).Nodup by decide +kernel) rfl (by first | exact Or.inl rfl | exact Or.inr rfl))) (fun _ _ _ _=>ptl_nil) (fun _ _ _ _=>(pe_def Gkept (hr.mono (by lia)) (pa_cons (pv 0) pa_nil)))) pa_nil)) (pe_one (pe_def Ghas (hr.mono (by lia)) (pa_cons (pe_def Gwayof (hr.mono (by lia)) (pa_cons (pv 0) pa_nil)) pa_nil))))))))),?_⟩
 have szl0:=sizeLine_eq
 refine ⟨(by show 0≤sizeLine; decide),fun pg hpg=>⟨_,rfl,(by show 1≤sizeLine; decide),fun pw hpw=>?_⟩⟩
 have hs1:(upd (upd H pg (.lst [])) pw (.lst [v])) pg=some (.lst []):=by rw [upd_ne (ne_of_none upd_same hpw),upd_same]
 have npw:H pw=none:=(Same.new hpg).free hpw
 have nsw:pg≠pw:=ne_of_none upd_same hpw
 have S0:Same H (upd (upd H pg (.lst [])) pw (.lst [v])):=(Same.new hpg).trans (Same.new hpw)
 refine ⟨fun m σ H'=>∃ (vr:List V) (wr:List D) (gv:List V) (gd:List D) (o:Option V),σ=[some v,some (.ref pg),some (.ref pw),o]∧Same H H'∧H' pg=some (.lst gv)∧H' pw=some (.lst vr.reverse)∧Dats H' wr vr∧Dats H' gd gv∧(∀ x∈wr,Kept x∧sz x≤90)∧(∀ x∈gd,GK x)∧gd.length + szl wr≤90∧m=szl wr,
  ⟨_,[v],[d],[],[],none,rfl,S0,hs1,upd_same,.consI (Dat.kt (KT.same S0) _ hd) (.nilI _),.nilI _,(fun x hx=>by rw [List.mem_singleton.mp hx]; exact ⟨hK,hz⟩),(fun x hx=>by cases hx),by unfold szl; simpa using hz,rfl⟩,?_⟩
 rintro m σ H' ⟨vr,wr,gv,gd,o,rfl,sH,h1,h2,pr,pg',hok,hgk,hsz,em⟩
 have lv':=pr.len
 have lg:=pg'.len
 have lw:=Wy.szl_len wr
 refine ⟨_,rfl,_,.inl ⟨_,SqL.of h2,rfl⟩,?_⟩
 cases wr with
 | nil =>
  have:=pr.nilE
  subst this
  refine iteF ?_
  refine ⟨_,rfl,pg,rfl,⟨_,SqL.of h1⟩,fun Dl hD Cx sx fp=>?_⟩
  refine comp_list (K:=K) (a:=pg) (xs:=gv) (tt:=fun _ H Q=>Q true H) (fun i zs σ H2=>∃ o:Option V,σ=[o]∧Same H' H2∧zs=(List.replicate i true).map V.bl) (fun i zs σ H2 ⟨_,_,g,_⟩=>SqL.of (g _ _ h1)) ⟨none,rfl,Same.new hD,rfl⟩ ?_ ?_
  ·rintro i x zs σ H2 hi hzl ⟨o,rfl,s2,rfl⟩ g2
   have hil:=(List.getElem?_eq_some_iff.mp hi).1
   obtain ⟨g,hdi,hdx⟩:∃ d,gd[i]?=some d∧Dat H2 d x:=by
    have:∀ {ds:List D} {xs:List V} {i:Nat} {x:V},Dats H2 ds xs→xs[i]?=some x→∃ d,ds[i]?=some d∧Dat H2 d x:=by
     intro ds
     induction ds with
     | nil=>intro xs i x h e; rw [h.nilE] at e; cases e
     | cons d r ih =>
      intro xs i x h e
      obtain ⟨y,t,rfl,h1,h2⟩:=h.consE
      cases i with
      | zero=>cases e; exact ⟨d,rfl,h1⟩
      | succ i=>exact ih h2 (by simpa using e)
    exact this (Dats.kt (KT.same s2) _ pg') hi
   obtain ⟨k,m0,more,off,rfl,kk,zz⟩:=hgk g (List.mem_of_getElem? hdi)
   have sg:=Wy.sz_grp k m0 more off
   have c1:=Wy.szs_len (m0 :: more)
   have c2:=Wy.szs_len off
   refine ⟨_,rfl,x,k,m0,more,off,rfl,hdx,kk,by lia,by lia,(fun y hy=>by have:=sz_mem hy; lia),(fun y hy=>by have:=sz_mem hy; lia),fun H3 s3=>⟨_,s3 _ _ g2,by rw [szl0]; lia,_,by rw [List.length_append]; show _ + 1≤i + 1; lia,⟨_,rfl,fun b ob e=>by rw [upd_ne (ne_of_none e hD)]; exact s3 _ _ (s2 _ _ e),?_⟩,upd_same⟩⟩
   rw [List.replicate_succ',List.map_append]; rfl
  ·rintro zs σ H2 ⟨o,rfl,s2,rfl⟩ g2
   refine ⟨Dl,_,rfl,SqL.of g2,?_⟩
   have ef:(List.replicate gv.length true).all id=true:=by
    rw [List.all_eq_true]
    intro b hb
    rw [List.eq_of_mem_replicate hb]
    rfl
   rw [ef]
   refine ⟨_,rfl,iteT ?_⟩
   have s02:=sH.trans s2
   refine ⟨_,rfl,v,d,rfl,Dat.kt (KT.same s02) _ hd,hK.form,by lia,by lia,fun u H3 s3 w3=>?_⟩
   have fo:=fw_ok hK.form
   have fs:=fw_size hK.form
   have nd:=(fw d).nodes_eq
   exact ⟨u,fw d,rfl,w3,fit_ofN fo (by lia),by lia,fun H4 s4=>q _ (s02.trans (s3.trans s4))⟩
 | cons z wr' =>
  obtain ⟨y,vr',rfl,hy,pr'⟩:=pr.consE
  have e2:(y :: vr').reverse=vr'.reverse++[y]:=List.reverse_cons
  have sn:szl (z :: wr')=sz z + szl wr':=by unfold szl; rw [List.map_cons,List.sum_cons]
  have zp:=sz_pos z
  rw [e2] at h2
  refine (show (if _ then _ else _:Prop) from ?_)
  have ne:(!((y :: vr').reverse).isEmpty)=true:=by rw [e2]; simp
  rw [if_pos ne]
  refine ⟨fun σ' H'=>∃ m',m' < m∧∃ (vr:List V) (wr:List D) (gv:List V) (gd:List D) (o:Option V),σ'=[some v,some (.ref pg),some (.ref pw),o]∧Same H H'∧H' pg=some (.lst gv)∧H' pw=some (.lst vr.reverse)∧Dats H' wr vr∧Dats H' gd gv∧(∀ x∈wr,Kept x∧sz x≤90)∧(∀ x∈gd,GK x)∧gd.length + szl wr≤90∧m'=szl wr,fun σ' H' h=>h,?_⟩
  refine ⟨_,rfl,.inl ⟨rfl,_,SqL.of h2⟩,pw,_,y,rfl,rfl,h2,(by simp),?_⟩
  rw [List.dropLast_concat]
  have h1a:(upd H' pw (.lst vr'.reverse)) pg=some (.lst gv):=by rw [upd_ne nsw]; exact h1
  have h2a:(upd H' pw (.lst vr'.reverse)) pw=some (.lst vr'.reverse):=upd_same
  have sHa:Same H (upd H' pw (.lst vr'.reverse)):=fun b o e=>by rw [upd_ne (ne_of_none e npw)]; exact sH b o e
  have ka:KT H' (upd H' pw (.lst vr'.reverse)):=KT.upd h2
  have pra:=Dats.kt ka _ pr'
  have pga:=Dats.kt ka _ pg'
  have hya:=Dat.kt ka _ hy
  generalize upd H' pw (.lst vr'.reverse)=H1 at h1a h2a sHa pra pga hya ⊢
  have hok':∀ x∈wr',Kept x∧sz x≤90:=fun x hx=>hok x (List.mem_cons_of_mem _ hx)
  obtain ⟨hKz,hzz⟩:=hok z (List.mem_cons_self ..)
  have lw':=Wy.szl_len wr'
  have lv2:=pra.len
  refine ⟨_,rfl,y,z,rfl,hya,hKz.form,fun H2 s2=>?_⟩
  cases hKz with
  | @num i g0 g1 =>
   have:=hya.intE
   subst this
   refine ⟨_,rfl,iteF ?_⟩
   refine ⟨_,rfl,i,rfl,g0,_,rfl,iteF ?_⟩
   exact ⟨szl wr',by lia,vr',wr',gv,gd,_,rfl,sHa.trans s2,s2 _ _ h1a,s2 _ _ h2a,Dats.kt (KT.same s2) _ pra,Dats.kt (KT.same s2) _ pga,hok',hgk,by lia,rfl⟩
  | @grp k m0 more off hk hn2 nm no om oo g0 g1 g2 =>
   obtain ⟨p,pm,po,x0,xm,xo,rfl,hp,hpm,hpo,d0,d1,d2⟩:=dat_grp (Dat.kt (KT.same s2) _ hya)
   have sg:=Wy.sz_grp k m0 more off
   have c1:=szl_szs (m0 :: more)
   have c2:=szl_szs off
   refine ⟨_,rfl,iteT ?_⟩
   refine ⟨_,rfl,.inl ⟨rfl,_,SqL.of (s2 _ _ h1a)⟩,_,rfl,pg,_,_,rfl,rfl,s2 _ _ h1a,by rw [szl0]; lia,?_⟩
   have h1b:(upd H2 pg (.lst (gv++[.ref p]))) pg=some (.lst (gv++[.ref p])):=upd_same
   have h2b:(upd H2 pg (.lst (gv++[.ref p]))) pw=some (.lst vr'.reverse):=by rw [upd_ne nsw.symm]; exact s2 _ _ h2a
   have kb:KT H2 (upd H2 pg (.lst (gv++[.ref p]))):=KT.upd (s2 _ _ h1a)
   have sHb:Same H (upd H2 pg (.lst (gv++[.ref p]))):=fun b o e=>by rw [upd_ne (ne_of_none e hpg)]; exact s2 _ _ (sHa b o e)
   have kab:=KT.trans (KT.same s2) kb
   have dz:=Dat.kt kab _ hya
   have prb:=Dats.kt kab _ pra
   have pgb:=Dats.kt kab _ pga
   have hpb:=kb _ _ hp
   have hpmb:=kb _ _ hpm
   have hpob:=kb _ _ hpo
   have dA:Dats (upd H2 pg (.lst (gv++[.ref p]))) ((m0 :: more)++off) ((x0 :: xm)++xo):=Dats.app (Dats.kt kb _ (.consI d0 d1)) (Dats.kt kb _ d2)
   generalize upd H2 pg (.lst (gv++[.ref p]))=H3 at h1b h2b sHb dz prb pgb hpb hpmb hpob dA ⊢
   have lA:=dA.len
   have lA2:((m0 :: more)++off).length=(m0 :: more).length + off.length:=List.length_append
   refine ⟨_,rfl,.inl ⟨rfl,_,SqL.of h2b⟩,_,rfl,p,_,_,_,rfl,rfl,SqT.of hpb,atI_nat (j:=1) rfl,_,rfl,p,_,_,_,rfl,rfl,SqT.of hpb,atI_nat (j:=2) rfl,pm,po,_,_,rfl,rfl,hpmb,hpob,?_,fun pc H4 s4 hpc=>?_⟩
   ·have lA3:((x0 :: xm)++xo).length=(x0 :: xm).length + xo.length:=List.length_append
    lia
   refine ⟨pw,pc,_,_,rfl,rfl,s4 _ _ h2b,hpc,by rw [List.length_reverse]; lia,?_⟩
   have k5:KT H4 (upd H4 pw (.lst (vr'.reverse++((x0 :: xm)++xo)))):=KT.upd (s4 _ _ h2b)
   have k45:=KT.trans (KT.same s4) k5
   have ez:szl (((m0 :: more)++off).reverse++wr')=szl (m0 :: more) + szl off + szl wr':=by rw [szl_app,szl_rev,szl_app]
   refine ⟨szl (((m0 :: more)++off).reverse++wr'),by lia,((x0 :: xm)++xo).reverse++vr',((m0 :: more)++off).reverse++wr',gv++[.ref p],gd++[.tup [.str k,.tup (m0 :: more),.tup off]],_,rfl,?_,?_,?_,Dats.app (Dats.kt k45 _ dA).rev (Dats.kt k45 _ prb),Dats.app (Dats.kt k45 _ pgb) (.consI (Dat.kt k45 _ dz) (.nilI _)),?_,?_,?_,rfl⟩
   ·exact fun b o e=>by rw [upd_ne (ne_of_none e npw)]; exact s4 _ _ (sHb b o e)
   ·rw [upd_ne nsw]; exact s4 _ _ h1b
   ·rw [upd_same,List.reverse_append,List.reverse_reverse]
   ·intro x hx
    rcases List.mem_append.mp hx with hx | hx
    ·rcases List.mem_append.mp (List.mem_reverse.mp hx) with h | h
     ·have:=sz_mem h
      rcases List.mem_cons.mp h with rfl | h
      ·exact ⟨g0,by lia⟩
      ·exact ⟨g1 x h,by lia⟩
     ·have:=sz_mem h
      exact ⟨g2 x h,by lia⟩
    ·exact hok' x hx
   ·intro x hx
    rcases List.mem_append.mp hx with h | h
    ·exact hgk x h
    ·rw [List.mem_singleton.mp h]
     exact ⟨k,m0,more,off,rfl,.grp hk hn2 nm no om oo g0 g1 g2,hzz⟩
   ·rw [List.length_append]
    show gd.length + 1 + _≤90
    lia
end
end Law
namespace Law
open PySem L2
section
variable {P:Program} {w:World} {K:PySem.W.Frag} {mg:Str→Option Value} {base:Heap}
theorem dep_grpE (k:Str) (more off:List D):(D.tup [.str k,.tup more,.tup off]).dep=max (deps more + 1) (deps off + 1) + 1:=by
 have e1:∀ l,(D.tup l).dep=deps l + 1:=fun l=>by rw [D.dep]
 have e2:(D.str k).dep=0:=by rw [D.dep]; all_goals simp
 have e3:∀ (d:D) (r:List D),deps (d :: r)=max d.dep (deps r):=fun d r=>by rw [deps]
 have e4:deps []=0:=by rw [deps]
 rw [e1,e3,e3,e3,e4,e2,e1,e1]
 lia
theorem pf_dep {k:Str} {d x:D} (h:IsForm d) (hx:x∈(pf k d).1∨x∈(pf k d).2):x.dep≤d.dep:=by
 have one:∀ d:D,(x∈[d]∨x∈([]:List D))→x.dep≤d.dep:=fun d h=>by
  rcases h with h | h
  ·rw [List.mem_singleton.mp h]; exact Nat.le_refl _
  ·cases h
 cases h with
 | num h0 h1=>exact one _ hx
 | @grp k' m0 more off hk g0 g1 g2 =>
  rw [pf_grp] at hx
  split at hx
  ·rw [dep_grpE]
   rcases hx with h | h
   ·have:=deps_mem (l:=m0 :: more) h; lia
   ·have:=deps_mem (l:=off) h; lia
  ·exact one _ hx
theorem fP_dep:∀ {x:Way},x.ok 1000000000000000000000000000000000000000000000000→(fP x).dep + 2≤2 * x.size:=by
 intro x
 induction x with
 | num n=>intro _; show (D.int n).dep + 2≤2 * 1; rw [D.dep]; all_goals simp
 | op w a b ia ib =>
  intro h
  obtain ⟨_,ha,hb⟩:=h
  have i1:=ia ha
  have i2:=ib hb
  have pa:=a.size_pos
  have pb:=b.size_pos
  have es:(Way.op w a b).size=a.size + b.size:=rfl
  have all:∀ x,(x∈(pf (knd w) (fP a)).1∨x∈(pf (knd w) (fP a)).2)∨(x∈(pf (knd w) (fP b)).1∨x∈(pf (knd w) (fP b)).2)→x.dep≤2 * (a.size + b.size) - 4:=fun x hx=>by
   rcases hx with hx | hx
   ·have:=pf_dep (fP_form ha) hx; lia
   ·have:=pf_dep (fP_form hb) hx; lia
  have sw:∀ x,(x∈(swp (trn w) (pf (knd w) (fP b))).1∨x∈(swp (trn w) (pf (knd w) (fP b))).2)→(x∈(pf (knd w) (fP b)).1∨x∈(pf (knd w) (fP b)).2):=fun x hx=>by
   cases ht:trn w with
   | false=>rw [ht] at hx; exact hx
   | true=>rw [ht] at hx; exact hx.symm
  have d1:deps (srtD ((pf (knd w) (fP a)).1++(swp (trn w) (pf (knd w) (fP b))).1))≤2 * (a.size + b.size) - 4:=deps_le fun x hx=>by
   rcases List.mem_append.mp ((srtD_perm _).mem_iff.mp hx) with h | h
   ·exact all x (.inl (.inl h))
   ·exact all x (.inr (sw x (.inl h)))
  have d2:deps (srtD ((pf (knd w) (fP a)).2++(swp (trn w) (pf (knd w) (fP b))).2))≤2 * (a.size + b.size) - 4:=deps_le fun x hx=>by
   rcases List.mem_append.mp ((srtD_perm _).mem_iff.mp hx) with h | h
   ·exact all x (.inl (.inr h))
   ·exact all x (.inr (sw x (.inr h)))
  rw [fP,dep_grpE]
  lia
theorem fP_isF (x:Way):L2.isF (fP x):=by
 cases x with
 | num n=>exact .inl ⟨n,rfl⟩
 | op w a b=>exact .inr ⟨_,rfl⟩
noncomputable def spNm (n:Nat):Sp:=fun vs H Q _=>∃ (v:V) (d:D),vs=[v]∧Dat H d v∧IsForm d∧d.dep < n∧lv d≤50 ∧
 ∀ (p:Addr) (H':Hp),Same H H'→H p=none→H' p=some (.lst ((nmD d).map V.int))→Q (.ref p) H'
theorem sn_none {H H':Hp} {p:Addr} (s:Same H H') (h:H' p=none):H p=none:=by
 cases e:H p with
 | none=>rfl
 | some o=>rw [s _ _ e] at h; cases h
theorem nm_len:∀ {d:D},IsForm d→(nmD d).length=lv d:=fun {d} h=>by
 have:=size_nm (fw d)
 rw [fw_nm h,fw_size h] at this
 exact this.symm
theorem nmL_len:∀ {l:List D},(∀ x∈l,IsForm x)→(nmL l).length=lvs l
 | [],_=>by rw [nmL_nil,lvs]; rfl
 | d :: r,h=>by rw [nmL_cons,lvs,List.length_append,nm_len (h d (List.mem_cons_self ..)),nmL_len fun x hx=>h x (List.mem_cons_of_mem _ hx)]
theorem dep_part {k:Str} {more off:List D} {x:D} (h:x∈more++off):x.dep + 2≤(D.tup [.str k,.tup more,.tup off]).dep:=by
 rw [dep_grpE]
 rcases List.mem_append.mp h with h | h
 ·have:=deps_mem h; lia
 ·have:=deps_mem h; lia
theorem lvs_mem:∀ {l:List D} {x:D},x∈l→lv x≤lvs l
 | d :: r,x,h=>by
  rw [lvs]
  rcases List.mem_cons.mp h with rfl | h
  ·lia
  ·have:=lvs_mem h; lia
theorem lv_pos {d:D} (h:IsForm d):1≤lv d:=by
 rw [← fw_size h]; exact (fw d).size_pos
theorem len_lvs:∀ {l:List D},(∀ x∈l,IsForm x)→l.length≤lvs l
 | [],_=>by rw [lvs]; exact Nat.le_refl _
 | d :: r,h=>by
  rw [lvs,List.length_cons]
  have:=lv_pos (h d (List.mem_cons_self ..))
  have:=len_lvs fun x hx=>h x (List.mem_cons_of_mem _ hx)
  lia
theorem lvs_take (l:List D) (i:Nat):lvs (l.take i)≤lvs l:=by
 have:lvs l=lvs (l.take i) + lvs (l.drop i):=by rw [← lvs_app,List.take_append_drop]
 lia
noncomputable abbrev s_law_numbers:Stmt:=top 48
theorem sc_law_numbers:FnScope ["form","found","part"] ["form"] (defScope s_law_numbers):=⟨rfl,rfl,rfl,by decide +kernel,rfl,by decide +kernel,by decide +kernel⟩
theorem ok_nm_step {n:Nat} {f:Addr} {fd:FuncData} (F:Fun K "_law_numbers" "_law_numbers" s_law_numbers f fd) (B:Blt mg) (Gnums:Def P w K mg base CX0 (n + 2) "_law_numbers" (spNm n)):FnOk P w K mg base CX0 (n + 3) f fd ["form"] (spNm (n + 1)):=by
 refine F.ok (k:=n + 2) sc_law_numbers (fun vs H Q E h=>?_) (fun cdv A outer s H vs Q E hr h=>?_)
 ·obtain ⟨v,x,rfl,_⟩:=h
  rfl
 obtain ⟨v,d,rfl,hd,hf,hn,h50,q⟩:=h
 refine ⟨_,(pss_cons (ps_if (pt_val (pe_isin B.isinstance B.int bt_int (pv 0))) (pss_one (ps_ret (pe_lst (pa_cons (pv 0) pa_nil)))) pss_nil)
   (pss_cons (ps_set (i:=1) sc_law_numbers.nd rfl (by first | exact Or.inl rfl | exact Or.inr rfl) (pe_lst pa_nil))
   (pss_cons (ps_for PassesOwn.never rfl (pi_tup (pe_op op_catG (pe_ix ix_tup (pv 0) pe_int (fun _ _=>rfl)) (pe_ix ix_tup (pv 0) pe_int (fun _ _=>rfl)))) (pg_name (i:=2) sc_law_numbers.nd rfl (by first | exact Or.inl rfl | exact Or.inr rfl)) (pss_one (ps_set (i:=1) sc_law_numbers.nd rfl (by first | exact Or.inl rfl | exact Or.inr rfl) (pe_op op_cat (pv 1) (pe_def Gnums (hr.mono (by lia)) (pa_cons (pv 2) pa_nil))))))
   (pss_one (ps_ret (pv 1)))))),?_⟩
 have szl:=sizeLine_eq
 cases hf with
 | @num i h0 h1 =>
  rw [hd.intE]
  refine ⟨_,rfl,_,_,TyOf.int _,kit_int_int _,_,rfl,iteT ?_⟩
  refine ⟨_,rfl,(by show 1≤sizeLine; decide),fun p hp=>?_⟩
  exact q p _ (Same.new hp) hp (by rw [upd_same,nmD_int]; rfl)
 | @grp k m0 more off hk g0 g1 g2 =>
  obtain ⟨p,pm,po,x0,xm,xo,rfl,hp,hpm,hpo,d0,d1,d2⟩:=dat_grp hd
  have fA:∀ x∈(m0 :: more)++off,IsForm x:=fun x hx=>by
   rcases List.mem_append.mp hx with h | h
   ·rcases List.mem_cons.mp h with rfl | h
    ·exact g0
    ·exact g1 x h
   ·exact g2 x h
  have dA0:∀ x∈(m0 :: more)++off,x.dep < n:=fun x hx=>by have:=dep_part (k:=k) hx; lia
  have eN:nmL ((m0 :: more)++off)=nmD (.tup [.str k,.tup (m0 :: more),.tup off]):=by rw [nmD_grp,nmL_app]
  have eL:lvs ((m0 :: more)++off)≤50:=by
   have:=nmL_len fA
   rw [eN,nm_len (.grp hk g0 g1 g2)] at this
   lia
  rw [← eN] at q
  refine ⟨_,rfl,_,_,TyOf.tup hp,kit_tup_int _,_,rfl,iteF ?_⟩
  refine ⟨(by show 0≤sizeLine; decide),fun pf hpf=>?_⟩
  have sf:=Same.new (o:=.lst []) hpf
  refine ⟨_,rfl,p,_,_,_,rfl,rfl,SqT.of (sf _ _ hp),atI_nat (j:=1) rfl,_,rfl,p,_,_,_,rfl,rfl,SqT.of (sf _ _ hp),atI_nat (j:=2) rfl,?_⟩
  have lm:=d1.len
  have lo:=d2.len
  refine ⟨pm,po,_,_,rfl,rfl,sf _ _ hpm,sf _ _ hpo,?_,fun pc H1 s1 hpc=>?_⟩
  ·have:=len_lvs fA
   rw [List.length_append,List.length_cons] at this
   rw [List.length_cons]
   lia
  have s01:=sf.trans s1
  have dA:Dats H1 ((m0 :: more)++off) ((x0 :: xm)++xo):=Dats.app (Dats.kt (KT.same s01) _ (.consI d0 d1)) (Dats.kt (KT.same s01) _ d2)
  have lA:=dA.len
  have nA:((x0 :: xm)++xo).length≤50:=by rw [← lA]; have:=len_lvs fA; lia
  generalize (m0 :: more)++off=ds at dA lA fA dA0 eL q
  generalize (x0 :: xm)++xo=xs at dA hpc lA nA
  refine ⟨pc,rfl,⟨_,SqT.of hpc⟩,for_tup (K:=K) (a:=pc) (xs:=xs) (fun i σ H'=>∃ (z2:Option V) (pg:Addr),σ=[some (.ref p),some (.ref pg),z2]∧Same H H'∧Same H1 H'∧H pg=none∧H' pg=some (.lst ((nmL (ds.take i)).map V.int)))
   ⟨none,pf,rfl,s01,Same.refl _,hpf,by rw [List.take_zero,nmL_nil]; exact s1 _ _ upd_same⟩ (fun i σ H' _ ⟨_,_,_,_,g,_⟩=>SqT.of (g _ _ hpc)) ?_ ?_⟩
  ·rintro i x σ H2 hi ⟨z2,pg,rfl,s2,s12,ng,gg⟩
   obtain ⟨d,hdi,hdx⟩:=(Dats.kt (KT.same s12) _ dA).at hi
   have hdm:=List.mem_of_getElem? hdi
   have l50:lv d≤50:=by have:=lvs_mem hdm; lia
   refine ⟨_,rfl,_,rfl,x,d,rfl,hdx,fA d hdm,dA0 d hdm,l50,fun p3 H3 s3 n3 g3=>?_⟩
   have e1:nmL (ds.take (i + 1))=nmL (ds.take i)++nmD d:=by
    rw [List.take_add_one,hdi,nmL_app]
    show _++nmL [d]=_
    rw [nmL_cons,nmL_nil,List.append_nil]
   have lt:(nmL (ds.take i)).length≤50:=by rw [nmL_len fun x hx=>fA x (List.mem_of_mem_take hx)]; have:=lvs_take ds i; lia
   refine ⟨pg,p3,_,_,rfl,rfl,s3 _ _ gg,g3,by rw [List.length_map,List.length_map,nm_len (fA d hdm),szl]; lia,fun p4 hp4=>?_⟩
   have s4:=Same.new (o:=.lst ((nmL (ds.take i)).map V.int++(nmD d).map V.int)) hp4
   refine ⟨_,p4,rfl,s2.trans (s3.trans s4),s12.trans (s3.trans s4),sn_none (s2.trans s3) hp4,?_⟩
   rw [upd_same,e1,List.map_append]
  ·rintro σ H2 ⟨z2,pg,rfl,s2,s12,ng,gg⟩
   rw [← lA,List.take_length] at gg
   exact ⟨_,rfl,q pg H2 s2 ng gg⟩
theorem ok_nm {f:Addr} {fd:FuncData} (F:Fun K "_law_numbers" "_law_numbers" s_law_numbers f fd) (b:Binds K fd ["form"] []) (m:mg "_law_numbers"=some (.ref f)) (B:Blt mg) :
  ∀ n,FnOk P w K mg base CX0 (n + 2) f fd ["form"] (spNm n)
 | 0=>by
  have no:∀ vs H Q E,¬ spNm 0 vs H Q E:=fun vs H Q E h=>by
   obtain ⟨v,x,_,_,_,h2,_⟩:=h
   exact absurd h2 (Nat.not_lt_zero _)
  exact ⟨fun vs H Q E h=>absurd h (no vs H Q E),fun A outer s H args us vs Q E _ _ _ _ h=>absurd h (no vs H Q E)⟩
 | n + 1=>ok_nm_step F B (mkDef (ok_nm F b m B n) b m F.kp)
end
end Law
namespace Law
open PySem L2
section
variable {P:Program} {w:World} {K:PySem.W.Frag} {mg:Str→Option Value} {base:Heap}
end
end Law
namespace L2
open PySem PySem.Spec PyProof.Rows
theorem op_notB {X:Cx}:OpR X (compareOp .IsNot) (fun x y H Q=>∃ a b:Bool,x=.bl a∧y=.bl b∧Q (.bl (a != b)) H):=by
 intro pins s σ H x y u v Q I ru rv h
 obtain ⟨a,b,rfl,rfl,q⟩:=h
 obtain rfl:u=Value.bool a:=ru
 obtain rfl:v=Value.bool b:=rv
 cases a <;> cases b <;> exact wpAny_pure (fin_bl I q rfl)
end L2
namespace Law
open PySem L2
section
variable {P:Program} {w:World} {K:PySem.W.Frag} {mg:Str→Option Value} {base:Heap}
theorem nums_nm:∀ x:Way,x.nums=nmW x
 | .num _=>rfl
 | .op _ a b=>by show a.nums++b.nums=_; rw [nums_nm a,nums_nm b]; rfl
theorem wd_isF (x:Way):L2.isF (wd x):=by
 cases x with
 | num n=>exact .inl ⟨n,rfl⟩
 | op w a b=>exact .inr ⟨_,rfl⟩
theorem wd_depS:∀ x:Way,(wd x).dep + 1≤x.size
 | .num n=>by show (D.int n).dep + 1≤1; rw [D.dep]; all_goals simp
 | .op w a b=>by
  have ha:=wd_depS a
  have hb:=wd_depS b
  have pa:=a.size_pos
  have pb:=b.size_pos
  show (D.tup [.str w,wd a,wd b]).dep + 1≤a.size + b.size
  have e2:(D.str w).dep=0:=by rw [D.dep]; all_goals simp
  rw [D.dep,deps,deps,deps,deps,e2]
  lia
theorem worth48 {x:Way} {n:Int} (h:x.ok 1000000) (hs:x.size≤8) (e:worthE x=.inr n):1≤n∧n≤1000000000000000000000000000000000000000000000000:=by
 obtain ⟨h1,h2⟩:=worth_bound (m:=1000000) (by decide) h e
 have:=pow_le_pow (m:=1000000) (by decide) hs
 have h3:(1000000:Int) ^ 8=1000000000000000000000000000000000000000000000000:=by decide
 rw [h3] at this
 exact ⟨h1,Int.le_trans h2 this⟩
noncomputable def spRt:Sp:=fun vs H Q _=>∃ (v:V) (x:Way) (n:Int),vs=[v]∧WayIn H v x∧x.ok 1000000∧x.size≤8∧worthE x=.inr n∧∀ H',Same H H'→Q (.bl true) H'
noncomputable abbrev s_law_right:Stmt:=top 49
theorem sc_law_right:FnScope ["way","form","told","numbers","worth"] ["way"] (defScope s_law_right):=⟨rfl,rfl,rfl,by decide +kernel,rfl,by decide +kernel,by decide +kernel⟩
theorem ok_right {f:Addr} {fd:FuncData} (F:Fun K "_law_right" "_law_right" s_law_right f fd) (B:Blt mg) (Bsorted:mg "sorted"=none) (Gformof:Def P w K mg base CX0 7 "form_of" spFormOf) (Gtwins:Def P w K mg base CX0 8 "are_twins" spTwins) (Glet:Def P w K mg base CX0 11 "form_let" spLet) (Gwayof:Def P w K mg base CX0 3 "way_of" Wy.spWayOf) (Gworthof0:Def P w K mg base CX0 9 "worth_of" spWorthOf) (Gdeeds:Def P w K mg base CX0 2 "deeds_of" spDeeds) (Gnumbers:Def P w K mg base CX0 2 "numbers_of" spNumbers) (Gnums:Def P w K mg base CX0 22 "_law_numbers" (spNm 20)):FnOk P w K mg base CX0 24 f fd ["way"] spRt:=by
 refine F.ok (k:=23) sc_law_right (fun vs H Q E h=>?_) (fun cdv A outer s H vs Q E hr h=>?_)
 ·obtain ⟨v,x,n,rfl,_⟩:=h
  rfl
 obtain ⟨v,x,n,rfl,hw,o6,hs,ew,q⟩:=h
 refine ⟨_,(pss_cons (ps_set (i:=1) sc_law_right.nd rfl (by first | exact Or.inl rfl | exact Or.inr rfl) (pe_def Gformof (hr.mono (by lia)) (pa_cons (pv 0) pa_nil)))
   (pss_cons (ps_set (i:=2) sc_law_right.nd rfl (by first | exact Or.inl rfl | exact Or.inr rfl) (pe_def Gwayof (hr.mono (by lia)) (pa_cons (pv 1) pa_nil)))
   (pss_cons (ps_if (PW.pt (pw_or (pt_not (pt_val (pe_def Glet (hr.mono (by lia)) (pa_cons (pv 1) pa_nil)))) (pw_or (pt_cmpR (op_neF (hu60 hr)) (pe_def Gformof (hr.mono (by lia)) (pa_cons (pv 2) pa_nil)) (pv 1) (nomark _)) (pw_or (pt_cmpR (op_neF (hu60 hr)) (pe_def Gwayof (hr.mono (by lia)) (pa_cons (pe_def Gformof (hr.mono (by lia)) (pa_cons (pv 2) pa_nil)) pa_nil)) (pv 2) (nomark _)) (pw_or1 (pt_not (pt_val (pe_def Gtwins (hr.mono (by lia)) (pa_cons (pv 0) (pa_cons (pv 2) pa_nil)))))))))) (pss_one (ps_ret pe_bl)) pss_nil)
   (pss_cons (ps_if (PW.pt (pw_or (pt_cmpR op_ne (pe_def Gworthof0 (hr.mono (by lia)) (pa_cons (pv 2) pa_nil)) (pe_def Gworthof0 (hr.mono (by lia)) (pa_cons (pv 0) pa_nil)) (nomark _)) (pw_or1 (pt_cmpR op_ne (pe_def Gdeeds (hr.mono (by lia)) (pa_cons (pv 2) pa_nil)) (pe_def Gdeeds (hr.mono (by lia)) (pa_cons (pv 0) pa_nil)) (nomark _))))) (pss_one (ps_ret pe_bl)) pss_nil)
   (pss_cons (ps_set (i:=3) sc_law_right.nd rfl (by first | exact Or.inl rfl | exact Or.inr rfl) (pe_callB call_sortIT rfl Bsorted bt_sorted (pa_cons (pe_def Gnumbers (hr.mono (by lia)) (pa_cons (pv 0) pa_nil)) pa_nil)))
   (pss_cons (ps_if (PW.pt (pw_or (pt_cmpR (op_neS (hu60 hr)) (pe_callB call_sortIT rfl Bsorted bt_sorted (pa_cons (pe_def Gnumbers (hr.mono (by lia)) (pa_cons (pv 2) pa_nil)) pa_nil)) (pv 3) (nomark _)) (pw_or1 (pt_cmpR (op_neS (hu60 hr)) (pe_callB call_sortIL rfl Bsorted bt_sorted (pa_cons (pe_def Gnums (hr.mono (by lia)) (pa_cons (pv 1) pa_nil)) pa_nil)) (pv 3) (nomark _))))) (pss_one (ps_ret pe_bl)) pss_nil)
   (pss_cons (ps_set (i:=4) sc_law_right.nd rfl (by first | exact Or.inl rfl | exact Or.inr rfl) (pe_def Gworthof0 (hr.mono (by lia)) (pa_cons (pv 0) pa_nil)))
   (pss_cons (ps_if (PW.pt (pw_or (pt_cmpR (op_neF (hu60 hr)) (pe_def Gformof (hr.mono (by lia)) (pa_cons (pv 4) pa_nil)) (pv 4) (nomark _)) (pw_or (pt_cmpR (op_neF (hu60 hr)) (pe_def Gwayof (hr.mono (by lia)) (pa_cons (pv 4) pa_nil)) (pv 4) (nomark _)) (pw_or (pt_cmpR op_notB (pe_def Glet (hr.mono (by lia)) (pa_cons (pv 4) pa_nil)) pe_bl (nomark _)) (pw_or1 (pt_not (pt_val (pe_def Gtwins (hr.mono (by lia)) (pa_cons (pv 4) (pa_cons (pv 4) pa_nil)))))))))) (pss_one (ps_ret pe_bl)) pss_nil)
   (pss_cons (ps_if (PW.pt (pw_and (pt_not (pt_val (pe_isin B.isinstance B.int bt_int (pv 1)))) (pw_and (pt_cmpR op_eq (pe_ix ix_tup (pv 1) pe_int (fun _ _=>rfl)) pe_str (nomark _)) (pw_and1 (pt_cmpR (op_neS (hu60 hr)) (pe_ix ix_tup (pv 1) pe_int (fun _ _=>rfl)) (pe_tup pa_nil) (nomark _)))))) (pss_one (ps_ret (pe_not (pe_def Glet (hr.mono (by lia)) (pa_cons (pe_tup (pa_cons pe_str (pa_cons (pe_ix ix_tup (pv 1) pe_int (fun _ _=>rfl)) (pa_cons (pe_ix ix_tup (pv 1) pe_int (fun _ _=>rfl)) pa_nil)))) pa_nil star_tup))))) pss_nil)
   (pss_one (ps_ret pe_bl))))))))))),?_⟩
 have szl:=sizeLine_eq
 have o:=ok_mono (n:=1000000000000000000000000000000000000000000000000) (by decide) o6
 have fS:=fP_sz o
 have fL:=fP_lv o
 have fK:=form_kept o
 have fF:=fP_form o
 have fD:=fP_dep o
 have fO:=fw_ok fF
 have nd:=x.nodes_eq
 have nd2:=(fw (fP x)).nodes_eq
 have fs:=fw_size fF
 have ef:=form_worth o ew
 have eh:hasW (fw (fP x))=true:=by unfold hasW; rw [ef]
 have bk:=back o
 obtain ⟨n1,n2⟩:=worth48 o6 hs ew
 refine ⟨_,rfl,v,x,rfl,hw,⟨o,by lia⟩,fun fv H1 s1 d1=>?_⟩
 refine ⟨_,rfl,fv,fP x,rfl,d1,fF,by lia,by lia,fun tv H2 s2 w2=>?_⟩
 have k1:=KT.same s1
 refine ⟨_,rfl,fv,fP x,rfl,Dat.kt (KT.same s2) _ d1,fK,by lia,by lia,fun H3 s3=>?_⟩
 rw [eh]
 refine ⟨_,rfl,iteF ?_⟩
 have w3:=w2.kt (KT.same s3)
 refine ⟨_,rfl,tv,fw (fP x),rfl,w3,⟨fO,by lia⟩,fun f2 H4 s4 d4=>?_⟩
 have d14:=Dat.kt (KT.same (s2.trans (s3.trans s4))) _ d1
 refine ⟨_,rfl,_,fP x,Dat.rep _ d4,Dat.rep _ d14,fP_isF _,fP_isF x,?_,?_⟩
 ·rw [bk]; lia
 rw [if_pos rfl,bk,eqD_refl]
 refine ⟨_,rfl,iteF ?_⟩
 have w4:=w3.kt (KT.same s4)
 refine ⟨_,rfl,tv,fw (fP x),rfl,w4,⟨fO,by lia⟩,fun f3 H5 s5 d5=>?_⟩
 rw [bk] at d5
 refine ⟨f3,fP x,rfl,d5,fF,by lia,by lia,fun t2 H6 s6 w6=>?_⟩
 have w46:=w4.kt (KT.same (s5.trans s6))
 refine ⟨_,rfl,wd (fw (fP x)),wd (fw (fP x)),Dat.rep _ w6.dat,Dat.rep _ w46.dat,wd_isF _,wd_isF _,?_,?_⟩
 ·have:=wd_depS (fw (fP x)); lia
 rw [if_pos rfl,eqD_refl]
 refine ⟨_,rfl,iteF ?_⟩
 have s06:=s1.trans (s2.trans (s3.trans (s4.trans (s5.trans s6))))
 have hw6:=hw.kt (KT.same s06)
 refine ⟨_,rfl,_,rfl,v,tv,x,fw (fP x),rfl,hw6,w46,⟨o,by lia⟩,⟨fO,by lia⟩,fun H7 s7=>?_⟩
 rw [bk,decide_eq_true rfl]
 refine ⟨_,rfl,iteF ?_⟩
 have w7:=w46.kt (KT.same s7)
 have hw7:=hw6.kt (KT.same s7)
 have d7:=Dat.kt (KT.same (s5.trans (s6.trans s7))) _ d14
 have s07:=s06.trans s7
 clear s1 s2 s3 s4 s5 s6 s7 s06 w2 w3 w4 w6 w46 d1 d4 d14 d5 hw6 k1
 refine ⟨_,rfl,tv,fw (fP x),n,rfl,w7,fit_ofN fO (by lia),by lia,ef,fun H8 s8=>?_⟩
 refine ⟨_,rfl,v,x,n,rfl,hw7.kt (KT.same s8),fit_ofN o (by lia),by lia,ew,fun H9 s9=>⟨rfl,_,rfl,iteNS rfl ?_⟩⟩
 have w9:=w7.kt (KT.same (s8.trans s9))
 have hw9:=hw7.kt (KT.same (s8.trans s9))
 refine ⟨_,rfl,tv,fw (fP x),rfl,w9,by lia,fun H10 s10=>?_⟩
 refine ⟨_,rfl,v,x,rfl,hw9.kt (KT.same s10),by lia,fun H11 s11=>⟨rfl,?_⟩⟩
 have ed:(fw (fP x)).deeds=x.deeds:=by
  have h1:=(fw (fP x)).deeds_lt
  have h2:=x.deeds_lt
  have:=told_size o
  lia
 rw [ed]
 refine ⟨_,rfl,iteNS rfl ?_⟩
 have s7b:=s8.trans (s9.trans (s10.trans s11))
 have w11:=w7.kt (KT.same s7b)
 have hw11:=hw7.kt (KT.same s7b)
 have d11:=Dat.kt (KT.same s7b) _ d7
 have s011:=s07.trans s7b
 clear s8 s9 s10 s11 s7b w7 w9 hw7 hw9 d7 s07 ed
 have nl:=x.nums_len
 refine ⟨_,rfl,v,x,rfl,hw11,by lia,fun t H12 s12 g12=>?_⟩
 refine ⟨t,x.nums,rfl,SqT.of g12,by lia,fun pn ms H13 s13 g13 pm sm=>?_⟩
 have s1b:=s12.trans s13
 have nl2:=(fw (fP x)).nums_len
 refine ⟨_,rfl,tv,fw (fP x),rfl,w11.kt (KT.same s1b),by lia,fun t2 H14 s14 g14=>?_⟩
 refine ⟨t2,(fw (fP x)).nums,rfl,SqT.of g14,by lia,fun pn2 ms2 H15 s15 g15 pm2 sm2=>?_⟩
 rw [nums_nm] at pm pm2
 have e1:ms2=ms:=ints_unique (pm2.trans ((told_nm o).trans pm.symm)) sm2 sm
 subst e1
 have s1c:=s14.trans s15
 refine ⟨_,rfl,ms2.map L2.D.int,ms2.map L2.D.int,.inl ⟨?_,?_⟩,by rw [deps_ints]; decide,_,rfl,?_⟩
 ·unfold Rep; exact ⟨pn2,_,rfl,SqL.of g15,reps_ints _⟩
 ·unfold Rep; exact ⟨pn,_,rfl,SqL.of (s1c _ _ g13),reps_ints _⟩
 rw [if_pos rfl,eqDs_refl]
 refine iteF ?_
 have s1d:=s1b.trans s1c
 have d15:=Dat.kt (KT.same s1d) _ d11
 have nD:=nm_len fF
 refine ⟨_,rfl,fv,fP x,rfl,d15,fF,by lia,by lia,fun p16 H16 s16 _ g16=>?_⟩
 refine ⟨p16,nmD (fP x),rfl,g16,by lia,fun pn3 ms3 H17 s17 g17 pm3 sm3=>?_⟩
 have e2:ms3=ms2:=ints_unique (pm3.trans ((fP_nm o).trans pm.symm)) sm3 sm
 subst e2
 have s1e:=s16.trans s17
 refine ⟨_,rfl,ms3.map L2.D.int,ms3.map L2.D.int,.inl ⟨?_,?_⟩,by rw [deps_ints]; decide,_,rfl,?_⟩
 ·unfold Rep; exact ⟨pn3,_,rfl,SqL.of g17,reps_ints _⟩
 ·unfold Rep; exact ⟨pn,_,rfl,SqL.of ((s1c.trans s1e) _ _ g13),reps_ints _⟩
 rw [if_pos rfl,eqDs_refl]
 refine iteF ?_
 have s1f:=s1d.trans s1e
 have d17:=Dat.kt (KT.same s1f) _ d11
 have hw17:=hw11.kt (KT.same s1f)
 have s017:=s011.trans s1f
 clear s12 s13 s14 s15 s16 s17 s1b s1c s1d s1e s1f g12 g13 g14 g15 g16 g17 d15 d11 w11 hw11 s011
 refine ⟨_,rfl,v,x,n,rfl,hw17,fit_ofN o (by lia),by lia,ew,fun H18 s18=>?_⟩
 have oN:(Way.num n).ok 1000000000000000000000000000000000000000000000000:=⟨n1,n2⟩
 have fN:IsForm (.int n):=.num n1 n2
 have szN:sz (D.int n)≤90:=by have:=fP_sz oN; show sz (fP (.num n))≤90; have e:(Way.num n).size=1:=rfl; lia
 have lvN:lv (D.int n)=1:=by unfold lv; rfl
 have dpN:(D.int n).dep=0:=by rw [D.dep]; all_goals simp
 refine ⟨_,rfl,.int n,.num n,rfl,.num n,⟨oN,(by show 1≤12; decide)⟩,fun u19 H19 s19 d19=>?_⟩
 refine ⟨_,rfl,.int n,.int n,Dat.rep _ d19,Dat.rep (d:=.int n) (Dat.intI n),.inl ⟨n,rfl⟩,.inl ⟨n,rfl⟩,by rw [dpN]; decide,?_⟩
 rw [if_pos rfl,eqD_refl]
 refine ⟨_,rfl,iteF ?_⟩
 refine ⟨_,rfl,.int n,.int n,rfl,Dat.intI n,fN,by lia,by lia,fun u20 H20 s20 w20=>?_⟩
 have e20:u20=.int n:=by cases w20; rfl
 subst e20
 refine ⟨_,rfl,.int n,.int n,Dat.rep (d:=.int n) (Dat.intI n),Dat.rep (d:=.int n) (Dat.intI n),.inl ⟨n,rfl⟩,.inl ⟨n,rfl⟩,by rw [dpN]; decide,?_⟩
 rw [if_pos rfl,eqD_refl]
 refine ⟨_,rfl,iteF ?_⟩
 have hN:hasW (fw (.int n))=true:=rfl
 refine ⟨_,rfl,.int n,.int n,rfl,Dat.intI n,.num n1 n2,by lia,by lia,fun H21 s21=>?_⟩
 rw [hN]
 refine ⟨_,_,rfl,rfl,_,rfl,iteF ?_⟩
 refine ⟨_,rfl,_,rfl,.int n,.int n,.num n,.num n,rfl,.num n,.num n,⟨oN,(by show 1≤12; decide)⟩,⟨oN,(by show 1≤12; decide)⟩,fun H22 s22=>?_⟩
 rw [decide_eq_true rfl]
 refine ⟨_,rfl,iteF ?_⟩
 have s1g:=s18.trans (s19.trans (s20.trans (s21.trans s22)))
 have d22:=Dat.kt (KT.same s1g) _ d17
 have s022:=s017.trans s1g
 clear s18 s19 s20 s21 s22 s1g d17 hw17 s017 d19 w20
 cases hg:fP x with
 | int i =>
  rw [hg] at d22
  rw [d22.intE]
  refine ⟨_,rfl,_,_,TyOf.int _,kit_int_int _,_,rfl,iteF ?_⟩
  exact q _ s022
 | tup l =>
  rw [hg] at fK ef d22 fD fS fL fF
  cases fK with
  | @grp k m0 more off hk h2 nm no om oo g0 g1 g2 =>
  obtain ⟨p,pm',po,x0,xm,xo,rfl,hp,hpm,hpo,d0,d1,d2⟩:=dat_grp d22
  refine ⟨_,rfl,_,_,TyOf.tup hp,kit_tup_int _,_,rfl,iteT ?_⟩
  refine ⟨_,rfl,p,_,_,_,rfl,rfl,SqT.of hp,atI_nat (j:=0) rfl,rfl,_,rfl,?_⟩
  rcases hk with rfl | rfl
  ·rw [decide_eq_true rfl]
   refine iteT ⟨_,rfl,p,_,_,_,rfl,rfl,SqT.of hp,atI_nat (j:=2) rfl,(by show 0≤sizeLine; decide),fun pe hpe=>?_⟩
   have se:=Same.new (o:=.tup []) hpe
   refine ⟨off,[],.inr ⟨Dat.rep (d:=.tup off) (Dat.kt (KT.same se) _ (Dat.tupI hpo d2)),?_⟩,?_,_,rfl,?_⟩
   ·unfold Rep; exact ⟨pe,[],rfl,SqT.of upd_same,by unfold Reps; rfl⟩
   ·rw [dep_grpE] at fD; lia
   rw [if_pos rfl]
   cases off with
   | nil =>
    rw [eqDs]
    exact iteF (q _ (s022.trans se))
   | cons o0 off =>
    rw [show eqDs (o0 :: off) []=false by rw [eqDs]; all_goals simp]
    refine iteT ?_
    have hp2:=se _ _ hp
    refine ⟨_,rfl,p,_,_,_,rfl,rfl,SqT.of hp2,atI_nat (j:=2) rfl,_,rfl,p,_,_,_,rfl,rfl,SqT.of hp2,atI_nat (j:=1) rfl,(by show 3≤sizeLine; decide),fun pt hpt=>?_⟩
    have st:=Same.new (o:=.tup [.str "sum",.ref po,.ref pm']) hpt
    have s2t:=se.trans st
    have kt:=KT.same s2t
    have dT:Dat (upd (upd H22 pe (.tup [])) pt (.tup [.str "sum",.ref po,.ref pm'])) (.tup [.str "sum",.tup (o0 :: off),.tup (m0 :: more)]) (.ref pt) :=
     Dat.tupI upd_same (.consI (Dat.strI _) (.consI (Dat.kt kt _ (Dat.tupI hpo d2)) (.consI (Dat.kt kt _ (Dat.tupI hpm (.consI d0 d1))) (.nilI _))))
    have kT:Kept (.tup [.str "sum",.tup (o0 :: off),.tup (m0 :: more)]):=.grp (.inl rfl) (by rw [List.length_cons] at *; lia) no nm oo om (g2 _ (List.mem_cons_self ..)) (fun y hy=>g2 y (List.mem_cons_of_mem _ hy)) fun y hy=>by
     rcases List.mem_cons.mp hy with rfl | hy
     ·exact g0
     ·exact g1 y hy
    have lvT:lv (.tup [.str "sum",.tup (o0 :: off),.tup (m0 :: more)])≤9:=by
     rw [lv_grp,lvs] at fL ⊢
     lia
    have szT:sz (.tup [.str "sum",.tup (o0 :: off),.tup (m0 :: more)])≤90:=by
     rw [sz_grpE] at fS ⊢
     lia
    refine ⟨_,_,rfl,dT,kT,lvT,szT,fun H23 s23=>?_⟩
    have eT:hasW (fw (.tup [.str "sum",.tup (o0 :: off),.tup (m0 :: more)]))=false:=by
     have:=turned fF ef
     unfold hasW
     split
     ·rename_i z ez; exact absurd ez (this z)
     ·rfl
    rw [eT]
    exact ⟨_,rfl,q _ (s022.trans (s2t.trans s23))⟩
  ·rw [decide_eq_false (by decide)]
   exact iteF (q _ s022)
 | _=>rw [hg] at fF; cases fF
end
end Law
namespace Law
open PySem L2
section
variable {P:Program} {w:World} {K:PySem.W.Frag} {mg:Str→Option Value} {base:Heap}
theorem law_const:fP (.op "plus" (.num 1) (.op "less" (.num 3) (.num 2)))=.tup [.str "sum",.tup [.int 1,.int 3],.tup [.int 2]]:=by
 first | kernel_rfl | rfl
noncomputable abbrev s_law:Stmt:=top 50
theorem sc_law:FnScope ["script","deck","turn"] ["script"] (defScope s_law):=⟨rfl,rfl,rfl,by decide +kernel,rfl,by decide +kernel,by decide +kernel⟩
theorem ok_law {f:Addr} {fd:FuncData} (F:Fun K "law" "law" s_law f fd) (B:Blt mg) (Gdeck:Def P w K mg base CX0 1 "_law_deck" (spDeck K)) (Gsize:Def P w K mg base CX0 2 "_law_size" (spDraw 8)) (Ggood:Def P w K mg base CX0 21 "_law_good_way" (spGood 8)) (Gright:Def P w K mg base CX0 24 "_law_right" spRt) (Gformof:Def P w K mg base CX0 7 "form_of" spFormOf):FnOk P w K mg base CX0 30 f fd ["script"] (spLaw K):=by
 refine F.okW (k:=29) sc_law (fun vs H Q E h=>?_) (fun cdv A outer s H vs Q E hr h=>?_)
 ·obtain ⟨a,ns,rfl,_⟩:=h
  rfl
 obtain ⟨a,ns,rfl,hS,hl,q⟩:=h
 refine ⟨_,(wss_cons (Wr.mk (ps_set (i:=1) sc_law.nd rfl (by first | exact Or.inl rfl | exact Or.inr rfl) (pe_def Gdeck (hr.mono (by lia)) (pa_cons (pv 0) pa_nil))))
   (wss_cons (Wr.mk (ps_for PassesOwn.never rfl (pi_range1 rfl B.range (pa_cons pe_int pa_nil)) (pg_name (i:=2) sc_law.nd rfl (by first | exact Or.inl rfl | exact Or.inr rfl)) (pss_one (ps_if (pt_not (pt_val (pe_def Gright (hr.mono (by lia)) (pa_cons (pe_def Ggood (hr.mono (by lia)) (pa_cons (pv 1) (pa_cons (pe_def Gsize (hr.mono (by lia)) (pa_cons (pv 1) pa_nil)) pa_nil))) pa_nil)))) (pss_one (ps_ret pe_bl)) pss_nil))))
   (wss_one (Wr.mk (ps_ret (pe_cmpR (op_eqS (hu60 hr)) (pe_def Gformof (hr.mono (by lia)) (pa_cons (Wr.un (w_tup (w_cons w_str (w_cons w_int (w_cons (w_tup (w_cons w_str (w_cons w_int (w_cons w_int w_nil)))) w_nil star_tup))))) pa_nil star_tup)) (Wr.un (w_tup (w_cons w_str (w_cons (w_tup (w_cons w_int (w_cons w_int w_nil))) (w_cons (w_tup (w_cons w_int w_nil)) w_nil star_tup) star_tup)))) (nomark _))))))),?_⟩
 refine ⟨_,rfl,a,ns,rfl,hS,hl,fun d c H1 s1 nd nc D=>?_⟩
 refine ⟨10,rfl,by decide,by decide,for_range (n:=10) (fun i σ H'=>∃ (z1:Option V),σ=[some (.ref a),some (.ref d),z1]∧DeckAt H' d c) ⟨none,rfl,D⟩ ?_ ?_⟩
 ·rintro i σ H' hi ⟨z1,rfl,D'⟩
  refine ⟨_,rfl,_,rfl,d,c,rfl,D',fun r H2 r1 r2 k2 D2=>⟨d,c,r,rfl,D2,r1,r2,r2,fun v x n H3 hw ho hz ew k3 D3=>?_⟩⟩
  refine ⟨v,x,n,rfl,hw,ho,by lia,ew,fun H4 s4=>⟨_,rfl,iteF ?_⟩⟩
  exact ⟨_,rfl,D3.same s4⟩
 ·rintro σ H' ⟨z1,rfl,D'⟩
  refine ⟨(by show 3≤sizeLine; decide),fun p1 hp1=>⟨(by show 3≤sizeLine; decide),fun p2 hp2=>?_⟩⟩
  have s1:=Same.new (o:=.tup [.str "less",.int 3,.int 2]) hp1
  have s2:=Same.new (o:=.tup [.str "plus",.int 1,.ref p1]) hp2
  refine ⟨.ref p2,.op "plus" (.num 1) (.op "less" (.num 3) (.num 2)),rfl,.op upd_same (.num 1) (.op (s2 _ _ upd_same) (.num 3) (.num 2)),⟨⟨.inl rfl,⟨by decide,by decide⟩,.inr (.inl rfl),⟨by decide,by decide⟩,⟨by decide,by decide⟩⟩,(by show 3≤12; decide)⟩,fun u H3 s3 d3=>?_⟩
  rw [law_const] at d3
  refine ⟨(by show 2≤sizeLine; decide),fun p4 hp4=>⟨(by show 1≤sizeLine; decide),fun p5 hp5=>⟨(by show 3≤sizeLine; decide),fun p6 hp6=>?_⟩⟩⟩
  have s4:=Same.new (o:=.tup [.int 1,.int 3]) hp4
  have s5:=Same.new (o:=.tup [.int 2]) hp5
  have s6:=Same.new (o:=.tup [.str "sum",.ref p4,.ref p5]) hp6
  refine ⟨[.str "sum",.tup [.int 1,.int 3],.tup [.int 2]],[.str "sum",.tup [.int 1,.int 3],.tup [.int 2]],.inr ⟨Dat.rep (d:=.tup [.str "sum",.tup [.int 1,.int 3],.tup [.int 2]]) (Dat.kt (KT.same (s4.trans (s5.trans s6))) _ d3),Dat.rep (d:=.tup [.str "sum",.tup [.int 1,.int 3],.tup [.int 2]]) (.tupI upd_same (.consI (Dat.strI _) (.consI (.tupI ((s5.trans s6) _ _ upd_same) (.consI (Dat.intI _) (.consI (Dat.intI _) (.nilI _)))) (.consI (.tupI (s6 _ _ upd_same) (.consI (Dat.intI _) (.nilI _))) (.nilI _)))))⟩,by decide,?_⟩
  rw [if_neg (by decide),eqDs_refl]
  exact q _
end
end Law
namespace Law
open PySem L2
noncomputable abbrev s_plus:Stmt:=Xc.s_plus
noncomputable abbrev s_less:Stmt:=Xc.s_less
noncomputable abbrev s_times:Stmt:=Xc.s_times
noncomputable abbrev s_share:Stmt:=Xc.s_share
noncomputable abbrev s_worth_by:Stmt:=Xc.s_worth_by
noncomputable abbrev s_worth_of:Stmt:=Xc.s_worth_of
noncomputable abbrev s_init:Stmt:=Xc.s_init
noncomputable abbrev s_way_of:Stmt:=Wy.s_way_of
noncomputable abbrev s_way_with:Stmt:=Wy.s_way_with
noncomputable abbrev s_unfolded:Stmt:=Wy.s_unfolded
noncomputable abbrev s_steps_of_form:Stmt:=Wy.s_steps_of_form
noncomputable def famOf (a b c d:Addr) (wd:Str):Addr:=if wd="plus" then a else if wd="less" then b else if wd="times" then c else d
theorem ok_worth_hush {P:Program} {w:World} {K:PySem.W.Frag} {mg:Str→Option Value} {base:Heap} {N f:Addr} {fd:FuncData} (F:FnOk P w K mg base (CXF P w) 9 f fd ["way"] (Xc.spWorthOfX N)):FnOk P w K mg base CX0 9 f fd ["way"] spWorthOf :=
 F.hush fun vs H Q E ⟨v,x,n,e,hx,fx,hn,ew,q⟩=>⟨v,x,e,hx,fx,hn,by rw [ew]; exact q⟩
theorem all_mk {l:PySem.W.OpenLaw} {w:World} {K:PySem.W.Frag} {h:Heap} {mg:Str→Option Value} {fa:Addr} (X:K.In h) (G:h.Ns mainGlobals mg) (hfa:mg "law"=some (.ref fa))
  {f_plus:Addr} {od_plus an_plus:Option Addr} {sl_plus:Array (Option Value)} {oc_plus kV_plus dc_plus pm_plus cd_plus ct_plus:Value}
  {f_less:Addr} {od_less an_less:Option Addr} {sl_less:Array (Option Value)} {oc_less kV_less dc_less pm_less cd_less ct_less:Value}
  {f_times:Addr} {od_times an_times:Option Addr} {sl_times:Array (Option Value)} {oc_times kV_times dc_times pm_times cd_times ct_times:Value}
  {f_share:Addr} {od_share an_share:Option Addr} {sl_share:Array (Option Value)} {oc_share kV_share dc_share pm_share cd_share ct_share:Value}
  {f_steps_of:Addr} {od_steps_of an_steps_of:Option Addr} {sl_steps_of:Array (Option Value)} {oc_steps_of kV_steps_of dc_steps_of pm_steps_of cd_steps_of ct_steps_of:Value}
  {f_deeds_of:Addr} {od_deeds_of an_deeds_of:Option Addr} {sl_deeds_of:Array (Option Value)} {oc_deeds_of kV_deeds_of dc_deeds_of pm_deeds_of cd_deeds_of ct_deeds_of:Value}
  {f_numbers_of:Addr} {od_numbers_of an_numbers_of:Option Addr} {sl_numbers_of:Array (Option Value)} {oc_numbers_of kV_numbers_of dc_numbers_of pm_numbers_of cd_numbers_of ct_numbers_of:Value}
  {f_come_of:Addr} {od_come_of an_come_of:Option Addr} {sl_come_of:Array (Option Value)} {oc_come_of kV_come_of dc_come_of pm_come_of cd_come_of ct_come_of:Value}
  {f_number_itself:Addr} {od_number_itself an_number_itself:Option Addr} {sl_number_itself:Array (Option Value)} {oc_number_itself kV_number_itself dc_number_itself pm_number_itself cd_number_itself ct_number_itself:Value}
  {f_worth_by:Addr} {od_worth_by an_worth_by:Option Addr} {sl_worth_by:Array (Option Value)} {oc_worth_by kV_worth_by dc_worth_by pm_worth_by cd_worth_by ct_worth_by:Value}
  {f_worth_of:Addr} {od_worth_of an_worth_of:Option Addr} {sl_worth_of:Array (Option Value)} {oc_worth_of kV_worth_of dc_worth_of pm_worth_of cd_worth_of ct_worth_of:Value}
  {f_form_of:Addr} {od_form_of an_form_of:Option Addr} {sl_form_of:Array (Option Value)} {oc_form_of kV_form_of dc_form_of pm_form_of cd_form_of ct_form_of:Value}
  {f_joined:Addr} {od_joined an_joined:Option Addr} {sl_joined:Array (Option Value)} {oc_joined kV_joined dc_joined pm_joined cd_joined ct_joined:Value}
  {f_parts_for:Addr} {od_parts_for an_parts_for:Option Addr} {sl_parts_for:Array (Option Value)} {oc_parts_for kV_parts_for dc_parts_for pm_parts_for cd_parts_for ct_parts_for:Value}
  {f_is_of:Addr} {od_is_of an_is_of:Option Addr} {sl_is_of:Array (Option Value)} {oc_is_of kV_is_of dc_is_of pm_is_of cd_is_of ct_is_of:Value}
  {f_in_order:Addr} {od_in_order an_in_order:Option Addr} {sl_in_order:Array (Option Value)} {oc_in_order kV_in_order dc_in_order pm_in_order cd_in_order ct_in_order:Value}
  {f_order_of:Addr} {od_order_of an_order_of:Option Addr} {sl_order_of:Array (Option Value)} {oc_order_of kV_order_of dc_order_of pm_order_of cd_order_of ct_order_of:Value}
  {f_are_twins:Addr} {od_are_twins an_are_twins:Option Addr} {sl_are_twins:Array (Option Value)} {oc_are_twins kV_are_twins dc_are_twins pm_are_twins cd_are_twins ct_are_twins:Value}
  {f_way_of:Addr} {od_way_of an_way_of:Option Addr} {sl_way_of:Array (Option Value)} {oc_way_of kV_way_of dc_way_of pm_way_of cd_way_of ct_way_of:Value}
  {f_way_with:Addr} {od_way_with an_way_with:Option Addr} {sl_way_with:Array (Option Value)} {oc_way_with kV_way_with dc_way_with pm_way_with cd_way_with ct_way_with:Value}
  {f_steps_of_form:Addr} {od_steps_of_form an_steps_of_form:Option Addr} {sl_steps_of_form:Array (Option Value)} {oc_steps_of_form kV_steps_of_form dc_steps_of_form pm_steps_of_form cd_steps_of_form ct_steps_of_form:Value}
  {f_unfolded:Addr} {od_unfolded an_unfolded:Option Addr} {sl_unfolded:Array (Option Value)} {oc_unfolded kV_unfolded dc_unfolded pm_unfolded cd_unfolded ct_unfolded:Value}
  {f_form_let:Addr} {od_form_let an_form_let:Option Addr} {sl_form_let:Array (Option Value)} {oc_form_let kV_form_let dc_form_let pm_form_let cd_form_let ct_form_let:Value}
  {f_is_group:Addr} {od_is_group an_is_group:Option Addr} {sl_is_group:Array (Option Value)} {oc_is_group kV_is_group dc_is_group pm_is_group cd_is_group ct_is_group:Value}
  {f_is_number:Addr} {od_is_number an_is_number:Option Addr} {sl_is_number:Array (Option Value)} {oc_is_number kV_is_number dc_is_number pm_is_number cd_is_number ct_is_number:Value}
  {f_is_kept:Addr} {od_is_kept an_is_kept:Option Addr} {sl_is_kept:Array (Option Value)} {oc_is_kept kV_is_kept dc_is_kept pm_is_kept cd_is_kept ct_is_kept:Value}
  {f_is_in_order:Addr} {od_is_in_order an_is_in_order:Option Addr} {sl_is_in_order:Array (Option Value)} {oc_is_in_order kV_is_in_order dc_is_in_order pm_is_in_order cd_is_in_order ct_is_in_order:Value}
  {f_has_worth:Addr} {od_has_worth an_has_worth:Option Addr} {sl_has_worth:Array (Option Value)} {oc_has_worth kV_has_worth dc_has_worth pm_has_worth cd_has_worth ct_has_worth:Value}
  {f_law_deck:Addr} {od_law_deck an_law_deck:Option Addr} {sl_law_deck:Array (Option Value)} {oc_law_deck kV_law_deck dc_law_deck pm_law_deck cd_law_deck ct_law_deck:Value}
  {f_law_take:Addr} {od_law_take an_law_take:Option Addr} {sl_law_take:Array (Option Value)} {oc_law_take kV_law_take dc_law_take pm_law_take cd_law_take ct_law_take:Value}
  {f_law_number:Addr} {od_law_number an_law_number:Option Addr} {sl_law_number:Array (Option Value)} {oc_law_number kV_law_number dc_law_number pm_law_number cd_law_number ct_law_number:Value}
  {f_law_by:Addr} {od_law_by an_law_by:Option Addr} {sl_law_by:Array (Option Value)} {oc_law_by kV_law_by dc_law_by pm_law_by cd_law_by ct_law_by:Value}
  {f_law_worth:Addr} {od_law_worth an_law_worth:Option Addr} {sl_law_worth:Array (Option Value)} {oc_law_worth kV_law_worth dc_law_worth pm_law_worth cd_law_worth ct_law_worth:Value}
  {f_law_good_way:Addr} {od_law_good_way an_law_good_way:Option Addr} {sl_law_good_way:Array (Option Value)} {oc_law_good_way kV_law_good_way dc_law_good_way pm_law_good_way cd_law_good_way ct_law_good_way:Value}
  {f_law_size:Addr} {od_law_size an_law_size:Option Addr} {sl_law_size:Array (Option Value)} {oc_law_size kV_law_size dc_law_size pm_law_size cd_law_size ct_law_size:Value}
  {f_law_numbers:Addr} {od_law_numbers an_law_numbers:Option Addr} {sl_law_numbers:Array (Option Value)} {oc_law_numbers kV_law_numbers dc_law_numbers pm_law_numbers cd_law_numbers ct_law_numbers:Value}
  {f_law_right:Addr} {od_law_right an_law_right:Option Addr} {sl_law_right:Array (Option Value)} {oc_law_right kV_law_right dc_law_right pm_law_right cd_law_right ct_law_right:Value}
  {f_law:Addr} {od_law an_law:Option Addr} {sl_law:Array (Option Value)} {oc_law kV_law dc_law pm_law cd_law ct_law:Value}
  {d_DEEDS:Addr} {es_DEEDS:Array DictEntry} {n_DEEDS:Nat}
  {d_KINDS:Addr} {es_KINDS:Array DictEntry} {n_KINDS:Nat}
  {d_RANKS:Addr} {es_RANKS:Array DictEntry} {n_RANKS:Nat}
  {d_PUT:Addr} {es_PUT:Array DictEntry} {n_PUT:Nat}
  {d_TAKEN:Addr} {es_TAKEN:Array DictEntry} {n_TAKEN:Nat}
  {t_k1 t_k2 t_k3 t_k4 t_r1 t_r2 t_p1 t_p2 t_t1 t_t2:Tok}
  {t_T:Addr} {tt1 tt2:Tok} {ns_T:Nat} {od_T:Option Addr} {sl_T:Array (Option Value)}
  {C_WishError N_WishError:Addr} {nm_WishError qn_WishError:Str} {bs_WishError sub_WishError:List Value} {sn_WishError:List Str} {ab_WishError:Bool} {col_WishError:Option Bool} {dd_WishError:Option Addr} {k0_WishError k1_WishError k2_WishError k3_WishError k5_WishError:Option Value}
  {C_NoWay N_NoWay:Addr} {nm_NoWay qn_NoWay:Str} {bs_NoWay sub_NoWay:List Value} {sn_NoWay:List Str} {ab_NoWay:Bool} {col_NoWay:Option Bool} {dd_NoWay:Option Addr} {k0_NoWay k1_NoWay k2_NoWay k3_NoWay k5_NoWay:Option Value} {bm_NoWay:List Value}
  {f_init:Addr}
  {od_init an_init:Option Addr} {sl_init:Array (Option Value)} {oc_init kV_init dc_init pm_init cd_init ct_init:Value}
  (a_plus:PySem.W.nsIn K mainGlobals "plus"=some (some (.ref f_plus))) (l_plus:K.lookup f_plus=some ⟨oc_plus,od_plus,.func (PySem.W.fnOf "plus" "plus" (defArgs s_plus) (defBody s_plus) (defScope s_plus) .none kV_plus dc_plus pm_plus an_plus cd_plus ct_plus),sl_plus⟩) (c_plus:PySem.W.codeIn K cd_plus "plus"=true) (k_plus:PySem.W.keepIn K (.ref f_plus)=true)
  (a_less:PySem.W.nsIn K mainGlobals "less"=some (some (.ref f_less))) (l_less:K.lookup f_less=some ⟨oc_less,od_less,.func (PySem.W.fnOf "less" "less" (defArgs s_less) (defBody s_less) (defScope s_less) .none kV_less dc_less pm_less an_less cd_less ct_less),sl_less⟩) (c_less:PySem.W.codeIn K cd_less "less"=true) (k_less:PySem.W.keepIn K (.ref f_less)=true)
  (a_times:PySem.W.nsIn K mainGlobals "times"=some (some (.ref f_times))) (l_times:K.lookup f_times=some ⟨oc_times,od_times,.func (PySem.W.fnOf "times" "times" (defArgs s_times) (defBody s_times) (defScope s_times) .none kV_times dc_times pm_times an_times cd_times ct_times),sl_times⟩) (c_times:PySem.W.codeIn K cd_times "times"=true) (k_times:PySem.W.keepIn K (.ref f_times)=true)
  (a_share:PySem.W.nsIn K mainGlobals "share"=some (some (.ref f_share))) (l_share:K.lookup f_share=some ⟨oc_share,od_share,.func (PySem.W.fnOf "share" "share" (defArgs s_share) (defBody s_share) (defScope s_share) .none kV_share dc_share pm_share an_share cd_share ct_share),sl_share⟩) (c_share:PySem.W.codeIn K cd_share "share"=true) (k_share:PySem.W.keepIn K (.ref f_share)=true)
  (a_steps_of:PySem.W.nsIn K mainGlobals "steps_of"=some (some (.ref f_steps_of))) (l_steps_of:K.lookup f_steps_of=some ⟨oc_steps_of,od_steps_of,.func (PySem.W.fnOf "steps_of" "steps_of" (defArgs s_steps_of) (defBody s_steps_of) (defScope s_steps_of) .none kV_steps_of dc_steps_of pm_steps_of an_steps_of cd_steps_of ct_steps_of),sl_steps_of⟩) (c_steps_of:PySem.W.codeIn K cd_steps_of "steps_of"=true) (k_steps_of:PySem.W.keepIn K (.ref f_steps_of)=true)
  (a_deeds_of:PySem.W.nsIn K mainGlobals "deeds_of"=some (some (.ref f_deeds_of))) (l_deeds_of:K.lookup f_deeds_of=some ⟨oc_deeds_of,od_deeds_of,.func (PySem.W.fnOf "deeds_of" "deeds_of" (defArgs s_deeds_of) (defBody s_deeds_of) (defScope s_deeds_of) .none kV_deeds_of dc_deeds_of pm_deeds_of an_deeds_of cd_deeds_of ct_deeds_of),sl_deeds_of⟩) (c_deeds_of:PySem.W.codeIn K cd_deeds_of "deeds_of"=true) (k_deeds_of:PySem.W.keepIn K (.ref f_deeds_of)=true)
  (a_numbers_of:PySem.W.nsIn K mainGlobals "numbers_of"=some (some (.ref f_numbers_of))) (l_numbers_of:K.lookup f_numbers_of=some ⟨oc_numbers_of,od_numbers_of,.func (PySem.W.fnOf "numbers_of" "numbers_of" (defArgs s_numbers_of) (defBody s_numbers_of) (defScope s_numbers_of) .none kV_numbers_of dc_numbers_of pm_numbers_of an_numbers_of cd_numbers_of ct_numbers_of),sl_numbers_of⟩) (c_numbers_of:PySem.W.codeIn K cd_numbers_of "numbers_of"=true) (k_numbers_of:PySem.W.keepIn K (.ref f_numbers_of)=true)
  (a_come_of:PySem.W.nsIn K mainGlobals "come_of"=some (some (.ref f_come_of))) (l_come_of:K.lookup f_come_of=some ⟨oc_come_of,od_come_of,.func (PySem.W.fnOf "come_of" "come_of" (defArgs s_come_of) (defBody s_come_of) (defScope s_come_of) .none kV_come_of dc_come_of pm_come_of an_come_of cd_come_of ct_come_of),sl_come_of⟩) (c_come_of:PySem.W.codeIn K cd_come_of "come_of"=true) (k_come_of:PySem.W.keepIn K (.ref f_come_of)=true)
  (a_number_itself:PySem.W.nsIn K mainGlobals "number_itself"=some (some (.ref f_number_itself))) (l_number_itself:K.lookup f_number_itself=some ⟨oc_number_itself,od_number_itself,.func (PySem.W.fnOf "number_itself" "number_itself" (defArgs s_number_itself) (defBody s_number_itself) (defScope s_number_itself) .none kV_number_itself dc_number_itself pm_number_itself an_number_itself cd_number_itself ct_number_itself),sl_number_itself⟩) (c_number_itself:PySem.W.codeIn K cd_number_itself "number_itself"=true) (k_number_itself:PySem.W.keepIn K (.ref f_number_itself)=true)
  (a_worth_by:PySem.W.nsIn K mainGlobals "worth_by"=some (some (.ref f_worth_by))) (l_worth_by:K.lookup f_worth_by=some ⟨oc_worth_by,od_worth_by,.func (PySem.W.fnOf "worth_by" "worth_by" (defArgs s_worth_by) (defBody s_worth_by) (defScope s_worth_by) .none kV_worth_by dc_worth_by pm_worth_by an_worth_by cd_worth_by ct_worth_by),sl_worth_by⟩) (c_worth_by:PySem.W.codeIn K cd_worth_by "worth_by"=true) (k_worth_by:PySem.W.keepIn K (.ref f_worth_by)=true)
  (a_worth_of:PySem.W.nsIn K mainGlobals "worth_of"=some (some (.ref f_worth_of))) (l_worth_of:K.lookup f_worth_of=some ⟨oc_worth_of,od_worth_of,.func (PySem.W.fnOf "worth_of" "worth_of" (defArgs s_worth_of) (defBody s_worth_of) (defScope s_worth_of) .none kV_worth_of dc_worth_of pm_worth_of an_worth_of cd_worth_of ct_worth_of),sl_worth_of⟩) (c_worth_of:PySem.W.codeIn K cd_worth_of "worth_of"=true) (k_worth_of:PySem.W.keepIn K (.ref f_worth_of)=true)
  (a_form_of:PySem.W.nsIn K mainGlobals "form_of"=some (some (.ref f_form_of))) (l_form_of:K.lookup f_form_of=some ⟨oc_form_of,od_form_of,.func (PySem.W.fnOf "form_of" "form_of" (defArgs s_form_of) (defBody s_form_of) (defScope s_form_of) .none kV_form_of dc_form_of pm_form_of an_form_of cd_form_of ct_form_of),sl_form_of⟩) (c_form_of:PySem.W.codeIn K cd_form_of "form_of"=true) (k_form_of:PySem.W.keepIn K (.ref f_form_of)=true)
  (a_joined:PySem.W.nsIn K mainGlobals "joined"=some (some (.ref f_joined))) (l_joined:K.lookup f_joined=some ⟨oc_joined,od_joined,.func (PySem.W.fnOf "joined" "joined" (defArgs s_joined) (defBody s_joined) (defScope s_joined) .none kV_joined dc_joined pm_joined an_joined cd_joined ct_joined),sl_joined⟩) (c_joined:PySem.W.codeIn K cd_joined "joined"=true) (k_joined:PySem.W.keepIn K (.ref f_joined)=true)
  (a_parts_for:PySem.W.nsIn K mainGlobals "parts_for"=some (some (.ref f_parts_for))) (l_parts_for:K.lookup f_parts_for=some ⟨oc_parts_for,od_parts_for,.func (PySem.W.fnOf "parts_for" "parts_for" (defArgs s_parts_for) (defBody s_parts_for) (defScope s_parts_for) .none kV_parts_for dc_parts_for pm_parts_for an_parts_for cd_parts_for ct_parts_for),sl_parts_for⟩) (c_parts_for:PySem.W.codeIn K cd_parts_for "parts_for"=true) (k_parts_for:PySem.W.keepIn K (.ref f_parts_for)=true)
  (a_is_of:PySem.W.nsIn K mainGlobals "is_of"=some (some (.ref f_is_of))) (l_is_of:K.lookup f_is_of=some ⟨oc_is_of,od_is_of,.func (PySem.W.fnOf "is_of" "is_of" (defArgs s_is_of) (defBody s_is_of) (defScope s_is_of) .none kV_is_of dc_is_of pm_is_of an_is_of cd_is_of ct_is_of),sl_is_of⟩) (c_is_of:PySem.W.codeIn K cd_is_of "is_of"=true) (k_is_of:PySem.W.keepIn K (.ref f_is_of)=true)
  (a_in_order:PySem.W.nsIn K mainGlobals "in_order"=some (some (.ref f_in_order))) (l_in_order:K.lookup f_in_order=some ⟨oc_in_order,od_in_order,.func (PySem.W.fnOf "in_order" "in_order" (defArgs s_in_order) (defBody s_in_order) (defScope s_in_order) .none kV_in_order dc_in_order pm_in_order an_in_order cd_in_order ct_in_order),sl_in_order⟩) (c_in_order:PySem.W.codeIn K cd_in_order "in_order"=true) (k_in_order:PySem.W.keepIn K (.ref f_in_order)=true)
  (a_order_of:PySem.W.nsIn K mainGlobals "order_of"=some (some (.ref f_order_of))) (l_order_of:K.lookup f_order_of=some ⟨oc_order_of,od_order_of,.func (PySem.W.fnOf "order_of" "order_of" (defArgs s_order_of) (defBody s_order_of) (defScope s_order_of) .none kV_order_of dc_order_of pm_order_of an_order_of cd_order_of ct_order_of),sl_order_of⟩) (c_order_of:PySem.W.codeIn K cd_order_of "order_of"=true) (k_order_of:PySem.W.keepIn K (.ref f_order_of)=true)
  (a_are_twins:PySem.W.nsIn K mainGlobals "are_twins"=some (some (.ref f_are_twins))) (l_are_twins:K.lookup f_are_twins=some ⟨oc_are_twins,od_are_twins,.func (PySem.W.fnOf "are_twins" "are_twins" (defArgs s_are_twins) (defBody s_are_twins) (defScope s_are_twins) .none kV_are_twins dc_are_twins pm_are_twins an_are_twins cd_are_twins ct_are_twins),sl_are_twins⟩) (c_are_twins:PySem.W.codeIn K cd_are_twins "are_twins"=true) (k_are_twins:PySem.W.keepIn K (.ref f_are_twins)=true)
  (a_way_of:PySem.W.nsIn K mainGlobals "way_of"=some (some (.ref f_way_of))) (l_way_of:K.lookup f_way_of=some ⟨oc_way_of,od_way_of,.func (PySem.W.fnOf "way_of" "way_of" (defArgs s_way_of) (defBody s_way_of) (defScope s_way_of) .none kV_way_of dc_way_of pm_way_of an_way_of cd_way_of ct_way_of),sl_way_of⟩) (c_way_of:PySem.W.codeIn K cd_way_of "way_of"=true) (k_way_of:PySem.W.keepIn K (.ref f_way_of)=true)
  (a_way_with:PySem.W.nsIn K mainGlobals "way_with"=some (some (.ref f_way_with))) (l_way_with:K.lookup f_way_with=some ⟨oc_way_with,od_way_with,.func (PySem.W.fnOf "way_with" "way_with" (defArgs s_way_with) (defBody s_way_with) (defScope s_way_with) .none kV_way_with dc_way_with pm_way_with an_way_with cd_way_with ct_way_with),sl_way_with⟩) (c_way_with:PySem.W.codeIn K cd_way_with "way_with"=true) (k_way_with:PySem.W.keepIn K (.ref f_way_with)=true)
  (a_steps_of_form:PySem.W.nsIn K mainGlobals "steps_of_form"=some (some (.ref f_steps_of_form))) (l_steps_of_form:K.lookup f_steps_of_form=some ⟨oc_steps_of_form,od_steps_of_form,.func (PySem.W.fnOf "steps_of_form" "steps_of_form" (defArgs s_steps_of_form) (defBody s_steps_of_form) (defScope s_steps_of_form) .none kV_steps_of_form dc_steps_of_form pm_steps_of_form an_steps_of_form cd_steps_of_form ct_steps_of_form),sl_steps_of_form⟩) (c_steps_of_form:PySem.W.codeIn K cd_steps_of_form "steps_of_form"=true) (k_steps_of_form:PySem.W.keepIn K (.ref f_steps_of_form)=true)
  (a_unfolded:PySem.W.nsIn K mainGlobals "unfolded"=some (some (.ref f_unfolded))) (l_unfolded:K.lookup f_unfolded=some ⟨oc_unfolded,od_unfolded,.func (PySem.W.fnOf "unfolded" "unfolded" (defArgs s_unfolded) (defBody s_unfolded) (defScope s_unfolded) .none kV_unfolded dc_unfolded pm_unfolded an_unfolded cd_unfolded ct_unfolded),sl_unfolded⟩) (c_unfolded:PySem.W.codeIn K cd_unfolded "unfolded"=true) (k_unfolded:PySem.W.keepIn K (.ref f_unfolded)=true)
  (a_form_let:PySem.W.nsIn K mainGlobals "form_let"=some (some (.ref f_form_let))) (l_form_let:K.lookup f_form_let=some ⟨oc_form_let,od_form_let,.func (PySem.W.fnOf "form_let" "form_let" (defArgs s_form_let) (defBody s_form_let) (defScope s_form_let) .none kV_form_let dc_form_let pm_form_let an_form_let cd_form_let ct_form_let),sl_form_let⟩) (c_form_let:PySem.W.codeIn K cd_form_let "form_let"=true) (k_form_let:PySem.W.keepIn K (.ref f_form_let)=true)
  (a_is_group:PySem.W.nsIn K mainGlobals "is_group"=some (some (.ref f_is_group))) (l_is_group:K.lookup f_is_group=some ⟨oc_is_group,od_is_group,.func (PySem.W.fnOf "is_group" "is_group" (defArgs s_is_group) (defBody s_is_group) (defScope s_is_group) .none kV_is_group dc_is_group pm_is_group an_is_group cd_is_group ct_is_group),sl_is_group⟩) (c_is_group:PySem.W.codeIn K cd_is_group "is_group"=true) (k_is_group:PySem.W.keepIn K (.ref f_is_group)=true)
  (a_is_number:PySem.W.nsIn K mainGlobals "is_number"=some (some (.ref f_is_number))) (l_is_number:K.lookup f_is_number=some ⟨oc_is_number,od_is_number,.func (PySem.W.fnOf "is_number" "is_number" (defArgs s_is_number) (defBody s_is_number) (defScope s_is_number) .none kV_is_number dc_is_number pm_is_number an_is_number cd_is_number ct_is_number),sl_is_number⟩) (c_is_number:PySem.W.codeIn K cd_is_number "is_number"=true) (k_is_number:PySem.W.keepIn K (.ref f_is_number)=true)
  (a_is_kept:PySem.W.nsIn K mainGlobals "is_kept"=some (some (.ref f_is_kept))) (l_is_kept:K.lookup f_is_kept=some ⟨oc_is_kept,od_is_kept,.func (PySem.W.fnOf "is_kept" "is_kept" (defArgs s_is_kept) (defBody s_is_kept) (defScope s_is_kept) .none kV_is_kept dc_is_kept pm_is_kept an_is_kept cd_is_kept ct_is_kept),sl_is_kept⟩) (c_is_kept:PySem.W.codeIn K cd_is_kept "is_kept"=true) (k_is_kept:PySem.W.keepIn K (.ref f_is_kept)=true)
  (a_is_in_order:PySem.W.nsIn K mainGlobals "is_in_order"=some (some (.ref f_is_in_order))) (l_is_in_order:K.lookup f_is_in_order=some ⟨oc_is_in_order,od_is_in_order,.func (PySem.W.fnOf "is_in_order" "is_in_order" (defArgs s_is_in_order) (defBody s_is_in_order) (defScope s_is_in_order) .none kV_is_in_order dc_is_in_order pm_is_in_order an_is_in_order cd_is_in_order ct_is_in_order),sl_is_in_order⟩) (c_is_in_order:PySem.W.codeIn K cd_is_in_order "is_in_order"=true) (k_is_in_order:PySem.W.keepIn K (.ref f_is_in_order)=true)
  (a_has_worth:PySem.W.nsIn K mainGlobals "has_worth"=some (some (.ref f_has_worth))) (l_has_worth:K.lookup f_has_worth=some ⟨oc_has_worth,od_has_worth,.func (PySem.W.fnOf "has_worth" "has_worth" (defArgs s_has_worth) (defBody s_has_worth) (defScope s_has_worth) .none kV_has_worth dc_has_worth pm_has_worth an_has_worth cd_has_worth ct_has_worth),sl_has_worth⟩) (c_has_worth:PySem.W.codeIn K cd_has_worth "has_worth"=true) (k_has_worth:PySem.W.keepIn K (.ref f_has_worth)=true)
  (a_law_deck:PySem.W.nsIn K mainGlobals "_law_deck"=some (some (.ref f_law_deck))) (l_law_deck:K.lookup f_law_deck=some ⟨oc_law_deck,od_law_deck,.func (PySem.W.fnOf "_law_deck" "_law_deck" (defArgs s_law_deck) (defBody s_law_deck) (defScope s_law_deck) .none kV_law_deck dc_law_deck pm_law_deck an_law_deck cd_law_deck ct_law_deck),sl_law_deck⟩) (c_law_deck:PySem.W.codeIn K cd_law_deck "_law_deck"=true) (k_law_deck:PySem.W.keepIn K (.ref f_law_deck)=true)
  (a_law_take:PySem.W.nsIn K mainGlobals "_law_take"=some (some (.ref f_law_take))) (l_law_take:K.lookup f_law_take=some ⟨oc_law_take,od_law_take,.func (PySem.W.fnOf "_law_take" "_law_take" (defArgs s_law_take) (defBody s_law_take) (defScope s_law_take) .none kV_law_take dc_law_take pm_law_take an_law_take cd_law_take ct_law_take),sl_law_take⟩) (c_law_take:PySem.W.codeIn K cd_law_take "_law_take"=true) (k_law_take:PySem.W.keepIn K (.ref f_law_take)=true)
  (a_law_number:PySem.W.nsIn K mainGlobals "_law_number"=some (some (.ref f_law_number))) (l_law_number:K.lookup f_law_number=some ⟨oc_law_number,od_law_number,.func (PySem.W.fnOf "_law_number" "_law_number" (defArgs s_law_number) (defBody s_law_number) (defScope s_law_number) .none kV_law_number dc_law_number pm_law_number an_law_number cd_law_number ct_law_number),sl_law_number⟩) (c_law_number:PySem.W.codeIn K cd_law_number "_law_number"=true) (k_law_number:PySem.W.keepIn K (.ref f_law_number)=true)
  (a_law_by:PySem.W.nsIn K mainGlobals "_law_by"=some (some (.ref f_law_by))) (l_law_by:K.lookup f_law_by=some ⟨oc_law_by,od_law_by,.func (PySem.W.fnOf "_law_by" "_law_by" (defArgs s_law_by) (defBody s_law_by) (defScope s_law_by) .none kV_law_by dc_law_by pm_law_by an_law_by cd_law_by ct_law_by),sl_law_by⟩) (c_law_by:PySem.W.codeIn K cd_law_by "_law_by"=true) (k_law_by:PySem.W.keepIn K (.ref f_law_by)=true)
  (a_law_worth:PySem.W.nsIn K mainGlobals "_law_worth"=some (some (.ref f_law_worth))) (l_law_worth:K.lookup f_law_worth=some ⟨oc_law_worth,od_law_worth,.func (PySem.W.fnOf "_law_worth" "_law_worth" (defArgs s_law_worth) (defBody s_law_worth) (defScope s_law_worth) .none kV_law_worth dc_law_worth pm_law_worth an_law_worth cd_law_worth ct_law_worth),sl_law_worth⟩) (c_law_worth:PySem.W.codeIn K cd_law_worth "_law_worth"=true) (k_law_worth:PySem.W.keepIn K (.ref f_law_worth)=true)
  (a_law_good_way:PySem.W.nsIn K mainGlobals "_law_good_way"=some (some (.ref f_law_good_way))) (l_law_good_way:K.lookup f_law_good_way=some ⟨oc_law_good_way,od_law_good_way,.func (PySem.W.fnOf "_law_good_way" "_law_good_way" (defArgs s_law_good_way) (defBody s_law_good_way) (defScope s_law_good_way) .none kV_law_good_way dc_law_good_way pm_law_good_way an_law_good_way cd_law_good_way ct_law_good_way),sl_law_good_way⟩) (c_law_good_way:PySem.W.codeIn K cd_law_good_way "_law_good_way"=true) (k_law_good_way:PySem.W.keepIn K (.ref f_law_good_way)=true)
  (a_law_size:PySem.W.nsIn K mainGlobals "_law_size"=some (some (.ref f_law_size))) (l_law_size:K.lookup f_law_size=some ⟨oc_law_size,od_law_size,.func (PySem.W.fnOf "_law_size" "_law_size" (defArgs s_law_size) (defBody s_law_size) (defScope s_law_size) .none kV_law_size dc_law_size pm_law_size an_law_size cd_law_size ct_law_size),sl_law_size⟩) (c_law_size:PySem.W.codeIn K cd_law_size "_law_size"=true) (k_law_size:PySem.W.keepIn K (.ref f_law_size)=true)
  (a_law_numbers:PySem.W.nsIn K mainGlobals "_law_numbers"=some (some (.ref f_law_numbers))) (l_law_numbers:K.lookup f_law_numbers=some ⟨oc_law_numbers,od_law_numbers,.func (PySem.W.fnOf "_law_numbers" "_law_numbers" (defArgs s_law_numbers) (defBody s_law_numbers) (defScope s_law_numbers) .none kV_law_numbers dc_law_numbers pm_law_numbers an_law_numbers cd_law_numbers ct_law_numbers),sl_law_numbers⟩) (c_law_numbers:PySem.W.codeIn K cd_law_numbers "_law_numbers"=true) (k_law_numbers:PySem.W.keepIn K (.ref f_law_numbers)=true)
  (a_law_right:PySem.W.nsIn K mainGlobals "_law_right"=some (some (.ref f_law_right))) (l_law_right:K.lookup f_law_right=some ⟨oc_law_right,od_law_right,.func (PySem.W.fnOf "_law_right" "_law_right" (defArgs s_law_right) (defBody s_law_right) (defScope s_law_right) .none kV_law_right dc_law_right pm_law_right an_law_right cd_law_right ct_law_right),sl_law_right⟩) (c_law_right:PySem.W.codeIn K cd_law_right "_law_right"=true) (k_law_right:PySem.W.keepIn K (.ref f_law_right)=true)
  (a_law:PySem.W.nsIn K mainGlobals "law"=some (some (.ref f_law))) (l_law:K.lookup f_law=some ⟨oc_law,od_law,.func (PySem.W.fnOf "law" "law" (defArgs s_law) (defBody s_law) (defScope s_law) .none kV_law dc_law pm_law an_law cd_law ct_law),sl_law⟩) (c_law:PySem.W.codeIn K cd_law "law"=true) (k_law:PySem.W.keepIn K (.ref f_law)=true)
  (a_DEEDS:PySem.W.nsIn K mainGlobals "DEEDS"=some (some (.ref d_DEEDS))) (l_DEEDS:K.lookup d_DEEDS=some ⟨.type "dict",none,.dict es_DEEDS n_DEEDS,#[]⟩) (k_DEEDS:PySem.W.KeysLit w.params es_DEEDS.toList)
  (e_DEEDS_plus:PySem.W.nsIn K d_DEEDS "plus"=some (some (.ref f_plus)))
  (e_DEEDS_less:PySem.W.nsIn K d_DEEDS "less"=some (some (.ref f_less)))
  (e_DEEDS_times:PySem.W.nsIn K d_DEEDS "times"=some (some (.ref f_times)))
  (e_DEEDS_share:PySem.W.nsIn K d_DEEDS "share"=some (some (.ref f_share)))
  (a_KINDS:PySem.W.nsIn K mainGlobals "KINDS"=some (some (.ref d_KINDS))) (l_KINDS:K.lookup d_KINDS=some ⟨.type "dict",none,.dict es_KINDS n_KINDS,#[]⟩) (k_KINDS:PySem.W.KeysLit w.params es_KINDS.toList)
  (e_KINDS_plus:PySem.W.nsIn K d_KINDS "plus"=some (some (.str "sum" t_k1)))
  (e_KINDS_less:PySem.W.nsIn K d_KINDS "less"=some (some (.str "sum" t_k2)))
  (e_KINDS_times:PySem.W.nsIn K d_KINDS "times"=some (some (.str "product" t_k3)))
  (e_KINDS_share:PySem.W.nsIn K d_KINDS "share"=some (some (.str "product" t_k4)))
  (a_RANKS:PySem.W.nsIn K mainGlobals "RANKS"=some (some (.ref d_RANKS))) (l_RANKS:K.lookup d_RANKS=some ⟨.type "dict",none,.dict es_RANKS n_RANKS,#[]⟩) (k_RANKS:PySem.W.KeysLit w.params es_RANKS.toList)
  (e_RANKS_sum:PySem.W.nsIn K d_RANKS "sum"=some (some (.int 2 t_r1)))
  (e_RANKS_product:PySem.W.nsIn K d_RANKS "product"=some (some (.int 3 t_r2)))
  (a_PUT:PySem.W.nsIn K mainGlobals "PUT"=some (some (.ref d_PUT))) (l_PUT:K.lookup d_PUT=some ⟨.type "dict",none,.dict es_PUT n_PUT,#[]⟩) (k_PUT:PySem.W.KeysLit w.params es_PUT.toList)
  (e_PUT_sum:PySem.W.nsIn K d_PUT "sum"=some (some (.str "plus" t_p1)))
  (e_PUT_product:PySem.W.nsIn K d_PUT "product"=some (some (.str "times" t_p2)))
  (a_TAKEN:PySem.W.nsIn K mainGlobals "TAKEN"=some (some (.ref d_TAKEN))) (l_TAKEN:K.lookup d_TAKEN=some ⟨.type "dict",none,.dict es_TAKEN n_TAKEN,#[]⟩) (k_TAKEN:PySem.W.KeysLit w.params es_TAKEN.toList)
  (e_TAKEN_sum:PySem.W.nsIn K d_TAKEN "sum"=some (some (.str "less" t_t1)))
  (e_TAKEN_product:PySem.W.nsIn K d_TAKEN "product"=some (some (.str "share" t_t2)))
  (z_sorted:PySem.W.nsIn K mainGlobals "sorted"=some none)
  (z_all:PySem.W.nsIn K mainGlobals "all"=some none)
  (z_any:PySem.W.nsIn K mainGlobals "any"=some none)
  (a_TURNED:PySem.W.nsIn K mainGlobals "TURNED"=some (some (.ref t_T)))
  (l_TURNED:K.lookup t_T=some ⟨.type "tuple",od_T,.seq #[.str "less" tt1,.str "share" tt2] ns_T,sl_T⟩)
  (a_WishError:PySem.W.nsIn K mainGlobals "WishError"=some (some (.ref C_WishError)))
  (l_WishError:K.lookup C_WishError=some (excClassObj nm_WishError qn_WishError C_WishError N_WishError bs_WishError vMro true sn_WishError sub_WishError ab_WishError col_WishError dd_WishError k0_WishError k1_WishError k2_WishError k3_WishError k5_WishError "ValueError.__new__"))
  (t_WishError:PySem.W.tailIn K vMro vMro=true)
  (kp_WishError:PySem.W.keepIn K (.ref C_WishError)=true)
  (ga_WishError:PySem.W.findIn K (.ref C_WishError) "__getattribute__"=some (some (.builtin "BaseException.__getattribute__")))
  (gh_WishError:PySem.W.findIn K (.ref C_WishError) "__getattr__"=some none)
  (gc_WishError:PySem.W.findIn K (.ref C_WishError) "__class__"=some (some (.builtin "object.__class__")))
  (sa_WishError:PySem.W.findIn K (.ref C_WishError) "__setattr__"=some (some (.builtin "object.__setattr__")))
  (a_NoWay:PySem.W.nsIn K mainGlobals "NoWay"=some (some (.ref C_NoWay)))
  (l_NoWay:K.lookup C_NoWay=some (excClassObj nm_NoWay qn_NoWay C_NoWay N_NoWay bs_NoWay bm_NoWay true sn_NoWay sub_NoWay ab_NoWay col_NoWay dd_NoWay k0_NoWay k1_NoWay k2_NoWay k3_NoWay k5_NoWay "ValueError.__new__"))
  (t_NoWay:PySem.W.tailIn K vMro bm_NoWay=true)
  (kp_NoWay:PySem.W.keepIn K (.ref C_NoWay)=true)
  (ga_NoWay:PySem.W.findIn K (.ref C_NoWay) "__getattribute__"=some (some (.builtin "BaseException.__getattribute__")))
  (gh_NoWay:PySem.W.findIn K (.ref C_NoWay) "__getattr__"=some none)
  (gc_NoWay:PySem.W.findIn K (.ref C_NoWay) "__class__"=some (some (.builtin "object.__class__")))
  (sa_NoWay:PySem.W.findIn K (.ref C_NoWay) "__setattr__"=some (some (.builtin "object.__setattr__")))
  (i_NoWay:PySem.W.findIn K (.ref C_NoWay) "__init__"=some (some (.ref f_init)))
  (y_init:PySem.W.typeIn K (.ref f_init)=some (.type "function"))
  (l_init:K.lookup f_init=some ⟨oc_init,od_init,.func (PySem.W.fnOf "__init__" "NoWay.__init__" (defArgs s_init) (defBody s_init) (defScope s_init) .none kV_init dc_init pm_init an_init cd_init ct_init),sl_init⟩)
  (cd_ok_init:PySem.W.codeIn K cd_init "NoWay.__init__"=true)
  (k_init:PySem.W.keepIn K (.ref f_init)=true)
  (w_NoWay:PySem.W.findIn K (.ref C_NoWay) "word"=some none)
  (z_len:PySem.W.nsIn K mainGlobals "len"=some none)
  (z_sum:PySem.W.nsIn K mainGlobals "sum"=some none)
  (z_range:PySem.W.nsIn K mainGlobals "range"=some none)
  (z_isinstance:PySem.W.nsIn K mainGlobals "isinstance"=some none)
  (z_int:PySem.W.nsIn K mainGlobals "int"=some none)
  (z_str:PySem.W.nsIn K mainGlobals "str"=some none)
  (z_bool:PySem.W.nsIn K mainGlobals "bool"=some none)
  (z_tuple:PySem.W.nsIn K mainGlobals "tuple"=some none)
  (z_zip:PySem.W.nsIn K mainGlobals "zip"=some none) :
  ∃ fd:FuncData,(∀ (s:Shared) (v:Value),BindsTo s fd ⟨[v],[]⟩ [("script",v)])∧∀ base:Heap,K.In base→base.Ns mainGlobals mg→FnOk l.prog w K mg base CX0 30 fa fd ["script"] (spLaw K):=by
 have e:=hfa.symm.trans (PySem.W.mg_of X G a_law)
 cases e
 have F_plus:=fun_mk (st:=s_plus) l_plus c_plus k_plus
 have b_plus:=F_plus.binds (ps:=["first","second"]) fun _ _ _ _ _ _ us hl=>match us,hl with | [_,_],_=>rfl
 have m_plus:=PySem.W.mg_of X G a_plus
 have F_less:=fun_mk (st:=s_less) l_less c_less k_less
 have b_less:=F_less.binds (ps:=["first","second"]) fun _ _ _ _ _ _ us hl=>match us,hl with | [_,_],_=>rfl
 have m_less:=PySem.W.mg_of X G a_less
 have F_times:=fun_mk (st:=s_times) l_times c_times k_times
 have b_times:=F_times.binds (ps:=["first","second"]) fun _ _ _ _ _ _ us hl=>match us,hl with | [_,_],_=>rfl
 have m_times:=PySem.W.mg_of X G a_times
 have F_share:=fun_mk (st:=s_share) l_share c_share k_share
 have b_share:=F_share.binds (ps:=["first","second"]) fun _ _ _ _ _ _ us hl=>match us,hl with | [_,_],_=>rfl
 have m_share:=PySem.W.mg_of X G a_share
 have F_steps_of:=fun_mk (st:=s_steps_of) l_steps_of c_steps_of k_steps_of
 have b_steps_of:=F_steps_of.binds (ps:=["way"]) fun _ _ _ _ _ _ us hl=>match us,hl with | [_],_=>rfl
 have m_steps_of:=PySem.W.mg_of X G a_steps_of
 have F_deeds_of:=fun_mk (st:=s_deeds_of) l_deeds_of c_deeds_of k_deeds_of
 have b_deeds_of:=F_deeds_of.binds (ps:=["way"]) fun _ _ _ _ _ _ us hl=>match us,hl with | [_],_=>rfl
 have m_deeds_of:=PySem.W.mg_of X G a_deeds_of
 have F_numbers_of:=fun_mk (st:=s_numbers_of) l_numbers_of c_numbers_of k_numbers_of
 have b_numbers_of:=F_numbers_of.binds (ps:=["way"]) fun _ _ _ _ _ _ us hl=>match us,hl with | [_],_=>rfl
 have m_numbers_of:=PySem.W.mg_of X G a_numbers_of
 have F_come_of:=fun_mk (st:=s_come_of) l_come_of c_come_of k_come_of
 have b_come_of:=F_come_of.binds (ps:=["steps","of_number","of_word"]) fun _ _ _ _ _ _ us hl=>match us,hl with | [_,_,_],_=>rfl
 have m_come_of:=PySem.W.mg_of X G a_come_of
 have F_number_itself:=fun_mk (st:=s_number_itself) l_number_itself c_number_itself k_number_itself
 have b_number_itself:=F_number_itself.binds (ps:=["number"]) fun _ _ _ _ _ _ us hl=>match us,hl with | [_],_=>rfl
 have m_number_itself:=PySem.W.mg_of X G a_number_itself
 have F_worth_by:=fun_mk (st:=s_worth_by) l_worth_by c_worth_by k_worth_by
 have b_worth_by:=F_worth_by.binds (ps:=["word","first","second"]) fun _ _ _ _ _ _ us hl=>match us,hl with | [_,_,_],_=>rfl
 have m_worth_by:=PySem.W.mg_of X G a_worth_by
 have F_worth_of:=fun_mk (st:=s_worth_of) l_worth_of c_worth_of k_worth_of
 have b_worth_of:=F_worth_of.binds (ps:=["way"]) fun _ _ _ _ _ _ us hl=>match us,hl with | [_],_=>rfl
 have m_worth_of:=PySem.W.mg_of X G a_worth_of
 have F_form_of:=fun_mk (st:=s_form_of) l_form_of c_form_of k_form_of
 have b_form_of:=F_form_of.binds (ps:=["way"]) fun _ _ _ _ _ _ us hl=>match us,hl with | [_],_=>rfl
 have m_form_of:=PySem.W.mg_of X G a_form_of
 have F_joined:=fun_mk (st:=s_joined) l_joined c_joined k_joined
 have b_joined:=F_joined.binds (ps:=["word","first","second"]) fun _ _ _ _ _ _ us hl=>match us,hl with | [_,_,_],_=>rfl
 have m_joined:=PySem.W.mg_of X G a_joined
 have F_parts_for:=fun_mk (st:=s_parts_for) l_parts_for c_parts_for k_parts_for
 have b_parts_for:=F_parts_for.binds (ps:=["kind","form"]) fun _ _ _ _ _ _ us hl=>match us,hl with | [_,_],_=>rfl
 have m_parts_for:=PySem.W.mg_of X G a_parts_for
 have F_is_of:=fun_mk (st:=s_is_of) l_is_of c_is_of k_is_of
 have b_is_of:=F_is_of.binds (ps:=["kind","form"]) fun _ _ _ _ _ _ us hl=>match us,hl with | [_,_],_=>rfl
 have m_is_of:=PySem.W.mg_of X G a_is_of
 have F_in_order:=fun_mk (st:=s_in_order) l_in_order c_in_order k_in_order
 have b_in_order:=F_in_order.binds (ps:=["parts"]) fun _ _ _ _ _ _ us hl=>match us,hl with | [_],_=>rfl
 have m_in_order:=PySem.W.mg_of X G a_in_order
 have F_order_of:=fun_mk (st:=s_order_of) l_order_of c_order_of k_order_of
 have b_order_of:=F_order_of.binds (ps:=["form"]) fun _ _ _ _ _ _ us hl=>match us,hl with | [_],_=>rfl
 have m_order_of:=PySem.W.mg_of X G a_order_of
 have F_are_twins:=fun_mk (st:=s_are_twins) l_are_twins c_are_twins k_are_twins
 have b_are_twins:=F_are_twins.binds (ps:=["one","other"]) fun _ _ _ _ _ _ us hl=>match us,hl with | [_,_],_=>rfl
 have m_are_twins:=PySem.W.mg_of X G a_are_twins
 have F_way_of:=fun_mk (st:=s_way_of) l_way_of c_way_of k_way_of
 have b_way_of:=F_way_of.binds (ps:=["form"]) fun _ _ _ _ _ _ us hl=>match us,hl with | [_],_=>rfl
 have m_way_of:=PySem.W.mg_of X G a_way_of
 have F_way_with:=fun_mk (st:=s_way_with) l_way_with c_way_with k_way_with
 have b_way_with:=F_way_with.binds (ps:=["word","first","second"]) fun _ _ _ _ _ _ us hl=>match us,hl with | [_,_,_],_=>rfl
 have m_way_with:=PySem.W.mg_of X G a_way_with
 have F_steps_of_form:=fun_mk (st:=s_steps_of_form) l_steps_of_form c_steps_of_form k_steps_of_form
 have b_steps_of_form:=F_steps_of_form.binds (ps:=["form"]) fun _ _ _ _ _ _ us hl=>match us,hl with | [_],_=>rfl
 have m_steps_of_form:=PySem.W.mg_of X G a_steps_of_form
 have F_unfolded:=fun_mk (st:=s_unfolded) l_unfolded c_unfolded k_unfolded
 have b_unfolded:=F_unfolded.binds (ps:=["form"]) fun _ _ _ _ _ _ us hl=>match us,hl with | [_],_=>rfl
 have m_unfolded:=PySem.W.mg_of X G a_unfolded
 have F_form_let:=fun_mk (st:=s_form_let) l_form_let c_form_let k_form_let
 have b_form_let:=F_form_let.binds (ps:=["form"]) fun _ _ _ _ _ _ us hl=>match us,hl with | [_],_=>rfl
 have m_form_let:=PySem.W.mg_of X G a_form_let
 have F_is_group:=fun_mk (st:=s_is_group) l_is_group c_is_group k_is_group
 have b_is_group:=F_is_group.binds (ps:=["form"]) fun _ _ _ _ _ _ us hl=>match us,hl with | [_],_=>rfl
 have m_is_group:=PySem.W.mg_of X G a_is_group
 have F_is_number:=fun_mk (st:=s_is_number) l_is_number c_is_number k_is_number
 have b_is_number:=F_is_number.binds (ps:=["form"]) fun _ _ _ _ _ _ us hl=>match us,hl with | [_],_=>rfl
 have m_is_number:=PySem.W.mg_of X G a_is_number
 have F_is_kept:=fun_mk (st:=s_is_kept) l_is_kept c_is_kept k_is_kept
 have b_is_kept:=F_is_kept.binds (ps:=["group"]) fun _ _ _ _ _ _ us hl=>match us,hl with | [_],_=>rfl
 have m_is_kept:=PySem.W.mg_of X G a_is_kept
 have F_is_in_order:=fun_mk (st:=s_is_in_order) l_is_in_order c_is_in_order k_is_in_order
 have b_is_in_order:=F_is_in_order.binds (ps:=["parts"]) fun _ _ _ _ _ _ us hl=>match us,hl with | [_],_=>rfl
 have m_is_in_order:=PySem.W.mg_of X G a_is_in_order
 have F_has_worth:=fun_mk (st:=s_has_worth) l_has_worth c_has_worth k_has_worth
 have b_has_worth:=F_has_worth.binds (ps:=["way"]) fun _ _ _ _ _ _ us hl=>match us,hl with | [_],_=>rfl
 have m_has_worth:=PySem.W.mg_of X G a_has_worth
 have F_law_deck:=fun_mk (st:=s_law_deck) l_law_deck c_law_deck k_law_deck
 have b_law_deck:=F_law_deck.binds (ps:=["script"]) fun _ _ _ _ _ _ us hl=>match us,hl with | [_],_=>rfl
 have m_law_deck:=PySem.W.mg_of X G a_law_deck
 have F_law_take:=fun_mk (st:=s_law_take) l_law_take c_law_take k_law_take
 have b_law_take:=F_law_take.binds (ps:=["deck","many"]) fun _ _ _ _ _ _ us hl=>match us,hl with | [_,_],_=>rfl
 have m_law_take:=PySem.W.mg_of X G a_law_take
 have F_law_number:=fun_mk (st:=s_law_number) l_law_number c_law_number k_law_number
 have b_law_number:=F_law_number.binds (ps:=["deck"]) fun _ _ _ _ _ _ us hl=>match us,hl with | [_],_=>rfl
 have m_law_number:=PySem.W.mg_of X G a_law_number
 have F_law_by:=fun_mk (st:=s_law_by) l_law_by c_law_by k_law_by
 have b_law_by:=F_law_by.binds (ps:=["word","one","other"]) fun _ _ _ _ _ _ us hl=>match us,hl with | [_,_,_],_=>rfl
 have m_law_by:=PySem.W.mg_of X G a_law_by
 have F_law_worth:=fun_mk (st:=s_law_worth) l_law_worth c_law_worth k_law_worth
 have b_law_worth:=F_law_worth.binds (ps:=["way"]) fun _ _ _ _ _ _ us hl=>match us,hl with | [_],_=>rfl
 have m_law_worth:=PySem.W.mg_of X G a_law_worth
 have F_law_good_way:=fun_mk (st:=s_law_good_way) l_law_good_way c_law_good_way k_law_good_way
 have b_law_good_way:=F_law_good_way.binds (ps:=["deck","many"]) fun _ _ _ _ _ _ us hl=>match us,hl with | [_,_],_=>rfl
 have m_law_good_way:=PySem.W.mg_of X G a_law_good_way
 have F_law_size:=fun_mk (st:=s_law_size) l_law_size c_law_size k_law_size
 have b_law_size:=F_law_size.binds (ps:=["deck"]) fun _ _ _ _ _ _ us hl=>match us,hl with | [_],_=>rfl
 have m_law_size:=PySem.W.mg_of X G a_law_size
 have F_law_numbers:=fun_mk (st:=s_law_numbers) l_law_numbers c_law_numbers k_law_numbers
 have b_law_numbers:=F_law_numbers.binds (ps:=["form"]) fun _ _ _ _ _ _ us hl=>match us,hl with | [_],_=>rfl
 have m_law_numbers:=PySem.W.mg_of X G a_law_numbers
 have F_law_right:=fun_mk (st:=s_law_right) l_law_right c_law_right k_law_right
 have b_law_right:=F_law_right.binds (ps:=["way"]) fun _ _ _ _ _ _ us hl=>match us,hl with | [_],_=>rfl
 have m_law_right:=PySem.W.mg_of X G a_law_right
 have F_law:=fun_mk (st:=s_law) l_law c_law k_law
 have b_law:=F_law.binds (ps:=["script"]) fun _ _ _ _ _ _ us hl=>match us,hl with | [_],_=>rfl
 have m_law:=PySem.W.mg_of X G a_law
 have B:Blt mg:=⟨PySem.W.mg_none_of X G z_len,PySem.W.mg_none_of X G z_sum,PySem.W.mg_none_of X G z_range,PySem.W.mg_none_of X G z_isinstance,PySem.W.mg_none_of X G z_int,PySem.W.mg_none_of X G z_str,PySem.W.mg_none_of X G z_bool,PySem.W.mg_none_of X G z_tuple,PySem.W.mg_none_of X G z_zip⟩
 refine ⟨PySem.W.fnOf "law" "law" (defArgs s_law) (defBody s_law) (defScope s_law) .none kV_law dc_law pm_law an_law cd_law ct_law,fun s v=>.of_eq rfl,fun base _ _=>?_⟩
 have c_WishError:XC K C_WishError vMro:=⟨⟨_,_,_,_,_,_,_,_,_,_,_,_,_,_,l_WishError⟩,t_WishError,kp_WishError,ga_WishError,gh_WishError,gc_WishError,sa_WishError⟩
 have c_NoWay:XC K C_NoWay bm_NoWay:=⟨⟨_,_,_,_,_,_,_,_,_,_,_,_,_,_,l_NoWay⟩,t_NoWay,kp_NoWay,ga_NoWay,gh_NoWay,gc_NoWay,sa_NoWay⟩
 have F_init:=fun_mk (st:=s_init) l_init cd_ok_init k_init
 have b_init:=F_init.binds (ps:=["self","word"]) fun _ _ _ _ _ _ us hl=>match us,hl with | [_,_],_=>rfl
 have R:Xc.Refs l.prog w K mg base C_WishError C_NoWay bm_NoWay :=
  ⟨c_WishError,c_NoWay,PySem.W.mg_of X G a_NoWay,⟨f_init,_,_,i_NoWay,y_init,Xc.ok_init F_init c_NoWay w_NoWay,b_init⟩,w_NoWay⟩
 have De:Xc.DeedsX l.prog w K mg base C_NoWay d_DEEDS (famOf f_plus f_less f_times f_share):=by
  refine ⟨⟨_,_,l_DEEDS,k_DEEDS⟩,PySem.W.mg_of X G a_DEEDS,fun wd hw=>?_,fun wd hw=>?_⟩
  ·rcases hw with rfl | rfl | rfl | rfl
   ·exact e_DEEDS_plus
   ·exact e_DEEDS_less
   ·exact e_DEEDS_times
   ·exact e_DEEDS_share
  ·rcases hw with rfl | rfl | rfl | rfl
   ·exact ⟨⟨_,_,Xc.okX_plus F_plus,b_plus⟩,k_plus⟩
   ·exact ⟨⟨_,_,Xc.okX_less F_less R,b_less⟩,k_less⟩
   ·exact ⟨⟨_,_,Xc.okX_times F_times,b_times⟩,k_times⟩
   ·exact ⟨⟨_,_,Xc.okX_share F_share R,b_share⟩,k_share⟩
 have mK:=PySem.W.mg_of X G a_KINDS
 have mR:=PySem.W.mg_of X G a_RANKS
 have mT:=PySem.W.mg_of X G a_TURNED
 have TK:TopDict w K d_KINDS:=⟨es_KINDS,n_KINDS,l_KINDS,k_KINDS⟩
 have TR:TopDict w K d_RANKS:=⟨es_RANKS,n_RANKS,l_RANKS,k_RANKS⟩
 have TT:TurnT K t_T:=fun _=>.inr ⟨_,_,_,l_TURNED,rfl,rfl,by show 2≤sizeLine; decide,.cons ⟨tt1,rfl⟩ (.cons ⟨tt2,rfl⟩ .nil)⟩
 have hK:∀ k:Str,okWord k→∃ t,PySem.W.nsIn K d_KINDS k=some (some (.str (knd k) t)):=fun k h=>by
  rcases h with rfl | rfl | rfl | rfl
  ·exact ⟨t_k1,by rw [e_KINDS_plus,show knd "plus"="sum" by decide +kernel]⟩
  ·exact ⟨t_k2,by rw [e_KINDS_less,show knd "less"="sum" by decide +kernel]⟩
  ·exact ⟨t_k3,by rw [e_KINDS_times,show knd "times"="product" by decide +kernel]⟩
  ·exact ⟨t_k4,by rw [e_KINDS_share,show knd "share"="product" by decide +kernel]⟩
 have hR:∀ k:Str,(k="sum"∨k="product")→∃ t,PySem.W.nsIn K d_RANKS k=some (some (.int (rkK k) t)):=fun k h=>by
  rcases h with rfl | rfl
  ·exact ⟨t_r1,by rw [e_RANKS_sum,show rkK "sum"=2 by decide +kernel]⟩
  ·exact ⟨t_r2,by rw [e_RANKS_product,show rkK "product"=3 by decide +kernel]⟩
 have mPU:=PySem.W.mg_of X G a_PUT
 have mTA:=PySem.W.mg_of X G a_TAKEN
 have TPU:TopDict w K d_PUT:=⟨es_PUT,n_PUT,l_PUT,k_PUT⟩
 have TTA:TopDict w K d_TAKEN:=⟨es_TAKEN,n_TAKEN,l_TAKEN,k_TAKEN⟩
 have hP:∀ k:Str,(k="sum"∨k="product")→∃ t,PySem.W.nsIn K d_PUT k=some (some (.str (pt k) t)):=fun k h=>by
  rcases h with rfl | rfl
  ·exact ⟨t_p1,by rw [e_PUT_sum,show pt "sum"="plus" by decide +kernel]⟩
  ·exact ⟨t_p2,by rw [e_PUT_product,show pt "product"="times" by decide +kernel]⟩
 have hT:∀ k:Str,(k="sum"∨k="product")→∃ t,PySem.W.nsIn K d_TAKEN k=some (some (.str (tk k) t)):=fun k h=>by
  rcases h with rfl | rfl
  ·exact ⟨t_t1,by rw [e_TAKEN_sum,show tk "sum"="less" by decide +kernel]⟩
  ·exact ⟨t_t2,by rw [e_TAKEN_product,show tk "product"="share" by decide +kernel]⟩
 have Bsorted:mg "sorted"=none:=PySem.W.mg_none_of X G z_sorted
 have Ball:mg "all"=none:=PySem.W.mg_none_of X G z_all
 have Bany:mg "any"=none:=PySem.W.mg_none_of X G z_any
 have Gorder:=mkDef (ok_order (P:=l.prog) (w:=w) (base:=base) F_order_of B mR TR hR) b_order_of m_order_of k_order_of
 have Gin:=mkDef (ok_in F_in_order B Bsorted Gorder) b_in_order m_in_order k_in_order
 have Gis:=mkDef (ok_is (P:=l.prog) (w:=w) (base:=base) F_is_of B) b_is_of m_is_of k_is_of
 have Gparts:=mkDef (ok_parts F_parts_for B Gis) b_parts_for m_parts_for k_parts_for
 have CN:Callee l.prog w K mg base CX0 1 f_number_itself spId:=⟨⟨_,_,ok_id F_number_itself,b_number_itself⟩,k_number_itself⟩
 have CW:Callee l.prog w K mg base CX0 5 f_joined spJoin:=⟨⟨_,_,ok_join F_joined B mK mT TK TT hK Gparts Gin,b_joined⟩,k_joined⟩
 have Gcome:=mkDef (ok_come F_come_of B CN CW) b_come_of m_come_of k_come_of
 have Gsteps:=mkDef (ok_steps_of (P:=l.prog) (w:=w) (base:=base) F_steps_of B) b_steps_of m_steps_of k_steps_of
 have Gformof:=mkDef (ok_form_of F_form_of B m_number_itself m_joined Gcome Gsteps) b_form_of m_form_of k_form_of
 have Gtwins:=mkDef (ok_twins F_are_twins B Gorder Gformof) b_are_twins m_are_twins k_are_twins
 have CNy:Callee l.prog w K mg base CX0 1 f_number_itself Wy.spId:=⟨⟨_,_,Wy.ok_id F_number_itself,b_number_itself⟩,k_number_itself⟩
 have CWy:Callee l.prog w K mg base CX0 1 f_way_with Wy.spMk:=⟨⟨_,_,Wy.ok_mk F_way_with,b_way_with⟩,k_way_with⟩
 have GcomeY:=mkDef (Wy.ok_come F_come_of B CNy CWy) b_come_of m_come_of k_come_of
 have Gunf:=mkDef (Wy.ok_unf (P:=l.prog) (w:=w) (base:=base) F_unfolded B mPU mTA TPU TTA hP hT) b_unfolded m_unfolded k_unfolded
 have Gsf:=mkDef (Wy.ok_sf F_steps_of_form B Gunf) b_steps_of_form m_steps_of_form k_steps_of_form
 have Gwayof:=mkDef (Wy.ok_way_of F_way_of B m_number_itself m_way_with GcomeY Gsf) b_way_of m_way_of k_way_of
 have CNx:Callee l.prog w K mg base (CXF l.prog w) 3 f_number_itself Xc.spIdX:=⟨⟨_,_,Xc.okX_id F_number_itself,b_number_itself⟩,k_number_itself⟩
 have CWx:Callee l.prog w K mg base (CXF l.prog w) 5 f_worth_by (Xc.spWBX C_NoWay):=⟨⟨_,_,Xc.okX_wb F_worth_by B De,b_worth_by⟩,k_worth_by⟩
 have GcomeX:=mkDef (Xc.okX_come F_come_of B CNx CWx) b_come_of m_come_of k_come_of
 have Oworth:=Xc.okX_worth_of F_worth_of B m_number_itself m_worth_by Gsteps GcomeX
 have Gworthof:=mkDef Oworth b_worth_of m_worth_of k_worth_of
 have Gworthof0:=mkDef (ok_worth_hush Oworth) b_worth_of m_worth_of k_worth_of
 have Ggroup:=mkDef (ok_group (P:=l.prog) (w:=w) (base:=base) F_is_group B) b_is_group m_is_group k_is_group
 have Gisnum:=mkDef (ok_isnum (P:=l.prog) (w:=w) (base:=base) F_is_number B) b_is_number m_is_number k_is_number
 have Ginord:=mkDef (ok_inord F_is_in_order B Bsorted Gorder) b_is_in_order m_is_in_order k_is_in_order
 have Gkept:=mkDef (ok_kept F_is_kept B Bany Gis Ginord) b_is_kept m_is_kept k_is_kept
 have Ghas:=mkDef (ok_has F_has_worth R Gworthof) b_has_worth m_has_worth k_has_worth
 have Glet:=mkDef (ok_let F_form_let B Ball Ggroup Gisnum Gkept Gwayof Ghas) b_form_let m_form_let k_form_let
 have Gtake:=mkDef (ok_law_take (P:=l.prog) (w:=w) (base:=base) F_law_take B) b_law_take m_law_take k_law_take
 have Gnumber:=mkDef (ok_law_number F_law_number B Gtake) b_law_number m_law_number k_law_number
 have Gsize:=mkDef (ok_law_size F_law_size B Gtake) b_law_size m_law_size k_law_size
 have Gdeck:=mkDef (ok_law_deck (P:=l.prog) (w:=w) (base:=base) F_law_deck B) b_law_deck m_law_deck k_law_deck
 have Gby:=mkDef (ok_law_by (P:=l.prog) (w:=w) (base:=base) F_law_by B) b_law_by m_law_by k_law_by
 have Gworth:=mkDef (ok_law_worth F_law_worth b_law_worth m_law_worth B Gby 10) b_law_worth m_law_worth k_law_worth
 have Ogood:=ok_law_good F_law_good_way b_law_good_way m_law_good_way B Gtake Gnumber Gby Gworth 8
 have Ggood:Def l.prog w K mg base CX0 _ "_law_good_way" (spGood 8):=mkDef Ogood b_law_good_way m_law_good_way k_law_good_way
 have Gdeeds:=mkDef (ok_deeds_of F_deeds_of B Gsteps) b_deeds_of m_deeds_of k_deeds_of
 have Gnumbers:=mkDef (ok_numbers_of F_numbers_of B Gsteps) b_numbers_of m_numbers_of k_numbers_of
 have Gnums:=mkDef (ok_nm (P:=l.prog) (w:=w) (base:=base) F_law_numbers b_law_numbers m_law_numbers B 20) b_law_numbers m_law_numbers k_law_numbers
 have Gright:=mkDef (ok_right F_law_right B Bsorted Gformof Gtwins Glet Gwayof Gworthof0 Gdeeds Gnumbers Gnums) b_law_right m_law_right k_law_right
 exact ok_law F_law B Gdeck Gsize Ggood Gright Gformof
theorem walk {l:PySem.W.OpenLaw} {q:Program} {loose:List Str} {XP:(Str→Option Value)→Heap→Prop} {YP:World→Heap→Prop} {d:DefRec} {K:Params→PySem.W.Frag} (hn:l.most=some 63) (hdf:d.params.defaults=[])
  (hY:∀ (w:World) (h:Heap),YP w h→(K w.params).In h)
  (F:∀ (w:World) (mg:Str→Option Value) (fa:Addr) (h:Heap),(K w.params).In h→h.Ns mainGlobals mg→mg d.name=some (.ref fa) →
   ∃ fd:FuncData,(∀ (s:Shared) (u:Value),BindsTo s fd ⟨[u],[]⟩ [("script",u)])∧∀ base:Heap,(K w.params).In base→base.Ns mainGlobals mg→FnOk l.prog w (K w.params) mg base CX0 30 fa fd ["script"] (spLaw (K w.params))) :
  PySem.W.WalkO q loose XP YP l.row.toRowW d [] (fun f vs=>PySem.call f vs) :=
 L2.walk_of (n:=63) (k:=30) (x:="script") (CX:=fun _=>CX0) (sp:=fun w=>spLaw (K w.params)) hn (by decide) hdf ⟨rfl,by decide,by decide⟩ hY F (fun _ _ a ns hl _ hS=>⟨a,ns,rfl,hS,hl,fun _=>rfl⟩) fun _ _ _ _ _ z=>z
end Law
open PySem PySem.W PyProof.Rows
namespace PySem.W.Fast
def tw17523599455611217494:Unit:=()
def tw770830901476999328:Unit:=()
def tw8131983223505606356:Unit:=()
def tw5453667737358461618:Unit:=()
def tw8627309343774573189:Unit:=()
def tw16754166344357043595:Unit:=()
def tw10107603642585426404:Unit:=()
def tw15075355791214105163:Unit:=()
def tw13208744556853242559:Unit:=()
def tw1474079208785978294:Unit:=()
def tw1836906359634699842:Unit:=()
def tw1072100780731836217:Unit:=()
def tw15362735968538395694:Unit:=()
def tw1059822149371764387:Unit:=()
def tw8965939643535457403:Unit:=()
def tw18161173867746127607:Unit:=()
def tw2479646558147385436:Unit:=()
def tw4444485234768951947:Unit:=()
def tw14354125500165070733:Unit:=()
def tw10564678468210736383:Unit:=()
def tw6362075025121690810:Unit:=()
def tw16159016456725110646:Unit:=()
def tw3168682906181321599:Unit:=()
def tw9516607250000669148:Unit:=()
def tw7445806303669902646:Unit:=()
def tw4989072784751567368:Unit:=()
def tw2634861900450055033:Unit:=()
def tw5554028552901326762:Unit:=()
def tw5215624943146036912:Unit:=()
def tw11370397631386048060:Unit:=()
def tw1190602423965291929:Unit:=()
def tw8008759898782579930:Unit:=()
def tw3461457225221581083:Unit:=()
def tw3522643543482941460:Unit:=()
def tw2841988510322656042:Unit:=()
def tw15337050572330481364:Unit:=()
def tw5393737191056472173:Unit:=()
def tw14869252474182243096:Unit:=()
def tw2004302281958009217:Unit:=()
def tw5521945674456816212:Unit:=()
def tw10048731040505867969:Unit:=()
def tw2514909989343998342:Unit:=()
def tw7926570235061712474:Unit:=()
def tw11247479870256041310:Unit:=()
def tw6323333704926207359:Unit:=()
def tw3561576330145285958:Unit:=()
def tw11597612163230423614:Unit:=()
def tw15671700472158403947:Unit:=()
def tw4448425544815202269:Unit:=()
def tw13558108979580573663:Unit:=()
def tw6865375159115903125:Unit:=()
def tw11230978325053249688:Unit:=()
def tw10510068473516711125:Unit:=()
def tw17593258292966253599:Unit:=()
def tw16187315924611468221:Unit:=()
def tw1835365288984232728:Unit:=()
def tw12011057284825749856:Unit:=()
def tw8724618658118888947:Unit:=()
def tw5977128314358260499:Unit:=()
def tw18112183725440023949:Unit:=()
def tw11136843797161396319:Unit:=()
def tw18296217429571758801:Unit:=()
def tw6658395971100676181:Unit:=()
def tw17648418860774298806:Unit:=()
def tw15358241465665030037:Unit:=()
def tw10471039020445677195:Unit:=()
def tw5113372284219329266:Unit:=()
def tw16888796199090672160:Unit:=()
def tw11789576166098831205:Unit:=()
def tw5131488474733343929:Unit:=()
def tw1340301803196872247:Unit:=()
def tw1616715416967607948:Unit:=()
def tw14946932186178702475:Unit:=()
def tw7282555712364198558:Unit:=()
def tw1874977312452317754:Unit:=()
def tw15948114096931329383:Unit:=()
def tw8693865888105219401:Unit:=()
def tw13865657635944746783:Unit:=()
def tw16487973455700662630:Unit:=()
def tw11283471091155852887:Unit:=()
def tw8137019672563884511:Unit:=()
def tw16499759441813881339:Unit:=()
def tw5171963455389433874:Unit:=()
def tw15794303617635739876:Unit:=()
def tw8047620475195924564:Unit:=()
def tw9036987118099840657:Unit:=()
def tw14777375418395031754:Unit:=()
def tw2974833174825392954:Unit:=()
def tw18337421703401098814:Unit:=()
def tw13370193073126770953:Unit:=()
def tw8804435954977620765:Unit:=()
def tw9510344291920398786:Unit:=()
def tw14507310260586447548:Unit:=()
def tw16752538111045190209:Unit:=()
def tw16532813650322386278:Unit:=()
def tw3027220419490975925:Unit:=()
def tw15862968119976840797:Unit:=()
def tw9689055334698992662:Unit:=()
def tw17803709935774945303:Unit:=()
def tw9577729396087888416:Unit:=()
def tw3223014408149960900:Unit:=()
def tw18090787271945801646:Unit:=()
def tw735280159843076975:Unit:=()
def tw5871775230153260381:Unit:=()
def tw5244044854194535577:Unit:=()
def tw183967445997645654:Unit:=()
def tw6934593901888616732:Unit:=()
def tw12759742048889194566:Unit:=()
def tw945754368847103148:Unit:=()
def tw7941183028690819958:Unit:=()
def tw18036262484491900081:Unit:=()
def tw9861808701372110868:Unit:=()
def tw17085909242963300644:Unit:=()
def tw16687950460381891381:Unit:=()
def tw14917487122698355040:Unit:=()
def tw18331178337145688440:Unit:=()
def tw7877364361040999716:Unit:=()
def tw7593435565674340857:Unit:=()
def tw12695918797985815594:Unit:=()
def tw5614858619006931988:Unit:=()
def tw690168706600515721:Unit:=()
def tw1757937285324154138:Unit:=()
def tw12568872019430324500:Unit:=()
def tw9029499620342754842:Unit:=()
def tw16820176334819130298:Unit:=()
def tw624800476011461905:Unit:=()
def tw116893485010630284:Unit:=()
def tw9881402645405101520:Unit:=()
def tw3303909381386336125:Unit:=()
def tw16890545818845934648:Unit:=()
def tw212848988265212942:Unit:=()
def tw3525950609186859462:Unit:=()
def tw18368868826135885071:Unit:=()
def tw11858555131031972756:Unit:=()
def tw4765180693722170959:Unit:=()
def tw4278413098581424005:Unit:=()
def tw16987349155209388686:Unit:=()
def tw3211466684941875417:Unit:=()
def tw3331171119121630354:Unit:=()
def tw17924152692356676954:Unit:=()
def tw11054589552127733155:Unit:=()
def tw6851694929869648407:Unit:=()
def tw15833933078795361418:Unit:=()
def tw8480153350328060133:Unit:=()
def tw6431370212877824636:Unit:=()
def tw14934356370846650985:Unit:=()
def tw8749711273254997021:Unit:=()
def tw16318194028229681217:Unit:=()
def tw1276749836279581914:Unit:=()
def tw8014429459445142333:Unit:=()
def tw7289846097974373854:Unit:=()
def tw11569478951691118725:Unit:=()
def tw653615136754081750:Unit:=()
def tw9895642133708723459:Unit:=()
def tw4697456891040872607:Unit:=()
def tw15981857220964932778:Unit:=()
def tw5711489960236752285:Unit:=()
def tw12588214598355192524:Unit:=()
def tw5234387225955002443:Unit:=()
def tw8195290779874449346:Unit:=()
def tw282746694915121322:Unit:=()
def tw4295207820153281245:Unit:=()
def tw7097934992696789277:Unit:=()
def tw7264023458908589075:Unit:=()
def tw2185992428842671834:Unit:=()
def tw7962217740281202762:Unit:=()
def tw9154524720110001557:Unit:=()
def tw12904232187855843045:Unit:=()
def tw5633210804013263911:Unit:=()
def tw5939712500840702327:Unit:=()
def tw13130807636863079553:Unit:=()
def tw9313939797935165930:Unit:=()
def tw14059782412605230155:Unit:=()
def tw7392290539627421570:Unit:=()
def tw10997930538752578202:Unit:=()
def tw13269307014523957690:Unit:=()
end PySem.W.Fast
set_option maxRecDepth 100000 in
set_option maxHeartbeats 0 in
theorem PySem.Challenge.cw_ledtowish_k11_whole_forms_and_ways_holds : PySem.Challenge.rw_ledtowish_k11_whole_forms_and_ways.Holds := by
 w_on; o_law; k_head; (case hw=>w_witness2)
 k_fill
 refine Law.walk (l:=PySem.Challenge.rw_ledtowish_k11_whole_forms_and_ways) rfl rfl (fun w h Y=>PySem.W.kIn_of Y) ?F
 case F =>
  intro w mg fa h KX G hmg
  refine' Law.all_mk KX G hmg ?a_plus ?l_plus ?c_plus ?k_plus ?a_less ?l_less ?c_less ?k_less ?a_times ?l_times ?c_times ?k_times ?a_share ?l_share ?c_share ?k_share ?a_steps_of ?l_steps_of ?c_steps_of ?k_steps_of ?a_deeds_of ?l_deeds_of ?c_deeds_of ?k_deeds_of ?a_numbers_of ?l_numbers_of ?c_numbers_of ?k_numbers_of ?a_come_of ?l_come_of ?c_come_of ?k_come_of ?a_number_itself ?l_number_itself ?c_number_itself ?k_number_itself ?a_worth_by ?l_worth_by ?c_worth_by ?k_worth_by ?a_worth_of ?l_worth_of ?c_worth_of ?k_worth_of ?a_form_of ?l_form_of ?c_form_of ?k_form_of ?a_joined ?l_joined ?c_joined ?k_joined ?a_parts_for ?l_parts_for ?c_parts_for ?k_parts_for ?a_is_of ?l_is_of ?c_is_of ?k_is_of ?a_in_order ?l_in_order ?c_in_order ?k_in_order ?a_order_of ?l_order_of ?c_order_of ?k_order_of ?a_are_twins ?l_are_twins ?c_are_twins ?k_are_twins ?a_way_of ?l_way_of ?c_way_of ?k_way_of ?a_way_with ?l_way_with ?c_way_with ?k_way_with ?a_steps_of_form ?l_steps_of_form ?c_steps_of_form ?k_steps_of_form ?a_unfolded ?l_unfolded ?c_unfolded ?k_unfolded ?a_form_let ?l_form_let ?c_form_let ?k_form_let ?a_is_group ?l_is_group ?c_is_group ?k_is_group ?a_is_number ?l_is_number ?c_is_number ?k_is_number ?a_is_kept ?l_is_kept ?c_is_kept ?k_is_kept ?a_is_in_order ?l_is_in_order ?c_is_in_order ?k_is_in_order ?a_has_worth ?l_has_worth ?c_has_worth ?k_has_worth ?a_law_deck ?l_law_deck ?c_law_deck ?k_law_deck ?a_law_take ?l_law_take ?c_law_take ?k_law_take ?a_law_number ?l_law_number ?c_law_number ?k_law_number ?a_law_by ?l_law_by ?c_law_by ?k_law_by ?a_law_worth ?l_law_worth ?c_law_worth ?k_law_worth ?a_law_good_way ?l_law_good_way ?c_law_good_way ?k_law_good_way ?a_law_size ?l_law_size ?c_law_size ?k_law_size ?a_law_numbers ?l_law_numbers ?c_law_numbers ?k_law_numbers ?a_law_right ?l_law_right ?c_law_right ?k_law_right ?a_law ?l_law ?c_law ?k_law ?a_DEEDS ?l_DEEDS ?k_DEEDS ?e_DEEDS_plus ?e_DEEDS_less ?e_DEEDS_times ?e_DEEDS_share ?a_KINDS ?l_KINDS ?k_KINDS ?e_KINDS_plus ?e_KINDS_less ?e_KINDS_times ?e_KINDS_share ?a_RANKS ?l_RANKS ?k_RANKS ?e_RANKS_sum ?e_RANKS_product ?a_PUT ?l_PUT ?k_PUT ?e_PUT_sum ?e_PUT_product ?a_TAKEN ?l_TAKEN ?k_TAKEN ?e_TAKEN_sum ?e_TAKEN_product ?z_sorted ?z_all ?z_any ?a_TURNED ?l_TURNED ?a_WishError ?l_WishError ?t_WishError ?kp_WishError ?ga_WishError ?gh_WishError ?gc_WishError ?sa_WishError ?a_NoWay ?l_NoWay ?t_NoWay ?kp_NoWay ?ga_NoWay ?gh_NoWay ?gc_NoWay ?sa_NoWay ?i_NoWay ?y_init ?l_init ?cd_ok_init ?k_init ?w_NoWay ?z_len ?z_sum ?z_range ?z_isinstance ?z_int ?z_str ?z_bool ?z_tuple ?z_zip
  (case a_plus=>k_is)
  (case l_plus=>k_is)
  (case c_plus=>k_is)
  (case k_plus=>k_is)
  (case a_less=>k_is)
  (case l_less=>k_is)
  (case c_less=>k_is)
  (case k_less=>k_is)
  (case a_times=>k_is)
  (case l_times=>k_is)
  (case c_times=>k_is)
  (case k_times=>k_is)
  (case a_share=>k_is)
  (case l_share=>k_is)
  (case c_share=>k_is)
  (case k_share=>k_is)
  (case a_steps_of=>k_is)
  (case l_steps_of=>k_is)
  (case c_steps_of=>k_is)
  (case k_steps_of=>k_is)
  (case a_deeds_of=>k_is)
  (case l_deeds_of=>k_is)
  (case c_deeds_of=>k_is)
  (case k_deeds_of=>k_is)
  (case a_numbers_of=>k_is)
  (case l_numbers_of=>k_is)
  (case c_numbers_of=>k_is)
  (case k_numbers_of=>k_is)
  (case a_come_of=>k_is)
  (case l_come_of=>k_is)
  (case c_come_of=>k_is)
  (case k_come_of=>k_is)
  (case a_number_itself=>k_is)
  (case l_number_itself=>k_is)
  (case c_number_itself=>k_is)
  (case k_number_itself=>k_is)
  (case a_worth_by=>k_is)
  (case l_worth_by=>k_is)
  (case c_worth_by=>k_is)
  (case k_worth_by=>k_is)
  (case a_worth_of=>k_is)
  (case l_worth_of=>k_is)
  (case c_worth_of=>k_is)
  (case k_worth_of=>k_is)
  (case a_form_of=>k_is)
  (case l_form_of=>k_is)
  (case c_form_of=>k_is)
  (case k_form_of=>k_is)
  (case a_joined=>k_is)
  (case l_joined=>k_is)
  (case c_joined=>k_is)
  (case k_joined=>k_is)
  (case a_parts_for=>k_is)
  (case l_parts_for=>k_is)
  (case c_parts_for=>k_is)
  (case k_parts_for=>k_is)
  (case a_is_of=>k_is)
  (case l_is_of=>k_is)
  (case c_is_of=>k_is)
  (case k_is_of=>k_is)
  (case a_in_order=>k_is)
  (case l_in_order=>k_is)
  (case c_in_order=>k_is)
  (case k_in_order=>k_is)
  (case a_order_of=>k_is)
  (case l_order_of=>k_is)
  (case c_order_of=>k_is)
  (case k_order_of=>k_is)
  (case a_are_twins=>k_is)
  (case l_are_twins=>k_is)
  (case c_are_twins=>k_is)
  (case k_are_twins=>k_is)
  (case a_way_of=>k_is)
  (case l_way_of=>k_is)
  (case c_way_of=>k_is)
  (case k_way_of=>k_is)
  (case a_way_with=>k_is)
  (case l_way_with=>k_is)
  (case c_way_with=>k_is)
  (case k_way_with=>k_is)
  (case a_steps_of_form=>k_is)
  (case l_steps_of_form=>k_is)
  (case c_steps_of_form=>k_is)
  (case k_steps_of_form=>k_is)
  (case a_unfolded=>k_is)
  (case l_unfolded=>k_is)
  (case c_unfolded=>k_is)
  (case k_unfolded=>k_is)
  (case a_form_let=>k_is)
  (case l_form_let=>k_is)
  (case c_form_let=>k_is)
  (case k_form_let=>k_is)
  (case a_is_group=>k_is)
  (case l_is_group=>k_is)
  (case c_is_group=>k_is)
  (case k_is_group=>k_is)
  (case a_is_number=>k_is)
  (case l_is_number=>k_is)
  (case c_is_number=>k_is)
  (case k_is_number=>k_is)
  (case a_is_kept=>k_is)
  (case l_is_kept=>k_is)
  (case c_is_kept=>k_is)
  (case k_is_kept=>k_is)
  (case a_is_in_order=>k_is)
  (case l_is_in_order=>k_is)
  (case c_is_in_order=>k_is)
  (case k_is_in_order=>k_is)
  (case a_has_worth=>k_is)
  (case l_has_worth=>k_is)
  (case c_has_worth=>k_is)
  (case k_has_worth=>k_is)
  (case a_law_deck=>k_is)
  (case l_law_deck=>k_is)
  (case c_law_deck=>k_is)
  (case k_law_deck=>k_is)
  (case a_law_take=>k_is)
  (case l_law_take=>k_is)
  (case c_law_take=>k_is)
  (case k_law_take=>k_is)
  (case a_law_number=>k_is)
  (case l_law_number=>k_is)
  (case c_law_number=>k_is)
  (case k_law_number=>k_is)
  (case a_law_by=>k_is)
  (case l_law_by=>k_is)
  (case c_law_by=>k_is)
  (case k_law_by=>k_is)
  (case a_law_worth=>k_is)
  (case l_law_worth=>k_is)
  (case c_law_worth=>k_is)
  (case k_law_worth=>k_is)
  (case a_law_good_way=>k_is)
  (case l_law_good_way=>k_is)
  (case c_law_good_way=>k_is)
  (case k_law_good_way=>k_is)
  (case a_law_size=>k_is)
  (case l_law_size=>k_is)
  (case c_law_size=>k_is)
  (case k_law_size=>k_is)
  (case a_law_numbers=>k_is)
  (case l_law_numbers=>k_is)
  (case c_law_numbers=>k_is)
  (case k_law_numbers=>k_is)
  (case a_law_right=>k_is)
  (case l_law_right=>k_is)
  (case c_law_right=>k_is)
  (case k_law_right=>k_is)
  (case a_law=>k_is)
  (case l_law=>k_is)
  (case c_law=>k_is)
  (case k_law=>k_is)
  (case a_DEEDS=>k_is)
  (case l_DEEDS=>k_is)
  (case k_DEEDS=>k_keys)
  (case e_DEEDS_plus=>k_is)
  (case e_DEEDS_less=>k_is)
  (case e_DEEDS_times=>k_is)
  (case e_DEEDS_share=>k_is)
  (case a_KINDS=>k_is)
  (case l_KINDS=>k_is)
  (case k_KINDS=>k_keys)
  (case e_KINDS_plus=>k_is)
  (case e_KINDS_less=>k_is)
  (case e_KINDS_times=>k_is)
  (case e_KINDS_share=>k_is)
  (case a_RANKS=>k_is)
  (case l_RANKS=>k_is)
  (case k_RANKS=>k_keys)
  (case e_RANKS_sum=>k_is)
  (case e_RANKS_product=>k_is)
  (case a_PUT=>k_is)
  (case l_PUT=>k_is)
  (case k_PUT=>k_keys)
  (case e_PUT_sum=>k_is)
  (case e_PUT_product=>k_is)
  (case a_TAKEN=>k_is)
  (case l_TAKEN=>k_is)
  (case k_TAKEN=>k_keys)
  (case e_TAKEN_sum=>k_is)
  (case e_TAKEN_product=>k_is)
  (case z_sorted=>k_is)
  (case z_all=>k_is)
  (case z_any=>k_is)
  (case a_TURNED=>k_is)
  (case l_TURNED=>k_is)
  (case a_WishError=>k_is)
  (case l_WishError=>k_is)
  (case t_WishError=>kernel_rfl)
  (case kp_WishError=>k_is)
  (case ga_WishError=>k_is)
  (case gh_WishError=>k_is)
  (case gc_WishError=>k_is)
  (case sa_WishError=>k_is)
  (case a_NoWay=>k_is)
  (case l_NoWay=>k_is)
  (case t_NoWay=>kernel_rfl)
  (case kp_NoWay=>k_is)
  (case ga_NoWay=>k_is)
  (case gh_NoWay=>k_is)
  (case gc_NoWay=>k_is)
  (case sa_NoWay=>k_is)
  (case i_NoWay=>k_is)
  (case y_init=>k_is)
  (case l_init=>k_is)
  (case cd_ok_init=>k_is)
  (case k_init=>k_is)
  (case w_NoWay=>k_is)
  (case z_len=>k_is)
  (case z_sum=>k_is)
  (case z_range=>k_is)
  (case z_isinstance=>k_is)
  (case z_int=>k_is)
  (case z_str=>k_is)
  (case z_bool=>k_is)
  (case z_tuple=>k_is)
  (case z_zip=>k_is)
#print axioms PySem.Challenge.cw_ledtowish_k11_whole_forms_and_ways_holds
