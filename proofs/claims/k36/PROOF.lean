import PyProof.Rows.All
import Wide.All
import OpenK.AllK
import Wide.FinOn
import Lean
import PyProof.EqAt
import PyProof.EqKinds
import PyProof.TupleCall
import PyProof.NeKinds
import PyProof.ZipIter
import KE.KIntText
import PyProof.StrLawsIn
import PyProof.DictItems
import PyProof.Draws
import PyProof.EnumStmt
import PyProof.Rows.SortShellK
import PyProof.Rows.CallKwBuiltin
import PyProof.Rows.TupIn
import PyProof.NsDelKeeps
import PyProof.StrWalks
import PyProof.StrCalls6
import PyProof.MeetsStr3
import KE.KUnpack
import PyProof.CollectIter
import PyProof.Comp
import PyProof.Rows.StrNews2
import PyProof.Rows.StrSplitAre
import PyProof.StrLawsTight
import PyProof.Rows.StrCountLaw
import PyProof.StrLawsLines
import PySem.Challenge.RW_ledtowish_k36_desk_twins
set_option Elab.async false
set_option linter.all false
set_option maxRecDepth 100000
namespace L2
open PySem PySem.Spec PyProof.Rows
noncomputable abbrev Key:=Sum Int Str
noncomputable def keyIs:Key→Value→Bool
 | .inl k,v=>Value.isInt k v
 | .inr x,v=>Value.isStrOf x v
noncomputable def keyH (w:World):Key→Int
 | .inl k=>hashInt k
 | .inr x=>hashStr w x
theorem keyIs_shape:∀ {k:Key} {v:Value},keyIs k v=true→(∃ i t,k=Sum.inl i∧v=Value.int i t)∨(∃ x t,k=Sum.inr x∧v=Value.str x t)
 | .inl i,v,h=>by
  obtain ⟨t,e⟩:=Value.isInt_shape (k:=i) (v:=v) h
  exact .inl ⟨i,t,rfl,e⟩
 | .inr x,v,h=>by
  obtain ⟨t,e⟩:=Value.isStrOf_shape (x:=x) (v:=v) h
  exact .inr ⟨x,t,rfl,e⟩
theorem keyIs_int (i:Int) (t:Tok):keyIs (.inl i) (.int i t)=true:=by simp [keyIs,Value.isInt]
theorem keyIs_str (x:Str) (t:Tok):keyIs (.inr x) (.str x t)=true:=by simp [keyIs,Value.isStrOf]
theorem key_ll (a b:Int):decide ((Sum.inl a:Key)=Sum.inl b)=(a == b):=by
 by_cases e:a=b
 ·subst e; simp
 ·have h:¬ (Sum.inl a:Key)=Sum.inl b:=fun q=>e (Sum.inl.inj q)
  rw [decide_eq_false h]
  exact (beq_eq_false_iff_ne.mpr e).symm
theorem key_rr (a b:Str):decide ((Sum.inr a:Key)=Sum.inr b)=decide (a=b):=by
 by_cases e:a=b
 ·subst e; simp
 ·have h:¬ (Sum.inr a:Key)=Sum.inr b:=fun q=>e (Sum.inr.inj q)
  rw [decide_eq_false h,decide_eq_false e]
theorem key_lr (a:Int) (b:Str):decide ((Sum.inl a:Key)=Sum.inr b)=false:=decide_eq_false (fun q=>nomatch q)
theorem key_rl (a:Str) (b:Int):decide ((Sum.inr a:Key)=Sum.inl b)=false:=decide_eq_false (fun q=>nomatch q)
noncomputable def mixKind (prog:Program) (w:World):PySem.KeyKind prog w Key where
 is:=keyIs
 hash:=keyH w
 inj:=fun v a b ha hb=>by
  rcases keyIs_shape ha with ⟨i,t,rfl,rfl⟩ | ⟨x,t,rfl,rfl⟩
  ·rcases keyIs_shape hb with ⟨j,u,rfl,e⟩ | ⟨y,u,rfl,e⟩
   ·injection e with e1 _; rw [e1]
   ·exact nomatch e
  ·rcases keyIs_shape hb with ⟨j,u,rfl,e⟩ | ⟨y,u,rfl,e⟩
   ·exact nomatch e
   ·injection e with e1 _; rw [e1]
 byValue:=fun k v h=>by
  rcases keyIs_shape h with ⟨i,t,rfl,rfl⟩ | ⟨x,t,rfl,rfl⟩ <;> rfl
 pyHash:=fun hv h=>by
  rcases keyIs_shape hv with ⟨i,t,rfl,rfl⟩ | ⟨x,t,rfl,rfl⟩
  ·exact wpAny_pyHash_int h
  ·exact wpAny_pyHash_str h
 eqBool:=fun hu hv h=>by
  rcases keyIs_shape hu with ⟨i,t,rfl,rfl⟩ | ⟨x,t,rfl,rfl⟩
  ·rcases keyIs_shape hv with ⟨j,u,rfl,rfl⟩ | ⟨y,u,rfl,rfl⟩
   ·rw [key_ll] at h; exact wpAny_eqBool_int h
   ·rw [key_lr] at h; exact SeqAt.EqAt.int_str i t y u _ _ _ _ h
  ·rcases keyIs_shape hv with ⟨j,u,rfl,rfl⟩ | ⟨y,u,rfl,rfl⟩
   ·rw [key_rl] at h; exact SeqAt.EqAt.str_int x t j u _ _ _ _ h
   ·rw [key_rr] at h; exact wpAny_eqBool_str h
 «strs»:=fun k x t v h=>by
  rcases keyIs_shape h with ⟨i,u,rfl,e⟩ | ⟨y,u,rfl,e⟩
  ·exact nomatch e
  ·injection e with e1 _
   subst e1
   cases v <;> rfl
theorem mixKind_int (prog:Program) (w:World) (i:Int) (t:Tok):(mixKind prog w).is (.inl i) (.int i t)=true:=keyIs_int i t
theorem mixKind_str (prog:Program) (w:World) (x:Str) (t:Tok):(mixKind prog w).is (.inr x) (.str x t)=true:=keyIs_str x t
end L2
namespace L2
open PySem PySem.Spec PyProof.Rows
inductive V where
 | non | bl (b:Bool) | int (i:Int) | str (x:Str) | byt (b:Array UInt8) | flt (b:UInt64) | ref (a:Addr) | ty (n:String)
 deriving DecidableEq
noncomputable def RelV:V→Value→Prop
 | .non,u=>u=Value.none
 | .bl b,u=>u=Value.bool b
 | .int i,u=>∃ t,u=Value.int i t
 | .str x,u=>∃ t,u=Value.str x t
 | .byt b,u=>∃ t,u=Value.bytes b t
 | .flt b,u=>∃ t,u=Value.float b t
 | .ref a,u=>u=Value.ref a
 | .ty n,u=>u=Value.type n
noncomputable abbrev Vals:List V→List Value→Prop:=Paired RelV
theorem Vals.length {xs:List V} {us:List Value} (r:Vals xs us):xs.length=us.length:=Paired.length r
theorem Vals.get:∀ {xs:List V} {us:List Value} {i:Nat} {x:V},Vals xs us→xs[i]?=some x→∃ u,us[i]?=some u∧RelV x u
 | _,_,_,_,.nil,e=>by simp at e
 | _,_,0,_,.cons r _,e=>by simp at e; subst e; exact ⟨_,rfl,r⟩
 | _,_,i + 1,x,.cons _ t,e=>by
  obtain ⟨u,h1,h2⟩:=Vals.get (i:=i) (x:=x) t (by simpa using e)
  exact ⟨u,by simpa using h1,h2⟩
theorem Vals.append:∀ {xs ys:List V} {us ws:List Value},Vals xs us→Vals ys ws→Vals (xs++ys) (us++ws)
 | _,_,_,_,.nil,s=>s
 | _,_,_,_,.cons r t,s=>.cons r (Vals.append t s)
theorem Vals.take:∀ {xs:List V} {us:List Value} (n:Nat),Vals xs us→Vals (xs.take n) (us.take n)
 | _,_,0,_=>.nil
 | _,_,_ + 1,.nil=>.nil
 | _,_,n + 1,.cons r t=>.cons r (Vals.take n t)
theorem Vals.drop:∀ {xs:List V} {us:List Value} (n:Nat),Vals xs us→Vals (xs.drop n) (us.drop n)
 | _,_,0,r=>r
 | _,_,_ + 1,.nil=>.nil
 | _,_,n + 1,.cons _ t=>Vals.drop n t
noncomputable def RelO:Option V→Option Value→Prop
 | some v,some u=>RelV v u
 | none,none=>True
 | _,_=>False
noncomputable def KV {κ:Type}:List (κ×V)→List (κ×Value)→Prop:=Paired fun (p:κ×V) (q:κ×Value)=>p.1=q.1∧RelV p.2 q.2
noncomputable def kV:Key→V
 | .inl i=>.int i
 | .inr x=>.str x
inductive HO where
 | lst (xs:List V)
 | tup (xs:List V)
 | dK (kvs:List (Key×V)) | dT (kvs:List (List Key×V))
 | set (S:Int→Bool) (n:Nat)
 | ins (C dx:Addr) (fs:List (Str×V))
 | own (x:Addr)
 | xd (fs:List (Str×V))
 | met (f x:Addr)
 | rng (lo hi:Int)
 | frz (o:Obj) (u:HO)
 | tbl (ps:Array Value)
 | ext (φ:Heap→Prop)
noncomputable abbrev Hp:=Addr→Option HO
noncomputable def upd (H:Hp) (a:Addr) (o:HO):Hp:=fun b=>if b=a then some o else H b
theorem upd_same {H:Hp} {a:Addr} {o:HO}:upd H a o a=some o:=by unfold upd; rw [if_pos rfl]
theorem upd_ne {H:Hp} {a b:Addr} {o:HO} (h:b≠a):upd H a o b=H b:=by unfold upd; rw [if_neg h]
theorem ne_of_none {H:Hp} {a b:Addr} {o:HO} (h:H a=some o) (h':H b=none):a≠b:=by
 intro e; subst e; rw [h] at h'; cases h'
section
variable (P:Program) (w:World)
noncomputable def ObjOk (H:Hp) (h:Heap) (a:Addr):HO→Prop
 | .lst xs=>xs.length≤sizeLine∧∃ (its:List Value) (n:Nat),Vals xs its∧h.get? a=some { cls:=.type "list",data:=.seq its.toArray n }
 | .tup xs=>xs.length≤sizeLine∧∃ its:List Value,Vals xs its∧IsTup h a its.toArray
 | .dK kvs=>kvs.length≤sizeLine∧(a == sysModules)=false∧∃ vs,KV kvs vs∧h.DictOf (mixKind P w) a vs
 | .dT kvs=>kvs.length≤sizeLine∧(a == sysModules)=false∧∃ xs:List (List Key×Addr×Value),
   Paired (fun (p:List Key×V) (q:List Key×Addr×Value)=>p.1=q.1∧H q.2.1=some (.tup (p.1.map kV))∧RelV p.2 q.2.2) kvs xs ∧
   ∃ o es ep,h.get? a=some o∧o.ExactDict∧o.data=.dict es ep∧es.toList=xs.map (entryOfKey (tupleKind (mixKind P w)))∧(xs.map (·.1)).Nodup
 | .set S n=>h.SetOf (intKind P w) a S n
 | .ins C dx fs=>H dx=some (.own a)∧fs.length≤1000∧dx≠a∧h.get? a=some (PySem.W.instObj C dx) ∧
   ∃ mA,h.Ns1 dx mA∧(∀ f,RelO (fs.lookup f) (mA f))∧PySem.Within mA (fs.map (·.1))
 | .own _=>∃ o,h.get? a=some o
 | .xd fs=>∃ mA,h.Ns1 a mA∧∀ f,RelO (fs.lookup f) (mA f)
 | .rng lo hi=>∃ t u v,h.get? a=some { cls:=.type "range",data:=.fields #[.int lo t,.int hi u,.int 1 v] }
 | .frz o u=>h.get? a=some o∧ObjOk H h a u
 | .tbl ps=>h.get? a=some { cls:=.none,data:=.fields ps }
 | .met f x=>h.get? a=some (PySem.W.methodObj (.ref f) (.ref x))
 | .ext φ=>φ h∧(∃ o,h.get? a=some o)∧∀ h1 h2:Heap,φ h1→(∀ o,h1.get? a=some o→h2.get? a=some o)→φ h2
noncomputable def HOk (H:Hp) (h:Heap):Prop:=∀ a o,H a=some o→ObjOk P w H h a o
end
section
variable {P:Program} {w:World} {H H':Hp} {h h':Heap} {a:Addr} {o:HO}
theorem ObjOk.lt (x:ObjOk P w H h a o):a < h.objs.size:=by
 cases o with
 | lst xs=>obtain ⟨_,_,_,_,e⟩:=x; exact Heap.lt_size e
 | tup xs=>obtain ⟨_,_,_,p⟩:=x; exact p.lt
 | dK kvs=>obtain ⟨_,_,_,_,o,_,_,e,_⟩:=x; exact Heap.lt_size e
 | dT kvs=>obtain ⟨_,_,_,_,o,_,_,e,_⟩:=x; exact Heap.lt_size e
 | set S n=>obtain ⟨o,_,_,_,e,_⟩:=x; exact Heap.lt_size e
 | ins C dx fs=>obtain ⟨_,_,_,e,_⟩:=x; exact Heap.lt_size e
 | own y=>obtain ⟨_,e⟩:=x; exact Heap.lt_size e
 | xd fs=>obtain ⟨_,⟨_,_,_,e,_⟩,_⟩:=x; exact Heap.lt_size e
 | rng lo hi=>obtain ⟨_,_,_,e⟩:=x; exact Heap.lt_size e
 | frz ob u=>obtain ⟨e,_⟩:=x; exact Heap.lt_size e
 | tbl ps=>exact Heap.lt_size (show h.get? a=some _ from x)
 | met f y=>exact Heap.lt_size (show h.get? a=some _ from x)
 | ext φ=>obtain ⟨_,⟨_,e⟩,_⟩:=x; exact Heap.lt_size e
theorem Paired.mapP {α β:Type} {F G:α→β→Prop}:∀ {l₁:List α} {l₂:List β},Paired F l₁ l₂→(∀ a b,F a b→G a b)→Paired G l₁ l₂
 | _,_,.nil,_=>.nil
 | _,_,.cons r t,f=>.cons (f _ _ r) (Paired.mapP t f)
theorem ObjOk.stay (x:ObjOk P w H h a o) (k:∀ b u,(b=a∨H b=some (.own a))→h.get? b=some u→h'.get? b=some u)
  (ho:∀ b,H b=some (.own a)→H' b=some (.own a)) (ht:∀ b xs,H b=some (.tup xs)→H' b=some (.tup xs)):ObjOk P w H' h' a o:=by
 induction o with
 | lst xs=>obtain ⟨z,its,n,r,e⟩:=x; exact ⟨z,its,n,r,k _ _ (.inl rfl) e⟩
 | tup xs=>obtain ⟨z,its,r,ob,e,c⟩:=x; exact ⟨z,its,r,ob,k _ _ (.inl rfl) e,c⟩
 | dK kvs=>obtain ⟨z,y,vs,r,ob,es,ep,e,c⟩:=x; exact ⟨z,y,vs,r,ob,es,ep,k _ _ (.inl rfl) e,c⟩
 | dT kvs =>
  obtain ⟨z,y,xs,r,ob,es,ep,e,c⟩:=x
  exact ⟨z,y,xs,Paired.mapP r fun p q z=>⟨z.1,ht _ _ z.2.1,z.2.2⟩,ob,es,ep,k _ _ (.inl rfl) e,c⟩
 | set S n=>obtain ⟨ob,es,ep,t,e,c⟩:=x; exact ⟨ob,es,ep,t,k _ _ (.inl rfl) e,c⟩
 | ins C dx fs =>
  obtain ⟨d,z,ne,e,mA,⟨od,es,ep,e2,c⟩,r⟩:=x
  exact ⟨ho _ d,z,ne,k _ _ (.inl rfl) e,mA,⟨od,es,ep,k _ _ (.inr d) e2,c⟩,r⟩
 | own y=>obtain ⟨ob,e⟩:=x; exact ⟨ob,k _ _ (.inl rfl) e⟩
 | xd fs=>obtain ⟨mA,⟨od,es,ep,e,c⟩,r⟩:=x; exact ⟨mA,⟨od,es,ep,k _ _ (.inl rfl) e,c⟩,r⟩
 | rng lo hi=>obtain ⟨t,u,v,e⟩:=x; exact ⟨t,u,v,k _ _ (.inl rfl) e⟩
 | frz ob u ih=>obtain ⟨e,q⟩:=x; exact ⟨k _ _ (.inl rfl) e,ih q⟩
 | tbl ps =>
  have e:h.get? a=some { cls:=.none,data:=.fields ps }:=x
  show h'.get? a=some { cls:=.none,data:=.fields ps }
  exact k a _ (.inl rfl) e
 | met f y =>
  have e:h.get? a=some (PySem.W.methodObj (.ref f) (.ref y)):=x
  show h'.get? a=some (PySem.W.methodObj (.ref f) (.ref y))
  exact k a _ (.inl rfl) e
 | ext φ=>obtain ⟨p,⟨o,e⟩,st⟩:=x; exact ⟨st _ _ p fun o q=>k _ _ (.inl rfl) q,⟨o,k _ _ (.inl rfl) e⟩,st⟩
theorem HOk.lt (x:HOk P w H h) (e:H a=some o):a < h.objs.size:=(x a o e).lt
theorem HOk.fresh (x:HOk P w H h) (e:h.objs.size≤a):H a=none:=by
 cases q:H a with
 | none=>rfl
 | some u=>exact absurd (Nat.lt_of_lt_of_le (x.lt q) e) (Nat.lt_irrefl _)
theorem HOk.kept (x:HOk P w H h) (k:∀ b u,h.get? b=some u→h'.get? b=some u):HOk P w H h':=fun a o e =>
 (x a o e).stay (fun b u _ q=>k b u q) (fun _ q=>q) fun _ _ q=>q
theorem HOk.laid (x:HOk P w H h) (k:∀ b u,h.get? b=some u→h'.get? b=some u) (hp:h.objs.size≤a) (new:ObjOk P w (upd H a o) h' a o):HOk P w (upd H a o) h':=fun b u e=>by
 have hn:=x.fresh hp
 by_cases hb:b=a
 ·subst hb; rw [upd_same] at e; cases e; exact new
 ·rw [upd_ne hb] at e
  exact (x b u e).stay (fun c v _ q=>k c v q) (fun c q=>by rw [upd_ne (ne_of_none q hn)]; exact q) fun c xs q=>by rw [upd_ne (ne_of_none q hn)]; exact q
end
noncomputable def Rd (H:Hp) (a:Addr) (u:HO):Prop:=H a=some u∨∃ o,H a=some (.frz o u)
theorem Rd.ok {P:Program} {w:World} {H:Hp} {h:Heap} {a:Addr} {u:HO} (r:Rd H a u) (x:HOk P w H h):ObjOk P w H h a u:=by
 rcases r with r | ⟨o,r⟩
 ·exact x a u r
 ·obtain ⟨_,q⟩:=x a _ r
  exact q
noncomputable def Mut:Option HO→Prop
 | some (.lst _)=>True
 | some (.dK _)=>True
 | some (.dT _)=>True
 | some (.set _ _)=>True
 | some (.ins _ _ _)=>True
 | some (.ext _)=>True
 | _=>False
section
variable {P:Program} {w:World} {H:Hp} {h h':Heap} {x e:Addr} {o':HO}
theorem HOk.write (ok:HOk P w H h) (mu:Mut (H x)) (he:e=x∨H e=some (.own x)) (k:∀ b u,b≠e→h.get? b=some u→h'.get? b=some u) (heo:∃ u,h'.get? e=some u)
  (new:ObjOk P w (upd H x o') h' x o'):HOk P w (upd H x o') h':=fun b u q=>by
 have nown:∀ c y,H c=some (.own y)→c≠x:=fun c y r z=>by subst z; rw [r] at mu; exact mu
 have ntup:∀ c xs,H c=some (.tup xs)→c≠x:=fun c xs r z=>by subst z; rw [r] at mu; exact mu
 by_cases hb:b=x
 ·subst hb; rw [upd_same] at q; cases q; exact new
 ·rw [upd_ne hb] at q
  by_cases hbe:b=e
  ·have q':H b=some (.own x):=by
    rcases he with z | z
    ·exact absurd (hbe.trans z) hb
    ·rw [hbe]; exact z
   rw [q] at q'; cases q'
   obtain ⟨v,hv⟩:=heo
   exact ⟨v,by rw [hbe]; exact hv⟩
  ·refine (ok b u q).stay (fun c v hc r=>k c v ?_ r) (fun c r=>by rw [upd_ne (nown c b r)]; exact r) fun c xs r=>by rw [upd_ne (ntup c xs r)]; exact r
   rcases hc with rfl | hc
   ·exact hbe
   ·rintro rfl
    rcases he with z | z
    ·exact nown c b hc z
    ·rw [hc] at z; cases z; exact hb rfl
end
structure Un (fs ex:List Addr) (H H':Hp) (h h':Heap):Prop where
 keep:∀ b o,h.get? b=some o→H b=none→b ∉ fs→b ∉ ex→h'.get? b=some o
 slot:∀ b o,h.get? b=some o→H b=none→b∈fs→b ∉ ex→∃ sl,h'.get? b=some { o with slots:=sl }
 free:∀ b o,h.get? b=some o→H b=none→b ∉ ex→H' b=none
 there:∀ b o,h.get? b=some o→b ∉ ex→∃ o',h'.get? b=some o'
 tups:∀ b xs,H b=some (.tup xs)→H' b=some (.tup xs)
 frzs:∀ b o u,H b=some (.frz o u)→H' b=some (.frz o u)
 tbls:∀ b ps,H b=some (.tbl ps)→∃ more,H' b=some (.tbl (ps++more))
section
variable {fs fs' ex ex':List Addr} {H H1 H2:Hp} {h h1 h2 h':Heap} {a x e:Addr} {o:HO}
theorem Un.any (u:Un fs ex H H1 h h1) {b:Addr} {ob:Obj} (q:h.get? b=some ob) (n:H b=none) (hx:b ∉ ex):∃ sl,h1.get? b=some { ob with slots:=sl }:=by
 by_cases hb:b∈fs
 ·exact u.slot b ob q n hb hx
 ·exact ⟨ob.slots,u.keep b ob q n hb hx⟩
theorem Un.kept (k:∀ b u,h.get? b=some u→h'.get? b=some u):Un fs ex H H h h' :=
 ⟨fun b ob q _ _ _=>k b ob q,fun b ob q _ _ _=>⟨ob.slots,k b ob q⟩,fun _ _ _ n _=>n,fun b ob q _=>⟨ob,k b ob q⟩,fun _ _ q=>q,fun _ _ _ q=>q,fun _ ps q=>⟨#[],by rw [q]; simp⟩⟩
theorem Un.refl:Un fs ex H H h h:=Un.kept fun _ _ q=>q
theorem Un.laid (k:∀ b u,h.get? b=some u→h'.get? b=some u) (hp:h.objs.size≤a) (hn:H a=none):Un fs ex H (upd H a o) h h' where
 keep:=fun b u q _ _ _=>k b u q
 slot:=fun b u q _ _ _=>⟨u.slots,k b u q⟩
 free:=fun b u q n _=>by rw [upd_ne (Nat.ne_of_lt (Nat.lt_of_lt_of_le (Heap.lt_size q) hp))]; exact n
 there:=fun b u q _=>⟨u,k b u q⟩
 tups:=fun b xs q=>by rw [upd_ne (ne_of_none q hn)]; exact q
 frzs:=fun b u xs q=>by rw [upd_ne (ne_of_none q hn)]; exact q
 tbls:=fun b ps q=>⟨#[],by rw [upd_ne (ne_of_none q hn),q]; simp⟩
theorem Un.write (mu:Mut (H x)) (he:e=x∨H e=some (.own x)) (k:∀ b u,b≠e→h.get? b=some u→h'.get? b=some u) (heo:∃ u,h'.get? e=some u):Un fs ex H (upd H x o) h h':=by
 have hx:∀ b,H b=none→b≠x:=fun b n z=>by subst z; rw [n] at mu; exact mu
 have hb:∀ b,H b=none→b≠e:=fun b n z=>by
  subst z
  rcases he with r | r
  ·exact hx b n r
  ·rw [n] at r; cases r
 have hm:∀ b u,H b=some u→¬ Mut (some u)→b≠x:=fun b u q nm z=>by subst z; rw [q] at mu; exact nm mu
 refine ⟨fun b u q n _ _=>k b u (hb b n) q,fun b u q n _ _=>⟨u.slots,k b u (hb b n) q⟩,fun b u q n _=>by rw [upd_ne (hx b n)]; exact n,fun b u q _=>?_,
  fun b xs q=>by rw [upd_ne (hm b _ q fun z=>z)]; exact q,fun b u xs q=>by rw [upd_ne (hm b _ q fun z=>z)]; exact q,fun b ps q=>⟨#[],by rw [upd_ne (hm b _ q fun z=>z),q]; simp⟩⟩
 by_cases hbe:b=e
 ·subst hbe; exact heo
 ·exact ⟨u,k b u hbe q⟩
end
noncomputable def trk (h:Heap) (H:Hp):List Addr:=(List.range h.objs.size).filter fun a=>(H a).isSome
noncomputable def hidT (h:Heap) (H:Hp):Heap:=PySem.W.hideAll h (trk h H)
theorem hidT_size (h:Heap) (H:Hp):(hidT h H).objs.size=h.objs.size:=PySem.W.hideAll_size _ _
theorem hidT_get {h:Heap} {H:Hp} {b:Addr} {o:Obj} (e:h.get? b=some o) (n:H b=none):(hidT h H).get? b=some o :=
 PySem.W.hideAll_get _ e fun hm=>by
  have q:(H b).isSome=true:=(List.mem_filter.mp hm).2
  rw [n] at q; simp at q
theorem of_hidT {h:Heap} {H:Hp} {b:Addr} {o:Obj} (e:(hidT h H).get? b=some o):h.get? b=some o∧H b=none:=by
 have e':h.get? b=some o:=PySem.W.of_hideAll (trk h H) e
 refine ⟨e',?_⟩
 cases q:H b with
 | none=>rfl
 | some x =>
  have hm:b∈trk h H:=List.mem_filter.mpr ⟨List.mem_range.mpr (Heap.lt_size e'),by simp [q]⟩
  have z:(hidT h H).get? b=none:=PySem.W.hideAll_none (trk h H) hm
  rw [z] at e; cases e
end L2
namespace L2
open PySem PySem.Spec PyProof.Rows
structure Mod (K:PySem.W.Frag) (mg:Str→Option Value) (base:Heap):Prop where
 kin:K.In base
 glob:base.Ns mainGlobals mg
 blt:∃ mb,base.Ns builtinsNs mb∧∀ x:Str,x≠"__name__"→mb x=bootBuiltins x
 nolimit:base.NoLimit
structure Cx where
 prog:Program
 w:World
 K:PySem.W.Frag
 mg:Str→Option Value
 base:Heap
 A:Around
 N:List Str
 s₀:Shared
 H₀:Hp
 env:Env
 outer:List Env
 stack:List Env
 ex:List Addr
 fn:Str→Bool
 calm:Bool
 pn:List (Addr×Obj)
 xe:Value→Shared→Prop
noncomputable def frs (l:List Env):List Addr:=l.filterMap (·.frame)
noncomputable abbrev Cx.fs (X:Cx):List Addr:=frs X.outer
noncomputable def Vis (sc:Scope) (x:Str):Prop:=sc.names.lookup x=some .local∨sc.names.lookup x=some .cell∨sc.names.lookup x=some .free
noncomputable def Loc (sc:Scope) (x:Str):Prop:=sc.names.lookup x=some .local∨sc.names.lookup x=some .cell
noncomputable def Look (env:Env) (h:Heap) (m:Str→Option Value) (x:Str) (u:Value):Prop :=
 (env.kindOf x=some .local∧m x=some u)∨((env.kindOf x=some .cell∨env.kindOf x=some .free)∧∃ c,env.cells.lookup x=some c∧h.IsCell c (some u))
structure Cx.Ok (X:Cx):Prop where
 mod:Mod X.K X.mg X.base
 kind:X.env.scope.kind=.function
 glob:X.env.globals=mainGlobals
 blt:X.env.builtins=builtinsNs
 above:X.s₀.heap.objs.size≤X.env.locals
 inj:∀ x y c,X.env.cells.lookup x=some c→X.env.cells.lookup y=some c→x=y
 has:∀ x,(X.env.kindOf x=some .cell∨X.env.kindOf x=some .free)→∃ c,X.env.cells.lookup x=some c
 cab:∀ x c,X.fn x=true→X.env.cells.lookup x=some c→X.s₀.heap.objs.size≤c
 hd:X.calm=true→X.A.handled=none
 frames:X.A.frames=some X.stack
 stk:X.stack=X.outer∨(X.stack=X.env :: X.outer∧X.env.frame=some X.env.locals)
 exf:∀ b∈X.ex,b≠X.env.locals∧∀ x c,X.env.cells.lookup x=some c→c≠b
 bs:∀ b o,X.base.get? b=some o→X.s₀.heap.get? b=some o∧X.H₀ b=none
 bsz:X.base.objs.size≤X.s₀.heap.objs.size
 noex:∀ b o,X.base.get? b=some o→b ∉ X.ex
 exfs:∀ b∈X.ex,b ∉ X.fs
 funs:X.s₀.heap.FunFrames X.base X.outer
 frf:∀ b∈X.fs,X.H₀ b=none
structure Inv (X:Cx) (pins:List (Addr×Obj)) (σ:List (Option V)) (H:Hp) (s:Shared):Prop where
 ok:X.Ok
 os:s.os=X.s₀.os
 bare:AllBare s.gens
 base:Un X.fs X.ex X.H₀ H X.s₀.heap s.heap
 loc:∃ m,s.heap.Ns X.env.locals m∧∀ (i:Nat) (x:Str) (v:V),X.N[i]?=some x→σ[i]?=some (some v)→Vis X.env.scope x→∃ u,RelV v u∧Look X.env s.heap m x u
 cell:∀ x c,X.env.cells.lookup x=some c→∃ v,s.heap.IsCell c v
 free:H X.env.locals=none
 freeC:∀ x c,X.env.cells.lookup x=some c→H c=none
 pin:∀ p∈X.pn++pins,s.heap.get? p.1=some p.2∧H p.1=none∧p.1≠X.env.locals∧p.1 ∉ X.fs∧∀ v,p.2.data≠.cell v
 hok:HOk X.prog X.w H s.heap
 len:σ.length=X.N.length
section
variable {X:Cx} {pins:List (Addr×Obj)} {σ:List (Option V)} {H H':Hp} {s:Shared} {h':Heap}
theorem Cx.Ok.nofr (ok:X.Ok) {b:Addr} {o:Obj} (e:X.base.get? b=some o):b ∉ X.fs:=fun hb=>by
 have:=(ok.funs.mem hb).1
 rw [e] at this; cases this
theorem Inv.bs (I:Inv X pins σ H s):∀ b o,X.base.get? b=some o→s.heap.get? b=some o∧H b=none:=fun b o e =>
 ⟨I.base.keep b o (I.ok.bs b o e).1 (I.ok.bs b o e).2 (I.ok.nofr e) (I.ok.noex b o e),I.base.free b o (I.ok.bs b o e).1 (I.ok.bs b o e).2 (I.ok.noex b o e)⟩
theorem Inv.bk (I:Inv X pins σ H s):∀ b o,X.base.get? b=some o→s.heap.get? b=some o:=fun b o e=>(I.bs b o e).1
theorem Inv.mod (I:Inv X pins σ H s):Mod X.K X.mg X.base:=I.ok.mod
theorem Inv.kIn (I:Inv X pins σ H s):X.K.In s.heap:=I.ok.mod.kin.keeps I.bk
theorem Inv.fr (I:Inv X pins σ H s):∃ m,Fr X.base X.env.locals s.heap m :=
 let ⟨m,hn,_⟩:=I.loc
 ⟨m,hn,I.bk,Nat.le_trans I.ok.bsz I.ok.above⟩
theorem Inv.lt (I:Inv X pins σ H s):X.env.locals < s.heap.objs.size:=let ⟨_,hn,_⟩:=I.loc; hn.lt
theorem Inv.sz (I:Inv X pins σ H s):X.s₀.heap.objs.size≤s.heap.objs.size:=Nat.le_trans I.ok.above (Nat.le_of_lt I.lt)
theorem Inv.nofs (I:Inv X pins σ H s) {a:Addr} (h:s.heap.objs.size≤a):a ∉ X.fs:=fun hb=>by
 obtain ⟨_,o,ho,_⟩:=I.ok.funs.mem hb
 exact absurd (Nat.lt_of_lt_of_le (Heap.lt_size ho) (Nat.le_trans I.sz h)) (Nat.lt_irrefl _)
theorem Inv.cne (I:Inv X pins σ H s):∀ x c,X.env.cells.lookup x=some c→c≠X.env.locals:=fun x c e z=>by
 obtain ⟨v,o,ho,hd⟩:=I.cell x c e
 obtain ⟨m,⟨o',es,ep,ho',hd',_⟩,_⟩:=I.loc
 rw [z,ho'] at ho; cases ho; rw [hd'] at hd; cases hd
theorem Inv.funs (I:Inv X pins σ H s):s.heap.FunFrames X.base X.outer:=by
 have all:∀ (l:List Env),(∀ b∈frs l,b∈X.fs)→X.s₀.heap.FunFrames X.base l→s.heap.FunFrames X.base l:=by
  intro l
  induction l with
  | nil=>intro _ _; trivial
  | cons env r ih =>
   intro hs hl
   obtain ⟨hk,⟨L,o,hf,hn,ho,hd⟩,hr⟩:=hl
   have hL:L∈X.fs:=hs L (by unfold frs; rw [List.filterMap_cons,hf]; exact List.mem_cons_self)
   obtain ⟨sl,e⟩:=I.base.slot L o ho (I.ok.frf L hL) hL fun z=>I.ok.exfs L z hL
   exact ⟨hk,⟨L,_,hf,hn,e,hd⟩,ih (fun b hb=>hs b (by unfold frs; rw [List.filterMap_cons,hf]; exact List.mem_cons_of_mem _ hb)) hr⟩
 exact all X.outer (fun _ hb=>hb) I.ok.funs
theorem Inv.stack (I:Inv X pins σ H s):s.heap.FunFrames X.base X.stack:=by
 rcases I.ok.stk with e | ⟨e,hf⟩
 ·rw [e]; exact I.funs
 ·rw [e]
  obtain ⟨m,hn,_⟩:=I.loc
  refine .cons (by rw [I.ok.kind]; decide) hf hn ?_ I.funs
  exact Heap.get?_none_of_le (Nat.le_trans I.ok.bsz I.ok.above)
theorem Inv.stkSub (I:Inv X pins σ H s):∀ b∈frs X.stack,b∈X.env.locals :: X.fs:=fun b hb=>by
 rcases I.ok.stk with e | ⟨e,hf⟩
 ·rw [e] at hb; exact List.mem_cons_of_mem _ hb
 ·rw [e] at hb
  unfold frs at hb
  rw [List.filterMap_cons,hf] at hb
  exact hb
theorem Inv.stkFree (I:Inv X pins σ H s):∀ b∈frs X.stack,H b=none:=fun b hb=>by
 rcases List.mem_cons.mp (I.stkSub b hb) with e | hb
 ·rw [e]; exact I.free
 ·obtain ⟨_,o,ho,_⟩:=I.ok.funs.mem hb
  exact I.base.free b o ho (I.ok.frf b hb) fun z=>I.ok.exfs b z hb
theorem Inv.step {g':Array GenState} {t':Nat} {d':Drawn} {ch:List Addr} (I:Inv X pins σ H s)
  (hch:∀ b∈ch,(b∈X.ex∨X.s₀.heap.objs.size≤b)∧b≠X.env.locals∧(∀ x c,X.env.cells.lookup x=some c→c≠b)∧∀ p∈X.pn++pins,p.1≠b)
  (keep:∀ b o,b≠X.env.locals→b ∉ X.fs→b ∉ ch→s.heap.get? b=some o→H b=none→h'.get? b=some o)
  (slot:∀ b o,b≠X.env.locals→b∈X.fs→b ∉ ch→s.heap.get? b=some o→H b=none→∃ sl,h'.get? b=some { o with slots:=sl }) (free:∀ b o,b ∉ ch→s.heap.get? b=some o→H b=none→H' b=none)
  (there:∀ b o,b ∉ ch→s.heap.get? b=some o→∃ o',h'.get? b=some o')
  (tups:∀ b xs,H b=some (.tup xs)→H' b=some (.tup xs)) (frzs:∀ b o u,H b=some (.frz o u)→H' b=some (.frz o u)) (tbls:∀ b ps,H b=some (.tbl ps)→∃ more,H' b=some (.tbl (ps++more)))
  (ns:∀ m,s.heap.Ns X.env.locals m→h'.Ns X.env.locals m) (hok:HOk X.prog X.w H' h') (hg:AllBare g') :
  Inv X pins σ H' { s with heap:=h',gens:=g',drawn:=d',toks:=t' }:=by
 have neL:∀ b o,X.s₀.heap.get? b=some o→b≠X.env.locals:=fun b o e=>Nat.ne_of_lt (Nat.lt_of_lt_of_le (Heap.lt_size e) I.ok.above)
 have neC:∀ b o,X.s₀.heap.get? b=some o→b ∉ X.ex→b ∉ ch:=fun b o e hx hb=>by
  rcases (hch b hb).1 with z | z
  ·exact hx z
  ·exact absurd (Nat.lt_of_lt_of_le (Heap.lt_size e) z) (Nat.lt_irrefl _)
 have cellK:∀ x c,X.env.cells.lookup x=some c→∀ v,s.heap.IsCell c v→h'.IsCell c v:=fun x c e v ⟨o,ho,hd⟩=>by
  have nch:c ∉ ch:=fun z=>(hch c z).2.2.1 x c e rfl
  by_cases hc:c∈X.fs
  ·obtain ⟨sl,q⟩:=slot c o (I.cne x c e) hc nch ho (I.freeC x c e)
   exact ⟨_,q,hd⟩
  ·exact ⟨o,keep c o (I.cne x c e) hc nch ho (I.freeC x c e),hd⟩
 refine ⟨I.ok,I.os,hg,⟨fun b o e n hb hx=>?_,fun b o e n hb hx=>?_,fun b o e n hx=>?_,fun b o e hx=>?_,fun b xs e=>tups b xs (I.base.tups b xs e),fun b o xs e=>frzs b o xs (I.base.frzs b o xs e),fun b ps e=>?_⟩,?_,fun x c e=>?_,?_,fun x c e=>?_,fun p hp=>?_,hok,I.len⟩
 ·exact keep b o (neL b o e) hb (neC b o e hx) (I.base.keep b o e n hb hx) (I.base.free b o e n hx)
 ·obtain ⟨sl,e1⟩:=I.base.slot b o e n hb hx
  obtain ⟨sl',e2⟩:=slot b _ (neL b o e) hb (neC b o e hx) e1 (I.base.free b o e n hx)
  exact ⟨sl',e2⟩
 ·obtain ⟨o',e1⟩:=I.base.there b o e hx
  exact free b o' (neC b o e hx) e1 (I.base.free b o e n hx)
 ·obtain ⟨o',e1⟩:=I.base.there b o e hx
  exact there b o' (neC b o e hx) e1
 ·obtain ⟨m1,e1⟩:=I.base.tbls b ps e
  obtain ⟨m2,e2⟩:=tbls b _ e1
  exact ⟨m1++m2,by rw [e2,Array.append_assoc]⟩
 ·obtain ⟨m,hn,hl⟩:=I.loc
  refine ⟨m,ns m hn,fun i x v e1 e2 e3=>?_⟩
  obtain ⟨u,r,l⟩:=hl i x v e1 e2 e3
  refine ⟨u,r,?_⟩
  rcases l with l | ⟨k,c,e,z⟩
  ·exact .inl l
  ·exact .inr ⟨k,c,e,cellK x c e _ z⟩
 ·obtain ⟨v,z⟩:=I.cell x c e
  exact ⟨v,cellK x c e v z⟩
 ·obtain ⟨m,⟨o,_,_,ho,_⟩,_⟩:=I.loc
  exact free _ o (fun z=>(hch _ z).2.1 rfl) ho I.free
 ·obtain ⟨v,o,ho,hd⟩:=I.cell x c e
  exact free c o (fun z=>(hch c z).2.2.1 x c e rfl) ho (I.freeC x c e)
 ·obtain ⟨e,n,ne,nf,d⟩:=I.pin p hp
  have nch:p.1 ∉ ch:=fun z=>(hch p.1 z).2.2.2 p hp rfl
  exact ⟨keep p.1 p.2 ne nf nch e n,free p.1 p.2 nch e n,ne,nf,d⟩
theorem Inv.un {t':Nat} (I:Inv X pins σ H s) (u:Un X.fs [] H H' s.heap h') (hok:HOk X.prog X.w H' h'):Inv X pins σ H' { s with heap:=h',toks:=t' }:=by
 obtain ⟨m,⟨o,es,ep,ho,r⟩,_⟩:=id I.loc
 obtain ⟨sl,hL⟩:=u.any ho I.free (by simp)
 exact I.step (g':=s.gens) (d':=s.drawn) (ch:=[]) (fun _ z=>nomatch z) (fun b o _ hb _ e n=>u.keep b o e n hb (by simp)) (fun b o _ hb _ e n=>u.slot b o e n hb (by simp)) (fun b o _ e n=>u.free b o e n (by simp)) (fun b o _ e=>u.there b o e (by simp)) u.tups u.frzs u.tbls (fun m' hm=>by
  obtain ⟨o',es',ep',ho',r'⟩:=hm
  rw [ho] at ho'; cases ho'
  exact ⟨_,es',ep',hL,r'⟩) hok I.bare
theorem Inv.call {g':Array GenState} {t':Nat} {d':Drawn} {ch:List Addr} (I:Inv X pins σ H s) (u:Un (frs X.stack) ch H H' s.heap h') (hok:HOk X.prog X.w H' h') (hg:AllBare g')
  (hch:∀ b∈ch,(b∈X.ex∨X.s₀.heap.objs.size≤b)∧b≠X.env.locals∧(∀ x c,X.env.cells.lookup x=some c→c≠b)∧∀ p∈X.pn++pins,p.1≠b) :
  Inv X pins σ H' { s with heap:=h',gens:=g',drawn:=d',toks:=t' }:=by
 obtain ⟨m,⟨o,es,ep,ho,r⟩,_⟩:=id I.loc
 obtain ⟨sl,hL⟩:=u.any ho I.free fun z=>(hch _ z).2.1 rfl
 exact I.step (ch:=ch) hch (fun b o hL hb hc e n=>u.keep b o e n (fun z=>(List.mem_cons.mp (I.stkSub b z)).elim hL hb) hc) (fun b o _ _ hc e n=>u.any e n hc) (fun b o hc e n=>u.free b o e n hc) (fun b o hc e=>u.there b o e hc) u.tups u.frzs u.tbls (fun m' hm=>by
  obtain ⟨o',es',ep',ho',r'⟩:=hm
  rw [ho] at ho'; cases ho'
  exact ⟨_,es',ep',hL,r'⟩) hok hg
theorem Inv.turned {t':Nat} {it:Addr} (I:Inv X pins σ H s) (k:∀ b o,b≠it→s.heap.get? b=some o→h'.get? b=some o) (hn:H it=none) (hL:it≠X.env.locals)
  (h1:it∈X.ex∨X.s₀.heap.objs.size≤it) (h2:∀ x c,X.env.cells.lookup x=some c→c≠it) (h3:∀ p∈X.pn++pins,p.1≠it):Inv X pins σ H { s with heap:=h',toks:=t' }:=by
 have nit:∀ b u,H b=some u→b≠it:=fun b u e z=>by rw [z,hn] at e; cases e
 refine I.step (g':=s.gens) (d':=s.drawn) (ch:=[it]) (fun b hb=>?_) (fun b o _ _ hc e _=>k b o (fun z=>hc (by simp [z])) e) (fun b o _ _ hc e _=>⟨o.slots,k b o (fun z=>hc (by simp [z])) e⟩) (fun _ _ _ _ n=>n)
  (fun b o hc e=>⟨o,k b o (fun z=>hc (by simp [z])) e⟩) (fun _ _ e=>e) (fun _ _ _ e=>e) (fun b ps e=>⟨#[],by rw [e]; simp⟩) (fun m hm=>?_) (fun b u e=>?_) I.bare
 ·have e:b=it:=by simpa using hb
  subst e
  exact ⟨h1,hL,h2,h3⟩
 ·obtain ⟨o,es,ep,ho,r⟩:=hm
  exact ⟨o,es,ep,k _ o (Ne.symm hL) ho,r⟩
 ·refine (I.hok b u e).stay (fun c v hc q=>k c v ?_ q) (fun _ q=>q) fun _ _ q=>q
  rcases hc with z | z
  ·rw [z]; exact nit b u e
  ·exact nit c _ z
theorem Inv.tok (I:Inv X pins σ H s) (t:Nat):Inv X pins σ H { s with toks:=t }:=I.un (h':=s.heap) (t':=t) Un.refl I.hok
theorem Inv.kept {t':Nat} (I:Inv X pins σ H s) (k:∀ b u,s.heap.get? b=some u→h'.get? b=some u):Inv X pins σ H { s with heap:=h',toks:=t' }:=I.un (Un.kept k) (I.hok.kept k)
theorem Inv.laid {a:Addr} {o:HO} {t':Nat} (I:Inv X pins σ H s) (k:∀ b u,s.heap.get? b=some u→h'.get? b=some u) (hp:s.heap.objs.size≤a) (new:ObjOk X.prog X.w (upd H a o) h' a o) :
  Inv X pins σ (upd H a o) { s with heap:=h',toks:=t' }:=I.un (Un.laid k hp (I.hok.fresh hp)) (I.hok.laid k hp new)
theorem Inv.write {x e:Addr} {o:HO} {t':Nat} (I:Inv X pins σ H s) (mu:Mut (H x)) (he:e=x∨H e=some (.own x)) (k:∀ b u,b≠e→s.heap.get? b=some u→h'.get? b=some u) (heo:∃ u,h'.get? e=some u)
  (new:ObjOk X.prog X.w (upd H x o) h' x o):Inv X pins σ (upd H x o) { s with heap:=h',toks:=t' }:=I.un (Un.write mu he k heo) (I.hok.write mu he k heo new)
theorem Inv.pins_of {pins':List (Addr×Obj)} (I:Inv X pins σ H s) (h:∀ p∈pins',s.heap.get? p.1=some p.2∧H p.1=none∧p.1≠X.env.locals∧p.1 ∉ X.fs∧∀ v,p.2.data≠.cell v):Inv X pins' σ H s :=
 ⟨I.ok,I.os,I.bare,I.base,I.loc,I.cell,I.free,I.freeC,fun p hp=>(List.mem_append.mp hp).elim (fun z=>I.pin p (List.mem_append_left _ z)) (h p),I.hok,I.len⟩
theorem nodup_ix {N:List Str} (hN:N.Nodup) {i j:Nat} {x:Str} (a:N[i]?=some x) (b:N[j]?=some x):i=j:=by
 obtain ⟨h1,e1⟩:=List.getElem?_eq_some_iff.mp a
 obtain ⟨h2,e2⟩:=List.getElem?_eq_some_iff.mp b
 exact (List.getElem_inj hN).mp (e1.trans e2.symm)
theorem store_ok2 {M:Model} {A:Around} {E:Value→Shared→Prop} {i:Nat} {x:Str} {v:V} {u:Value} {Q:Unit→Shared→Prop} (I:Inv X pins σ H s) (hN:X.N.Nodup) (hi:X.N[i]?=some x) (hx:Loc X.env.scope x) (r:RelV v u)
  (h:∀ s',Inv X pins (σ.set i (some v)) H s'→(∃ a,Heap.SameBut a s.heap s'.heap∧(a=X.env.locals∨X.env.cells.lookup x=some a))→Q () s') (hf:X.fn x=true∨X.env.scope.names.lookup x=some .local:=by first | exact .inl rfl | exact .inr rfl | assumption):wpAny M A (storeName X.env x u) Q E s:=by
 obtain ⟨m,hn,hl⟩:=id I.loc
 have hcls:(X.env.scope.kind == .class || (X.env.scope.kind == .module && X.env.locals != X.env.globals))=false:=by rw [I.ok.kind]; rfl
 have hiσ:i < σ.length:=by rw [I.len]; exact (List.getElem?_eq_some_iff.mp hi).1
 have cne:=I.cne
 have tracked:∀ {a:Addr} {h':Heap},(∃ o,s.heap.get? a=some o∧H a=none)→Heap.SameBut a s.heap h'→HOk X.prog X.w H h':=fun {a h'} ha hs b ob e=>by
  obtain ⟨_,_,hfree⟩:=ha
  refine (I.hok b ob e).stay (fun c w' hc q=>(hs.2 c ?_).trans q) (fun _ q=>q) fun _ _ q=>q
  rintro rfl
  rcases hc with rfl | hc
  ·rw [hfree] at e; cases e
  ·rw [hfree] at hc; cases hc
 rcases hx with hk | hk
 ·refine wpAny_storeName_local hk hn (fun h' hn' hs=>?_) hcls
  obtain ⟨oL,_,_,hoL,_⟩:=id hn
  refine h _ ⟨I.ok,I.os,I.bare,⟨fun b o e n hb hx=>?_,fun b o e n hb hx=>?_,I.base.free,fun b o e hx=>?_,I.base.tups,I.base.frzs,I.base.tbls⟩,⟨_,hn',fun j y v' e1 e2 e3=>?_⟩,fun y c e=>?_,I.free,I.freeC,fun p hp=>?_,tracked ⟨oL,hoL,I.free⟩ hs,by simpa using I.len⟩ ⟨_,hs,.inl rfl⟩
  ·exact (hs.2 b (Nat.ne_of_lt (Nat.lt_of_lt_of_le (Heap.lt_size e) I.ok.above))).trans (I.base.keep b o e n hb hx)
  ·obtain ⟨sl,e1⟩:=I.base.slot b o e n hb hx
   exact ⟨sl,(hs.2 b (Nat.ne_of_lt (Nat.lt_of_lt_of_le (Heap.lt_size e) I.ok.above))).trans e1⟩
  ·obtain ⟨o',e1⟩:=I.base.there b o e hx
   exact ⟨o',(hs.2 b (Nat.ne_of_lt (Nat.lt_of_lt_of_le (Heap.lt_size e) I.ok.above))).trans e1⟩
  ·by_cases hj:j=i
   ·subst hj
    rw [hi] at e1; cases e1
    rw [List.getElem?_set_self hiσ] at e2
    cases e2
    exact ⟨u,r,.inl ⟨hk,by simp⟩⟩
   ·rw [List.getElem?_set_ne (Ne.symm hj)] at e2
    obtain ⟨u',r',q⟩:=hl j y v' e1 e2 e3
    refine ⟨u',r',?_⟩
    rcases q with ⟨k,e⟩ | ⟨k,c,e,z⟩
    ·refine .inl ⟨k,?_⟩
     have:y≠x:=fun e=>hj (nodup_ix hN e1 (e ▸ hi))
     simp [this,e]
    ·exact .inr ⟨k,c,e,z.sameBut hs (cne y c e)⟩
  ·obtain ⟨w',z⟩:=I.cell y c e
   exact ⟨w',z.sameBut hs (cne y c e)⟩
  ·obtain ⟨e,n,ne,nf,d⟩:=I.pin p hp
   exact ⟨(hs.2 p.1 ne).trans e,n,ne,nf,d⟩
 ·have hfn:X.fn x=true:=by
   rcases hf with z | z
   ·exact z
   ·rw [z] at hk; cases hk
  obtain ⟨c,hc⟩:=I.ok.has x (.inl hk)
  obtain ⟨w',z⟩:=I.cell x c hc
  refine wpAny_storeName_cell I.ok.kind hk hc z (fun h' hc' hs=>?_)
  obtain ⟨oc,hoc,hocd⟩:=id z
  refine h { s with heap:=h' } ⟨I.ok,I.os,I.bare,⟨fun b o e n hb hx=>?_,fun b o e n hb hx=>?_,I.base.free,fun b o e hx=>?_,I.base.tups,I.base.frzs,I.base.tbls⟩,⟨m,hn.sameBut hs (Ne.symm (cne x c hc)),fun j y v' e1 e2 e3=>?_⟩,fun y c' e=>?_,I.free,I.freeC,fun p hp=>?_,tracked ⟨oc,hoc,I.freeC x c hc⟩ hs,by simpa using I.len⟩ ⟨c,hs,.inr hc⟩
  ·exact (hs.2 b (Nat.ne_of_lt (Nat.lt_of_lt_of_le (Heap.lt_size e) (I.ok.cab x c hfn hc)))).trans (I.base.keep b o e n hb hx)
  ·obtain ⟨sl,e1⟩:=I.base.slot b o e n hb hx
   exact ⟨sl,(hs.2 b (Nat.ne_of_lt (Nat.lt_of_lt_of_le (Heap.lt_size e) (I.ok.cab x c hfn hc)))).trans e1⟩
  ·obtain ⟨o',e1⟩:=I.base.there b o e hx
   exact ⟨o',(hs.2 b (Nat.ne_of_lt (Nat.lt_of_lt_of_le (Heap.lt_size e) (I.ok.cab x c hfn hc)))).trans e1⟩
  ·by_cases hj:j=i
   ·subst hj
    rw [hi] at e1; cases e1
    rw [List.getElem?_set_self hiσ] at e2
    cases e2
    exact ⟨u,r,.inr ⟨.inl hk,c,hc,hc'⟩⟩
   ·rw [List.getElem?_set_ne (Ne.symm hj)] at e2
    obtain ⟨u',r',q⟩:=hl j y v' e1 e2 e3
    refine ⟨u',r',?_⟩
    rcases q with q | ⟨k,c',e,z'⟩
    ·exact .inl q
    ·refine .inr ⟨k,c',e,z'.sameBut hs ?_⟩
     rintro rfl
     exact hj (nodup_ix hN e1 (I.ok.inj _ _ _ e hc ▸ hi))
  ·by_cases hcc:c'=c
   ·subst hcc; exact ⟨_,hc'⟩
   ·obtain ⟨w2,z2⟩:=I.cell y c' e
    exact ⟨w2,z2.sameBut hs hcc⟩
  ·obtain ⟨e,n,ne,nf,d⟩:=I.pin p hp
   refine ⟨(hs.2 p.1 ?_).trans e,n,ne,nf,d⟩
   intro q
   rw [q,hoc] at e
   have q':oc=p.2:=Option.some.inj e
   exact d w' (by rw [← q']; exact hocd)
theorem store_ok {M:Model} {A:Around} {E:Value→Shared→Prop} {i:Nat} {x:Str} {v:V} {u:Value} {Q:Unit→Shared→Prop} (I:Inv X pins σ H s) (hN:X.N.Nodup) (hi:X.N[i]?=some x) (hx:Loc X.env.scope x) (r:RelV v u)
  (h:∀ s',Inv X pins (σ.set i (some v)) H s'→Q () s') (hf:X.fn x=true∨X.env.scope.names.lookup x=some .local:=by first | exact .inl rfl | exact .inr rfl | assumption):wpAny M A (storeName X.env x u) Q E s :=
 store_ok2 I hN hi hx r (fun s' I' _=>h s' I') hf
theorem Inv.call' {s':Shared} {ch:List Addr} (I:Inv X pins σ H s) (ho:s'.os=s.os) (u:Un (frs X.stack) ch H H' s.heap s'.heap) (hok:HOk X.prog X.w H' s'.heap) (hg:AllBare s'.gens)
  (hch:∀ b∈ch,(b∈X.ex∨X.s₀.heap.objs.size≤b)∧b≠X.env.locals∧(∀ x c,X.env.cells.lookup x=some c→c≠b)∧∀ p∈X.pn++pins,p.1≠b):Inv X pins σ H' s':=by
 obtain ⟨h',g',d',t',o'⟩:=s'
 have e:o'=s.os:=ho
 subst e
 exact I.call (g':=g') (t':=t') (d':=d') u hok hg hch
end
noncomputable abbrev XK:=Value→Option Addr→Hp→Prop
noncomputable abbrev St:=List (Option V)
noncomputable abbrev VK:=V→Hp→Prop
noncomputable abbrev TE:=St→Hp→VK→Prop
noncomputable abbrev TT:=St→Hp→(Bool→Hp→Prop)→Prop
noncomputable abbrev TA:=St→Hp→(List V→Hp→Prop)→Prop
structure Ends where
 nx:St→Hp→Prop
 rt:VK
 bk:St→Hp→Prop:=fun _ _=>False
 ct:St→Hp→Prop:=fun _ _=>False
noncomputable abbrev TS:=Ends→St→Hp→Prop
noncomputable def EP (X:Cx) (pins:List (Addr×Obj)) (σ:St) (Q:VK) (u:Value) (s':Shared):Prop:=∃ v H',Inv X pins σ H' s'∧RelV v u∧Q v H'
noncomputable def TP (X:Cx) (pins:List (Addr×Obj)) (σ:St) (Q:Bool→Hp→Prop) (b:Bool) (s':Shared):Prop:=∃ H',Inv X pins σ H' s'∧Q b H'
noncomputable def AP (X:Cx) (pins:List (Addr×Obj)) (σ:St) (Q:List V→Hp→Prop) (us:List Value) (s':Shared):Prop:=∃ vs H',Inv X pins σ H' s'∧Vals vs us∧Q vs H'
noncomputable def SP (X:Cx) (pins:List (Addr×Obj)) (D:Ends) (f:Flow) (s':Shared):Prop :=
 match f with
 | .next=>∃ σ' H',Inv X pins σ' H' s'∧D.nx σ' H'
 | .brk=>∃ σ' H',Inv X pins σ' H' s'∧D.bk σ' H'
 | .cont=>∃ σ' H',Inv X pins σ' H' s'∧D.ct σ' H'
 | .ret u=>∃ v σ' H',Inv X pins σ' H' s'∧RelV v u∧D.rt v H'
noncomputable def PE (X:Cx) (e:Expr) (t:TE):Prop :=
 ∀ (pins:List (Addr×Obj)) (s:Shared) (σ:St) (H:Hp) (Q:VK),Inv X pins σ H s→t σ H Q→wpAny (model X.prog X.w) X.A (eval e X.env) (EP X pins σ Q) X.xe s
noncomputable def PT (X:Cx) (e:Expr) (t:TT):Prop :=
 ∀ (pins:List (Addr×Obj)) (s:Shared) (σ:St) (H:Hp) (Q:Bool→Hp→Prop),Inv X pins σ H s→t σ H Q→wpAny (model X.prog X.w) X.A (isTrue e X.env (eval e X.env)) (TP X pins σ Q) X.xe s
noncomputable def PW (X:Cx) (e:Expr) (t:TT):Prop :=
 ∀ (whole:Sem Value) (pins:List (Addr×Obj)) (s:Shared) (σ:St) (H:Hp) (Q:Bool→Hp→Prop),Inv X pins σ H s→t σ H Q→wpAny (model X.prog X.w) X.A (isTrue e X.env whole) (TP X pins σ Q) X.xe s
theorem PW.pt {X:Cx} {e:Expr} {t:TT} (h:PW X e t):PT X e t:=h _
noncomputable def PA (X:Cx) (es:List Expr) (t:TA):Prop :=
 ∀ (pos:Pos) (pins:List (Addr×Obj)) (s:Shared) (σ:St) (H:Hp) (Q:List V→Hp→Prop),Inv X pins σ H s→t σ H Q→wpAny (model X.prog X.w) X.A (spliced (backTo pos (starEach es X.env))) (AP X pins σ Q) X.xe s
noncomputable def PS (X:Cx) (st:Stmt) (t:TS):Prop :=
 ∀ (pins:List (Addr×Obj)) (s:Shared) (σ:St) (H:Hp) (D:Ends),Inv X pins σ H s→t D σ H→wpAny (model X.prog X.w) X.A (exec st X.env) (SP X pins D) X.xe s
noncomputable def PSs (X:Cx) (st:List Stmt) (t:TS):Prop :=
 ∀ (pins:List (Addr×Obj)) (s:Shared) (σ:St) (H:Hp) (D:Ends),Inv X pins σ H s→t D σ H→wpAny (model X.prog X.w) X.A (execs st X.env) (SP X pins D) X.xe s
theorem thn {α:Type} {t:Sem α} {Q Q':α→Shared→Prop} {M:Model} {A:Around} {E:Value→Shared→Prop} {s:Shared} (h:wpAny M A t Q E s) (hQ:∀ a s,Q a s→Q' a s):wpAny M A t Q' E s:=wpAny_mono h hQ fun _ _ x=>x
end L2
namespace L2
open PySem PySem.Spec PyProof.Rows
section
variable {X:Cx}
noncomputable def tVar (i:Nat):TE:=fun σ H Q=>∃ v,σ[i]?=some (some v)∧Q v H
noncomputable def tC (v:V):TE:=fun _ H Q=>Q v H
theorem pe_var {i:Nat} {x:Str} {pos:Pos} (hN:X.N[i]?=some x) (hv:Vis X.env.scope x) (hd:(x == ("__debug__":Str))=false:=by decide) (hcd:(x == ("__classdict__":Str))=false:=by decide):PE X (.Name x pos) (tVar i):=by
 intro pins s σ H Q I h
 obtain ⟨v,e,h⟩:=h
 obtain ⟨m,hn,hl⟩:=I.loc
 obtain ⟨u,r,l⟩:=hl i x v hN e hv
 have fin:EP X pins σ Q u s:=⟨v,H,I,r,h⟩
 rcases l with ⟨hk,hm⟩ | ⟨hk,c,hc,hcell⟩
 ·exact wpAny_Name (wpAny_loadName_local I.ok.kind hk hn hm fin) hd
 ·rcases hk with hk | hk
  ·exact wpAny_Name (wpAny_loadName_cell I.ok.kind hk hc hcell fin) hd
  ·exact wpAny_Name (wpAny_loadName_free I.ok.kind hk hc hcell fin hcd) hd
theorem pe_int {i j pos}:PE X (.Constant (.int i) j pos) (tC (.int i)):=fun _ _ _ H _ I h=>wpAny_Constant_int ⟨.int i,H,I.tok _,⟨_,rfl⟩,h⟩
theorem pe_bl {b j pos}:PE X (.Constant (.bool b) j pos) (tC (.bl b)):=fun _ _ _ H _ I h=>Constant_bool ⟨.bl b,H,I,rfl,h⟩
theorem pe_non {j pos}:PE X (.Constant .none j pos) (tC .non):=fun _ _ _ H _ I h=>Constant_none ⟨.non,H,I,rfl,h⟩
theorem pe_str {x j pos}:PE X (.Constant (.str x) j pos) (tC (.str x)):=fun _ _ _ H _ I h=>Calls.Constant_str ⟨.str x,H,I.tok _,⟨_,rfl⟩,h⟩
noncomputable def Gl (X:Cx) (x:Str):Prop:=X.env.kindOf x=some .globalImplicit
theorem ld_glob {E:Value→Shared→Prop} {pins:List (Addr×Obj)} {s:Shared} {σ:St} {H:Hp} {x:Str} {u:Value} {pos:Pos} {Q:Value→Shared→Prop} (I:Inv X pins σ H s) (hg:Gl X x) (hm:X.mg x=some u) (h:Q u s)
  (hd:(x == ("__debug__":Str))=false:=by decide):wpAny (model X.prog X.w) X.A (eval (.Name x pos) X.env) Q E s :=
 Calls.Name_function_global I.ok.kind hg (Calls.loadGlobal_global (by rw [I.ok.glob]; exact I.mod.glob.keeps I.bk) hm h) hd
theorem ld_blt {E:Value→Shared→Prop} {pins:List (Addr×Obj)} {s:Shared} {σ:St} {H:Hp} {x:Str} {u:Value} {pos:Pos} {Q:Value→Shared→Prop} (I:Inv X pins σ H s) (hg:Gl X x) (hm:X.mg x=none) (hv:bootBuiltins x=some u) (h:Q u s)
  (hn:x≠"__name__":=by decide) (hd:(x == ("__debug__":Str))=false:=by decide):wpAny (model X.prog X.w) X.A (eval (.Name x pos) X.env) Q E s:=by
 obtain ⟨mb,h1,h2⟩:=I.mod.blt
 exact Calls.Name_function_global I.ok.kind hg (Calls.loadGlobal_builtin (by rw [I.ok.glob]; exact I.mod.glob.keeps I.bk) hm (by rw [I.ok.blt]; exact h1.keeps I.bk) ((h2 x hn).trans hv) h) hd
theorem pe_glob {x:Str} {v:V} {u:Value} {pos:Pos} (hg:Gl X x) (hm:X.mg x=some u) (r:RelV v u) (hd:(x == ("__debug__":Str))=false:=by decide):PE X (.Name x pos) (tC v) :=
 fun _ _ _ H _ I h=>ld_glob I hg hm ⟨v,H,I,r,h⟩ hd
theorem pe_bltn {x:Str} {v:V} {u:Value} {pos:Pos} (hg:Gl X x) (hm:X.mg x=none) (hv:bootBuiltins x=some u) (r:RelV v u) (hn:x≠"__name__":=by decide) (hd:(x == ("__debug__":Str))=false:=by decide):PE X (.Name x pos) (tC v) :=
 fun _ _ _ H _ I h=>ld_blt I hg hm hv ⟨v,H,I,r,h⟩ hn hd
variable {a b:Expr} {ta tb:TE} {pos:Pos}
noncomputable def tB (t:TE):TT:=fun σ H Q=>t σ H fun x H1=>∃ c,x=.bl c∧Q c H1
theorem pt_val {e:Expr} {t:TE} (h:PE X e t) (he:∀ whole,isTrue e X.env whole=(do let v ← whole; standAt e.pos; holding [v] (truthy v)):=by intro _; rfl):PT X e (tB t):=by
 intro pins s σ H Q I hw
 refine isTrue_plain (thn (h pins s σ H _ I hw) fun v s1 ⟨x,H1,I1,r1,q1⟩=>?_) (he _)
 obtain ⟨d,rfl,q⟩:=q1
 cases r1
 exact wpAny_truthy_bool ⟨H1,I1,q⟩
variable {tA tB':TT} {rest:List Expr}
noncomputable def tAnd (t u:TT):TT:=fun σ H Q=>t σ H fun c H1=>if c=true then u σ H1 Q else Q false H1
noncomputable def tOr (t u:TT):TT:=fun σ H Q=>t σ H fun c H1=>if c=true then Q true H1 else u σ H1 Q
noncomputable def tNot (t:TT):TT:=fun σ H Q=>t σ H fun c H1=>Q (!c) H1
theorem pw_and1 (ha:PT X a tA):PW X (.BoolOp .And [a] pos) tA:=by
 intro wh pins s σ H Q I h
 refine isTrue_and (thn (ha pins s σ H Q I h) fun c s1 e=>?_)
 cases c with
 | true=>exact isTrue_and_nil e
 | false=>exact e
theorem pw_or1 (ha:PT X a tA):PW X (.BoolOp .Or [a] pos) tA:=by
 intro wh pins s σ H Q I h
 refine isTrue_or (thn (ha pins s σ H Q I h) fun c s1 e=>?_)
 cases c with
 | false=>exact isTrue_or_nil e
 | true=>exact e
theorem pw_and (ha:PT X a tA) (hb:PW X (.BoolOp .And (b :: rest) pos) tB'):PW X (.BoolOp .And (a :: b :: rest) pos) (tAnd tA tB'):=by
 intro wh pins s σ H Q I h
 refine isTrue_and (thn (ha pins s σ H _ I h) fun c s1 ⟨H1,I1,q1⟩=>?_)
 cases c with
 | true=>exact hb wh pins s1 σ H1 Q I1 q1
 | false=>exact ⟨H1,I1,q1⟩
theorem pw_or (ha:PT X a tA) (hb:PW X (.BoolOp .Or (b :: rest) pos) tB'):PW X (.BoolOp .Or (a :: b :: rest) pos) (tOr tA tB'):=by
 intro wh pins s σ H Q I h
 refine isTrue_or (thn (ha pins s σ H _ I h) fun c s1 ⟨H1,I1,q1⟩=>?_)
 cases c with
 | true=>exact ⟨H1,I1,q1⟩
 | false=>exact hb wh pins s1 σ H1 Q I1 q1
theorem pt_not (ha:PT X a tA):PT X (.UnaryOp .Not a pos) (tNot tA):=by
 intro pins s σ H Q I h
 exact isTrue_not (ha pins s σ H (fun c H1=>Q (!c) H1) I h)
noncomputable def tAndV (ta tb:TE):TE:=fun σ H Q=>ta σ H fun x H1=>∃ c,x=.bl c∧if c=true then tb σ H1 Q else Q (.bl false) H1
noncomputable def tNotV (ta:TE):TE:=fun σ H Q=>ta σ H fun x H1=>∃ c,x=.bl c∧Q (.bl (!c)) H1
theorem pe_one {op} {t:TE} (h:PE X a t):PE X (.BoolOp op [a] pos) t:=fun pins s σ H Q I hw=>BoolOp_one (h pins s σ H Q I hw)
theorem pe_and (ha:PE X a ta) (hb:PE X (.BoolOp .And (b :: rest) pos) tb):PE X (.BoolOp .And (a :: b :: rest) pos) (tAndV ta tb):=by
 intro pins s σ H Q I h
 refine BoolOp_and (thn (ha pins s σ H _ I h) fun v s1 ⟨x,H1,I1,r1,q1⟩=>?_)
 obtain ⟨c,rfl,q1⟩:=q1
 cases r1
 refine wpAny_truthy_bool ?_
 cases c with
 | true=>exact hb pins s1 σ H1 Q I1 q1
 | false=>exact ⟨.bl false,H1,I1,rfl,q1⟩
theorem pe_not (ha:PE X a ta):PE X (.UnaryOp .Not a pos) (tNotV ta):=by
 intro pins s σ H Q I h
 refine UnaryOp_ (thn (ha pins s σ H _ I h) fun v s1 ⟨x,H1,I1,r1,q1⟩=>?_)
 obtain ⟨c,rfl,q1⟩:=q1
 cases r1
 exact not_of (wpAny_truthy_bool ⟨.bl (!c),H1,I1,rfl,q1⟩)
noncomputable def tIf (t:TT) (ta tb:TE):TE:=fun σ H Q=>t σ H fun c H1=>if c=true then ta σ H1 Q else tb σ H1 Q
theorem pe_ifExp {c:Expr} (hc:PT X c tA) (ha:PE X a ta) (hb:PE X b tb):PE X (.IfExp c a b pos) (tIf tA ta tb):=by
 intro pins s σ H Q I h
 refine wpAny_IfExp (thn (hc pins s σ H _ I h) fun d s1 ⟨H1,I1,q1⟩=>?_)
 cases d with
 | true=>exact ha pins s1 σ H1 Q I1 q1
 | false=>exact hb pins s1 σ H1 Q I1 q1
end
end L2
namespace L2
open PySem PySem.Spec PyProof.Rows
noncomputable def SqL (K:PySem.W.Frag) (H:Hp) (a:Addr) (xs:List V):Prop :=
 Rd H a (.lst xs) ∨
  ∃ (o:Obj) (its:Array Value) (n:Nat),K.lookup a=some o∧o.cls=.type "list"∧o.dict=none∧o.data=.seq its n∧its.size≤sizeLine∧Vals xs its.toList
noncomputable def SqT (K:PySem.W.Frag) (H:Hp) (a:Addr) (xs:List V):Prop :=
 Rd H a (.tup xs) ∨
  ∃ (o:Obj) (its:Array Value) (n:Nat),K.lookup a=some o∧o.cls=.type "tuple"∧o.data=.seq its n∧its.size≤sizeLine∧Vals xs its.toList
noncomputable def absV:Value→Option V
 | .none=>some .non
 | .bool b=>some (.bl b)
 | .int i _=>some (.int i)
 | .str x _=>some (.str x)
 | .bytes b _=>some (.byt b)
 | .float b _=>some (.flt b)
 | .ref a=>some (.ref a)
 | .type n=>some (.ty n)
 | _=>none
theorem RelV.abs {x:V} {u:Value} (r:RelV x u):absV u=some x:=by
 cases x with
 | non=>cases r; rfl
 | bl _=>cases r; rfl
 | int _=>obtain ⟨t,rfl⟩:=r; rfl
 | str _=>obtain ⟨t,rfl⟩:=r; rfl
 | byt _=>obtain ⟨t,rfl⟩:=r; rfl
 | flt _=>obtain ⟨t,rfl⟩:=r; rfl
 | ref _=>cases r; rfl
 | ty _=>cases r; rfl
theorem RelV.inj {x y:V} {u:Value} (r:RelV x u) (q:RelV y u):x=y:=Option.some.inj (r.abs.symm.trans q.abs)
theorem Vals.inj:∀ {xs ys:List V} {us:List Value},Vals xs us→Vals ys us→xs=ys
 | _,_,_,.nil,.nil=>rfl
 | _,_,_,.cons r t,.cons r' t'=>by rw [r.inj r',Vals.inj t t']
section
variable {X:Cx} {pins:List (Addr×Obj)} {σ:St} {H:Hp} {s:Shared} {a:Addr} {xs ys:List V}
theorem SqL.of {K:PySem.W.Frag} (h:H a=some (.lst xs)):SqL K H a xs:=.inl (.inl h)
theorem SqT.of {K:PySem.W.Frag} (h:H a=some (.tup xs)):SqT K H a xs:=.inl (.inl h)
theorem Inv.list (I:Inv X pins σ H s) (h:SqL X.K H a xs):∃ its:List Value,Vals xs its∧PlainL s.heap a its.toArray∧xs.length≤sizeLine:=by
 rcases h with h | ⟨o,its,n,hk,hc,hd,hs,hz,r⟩
 ·obtain ⟨z,its,n,r,e⟩:=h.ok I.hok
  exact ⟨its,r,⟨_,n,e,rfl,rfl,rfl⟩,z⟩
 ·refine ⟨its.toList,r,⟨o,n,I.kIn a o hk,hc,hd,by simpa using hs⟩,?_⟩
  have e:=r.length
  simp only [Array.length_toList] at e
  lia
theorem Inv.tuple (I:Inv X pins σ H s) (h:SqT X.K H a xs):∃ its:List Value,Vals xs its∧IsTup s.heap a its.toArray∧xs.length≤sizeLine:=by
 rcases h with h | ⟨o,its,n,hk,hc,hs,hz,r⟩
 ·obtain ⟨z,its,r,p⟩:=h.ok I.hok
  exact ⟨its,r,p,z⟩
 ·refine ⟨its.toList,r,⟨o,I.kIn a o hk,hc,n,by simpa using hs⟩,?_⟩
  have e:=r.length
  simp only [Array.length_toList] at e
  lia
theorem Inv.list_inj (I:Inv X pins σ H s) (h:SqL X.K H a xs) (h':SqL X.K H a ys):xs=ys:=by
 obtain ⟨its,r,⟨o,n,e,_,_,d⟩,_⟩:=I.list h
 obtain ⟨its',r',⟨o',n',e',_,_,d'⟩,_⟩:=I.list h'
 rw [e] at e'; cases e'
 rw [d] at d'
 injection d' with d1 _
 have:its=its':=by simpa using congrArg Array.toList d1
 subst this
 exact r.inj r'
theorem Inv.tuple_inj (I:Inv X pins σ H s) (h:SqT X.K H a xs) (h':SqT X.K H a ys):xs=ys:=by
 obtain ⟨its,r,⟨o,e,_,n,d⟩,_⟩:=I.tuple h
 obtain ⟨its',r',⟨o',e',_,n',d'⟩,_⟩:=I.tuple h'
 rw [e] at e'; cases e'
 rw [d] at d'
 injection d' with d1 _
 have:its=its':=by simpa using congrArg Array.toList d1
 subst this
 exact r.inj r'
end
noncomputable abbrev Cx.wish (X:Cx) (E:Value→Shared→Prop):Cx:={ X with xe:=E }
noncomputable abbrev Cx.nox (X:Cx):Cx:=X.wish fun _ _=>False
theorem Cx.Ok.wish {X:Cx} (ok:X.Ok) (E:Value→Shared→Prop):(X.wish E).Ok :=
 ⟨ok.mod,ok.kind,ok.glob,ok.blt,ok.above,ok.inj,ok.has,ok.cab,ok.hd,ok.frames,ok.stk,ok.exf,ok.bs,ok.bsz,ok.noex,ok.exfs,ok.funs,ok.frf⟩
theorem Cx.Ok.unwish {X:Cx} {E:Value→Shared→Prop} (ok:(X.wish E).Ok):X.Ok :=
 ⟨ok.mod,ok.kind,ok.glob,ok.blt,ok.above,ok.inj,ok.has,ok.cab,ok.hd,ok.frames,ok.stk,ok.exf,ok.bs,ok.bsz,ok.noex,ok.exfs,ok.funs,ok.frf⟩
section
variable {X:Cx} {pins:List (Addr×Obj)} {σ:St} {H:Hp} {s:Shared} {E:Value→Shared→Prop}
theorem Inv.wish (I:Inv X pins σ H s) (E:Value→Shared→Prop):Inv (X.wish E) pins σ H s:=⟨I.ok.wish E,I.os,I.bare,I.base,I.loc,I.cell,I.free,I.freeC,I.pin,I.hok,I.len⟩
theorem Inv.unwish (I:Inv (X.wish E) pins σ H s):Inv X pins σ H s:=⟨I.ok.unwish,I.os,I.bare,I.base,I.loc,I.cell,I.free,I.freeC,I.pin,I.hok,I.len⟩
theorem SP.unwish {D:Ends} {f:Flow} {s':Shared} (h:SP (X.wish E) pins D f s'):SP X pins D f s':=by
 cases f with
 | next=>obtain ⟨σ',H',I,q⟩:=h; exact ⟨σ',H',I.unwish,q⟩
 | brk=>obtain ⟨σ',H',I,q⟩:=h; exact ⟨σ',H',I.unwish,q⟩
 | cont=>obtain ⟨σ',H',I,q⟩:=h; exact ⟨σ',H',I.unwish,q⟩
 | ret u=>obtain ⟨v,σ',H',I,r,q⟩:=h; exact ⟨v,σ',H',I.unwish,r,q⟩
theorem PSs.nox {st:List Stmt} {t:TS} (h:PSs X.nox st t):PSs X st t:=fun pins s σ H D I hw =>
 wpAny_mono (h pins s σ H D (I.wish _) hw) (fun _ _ q=>q.unwish) fun _ _ z=>False.elim z
end
section
variable {X:Cx} {st:Stmt} {rest:List Stmt} {t u:TS} {e:Expr} {te:TE} {pos:Pos}
noncomputable def tNext:TS:=fun D σ H=>D.nx σ H
noncomputable def tSeq (t u:TS):TS:=fun D σ H=>t { D with nx:=u D } σ H
theorem pss_nil:PSs X [] tNext:=fun _ _ σ H _ I h=>wpAny_execs_nil ⟨σ,H,I,h⟩
theorem pss_cons (h1:PS X st t) (h2:PSs X rest u):PSs X (st :: rest) (tSeq t u):=by
 intro pins s σ H D I h
 refine wpAny_execs_cons (thn (h1 pins s σ H { D with nx:=u D } I h) fun f s1 q=>?_)
 cases f with
 | next =>
  obtain ⟨σ',H',I',q⟩:=q
  exact h2 pins s1 σ' H' D I' q
 | ret v=>exact q
 | brk=>exact q
 | cont=>exact q
theorem pss_one (h1:PS X st t):PSs X [st] t:=by
 intro pins s σ H D I h
 refine wpAny_execs_cons (thn (h1 pins s σ H D I h) fun f s1 q=>?_)
 cases f with
 | next=>exact wpAny_execs_nil q
 | ret v=>exact q
 | brk=>exact q
 | cont=>exact q
theorem Inv.quiet {pins:List (Addr×Obj)} {σ:St} {H:Hp} {s:Shared} (I:Inv X pins σ H s):interactive X.env=false:=by simp [interactive,I.ok.kind]
noncomputable def tDrop (te:TE):TS:=fun D σ H=>te σ H fun _ H1=>D.nx σ H1
theorem ps_expr (he:PE X e te) (hs:swapsWith e none pos.line X.env=pure false:=by rfl):PS X (.Expr e pos) (tDrop te):=by
 intro pins s σ H D I h
 exact wpAny_Expr_any (thn (he pins s σ H _ I h) fun v s1 ⟨x,H1,I1,r1,q1⟩=>⟨σ,H1,I1,q1⟩) I.quiet hs
noncomputable def tRet (te:TE):TS:=fun D σ H=>te σ H D.rt
theorem ps_ret (he:PE X e te):PS X (.Return (some e) pos) (tRet te):=by
 intro pins s σ H D I h
 exact wpAny_Return_some (thn (he pins s σ H _ I h) fun v s1 ⟨x,H1,I1,r1,q1⟩=>⟨x,σ,H1,I1,r1,q1⟩)
noncomputable def tIfS (c:TT) (t u:TS):TS:=fun D σ H=>c σ H fun b H1=>if b=true then t D σ H1 else u D σ H1
theorem ps_if {c:Expr} {a b:List Stmt} {tc:TT} (hc:PT X c tc) (ha:PSs X a t) (hb:PSs X b u):PS X (.If c a b pos) (tIfS tc t u):=by
 intro pins s σ H D I h
 refine wpAny_If (thn (hc pins s σ H _ I h) fun d s1 ⟨H1,I1,q1⟩=>?_)
 cases d with
 | true=>exact ha pins s1 σ H1 D I1 q1
 | false=>exact hb pins s1 σ H1 D I1 q1
noncomputable def tNever:TS:=fun _ _ _=>False
theorem ps_never:PS X st tNever:=fun _ _ _ _ _ _ h=>h.elim
end
noncomputable abbrev TG:=V→St→Hp→(St→Hp→Prop)→Prop
noncomputable abbrev TGs:=List V→St→Hp→(St→Hp→Prop)→Prop
noncomputable def PG (X:Cx) (target:Expr) (t:TG):Prop :=
 ∀ (pins:List (Addr×Obj)) (s:Shared) (σ:St) (H:Hp) (v:V) (u:Value) (Q:St→Hp→Prop),Inv X pins σ H s→RelV v u→t v σ H Q →
  wpAny (model X.prog X.w) X.A (assign target X.env u) (fun _ s'=>∃ σ' H',Inv X pins σ' H' s'∧Q σ' H') X.xe s
noncomputable def PGs (X:Cx) (ts:List Expr) (t:TGs):Prop :=
 ∀ (pins:List (Addr×Obj)) (s:Shared) (σ:St) (H:Hp) (vs:List V) (us:List Value) (Q:St→Hp→Prop),Inv X pins σ H s→Vals vs us→t vs σ H Q →
  wpAny (model X.prog X.w) X.A (assignInOrder ((assignEach ts X.env).map (·.2)) us) (fun _ s'=>∃ σ' H',Inv X pins σ' H' s'∧Q σ' H') X.xe s
noncomputable abbrev TSet:=V→V→V→Hp→(Hp→Prop)→Prop
noncomputable def PSet (X:Cx) (t:TSet):Prop :=
 ∀ (pins:List (Addr×Obj)) (s:Shared) (σ:St) (H:Hp) (o i v:V) (ov iv u:Value) (Q:Hp→Prop),Inv X pins σ H s→RelV o ov→RelV i iv→RelV v u→t o i v H Q →
  wpAny (model X.prog X.w) X.A (setItem ov iv u) (fun _ s'=>∃ H',Inv X pins σ H' s'∧Q H') X.xe s
noncomputable abbrev TIp:=V→V→Hp→VK→Prop
noncomputable def PIp (X:Cx) (op:Operator) (t:TIp):Prop :=
 ∀ (pins:List (Addr×Obj)) (s:Shared) (σ:St) (H:Hp) (x y:V) (v u:Value) (Q:VK),Inv X pins σ H s→RelV x v→RelV y u→t x y H Q →
  wpAny (model X.prog X.w) X.A (inplaceOp op v u) (EP X pins σ Q) X.xe s
section
variable {X:Cx} {pos:Pos}
noncomputable def gName (i:Nat):TG:=fun v σ H Q=>Q (σ.set i (some v)) H
theorem pg_name {i:Nat} {x:Str} (hN:X.N.Nodup) (hi:X.N[i]?=some x) (hx:Loc X.env.scope x) (hf:X.fn x=true∨X.env.scope.names.lookup x=some .local:=by first | exact .inl rfl | exact .inr rfl | assumption):PG X (.Name x pos) (gName i):=by
 intro pins s σ H v u Q I r h
 exact wpAny_assign_Name (store_ok I hN hi hx r (fun s' I'=>⟨_,H,I',h⟩) hf)
noncomputable def gNil:TGs:=fun vs σ H Q=>vs=[]∧Q σ H
noncomputable def gCons (t:TG) (u:TGs):TGs:=fun vs σ H Q=>∃ v r,vs=v :: r∧t v σ H fun σ' H'=>u r σ' H' Q
theorem pgs_nil:PGs X [] gNil:=by
 intro pins s σ H vs us Q I r h
 obtain ⟨e,h⟩:=h
 subst e
 cases r
 exact assignInOrder_nil ⟨σ,H,I,h⟩
theorem pgs_cons {e:Expr} {es:List Expr} {t:TG} {u:TGs} (h1:PG X e t) (h2:PGs X es u)
  (hs:(assignEach (e :: es) X.env).map (·.2)=assign e X.env :: (assignEach es X.env).map (·.2):=by rfl):PGs X (e :: es) (gCons t u):=by
 intro pins s σ H vs us Q I r h
 obtain ⟨v,vr,e1,h⟩:=h
 subst e1
 cases r with
 | cons r rr =>
  rw [hs]
  refine assignInOrder_cons (thn (h1 pins s σ H _ _ _ I r h) fun _ s1 ⟨σ1,H1,I1,q1⟩=>?_)
  exact h2 pins s1 σ1 H1 _ _ Q I1 rr q1
noncomputable def gTup (K:PySem.W.Frag) (n:Nat) (t:TGs):TG:=fun v σ H Q=>∃ a xs,v=.ref a∧SqT K H a xs∧xs.length=n∧t xs σ H Q
theorem pg_tup {es:List Expr} {k:Nat} {t:TGs} {n:Nat} (hc:X.calm=true) (h:PGs X es t)
  (hn:(assignEach es X.env).length=n:=by rfl) (hst:(assignEach es X.env).findIdx? (·.1)=none:=by rfl):PG X (.Tuple es k pos) (gTup X.K n t):=by
 intro pins s σ H v u Q I r hw
 obtain ⟨a,xs,e1,hq,hl,hw⟩:=hw
 subst e1
 cases r
 obtain ⟨its,rv,ht,hz⟩:=I.tuple hq
 refine assign_Tuple_tuple (I.ok.hd hc) ht (by simp [hn,← hl,rv.length]) hst fun h' hx=>?_
 have I1:Inv X pins σ H { s with heap:=h' }:=I.kept (t':=s.toks) fun b o e=>hx b o (Nat.ne_of_lt (Heap.lt_size e)) e
 exact h pins _ σ H xs _ Q I1 (by simpa using rv) hw
noncomputable def gSub (to ti:TE) (t:TSet):TG:=fun v σ H Q=>to σ H fun o H1=>ti σ H1 fun i H2=>t o i v H2 fun H3=>Q σ H3
noncomputable def tAsg (te:TE) (g:TG):TS:=fun D σ H=>te σ H fun x H1=>g x σ H1 D.nx
theorem ps_asg {tg e:Expr} {te:TE} {g:TG} (he:PE X e te) (hg:PG X tg g) (hs:swapsWithSole [tg] e pos.line X.env=pure false:=by rfl) (hw:swappedStores [tg] e X.env=pure none:=by rfl)
  (h1:(assignEach [tg] X.env).map (·.2)=[assign tg X.env]:=by rfl):PS X (.Assign [tg] e pos) (tAsg te g):=by
 intro pins s σ H D I h
 refine wpAny_Assign_stores (thn (he pins s σ H _ I h) fun v s1 ⟨x,H1,I1,r1,q1⟩=>?_) hs hw
 rw [h1]
 exact thn (hg pins s1 σ H1 x v _ I1 r1 q1) fun _ s2 q=>q
theorem ps_set {i:Nat} {x:Str} {e:Expr} {te:TE} {pos':Pos} (hN:X.N.Nodup) (hi:X.N[i]?=some x) (hx:Loc X.env.scope x) (he:PE X e te) (hs:swapsWith e (some (.Name x pos')) pos.line X.env=pure false:=by rfl) (hf:X.fn x=true∨X.env.scope.names.lookup x=some .local:=by first | exact .inl rfl | exact .inr rfl | assumption) :
  PS X (.Assign [.Name x pos'] e pos) (tAsg te (gName i)):=by
 intro pins s σ H D I h
 refine wpAny_Assign_Name (thn (he pins s σ H _ I h) fun v s1 ⟨y,H1,I1,r1,q1⟩=>?_) hs
 exact store_ok I1 hN hi hx r1 (fun s2 I2=>⟨_,H1,I2,q1⟩) hf
noncomputable def tPar (i j:Nat) (ta:TA):TS:=fun D σ H=>ta σ H fun vs H1=>∃ v w,vs=[v,w]∧D.nx ((σ.set i (some v)).set j (some w)) H1
theorem ps_par {i j:Nat} {x y:Str} {a b:Expr} {ta:TA} {px py pt:Pos} {kt k2 pt2} (hc:X.calm=true) (hN:X.N.Nodup) (hi:X.N[i]?=some x) (hj:X.N[j]?=some y) (hij:i≠j)
  (hx:X.env.scope.names.lookup x=some .local) (hy:X.env.scope.names.lookup y=some .local) (ha:PA X [a,b] ta)
  (hw:swappedStores [.Tuple [.Name x px,.Name y py] kt pt] (.Tuple [a,b] k2 pt2) X.env=pure (some [x,y]))
  (hs:swapsWithSole [.Tuple [.Name x px,.Name y py] kt pt] (.Tuple [a,b] k2 pt2) pos.line X.env=pure false:=by rfl) :
  PS X (.Assign [.Tuple [.Name x px,.Name y py] kt pt] (.Tuple [a,b] k2 pt2) pos) (tPar i j ta):=by
 intro pins s σ H D I h
 rw [exec_Assign_arm]
 refine wpAny_bind (wpAny_standAt ?_)
 rw [hs]
 refine wpAny_bind (wpAny_pure ?_)
 rw [if_neg (by decide)]
 refine wpAny_bind (Tuple_ (thn (ha _ pins s σ H _ I h) fun us s1 ⟨vs,H1,I1,r1,q1⟩=>?_))
 obtain ⟨v,w,e1,q1⟩:=q1
 subst e1
 obtain ⟨u1,u2,rfl,rv,rw'⟩:∃ u1 u2,us=[u1,u2]∧RelV v u1∧RelV w u2:=by
  cases r1 with
  | cons p q =>
   cases q with
   | cons p' q' =>
    cases q'
    exact ⟨_,_,rfl,p,p'⟩
 refine wpAny_newObj_type ?_ (by show 2≤sizeLine; decide)
 have I2:Inv X pins σ H1 { s1 with heap:=s1.heap.push { cls:=.type "tuple",data:=.seq [u1,u2].toArray } }:=I1.kept (t':=s1.toks) fun b o e=>Heap.get?_push_of_some _ e
 rw [hw]
 refine wpAny_bind (wpAny_pure ?_)
 show wpAny (model X.prog X.w) X.A (do rule "assign.swapped-stores"; let items ← unpackItems (.ref s1.heap.objs.size) 2 none; assignInOrder [fun v=>bindName X.env y v,fun v=>bindName X.env x v] items.reverse; pure Flow.next) _ _ _
 refine wpAny_bind (wpAny_rule (wpAny_bind (unpackItems_tuple (items:=#[u1,u2]) (I.ok.hd hc) (IsTup.new s1.heap _) fun h' hx'=>?_)))
 have I3:=I2.kept (h':=h') (t':=s1.toks) fun b o e=>hx' b o (Nat.ne_of_lt (Heap.lt_size e)) e
 show wpAny _ _ (assignInOrder [fun v=>bindName X.env y v,fun v=>bindName X.env x v] [u2,u1] >>= fun _=>pure Flow.next) _ _ _
 refine wpAny_bind (assignInOrder_cons (wpAny_bindName (store_ok I3 hN hj (.inl hy) rw' (fun s2 I4=>?_) (.inr hy))))
 refine assignInOrder_cons (wpAny_bindName (store_ok I4 hN hi (.inl hx) rv (fun s3 I5=>assignInOrder_nil (wpAny_pure ?_)) (.inr hx)))
 rw [List.set_comm _ _ (Ne.symm hij)] at I5
 exact ⟨_,H1,I5,q1⟩
noncomputable def tAug (i:Nat) (te:TE) (ti:TIp):TS:=fun D σ H=>∃ x,σ[i]?=some (some x)∧te σ H fun y H1=>ti x y H1 fun z H2=>D.nx (σ.set i (some z)) H2
theorem ps_aug {i:Nat} {x:Str} {e:Expr} {te:TE} {op:Operator} {ti:TIp} {pos':Pos} (hN:X.N.Nodup) (hi:X.N[i]?=some x) (hx:Loc X.env.scope x) (he:PE X e te) (ho:PIp X op ti) (hf:X.fn x=true∨X.env.scope.names.lookup x=some .local:=by first | exact .inl rfl | exact .inr rfl | assumption) :
  PS X (.AugAssign (.Name x pos') op e pos) (tAug i te ti):=by
 intro pins s σ H D I h
 obtain ⟨v,e1,h⟩:=h
 obtain ⟨m,hn,hl⟩:=I.loc
 have vis:Vis X.env.scope x:=by rcases hx with k | k; exact .inl k; exact .inr (.inl k)
 obtain ⟨u,r,l⟩:=hl i x v hi e1 vis
 refine wpAny_AugAssign_Name ?_
 have go:wpAny (model X.prog X.w) X.A (eval e X.env) (fun w s₂=>wpAny (model X.prog X.w) X.A (inplaceOp op u w) (fun r s₃=>wpAny (model X.prog X.w) X.A (storeName X.env x r) (fun _=>SP X pins D .next) X.xe s₃) X.xe s₂) X.xe s:=by
  refine thn (he pins s σ H _ I h) fun w s1 ⟨y,H1,I1,r1,q1⟩=>?_
  refine thn (ho pins s1 σ H1 v y u w _ I1 r r1 q1) fun z s2 ⟨zv,H2,I2,r2,q2⟩=>?_
  exact store_ok I2 hN hi hx r2 (fun s3 I3=>⟨_,H2,I3,q2⟩) hf
 rcases l with ⟨hk,hm⟩ | ⟨hk,c,hc,hcell⟩
 ·exact wpAny_loadName_local I.ok.kind hk hn hm go
 ·rcases hk with hk | hk
  ·exact wpAny_loadName_cell I.ok.kind hk hc hcell go
  ·rcases hx with k | k
   ·have:X.env.scope.names.lookup x=some .free:=hk
    rw [k] at this; cases this
   ·have:X.env.scope.names.lookup x=some .free:=hk
    rw [k] at this; cases this
noncomputable def ipI (f:Int→Int→Int):TIp:=fun x y H Q=>∃ i j,x=.int i∧y=.int j∧Q (.int (f i j)) H
theorem ip_add:PIp X .Add (ipI fun i j=>i + j):=by
 intro pins s σ H x y v u Q I r1 r2 h
 obtain ⟨i,j,e1,e2,q⟩:=h
 subst e1; subst e2
 obtain ⟨t,rfl⟩:=r1
 obtain ⟨t',rfl⟩:=r2
 exact iadd_int ⟨.int _,H,I.tok _,⟨_,rfl⟩,q⟩
end
section
variable {X:Cx} {pos:Pos}
noncomputable def tWhile (c:TT) (tb:TS):TS:=fun D σ H=>∃ W:Nat→St→Hp→Prop,(∃ m,W m σ H)∧∀ m σ H,W m σ H →
 c σ H fun b H1=>if b=true then ∃ N:St→Hp→Prop,(∀ σ' H',N σ' H'→∃ m',m' < m∧W m' σ' H')∧tb { D with nx:=N,ct:=N,bk:=D.nx } σ H1 else D.nx σ H1
theorem ps_while {c:Expr} {body:List Stmt} {tc:TT} {tb:TS} (hp:PassesOwn (model X.prog X.w) X.A X.env X.xe) (hc:PT X c tc) (hb:PSs X body tb):PS X (.While c body [] pos) (tWhile tc tb):=by
 intro pins s σ H D I h
 obtain ⟨W,⟨m0,w0⟩,turn⟩:=h
 refine wpAny_While (codeAny_whileLoop (fun n s'=>∃ σ' H',Inv X pins σ' H' s'∧W n σ' H') ?_ m0 ⟨σ,H,I,w0⟩)
 rintro n s1 ⟨σ1,H1,I1,w1⟩
 refine wpAny_passesOwn hp (thn (hc pins s1 σ1 H1 _ I1 (turn n σ1 H1 w1)) fun b s2 ⟨H2,I2,q2⟩=>?_)
 cases b with
 | true =>
  obtain ⟨N,hN,q2⟩:=q2
  rw [if_pos rfl]
  refine wpAny_passesOwn hp (thn (hb pins s2 σ1 H2 _ I2 q2) fun f s3 q3=>?_)
  cases f with
  | next =>
   obtain ⟨σ3,H3,I3,n3⟩:=q3
   obtain ⟨m',hm,w3⟩:=hN σ3 H3 n3
   exact ⟨m',hm,σ3,H3,I3,w3⟩
  | cont =>
   obtain ⟨σ3,H3,I3,n3⟩:=q3
   obtain ⟨m',hm,w3⟩:=hN σ3 H3 n3
   exact ⟨m',hm,σ3,H3,I3,w3⟩
  | brk=>exact q3
  | ret v=>exact q3
 | false =>
  rw [if_neg Bool.false_ne_true]
  exact wpAny_execs_nil ⟨σ1,H2,I2,q2⟩
end
structure It where
 go:Nat→Hp→Prop
 yld:Nat→Hp→V→Hp→Prop
 stop:Nat→Hp→Prop
noncomputable def FpOk (X:Cx) (pins:List (Addr×Obj)) (H:Hp) (b:Addr):Prop :=
 H b=none∧b≠X.env.locals∧b ∉ X.fs∧(b∈X.ex∨X.s₀.heap.objs.size≤b)∧(∀ x c,X.env.cells.lookup x=some c→c≠b)∧∀ p∈X.pn++pins,p.1≠b
theorem Inv.fpOk {X:Cx} {pins:List (Addr×Obj)} {σ:St} {H H':Hp} {s:Shared} {b:Addr} (I:Inv X pins σ H s) (hb:s.heap.objs.size≤b) (hn:H' b=none):FpOk X pins H' b:=by
 refine ⟨hn,Nat.ne_of_gt (Nat.lt_of_lt_of_le I.lt hb),I.nofs hb,.inr (Nat.le_trans I.sz hb),fun x c e z=>?_,fun p hp z=>?_⟩
 ·obtain ⟨v,q⟩:=I.cell x c e
  exact absurd (Nat.lt_of_lt_of_le q.lt (by rw [z]; exact hb)) (Nat.lt_irrefl _)
 ·exact absurd (Nat.lt_of_lt_of_le (Heap.lt_size (I.pin p hp).1) (by rw [z]; exact hb)) (Nat.lt_irrefl _)
structure Turn (P:Program) (w:World) (K:PySem.W.Frag) (tg:Expr) (J:It) (fp:List Addr) (it:Addr) (tn:Nat→Heap→Prop):Prop where
 mem:it∈fp
 obj:∀ i h,tn i h→∀ b∈fp,∃ o,h.get? b=some o∧∀ v,o.data≠.cell v
 keep:∀ i h h',tn i h→(∀ b∈fp,∀ o,h.get? b=some o→h'.get? b=some o)→tn i h'
 item:∀ (X:Cx),X.prog=P→X.w=w→X.K=K→X.calm=true→∀ (i:Nat) (pins:List (Addr×Obj)) (s:Shared) (σ:St) (H:Hp) (E:Value→Shared→Prop),Inv X pins σ H s→(∀ b∈fp,FpOk X pins H b)→tn i s.heap→J.go i H →
  wpAny (model P w) X.A (pyNext (.ref it)) (fun r s1=>∃ u,r=some u ∧
   wpAny (model P w) X.A (letOwnedTupleGo tg (.ref it) u) (fun _ s2=>∃ x H',Inv X pins σ H' s2∧RelV x u∧J.yld i H x H'∧tn (i + 1) s2.heap∧∀ b∈fp,H' b=none) E s1) E s
 done:∀ (X:Cx),X.prog=P→X.w=w→X.K=K→X.calm=true→∀ (i:Nat) (pins:List (Addr×Obj)) (s:Shared) (σ:St) (H:Hp) (E:Value→Shared→Prop),Inv X pins σ H s→(∀ b∈fp,FpOk X pins H b)→tn i s.heap→J.stop i H →
  wpAny (model P w) X.A (pyNext (.ref it)) (fun r s1=>r=none∧Inv X pins σ H s1) E s
 self:∀ (A:Around) (i:Nat) (s:Shared) (Q:Value→Shared→Prop) (E:Value→Shared→Prop),tn i s.heap→Q (.ref it) s→wpAny (model P w) A (pyIter (.ref it)) Q E s
noncomputable abbrev TI:=St→Hp→(It→Hp→Prop)→Prop
noncomputable def PIE (X:Cx) (pins:List (Addr×Obj)) (σ:St) (tg:Expr) (R:It→Hp→Prop) (itv:Value) (s2:Shared):Prop :=
 ∃ (it:Addr) (fp:List Addr) (tn:Nat→Heap→Prop) (J:It) (H':Hp),itv=.ref it∧Inv X pins σ H' s2∧Turn X.prog X.w X.K tg J fp it tn∧tn 0 s2.heap∧(∀ b∈fp,FpOk X pins H' b)∧R J H'
noncomputable def PI (X:Cx) (tg iter:Expr) (wi:TI):Prop :=
 ∀ (pins:List (Addr×Obj)) (s:Shared) (σ:St) (H:Hp) (R:It→Hp→Prop),Inv X pins σ H s→wi σ H R →
  wpAny (model X.prog X.w) X.A (eval iter X.env) (fun v s1=>wpAny (model X.prog X.w) X.A (pyIter v) (PIE X pins σ tg R) X.xe s1) X.xe s
theorem go_of {M:Model} {A:Around} {E:Value→Shared→Prop} {s:Shared} {tg:Expr} {it:Addr} {u:Value} {o:Obj} {n:String} {vs:Array Value} {Q:Unit→Shared→Prop} (ho:s.heap.get? it=some o) (hc:o.cls=.type n) (hd:o.data=.fields vs)
    (hn:["enumerate","zip","dict_itemiterator","dict_reverseitemiterator","odict_iterator","itertools.zip_longest","itertools.pairwise"].contains n=false) (hQ:Q () s):wpAny M A (letOwnedTupleGo tg (.ref it) u) Q E s:=by
  unfold letOwnedTupleGo
  cases tg <;> first
    | exact wpAny_pure hQ
    | (cases u <;> first
        | exact wpAny_pure hQ
        | (refine wpAny_bind (wpAny_load ho ?_)
           rw [hc,hd]
           show wpAny M A (if (["enumerate","zip","dict_itemiterator","dict_reverseitemiterator","odict_iterator","itertools.zip_longest","itertools.pairwise"].contains n && vs[0]? == some (rawInt _))=true then _ else _) Q E s
           rw [if_neg (by intro h; rw [hn,Bool.false_and] at h; cases h)]
           exact wpAny_pure hQ))
noncomputable def Itl (K:PySem.W.Frag) (a:Addr):It :=
 ⟨fun i H=>∃ xs x,SqL K H a xs∧xs[i]?=some x,fun i H x H'=>H'=H∧∀ xs,SqL K H a xs→xs[i]?=some x,fun i H=>∃ xs,SqL K H a xs∧xs.length≤i⟩
noncomputable def Itt (K:PySem.W.Frag) (a:Addr):It :=
 ⟨fun i H=>∃ xs x,SqT K H a xs∧xs[i]?=some x,fun i H x H'=>H'=H∧∀ xs,SqT K H a xs→xs[i]?=some x,fun i H=>∃ xs,SqT K H a xs∧xs.length≤i⟩
noncomputable def Itr (lo:Int) (n:Nat):It:=⟨fun i _=>i < n,fun i H x H'=>H'=H∧x=.int (lo + i),fun i _=>n≤i⟩
theorem turn_list {P:Program} {w:World} {K:PySem.W.Frag} {tg:Expr} (a it:Addr):Turn P w K tg (Itl K a) [it] it (fun i h=>h.IsListIter it a i) where
 mem:=by simp
 obj:=fun i h st b hb=>by
  have e:b=it:=by simpa using hb
  subst e
  obtain ⟨o,e,c,d⟩:=st
  exact ⟨o,e,fun v z=>by rw [d] at z; cases z⟩
 keep:=fun i h h' st k=>st.at fun o e=>k it (by simp) o e
 item:=by
  intro X hP hw hK hc i pins s σ H E I hf st hg
  subst hP hw hK
  obtain ⟨xs,x,hq,hx⟩:=hg
  obtain ⟨its,rv,p,hz⟩:=I.list hq
  obtain ⟨u,hu,ru⟩:=rv.get hx
  obtain ⟨f0,f1,f2,f3,f4,f5⟩:=hf it (by simp)
  refine wpAny_pyNext_list_item st p.isList (x:=u) (by simpa using hu) fun h' st' sb=>?_
  have I1:Inv X pins σ H { s with heap:=h' }:=I.turned (t':=s.toks) (fun b o hb e=>(sb.2 b hb).trans e) f0 f1 f3 f4 f5
  obtain ⟨o,e,c,d⟩:=id st'
  exact ⟨u,rfl,go_of (s:={ s with heap:=h' }) e c d (by decide) ⟨x,H,I1,ru,⟨rfl,fun ys hy=>by rw [I.list_inj hy hq]; exact hx⟩,st',fun b hb=>(hf b hb).1⟩⟩
 done:=by
  intro X hP hw hK hc i pins s σ H E I hf st hg
  subst hP hw hK
  obtain ⟨xs,hq,hx⟩:=hg
  obtain ⟨its,rv,p,hz⟩:=I.list hq
  obtain ⟨f0,f1,f2,f3,f4,f5⟩:=hf it (by simp)
  have hl:=rv.length
  exact wpAny_pyNext_list_end (I.ok.hd hc) st p.isList (by simp; lia) fun h' eb=>⟨rfl,I.turned (t':=s.toks) (fun b o hb e=>eb b o hb e) f0 f1 f3 f4 f5⟩
 self:=fun _ _ _ _ _ st h=>wpAny_pyIter_listiter st h
theorem turn_tuple {P:Program} {w:World} {K:PySem.W.Frag} {tg:Expr} (a it:Addr):Turn P w K tg (Itt K a) [it] it (fun i h=>h.IsTupleIter it a i) where
 mem:=by simp
 obj:=fun i h st b hb=>by
  have e:b=it:=by simpa using hb
  subst e
  obtain ⟨o,e,c,d⟩:=st
  exact ⟨o,e,fun v z=>by rw [d] at z; cases z⟩
 keep:=fun i h h' st k=>st.at fun o e=>k it (by simp) o e
 item:=by
  intro X hP hw hK hc i pins s σ H E I hf st hg
  subst hP hw hK
  obtain ⟨xs,x,hq,hx⟩:=hg
  obtain ⟨its,rv,p,hz⟩:=I.tuple hq
  obtain ⟨u,hu,ru⟩:=rv.get hx
  obtain ⟨f0,f1,f2,f3,f4,f5⟩:=hf it (by simp)
  refine wpAny_pyNext_tuple_item st (show s.heap.IsTuple a its.toArray from p) (x:=u) (by simpa using hu) fun h' st' sb=>?_
  have I1:Inv X pins σ H { s with heap:=h' }:=I.turned (t':=s.toks) (fun b o hb e=>(sb.2 b hb).trans e) f0 f1 f3 f4 f5
  obtain ⟨o,e,c,d⟩:=id st'
  exact ⟨u,rfl,go_of (s:={ s with heap:=h' }) e c d (by decide) ⟨x,H,I1,ru,⟨rfl,fun ys hy=>by rw [I.tuple_inj hy hq]; exact hx⟩,st',fun b hb=>(hf b hb).1⟩⟩
 done:=by
  intro X hP hw hK hc i pins s σ H E I hf st hg
  subst hP hw hK
  obtain ⟨xs,hq,hx⟩:=hg
  obtain ⟨its,rv,p,hz⟩:=I.tuple hq
  obtain ⟨f0,f1,f2,f3,f4,f5⟩:=hf it (by simp)
  have hl:=rv.length
  exact wpAny_pyNext_tuple_end (I.ok.hd hc) st (show s.heap.IsTuple a its.toArray from p) (by simp; lia) fun h' eb=>⟨rfl,I.turned (t':=s.toks) (fun b o hb e=>eb b o hb e) f0 f1 f3 f4 f5⟩
 self:=fun _ _ _ _ _ st h=>wpAny_pyIter_tupleiter st h
theorem turn_range {P:Program} {w:World} {K:PySem.W.Frag} {tg:Expr} (it:Addr) (lo:Int) (n:Nat):Turn P w K tg (Itr lo n) [it] it (fun i h=>IsRangeIter h it (lo + (i:Nat) * 1) ((n:Int) - (i:Nat)) 1) where
 mem:=by simp
 obj:=fun i h st b hb=>by
  have e:b=it:=by simpa using hb
  subst e
  exact ⟨_,st,fun v z=>by
   have z':Data.fields _=Data.cell v:=z
   cases z'⟩
 keep:=fun i h h' st k=>k it (by simp) _ st
 item:=by
  intro X hP hw hK hc i pins s σ H E I hf st hg
  subst hP hw hK
  obtain ⟨f0,f1,f2,f3,f4,f5⟩:=hf it (by simp)
  have W:=Walks.range (prog:=X.prog) (w:=X.w) (I.ok.hd hc) it lo 1 n
  refine W.item i s _ _ hg st fun v h' tk hv st' kk=>?_
  obtain ⟨t,rfl⟩:=hv
  have I1:Inv X pins σ H { s with heap:=h',toks:=tk }:=I.turned (fun b o hb e=>kk b o (by simpa using hb) e) f0 f1 f3 f4 f5
  refine ⟨_,rfl,go_of (s:={ s with heap:=h',toks:=tk }) (n:="range_iterator") st' rfl rfl (by decide) ⟨.int (lo + i),H,I1,⟨t,?_⟩,⟨rfl,rfl⟩,st',fun b hb=>(hf b hb).1⟩⟩
  rw [Int.mul_one]
 done:=by
  intro X hP hw hK hc i pins s σ H E I hf st hg
  subst hP hw hK
  obtain ⟨f0,f1,f2,f3,f4,f5⟩:=hf it (by simp)
  exact wpAny_pyNext_range_end (I.ok.hd hc) st (by have:n≤i:=hg; lia) fun h' eb=>⟨rfl,I.turned (t':=s.toks) (fun b o hb e=>eb b o hb e) f0 f1 f3 f4 f5⟩
 self:=fun _ _ _ _ _ st h=>wpAny_pyIter_rangeiter st h
end L2
namespace L2
open PySem PySem.Spec PyProof.Rows
section
variable {X:Cx} {tg:Expr}
noncomputable def iList (K:PySem.W.Frag) (tl:TE):TI:=fun σ H R=>tl σ H fun x H1=>∃ a,x=.ref a∧(∃ xs,SqL K H1 a xs)∧R (Itl K a) H1
noncomputable def iTup (K:PySem.W.Frag) (tl:TE):TI:=fun σ H R=>tl σ H fun x H1=>∃ a,x=.ref a∧(∃ xs,SqT K H1 a xs)∧R (Itt K a) H1
theorem pi_list {l:Expr} {tl:TE} (hl:PE X l tl):PI X tg l (iList X.K tl):=by
 intro pins s σ H R I h
 refine thn (hl pins s σ H _ I h) fun v s1 ⟨x,H1,I1,r1,q1⟩=>?_
 obtain ⟨a,e,⟨xs,hq⟩,q⟩:=q1
 subst e
 cases r1
 obtain ⟨its,rv,p,hz⟩:=I1.list hq
 refine wpAny_pyIter_list p.isList ?_
 refine ⟨s1.heap.objs.size,[s1.heap.objs.size],_,_,H1,rfl,I1.kept (t':=s1.toks) fun b o e=>Heap.get?_push_of_some _ e,turn_list a _,⟨_,Heap.get?_push_size _ rfl,rfl,rfl⟩,fun b hb=>?_,q⟩
 have e:b=s1.heap.objs.size:=by simpa using hb
 subst e
 exact I1.fpOk (Nat.le_refl _) (I1.hok.fresh (Nat.le_refl _))
theorem pi_tup {l:Expr} {tl:TE} (hl:PE X l tl):PI X tg l (iTup X.K tl):=by
 intro pins s σ H R I h
 refine thn (hl pins s σ H _ I h) fun v s1 ⟨x,H1,I1,r1,q1⟩=>?_
 obtain ⟨a,e,⟨xs,hq⟩,q⟩:=q1
 subst e
 cases r1
 obtain ⟨its,rv,p,hz⟩:=I1.tuple hq
 refine wpAny_pyIter_tuple (show s1.heap.IsTuple a its.toArray from p) ?_
 refine ⟨s1.heap.objs.size,[s1.heap.objs.size],_,_,H1,rfl,I1.kept (t':=s1.toks) fun b o e=>Heap.get?_push_of_some _ e,turn_tuple a _,⟨_,Heap.get?_push_size _ rfl,rfl,rfl⟩,fun b hb=>?_,q⟩
 have e:b=s1.heap.objs.size:=by simpa using hb
 subst e
 exact I1.fpOk (Nat.le_refl _) (I1.hok.fresh (Nat.le_refl _))
theorem range_it {pins:List (Addr×Obj)} {σ:St} {H:Hp} {s:Shared} {R:It→Hp→Prop} {E:Value→Shared→Prop} {lo hi:Int} {t u v:Tok} {tk:Nat} (I:Inv X pins σ H s) (h1:-(2 ^ 62)≤lo) (h2:lo < 2 ^ 62) (h3:-(2 ^ 62)≤hi) (h4:hi < 2 ^ 62)
  (q:R (Itr lo (hi - lo).toNat) H):wpAny (model X.prog X.w) X.A (pyIter (.ref s.heap.objs.size)) (PIE X pins σ tg R) E { s with heap:=s.heap.push { cls:=.type "range",data:=.fields #[.int lo t,.int hi u,.int 1 v] },toks:=tk }:=by
 refine wpAny_pyIter_range (IsRange.new ..) (small_one h1 h2 h3 h4) ?_
 have I1:Inv X pins σ H { s with heap:=s.heap.push { cls:=.type "range",data:=.fields #[.int lo t,.int hi u,.int 1 v] },toks:=tk }:=I.kept fun b o e=>Heap.get?_push_of_some _ e
 refine ⟨(s.heap.push { cls:=.type "range",data:=.fields #[.int lo t,.int hi u,.int 1 v] }).objs.size,[(s.heap.push { cls:=.type "range",data:=.fields #[.int lo t,.int hi u,.int 1 v] }).objs.size],_,_,H,rfl,
  I1.kept (t':=tk) fun b o e=>Heap.get?_push_of_some _ e,turn_range _ lo (hi - lo).toNat,?_,fun b hb=>?_,q⟩
 ·have e1:lo + ((0:Nat):Int) * 1=lo:=by simp
  have e2:(((hi - lo).toNat:Nat):Int) - ((0:Nat):Int)=Builtin.Range.rangeSize lo hi 1:=by rw [rangeSize_one]; split <;> lia
  show IsRangeIter _ _ (lo + ((0:Nat):Int) * 1) ((((hi - lo).toNat:Nat):Int) - ((0:Nat):Int)) 1
  rw [e1,e2]
  exact Heap.get?_push_size _ rfl
 ·have e:b=(s.heap.push { cls:=.type "range",data:=.fields #[.int lo t,.int hi u,.int 1 v] }).objs.size:=by simpa using hb
  subst e
  exact I1.fpOk (Nat.le_refl _) (I1.hok.fresh (Nat.le_refl _))
noncomputable def iRng1 (ta:TA):TI:=fun σ H R=>ta σ H fun vs H1=>∃ j:Int,vs=[.int j]∧-(2 ^ 62)≤j∧j < 2 ^ 62∧R (Itr 0 j.toNat) H1
theorem pi_range1 {a:Expr} {ta:TA} {p pos:Pos} (hg:Gl X "range") (hm:X.mg "range"=none) (ha:PA X [a] ta) (hs:starEach [a] X.env=[(false,eval a X.env)]:=by rfl):PI X tg (.Call (.Name "range" p) [a] [] pos) (iRng1 ta):=by
 intro pins s σ H R I h
 refine Call_ (ld_blt I hg hm boot_range (PyProof.Rows.callWith_type1 (thn (ha pos pins s σ H _ I h) fun us s1 ⟨vs,H1,I1,r1,q1⟩=>?_) hs rfl))
 obtain ⟨j,e,q1,q2,q⟩:=q1
 subst e
 cases r1 with
 | cons r rr =>
  cases rr
  obtain ⟨t,rfl⟩:=r
  exact call_range_1 (range_it I1 (by lia) (by lia) q1 q2 (by simpa using q))
noncomputable def tFor (wi:TI) (g:TG) (tb:TS):TS:=fun D σ H=>wi σ H fun J H1=>∃ W:Nat→Nat→St→Hp→Prop,(∃ m,W 0 m σ H1)∧∀ i m σ H,W i m σ H →
 (J.stop i H∧D.nx σ H)∨(J.go i H∧∃ N:St→Hp→Prop,(∀ σ' H',N σ' H'→∃ m',m' < m∧W (i + 1) m' σ' H')∧∀ x H',J.yld i H x H'→g x σ H' fun σ2 H2=>tb { D with nx:=N,ct:=N,bk:=D.nx } σ2 H2)
noncomputable def pinsAt (fp:List Addr) (h:Heap):List (Addr×Obj):=fp.filterMap fun b=>(h.get? b).map fun o=>(b,o)
theorem mem_pinsAt {fp:List Addr} {h:Heap} {b:Addr} {o:Obj} (hb:b∈fp) (e:h.get? b=some o):(b,o)∈pinsAt fp h:=List.mem_filterMap.mpr ⟨b,hb,by rw [e]; rfl⟩
theorem of_pinsAt {fp:List Addr} {h:Heap} {p:Addr×Obj} (hp:p∈pinsAt fp h):p.1∈fp∧h.get? p.1=some p.2:=by
 obtain ⟨b,hb,e⟩:=List.mem_filterMap.mp hp
 cases q:h.get? b with
 | none=>rw [q] at e; cases e
 | some o =>
  rw [q] at e
  have e':(b,o)=p:=Option.some.inj e
  subst e'
  exact ⟨hb,q⟩
theorem Inv.pinned {pins:List (Addr×Obj)} {σ:St} {H:Hp} {s:Shared} {fp:List Addr} (I:Inv X pins σ H s) (hf:∀ b∈fp,FpOk X pins H b) (ho:∀ b∈fp,∃ o,s.heap.get? b=some o∧∀ v,o.data≠.cell v):Inv X (pins++pinsAt fp s.heap) σ H s :=
 I.pins_of fun p hp=>(List.mem_append.mp hp).elim (fun z=>I.pin p (List.mem_append_right _ z)) fun z=>by
  obtain ⟨hb,e⟩:=of_pinsAt z
  obtain ⟨f0,f1,f2,_⟩:=hf p.1 hb
  obtain ⟨o,e',d⟩:=ho p.1 hb
  rw [e] at e'; cases e'
  exact ⟨e,f0,f1,f2,d⟩
theorem Inv.unpinned {pins pl:List (Addr×Obj)} {σ:St} {H:Hp} {s:Shared} (I:Inv X (pins++pl) σ H s):Inv X pins σ H s:=I.pins_of fun p hp=>I.pin p (List.mem_append_right _ (List.mem_append_left _ hp))
theorem ps_for {iter:Expr} {body:List Stmt} {wi:TI} {g:TG} {tb:TS} {pos:Pos} (hp:PassesOwn (model X.prog X.w) X.A X.env X.xe) (hc:X.calm=true) (hi:PI X tg iter wi) (hg:PG X tg g) (hb:PSs X body tb)
  (hs:∀ x,foldedSetIterable iter X.env x=pure x:=by intro _; rfl):PS X (.For tg iter body [] pos) (tFor wi g tb):=by
 intro pins s σ H D I h
 refine wpAny_For (thn (hi pins s σ H _ I h) fun v s1 h1=>thn h1 fun itv s2 h2=>?_) hs
 obtain ⟨it,fp,tn,J,H2,e,I2,T,st2,f2,W,⟨m0,w0⟩,turn⟩:=h2
 subst e
 have stat:∀ {H':Hp},(∀ b∈fp,H' b=none)→∀ b∈fp,FpOk X pins H' b:=fun hn b hb=>⟨hn b hb,(f2 b hb).2⟩
 refine codeAny_forLoop_any (fun n s'=>∃ i σ' H',Inv X pins σ' H' s'∧tn i s'.heap∧(∀ b∈fp,H' b=none)∧W i n σ' H') ?_ m0 ⟨0,σ,H2,I2,st2,fun b hb=>(f2 b hb).1,w0⟩
 rintro n s3 ⟨i,σ3,H3,I3,st3,fr3,w3⟩
 rcases turn i n σ3 H3 w3 with ⟨stop,qn⟩ | ⟨go,N,hN,step⟩
 ·refine wpAny_passesOwn hp (thn (T.done X rfl rfl rfl hc i pins s3 σ3 H3 X.xe I3 (stat fr3) st3 stop) fun r s4 ⟨hr,I4⟩=>?_)
  subst hr
  exact wpAny_execs_nil ⟨σ3,H3,I4,qn⟩
 ·refine wpAny_passesOwn hp (thn (T.item X rfl rfl rfl hc i pins s3 σ3 H3 X.xe I3 (stat fr3) st3 go) fun r s4 ⟨u,hr,h4⟩=>?_)
  subst hr
  refine wpAny_passesOwn hp (thn h4 fun _ s5 ⟨x,H5,I5,r5,y5,st5,fr5⟩=>?_)
  have I5':=I5.pinned (stat fr5) (T.obj _ _ st5)
  refine wpAny_passesOwn hp (thn (hg _ s5 σ3 H5 x u _ I5' r5 (step x H5 y5)) fun _ s6 ⟨σ6,H6,I6,q6⟩=>?_)
  refine wpAny_passesOwn hp (thn (hb _ s6 σ6 H6 _ I6 q6) fun f s7 q7=>?_)
  have again:∀ {σ7:St} {H7:Hp},Inv X (pins++pinsAt fp s5.heap) σ7 H7 s7→N σ7 H7→∃ m,m < n∧∃ i σ' H',Inv X pins σ' H' s7∧tn i s7.heap∧(∀ b∈fp,H' b=none)∧W i m σ' H':=fun {σ7 H7} I7 n7=>by
   obtain ⟨m',hm,w7⟩:=hN σ7 H7 n7
   refine ⟨m',hm,i + 1,σ7,H7,I7.unpinned,T.keep _ _ _ st5 fun b hb o e=>(I7.pin (b,o) (List.mem_append_right _ (List.mem_append_right _ (mem_pinsAt hb e)))).1,fun b hb=>?_,w7⟩
   obtain ⟨o,e,d⟩:=T.obj _ _ st5 b hb
   exact (I7.pin (b,o) (List.mem_append_right _ (List.mem_append_right _ (mem_pinsAt hb e)))).2.1
  cases f with
  | next=>obtain ⟨σ7,H7,I7,n7⟩:=q7; exact again I7 n7
  | cont=>obtain ⟨σ7,H7,I7,n7⟩:=q7; exact again I7 n7
  | brk=>obtain ⟨σ7,H7,I7,q7⟩:=q7; exact ⟨σ7,H7,I7.unpinned,q7⟩
  | ret v=>obtain ⟨x7,σ7,H7,I7,r7,q7⟩:=q7; exact ⟨x7,σ7,H7,I7.unpinned,r7,q7⟩
end
theorem for_list {K:PySem.W.Frag} {a:Addr} {xs:List V} {g:TG} {tb:TS} {D:Ends} {σ:St} {H:Hp} (Pv:Nat→St→Hp→Prop) (h0:Pv 0 σ H) (hl:∀ i σ H,i≤xs.length→Pv i σ H→SqL K H a xs)
  (hs:∀ i x σ H,xs[i]?=some x→Pv i σ H→g x σ H fun σ2 H2=>tb { D with nx:=Pv (i + 1),ct:=Pv (i + 1),bk:=D.nx } σ2 H2) (hd:∀ σ H,Pv xs.length σ H→D.nx σ H) :
  ∃ W:Nat→Nat→St→Hp→Prop,(∃ m,W 0 m σ H)∧∀ i m σ H,W i m σ H →
   ((Itl K a).stop i H∧D.nx σ H)∨((Itl K a).go i H∧∃ N:St→Hp→Prop,(∀ σ' H',N σ' H'→∃ m',m' < m∧W (i + 1) m' σ' H')∧∀ x H',(Itl K a).yld i H x H'→g x σ H' fun σ2 H2=>tb { D with nx:=N,ct:=N,bk:=D.nx } σ2 H2):=by
 refine ⟨fun i m σ H=>m=xs.length - i∧i≤xs.length∧Pv i σ H,⟨xs.length,by simp,Nat.zero_le _,h0⟩,?_⟩
 rintro i m σ H ⟨rfl,hi,p⟩
 have q:=hl i σ H hi p
 by_cases hlt:i < xs.length
 ·refine .inr ⟨⟨xs,xs[i],q,by simp [hlt]⟩,Pv (i + 1),fun σ' H' p'=>⟨xs.length - (i + 1),by lia,rfl,hlt,p'⟩,fun x H' y=>?_⟩
  obtain ⟨e,y⟩:=y
  subst e
  exact hs i x σ _ (y xs q) p
 ·have e:i=xs.length:=by lia
  subst e
  exact .inl ⟨⟨xs,q,Nat.le_refl _⟩,hd σ H p⟩
theorem for_tup {K:PySem.W.Frag} {a:Addr} {xs:List V} {g:TG} {tb:TS} {D:Ends} {σ:St} {H:Hp} (Pv:Nat→St→Hp→Prop) (h0:Pv 0 σ H) (hl:∀ i σ H,i≤xs.length→Pv i σ H→SqT K H a xs)
  (hs:∀ i x σ H,xs[i]?=some x→Pv i σ H→g x σ H fun σ2 H2=>tb { D with nx:=Pv (i + 1),ct:=Pv (i + 1),bk:=D.nx } σ2 H2) (hd:∀ σ H,Pv xs.length σ H→D.nx σ H) :
  ∃ W:Nat→Nat→St→Hp→Prop,(∃ m,W 0 m σ H)∧∀ i m σ H,W i m σ H →
   ((Itt K a).stop i H∧D.nx σ H)∨((Itt K a).go i H∧∃ N:St→Hp→Prop,(∀ σ' H',N σ' H'→∃ m',m' < m∧W (i + 1) m' σ' H')∧∀ x H',(Itt K a).yld i H x H'→g x σ H' fun σ2 H2=>tb { D with nx:=N,ct:=N,bk:=D.nx } σ2 H2):=by
 refine ⟨fun i m σ H=>m=xs.length - i∧i≤xs.length∧Pv i σ H,⟨xs.length,by simp,Nat.zero_le _,h0⟩,?_⟩
 rintro i m σ H ⟨rfl,hi,p⟩
 have q:=hl i σ H hi p
 by_cases hlt:i < xs.length
 ·refine .inr ⟨⟨xs,xs[i],q,by simp [hlt]⟩,Pv (i + 1),fun σ' H' p'=>⟨xs.length - (i + 1),by lia,rfl,hlt,p'⟩,fun x H' y=>?_⟩
  obtain ⟨e,y⟩:=y
  subst e
  exact hs i x σ _ (y xs q) p
 ·have e:i=xs.length:=by lia
  subst e
  exact .inl ⟨⟨xs,q,Nat.le_refl _⟩,hd σ H p⟩
theorem for_range {lo:Int} {n:Nat} {g:TG} {tb:TS} {D:Ends} {σ:St} {H:Hp} (Pv:Nat→St→Hp→Prop) (h0:Pv 0 σ H)
  (hs:∀ i σ H,i < n→Pv i σ H→g (.int (lo + i)) σ H fun σ2 H2=>tb { D with nx:=Pv (i + 1),ct:=Pv (i + 1),bk:=D.nx } σ2 H2) (hd:∀ σ H,Pv n σ H→D.nx σ H) :
  ∃ W:Nat→Nat→St→Hp→Prop,(∃ m,W 0 m σ H)∧∀ i m σ H,W i m σ H →
   ((Itr lo n).stop i H∧D.nx σ H)∨((Itr lo n).go i H∧∃ N:St→Hp→Prop,(∀ σ' H',N σ' H'→∃ m',m' < m∧W (i + 1) m' σ' H')∧∀ x H',(Itr lo n).yld i H x H'→g x σ H' fun σ2 H2=>tb { D with nx:=N,ct:=N,bk:=D.nx } σ2 H2):=by
 refine ⟨fun i m σ H=>m=n - i∧i≤n∧Pv i σ H,⟨n,by simp,Nat.zero_le _,h0⟩,?_⟩
 rintro i m σ H ⟨rfl,hi,p⟩
 by_cases hlt:i < n
 ·refine .inr ⟨hlt,Pv (i + 1),fun σ' H' p'=>⟨n - (i + 1),by lia,rfl,hlt,p'⟩,fun x H' y=>?_⟩
  obtain ⟨e,y⟩:=y
  subst e y
  exact hs i σ _ hlt p
 ·have e:i=n:=by lia
  subst e
  exact .inl ⟨Nat.le_refl _,hd σ H p⟩
end L2
namespace L2
open PySem PySem.Spec PyProof.Rows
noncomputable abbrev R2:=V→V→Hp→VK→Prop
noncomputable def OpR (X:Cx) (f:Value→Value→Sem Value) (r:R2):Prop :=
 ∀ (pins:List (Addr×Obj)) (s:Shared) (σ:St) (H:Hp) (x y:V) (v u:Value) (Q:VK),Inv X pins σ H s→RelV x v→RelV y u→r x y H Q →
  wpAny (model X.prog X.w) X.A (f v u) (EP X pins σ Q) X.xe s
noncomputable def UnR (X:Cx) (f:Value→Sem Value) (r:V→Hp→VK→Prop):Prop :=
 ∀ (pins:List (Addr×Obj)) (s:Shared) (σ:St) (H:Hp) (x:V) (v:Value) (Q:VK),Inv X pins σ H s→RelV x v→r x H Q →
  wpAny (model X.prog X.w) X.A (f v) (EP X pins σ Q) X.xe s
noncomputable def CallR (X:Cx) (f:Value) (r:List V→Hp→VK→Prop):Prop :=
 ∀ (pins:List (Addr×Obj)) (s:Shared) (σ:St) (H:Hp) (xs:List V) (us:List Value) (Q:VK),Inv X pins σ H s→Vals xs us→r xs H Q →
  wpAny (model X.prog X.w) X.A (call f us) (EP X pins σ Q) X.xe s
noncomputable def TruR (X:Cx) (r:V→Hp→(Bool→Hp→Prop)→Prop):Prop :=
 ∀ (pins:List (Addr×Obj)) (s:Shared) (σ:St) (H:Hp) (x:V) (v:Value) (Q:Bool→Hp→Prop),Inv X pins σ H s→RelV x v→r x H Q →
  wpAny (model X.prog X.w) X.A (truthy v) (TP X pins σ Q) X.xe s
noncomputable def tOp (r:R2) (ta tb:TE):TE:=fun σ H Q=>ta σ H fun x H1=>tb σ H1 fun y H2=>r x y H2 Q
noncomputable def tUn (r:V→Hp→VK→Prop) (ta:TE):TE:=fun σ H Q=>ta σ H fun x H1=>r x H1 Q
noncomputable def rI (C:Int→Int→Prop) (g:Int→Int→V):R2:=fun x y H Q=>∃ i j,x=.int i∧y=.int j∧C i j∧Q (g i j) H
noncomputable def rI0 (g:Int→Int→V):R2:=fun x y H Q=>∃ i j,x=.int i∧y=.int j∧Q (g i j) H
noncomputable def rU (g:Int→V):V→Hp→VK→Prop:=fun x H Q=>∃ i,x=.int i∧Q (g i) H
section
variable {X:Cx} {a b c:Expr} {ta tb tc:TE} {pos:Pos}
theorem binT (ha:PE X a ta) (hb:PE X b tb) {pins:List (Addr×Obj)} {s:Shared} {σ:St} {H:Hp} {R:V→V→Hp→Prop} (I:Inv X pins σ H s)
  (h:ta σ H fun x H1=>tb σ H1 fun y H2=>R x y H2) {Q:Value→Shared→Prop} {f:Value→Value→Sem Value}
  (hf:∀ v u s2 x y H2,Inv X pins σ H2 s2→RelV x v→RelV y u→R x y H2→wpAny (model X.prog X.w) X.A (f v u) Q X.xe s2) :
  wpAny (model X.prog X.w) X.A (eval a X.env) (fun v s₁=>wpAny (model X.prog X.w) X.A (eval b X.env) (fun u s₂=>wpAny (model X.prog X.w) X.A (f v u) Q X.xe s₂) X.xe s₁) X.xe s:=by
 refine thn (ha pins s σ H _ I h) fun v s1 ⟨x,H1,I1,r1,q1⟩=>?_
 refine thn (hb pins s1 σ H1 _ I1 q1) fun u s2 ⟨y,H2,I2,r2,q2⟩=>?_
 exact hf v u s2 x y H2 I2 r1 r2 q2
theorem pe_op {op:Operator} {r:R2} (ho:OpR X (binaryOp op) r) (ha:PE X a ta) (hb:PE X b tb):PE X (.BinOp a op b pos) (tOp r ta tb):=by
 intro pins s σ H Q I h
 exact wpAny_BinOp (binT ha hb I h fun v u s2 x y H2 I2 rx ry q=>ho pins s2 σ H2 x y v u Q I2 rx ry q)
theorem pe_un {op:UnaryOp} {r:V→Hp→VK→Prop} (ho:UnR X (unaryOp op) r) (ha:PE X a ta):PE X (.UnaryOp op a pos) (tUn r ta):=by
 intro pins s σ H Q I h
 exact UnaryOp_ (thn (ha pins s σ H _ I h) fun v s1 ⟨x,H1,I1,r1,q1⟩=>ho pins s1 σ H1 x v Q I1 r1 q1)
theorem opI {f:Value→Value→Sem Value} {C:Int→Int→Prop} {g:Int→Int→Int}
  (rule:∀ (i j:Int) (t u:Tok) (s:Shared) (Q:Value→Shared→Prop) (E:Value→Shared→Prop),C i j→Q (.int (g i j) s.toks) { s with toks:=s.toks + 1 }→wpAny (model X.prog X.w) X.A (f (.int i t) (.int j u)) Q E s) :
  OpR X f (rI C fun i j=>.int (g i j)):=by
 intro pins s σ H x y v u Q I rx ry h
 obtain ⟨i,j,rfl,rfl,hc,q⟩:=h
 obtain ⟨t,rfl⟩:=rx
 obtain ⟨t',rfl⟩:=ry
 exact rule i j t t' s _ _ hc ⟨.int (g i j),H,I.tok _,⟨_,rfl⟩,q⟩
theorem opI0 {f:Value→Value→Sem Value} {g:Int→Int→Int}
  (rule:∀ (i j:Int) (t u:Tok) (s:Shared) (Q:Value→Shared→Prop) (E:Value→Shared→Prop),Q (.int (g i j) s.toks) { s with toks:=s.toks + 1 }→wpAny (model X.prog X.w) X.A (f (.int i t) (.int j u)) Q E s) :
  OpR X f (rI0 fun i j=>.int (g i j)):=by
 intro pins s σ H x y v u Q I rx ry h
 obtain ⟨i,j,rfl,rfl,q⟩:=h
 obtain ⟨t,rfl⟩:=rx
 obtain ⟨t',rfl⟩:=ry
 exact rule i j t t' s _ _ ⟨.int (g i j),H,I.tok _,⟨_,rfl⟩,q⟩
theorem opB0 {f:Value→Value→Sem Value} {g:Int→Int→Bool}
  (rule:∀ (i j:Int) (t u:Tok) (s:Shared) (Q:Value→Shared→Prop) (E:Value→Shared→Prop),Q (.bool (g i j)) s→wpAny (model X.prog X.w) X.A (f (.int i t) (.int j u)) Q E s) :
  OpR X f (rI0 fun i j=>.bl (g i j)):=by
 intro pins s σ H x y v u Q I rx ry h
 obtain ⟨i,j,rfl,rfl,q⟩:=h
 obtain ⟨t,rfl⟩:=rx
 obtain ⟨t',rfl⟩:=ry
 exact rule i j t t' s _ _ ⟨.bl (g i j),H,I,rfl,q⟩
noncomputable def CDiv (i j:Int):Prop:=0 < j∧j < 1073741824
noncomputable def CPow (i j:Int):Prop:=0≤j∧j≤1000000∧i.natAbs < 2 ^ 64
noncomputable def CMul (i j:Int):Prop:=(-(2 ^ 64) < i∧i < 2 ^ 64)∨(-(2 ^ 64) < j∧j < 2 ^ 64)
theorem CMul.ok {i j:Int} (h:CMul i j):IntMulOk i j:=by
 rcases h with ⟨h1,h2⟩ | ⟨h1,h2⟩
 ·exact .of_left (intBits_le_64 h1 h2)
 ·exact .of_right (intBits_le_64 h1 h2)
theorem op_add:OpR X (binaryOp .Add) (rI0 fun i j=>.int (i + j)):=opI0 fun _ _ _ _ _ _ _ q=>add_int q
theorem op_sub:OpR X (binaryOp .Sub) (rI0 fun i j=>.int (i - j)):=opI0 fun _ _ _ _ _ _ _ q=>sub_int q
theorem op_mul:OpR X (binaryOp .Mult) (rI CMul fun i j=>.int (i * j)):=opI fun _ _ _ _ _ _ _ hc q=>mul_int q hc.ok
theorem op_fdiv:OpR X (binaryOp .FloorDiv) (rI CDiv fun i j=>.int (i / j)):=opI fun i j _ _ _ _ _ hc q=>by
 have h1:(0:Int) < j:=hc.1
 have h2:j < 1073741824:=hc.2
 exact floordiv_int (by lia) (by rw [Int.fdiv_eq_ediv_of_nonneg i (by lia)]; exact q) (.inl (PyProof.noPylong_small (by lia)))
theorem op_mod:OpR X (binaryOp .Mod) (rI (fun _ j=>0 < j) fun i j=>.int (i % j)):=opI fun i j _ _ _ _ _ hc q=>by
 have h1:(0:Int) < j:=hc
 exact mod_int' (by lia) (by rw [Int.fmod_eq_emod_of_nonneg i (by lia)]; exact q)
theorem op_pow:OpR X (binaryOp .Pow) (rI CPow fun i j=>.int (i ^ j.toNat)):=opI fun _ _ _ _ _ _ _ hc q=>pow_int_small hc.1 hc.2.1 hc.2.2 q
theorem unI {f:Value→Sem Value} {g:Int→Int}
  (rule:∀ (i:Int) (t:Tok) (s:Shared) (Q:Value→Shared→Prop) (E:Value→Shared→Prop),Q (.int (g i) s.toks) { s with toks:=s.toks + 1 }→wpAny (model X.prog X.w) X.A (f (.int i t)) Q E s) :
  UnR X f (rU fun i=>.int (g i)):=by
 intro pins s σ H x v Q I rx h
 obtain ⟨i,rfl,q⟩:=h
 obtain ⟨t,rfl⟩:=rx
 exact rule i t s _ _ ⟨.int (g i),H,I.tok _,⟨_,rfl⟩,q⟩
theorem un_neg:UnR X (unaryOp .USub) (rU fun i=>.int (-i)):=unI fun _ _ _ _ _ q=>neg_int q
end
noncomputable def scal:V→V→Bool
 | .non,.non=>true | .non,.int _=>true | .int _,.non=>true | .non,.bl _=>true | .bl _,.non=>true | .non,.str _=>true | .str _,.non=>true
 | .int _,.int _=>true | .bl _,.bl _=>true | .str _,.str _=>true | .byt _,.byt _=>true
 | .int _,.str _=>true | .str _,.int _=>true | .bl _,.str _=>true | .str _,.bl _=>true
 | _,_=>false
noncomputable def rEq:R2:=fun x y H Q=>scal x y=true∧Q (.bl (decide (x=y))) H
noncomputable def rNe:R2:=fun x y H Q=>scal x y=true∧Q (.bl (!decide (x=y))) H
theorem dec_int {i j:Int}:decide (V.int i=V.int j)=(i == j):=by
 rw [Bool.eq_iff_iff]
 simp
theorem dec_bl {i j:Bool}:decide (V.bl i=V.bl j)=(i == j):=by
 rw [Bool.eq_iff_iff]
 simp
theorem dec_str {i j:Str}:decide (V.str i=V.str j)=(i == j):=by
 rw [Bool.eq_iff_iff]
 simp
theorem dec_byt {i j:Array UInt8}:decide (V.byt i=V.byt j)=(i.toList == j.toList):=by
 rw [Bool.eq_iff_iff]
 cases i
 cases j
 simp
section
variable {X:Cx} {a b c:Expr} {ta tb tc:TE} {pos:Pos}
theorem fin_bl {pins:List (Addr×Obj)} {σ:St} {H:Hp} {s:Shared} {Q:VK} {k k':Bool} (I:Inv X pins σ H s) (q:Q (.bl k) H) (e:k=k'):EP X pins σ Q (.bool k') s:=by
 subst e
 exact ⟨.bl k,H,I,rfl,q⟩
theorem op_eq:OpR X (compareOp .Eq) rEq:=by
 intro pins s σ H x y v u Q I rx ry h
 obtain ⟨hs,q⟩:=h
 cases x with
 | non =>
  cases rx
  cases y with
  | non=>cases ry; exact PySem.EqNone.eq_none_none (fin_bl I q (by simp))
  | bl j=>cases ry; exact PySem.EqNone.eq_none_bool (fin_bl I q (by simp))
  | int j=>obtain ⟨t',rfl⟩:=ry; exact PySem.EqNone.eq_none_int (fin_bl I q (by simp))
  | str j=>obtain ⟨t',rfl⟩:=ry; exact PySem.EqNone.eq_none_str (fin_bl I q (by simp))
  | _=>exact absurd (show false=true from hs) Bool.false_ne_true
 | bl i =>
  cases rx
  cases y with
  | non=>cases ry; exact PySem.EqNone.eq_bool_none (fin_bl I q (by simp))
  | bl j=>cases ry; exact eq_bool (fin_bl I q dec_bl)
  | str j=>obtain ⟨t',rfl⟩:=ry; exact PySem.EqMixed.eq_bool_str (fin_bl I q (by simp))
  | _=>exact absurd (show false=true from hs) Bool.false_ne_true
 | int i =>
  obtain ⟨t,rfl⟩:=rx
  cases y with
  | non=>cases ry; exact PySem.EqNone.eq_int_none (fin_bl I q (by simp))
  | int j=>obtain ⟨t',rfl⟩:=ry; exact eq_int (fin_bl I q dec_int)
  | str j=>obtain ⟨t',rfl⟩:=ry; exact PySem.EqMixed.eq_int_str (fin_bl I q (by simp))
  | _=>exact absurd (show false=true from hs) Bool.false_ne_true
 | str i =>
  obtain ⟨t,rfl⟩:=rx
  cases y with
  | non=>cases ry; exact PySem.EqNone.eq_str_none (fin_bl I q (by simp))
  | bl j=>cases ry; exact PySem.EqMixed.eq_str_bool (fin_bl I q (by simp))
  | int j=>obtain ⟨t',rfl⟩:=ry; exact PySem.EqMixed.eq_str_int (fin_bl I q (by simp))
  | str j=>obtain ⟨t',rfl⟩:=ry; exact eq_str (fin_bl I q dec_str)
  | _=>exact absurd (show false=true from hs) Bool.false_ne_true
 | byt i =>
  obtain ⟨t,rfl⟩:=rx
  cases y with
  | byt j=>obtain ⟨t',rfl⟩:=ry; exact PySem.W.eq_bytes (fin_bl I q dec_byt)
  | _=>exact absurd (show false=true from hs) Bool.false_ne_true
 | _=>cases y <;> exact absurd (show false=true from hs) Bool.false_ne_true
theorem op_ne:OpR X (compareOp .NotEq) rNe:=by
 intro pins s σ H x y v u Q I rx ry h
 obtain ⟨hs,q⟩:=h
 cases x with
 | non =>
  cases rx
  cases y with
  | non=>cases ry; exact PySem.EqNone.ne_none_none (fin_bl I q (by simp))
  | bl j=>cases ry; exact PySem.EqNone.ne_none_bool (fin_bl I q (by simp))
  | int j=>obtain ⟨t',rfl⟩:=ry; exact PySem.EqNone.ne_none_int (fin_bl I q (by simp))
  | str j=>obtain ⟨t',rfl⟩:=ry; exact PySem.EqNone.ne_none_str (fin_bl I q (by simp))
  | _=>exact absurd (show false=true from hs) Bool.false_ne_true
 | bl i =>
  cases rx
  cases y with
  | non=>cases ry; exact PySem.EqNone.ne_bool_none (fin_bl I q (by simp))
  | bl j=>cases ry; exact ne_bool (fin_bl I q (congrArg not dec_bl))
  | str j=>obtain ⟨t',rfl⟩:=ry; exact PySem.EqMixed.ne_bool_str (fin_bl I q (by simp))
  | _=>exact absurd (show false=true from hs) Bool.false_ne_true
 | int i =>
  obtain ⟨t,rfl⟩:=rx
  cases y with
  | non=>cases ry; exact PySem.EqNone.ne_int_none (fin_bl I q (by simp))
  | int j=>obtain ⟨t',rfl⟩:=ry; exact ne_int (fin_bl I q (congrArg not dec_int))
  | str j=>obtain ⟨t',rfl⟩:=ry; exact PySem.EqMixed.ne_int_str (fin_bl I q (by simp))
  | _=>exact absurd (show false=true from hs) Bool.false_ne_true
 | str i =>
  obtain ⟨t,rfl⟩:=rx
  cases y with
  | non=>cases ry; exact PySem.EqNone.ne_str_none (fin_bl I q (by simp))
  | bl j=>cases ry; exact PySem.EqMixed.ne_str_bool (fin_bl I q (by simp))
  | int j=>obtain ⟨t',rfl⟩:=ry; exact PySem.EqMixed.ne_str_int (fin_bl I q (by simp))
  | str j=>obtain ⟨t',rfl⟩:=ry; exact ne_str (fin_bl I q (congrArg not dec_str))
  | _=>exact absurd (show false=true from hs) Bool.false_ne_true
 | byt i =>
  obtain ⟨t,rfl⟩:=rx
  cases y with
  | byt j=>obtain ⟨t',rfl⟩:=ry; exact PySem.W.ne_bytes (fin_bl I q (congrArg not dec_byt))
  | _=>exact absurd (show false=true from hs) Bool.false_ne_true
 | _=>cases y <;> exact absurd (show false=true from hs) Bool.false_ne_true
theorem op_lt:OpR X (compareOp .Lt) (rI0 fun i j=>.bl (decide (i < j))):=opB0 fun _ _ _ _ _ _ _ q=>lt_int q
theorem op_le:OpR X (compareOp .LtE) (rI0 fun i j=>.bl (decide (i≤j))):=opB0 fun _ _ _ _ _ _ _ q=>le_int q
theorem op_ge:OpR X (compareOp .GtE) (rI0 fun i j=>.bl (decide (j≤i))):=opB0 fun _ _ _ _ _ _ _ q=>ge_int q
theorem op_in_str:OpR X (compareOp .In) (fun x y H Q=>∃ i j,x=.str i∧y=.str j∧Q (.bl (!(Builtin.Str.occurrences j i 0 j.length 1).isEmpty)) H):=by
 intro pins s σ H x y v u Q I rx ry h
 obtain ⟨i,j,rfl,rfl,q⟩:=h
 obtain ⟨t,rfl⟩:=rx
 obtain ⟨t',rfl⟩:=ry
 exact in_str (fin_bl I q rfl)
theorem op_isN:OpR X (compareOp .Is) (fun x y H Q=>y=.non∧Q (.bl (decide (x=.non))) H):=by
  intro pins s σ H x y v u Q I rx ry h
  obtain ⟨rfl,q⟩:=h
  cases ry
  refine is_none_gen (fin_bl I q ?_)
  cases x <;> first
    | (cases rx; rfl)
    | (obtain ⟨t,rfl⟩:=rx; rfl)
theorem nomark (b:Expr) {op:CmpOp} (h:op≠.In:=by decide) (h2:op≠.NotIn:=by decide):behindInMarks op b=false:=by
 have e1:(op == CmpOp.In)=false:=by cases op <;> first | rfl | exact absurd rfl h
 have e2:(op == CmpOp.NotIn)=false:=by cases op <;> first | rfl | exact absurd rfl h2
 cases b <;> simp [behindInMarks,e1,e2]
theorem pe_cmpR {op:CmpOp} {r:R2} (ho:OpR X (compareOp op) r) (ha:PE X a ta) (hb:PE X b tb) (hm:behindInMarks op b=false):PE X (.Compare a [op] [b] pos) (tOp r ta tb):=by
 intro pins s σ H Q I h
 exact wpAny_Compare1 (binT ha hb I h fun v u s2 x y H2 I2 rx ry q=>ho pins s2 σ H2 x y v u Q I2 rx ry q) hm
noncomputable def tTest (t:TE):TT:=fun σ H Q=>t σ H fun x H'=>∃ k,x=.bl k∧Q k H'
theorem pt_cmpR {op:CmpOp} {r:R2} (ho:OpR X (compareOp op) r) (ha:PE X a ta) (hb:PE X b tb) (hm:behindInMarks op b=false):PT X (.Compare a [op] [b] pos) (tTest (tOp r ta tb)):=by
 intro pins s σ H Q I h
 refine wpAny_isTrue_Compare1 (thn (ha pins s σ H _ I h) fun v s1 ⟨x,H1,I1,r1,q1⟩=>thn (hb pins s1 σ H1 _ I1 q1) fun u s2 ⟨y,H2,I2,r2,q2⟩ =>
  thn (ho pins s2 σ H2 x y v u _ I2 r1 r2 q2) fun c s3 ⟨z,H3,I3,r3,k,e,q3⟩=>?_) hm
 subst e
 cases r3
 exact wpAny_truthy_bool ⟨H3,I3,q3⟩
noncomputable def TruV (K:PySem.W.Frag) (x:V) (H:Hp) (k:Bool):Prop :=
 match x with
 | .non=>k=false
 | .bl b=>k=b
 | .int i=>k=(i != 0)
 | .str y=>y.length≤sizeLine∧k=((y.length:Int) != 0)
 | .byt y=>y.size≤sizeLine∧k=((y.size:Int) != 0)
 | .ref p=>(∃ xs,SqL K H p xs∧k=!xs.isEmpty)∨(∃ xs,SqT K H p xs∧k=!xs.isEmpty)∨∃ kvs,H p=some (.dK kvs)∧k=!kvs.isEmpty
 | _=>False
theorem isEmpty_kv {κ:Type} {kvs:List (κ×V)} {vs:List (κ×Value)} (r:KV kvs vs):(!vs.isEmpty)=!kvs.isEmpty:=by
 cases r <;> rfl
theorem isEmpty_of {xs:List V} {its:List Value} (r:Vals xs its):(!its.toArray.isEmpty)=!xs.isEmpty:=by
 cases r <;> simp
theorem line63:(sizeLine:Nat) < 2 ^ 63:=by rw [sizeLine_eq]; decide
theorem tru_ok:TruR X (fun x H Q=>∃ k,TruV X.K x H k∧Q k H):=by
 intro pins s σ H x v Q I rx h
 obtain ⟨k,e,q⟩:=h
 have hl:=line63
 have hs:sizeLine=16777216:=sizeLine_eq
 cases x with
 | non =>
  cases rx
  have e':k=false:=e
  subst e'
  exact truthy_none ⟨H,I,q⟩
 | bl b =>
  cases rx
  have e':k=b:=e
  subst e'
  exact wpAny_truthy_bool ⟨H,I,q⟩
 | int i =>
  obtain ⟨t,rfl⟩:=rx
  have e':k=(i != 0):=e
  subst e'
  exact PySem.P.truthy_int ⟨H,I,q⟩
 | str y =>
  obtain ⟨t,rfl⟩:=rx
  obtain ⟨hy,e'⟩:y.length≤sizeLine∧k=((y.length:Int) != 0):=e
  subst e'
  exact PySem.P.truthy_str (by lia) ⟨H,I.tok _,q⟩
 | byt y =>
  obtain ⟨t,rfl⟩:=rx
  obtain ⟨hy,e'⟩:y.size≤sizeLine∧k=((y.size:Int) != 0):=e
  subst e'
  exact PySem.W.truthy_bytes (by lia) ⟨H,I.tok _,q⟩
 | ref p =>
  cases rx
  have e':(∃ xs,SqL X.K H p xs∧k=!xs.isEmpty)∨(∃ xs,SqT X.K H p xs∧k=!xs.isEmpty)∨∃ kvs,H p=some (.dK kvs)∧k=!kvs.isEmpty:=e
  rcases e' with ⟨xs,hx,e'⟩ | ⟨xs,hx,e'⟩ | ⟨kvs,hx,e'⟩
  ·subst e'
   obtain ⟨its,r,pl,hz⟩:=I.list hx
   have hlen:=r.length
   exact wpAny_truthy_list pl.isList (by simp only [List.size_toArray]; lia) ⟨H,I.tok _,by rw [isEmpty_of r]; exact q⟩
  ·subst e'
   obtain ⟨its,r,pl,hz⟩:=I.tuple hx
   have hlen:=r.length
   exact truthy_tuple pl (by simp only [List.size_toArray]; lia) ⟨H,I.tok _,by rw [isEmpty_of r]; exact q⟩
  ·subst e'
   obtain ⟨hz,hS,vs,r,m⟩:kvs.length≤sizeLine∧(p == sysModules)=false∧∃ vs,KV kvs vs∧s.heap.DictOf (mixKind X.prog X.w) p vs:=I.hok p _ hx
   have hlen:kvs.length=vs.length:=Paired.length r
   exact wpAny_truthy_dict hS m (by lia) ⟨H,I.tok _,by rw [isEmpty_kv r]; exact q⟩
 | _=>exact (show False from e).elim
theorem pt_truth (ha:PE X a ta) (he:∀ whole,isTrue a X.env whole=(do let v ← whole; standAt a.pos; holding [v] (truthy v))) :
  PT X a (fun σ H Q=>ta σ H fun x H'=>∃ k,TruV X.K x H' k∧Q k H'):=by
 intro pins s σ H Q I h
 exact isTrue_plain (thn (ha pins s σ H _ I h) fun v s1 ⟨x,H1,I1,r1,q1⟩=>tru_ok pins s1 σ H1 x v Q I1 r1 q1) (he _)
theorem op_add_str:OpR X (binaryOp .Add) (fun x y H Q=>∃ i j,x=.str i∧y=.str j∧i.length + j.length≤sizeLine∧Q (.str (i++j)) H):=by
 intro pins s σ H x y v u Q I rx ry h
 obtain ⟨i,j,rfl,rfl,hz,q⟩:=h
 obtain ⟨t,rfl⟩:=rx
 obtain ⟨t',rfl⟩:=ry
 exact add_str (fun t' tk=>⟨.str (i++j),H,I.tok _,⟨_,rfl⟩,q⟩) hz
theorem vals1 {x:V} {us:List Value} (r:Vals [x] us):∃ u,us=[u]∧RelV x u:=by
 cases r with
 | cons r1 r2=>cases r2; exact ⟨_,rfl,r1⟩
theorem vals2 {x y:V} {us:List Value} (r:Vals [x,y] us):∃ u w',us=[u,w']∧RelV x u∧RelV y w':=by
 cases r with
 | cons r1 r2 =>
  cases r2 with
  | cons r3 r4=>cases r4; exact ⟨_,_,rfl,r1,r3⟩
theorem call_max2 (hc:X.calm=true):CallR X (.builtin "max") (fun xs H Q=>∃ i j,xs=[.int i,.int j]∧Q (.int (if j > i then j else i)) H):=by
 intro pins s σ H xs us Q I r h
 obtain ⟨i,j,rfl,q⟩:=h
 obtain ⟨u,w',rfl,⟨t,rfl⟩,⟨t',rfl⟩⟩:=vals2 r
 refine max_two_ints (I.ok.hd hc) fun h' tk k=>⟨_,H,I.kept k,?_,q⟩
 by_cases hj:j > i
 ·rw [if_pos hj,if_pos hj]; exact ⟨_,rfl⟩
 ·rw [if_neg hj,if_neg hj]; exact ⟨_,rfl⟩
theorem call_min2 (hc:X.calm=true):CallR X (.builtin "min") (fun xs H Q=>∃ i j,xs=[.int i,.int j]∧Q (.int (if j < i then j else i)) H):=by
 intro pins s σ H xs us Q I r h
 obtain ⟨i,j,rfl,q⟩:=h
 obtain ⟨u,w',rfl,⟨t,rfl⟩,⟨t',rfl⟩⟩:=vals2 r
 refine min_two_ints (I.ok.hd hc) fun h' tk k=>⟨_,H,I.kept k,?_,q⟩
 by_cases hj:j < i
 ·rw [if_pos hj,if_pos hj]; exact ⟨_,rfl⟩
 ·rw [if_neg hj,if_neg hj]; exact ⟨_,rfl⟩
theorem call_int1:CallR X (.type "int") (fun xs H Q=>(∃ i,xs=[.int i]∧Q (.int i) H)∨∃ k,xs=[.bl k]∧Q (.int (if k then 1 else 0)) H):=by
 intro pins s σ H xs us Q I r h
 rcases h with ⟨i,rfl,q⟩ | ⟨k,rfl,q⟩
 ·obtain ⟨u,rfl,t,rfl⟩:=vals1 r
  exact call_int_int ⟨.int i,H,I,⟨_,rfl⟩,q⟩
 ·obtain ⟨u,rfl,r1⟩:=vals1 r
  cases r1
  exact call_int_bool ⟨.int (if k then 1 else 0),H,I.tok _,⟨_,rfl⟩,q⟩
theorem call_str_int:CallR X (.type "str") (fun xs H Q=>∃ i,xs=[.int i]∧i.natAbs.log2 < 1920∧Q (.str (toString i)) H):=by
 intro pins s σ H xs us Q I r h
 obtain ⟨i,rfl,hz,q⟩:=h
 obtain ⟨u,rfl,t,rfl⟩:=vals1 r
 exact PySem.P.str_of_int hz ⟨.str _,H,I.tok _,⟨_,rfl⟩,q⟩
end
end L2
namespace L2
open PySem PySem.Spec PyProof.Rows
structure ObjM (h:Heap) (x dx C:Addr) (mA:Str→Option Value):Prop where
 obj:h.get? x=some (PySem.W.instObj C dx)
 ns:h.Ns1 dx mA
 ne:dx≠x
theorem lookIn_ns {h:Heap} {dx:Addr} {mA:Str→Option Value} (n:h.Ns1 dx mA):∃ od,h.get? dx=some od∧∀ name,PySem.W.lookIn name od=some (mA name):=by
 obtain ⟨o,es,ep,ho,hd,hk,_,hm⟩:=n
 refine ⟨o,ho,fun name=>?_⟩
 have e:=hm name
 unfold nsFind findBy at e
 rw [← Array.find?_toList] at e
 unfold PySem.W.lookIn
 rw [hd]
 dsimp only
 split
 ·rename_i y q
  rw [q] at e
  exact congrArg some e
 ·rename_i q
  rw [q] at e
  have a:es.toList.any (·.refKey)=false:=by
   rw [List.any_eq_false]
   intro y hy
   obtain ⟨z,t,hkey⟩:=hk y (Array.mem_toList_iff.mp hy)
   simp [DictEntry.refKey,hkey]
  have a':¬ es.toList.any (·.refKey)=true:=by rw [a]; exact Bool.false_ne_true
  rw [if_neg a']
  exact congrArg some e
theorem ObjM.look {h:Heap} {x dx C:Addr} {mA:Str→Option Value} (I:ObjM h x dx C mA):∃ od,PySem.W.InstAt h x (PySem.W.instObj C dx) C (some od)∧∀ name,PySem.W.lookIn name od=some (mA name) :=
 let ⟨od,ho,hl⟩:=lookIn_ns I.ns
 ⟨od,⟨I.obj,rfl,rfl,ho⟩,hl⟩
section
variable {prog:Program} {w:World} {A:Around} {E:Value→Shared→Prop} {s:Shared} {K:PySem.W.Frag} {x dx C f:Addr} {mA:Str→Option Value} {name:Str} {v:Value}
theorem get_map {expr:Bool} {Q:Value→Shared→Prop} (X:K.In s.heap) (I:ObjM s.heap x dx C mA) (hg:PySem.W.plainGet K C name=true) (hh:PySem.W.hasDictIn K C=true)
  (ha:PySem.W.findIn K (.ref C) name=some none) (hv:mA name=some v) (hv':PySem.W.handedIn v=true) (h:Q v { s with toks:=s.toks + 1 }) :
  wpAny (model prog w) A (getAttr (.ref x) name expr) Q E s:=by
 obtain ⟨od,J,hl⟩:=I.look
 exact PySem.W.get_value X J (PySem.W.plainGet_of hg).1 (PySem.W.findObj_own hh ha rfl (by rw [hl,hv])) hv' h
theorem get_meth {pl:Sem Bool} {Q:Value×List Value→Shared→Prop} (X:K.In s.heap) (I:ObjM s.heap x dx C mA) (hg:PySem.W.plainGet K C name=true)
  (hf:PySem.W.findIn K (.ref C) name=some (some (.ref f))) (ht:PySem.W.isFn K (.ref f)=true) (hv:mA name=none) (h:Q (.ref f,[.ref x]) s) :
  wpAny (model prog w) A (getMethod (.ref x) name pl) Q E s:=by
 obtain ⟨od,J,hl⟩:=I.look
 exact PySem.W.method_fn X J (PySem.W.plainGet_of hg).1 (PySem.W.plainGet_of hg).2 hf (beq_iff_eq.mp ht) (by show (PySem.W.lookIn name od).map (·.isSome)=some false; rw [hl,hv]; rfl) h
theorem set_map {ns:List Str} {Q:Unit→Shared→Prop} (X:K.In s.heap) (I:ObjM s.heap x dx C mA)
  (hs:PySem.W.findIn K (.ref C) "__setattr__"=some (some (.builtin "object.__setattr__"))) (hp:PySem.W.plainOver K C=true) (ht:PySem.W.takerIn K C name=some none) (hh:PySem.W.hasDictIn K C=true)
  (hw:PySem.Within mA ns) (hsz:ns.length≤sizeLine)
  (h:∀ h',ObjM h' x dx C (fun y=>if y=name then some v else mA y)→Heap.SameBut dx s.heap h'→Q () { s with heap:=h',toks:=s.toks + 2 }) :
  wpAny (model prog w) A (setAttr (.ref x) name v) Q E s:=by
 obtain ⟨od,J,hl⟩:=I.look
 refine PySem.W.set_plain X J hs (PySem.W.osa_open (s:={ s with toks:=s.toks + 1 }) (r:=none) X J hp ht fun b=>?_)
 obtain ⟨cd,hc,hd'⟩:=PySem.W.any_some hh
 have hx:s.heap.get? x=some ⟨.ref C,some dx,.plain,#[]⟩:=I.obj
 refine wpAny_bind (wpAny_pure (wpAny_bind (wpAny_bind (wpAny_loadPart hx (wpAny_bind (PySem.W.Looks.here (s:={ s with toks:=s.toks + 1 }) (PySem.W.looks_clsIn X hc) ?_))))))
 rw [hd']
 refine wpAny_pure (a:=some dx) (wpAny_bind (wpAny_pure (wpAny_bind ?_)))
 refine wpAny_nsSet1 (s:={ s with toks:=s.toks + 1 }) I.ns fun h' hn2 hs2=>?_
 obtain ⟨oD,esD,epD,hoD,hdD,hcD⟩:=hn2.count (PySem.Within.cons name v hw)
 refine wpAny_bind (wpAny_lookBehind hoD (by rw [hdD]; exact pastItsLine_dict (Nat.le_trans hcD (by rw [List.length_cons]; lia))) ?_)
 exact wpAny_pure (h _ ⟨(hs2.2 _ (Ne.symm I.ne)).trans I.obj,hn2,I.ne⟩ hs2)
theorem make_map {R:Result→Shared→Prop} {vs:List Value} {kw:List (Str×Value)} (X:K.In s.heap) (hm:PySem.W.makesIn K C=true)
  (hi:PySem.W.findIn K (.ref C) "__init__"=some (some (.ref f))) (hf:PySem.W.typeIn K (.ref f)=some (.type "function"))
  (h:codeAny (model prog w) (A.under (.builtin "type.__call__" ⟨.ref C :: vs,kw⟩)) (.call (.ref f) ⟨.ref (s.heap.objs.size + 1) :: vs,kw⟩) (PySem.W.InitBack (s.heap.objs.size + 1) R)
   { s with heap:=(s.heap.push PySem.W.emptyDict).push (PySem.W.instObj C s.heap.objs.size) }) :
  codeAny (model prog w) A (.call (.ref C) ⟨vs,kw⟩) R s:=by
 obtain ⟨hh,g,d,t,os⟩:=s
 exact PySem.W.make_core (PySem.W.makes_of X hm) (PySem.W.looks_findIn X hi) (fun self=>PySem.W.bind_fn X self hf) (.inl rfl) h
end
noncomputable def putF (f:Str) (v:V):List (Str×V)→List (Str×V)
 | []=>[(f,v)]
 | (g,x) :: r=>if g=f then (g,v) :: r else (g,x) :: putF f v r
theorem lookup_putF (f g:Str) (v:V):∀ fs:List (Str×V),(putF f v fs).lookup g=if g=f then some v else fs.lookup g
 | []=>by
  show List.lookup g [(f,v)]=_
  by_cases h:g=f
  ·have hb:(g == f)=true:=beq_iff_eq.mpr h
   simp only [List.lookup,hb,if_pos h]
  ·have hb:(g == f)=false:=beq_eq_false_iff_ne.mpr h
   simp only [List.lookup,hb,if_neg h]
 | (k,x) :: r=>by
  have ih:=lookup_putF f g v r
  rw [show putF f v ((k,x) :: r)=(if k=f then (k,v) :: r else (k,x) :: putF f v r) from rfl]
  by_cases hk:k=f
  ·rw [if_pos hk]
   by_cases h:g=k
   ·have hb:(g == k)=true:=beq_iff_eq.mpr h
    simp only [List.lookup,hb,if_pos (h.trans hk)]
   ·have hb:(g == k)=false:=beq_eq_false_iff_ne.mpr h
    simp only [List.lookup,hb,if_neg (fun e:g=f=>h (e.trans hk.symm))]
  ·rw [if_neg hk]
   by_cases h:g=k
   ·have hb:(g == k)=true:=beq_iff_eq.mpr h
    simp only [List.lookup,hb,if_neg (fun e:g=f=>hk (h.symm.trans e))]
   ·have hb:(g == k)=false:=beq_eq_false_iff_ne.mpr h
    simp only [List.lookup,hb]
    exact ih
theorem keys_putF (f:Str) (v:V):∀ fs:List (Str×V),f∈(putF f v fs).map (·.1)∧∀ g,g∈fs.map (·.1)→g∈(putF f v fs).map (·.1)
 | []=>⟨by simp [putF],fun g h=>by simp at h⟩
 | (k,x) :: r=>by
  obtain ⟨i1,i2⟩:=keys_putF f v r
  rw [show putF f v ((k,x) :: r)=(if k=f then (k,v) :: r else (k,x) :: putF f v r) from rfl]
  by_cases hk:k=f
  ·rw [if_pos hk]
   subst hk
   exact ⟨by simp,fun g h=>by simpa using h⟩
  ·rw [if_neg hk]
   refine ⟨?_,fun g h=>?_⟩
   ·rw [List.map_cons]
    exact List.mem_cons_of_mem _ i1
   ·rw [List.map_cons] at h ⊢
    rcases List.mem_cons.mp h with e | e
    ·exact List.mem_cons.mpr (.inl e)
    ·exact List.mem_cons_of_mem _ (i2 g e)
theorem length_putF (f:Str) (v:V):∀ fs:List (Str×V),(putF f v fs).length≤fs.length + 1
 | []=>by simp [putF]
 | (k,x) :: r=>by
  have ih:=length_putF f v r
  rw [show putF f v ((k,x) :: r)=(if k=f then (k,v) :: r else (k,x) :: putF f v r) from rfl]
  by_cases hk:k=f
  ·rw [if_pos hk,List.length_cons,List.length_cons]; lia
  ·rw [if_neg hk,List.length_cons,List.length_cons]; lia
theorem RelO.some_of {v:V} {o:Option Value} (r:RelO (some v) o):∃ u,o=some u∧RelV v u:=by
 cases o with
 | none=>exact (show False from r).elim
 | some u=>exact ⟨u,rfl,r⟩
theorem RelO.none_of {o:Option Value} (r:RelO none o):o=none:=by
 cases o with
 | none=>rfl
 | some u=>exact (show False from r).elim
theorem handed_of {v:V} {u:Value} (r:RelV v u):PySem.W.handedIn u=true:=by
 cases v with
 | non=>cases (show u=Value.none from r); rfl
 | bl b=>cases (show u=Value.bool b from r); rfl
 | int i=>obtain ⟨t,e⟩:=(show ∃ t,u=Value.int i t from r); cases e; rfl
 | str x=>obtain ⟨t,e⟩:=(show ∃ t,u=Value.str x t from r); cases e; rfl
 | byt b=>obtain ⟨t,e⟩:=(show ∃ t,u=Value.bytes b t from r); cases e; rfl
 | flt b=>obtain ⟨t,e⟩:=(show ∃ t,u=Value.float b t from r); cases e; rfl
 | ref a=>cases (show u=Value.ref a from r); rfl
 | ty n=>cases (show u=Value.type n from r); rfl
section
variable {P:Program} {w:World} {H H':Hp} {h h':Heap} {a C dx:Addr} {fs fs':List (Str×V)}
theorem ins_get (hok:HOk P w H h) (e:H a=some (.ins C dx fs)):∃ mA,ObjM h a dx C mA∧(∀ f,RelO (fs.lookup f) (mA f))∧PySem.Within mA (fs.map (·.1))∧fs.length≤1000∧H dx=some (.own a):=by
 obtain ⟨d,z,ne,ob,mA,n,r,q⟩:=(show ObjOk P w H h a (.ins C dx fs) from hok a _ e)
 exact ⟨mA,⟨ob,n,ne⟩,r,q,z,d⟩
end
structure Cls (K:PySem.W.Frag) (C:Addr):Prop where
 pg:PySem.W.plainGet K C Str.empty=true
 hd:PySem.W.hasDictIn K C=true
 po:PySem.W.plainOver K C=true
 sa:PySem.W.findIn K (.ref C) "__setattr__"=some (some (.builtin "object.__setattr__"))
theorem Cls.get {K:PySem.W.Frag} {C:Addr} (c:Cls K C) (f:Str):PySem.W.plainGet K C f=true:=c.pg
noncomputable def NoAttr (K:PySem.W.Frag) (C:Addr) (f:Str):Prop:=PySem.W.findIn K (.ref C) f=some none
theorem NoAttr.taker {K:PySem.W.Frag} {C:Addr} {f:Str} (n:NoAttr K C f):PySem.W.takerIn K C f=some none:=by
 unfold PySem.W.takerIn
 rw [show PySem.W.findIn K (.ref C) f=some none from n]
 rfl
structure Meth (K:PySem.W.Frag) (C:Addr) (m:Str) (f:Addr):Prop where
 at_:PySem.W.findIn K (.ref C) m=some (some (.ref f))
 fn:PySem.W.isFn K (.ref f)=true
 kp:PySem.W.keepIn K (.ref f)=true
section
variable {X:Cx} {pins:List (Addr×Obj)} {σ:St} {H:Hp} {s:Shared} {a C dx:Addr} {fs:List (Str×V)} {f:Str} {v:V} {A:Around} {E:Value→Shared→Prop}
theorem getattr_ok {b:Bool} {Q:Value→Shared→Prop} (I:Inv X pins σ H s) (e:H a=some (.ins C dx fs)) (c:Cls X.K C) (n:NoAttr X.K C f) (l:fs.lookup f=some v)
  (h:∀ u s',Inv X pins σ H s'→RelV v u→Q u s'):wpAny (model X.prog X.w) A (getAttr (.ref a) f b) Q E s:=by
 obtain ⟨mA,O,r,_,_,_⟩:=ins_get I.hok e
 obtain ⟨u,hu,ru⟩:=RelO.some_of (v:=v) (o:=mA f) (by rw [← l]; exact r f)
 exact get_map I.kIn O (c.get f) c.hd n hu (handed_of ru) (h u _ (I.tok _) ru)
theorem getmeth_ok {m:Str} {g:Addr} {pl:Sem Bool} {Q:Value×List Value→Shared→Prop} (I:Inv X pins σ H s) (e:H a=some (.ins C dx fs)) (c:Cls X.K C) (k:Meth X.K C m g) (l:fs.lookup m=none)
  (h:Q (.ref g,[.ref a]) s):wpAny (model X.prog X.w) A (getMethod (.ref a) m pl) Q E s:=by
 obtain ⟨mA,O,r,_,_,_⟩:=ins_get I.hok e
 have hn:mA m=none:=RelO.none_of (by rw [← l]; exact r m)
 exact get_meth I.kIn O (c.get m) k.at_ k.fn hn h
theorem setattr_ok {y:V} {u:Value} {Q:Unit→Shared→Prop} (I:Inv X pins σ H s) (e:H a=some (.ins C dx fs)) (c:Cls X.K C) (n:NoAttr X.K C f) (hl:fs.length < 1000) (ry:RelV y u)
  (h:∀ s',Inv X pins σ (upd H a (.ins C dx (putF f y fs))) s'→Q () s'):wpAny (model X.prog X.w) A (setAttr (.ref a) f u) Q E s:=by
 obtain ⟨mA,O,r,wi,_,ho⟩:=ins_get I.hok e
 have hz:(fs.map (·.1)).length≤sizeLine:=by rw [List.length_map,sizeLine_eq]; lia
 refine set_map I.kIn O c.sa c.po n.taker c.hd wi hz fun h' O' sb=>h _ ?_
 have hd:∃ o,h'.get? dx=some o:=let ⟨o,_,_,e',_⟩:=O'.ns; ⟨o,e'⟩
 refine I.write (x:=a) (e:=dx) (by rw [e]; exact True.intro) (.inr ho) (fun b q hb z=>(sb.2 b hb).trans z) hd ?_
 refine ⟨by rw [upd_ne O.ne]; exact ho,?_,O.ne,O'.obj,_,O'.ns,fun g=>?_,fun g hg=>?_⟩
 ·have:=length_putF f y fs; lia
 ·show RelO ((putF f y fs).lookup g) (if g=f then some u else mA g)
  rw [lookup_putF]
  by_cases q:g=f
  ·rw [if_pos q,if_pos q]; exact ry
  ·rw [if_neg q,if_neg q]; exact r g
 ·by_cases q:g=f
  ·rw [q]; exact (keys_putF f y fs).1
  ·refine (keys_putF f y fs).2 g (wi g fun z=>hg ?_)
   show (if g=f then some u else mA g)=none
   rw [if_neg q]; exact z
theorem Inv.made (I:Inv X pins σ H s):Inv X pins σ (upd (upd H s.heap.objs.size (.own (s.heap.objs.size + 1))) (s.heap.objs.size + 1) (.ins C s.heap.objs.size []))
  { s with heap:=(s.heap.push PySem.W.emptyDict).push (PySem.W.instObj C s.heap.objs.size) }:=by
 have e1:(s.heap.push PySem.W.emptyDict).get? s.heap.objs.size=some PySem.W.emptyDict:=Heap.get?_push_size s.heap rfl
 have e2:((s.heap.push PySem.W.emptyDict).push (PySem.W.instObj C s.heap.objs.size)).get? (s.heap.objs.size + 1)=some (PySem.W.instObj C s.heap.objs.size):=by
  have:=Heap.get?_push_size (s.heap.push PySem.W.emptyDict) (o:=PySem.W.instObj C s.heap.objs.size) rfl
  rwa [Heap.size_push] at this
 have e3:(s.heap.push PySem.W.emptyDict).Ns s.heap.objs.size (fun _=>none):=⟨PySem.W.emptyDict,#[],_,e1,rfl,(fun e he=>absurd he (by simp)),fun _=>rfl⟩
 have I1:=I.laid (a:=s.heap.objs.size) (o:=.own (s.heap.objs.size + 1)) (h':=s.heap.push PySem.W.emptyDict) (t':=s.toks) (fun b u q=>Heap.get?_push_of_some _ q) (Nat.le_refl _) ⟨_,e1⟩
 refine I1.laid (a:=s.heap.objs.size + 1) (o:=.ins C s.heap.objs.size []) (t':=s.toks) (fun b u q=>Heap.get?_push_of_some _ q) (Nat.le_of_eq (Heap.size_push _ _)) ?_
 have ne:s.heap.objs.size≠s.heap.objs.size + 1:=Nat.ne_of_lt (Nat.lt_succ_self _)
 refine ⟨by rw [upd_ne ne,upd_same],Nat.zero_le _,ne,e2,fun _=>none,(Heap.Ns1.of_empty e3).at fun o q=>Heap.get?_push_of_some _ q,fun _=>True.intro,fun y hy=>absurd rfl hy⟩
theorem attr_of {prog:Program} {w:World} {env:Env} {e:Expr} {f:Str} {pos:Pos} {s:Shared} {Q:Value→Shared→Prop} (hb:attributeBase e f env (eval e env)=eval e env)
  (h:wpAny (model prog w) A (eval e env) (fun o s₁=>wpAny (model prog w) A (getAttr o f true) Q E s₁) E s):wpAny (model prog w) A (eval (.Attribute e f pos) env) Q E s :=
 Attribute_any_ h (by rw [arm_eval_Attribute,hb])
end
noncomputable def tFld (K:PySem.W.Frag) (ta:TE) (f:Str):TE:=fun σ H Q=>ta σ H fun x H1=>∃ a C dx fs v,x=.ref a∧H1 a=some (.ins C dx fs)∧Cls K C∧NoAttr K C f∧fs.lookup f=some v∧Q v H1
noncomputable def sFld (K:PySem.W.Frag) (ta tv:TE) (f:Str):TS:=fun D σ H=>tv σ H fun y H1=>ta σ H1 fun x H2=>∃ a C dx fs,x=.ref a∧H2 a=some (.ins C dx fs)∧Cls K C∧NoAttr K C f∧fs.length < 1000 ∧
 D.nx σ (upd H2 a (.ins C dx (putF f y fs)))
section
variable {X:Cx} {o e value:Expr} {f:Str} {pos pos' tpos:Pos} {ta tv:TE}
theorem pe_fld (he:PE X e ta) (hb:attributeBase e f X.env (eval e X.env)=eval e X.env):PE X (.Attribute e f pos) (tFld X.K ta f):=by
 intro pins s σ H Q I h
 refine attr_of hb (thn (he pins s σ H _ I h) fun u s1 ⟨x,H1,I1,rx,a,C,dx,fs,v,ex,ea,c,n,l,q⟩=>?_)
 subst ex
 obtain rfl:u=Value.ref a:=rx
 exact getattr_ok I1 ea c n l fun u' s2 I2 ru=>⟨v,H1,I2,ru,q⟩
theorem ps_fld (ha:PE X o ta) (hv:PE X value tv) (hs:swapsWith value (some (.Attribute o f pos')) pos.line X.env=pure false):PS X (.Assign [.Attribute o f pos'] value pos) (sFld X.K ta tv f):=by
 intro pins s σ H D I h
 refine plainObj_wpAny_Assign_Attribute (thn (hv pins s σ H _ I h) fun u s1 ⟨y,H1,I1,ry,q⟩=>thn (ha pins s1 σ H1 _ I1 q) fun ov s2 ⟨x,H2,I2,rx,a,C,dx,fs,ex,ea,c,n,l,q2⟩=>?_) hs
 subst ex
 obtain rfl:ov=Value.ref a:=rx
 exact setattr_ok I2 ea c n l ry fun s3 I3=>⟨σ,_,I3,q2⟩
end
section
variable {X:Cx} {pins:List (Addr×Obj)} {σ:St} {H:Hp} {s:Shared} {A:Around} {E:Value→Shared→Prop} {Q:Value→Shared→Prop} {c:Value} {b:Bool}
inductive TyOf (K:PySem.W.Frag) (H:Hp):V→Value→Prop where
 | non:TyOf K H .non (.type "NoneType")
 | bl (x:Bool):TyOf K H (.bl x) (.type "bool")
 | int (i:Int):TyOf K H (.int i) (.type "int")
 | str (x:Str):TyOf K H (.str x) (.type "str")
 | flt (x:UInt64):TyOf K H (.flt x) (.type "float")
 | lst {a:Addr} {xs:List V} (e:H a=some (.lst xs)):TyOf K H (.ref a) (.type "list")
 | frz {a:Addr} {o:Obj} {xs:List V} (e:H a=some (.frz o (.lst xs))):TyOf K H (.ref a) (.type "list")
 | tup {a:Addr} {xs:List V} (e:H a=some (.tup xs)):TyOf K H (.ref a) (.type "tuple")
 | dK {a:Addr} {kvs:List (Key×V)} (e:H a=some (.dK kvs)):TyOf K H (.ref a) (.type "dict")
 | dT {a:Addr} {kvs:List (List Key×V)} (e:H a=some (.dT kvs)):TyOf K H (.ref a) (.type "dict")
 | ins {a C dx:Addr} {fs:List (Str×V)} (e:H a=some (.ins C dx fs)) (cl:Cls K C) (ha:PySem.W.findIn K (.ref C) "__class__"=some (some (.builtin "object.__class__")))
   (hn:PySem.W.specialIn K (.builtin "object.__class__") "__get__"=some (some (.builtin "getset_descriptor.__get__"))) (htk:PySem.W.takesIn K (.builtin "object.__class__")=some true)
   (hm:PySem.W.mroIn K C (.type "object")=some true):TyOf K H (.ref a) (.ref C)
theorem isinst_ok {x:V} {u t:Value} (I:Inv X pins σ H s) (rx:RelV x u) (ty:TyOf X.K H x t) (e:PySem.W.kitOne X.K t c=some b) (h:∀ tk,Q (.bool b) { s with toks:=tk }) :
  wpAny (model X.prog X.w) A (call (.builtin "isinstance") [u,c]) Q E s:=by
 cases ty with
 | non=>cases (show u=Value.none from rx); exact PySem.W.kia_one PySem.W.kitx_none I.kIn True.intro e (fun z=>nomatch z) h
 | bl y=>cases (show u=Value.bool y from rx); exact PySem.W.kia_one PySem.W.kitx_bool I.kIn True.intro e (fun z=>nomatch z) h
 | int i=>obtain ⟨t,q⟩:=(show ∃ t,u=Value.int i t from rx); cases q; exact PySem.W.kia_one PySem.W.kitx_int I.kIn True.intro e (fun z=>nomatch z) h
 | str y=>obtain ⟨t,q⟩:=(show ∃ t,u=Value.str y t from rx); cases q; exact PySem.W.kia_one PySem.W.kitx_str I.kIn True.intro e (fun z=>nomatch z) h
 | flt y=>obtain ⟨t,q⟩:=(show ∃ t,u=Value.float y t from rx); cases q; exact PySem.W.kia_one PySem.W.kitx_float I.kIn True.intro e (fun z=>nomatch z) h
 | @lst a xs ea =>
  cases (show u=Value.ref a from rx)
  obtain ⟨_,_,n,_,h1⟩:=(show ObjOk X.prog X.w H s.heap a (.lst xs) from I.hok a _ ea)
  exact PySem.W.kia_one PySem.W.kitx_list I.kIn ⟨_,h1,rfl⟩ e (fun z=>nomatch z) h
 | @frz a ob xs ea =>
  cases (show u=Value.ref a from rx)
  obtain ⟨_,_,_,n,_,h1⟩:=(show ObjOk X.prog X.w H s.heap a (.frz ob (.lst xs)) from I.hok a _ ea)
  exact PySem.W.kia_one PySem.W.kitx_list I.kIn ⟨_,h1,rfl⟩ e (fun z=>nomatch z) h
 | @tup a xs ea =>
  cases (show u=Value.ref a from rx)
  obtain ⟨_,_,_,p⟩:=(show ObjOk X.prog X.w H s.heap a (.tup xs) from I.hok a _ ea)
  obtain ⟨o,h1,h2,_⟩:=p
  exact PySem.W.kia_one PySem.W.kitx_tuple I.kIn ⟨o,h1,h2⟩ e (fun z=>nomatch z) h
 | @dK a kvs ea =>
  cases (show u=Value.ref a from rx)
  obtain ⟨_,_,vs,_,p⟩:=(show ObjOk X.prog X.w H s.heap a (.dK kvs) from I.hok a _ ea)
  obtain ⟨o,es,ep,h1,h2,_⟩:=p
  exact PySem.W.kia_one PySem.W.kitx_dict I.kIn ⟨o,h1,h2.1⟩ e (fun z=>nomatch z) h
 | @dT a kvs ea =>
  cases (show u=Value.ref a from rx)
  obtain ⟨_,_,xs,_,o,es,ep,h1,h2,_⟩:=(show ObjOk X.prog X.w H s.heap a (.dT kvs) from I.hok a _ ea)
  exact PySem.W.kia_one PySem.W.kitx_dict I.kIn ⟨o,h1,h2.1⟩ e (fun z=>nomatch z) h
 | @ins a C dx fs ea cl ha hn htk hm =>
  cases (show u=Value.ref a from rx)
  obtain ⟨mA,O,_⟩:=ins_get I.hok ea
  obtain ⟨od,J,_⟩:=O.look
  exact PySem.W.kia_one (PySem.W.kitx_own (cl.get _) cl.hd ha hn htk hm) I.kIn J e (fun z=>nomatch z) h
end
end L2
namespace L2
open PySem PySem.Spec PyProof.Rows
structure Room (k:Nat) (A:Around):Prop where
 hd:A.handled=none
 dp:A.depth + 3 * k + 5 < recursionLimit
 un:A.units + 16 * k + 200 < cLine
theorem Room.mono {j k:Nat} {A:Around} (r:Room k A) (h:j≤k):Room j A:=⟨r.hd,by have:=r.dp; lia,by have:=r.un; lia⟩
theorem Room.deeper {k:Nat} {A:Around} (r:Room (k + 1) A) (env:Env):Room k (A.deeper env) :=
 ⟨r.hd,by have:=r.dp; show A.depth + 1 + 3 * k + 5 < _; lia,by have:=r.un; show A.units + 3 + 16 * k + 200 < _; lia⟩
theorem Room.in1 {k:Nat} {A:Around} (r:Room (k + 1) A):Room k A.in1 :=
 ⟨r.hd,by have:=r.dp; show A.depth + 3 * k + 5 < _; lia,by have:=r.un; show A.units + 1 + 16 * k + 200 < _; lia⟩
theorem make_depth {A:Around} {C:Addr} {us:List Value} {kw:List (Str×Value)}:(A.under (.builtin "type.__call__" ⟨.ref C :: us,kw⟩)).depth=A.depth + 1:=by
 first | rfl | simp [Around.under,Code.weight,Code.isCreation,Code.isGuard,Code.isCaller,Code.frames,Code.isFrame,guardIds]
theorem make_units {A:Around} {C:Addr} {us:List Value} {kw:List (Str×Value)}:(A.under (.builtin "type.__call__" ⟨.ref C :: us,kw⟩)).units=A.units + 1:=by
 first | rfl | simp [Around.under,Code.cUnits,Code.frames,Code.isFrame]
theorem Room.make {k:Nat} {A:Around} (r:Room (k + 1) A) (C:Addr) (us:List Value) (kw:List (Str×Value)):Room k (A.under (.builtin "type.__call__" ⟨.ref C :: us,kw⟩)) :=
 ⟨r.hd,by have:=r.dp; rw [make_depth]; lia,by have:=r.un; rw [make_units]; lia⟩
theorem Room.depth {k:Nat} {A:Around} (r:Room k A):A.depth < recursionLimit:=by have:=r.dp; lia
theorem Room.units {k:Nat} {A:Around} (r:Room k A):A.units + 64 < cLine:=by have:=r.un; lia
noncomputable def tNil:TA:=fun _ H Q=>Q [] H
noncomputable def tCons (ta:TE) (tr:TA):TA:=fun σ H Q=>ta σ H fun x H1=>tr σ H1 fun xs H2=>Q (x :: xs) H2
section
variable {X:Cx} {e:Expr} {es:List Expr} {te:TE} {t:TA} {pos:Pos}
theorem pa_nil:PA X [] tNil:=fun _ _ _ _ H Q I h=>Calls.spliced_nil ⟨[],H,I,.nil,h⟩
theorem pa_cons (ha:PE X e te) (hr:PA X es t) (hs:starEach (e :: es) X.env=(false,eval e X.env) :: starEach es X.env:=by rfl):PA X (e :: es) (tCons te t):=by
 intro pos pins s σ H Q I h
 rw [hs]
 show wpAny _ _ (spliced ((false,eval e X.env) :: backTo pos (starEach es X.env))) _ _ s
 refine Calls.spliced_cons (thn (ha pins s σ H _ I h) fun u s1 ⟨x,H1,I1,r1,q1⟩=>?_)
 exact thn (hr pos pins s1 σ H1 _ I1 q1) fun us s2 ⟨xs,H2,I2,r2,q2⟩=>⟨x :: xs,H2,I2,.cons r1 r2,q2⟩
noncomputable def tTup (t:TA):TE:=fun σ H Q=>t σ H fun xs H1=>xs.length≤sizeLine∧∀ p,H1 p=none→Q (.ref p) (upd H1 p (.tup xs))
noncomputable def tLst (t:TA):TE:=fun σ H Q=>t σ H fun xs H1=>xs.length≤sizeLine∧∀ p,H1 p=none→Q (.ref p) (upd H1 p (.lst xs))
theorem pe_tup {x1} (h:PA X es t):PE X (.Tuple es x1 pos) (tTup t):=by
 intro pins s σ H Q I hq
 refine wpAny_Tuple_spliced (thn (h pos pins s σ H _ I hq) fun us s1 ⟨xs,H1,I1,r,z,q⟩=>⟨by rw [← r.length]; exact z,?_⟩)
 have hf:H1 s1.heap.objs.size=none:=I1.hok.fresh (Nat.le_refl _)
 refine ⟨.ref s1.heap.objs.size,upd H1 s1.heap.objs.size (.tup xs),I1.laid (t':=s1.toks) (fun b u e=>Heap.get?_push_of_some _ e) (Nat.le_refl _) ?_,rfl,q _ hf⟩
 exact ⟨z,us,r,⟨_,Heap.get?_push_size _ rfl,rfl,_,rfl⟩⟩
theorem pe_lst (h:PA X es t):PE X (.List es pos) (tLst t):=by
 intro pins s σ H Q I hq
 refine wpAny_List_spliced (thn (h pos pins s σ H _ I hq) fun us s1 ⟨xs,H1,I1,r,z,q⟩=>⟨by rw [← r.length]; exact z,?_⟩)
 have hf:H1 s1.heap.objs.size=none:=I1.hok.fresh (Nat.le_refl _)
 refine ⟨.ref s1.heap.objs.size,upd H1 s1.heap.objs.size (.lst xs),I1.laid (t':=s1.toks) (fun b u e=>Heap.get?_push_of_some _ e) (Nat.le_refl _) ?_,rfl,q _ hf⟩
 exact ⟨z,us,0,r,Heap.get?_push_size _ rfl⟩
end
noncomputable abbrev Sp:=List V→Hp→VK→XK→Prop
noncomputable abbrev CXT:=List Env→Hp→Shared→XK→Value→Shared→Prop
structure Env0 (P:Program) (w:World) (K:PySem.W.Frag) (mg:Str→Option Value) (base:Heap) (A:Around) (outer:List Env) (s:Shared) (H:Hp):Prop where
 frames:A.frames=some outer
 mod:Mod K mg base
 bs:∀ b o,base.get? b=some o→s.heap.get? b=some o∧H b=none
 bsz:base.objs.size≤s.heap.objs.size
 funs:s.heap.FunFrames base outer
 frf:∀ b∈frs outer,H b=none
 hok:HOk P w H s.heap
 bare:AllBare s.gens
noncomputable def CE (outer:List Env) (P:Program) (w:World) (H:Hp) (s:Shared) (Q:VK) (u:Value) (s':Shared):Prop :=
 ∃ v H',s'.os=s.os∧AllBare s'.gens∧Un (frs outer) [] H H' s.heap s'.heap∧HOk P w H' s'.heap∧RelV v u∧Q v H'
noncomputable def CR (CX:CXT) (outer:List Env) (P:Program) (w:World) (H:Hp) (s:Shared) (Q:VK) (E:XK) (r:Result) (s':Shared):Prop :=
 match r with
 | .ok (.ret u)=>CE outer P w H s Q u s'
 | .ok _=>False
 | .error e=>CX outer H s E e s'
structure FnOk (P:Program) (w:World) (K:PySem.W.Frag) (mg:Str→Option Value) (base:Heap) (CX:CXT) (k:Nat) (f:Addr) (fd:FuncData) (ps:List Str) (sp:Sp):Prop where
 len:∀ vs H Q E,sp vs H Q E→vs.length=ps.length
 run:∀ (A:Around) (outer:List Env) (s:Shared) (H:Hp) (args:Args) (us:List Value) (vs:List V) (Q:VK) (E:XK),Room k A→Env0 P w K mg base A outer s H→BindsTo s fd args (ps.zip us)→Vals vs us→sp vs H Q E →
  codeAny (model P w) A (.call (.ref f) args) (CR CX outer P w H s Q E) s
theorem Env0.make {P:Program} {w:World} {K:PySem.W.Frag} {mg:Str→Option Value} {base:Heap} {A:Around} {outer:List Env} {s:Shared} {H:Hp} (e:Env0 P w K mg base A outer s H) (C:Addr) (us:List Value) (kw:List (Str×Value)) :
  Env0 P w K mg base (A.under (.builtin "type.__call__" ⟨.ref C :: us,kw⟩)) outer s H:=⟨by first | exact e.frames | (simpa [Around.under,Code.envs,Code.isFrame,pushEnvs] using e.frames),e.mod,e.bs,e.bsz,e.funs,e.frf,e.hok,e.bare⟩
theorem Env0.in1 {P:Program} {w:World} {K:PySem.W.Frag} {mg:Str→Option Value} {base:Heap} {A:Around} {outer:List Env} {s:Shared} {H:Hp} (e:Env0 P w K mg base A outer s H) :
  Env0 P w K mg base A.in1 outer s H:=⟨e.frames,e.mod,e.bs,e.bsz,e.funs,e.frf,e.hok,e.bare⟩
section
variable {X:Cx} {pins:List (Addr×Obj)} {σ:St} {H:Hp} {s s':Shared}
theorem Inv.env0 (I:Inv X pins σ H s):Env0 X.prog X.w X.K X.mg X.base X.A X.stack s H :=
 ⟨I.ok.frames,I.ok.mod,I.bs,Nat.le_trans I.ok.bsz I.sz,I.stack,I.stkFree,I.hok,I.bare⟩
theorem Inv.after {Q:VK} {u:Value} (I:Inv X pins σ H s) (h:CE X.stack X.prog X.w H s Q u s'):EP X pins σ Q u s':=by
 obtain ⟨v,H',os,bare,un,hok,r,q⟩:=h
 obtain ⟨hh,g,d,t,os'⟩:=s'
 obtain rfl:os'=s.os:=os
 exact ⟨v,H',I.call (h':=hh) (g':=g) (d':=d) (t':=t) (ch:=[]) un hok bare (fun b z=>absurd z (by simp)),r,q⟩
end
noncomputable def tCall (sp:Sp) (dvs:List V) (E:XK) (t:TA):TE:=fun σ H Q=>t σ H fun vs H1=>sp (vs++dvs) H1 Q E
noncomputable def tMeth (C:Addr) (m:Str) (sp:Sp) (dvs:List V) (E:XK) (ta:TE) (t:TA):TE:=fun σ H Q=>ta σ H fun x H1=>∃ a dx fs,x=.ref a∧H1 a=some (.ins C dx fs)∧fs.lookup m=none ∧
 t σ H1 fun vs H2=>sp (x :: (vs++dvs)) H2 Q E
noncomputable def tMake (C:Addr) (sp:Sp) (dvs:List V) (E:XK) (t:TA):TE:=fun σ H Q=>t σ H fun vs H1=>∀ x dx,H1 x=none→H1 dx=none→dx≠x →
 sp (.ref x :: (vs++dvs)) (upd (upd H1 dx (.own x)) x (.ins C dx [])) (fun v H2=>v=.non∧Q (.ref x) H2) E
noncomputable def Binds (K:PySem.W.Frag) (fd:FuncData) (ps:List Str) (ds:List Value):Prop :=
 ∀ (s:Shared) (us:List Value),K.In s.heap→(us++ds).length=ps.length→BindsTo s fd ⟨us,[]⟩ (ps.zip (us++ds))
theorem Binds.all {K:PySem.W.Frag} {fd:FuncData} {ps:List Str} (h:∀ us:List Value,us.length=ps.length→bindArgs fd ⟨us,[]⟩=pure (ps.zip us)):Binds K fd ps []:=fun s us _ hl=>by
 rw [List.append_nil] at hl ⊢
 exact .of_eq (h us hl)
noncomputable def Passes (CX:CXT) (X:Cx) (E:XK):Prop:=∀ (pins:List (Addr×Obj)) (σ:St) (H:Hp) (s:Shared) (e:Value) (s':Shared),Inv X pins σ H s→CX X.stack H s E e s'→X.xe e s'
section
variable {X:Cx} {CX:CXT} {k:Nat} {f C:Addr} {fd:FuncData} {ps:List Str} {sp:Sp} {dvs:List V} {ds:List Value} {E:XK} {x m:Str} {p pos apos:Pos} {e o:Expr} {es:List Expr} {ta:TE} {t:TA}
theorem run_fn {pins:List (Addr×Obj)} {σ:St} {H:Hp} {s:Shared} {Q:VK} {us:List Value} {vs:List V} (F:FnOk X.prog X.w X.K X.mg X.base CX k f fd ps sp) (hr:Room k X.A) (hb:Binds X.K fd ps ds) (hd:Vals dvs ds) (hx:Passes CX X E)
  (I:Inv X pins σ H s) (r:Vals vs us) (h:sp (vs++dvs) H Q E):wpAny (model X.prog X.w) X.A (call (.ref f) us) (EP X pins σ Q) X.xe s:=by
 have r2:Vals (vs++dvs) (us++ds):=r.append hd
 have hl:(us++ds).length=ps.length:=by rw [← r2.length]; exact F.len _ _ _ _ h
 refine wpAny_call (codeAny_mono (F.run X.A X.stack s H ⟨us,[]⟩ (us++ds) (vs++dvs) Q E hr I.env0 (hb s us I.kIn hl) r2 h) fun r s' hq=>?_)
 cases r with
 | error e=>exact hx pins σ H s e s' I hq
 | ok fl =>
  cases fl with
  | ret u=>exact I.after hq
  | next=>exact False.elim hq
  | brk=>exact False.elim hq
  | cont=>exact False.elim hq
theorem pe_call (F:FnOk X.prog X.w X.K X.mg X.base CX k f fd ps sp) (hr:Room k X.A) (hg:Gl X x) (hm:X.mg x=some (.ref f)) (hk:PySem.W.keepIn X.K (.ref f)=true) (hb:Binds X.K fd ps ds) (hd:Vals dvs ds) (hx:Passes CX X E)
  (ha:PA X (e :: es) t) (hdb:(x == ("__debug__":Str))=false:=by decide) (he:starEach (e :: es) X.env=(false,eval e X.env) :: starEach es X.env:=by rfl) (hpl:(backTo pos (starEach es X.env)).any (·.1)=false:=by rfl) :
  PE X (.Call (.Name x p) (e :: es) [] pos) (tCall sp dvs E t):=by
 intro pins s σ H Q I h
 refine wpAny_Call_Name_kw (ld_glob I hg hm ?_ hdb)
 refine PySem.W.callWith_K (h₀:=X.base) I.ok.mod.kin hk (thn (ha pos pins s σ H _ I h) fun us s1 ⟨vs,H1,I1,r,q⟩=>⟨I1.kIn,?_⟩) he hpl
 exact run_fn F hr hb hd hx I1 r q
theorem pe_meth {pl:Sem Bool} (he:PE X o ta) (c:Cls X.K C) (hm:Meth X.K C m f) (F:FnOk X.prog X.w X.K X.mg X.base CX k f fd ps sp) (hr:Room k X.A) (hb:Binds X.K fd ps ds) (hd:Vals dvs ds) (hx:Passes CX X E) (ha:PA X (e :: es) t)
  (hst:starEach (e :: es) X.env=(false,eval e X.env) :: starEach es X.env:=by rfl) (hpl:(backTo pos (starEach es X.env)).any (·.1)=false:=by rfl)
  (ht:eval (.Call (.Attribute o m apos) (e :: es) [] pos) X.env=(do
   let ov ← eval o X.env
   standAt apos.atName
   let (f,first) ← holding [ov] (getMethod ov m pl)
   callWith pos f first (backTo pos (starEach (e :: es) X.env)) (backToKw pos (keywordEach [] X.env))):=by rfl) :
  PE X (.Call (.Attribute o m apos) (e :: es) [] pos) (tMeth C m sp dvs E ta t):=by
 intro pins s σ H Q I h
 refine PySem.W.methodCall_KW (pl:=pl) (thn (he pins s σ H _ I h) fun u s1 ⟨x,H1,I1,rx,a,dx,fs,ex,ea,l,q⟩=>?_) ht
 subst ex
 obtain rfl:u=Value.ref a:=rx
 refine getmeth_ok I1 ea c hm l ?_
 refine PySem.W.callWith_K (first:=[.ref a]) (h₀:=X.base) I.ok.mod.kin hm.kp (thn (ha pos pins s1 σ H1 _ I1 q) fun us s2 ⟨vs,H2,I2,r,q2⟩=>⟨I2.kIn,?_⟩) hst hpl
 exact run_fn (us:=.ref a :: us) (vs:=.ref a :: vs) F hr hb hd hx I2 (.cons rfl r) q2
structure Mk (K:PySem.W.Frag) (C f:Addr):Prop where
 makes:PySem.W.makesIn K C=true
 init:PySem.W.findIn K (.ref C) "__init__"=some (some (.ref f))
 fn:PySem.W.isFn K (.ref f)=true
 kp:PySem.W.keepIn K (.ref C)=true
theorem run_make {pins:List (Addr×Obj)} {σ:St} {H:Hp} {s:Shared} {Q:VK} {us:List Value} {vs:List V} (M:Mk X.K C f) (F:FnOk X.prog X.w X.K X.mg X.base CX k f fd ps sp) (hr:Room (k + 1) X.A) (hb:Binds X.K fd ps ds) (hd:Vals dvs ds)
  (hx:Passes CX X E) (I:Inv X pins σ H s) (r:Vals vs us)
  (h:∀ x dx,H x=none→H dx=none→dx≠x→sp (.ref x :: (vs++dvs)) (upd (upd H dx (.own x)) x (.ins C dx [])) (fun v H2=>v=.non∧Q (.ref x) H2) E) :
  wpAny (model X.prog X.w) X.A (call (.ref C) us) (EP X pins σ Q) X.xe s:=by
 have hq:=h (s.heap.objs.size + 1) s.heap.objs.size (I.hok.fresh (Nat.le_succ _)) (I.hok.fresh (Nat.le_refl _)) (Nat.ne_of_lt (Nat.lt_succ_self _))
 have I2:=Inv.made (C:=C) I
 have r2:Vals (V.ref (s.heap.objs.size + 1) :: (vs++dvs)) (Value.ref (s.heap.objs.size + 1) :: (us++ds)):=.cons rfl (r.append hd)
 have hl:(Value.ref (s.heap.objs.size + 1) :: us++ds).length=ps.length:=by
  have e:=r2.length
  rw [F.len _ _ _ _ hq] at e
  exact e.symm
 refine wpAny_call (make_map (f:=f) I.kIn M.makes M.init (beq_iff_eq.mp M.fn) (codeAny_mono (F.run _ X.stack _ _ ⟨Value.ref (s.heap.objs.size + 1) :: us,[]⟩ (Value.ref (s.heap.objs.size + 1) :: (us++ds)) _ _ E (hr.make C us [])
  (I2.env0.make C us []) (hb _ (Value.ref (s.heap.objs.size + 1) :: us) I2.kIn hl) r2 hq) fun r s' hq'=>?_))
 cases r with
 | error e=>exact hx pins σ _ _ e s' I2 hq'
 | ok fl =>
  cases fl with
  | ret u =>
   obtain ⟨v,H',I3,rv,ev,q3⟩:=I2.after hq'
   subst ev
   exact ⟨rv,⟨V.ref (s.heap.objs.size + 1),H',I3,rfl,q3⟩⟩
  | next=>exact False.elim hq'
  | brk=>exact False.elim hq'
  | cont=>exact False.elim hq'
theorem pe_make0 (M:Mk X.K C f) (F:FnOk X.prog X.w X.K X.mg X.base CX k f fd ps sp) (hr:Room (k + 1) X.A) (hg:Gl X x) (hm:X.mg x=some (.ref C)) (hb:Binds X.K fd ps ds) (hd:Vals dvs ds) (hx:Passes CX X E)
  (hdb:(x == ("__debug__":Str))=false:=by decide):PE X (.Call (.Name x p) [] [] pos) (tMake C sp dvs E tNil):=by
 intro pins s σ H Q I h
 refine wpAny_Call_Name_kw (ld_glob I hg hm ?_ hdb)
 exact PySem.W.callWith_K0 I.kIn M.kp (run_make (us:=[]) M F hr hb hd hx I .nil h)
end
section
variable {X:Cx} {CX:CXT} {k:Nat} {f C:Addr} {fd:FuncData} {ps ks:List Str} {sp:Sp} {E:XK} {x m:Str} {p pos apos kpos:Pos} {e o:Expr} {es:List Expr} {kws:List Keyword} {te ta:TE} {t tk:TA} {nm:Option Str}
variable {g:List Value→List Value→List Value} {gV:List V→List V→List V}
end
structure FnScope (N P:List Str) (sc:Scope):Prop where
 kind:sc.kind=.function
 co:sc.isCoroutine=false
 gen:sc.isGenerator=false
 nd:N.Nodup
 pre:N.take P.length=P
 par:∀ x∈P,sc.names.lookup x=some .local∨sc.names.lookup x=some .cell
 nofree:∀ y∈sc.names,y.2≠.free
theorem bindL_out {kindOf:Str→Option NameKind} {x:Str}:∀ {binds:List (Str×Value)} {m:Str→Option Value},(∀ v,(x,v) ∉ binds)→bindL kindOf binds m x=m x
 | [],_,_=>rfl
 | (n,v) :: r,m,h=>by
  unfold bindL
  rw [bindL_out fun w hw=>h w (List.mem_cons_of_mem _ hw)]
  split
  ·have:x≠n:=by rintro rfl; exact h v List.mem_cons_self
   simp [this]
  ·rfl
theorem bindC_out {kindOf:Str→Option NameKind} {x:Str}:∀ {binds:List (Str×Value)} {m:Str→Option Value},(∀ v,(x,v) ∉ binds)→bindC kindOf binds m x=m x
 | [],_,_=>rfl
 | (n,v) :: r,m,h=>by
  unfold bindC
  rw [bindC_out fun w hw=>h w (List.mem_cons_of_mem _ hw)]
  split
  ·rfl
  ·have:x≠n:=by rintro rfl; exact h v List.mem_cons_self
   simp [this]
theorem bindL_get {kindOf:Str→Option NameKind} {x:Str} {v:Value}:∀ {P:List Str} {vs:List Value} {i:Nat} {m:Str→Option Value},P.Nodup→P[i]?=some x→vs[i]?=some v→kindOf x=some .local →
  bindL kindOf (P.zip vs) m x=some v
 | [],_,_,_,_,h,_,_=>by simp at h
 | _ :: _,[],_,_,_,_,h,_=>by simp at h
 | p :: P,w :: vs,0,m,nd,h1,h2,hk=>by
  simp at h1 h2; subst h1; subst h2
  show bindL kindOf ((p,w) :: P.zip vs) m p=_
  unfold bindL
  rw [bindL_out fun v hv=>(List.nodup_cons.mp nd).1 (List.of_mem_zip hv).1,if_pos hk]
  simp
 | p :: P,w :: vs,i + 1,m,nd,h1,h2,hk=>by
  show bindL kindOf ((p,w) :: P.zip vs) m x=_
  unfold bindL
  exact bindL_get (i:=i) (List.nodup_cons.mp nd).2 (by simpa using h1) (by simpa using h2) hk
theorem bindC_get {kindOf:Str→Option NameKind} {x:Str} {v:Value}:∀ {P:List Str} {vs:List Value} {i:Nat} {m:Str→Option Value},P.Nodup→P[i]?=some x→vs[i]?=some v→kindOf x≠some .local →
  bindC kindOf (P.zip vs) m x=some v
 | [],_,_,_,_,h,_,_=>by simp at h
 | _ :: _,[],_,_,_,_,h,_=>by simp at h
 | p :: P,w :: vs,0,m,nd,h1,h2,hk=>by
  simp at h1 h2; subst h1; subst h2
  show bindC kindOf ((p,w) :: P.zip vs) m p=_
  unfold bindC
  rw [bindC_out fun v hv=>(List.nodup_cons.mp nd).1 (List.of_mem_zip hv).1,if_neg hk]
  simp
 | p :: P,w :: vs,i + 1,m,nd,h1,h2,hk=>by
  show bindC kindOf ((p,w) :: P.zip vs) m x=_
  unfold bindC
  exact bindC_get (i:=i) (List.nodup_cons.mp nd).2 (by simpa using h1) (by simpa using h2) hk
noncomputable def start (N:List Str) (vs:List V):St:=vs.map some++List.replicate (N.length - vs.length) none
noncomputable def cxOf (CX:CXT) (P:Program) (w:World) (K:PySem.W.Frag) (mg:Str→Option Value) (base:Heap) (N:List Str) (qual:Str) (scope:Scope) (f:Addr) (cd:Value) (A:Around) (outer:List Env) (s:Shared) (H:Hp) (E:XK):Cx where
 prog:=P
 w:=w
 K:=K
 mg:=mg
 base:=base
 A:=A.deeper (envOfC qual scope s.heap.objs.size f cd)
 N:=N
 s₀:=s
 H₀:=H
 env:=envOfC qual scope s.heap.objs.size f cd
 outer:=outer
 stack:=envOfC qual scope s.heap.objs.size f cd :: outer
 ex:=[]
 calm:=true
 fn:=fun _=>true
 pn:=[]
 xe:=fun e s'=>wpAny (model P w) (A.deeper (envOfC qual scope s.heap.objs.size f cd)) (leaving (envOfC qual scope s.heap.objs.size f cd) e) (fun _ s''=>CX outer H s E e s'') (fun e' s''=>CX outer H s E e' s'') s'
theorem cell_has {sc:Scope} {n:Nat} {x:Str} (h:sc.names.lookup x=some .cell):∃ c,(cellsFrom n sc.names []).lookup x=some c:=by
 have q:=PySem.W.cellsFrom_some sc.names n [] (.inl h)
 exact Option.isSome_iff_exists.mp q
theorem inv_start {CX:CXT} {P:Program} {w:World} {K:PySem.W.Frag} {mg:Str→Option Value} {base:Heap} {N ps:List Str} {qual:Str} {scope:Scope} {f:Addr} {cd:Value} {A:Around} {outer:List Env} {s s1:Shared} {H:Hp} {E:XK} {us:List Value} {vs:List V}
  (S:FnScope N ps scope) (hd:A.handled=none) (e0:Env0 P w K mg base A outer s H) (hl:vs.length=ps.length) (r:Vals vs us)
  (x:InCallC s s.heap.objs.size (bindL (envOfC qual scope s.heap.objs.size f cd).kindOf (ps.zip us) fun _=>none) (cellsFrom (s.heap.objs.size + 1) scope.names []) (bindC (envOfC qual scope s.heap.objs.size f cd).kindOf (ps.zip us) fun _=>none) s1) :
  Inv (cxOf CX P w K mg base N qual scope f cd A outer s H E) [] (start N vs) H s1:=by
 have hpl:ps.length≤N.length:=by have:=congrArg List.length S.pre; rw [List.length_take] at this; lia
 obtain ⟨h1,tk,rfl,hk⟩:=x.done
 have noA:∀ b:Addr,b ∉ (cxOf CX P w K mg base N qual scope f cd A outer s H E).ex:=fun b z=>absurd (show b∈([]:List Addr) from z) (by simp)
 refine ⟨⟨e0.mod,S.kind,rfl,rfl,Nat.le_refl _,fun y z c h1 h2=>?_,fun y hy=>?_,fun y c _ h=>?_,fun _=>hd,Around.frames_deeper e0.frames,.inr ⟨rfl,rfl⟩,fun b z=>absurd z (noA b),e0.bs,e0.bsz,fun b _ _=>noA b,fun b z=>absurd z (noA b),e0.funs,e0.frf⟩,
  rfl,e0.bare,Un.kept hk,⟨_,x.toInCall.ns,fun i y v h1 h2 h3=>?_⟩,fun y c h=>⟨_,x.cell y c h⟩,e0.hok.fresh (Nat.le_refl _),fun y c h=>?_,fun p hp=>absurd (show p∈([]:List (Addr×Obj)) from hp) (by simp),e0.hok.kept hk,?_⟩
 ·exact name_of_addr x.apart (PySem.mem_of_lookup h1) (PySem.mem_of_lookup h2)
 ·have hy:scope.names.lookup y=some .cell∨scope.names.lookup y=some .free:=hy
  rcases hy with hy | hy
  ·exact cell_has hy
  ·exact absurd rfl (S.nofree _ (PySem.mem_of_lookup hy))
 ·exact Nat.le_of_lt (x.above y c (PySem.mem_of_lookup h))
 ·have hi:i < vs.length:=by
   unfold start at h2
   by_cases hi:i < vs.length
   ·exact hi
   ·rw [List.getElem?_append_right (by simpa using hi)] at h2
    rw [List.getElem?_replicate] at h2
    split at h2 <;> cases h2
  have ha:vs[i]?=some v:=by
   unfold start at h2
   rw [List.getElem?_append_left (by simpa using hi),List.getElem?_map] at h2
   cases e:vs[i]? with
   | none=>rw [e] at h2; cases h2
   | some a=>rw [e] at h2; cases h2; rfl
  obtain ⟨u,hu,rv⟩:=r.get ha
  have hp:ps[i]?=some y:=by
   rw [← S.pre,List.getElem?_take_of_lt (by lia)]; exact h1
  have ndP:ps.Nodup:=by rw [← S.pre]; exact S.nd.sublist (List.take_sublist _ _)
  refine ⟨u,rv,?_⟩
  rcases S.par y (List.mem_of_getElem? hp) with k | k
  ·exact .inl ⟨k,bindL_get ndP hp hu k⟩
  ·obtain ⟨c,e⟩:=cell_has (n:=s.heap.objs.size + 1) k
   refine .inr ⟨.inl k,c,e,?_⟩
   have q:=x.cell y c e
   rw [bindC_get ndP hp hu (by show scope.names.lookup y≠_; rw [k]; decide)] at q
   exact q
 ·exact e0.hok.fresh (Nat.le_of_lt (x.above y c (PySem.mem_of_lookup h)))
 ·unfold start
  show _=N.length
  rw [List.length_append,List.length_map,List.length_replicate]
  lia
theorem fn_of {CX:CXT} {P:Program} {w:World} {K:PySem.W.Frag} {mg:Str→Option Value} {base:Heap} {k:Nat} {f:Addr} {name qual:Str} {params:Arguments} {body:List Stmt} {scope:Scope} {dV kV doc pm cdv ct oc:Value} {an od:Option Addr}
  {osl:Array (Option Value)} {N ps:List Str} {sp:Sp} (lk:K.lookup f=some ⟨oc,od,.func (PySem.W.fnOf name qual params body scope dV kV doc pm an cdv ct),osl⟩) (hcd:PySem.W.codeIn K cdv qual=true) (S:FnScope N ps scope)
  (len:∀ vs H Q E,sp vs H Q E→vs.length=ps.length)
  (hbody:∀ (A:Around) (outer:List Env) (s:Shared) (H:Hp) (vs:List V) (Q:VK) (E:XK),Room k (A.deeper (envOfC qual scope s.heap.objs.size f cdv))→sp vs H Q E →
   ∃ t,PSs (cxOf CX P w K mg base N qual scope f cdv A outer s H E) body t∧t { nx:=fun _ H'=>Q .non H',rt:=Q } (start N vs) H) :
  FnOk P w K mg base CX (k + 1) f (PySem.W.fnOf name qual params body scope dV kV doc pm an cdv ct) ps sp:=by
 refine ⟨len,fun A outer s H args us vs Q E hr e0 hb r hsp=>?_⟩
 have hl:=len _ _ _ _ hsp
 have KX:K.In s.heap:=e0.mod.kin.keeps fun b o e=>(e0.bs b o e).1
 have lim:s.heap.NoLimit:=e0.mod.nolimit.keeps fun b o e=>(e0.bs b o e).1
 have hkind:∀ y∈ps.zip us,scope.names.lookup y.1=some .local∨(scope.names.lookup y.1=some .cell∧((cellsFrom (s.heap.objs.size + 1) scope.names []).lookup y.1).isSome=true):=fun ⟨n,v⟩ hy=>by
  rcases S.par n (List.of_mem_zip hy).1 with q | q
  ·exact .inl q
  ·exact .inr ⟨q,PySem.W.cellsFrom_some _ _ _ (.inl q)⟩
 refine codeAny_call_function hr.depth (KX _ _ lk) rfl S.co S.gen rfl (PySem.W.codeRec_of KX hcd) (hb _ _ _ _ ?_)
 refine wpAny_newFunctionEnv_cells S.kind hkind fun env he s1 x=>?_
 subst he
 refine ⟨lim.keeps x.toInCall.keep,codeAny_func ?_⟩
 obtain ⟨t,ht,hq⟩:=hbody A outer s H vs Q E (hr.deeper _) hsp
 have I:Inv (cxOf CX P w K mg base N qual scope f cdv A outer s H E) [] (start N vs) H s1:=inv_start S hr.hd e0 hl r x
 refine wpAny_mono (ht [] s1 (start N vs) H _ I hq) (fun fl s' hs=>?_) fun e s' hs=>hs
 have fin:∀ {σ':St} {H':Hp} {v:V} {u:Value},Inv (cxOf CX P w K mg base N qual scope f cdv A outer s H E) [] σ' H' s'→RelV v u→Q v H'→CE outer P w H s Q u s' :=
  fun {σ' H' v u} J rv q=>⟨v,H',J.os,J.bare,J.base,J.hok,rv,q⟩
 cases fl with
 | ret u =>
  obtain ⟨v,σ',H',J,rv,q⟩:=hs
  exact fin J rv q
 | next =>
  obtain ⟨σ',H',J,q⟩:=hs
  exact fin (v:=V.non) (u:=Value.none) J rfl q
 | brk =>
  obtain ⟨_,_,_,q⟩:=hs
  exact False.elim q
 | cont =>
  obtain ⟨_,_,_,q⟩:=hs
  exact False.elim q
end L2
namespace L2
open PySem PySem.Spec PyProof.Rows
section
variable {X:Cx} {x:Str} {p pos:Pos} {e:Expr} {es:List Expr} {t:TA} {id T:String} {r:List V→Hp→VK→Prop}
noncomputable def tCB (r:List V→Hp→VK→Prop) (t:TA):TE:=fun σ H Q=>t σ H fun vs H1=>r vs H1 Q
theorem pe_callB (hc:CallR X (.builtin id) r) (hg:Gl X x) (hm:X.mg x=none) (hv:bootBuiltins x=some (.builtin id)) (ha:PA X (e :: es) t) (hn:x≠"__name__":=by decide) (hdb:(x == ("__debug__":Str))=false:=by decide)
  (he:starEach (e :: es) X.env=(false,eval e X.env) :: starEach es X.env:=by rfl) (hpl:(backTo pos (starEach es X.env)).any (·.1)=false:=by rfl):PE X (.Call (.Name x p) (e :: es) [] pos) (tCB r t):=by
 intro pins s σ H Q I h
 refine wpAny_Call_Name_kw (ld_blt I hg hm hv ?_ hn hdb)
 exact PyProof.Rows.callWith_builtin1 (thn (ha pos pins s σ H _ I h) fun us s1 ⟨vs,H1,I1,r1,q1⟩=>hc pins s1 σ H1 vs us Q I1 r1 q1) he hpl
theorem pe_callTy (hc:CallR X (.type T) r) (hg:Gl X x) (hm:X.mg x=none) (hv:bootBuiltins x=some (.type T)) (ha:PA X (e :: es) t) (hn:x≠"__name__":=by decide) (hdb:(x == ("__debug__":Str))=false:=by decide)
  (he:starEach (e :: es) X.env=(false,eval e X.env) :: starEach es X.env:=by rfl) (hpl:(backTo pos (starEach es X.env)).any (·.1)=false:=by rfl):PE X (.Call (.Name x p) (e :: es) [] pos) (tCB r t):=by
 intro pins s σ H Q I h
 refine wpAny_Call_Name_kw (ld_blt I hg hm hv ?_ hn hdb)
 exact PyProof.Rows.callWith_type1 (thn (ha pos pins s σ H _ I h) fun us s1 ⟨vs,H1,I1,r1,q1⟩=>hc pins s1 σ H1 vs us Q I1 r1 q1) he hpl
end
end L2
namespace HT
open PySem PyProof.Rows
theorem rcLt_int (A:Around) (s:Shared) (a:Int) (t:Tok) (c:Int) (u:Tok) (prog:Program) (w:World) (E:Value→Shared→Prop) (Q:Value→Shared→Prop) (h:Q (.bool (decide (a < c))) s) :
  wpAny (model prog w) A (richCompare .Lt (.int a t) (.int c u)) Q E s :=
 (PyProof.Rows.lt_int h:wpAny (model prog w) A (compareOp .Lt (.int a t) (.int c u)) Q E s)
section
open PySem.SeqAt
open PySem.AutoSeq1 (wpAny_loadPart')
open PySem.MeetsSeq PySem.MeetsSeq2 PySem.MeetsSeq3
end
section
variable {prog:Program} {w:World} {A:Around} {E:Value→Shared→Prop} {s:Shared}
theorem cat_tup {t b:Addr} {vs ws:List Value} {Q:Value→Shared→Prop} (ht:IsTup s.heap t vs.toArray) (hb:IsTup s.heap b ws.toArray) (hv:vs≠[])
  (h1:ws=[]→Q (.ref t) s) (h2:ws≠[]→Q (.ref s.heap.objs.size) { s with heap:=s.heap.push { cls:=.type "tuple",data:=.seq (vs++ws).toArray } })
  (hsz:vs.length + ws.length≤sizeLine):wpAny (model prog w) A (binaryOp .Add (.ref t) (.ref b)) Q E s:=by
 obtain ⟨⟨cls,dd,data,sl⟩,ho,hc,n,hd⟩:=id ht
 obtain ⟨⟨cls2,dd2,data2,sl2⟩,ho2,hc2,n2,hd2⟩:=id hb
 simp only at hc hd hc2 hd2
 subst hc hd hc2 hd2
 have e:vs.toArray++ws.toArray=(vs++ws).toArray:=by simp
 by_cases hw:ws=[]
 ·exact concat_meets ⟨_,ho,rfl⟩ ⟨_,ho2,rfl⟩ noFill_tuple_add seq_tuple_add PySem.F.slot_tuple_add PySem.F.entry_tuple_add (PySem.F.args_tuple_add_2 _ _)
   (tuple_addW1 t b vs.toArray ws.toArray n n2 dd dd2 sl sl2 (by simpa using hv) (by simp [hw])) ⟨ho,ho2,h1 hw⟩
 ·refine concat_meets ⟨_,ho,rfl⟩ ⟨_,ho2,rfl⟩ noFill_tuple_add seq_tuple_add PySem.F.slot_tuple_add PySem.F.entry_tuple_add (PySem.F.args_tuple_add_2 _ _)
   (tuple_addW2 t b vs.toArray ws.toArray n n2 dd dd2 sl sl2 (by simpa using hv) (by simpa using hw) (by rw [List.size_toArray,List.size_toArray]; exact hsz)) ⟨ho,ho2,?_⟩
  rw [e]
  exact h2 hw
noncomputable def sIx (n d:Nat):Option Int→Nat
 | none=>d
 | some v=>if v < 0 then (v + (n:Int)).toNat else min v.toNat n
theorem sIx_none (n d:Nat):sIx n d none=d:=rfl
theorem sIx_nat (n d k:Nat):sIx n d (some (k:Int))=min k n:=by
 show (if (k:Int) < 0 then ((k:Int) + (n:Int)).toNat else min (k:Int).toNat n)=min k n
 rw [if_neg (by lia),Int.toNat_natCast]
theorem sIx_le (n d:Nat) (hd:d≤n) (o:Option Int):sIx n d o≤n:=by
 cases o with
 | none=>exact hd
 | some v =>
  show (if v < 0 then (v + (n:Int)).toNat else min v.toNat n)≤n
  by_cases hv:v < 0
  ·rw [if_pos hv]; lia
  ·rw [if_neg hv]; exact Nat.min_le_right _ _
theorem slicePart_ {v:Value} {o:Option Int} {Q:Option Int→Shared→Prop} (p:IsPart v o) (h:Q o s):wpAny (model prog w) A (Builtin.Slice.slicePartIndex v) Q E s:=by
 cases p with
 | none=>exact slicePart_none h
 | int i t=>exact slicePart_int h
theorem pick_gen (xs:Array Value) (i k:Nat):((List.range k).filterMap fun (m:Nat)=>xs[((i:Int) + (m:Int) * 1).toNat]?).toArray=((xs.toList.drop i).take k).toArray:=by
 have e:(fun (m:Nat)=>xs[((i:Int) + (m:Int) * 1).toNat]?)=fun m=>xs[i + m]?:=by
  funext m
  have:((i:Int) + (m:Int) * 1).toNat=i + m:=by lia
  rw [this]
 rw [e]
 have:=pick_run xs i k
 rw [List.filterMap_map] at this
 have e2:((fun x=>xs[x]?) ∘ fun x=>i + x)=fun m=>xs[i + m]?:=rfl
 rw [e2] at this
 rw [this]
end
end HT
namespace L2
open PySem PySem.Spec PyProof.Rows
noncomputable abbrev TO:=St→Hp→(Option Int→Hp→Prop)→Prop
noncomputable def PO (X:Cx) (e:Option Expr) (t:TO):Prop :=
 ∀ (pins:List (Addr×Obj)) (s:Shared) (σ:St) (H:Hp) (Q:Option Int→Hp→Prop),Inv X pins σ H s→t σ H Q →
  wpAny (model X.prog X.w) X.A (evalPart e X.env) (fun u s'=>∃ o H',Inv X pins σ H' s'∧IsPart u o∧Q o H') X.xe s
noncomputable def tNoPart:TO:=fun _ H Q=>Q none H
noncomputable def tPart (t:TE):TO:=fun σ H Q=>t σ H fun x H1=>∃ i,x=.int i∧Q (some i) H1
theorem intsAre_of {ns:List Int}:∀ {us:List Value},Vals (ns.map V.int) us→IntsAre us ns:=by
 induction ns with
 | nil=>intro us r; rw [List.map_nil] at r; cases r; exact .nil
 | cons n ns ih =>
  intro us r
  rw [List.map_cons] at r
  cases r with
  | cons r1 r2 =>
   obtain ⟨t,e⟩:=r1
   subst e
   exact .cons n t (ih r2)
section
variable {X:Cx} {e:Expr} {te:TE} {lo hi:Option Expr} {tl th:TO} {pos p2:Pos}
theorem po_none:PO X none tNoPart:=by
 intro pins s σ H Q I h
 rw [evalPart_none]
 exact wpAny_pure ⟨none,H,I,.none,h⟩
theorem po_some (h:PE X e te):PO X (some e) (tPart te):=by
 intro pins s σ H Q I hw
 rw [evalPart_some]
 refine thn (h pins s σ H _ I hw) fun u s1 ⟨x,H1,I1,r1,q1⟩=>?_
 obtain ⟨i,rfl,q⟩:=q1
 obtain ⟨t,rfl⟩:=r1
 exact ⟨some i,H1,I1,.int i t,q⟩
noncomputable def SlR (X:Cx) (r:V→Option Int→Option Int→Hp→VK→Prop):Prop :=
 ∀ (pins:List (Addr×Obj)) (s:Shared) (σ:St) (H:Hp) (x:V) (v vl vu:Value) (lo hi:Option Int) (sl:Addr) (Q:VK),Inv X pins σ H s→RelV x v→s.heap.IsSliceOf sl vl vu .none→IsPart vl lo→IsPart vu hi→r x lo hi H Q →
  ∃ T id,typeLookup (.type T) "__getitem__"=pure (some (.builtin id))∧s.TypeIs v T∧wpAny (model X.prog X.w) X.A (getItem v (.ref sl)) (EP X pins σ Q) X.xe s
noncomputable def tSl (r:V→Option Int→Option Int→Hp→VK→Prop) (te:TE) (tl th:TO):TE:=fun σ H Q=>te σ H fun x H1=>tl σ H1 fun l H2=>th σ H2 fun u H3=>r x l u H3 Q
theorem pe_slice {r:V→Option Int→Option Int→Hp→VK→Prop} (hr:SlR X r) (he:PE X e te) (hl:PO X lo tl) (hu:PO X hi th):PE X (.Subscript e (.Slice lo hi none p2) pos) (tSl r te tl th):=by
 intro pins s σ H Q I h
 refine Subscript_ (thn (he pins s σ H _ I h) fun v s1 ⟨x,H1,I1,r1,q1⟩=>?_)
 refine wpAny_Slice (thn (hl pins s1 σ H1 _ I1 q1) fun vl s2 ⟨l,H2,I2,pl,q2⟩=>thn (hu pins s2 σ H2 _ I2 q2) fun vu s3 ⟨u,H3,I3,pu,q3⟩=>?_)
 rw [evalPart_none]
 refine wpAny_pure ?_
 have I4:Inv X pins σ H3 { s3 with heap:=s3.heap.push { cls:=.type "slice",data:=.fields #[vl,vu,.none] } }:=I3.kept (t':=s3.toks) fun b ob q=>Heap.get?_push_of_some _ q
 obtain ⟨T,id,hT,ht,hg⟩:=hr pins { s3 with heap:=s3.heap.push { cls:=.type "slice",data:=.fields #[vl,vu,.none] } } σ H3 x v vl vu l u s3.heap.objs.size Q I4 r1 (Heap.IsSliceOf.new ..) pl pu q3
 show wpAny (model X.prog X.w) X.A (subscriptTail e (.Slice lo hi none p2) v (.ref s3.heap.objs.size)) (EP X pins σ Q) X.xe { s3 with heap:=s3.heap.push { cls:=.type "slice",data:=.fields #[vl,vu,.none] } }
 exact tail_any (ops:=[.ref s3.heap.objs.size,v]) ht hT hg (by with_unfolding_all rfl)
noncomputable def cutV (xs:List V) (lo hi:Option Int):List V:=(xs.drop (HT.sIx xs.length 0 lo)).take (HT.sIx xs.length xs.length hi - HT.sIx xs.length 0 lo)
theorem cutV_length (xs:List V) (lo hi:Option Int):(cutV xs lo hi).length≤xs.length:=by
 unfold cutV
 rw [List.length_take,List.length_drop]
 lia
noncomputable def rCatT (K:PySem.W.Frag):R2:=fun x y H Q=>∃ a b xs ys,x=.ref a∧y=.ref b∧SqT K H a xs∧SqT K H b ys∧xs≠[]∧xs.length + ys.length≤sizeLine ∧
 (ys=[]→Q (.ref a) H)∧(ys≠[]→∀ p,H p=none→Q (.ref p) (upd H p (.tup (xs++ys))))
theorem Vals.nil_iff {xs:List V} {us:List Value} (r:Vals xs us):us=[]↔xs=[]:=by
 cases r with
 | nil=>simp
 | cons _ _=>simp
theorem op_catT:OpR X (binaryOp .Add) (rCatT X.K):=by
 intro pins s σ H x y v u Q I rx ry h
 obtain ⟨a,b,xs,ys,rfl,rfl,ha,hb,hx,hz,q1,q2⟩:=h
 cases rx
 cases ry
 obtain ⟨its,r1,p1,_⟩:=I.tuple ha
 obtain ⟨its2,r2,p2,_⟩:=I.tuple hb
 refine HT.cat_tup p1 p2 (fun z=>hx (r1.nil_iff.mp z)) (fun z=>⟨.ref a,H,I,rfl,q1 (r2.nil_iff.mp z)⟩) (fun z=>?_) (by rw [← r1.length,← r2.length]; exact hz)
 refine ⟨.ref s.heap.objs.size,_,I.laid (t':=s.toks) (o:=.tup (xs++ys)) (fun b ob q=>Heap.get?_push_of_some _ q) (Nat.le_refl _) ?_,rfl,q2 (fun w=>z (r2.nil_iff.mpr w)) _ (I.hok.fresh (Nat.le_refl _))⟩
 exact ⟨by rw [List.length_append]; exact hz,_,r1.append r2,IsTup.new _ _⟩
end
end L2
namespace L2
open PySem PySem.Spec PyProof.Rows
noncomputable def ixN (n:Nat) (i:Int):Option Nat:=if 0≤i then (if i < n then some i.toNat else none) else if -(n:Int)≤i then some (i + n).toNat else none
noncomputable def atI {α:Type} (xs:List α) (i:Int):Option α:=(ixN xs.length i).bind fun j=>xs[j]?
theorem ixN_seq {n:Nat} {i:Int} {j:Nat} (h:ixN n i=some j):seqIndex? i n=some j∧j < n∧-(n:Int)≤i∧i < n:=by
 unfold ixN at h
 by_cases h0:0≤i
 ·rw [if_pos h0] at h
  by_cases h1:i < n
  ·rw [if_pos h1] at h
   have e:i.toNat=j:=Option.some.inj h
   exact ⟨by rw [seqIndex_of h0 h1,e],by lia,by lia,h1⟩
  ·rw [if_neg h1] at h; cases h
 ·rw [if_neg h0] at h
  by_cases h1:-(n:Int)≤i
  ·rw [if_pos h1] at h
   have e:(i + n).toNat=j:=Option.some.inj h
   exact ⟨by rw [seqIndex_neg (by lia) h1,e],by lia,h1,by lia⟩
  ·rw [if_neg h1] at h; cases h
theorem atI_get {α:Type} {xs:List α} {i:Int} {v:α} (h:atI xs i=some v):∃ j,seqIndex? i xs.length=some j∧xs[j]?=some v∧j < xs.length∧-(xs.length:Int)≤i∧i < xs.length:=by
 unfold atI at h
 cases e:ixN xs.length i with
 | none=>rw [e] at h; cases h
 | some j =>
  rw [e] at h
  obtain ⟨h1,h2,h3,h4⟩:=ixN_seq e
  exact ⟨j,h1,h,h2,h3,h4⟩
theorem atI_nat {α:Type} {xs:List α} {j:Nat} {v:α} (h:xs[j]?=some v):atI xs (j:Int)=some v:=by
 have hj:j < xs.length:=(List.getElem?_eq_some_iff.mp h).1
 have e:ixN xs.length (j:Int)=some j:=by
  unfold ixN
  rw [if_pos (by lia),if_pos (by lia)]; simp
 unfold atI; rw [e]; exact h
noncomputable def PlainIx (b:Expr):Prop:=∀ o i,subscripted b false o i=operate [o,i] (getItem o i)
noncomputable def IxR (X:Cx) (r:R2):Prop :=
 ∀ (value slice:Expr) (pins:List (Addr×Obj)) (s:Shared) (σ:St) (H:Hp) (x y:V) (v u:Value) (Q:VK),Inv X pins σ H s→RelV x v→RelV y u→r x y H Q →
  subscripted slice false v u=operate [v,u] (getItem v u)→wpAny (model X.prog X.w) X.A (subscriptTail value slice v u) (EP X pins σ Q) X.xe s
noncomputable def MtR (X:Cx) (id:String) (r:V→List V→Hp→VK→Prop):Prop :=
 ∀ (pins:List (Addr×Obj)) (s:Shared) (σ:St) (H:Hp) (x:V) (xs:List V) (v:Value) (us:List Value) (Q:VK),Inv X pins σ H s→RelV x v→Vals xs us→r x xs H Q →
  wpAny (model X.prog X.w) X.A (call (.builtin id) (v :: us)) (EP X pins σ Q) X.xe s
section
variable {X:Cx} {a b:Expr} {ta tb:TE} {pos:Pos}
theorem pe_ix {r:R2} (hr:IxR X r) (ha:PE X a ta) (hb:PE X b tb) (hs:PlainIx b):PE X (.Subscript a b pos) (tOp r ta tb):=by
 intro pins s σ H Q I h
 exact Subscript_ (binT ha hb I h fun v u s2 x y H2 I2 rx ry q=>hr a b pins s2 σ H2 x y v u Q I2 rx ry q (hs _ _))
noncomputable def rIxL (K:PySem.W.Frag):R2:=fun x y H Q=>∃ p xs i v,x=.ref p∧y=.int i∧SqL K H p xs∧atI xs i=some v∧Q v H
noncomputable def rIxT (K:PySem.W.Frag):R2:=fun x y H Q=>∃ p xs i v,x=.ref p∧y=.int i∧SqT K H p xs∧atI xs i=some v∧Q v H
noncomputable def rIxS:R2:=fun x y H Q=>∃ z i c,x=.str z∧y=.int i∧z.length≤sizeLine∧atI z.cps.toList i=some c∧Q (.str ⟨#[c]⟩) H
theorem ix_list:IxR X (rIxL X.K):=by
 intro value slice pins s σ H x y v u Q I rx ry h hs
 obtain ⟨p,xs,i,z,rfl,rfl,hq,he,q⟩:=h
 cases rx
 obtain ⟨t,rfl⟩:=ry
 obtain ⟨its,r,pl,hz⟩:=I.list hq
 obtain ⟨j,h1,h2,h3,h4,h5⟩:=atI_get he
 obtain ⟨w,ew,rw'⟩:=r.get h2
 have hl:=r.length
 have hn:=line63
 have fin:EP X pins σ Q w s:=⟨z,H,I,rw',q⟩
 by_cases h0:0≤i
 ·have hj:i.toNat=j:=by
   rw [seqIndex_of h0 h5] at h1
   exact Option.some.inj h1
  exact item_listR pl.isList h0 (by lia) (by rw [hj]; simpa using ew) fin hs
 ·have hj:(i + (its.toArray.size:Int)).toNat=j:=by
   rw [seqIndex_neg (by lia) h4] at h1
   rw [List.size_toArray,← hl]
   exact Option.some.inj h1
  exact subscriptTail_builtinR (x:=w) pl.isList.typeIs slot_list_getitem.lookup
   (wpAny_getItem_list_neg (Q:=fun r s'=>r=w∧EP X pins σ Q r s') pl.isList (by lia) (by rw [List.size_toArray] <;> lia) (by lia) (by rw [hj]; simpa using ew) ⟨rfl,fin⟩) hs
theorem ix_tup:IxR X (rIxT X.K):=by
 intro value slice pins s σ H x y v u Q I rx ry h hs
 obtain ⟨p,xs,i,z,rfl,rfl,hq,he,q⟩:=h
 cases rx
 obtain ⟨t,rfl⟩:=ry
 obtain ⟨its,r,pl,hz⟩:=I.tuple hq
 obtain ⟨j,h1,h2,h3,h4,h5⟩:=atI_get he
 obtain ⟨w,ew,rw'⟩:=r.get h2
 have hl:=r.length
 have hn:=line63
 have fin:EP X pins σ Q w s:=⟨z,H,I,rw',q⟩
 exact subscriptTail_builtinR (x:=w) pl.typeIs slot_tuple_getitem.lookup
  (getItem_tuple (j:=j) (Q:=fun r s'=>r=w∧EP X pins σ Q r s') pl (by lia) (by lia) (by rw [List.size_toArray,← hl]; exact h1) (by simpa using ew) ⟨rfl,fin⟩) hs
theorem ix_str:IxR X rIxS:=by
 intro value slice pins s σ H x y v u Q I rx ry h hs
 obtain ⟨z,i,c,rfl,rfl,hz,he,q⟩:=h
 obtain ⟨t,rfl⟩:=rx
 obtain ⟨t',rfl⟩:=ry
 obtain ⟨j,h1,h2,h3,h4,h5⟩:=atI_get he
 have hl:z.cps.toList.length=z.length:=by simp [Str.length]
 rw [hl] at h1 h4 h5
 have hn:=line63
 exact tail_any (typeIs_str s z t) slot_str_getitem.lookup (getItem_str (c:=c) (by
  have e1:decide (i < -(2 ^ 63:Int))=false:=decide_eq_false (by lia)
  have e2:decide (i ≥ 2 ^ 63)=false:=decide_eq_false (by lia)
  rw [e1,e2,Bool.or_false]) (by rw [h1]; simpa using h2) ⟨.str ⟨#[c]⟩,H,I.tok _,⟨_,rfl⟩,q⟩) hs
theorem slice_bounds (lo hi:Option Int) (n:Nat):(sliceBounds lo hi none n).1=((HT.sIx n 0 lo:Nat):Int)∧(sliceBounds lo hi none n).2.1=((HT.sIx n n hi:Nat):Int)∧(sliceBounds lo hi none n).2.2=1:=by
 refine ⟨?_,?_,rfl⟩
 ·cases lo with
  | none=>simp [sliceBounds,HT.sIx]
  | some i =>
   simp only [sliceBounds,HT.sIx,Option.getD_none,show (1:Int) > 0 by decide,if_true]
   by_cases h:i < 0
   ·simp only [h,if_true] <;> lia
   ·simp only [h,if_false] <;> lia
 ·cases hi with
  | none=>simp [sliceBounds,HT.sIx]
  | some i =>
   simp only [sliceBounds,HT.sIx,Option.getD_none,show (1:Int) > 0 by decide,if_true]
   by_cases h:i < 0
   ·simp only [h,if_true] <;> lia
   ·simp only [h,if_false] <;> lia
theorem slicePick_cut (its:List Value) (lo hi:Option Int):slicePick its.toArray lo hi none=((its.drop (HT.sIx its.length 0 lo)).take (HT.sIx its.length its.length hi - HT.sIx its.length 0 lo)).toArray:=by
 obtain ⟨h1,h2,h3⟩:=slice_bounds lo hi its.toArray.size
 unfold slicePick
 rw [h1,h2,h3]
 simp only [sliceRange_one,pick_run,List.size_toArray] <;> rfl
noncomputable def rSlL (K:PySem.W.Frag):V→Option Int→Option Int→Hp→VK→Prop:=fun x lo hi H Q=>∃ a xs,x=.ref a∧SqL K H a xs∧∀ p,H p=none→Q (.ref p) (upd H p (.lst (cutV xs lo hi)))
theorem sl_list:SlR X (rSlL X.K):=by
 intro pins s σ H x v vl vu lo hi sl Q I rx hs pl pu h
 obtain ⟨a,xs,rfl,hx,q⟩:=h
 cases rx
 obtain ⟨its,r,ht,hz⟩:=I.list hx
 have hlen:=r.length
 refine ⟨"list",_,slot_list_getitem.lookup,ht.isList.typeIs,?_⟩
 refine wpAny_getItem_list_slice ht.isList hs pl pu .none (by simp) ?_ (by rw [List.size_toArray] <;> lia)
 rw [slicePick_cut,← hlen]
 refine ⟨.ref s.heap.objs.size,_,I.laid (t':=s.toks) (o:=.lst (cutV xs lo hi)) (fun b ob q=>Heap.get?_push_of_some _ q) (Nat.le_refl _) ?_,rfl,q _ (I.hok.fresh (Nat.le_refl _))⟩
 exact ⟨Nat.le_trans (cutV_length xs lo hi) hz,_,0,(r.drop (HT.sIx xs.length 0 lo)).take (HT.sIx xs.length xs.length hi - HT.sIx xs.length 0 lo),Heap.get?_push_size _ rfl⟩
noncomputable def flatV:V→Bool
 | .non=>true
 | .bl _=>true
 | .int _=>true
 | .str _=>true
 | _=>false
noncomputable def eqV:V→V→Bool
 | .non,.non=>true
 | .bl a,.bl b=>a == b
 | .bl a,.int b=>(if a then 1 else 0) == b
 | .int a,.bl b=>a == (if b then 1 else 0)
 | .int a,.int b=>a == b
 | .str a,.str b=>a == b
 | _,_=>false
theorem eqAt_V {A:Around} {s:Shared} {y x:V} {u v:Value} (ry:RelV y u) (rx:RelV x v) (fy:flatV y=true) (fx:flatV x=true):SeqAt.EqAt A s u v (eqV y x):=by
 cases y with
 | non =>
  cases ry
  cases x with
  | non=>cases rx; exact SeqAt.EqAt.same _
  | bl b=>cases rx; exact SeqAt.EqAt.none_bool b
  | int b=>obtain ⟨t,rfl⟩:=rx; exact SeqAt.EqAt.none_int b t
  | str b=>obtain ⟨t,rfl⟩:=rx; exact SeqAt.EqAt.none_str b t
  | _=>exact absurd (show false=true from fx) Bool.false_ne_true
 | bl a =>
  cases ry
  cases x with
  | non=>cases rx; exact SeqAt.EqAt.bool_none a
  | bl b=>cases rx; exact SeqAt.EqAt.bool_bool a b
  | int b=>obtain ⟨t,rfl⟩:=rx; exact SeqAt.EqAt.bool_int a b t
  | str b=>obtain ⟨t,rfl⟩:=rx; exact SeqAt.EqAt.bool_str a b t
  | _=>exact absurd (show false=true from fx) Bool.false_ne_true
 | int a =>
  obtain ⟨t',rfl⟩:=ry
  cases x with
  | non=>cases rx; exact SeqAt.EqAt.int_none a t'
  | bl b=>cases rx; exact SeqAt.EqAt.int_bool a t' b
  | int b=>obtain ⟨t,rfl⟩:=rx; exact SeqAt.EqAt.int_int a t' b t
  | str b=>obtain ⟨t,rfl⟩:=rx; exact SeqAt.EqAt.int_str a t' b t
  | _=>exact absurd (show false=true from fx) Bool.false_ne_true
 | str a =>
  obtain ⟨t',rfl⟩:=ry
  cases x with
  | non=>cases rx; exact SeqAt.EqAt.str_none a t'
  | bl b=>cases rx; exact SeqAt.EqAt.str_bool a t' b
  | int b=>obtain ⟨t,rfl⟩:=rx; exact SeqAt.EqAt.str_int a t' b t
  | str b=>obtain ⟨t,rfl⟩:=rx; exact SeqAt.EqAt.str_str a t' b t
  | _=>exact absurd (show false=true from fx) Bool.false_ne_true
 | _=>exact absurd (show false=true from fy) Bool.false_ne_true
noncomputable def eqU (x:V) (u:Value):Bool:=match u with
 | .none=>eqV .non x
 | .bool b=>eqV (.bl b) x
 | .int i _=>eqV (.int i) x
 | .str z _=>eqV (.str z) x
 | _=>false
theorem eqU_of {x y:V} {u:Value} (r:RelV y u) (f:flatV y=true):eqU x u=eqV y x:=by
 cases y with
 | non=>cases r; rfl
 | bl b=>cases r; rfl
 | int i=>obtain ⟨t,rfl⟩:=r; rfl
 | str z=>obtain ⟨t,rfl⟩:=r; rfl
 | _=>exact absurd (show false=true from f) Bool.false_ne_true
theorem any_eqU {x:V}:∀ {xs:List V} {us:List Value},Vals xs us→xs.all flatV=true→us.any (eqU x)=xs.any fun y=>eqV y x
 | _,_,.nil,_=>rfl
 | y :: xs,u :: us,.cons r t,f=>by
  rw [List.all_cons,Bool.and_eq_true] at f
  rw [List.any_cons,List.any_cons,eqU_of r f.1,any_eqU t f.2]
theorem mem_eqAt {A:Around} {s:Shared} {x:V} {v:Value} (rx:RelV x v) (fx:flatV x=true):∀ {xs:List V} {us:List Value},Vals xs us→xs.all flatV=true→∀ u∈us,SeqAt.EqAt A s u v (eqU x u)
 | _,_,.nil,_=>fun u hu=>by cases hu
 | y :: xs,u :: us,.cons r t,f=>fun u' hu=>by
  rw [List.all_cons,Bool.and_eq_true] at f
  rcases List.mem_cons.mp hu with rfl | hu
  ·rw [eqU_of r f.1]; exact eqAt_V r rx f.1 fx
  ·exact mem_eqAt rx fx t f.2 u' hu
noncomputable def inV (x:V) (xs:List V):Bool:=xs.any fun y=>eqV y x
noncomputable def rIn (K:PySem.W.Frag) (neg:Bool):R2:=fun x y H Q=>∃ p xs,y=.ref p∧(SqL K H p xs∨SqT K H p xs)∧flatV x=true∧xs.all flatV=true∧Q (.bl (if neg then !inV x xs else inV x xs)) H
theorem op_in_seq:OpR X (compareOp .In) (rIn X.K false):=by
 intro pins s σ H x y v u Q I rx ry h
 obtain ⟨p,xs,rfl,hq,fx,fs,q⟩:=h
 cases ry
 rcases hq with hq | hq
 ·obtain ⟨its,r,pl,hz⟩:=I.list hq
  refine SeqAt.in_listAt (eqU x) pl.isList (fun w hw=>mem_eqAt rx fx r fs w (by simpa using hw)) ⟨.bl _,H,I,rfl,?_⟩
  rw [show its.toArray.any (eqU x)=its.any (eqU x) by simp,any_eqU r fs]
  exact q
 ·obtain ⟨its,r,pl,hz⟩:=I.tuple hq
  refine SeqAt.in_tupleAt (eqU x) pl (fun w hw=>mem_eqAt rx fx r fs w (by simpa using hw)) ⟨.bl _,H,I,rfl,?_⟩
  rw [show its.toArray.any (eqU x)=its.any (eqU x) by simp,any_eqU r fs]
  exact q
theorem call_len_seq:CallR X (.builtin "len") (fun xs H Q=>∃ p ys,xs=[.ref p]∧(SqL X.K H p ys∨SqT X.K H p ys)∧Q (.int ys.length) H):=by
 intro pins s σ H xs us Q I r h
 obtain ⟨p,ys,rfl,hq,q⟩:=h
 obtain ⟨u,rfl,rx⟩:=vals1 r
 cases rx
 have hn:=line63
 rcases hq with hq | hq
 ·obtain ⟨its,r',pl,hz⟩:=I.list hq
  have hlen:=r'.length
  exact Calls.call_len_list pl.isList (by simp only [List.size_toArray] <;> lia) ⟨.int ys.length,H,I.tok _,⟨s.toks + 1,by rw [List.size_toArray,hlen]⟩,q⟩
 ·obtain ⟨its,r',pl,hz⟩:=I.tuple hq
  have hlen:=r'.length
  exact len_tuple pl (by simp only [List.size_toArray] <;> lia) ⟨.int ys.length,H,I.tok _,⟨s.toks + 1,by rw [List.size_toArray,hlen]⟩,q⟩
theorem call_len_str:CallR X (.builtin "len") (fun xs H Q=>∃ z,xs=[.str z]∧z.length≤sizeLine∧Q (.int z.length) H):=by
 intro pins s σ H xs us Q I r h
 obtain ⟨z,rfl,hz,q⟩:=h
 obtain ⟨u,rfl,t,rfl⟩:=vals1 r
 have hn:=line63
 exact len_str (by lia) ⟨.int z.length,H,I.tok _,⟨_,rfl⟩,q⟩
theorem call_list_of:CallR X (.type "list") (fun xs H Q=>∃ p ys,xs=[.ref p]∧(SqL X.K H p ys∨SqT X.K H p ys)∧∀ l,H l=none→Q (.ref l) (upd H l (.lst ys))):=by
 intro pins s σ H xs us Q I r h
 obtain ⟨p,ys,rfl,hq,q⟩:=h
 obtain ⟨u,rfl,rx⟩:=vals1 r
 cases rx
 have fin:∀ (its:List Value),Vals ys its→ys.length≤sizeLine→∀ (h':Heap) (c':Nat),(∀ b o',s.heap.get? b=some o'→h'.get? b=some o') →
   h'.get? s.heap.objs.size=some { cls:=.type "list",dict:=none,data:=.seq its.toArray c',slots:=#[] }→EP X pins σ Q (.ref s.heap.objs.size) { s with heap:=h' }:=fun its r' hz h' c' kp e =>
  ⟨.ref s.heap.objs.size,_,I.laid (t':=s.toks) kp (Nat.le_refl _) (show ObjOk X.prog X.w _ h' _ (.lst ys) from ⟨hz,its,c',r',e⟩),rfl,q _ (I.hok.fresh (Nat.le_refl _))⟩
 rcases hq with hq | hq
 ·obtain ⟨its,r',pl,hz⟩:=I.list hq
  have hlen:=r'.length
  obtain ⟨o,ho,hc,n,hd⟩:=pl.isList
  exact call_list_seq p (.inl rfl) ho hc hd (fun h' c' kp e=>fin its r' hz h' c' kp e) (by simp only [List.size_toArray] <;> lia)
 ·obtain ⟨its,r',pl,hz⟩:=I.tuple hq
  have hlen:=r'.length
  obtain ⟨o,ho,hc,n,hd⟩:=pl
  exact call_list_seq p (.inr rfl) ho hc hd (fun h' c' kp e=>fin its r' hz h' c' kp e) (by simp only [List.size_toArray] <;> lia)
theorem call_tuple_of:CallR X (.type "tuple") (fun xs H Q=>∃ p ys,xs=[.ref p]∧((SqL X.K H p ys∧∀ l,H l=none→Q (.ref l) (upd H l (.tup ys)))∨(SqT X.K H p ys∧Q (.ref p) H))):=by
 intro pins s σ H xs us Q I r h
 obtain ⟨p,ys,rfl,h⟩:=h
 obtain ⟨u,rfl,rx⟩:=vals1 r
 cases rx
 rcases h with ⟨hq,q⟩ | ⟨hq,q⟩
 ·obtain ⟨its,r',pl,hz⟩:=I.list hq
  have hlen:=r'.length
  refine call_tuple_list pl.isList (fun h' kp=>?_) (by simp only [List.size_toArray] <;> lia)
  have I1:Inv X pins σ H { s with heap:=h' }:=I.kept (t':=s.toks) kp
  have I2:Inv X pins σ (upd H h'.objs.size (.tup ys)) { s with heap:=h'.push { cls:=.type "tuple",data:=.seq its.toArray } } :=
   I1.laid (t':=s.toks) (fun b o e=>Heap.get?_push_of_some _ e) (Nat.le_refl _) (show ObjOk X.prog X.w _ _ _ (.tup ys) from ⟨hz,its,r',IsTup.new _ _⟩)
  exact ⟨.ref h'.objs.size,_,I2,rfl,q _ (I1.hok.fresh (Nat.le_refl _))⟩
 ·obtain ⟨its,r',pl,hz⟩:=I.tuple hq
  exact call_tuple_same pl ⟨.ref p,H,I,rfl,q⟩
noncomputable def tyV (K:PySem.W.Frag) (T:String) (x:V) (H:Hp):Prop:=match x with
 | .str _=>T="str"
 | .int _=>T="int"
 | .ref p=>(T="list"∧∃ xs,SqL K H p xs)∨(T="tuple"∧∃ o,K.lookup p=some o∧o.cls=.type "tuple"∧o.dict=none) ∨
   (T="dict"∧((∃ kvs,H p=some (.dK kvs))∨∃ kvs,H p=some (.dT kvs)))∨(T="set"∧∃ S n,H p=some (.set S n))
 | _=>False
theorem tyV_is {pins:List (Addr×Obj)} {σ:St} {H:Hp} {s:Shared} {T:String} {x:V} {v:Value} (I:Inv X pins σ H s) (r:RelV x v) (ty:tyV X.K T x H) :
  s.TypeIs v T∧∀ a,v=.ref a→∃ ob,s.heap.get? a=some ob∧ob.dict=none:=by
 cases x with
 | str z =>
  obtain ⟨t,rfl⟩:=r
  cases (show T="str" from ty)
  exact ⟨typeIs_str s z t,fun _ e=>nomatch e⟩
 | int i =>
  obtain ⟨t,rfl⟩:=r
  cases (show T="int" from ty)
  exact ⟨typeIs_int s i t,fun _ e=>nomatch e⟩
 | ref p =>
  cases r
  rcases ty with ⟨rfl,xs,hq⟩ | ⟨rfl,o,hk,hc,hd⟩ | ⟨rfl,hk⟩ | ⟨rfl,S,n,hk⟩
  ·obtain ⟨its,_,pl,_⟩:=I.list hq
   refine ⟨pl.isList.typeIs,fun a e=>?_⟩
   cases e
   obtain ⟨o,n,e,c,hd,_⟩:=pl
   exact ⟨o,e,hd⟩
  ·refine ⟨⟨o,I.kIn p o hk,hc⟩,fun a e=>?_⟩
   cases e
   exact ⟨o,I.kIn _ o hk,hd⟩
  ·have z:∃ o,s.heap.get? p=some o∧o.ExactDict:=by
    rcases hk with ⟨kvs,hk⟩ | ⟨kvs,hk⟩
    ·obtain ⟨_,_,_,_,o,_,_,e,ex,_⟩:=I.hok p _ hk
     exact ⟨o,e,ex⟩
    ·obtain ⟨_,_,_,_,o,_,_,e,ex,_⟩:=I.hok p _ hk
     exact ⟨o,e,ex⟩
   obtain ⟨o,e,ex⟩:=z
   refine ⟨⟨o,e,ex.1⟩,fun a e2=>?_⟩
   cases e2
   exact ⟨o,e,ex.2.1⟩
  ·obtain ⟨o,_,_,_,e,ex,_⟩:=I.hok p _ hk
   refine ⟨⟨o,e,ex.1⟩,fun a e2=>?_⟩
   cases e2
   exact ⟨o,e,ex.2.1⟩
 | _=>exact False.elim ty
noncomputable def tBM0 (K:PySem.W.Frag) (T:String) (r:V→List V→Hp→VK→Prop) (to:TE):TE:=fun σ H Q=>to σ H fun x H1=>tyV K T x H1∧r x [] H1 Q
noncomputable def tBM (K:PySem.W.Frag) (T:String) (r:V→List V→Hp→VK→Prop) (to:TE) (t:TA):TE:=fun σ H Q=>to σ H fun x H1=>tyV K T x H1∧t σ H1 fun xs H2=>r x xs H2 Q
variable {o e:Expr} {es:List Expr} {to:TE} {t:TA} {name:Str} {apos cpos:Pos} {T id:String} {r:V→List V→Hp→VK→Prop}
theorem pe_bm0 (pa:PlainAttrs T) (slot:Slot T name id) (hty:typeOf (.builtin id)=pure (.type "method_descriptor")) (hm:MtR X id r) (ho:PE X o to)
  (hbase:attributeBase o name X.env (eval o X.env)=eval o X.env:=by rfl) (hline:(apos.endLine == cpos.line)=true:=by rfl):PE X (.Call (.Attribute o name apos) [] [] cpos) (tBM0 X.K T r to):=by
 intro pins s σ H Q I h
 refine wpAny_Call_method0_late hbase hline (thn (ho pins s σ H _ I h) fun v s1 ⟨x,H1,I1,r1,ty,q1⟩=>?_)
 obtain ⟨h1,h2⟩:=tyV_is I1 r1 ty
 exact ⟨T,id,pa,slot,hty,h1,h2,Calls.callWith_builtin rfl (PySem.evalArgs_none (hm pins s1 σ H1 x [] v [] Q I1 r1 .nil q1))⟩
theorem pe_bm (pa:PlainAttrs T) (slot:Slot T name id) (hty:typeOf (.builtin id)=pure (.type "method_descriptor")) (hm:MtR X id r) (ho:PE X o to) (ha:PA X (e :: es) t)
  (hbase:attributeBase o name X.env (eval o X.env)=eval o X.env:=by rfl)
  (hfew:((backTo cpos (starEach (e :: es) X.env)).all (fun x=>!x.1) && (backToKw cpos (keywordEach [] X.env)).all (fun x=>x.1.isSome)
   && decide ((e :: es).length + ([]:List Keyword).length + (if ([]:List Keyword).isEmpty then 0 else 1) < 30))=true:=by rfl)
  (hline:(apos.endLine == cpos.line)=true:=by rfl) (hs:starEach (e :: es) X.env=(false,eval e X.env) :: starEach es X.env:=by rfl) (hplain:(backTo cpos (starEach es X.env)).any (·.1)=false:=by rfl) :
  PE X (.Call (.Attribute o name apos) (e :: es) [] cpos) (tBM X.K T r to t):=by
 intro pins s σ H Q I h
 refine wpAny_Call_method_late hbase hfew hline rfl (thn (ho pins s σ H _ I h) fun v s1 ⟨x,H1,I1,r1,ty,q1⟩=>?_)
 obtain ⟨h1,h2⟩:=tyV_is I1 r1 ty
 refine ⟨T,id,pa,slot,hty,h1,h2,?_⟩
 have hA:=ha cpos pins s1 σ H1 _ I1 q1
 rw [hs] at hA ⊢
 refine Calls.callWith_builtin (by show (false || (backTo cpos (starEach es X.env)).any (·.1))=false; rw [hplain] <;> rfl) (Calls.evalArgs_plain ?_)
 exact thn hA fun us s2 ⟨vs,H2,I2,r2,q2⟩=>hm pins s2 σ H2 x vs v us Q I2 r1 r2 q2
end
end L2
namespace L2
open PySem PySem.Spec PyProof.Rows
noncomputable def MtM (X:Cx) (id:String) (r:V→List V→Hp→VK→Prop):Prop :=
 ∀ (pins:List (Addr×Obj)) (s:Shared) (σ:St) (H:Hp) (x:V) (xs:List V) (v:Value) (us:List Value) (Q:VK),Inv X pins σ H s→RelV x v→Vals xs us→r x xs H Q →
  wpAny (model X.prog X.w) X.A (call (.builtin id) (v :: us)) (EP X pins σ Q) X.xe s
theorem Vals.one:∀ {x:V} {us:List Value},Vals [x] us→∃ u,us=[u]∧RelV x u
 | _,_,.cons r .nil=>⟨_,rfl,r⟩
theorem Vals.zero:∀ {us:List Value},Vals [] us→us=[]
 | _,.nil=>rfl
theorem Vals.dropLast {xs:List V} {us:List Value} (h:Vals xs us):Vals xs.dropLast us.dropLast:=by
 induction h with
 | nil=>exact .nil
 | cons r t ih =>
  cases t with
  | nil=>exact .nil
  | cons q t'=>exact .cons r ih
theorem Vals.eraseIdx:∀ {xs:List V} {us:List Value} (i:Nat),Vals xs us→Vals (xs.eraseIdx i) (us.eraseIdx i)
 | _,_,_,.nil=>.nil
 | _,_,0,.cons _ t=>t
 | _,_,i + 1,.cons r t=>.cons r (Vals.eraseIdx i t)
theorem Vals.reverse {xs:List V} {us:List Value} (h:Vals xs us):Vals xs.reverse us.reverse:=by
 induction h with
 | nil=>exact .nil
 | cons r t ih=>rw [List.reverse_cons,List.reverse_cons]; exact Vals.append ih (.cons r .nil)
theorem erase_last {α:Type} (l:List α):l.eraseIdx (l.length - 1)=l.dropLast:=by
 induction l with
 | nil=>rfl
 | cons a r ih =>
  cases r with
  | nil=>rfl
  | cons b r =>
   have e:(a :: b :: r).length - 1=((b :: r).length - 1) + 1:=by
    have h1:(a :: b :: r).length=r.length + 2:=rfl
    have h2:(b :: r).length=r.length + 1:=rfl
    lia
   rw [e,List.eraseIdx_cons_succ,ih]
   all_goals rfl
theorem len_erase {α:Type}:∀ (l:List α) (i:Nat),(l.eraseIdx i).length≤l.length
 | [],_=>Nat.le_refl _
 | _ :: _,0=>Nat.le_succ _
 | _ :: r,i + 1=>Nat.succ_le_succ (len_erase r i)
section
variable {X:Cx} {pins:List (Addr×Obj)} {σ:St} {H:Hp} {s:Shared} {l b:Addr} {xs ys zs:List V}
theorem Inv.lset {its its':List Value} {n:Nat} {f:Array Value→Array Value} {t':Nat} (I:Inv X pins σ H s) (hH:H l=some (.lst xs))
  (e:s.heap.get? l=some { cls:=.type "list",data:=.seq its.toArray n }) (hf:f its.toArray=its'.toArray) (hv:Vals ys its') (hz:ys.length≤sizeLine) :
  Inv X pins σ (upd H l (.lst ys)) { s with heap:=s.heap.update l (Obj.mapSeq f),toks:=t' }:=by
 have q:=PySem.IsL.update e f
 rw [hf] at q
 refine I.write (x:=l) (e:=l) (by rw [hH]; exact trivial) (.inl rfl) (fun b' u hb hu=>(Heap.get?_update_other s.heap (Obj.mapSeq f) (Ne.symm hb)).trans hu) ⟨_,q⟩ ?_
 exact ⟨hz,its',_,hv,q⟩
theorem Inv.lnew {its:List Value} {t':Nat} (I:Inv X pins σ H s) (hv:Vals ys its) (hz:ys.length≤sizeLine) :
  Inv X pins σ (upd H s.heap.objs.size (.lst ys)) { s with heap:=s.heap.push { cls:=.type "list",data:=.seq its.toArray },toks:=t' } :=
 I.laid (fun _ _ q=>Heap.get?_push_of_some _ q) (Nat.le_refl _) ⟨hz,its,0,hv,Heap.get?_push_size _ rfl⟩
theorem Inv.fresh (I:Inv X pins σ H s):H s.heap.objs.size=none:=I.hok.fresh (Nat.le_refl _)
theorem Inv.lstM (I:Inv X pins σ H s) (hH:H l=some (.lst xs)):xs.length≤sizeLine∧∃ (its:List Value) (n:Nat),Vals xs its∧xs.length=its.length∧s.heap.get? l=some { cls:=.type "list",data:=.seq its.toArray n }:=by
 obtain ⟨z,its,n,r,e⟩:=I.hok l _ hH
 exact ⟨z,its,n,r,r.length,e⟩
theorem notLongL {n:Nat} (h:n≤sizeLine):Builtin.List.listTooLong n=false:=by
 unfold Builtin.List.listTooLong
 exact decide_eq_false (by lia)
end
section
variable {X:Cx}
noncomputable def rAppend:V→List V→Hp→VK→Prop:=fun x vs H Q=>∃ l xs y,x=.ref l∧vs=[y]∧H l=some (.lst xs)∧xs.length < sizeLine∧Q .non (upd H l (.lst (xs++[y])))
theorem mt_append:MtM X "list.append" rAppend:=by
 intro pins s σ H x vs v us Q I rx rv h
 obtain ⟨l,xs,y,rfl,rfl,hH,hz,q⟩:=h
 cases rx
 obtain ⟨u,rfl,ru⟩:=rv.one
 obtain ⟨z,its,n,r,hl,e⟩:=I.lstM hH
 refine call_meets F.slot_list_append ⟨_,e,rfl⟩ F.entry_list_append (F.args_list_append_2 _ _) (PySem.list_append l its.toArray n u (by rw [List.size_toArray]; lia)) ⟨e,?_⟩
 refine ⟨.non,_,I.lset (its':=its++[u]) hH e (by simp) (r.append (.cons ru .nil)) ?_,rfl,q⟩
 rw [List.length_append,List.length_singleton]
 lia
noncomputable def rPop:V→List V→Hp→VK→Prop:=fun x vs H Q=>∃ l xs y,x=.ref l∧vs=[]∧H l=some (.lst xs)∧xs[xs.length - 1]?=some y∧Q y (upd H l (.lst xs.dropLast))
theorem mt_pop:MtM X "list.pop" rPop:=by
 intro pins s σ H x vs v us Q I rx rv h
 obtain ⟨l,xs,y,rfl,rfl,hH,hy,q⟩:=h
 cases rx
 have hus:=rv.zero
 subst hus
 obtain ⟨z,its,n,r,hl,e⟩:=I.lstM hH
 obtain ⟨u,hu,ru⟩:=r.get hy
 have hy':its.toArray[its.toArray.size - 1]?=some u:=by
  show its.toArray[its.length - 1]?=some u
  rw [← Array.getElem?_toList,← hl]
  exact hu
 refine call_meets F.slot_list_pop ⟨_,e,rfl⟩ F.entry_list_pop (F.args_list_pop_1 _) (MeetsSeq.list_pop_last l its.toArray n u hy' (by rw [List.size_toArray]; lia)) ⟨e,?_⟩
 refine ⟨y,_,I.lset (its':=its.dropLast) hH e ?_ r.dropLast ?_,ru,q⟩
 ·show its.toArray.eraseIdxIfInBounds (its.toArray.size - 1)=its.dropLast.toArray
  rw [List.size_toArray,List.eraseIdxIfInBounds_toArray,erase_last]
 ·rw [List.length_dropLast]
  lia
noncomputable def rPopAt:V→List V→Hp→VK→Prop:=fun x vs H Q=>∃ l xs i k y,x=.ref l∧vs=[.int i]∧H l=some (.lst xs)∧-(2 ^ 63)≤i∧i < 2 ^ 63∧seqIndex? i xs.length=some k∧xs[k]?=some y∧Q y (upd H l (.lst (xs.eraseIdx k)))
theorem mt_popAt:MtM X "list.pop" rPopAt:=by
 intro pins s σ H x vs v us Q I rx rv h
 obtain ⟨l,xs,i,k,y,rfl,rfl,hH,h1,h2,hk,hy,q⟩:=h
 cases rx
 obtain ⟨u,rfl,ru⟩:=rv.one
 obtain ⟨t,rfl⟩:=ru
 obtain ⟨z,its,n,r,hl,e⟩:=I.lstM hH
 obtain ⟨w,hw,rw'⟩:=r.get hy
 refine call_meets F.slot_list_pop ⟨_,e,rfl⟩ F.entry_list_pop (F.args_list_pop_2 _ _)
  (MeetsSeq.list_pop_at l its.toArray n i t k w (fitsIndex_both h1 h2) (by rw [List.size_toArray,← hl]; exact hk) (by rw [← Array.getElem?_toList]; exact hw) (by rw [List.size_toArray]; lia)) ⟨e,?_⟩
 refine ⟨y,_,I.lset (its':=its.eraseIdx k) hH e ?_ (r.eraseIdx k) ?_,rw',q⟩
 ·show its.toArray.eraseIdxIfInBounds k=(its.eraseIdx k).toArray
  rw [List.eraseIdxIfInBounds_toArray]
 ·have:=len_erase xs k
  lia
noncomputable def rCat:R2:=fun x y H Q=>∃ l b xs zs,x=.ref l∧y=.ref b∧H l=some (.lst xs)∧H b=some (.lst zs)∧xs.length + zs.length≤sizeLine∧∀ p,H p=none→Q (.ref p) (upd H p (.lst (xs++zs)))
theorem op_cat:OpR X (binaryOp .Add) rCat:=by
 intro pins s σ H x y v u Q I rx ry h
 obtain ⟨l,b,xs,zs,rfl,rfl,hH,hB,hz,q⟩:=h
 cases rx
 cases ry
 obtain ⟨z,its,n,r,hl,e⟩:=I.lstM hH
 obtain ⟨z2,its2,n2,r2,hl2,e2⟩:=I.lstM hB
 refine PySem.P.add_list e e2 ?_ (by rw [List.size_toArray,List.size_toArray]; lia)
 have ea:its.toArray++its2.toArray=(its++its2).toArray:=by simp
 rw [ea]
 exact ⟨.ref _,_,I.lnew (t':=s.toks) (r.append r2) (by rw [List.length_append]; lia),rfl,q _ I.fresh⟩
end
section
variable {prog:Program} {w:World} {A:Around} {E:Value→Shared→Prop} {s:Shared}
theorem splice_eq (its its2:List Value) (a c:Nat):its.toArray.extract 0 a++its2.toArray++its.toArray.extract c its.toArray.size=(its.take a++its2++its.drop c).toArray:=by
  apply Array.toList_inj.mp
  first
    | (simp
       exact List.take_of_length_le (by simp))
    | simp [List.take_of_length_le]
    | simp
set_option maxRecDepth 100000 in
end
section
variable {X:Cx}
end
end L2
namespace Att
open PySem PySem.W PySem.Calls PyProof.Rows
theorem ints_of_wellAll {P:Params} {h:Heap}:∀ (ns:List Int) (vs:List Value),WellAll P h vs (ns.map WData.int)→IntsAre vs ns:=by
 intro ns
 induction ns with
 | nil =>
  intro vs w
  rw [List.map_nil] at w
  cases w
  exact .nil
 | cons n ns ih =>
  intro vs w
  rw [List.map_cons] at w
  cases w with
  | cons a b =>
   cases a
   exact .cons _ _ (ih _ b)
theorem script_of {l:OpenLaw} {n:Nat} (hn:l.most=some n) {P:Params} {h:Heap} {args:List WData} {vals:List Value}
    (hpre:l.row.toRowW.claim.pre args=true) (hwl:WellAll P h vals args) :
    ∃ a vs ns,vals=[Value.ref a]∧args=[WData.list (ns.map WData.int)]∧h.get? a=some { cls:=.type "list",data:=.seq vs.toArray }∧IntsAre vs ns∧ns.length≤n:=by
  have hsh:WShape.hasAll [] args [.list .int]=true:=(pre_splitW hpre).1
  have hc:l.pre.holds [] { args:=args }=true:=(pre_splitW hpre).2
  obtain ⟨d,r,rfl,h1,h2⟩:=hasAllW_cons hsh
  obtain rfl:=hasAllW_nil h2
  obtain ⟨xs,rfl,h3⟩:=hasW_list h1
  obtain ⟨ns,rfl⟩:=items_int h3
  have hlen:ns.length≤n:=by
    unfold OpenLaw.pre at hc
    have h4:(WTm.not (.lt (.lit (.int (n:Int))) (.len (.arg 0)))).holds [] { args:=[.list (ns.map .int)] }=true:=by
      have h4:=(holds_andW hc).1
      rw [hn] at h4
      exact h4
    have h5:=condW_of h4 (w_not (w_lt w_lit (w_len_list (w_arg rfl))))
    rw [List.length_map] at h5
    refine Nat.le_of_not_lt fun q=>?_
    have q':(n:Int) < ((ns.length:Nat):Int):=by lia
    first
      | (rw [decide_eq_true q'] at h5; exact absurd h5 (by decide))
      | (simp at h5; lia)
  cases hwl with
  | cons w1 w2 =>
    cases w2
    cases w1 with
    | list ho hall=>exact ⟨_,_,ns,rfl,rfl,ho,ints_of_wellAll ns _ hall,hlen⟩
theorem post_true (l:OpenLaw) (args:List WData):l.row.toRowW.claim.post args (.bool true) args=true :=
 postW_of (r:=l.row.toRowW) (X:=(true == true))
  (show WShape.has [] (.bool true) .bool=true by first | rfl | decide | simp [WShape.has,WShape.arms,WShape.armsAll])
  (show (WTm.eq .res (.lit (.bool true))).value [] { args:=args,res:=some (.bool true),after:=args }=some (.bool (true == true)) from w_eq_bool (w_res rfl) w_lit) rfl
theorem attach_call {l:OpenLaw} {n:Nat} {q:Program} {loose:List Str} {XP:(Str→Option Value)→Heap→Prop} {YP:World→Heap→Prop} {d:DefRec}
  (hn:l.most=some n) (hdf:d.params.defaults=[])
  (call:∀ (w:World) (s₀ s₁:Shared) (mg mb:Str→Option Value) (fa:Addr) (o:Obj) (pm cd doc:Value) (a:Addr) (vs:List Value) (ns:List Int),
   Ground q loose [] XP w s₀ mg mb s₁.heap→YP w s₁.heap →
   s₁.heap.get? fa=some o→o.data=.func (docDef d.name d.params d.body d.scope pm cd doc)→s₁.heap.CodeRec cd d.name→mg d.name=some (.ref fa) →
   s₁.heap.get? a=some { cls:=.type "list",data:=.seq vs.toArray }→IntsAre vs ns→ns.length≤n→s₁.gens=#[] →
   codeAny (model l.prog w) callerA (.call (.ref fa) ⟨[.ref a],[]⟩) (fun r s'=>r=.ok (.ret (.bool true))∧OldK s₁.heap s'.heap∧s'.os=s₁.os∧AllBare s'.gens) s₁) :
  WalkO q loose XP YP l.row.toRowW d [] (fun f vs=>PySem.call f vs):=by
 intro w s₀ s₁ mg mb G Y fa o pm cd doc dV kV ho hd hcd hD hmg hg args vals as hpre hlay hrd hwl hlo
 obtain rfl:dV=.none:=Dflts.none hD hdf
 obtain rfl:kV=.none:=Dflts.noKw hD
 obtain ⟨a,vs,ns,rfl,rfl,hobj,hints,hlen⟩:=script_of hn hpre hwl
 refine enter_call (codeAny_mono (call w s₀ s₁ mg mb fa o pm cd doc a vs ns G Y ho (fd_plain hd) hcd hmg hobj hints hlen hg) fun r s' hq=>?_)
 obtain ⟨rfl,h2,h3,h4⟩:=hq
 exact ⟨.inl ⟨.bool true,.bool true,[],rfl,fun _=>rfl,.bool true,post_true l _,fun _=>⟨List.Pairwise.nil,fun _ hm=>(nomatch hm)⟩⟩,h2,h3,h4⟩
section
variable {prog:Program} {w:World} {A:Around} {E:Value→Shared→Prop} {s:Shared} {K:Frag}
end
end Att
namespace L2
open PySem PySem.Spec PyProof.Rows
theorem vals_ints:∀ {vs:List Value} {ns:List Int},IntsAre vs ns→Vals (ns.map V.int) vs
 | _,_,.nil=>.nil
 | _,_,.cons n t h=>.cons ⟨t,rfl⟩ (vals_ints h)
noncomputable def Only (H:Hp):Prop:=∀ b,H b=none∨∃ o xs,H b=some (.frz o (.lst xs))
theorem law_call {P:Program} {w:World} {K:PySem.W.Frag} {mg mb:Str→Option Value} {CX:CXT} {k:Nat} {fa a:Addr} {fd:FuncData} {x:Str} {sp:Sp} {s₁:Shared} {vs:List Value} {ns:List Int}
  (KX:K.In s₁.heap) (hns:s₁.heap.Ns mainGlobals mg) (hb:s₁.heap.Ns builtinsNs mb) (hbb:∀ x:Str,x≠"__name__"→mb x=bootBuiltins x) (hlim:s₁.heap.NoLimit) (hg:s₁.gens=#[])
  (ha:s₁.heap.get? a=some { cls:=.type "list",data:=.seq vs.toArray }) (hi:IntsAre vs ns) (hl:ns.length≤sizeLine) (hr:Room k callerA)
  (F:∀ base:Heap,K.In base→base.Ns mainGlobals mg→FnOk P w K mg base CX k fa fd [x] sp) (hbind:∀ (s:Shared) (u:Value),BindsTo s fd ⟨[u],[]⟩ [(x,u)])
  (hsp:∀ H:Hp,Only H→SqL K H a (ns.map V.int)→sp [.ref a] H (fun v _=>v=.bl true) fun _ _ _=>False)
  (hCX:∀ H e s',CX [] H s₁ (fun _ _ _=>False) e s'→False) :
  codeAny (model P w) callerA (.call (.ref fa) ⟨[.ref a],[]⟩) (fun r s'=>r=.ok (.ret (.bool true))∧OldK s₁.heap s'.heap∧s'.os=s₁.os∧AllBare s'.gens) s₁:=by
 have rv:=vals_ints hi
 have lenV:=hi.length
 have core:∀ H:Hp,Only H→SqL K H a (ns.map V.int)→HOk P w H s₁.heap→(∀ b,H b≠none→b=a)→(H a≠none→K.lookup a=none) →
   codeAny (model P w) callerA (.call (.ref fa) ⟨[.ref a],[]⟩) (fun r s'=>r=.ok (.ret (.bool true))∧OldK s₁.heap s'.heap∧s'.os=s₁.os∧AllBare s'.gens) s₁:=by
  intro H hO hS hok hA hK
  have base_of:∀ {b:Addr} {o:Obj},s₁.heap.get? b=some o→H b=none→(hidT s₁.heap H).get? b=some o:=fun e n=>hidT_get e n
  have noA:∀ {b:Addr} {o:Obj} {es:Array DictEntry} {ep:Nat},s₁.heap.get? b=some o→o.data=.dict es ep→H b=none:=fun {b o es ep} e d=>by
   cases q:H b with
   | none=>rfl
   | some u =>
    have e':b=a:=hA b (by rw [q]; simp)
    subst e'
    rw [ha] at e; cases e
    have d':Data.seq vs.toArray _=Data.dict es ep:=d
    cases d'
  have nsK:∀ {b:Addr} {m:Str→Option Value},s₁.heap.Ns b m→(hidT s₁.heap H).Ns b m:=fun {b m} ⟨o,es,ep,e,d,r⟩=>⟨o,es,ep,base_of e (noA e d),d,r⟩
  have hKb:K.In (hidT s₁.heap H):=fun b o e=>base_of (KX b o e) (by
   cases q:H b with
   | none=>rfl
   | some u =>
    have e':b=a:=hA b (by rw [q]; simp)
    subst e'
    rw [hK (by rw [q]; simp)] at e; cases e)
  have hM:Mod K mg (hidT s₁.heap H):=⟨hKb,nsK hns,⟨mb,nsK hb,hbb⟩,let ⟨mc,h1,h2⟩:=hlim; ⟨mc,nsK h1,h2⟩⟩
  have e0:Env0 P w K mg (hidT s₁.heap H) callerA [] s₁ H:=⟨rfl,hM,fun b o e=>of_hidT e,Nat.le_of_eq (hidT_size _ _),trivial,fun b hb=>absurd (show b∈([]:List Addr) from hb) (by simp),hok,.of_eq hg⟩
  refine codeAny_mono ((F _ hKb (nsK hns)).run callerA [] s₁ H ⟨[.ref a],[]⟩ [.ref a] [.ref a] _ _ hr e0 (hbind s₁ (.ref a)) (.cons rfl .nil) (hsp H hO hS)) fun r s' h=>?_
  cases r with
  | error e=>exact (hCX H e s' h).elim
  | ok fl =>
   cases fl with
   | next=>exact False.elim h
   | brk=>exact False.elim h
   | cont=>exact False.elim h
   | ret u =>
    obtain ⟨v,H',os,bare,un,hok',r',q⟩:=h
    have q':v=.bl true:=q
    subst q'
    obtain rfl:u=Value.bool true:=r'
    refine ⟨rfl,OldK.of_keep fun b o e=>?_,os,bare⟩
    cases q:H b with
    | none=>exact un.keep b o e q (by intro z; exact absurd (show b∈([]:List Addr) from z) (by simp)) (by simp)
    | some u =>
     rcases hO b with z | ⟨ob,xs,z⟩
     ·rw [q] at z; cases z
     ·have z2:=un.frzs b ob _ z
      obtain ⟨e1,_⟩:=hok b _ z
      obtain ⟨e2,_⟩:=hok' b _ z2
      rw [e] at e1; cases e1
      exact e2
 cases hk:K.lookup a with
 | some o =>
  have e:=KX a o hk
  rw [ha] at e
  cases e
  refine core (fun _=>none) (fun _=>.inl rfl) (.inr ⟨_,vs.toArray,_,hk,rfl,rfl,rfl,by rw [List.size_toArray,lenV]; exact hl,by simpa using rv⟩) (fun b u z=>by have z':(none:Option HO)=some u:=z; cases z') (fun b z=>absurd rfl z) fun z=>absurd rfl z
 | none =>
  refine core (fun b=>if b=a then some (.frz { cls:=.type "list",data:=.seq vs.toArray } (.lst (ns.map V.int))) else none) (fun b=>?_) (.inl (.inr ⟨{ cls:=.type "list",data:=.seq vs.toArray },if_pos rfl⟩)) (fun b u z=>?_) (fun b z=>?_) fun _=>hk
  ·by_cases hb:b=a
   ·exact .inr ⟨_,_,if_pos hb⟩
   ·exact .inl (if_neg hb)
  ·by_cases hb:b=a
   ·have z':=(if_pos hb).symm.trans z
    cases z'
    subst hb
    exact ⟨ha,by rw [List.length_map]; exact hl,vs,_,rv,ha⟩
   ·have z':=(if_neg hb).symm.trans z
    cases z'
  ·by_cases hb:b=a
   ·exact hb
   ·exact absurd (if_neg hb) z
end L2
namespace L2
open PySem PySem.Spec PyProof.Rows
theorem walk_of {l:PySem.W.OpenLaw} {n k:Nat} {q:Program} {loose:List Str} {XP:(Str→Option Value)→Heap→Prop} {YP:World→Heap→Prop} {d:DefRec} {K:Params→PySem.W.Frag} {CX:World→CXT} {sp:World→Sp} {x:Str}
  (hn:l.most=some n) (hn2:n≤sizeLine) (hdf:d.params.defaults=[]) (hr:Room k callerA)
  (hY:∀ (w:World) (h:Heap),YP w h→(K w.params).In h)
  (F:∀ (w:World) (mg:Str→Option Value) (fa:Addr) (h:Heap),(K w.params).In h→h.Ns mainGlobals mg→mg d.name=some (.ref fa) →
   ∃ fd:FuncData,(∀ (s:Shared) (u:Value),BindsTo s fd ⟨[u],[]⟩ [(x,u)]) ∧
    ∀ base:Heap,(K w.params).In base→base.Ns mainGlobals mg→FnOk l.prog w (K w.params) mg base (CX w) k fa fd [x] (sp w))
  (hsp:∀ (w:World) (H:Hp) (a:Addr) (ns:List Int),ns.length≤n→Only H→SqL (K w.params) H a (ns.map V.int)→sp w [.ref a] H (fun v _=>v=.bl true) fun _ _ _=>False)
  (hCX:∀ (w:World) (H:Hp) (s:Shared) (e:Value) (s':Shared),CX w [] H s (fun _ _ _=>False) e s'→False) :
  PySem.W.WalkO q loose XP YP l.row.toRowW d [] (fun f vs=>PySem.call f vs):=by
 refine Att.attach_call hn hdf fun w s₀ s₁ mg mb fa o pm cd doc a vs ns G Y ho hd hcd hmg hobj hints hlen hg=>?_
 have KX:=hY w _ Y
 obtain ⟨fd,hb,hF⟩:=F w mg fa _ KX G.T.g hmg
 exact law_call KX G.T.g G.T.b G.T.builtins G.T.nolimit hg hobj hints (Nat.le_trans hlen hn2) hr hF hb (fun H hO hS=>hsp w H a ns hlen hO hS) fun H e s'=>hCX w H s₁ e s'
end L2
namespace L2
open PySem PySem.Spec PyProof.Rows
noncomputable def inClass (s:Stmt) (j:Nat):Stmt:=match s with
 | .ClassDef _ _ _ body _ _ _ _ _ _ _=>body.getD j (.Pass ⟨0,0,0,0⟩)
 | _=>.Pass ⟨0,0,0,0⟩
noncomputable def defArgs (s:Stmt):Arguments:=match s with
 | .FunctionDef _ a _ _ _ _ _ _ _ _=>a
 | _=>{ posonlyargs:=[],args:=[],vararg:=none,kwonlyargs:=[],kw_defaults:=[],kwarg:=none,defaults:=[] }
noncomputable def defBody (s:Stmt):List Stmt:=match s with
 | .FunctionDef _ _ b _ _ _ _ _ _ _=>b
 | _=>[]
noncomputable def defScope (s:Stmt):Scope:=match s with
 | .FunctionDef _ _ _ _ _ _ sc _ _ _=>sc
 | _=>{ kind:=.function,names:=[],isGenerator:=false,isCoroutine:=false }
noncomputable abbrev CX0:CXT:=fun _ _ _ _ _ _=>False
noncomputable abbrev E0:XK:=fun _ _ _=>False
theorem pass0 {X:Cx}:Passes CX0 X E0:=fun _ _ _ _ _ _ _ h=>h.elim
structure Fun (K:PySem.W.Frag) (x qual:Str) (st:Stmt) (f:Addr) (fd:FuncData):Prop where
 ex:∃ (oc:Value) (od:Option Addr) (kV doc pm:Value) (an:Option Addr) (cdv ct:Value) (osl:Array (Option Value)),
  fd=PySem.W.fnOf x qual (defArgs st) (defBody st) (defScope st) .none kV doc pm an cdv ct∧K.lookup f=some ⟨oc,od,.func fd,osl⟩∧PySem.W.codeIn K cdv qual=true
 kp:PySem.W.keepIn K (.ref f)=true
section
variable {P:Program} {w:World} {K:PySem.W.Frag} {mg:Str→Option Value} {base:Heap}
theorem Fun.ok {x qual:Str} {st:Stmt} {f:Addr} {fd:FuncData} {N ps:List Str} {k:Nat} {sp:Sp} (F:Fun K x qual st f fd) (S:FnScope N ps (defScope st)) (len:∀ vs H Q E,sp vs H Q E→vs.length=ps.length)
  (hbody:∀ (cdv:Value) (A:Around) (outer:List Env) (s:Shared) (H:Hp) (vs:List V) (Q:VK) (E:XK),Room k (A.deeper (envOfC qual (defScope st) s.heap.objs.size f cdv))→sp vs H Q E →
   ∃ t,PSs (cxOf CX0 P w K mg base N qual (defScope st) f cdv A outer s H E).nox (defBody st) t∧t { nx:=fun _ H'=>Q .non H',rt:=Q } (start N vs) H):FnOk P w K mg base CX0 (k + 1) f fd ps sp:=by
 obtain ⟨oc,od,kV,doc,pm,an,cdv,ct,osl,rfl,lk,hcd⟩:=F.ex
 refine fn_of lk hcd S len fun A outer s H vs Q E hr hsp=>?_
 obtain ⟨t,h,q⟩:=hbody cdv A outer s H vs Q E hr hsp
 exact ⟨t,h.nox,q⟩
theorem Fun.binds {x qual:Str} {st:Stmt} {f:Addr} {fd:FuncData} {ps:List Str} (F:Fun K x qual st f fd)
  (h:∀ (kV doc pm:Value) (an:Option Addr) (cdv ct:Value) (us:List Value),us.length=ps.length→bindArgs (PySem.W.fnOf x qual (defArgs st) (defBody st) (defScope st) .none kV doc pm an cdv ct) ⟨us,[]⟩=pure (ps.zip us)):Binds K fd ps []:=by
 obtain ⟨oc,od,kV,doc,pm,an,cdv,ct,osl,rfl,lk,hcd⟩:=F.ex
 exact .all (h kV doc pm an cdv ct)
theorem fun_mk {x qual:Str} {st:Stmt} {f:Addr} {oc:Value} {od an:Option Addr} {osl:Array (Option Value)} {kV doc pm cdv ct:Value} (l:K.lookup f=some ⟨oc,od,.func (PySem.W.fnOf x qual (defArgs st) (defBody st) (defScope st) .none kV doc pm an cdv ct),osl⟩)
  (c:PySem.W.codeIn K cdv qual=true) (k:PySem.W.keepIn K (.ref f)=true):Fun K x qual st f (PySem.W.fnOf x qual (defArgs st) (defBody st) (defScope st) .none kV doc pm an cdv ct):=⟨⟨oc,od,kV,doc,pm,an,cdv,ct,osl,rfl,l,c⟩,k⟩
end
theorem hu_of {A:Around} {k:Nat} (hr:Room k A):A.units + 1 < cLine:=Nat.lt_of_le_of_lt (Nat.add_le_add_left (by decide:1≤64) _) hr.units
theorem small1000 {n:Nat} (h:n≤1000):n < sizeLine:=Nat.lt_of_le_of_lt h (by decide)
section
variable {X:Cx}
theorem pv (i:Nat) {x:Str} {pos:Pos} (hN:X.N[i]?=some x:=by rfl) (hv:Vis X.env.scope x:=by first | exact Or.inl rfl | exact Or.inr (Or.inl rfl) | exact Or.inr (Or.inr rfl)) (hd:(x == ("__debug__":Str))=false:=by decide)
  (hcd:(x == ("__classdict__":Str))=false:=by decide):PE X (.Name x pos) (tVar i):=pe_var hN hv hd hcd
end
theorem iteF {A B:Prop} (h:B):if false=true then A else B:=by
 rw [if_neg Bool.false_ne_true]
 exact h
theorem iteT {A B:Prop} (h:A):if true=true then A else B:=by
 rw [if_pos rfl]
 exact h
theorem ite2 {c A B:Prop} [Decidable c] (h1:c→A) (h2:¬ c→B):if c then A else B:=by
 by_cases h:c
 ·rw [if_pos h]
  exact h1 h
 ·rw [if_neg h]
  exact h2 h
theorem iteNS {c A B:Prop} [Decidable c] (hc:c) (h:B):if (!decide c)=true then A else B:=by
 rw [decide_eq_true hc]
 exact iteF h
noncomputable def Same (H H':Hp):Prop:=∀ b o,H b=some o→H' b=some o
theorem Same.refl (H:Hp):Same H H:=fun _ _ h=>h
theorem Same.trans {H H1 H2:Hp} (a:Same H H1) (b:Same H1 H2):Same H H2:=fun c o h=>b c o (a c o h)
theorem Same.free {H H':Hp} (e:Same H H') {l:Addr} (h:H' l=Option.none):H l=Option.none:=by
 cases q:H l with
 | none=>rfl
 | some o =>
  rw [e l o q] at h
  cases h
end L2
namespace L2
open PySem PySem.Spec PyProof.Rows
section
variable {X:Cx}
theorem log2_lt_of {n k:Nat} (hk:0 < k) (h:n < 2 ^ k):n.log2 < k:=by
 rcases Nat.eq_zero_or_pos n with h0 | hp
 ·rw [h0]; simpa using hk
 ·exact (Nat.log2_lt (Nat.ne_of_gt hp)).mpr h
noncomputable def CDivB (i j:Int):Prop:=0 < j∧j.natAbs < 2 ^ 4000
theorem op_fdivB:OpR X (binaryOp .FloorDiv) (rI CDivB fun i j=>.int (i / j)):=opI fun i j _ _ _ _ _ hc q=>by
 have h1:(0:Int) < j:=hc.1
 have h2:=log2_lt_of (by decide:0 < 4000) hc.2
 exact floordiv_int (by lia) (by rw [Int.fdiv_eq_ediv_of_nonneg i (by lia)]; exact q) (.inl (PyProof.noPylong_of_log2 (by lia)))
theorem call_isinst:CallR X (.builtin "isinstance") (fun xs H Q=>∃ x T t b,xs=[x,.ty T]∧TyOf X.K H x t∧PySem.W.kitOne X.K t (.type T)=some b∧Q (.bl b) H):=by
 intro pins s σ H xs us Q I r h
 obtain ⟨x,T,t,b,rfl,ty,e,q⟩:=h
 obtain ⟨u,u2,rfl,rx,r2⟩:=vals2 r
 obtain rfl:u2=Value.type T:=r2
 exact isinst_ok I rx ty e fun tk=>⟨.bl b,H,I.tok tk,rfl,q⟩
theorem kit_int_int (K:PySem.W.Frag):PySem.W.kitOne K (.type "int") (.type "int")=some true:=by with_unfolding_all rfl
theorem kit_int_str (K:PySem.W.Frag):PySem.W.kitOne K (.type "int") (.type "str")=some false:=by with_unfolding_all rfl
theorem kit_int_tuple (K:PySem.W.Frag):PySem.W.kitOne K (.type "int") (.type "tuple")=some false:=by with_unfolding_all rfl
theorem kit_str_str (K:PySem.W.Frag):PySem.W.kitOne K (.type "str") (.type "str")=some true:=by with_unfolding_all rfl
theorem kit_tup_int (K:PySem.W.Frag):PySem.W.kitOne K (.type "tuple") (.type "int")=some false:=by with_unfolding_all rfl
theorem kit_tup_str (K:PySem.W.Frag):PySem.W.kitOne K (.type "tuple") (.type "str")=some false:=by with_unfolding_all rfl
theorem kit_tup_tup (K:PySem.W.Frag):PySem.W.kitOne K (.type "tuple") (.type "tuple")=some true:=by with_unfolding_all rfl
noncomputable def tRev (K:PySem.W.Frag) (te:TE):TE:=fun σ H Q=>te σ H fun x H1=>∃ a xs,x=.ref a∧SqL K H1 a xs∧∀ p,H1 p=none→Q (.ref p) (upd H1 p (.lst xs.reverse))
theorem pe_rev {e:Expr} {te:TE} {j} {p2 p3 p4 pos:Pos} (he:PE X e te):PE X (.Subscript e (.Slice none none (some (.UnaryOp .USub (.Constant (.int 1) j p3) p4)) p2) pos) (tRev X.K te):=by
 intro pins s σ H Q I h
 refine Subscript_ (thn (he pins s σ H _ I h) fun v s1 ⟨x,H1,I1,r1,q1⟩=>?_)
 obtain ⟨a,xs,rfl,hx,q⟩:=q1
 obtain rfl:v=Value.ref a:=r1
 refine wpAny_Slice ?_
 rw [evalPart_none]
 refine wpAny_pure ?_
 refine wpAny_pure ?_
 refine thn (po_some (X:=X) (pe_un un_neg pe_int) pins s1 σ H1 (fun o H'=>o=some (-1)∧H'=H1) I1 ⟨1,rfl,-1,rfl,rfl,rfl⟩) fun vs s2 ⟨o,H2,I2,ip,eo,eH⟩=>?_
 subst eo eH
 obtain ⟨its,r,ht,hz⟩:=I2.list hx
 have hlen:=r.length
 have I4:Inv X pins σ H2 { s2 with heap:=s2.heap.push { cls:=.type "slice",data:=.fields #[.none,.none,vs] } }:=I2.kept (t':=s2.toks) fun b ob q=>Heap.get?_push_of_some _ q
 have ht4:PlainL (s2.heap.push { cls:=.type "slice",data:=.fields #[.none,.none,vs] }) a its.toArray:=by
  obtain ⟨o,n,e1,e2⟩:=ht
  exact ⟨o,n,Heap.get?_push_of_some _ e1,e2⟩
 refine tail_any (ops:=[.ref a,.ref s2.heap.objs.size]) ht4.isList.typeIs slot_list_getitem.lookup ?_ (by with_unfolding_all rfl)
 refine wpAny_getItem_list_slice ht4.isList (Heap.IsSliceOf.new ..) .none .none ip (by simp) ?_ (by rw [List.size_toArray] <;> lia)
 rw [PySem.W.krv_pick]
 refine ⟨.ref _,_,I4.laid (t':=s2.toks) (o:=.lst xs.reverse) (fun b ob q=>Heap.get?_push_of_some _ q) (Nat.le_refl _) ?_,rfl,q _ (I4.hok.fresh (Nat.le_refl _))⟩
 exact ⟨by rw [List.length_reverse]; exact hz,its.reverse,0,r.reverse,Heap.get?_push_size _ rfl⟩
noncomputable def TopDict (w:World) (K:PySem.W.Frag) (a:Addr):Prop:=∃ es n,K.lookup a=some ⟨.type "dict",none,.dict es n,#[]⟩∧PySem.W.KeysLit w.params es.toList
noncomputable def rIxD (w:World) (K:PySem.W.Frag):R2:=fun x y H Q=>∃ a z v u,x=.ref a∧y=.str z∧TopDict w K a∧PySem.W.nsIn K a z=some (some u)∧RelV v u∧Q v H
theorem ix_top:IxR X (rIxD X.w X.K):=by
 intro value slice pins s σ H x y v u Q I rx ry h hs
 obtain ⟨a,z,v',u',rfl,rfl,⟨es,n,hl,hk⟩,e,r,q⟩:=h
 obtain rfl:v=Value.ref a:=rx
 obtain ⟨t,rfl⟩:=ry
 obtain ⟨m,F⟩:=I.fr
 exact PySem.W.topItem_K F I.mod.kin hl hk e ⟨v',H,I.tok _,r,q⟩ hs
structure Callee (P:Program) (w:World) (K:PySem.W.Frag) (mg:Str→Option Value) (base:Heap) (CX:CXT) (k:Nat) (f:Addr) (sp:Sp):Prop where
 ok:∃ fd ps,FnOk P w K mg base CX k f fd ps sp∧Binds K fd ps []
 kp:PySem.W.keepIn K (.ref f)=true
noncomputable def tCallV (Fam:Addr→Sp→Prop) (E:XK) (tf:TE) (t:TA):TE:=fun σ H Q=>tf σ H fun x H1=>∃ f sp,x=.ref f∧Fam f sp∧t σ H1 fun vs H2=>sp vs H2 Q E
theorem pe_callV {CX:CXT} {k:Nat} {Fam:Addr→Sp→Prop} {E:XK} {x:Str} {p pos:Pos} {e:Expr} {es:List Expr} {tf:TE} {t:TA} (hF:∀ f sp,Fam f sp→Callee X.prog X.w X.K X.mg X.base CX k f sp) (hr:Room k X.A) (hx:Passes CX X E) (hf:PE X (.Name x p) tf) (ha:PA X (e :: es) t)
  (he:starEach (e :: es) X.env=(false,eval e X.env) :: starEach es X.env:=by rfl) (hpl:(backTo pos (starEach es X.env)).any (·.1)=false:=by rfl) :
  PE X (.Call (.Name x p) (e :: es) [] pos) (tCallV Fam E tf t):=by
 intro pins s σ H Q I h
 refine wpAny_Call_Name_kw (thn (hf pins s σ H _ I h) fun u s1 ⟨y,H1,I1,r1,f,sp,ey,fam,q⟩=>?_)
 subst ey
 obtain rfl:u=Value.ref f:=r1
 obtain ⟨⟨fd,ps,F,hb⟩,hk⟩:=hF f sp fam
 refine PySem.W.callWith_K (h₀:=X.base) I.ok.mod.kin hk (thn (ha pos pins s1 σ H1 _ I1 q) fun us s2 ⟨vs,H2,I2,r,q2⟩=>⟨I2.kIn,?_⟩) he hpl
 exact run_fn (dvs:=[]) (ds:=[]) F hr hb .nil hx I2 r (by rw [List.append_nil]; exact q2)
end
end L2
namespace L2
open PySem PySem.Spec PyProof.Rows
theorem bt_len:bootBuiltins "len"=some (.builtin "len"):=by decide +kernel
theorem bt_isinstance:bootBuiltins "isinstance"=some (.builtin "isinstance"):=by decide +kernel
theorem bt_int:bootBuiltins "int"=some (.type "int"):=by decide +kernel
theorem bt_str:bootBuiltins "str"=some (.type "str"):=by decide +kernel
theorem bt_tuple:bootBuiltins "tuple"=some (.type "tuple"):=by decide +kernel
theorem bt_list:bootBuiltins "list"=some (.type "list"):=by decide +kernel
structure Def (P:Program) (w:World) (K:PySem.W.Frag) (mg:Str→Option Value) (base:Heap) (CX:CXT) (k:Nat) (x:Str) (sp:Sp):Prop where
 ex:∃ f fd ps,FnOk P w K mg base CX k f fd ps sp∧Binds K fd ps []∧mg x=some (.ref f)∧PySem.W.keepIn K (.ref f)=true
section
variable {X:Cx} {CX:CXT} {k:Nat} {sp:Sp} {x:Str} {p pos:Pos} {e:Expr} {es:List Expr} {t:TA}
theorem pe_def (G:Def X.prog X.w X.K X.mg X.base CX0 k x sp) (hr:Room k X.A) (ha:PA X (e :: es) t) (hg:Gl X x:=by rfl) (hdb:(x == ("__debug__":Str))=false:=by decide)
  (he:starEach (e :: es) X.env=(false,eval e X.env) :: starEach es X.env:=by rfl) (hpl:(backTo pos (starEach es X.env)).any (·.1)=false:=by rfl) :
  PE X (.Call (.Name x p) (e :: es) [] pos) (tCall sp [] E0 t):=by
 obtain ⟨f,fd,ps,a,b,c,d⟩:=G.ex
 exact pe_call a hr hg c d b .nil pass0 ha hdb he hpl
noncomputable def rIsin (K:PySem.W.Frag):List V→Hp→VK→Prop:=fun xs H Q=>match xs with
 | [x,.ty T]=>∃ t b,TyOf K H x t∧PySem.W.kitOne K t (.type T)=some b∧Q (.bl b) H
 | _=>False
theorem call_isin:CallR X (.builtin "isinstance") (rIsin X.K):=by
 intro pins s σ H xs us Q I r h
 unfold rIsin at h
 split at h
 ·obtain ⟨t,b,ty,e,q⟩:=h
  exact call_isinst pins s σ H _ us Q I r ⟨_,_,t,b,rfl,ty,e,q⟩
 ·exact h.elim
theorem pe_isin {T:Str} {TT:String} {a:Expr} {ta:TE} {p2:Pos} (hm:X.mg "isinstance"=none) (hT:X.mg T=none) (hv:bootBuiltins T=some (.type TT)) (ha:PE X a ta) (hg:Gl X "isinstance":=by rfl) (hg2:Gl X T:=by rfl) (hn:T≠"__name__":=by decide) (hd:(T == ("__debug__":Str))=false:=by decide)
  (he:starEach [a,.Name T p2] X.env=(false,eval a X.env) :: starEach [.Name T p2] X.env:=by rfl) (hpl:(backTo pos (starEach [.Name T p2] X.env)).any (·.1)=false:=by rfl) (he2:starEach [.Name T p2] X.env=[(false,eval (.Name T p2) X.env)]:=by rfl) :
  PE X (.Call (.Name "isinstance" p) [a,.Name T p2] [] pos) (fun σ H Q=>ta σ H fun x H1=>∃ t b,TyOf X.K H1 x t∧PySem.W.kitOne X.K t (.type TT)=some b∧Q (.bl b) H1) :=
 pe_callB call_isin hg hm bt_isinstance (pa_cons ha (pa_cons (pe_bltn (v:=.ty TT) hg2 hT hv rfl hn hd) pa_nil he2) he) (by decide) (by decide) he hpl
end
end L2
set_option maxHeartbeats 4000000
namespace L2
open PySem PySem.Spec PyProof.Rows
noncomputable def closes (cells:List (Str×Addr)):List (Str×NameKind)→List (Str×Addr)→Option (List (Str×Addr))
 | [],acc=>some acc
 | (n,k) :: r,acc=>if (k == .free)=true then (match cells.lookup n with
  | some a=>closes cells r ((n,a) :: acc)
  | none=>none) else closes cells r acc
theorem closureFor_of {scope:Scope} {env:Env} {cl:List (Str×Addr)} (h:closes env.cells scope.names []=some cl):closureFor scope env=pure cl:=by
 have gen:∀ (l:List (Str×NameKind)) (acc cl:List (Str×Addr)),closes env.cells l acc=some cl →
   (forIn (m:=Sem) l acc fun (x:Str×NameKind) (cs:List (Str×Addr))=>if (x.2 == .free)=true then (do let c ← cellOf env x.1; pure (ForInStep.yield ((x.1,c) :: cs))) else pure (ForInStep.yield cs))=pure cl:=by
  intro l
  induction l with
  | nil=>intro acc cl h; cases h; rfl
  | cons y r ih =>
   intro acc cl h
   obtain ⟨n,k⟩:=y
   unfold closes at h
   rw [List.forIn_cons]
   by_cases hk:(k == .free)=true
   ·rw [if_pos hk] at h
    dsimp only
    rw [if_pos hk]
    cases e:env.cells.lookup n with
    | none=>rw [e] at h; cases h
    | some a =>
     rw [e] at h
     have ec:cellOf env n=pure a:=by unfold cellOf; rw [e]
     rw [ec,pure_bind,pure_bind]
     exact ih _ _ h
   ·rw [if_neg hk] at h
    dsimp only
    rw [if_neg hk,pure_bind]
    exact ih _ _ h
 unfold closureFor
 exact (bind_pure _).trans (gen scope.names [] cl h)
theorem closes_mem {cells:List (Str×Addr)}:∀ {l:List (Str×NameKind)} {acc cl:List (Str×Addr)},closes cells l acc=some cl→(∀ p∈acc,cells.lookup p.1=some p.2)→∀ p∈cl,cells.lookup p.1=some p.2
 | [],acc,cl,h,ha=>by cases h; exact ha
 | (n,k) :: r,acc,cl,h,ha=>by
  unfold closes at h
  split at h
  ·cases e:cells.lookup n with
   | none=>rw [e] at h; cases h
   | some a =>
    rw [e] at h
    refine closes_mem h fun p hp=>?_
    rcases List.mem_cons.mp hp with q | q
    ·subst q; exact e
    ·exact ha p q
  ·exact closes_mem h ha
theorem closes_has {cells:List (Str×Addr)} {x:Str}:∀ {l:List (Str×NameKind)} {acc cl:List (Str×Addr)},closes cells l acc=some cl→((x,NameKind.free)∈l∨∃ c,(x,c)∈acc)→∃ c,(x,c)∈cl
 | [],acc,cl,h,hx=>by
  cases h
  rcases hx with q | q
  ·cases q
  ·exact q
 | (n,k) :: r,acc,cl,h,hx=>by
  unfold closes at h
  split at h
  ·cases e:cells.lookup n with
   | none=>rw [e] at h; cases h
   | some a =>
    rw [e] at h
    refine closes_has h ?_
    rcases hx with q | ⟨c,q⟩
    ·rcases List.mem_cons.mp q with z | z
     ·cases z; exact .inr ⟨a,List.mem_cons_self⟩
     ·exact .inl z
    ·exact .inr ⟨c,List.mem_cons_of_mem _ q⟩
  ·rename_i hk
   refine closes_has h ?_
   rcases hx with q | q
   ·rcases List.mem_cons.mp q with z | z
    ·cases z; exact absurd rfl hk
    ·exact .inl z
   ·exact .inr q
theorem lookup_of_mem {α:Type} {x:Str} {c:α}:∀ {l:List (Str×α)},(x,c)∈l→∃ d,l.lookup x=some d∧(x,d)∈l
 | (n,a) :: r,h=>by
  rw [List.lookup_cons]
  by_cases e:(x == n)=true
  ·rw [e]
   have e':x=n:=by simpa using e
   exact ⟨a,rfl,by rw [e']; exact List.mem_cons_self⟩
  ·have e2:(x == n)=false:=by simpa using e
   rw [e2]
   rcases List.mem_cons.mp h with z | z
   ·cases z; simp at e
   ·obtain ⟨d,h1,h2⟩:=lookup_of_mem z
    exact ⟨d,h1,List.mem_cons_of_mem _ h2⟩
noncomputable def cxC (X:Cx) (N:List Str) (scope:Scope) (cl:List (Str×Addr)) (C:Addr) (s2:Shared) (H2:Hp) (fp:List Addr):Cx where
 prog:=X.prog
 w:=X.w
 K:=X.K
 mg:=X.mg
 base:=X.base
 A:=X.A
 N:=N
 s₀:=s2
 H₀:=H2
 env:=compEnvC scope cl C X.env
 outer:=X.stack
 stack:=X.stack
 ex:=fp
 fn:=fun _=>false
 calm:=X.calm
 pn:=[]
 xe:=fun _ _=>False
noncomputable def compStart0 (mp:List (Option Nat)) (σ:St):St:=mp.map fun o=>match o with
 | some j=>(σ[j]?).bind id
 | none=>none
structure CompScope (X:Cx) (N:List Str) (mp:List (Option Nat)) (scope:Scope):Prop where
 kind:scope.kind=.function
 nocell:∀ y∈scope.names,y.2≠.cell
 names:∀ y∈scope.names,y.2=.local→scope.names.lookup y.1=some .local
 len:mp.length=N.length
 out:∀ (i j:Nat),mp[i]?=some (some j)→∃ x,N[i]?=some x∧X.N[j]?=some x∧(X.env.scope.names.lookup x=some .cell∨X.env.scope.names.lookup x=some .free)∧scope.names.lookup x=some .free
noncomputable def PTL (X:Cx) (ifs:List Expr) (t:TT):Prop :=
 ∀ (pins:List (Addr×Obj)) (s:Shared) (σ:St) (H:Hp) (Q:Bool→Hp→Prop),Inv X pins σ H s→t σ H Q →
  wpAny (model X.prog X.w) X.A (forIn ifs true fun c r=>if r=true then do let ok ← isTrue c X.env (eval c X.env); pure (ForInStep.yield ok) else pure (ForInStep.yield r)) (TP X pins σ Q) X.xe s
section
variable {prog:Program} {w:World} {A:Around} {R:Result→Shared→Prop} {s:Shared}
theorem compLoop_go {elt target iter:Expr} {ifs:List Expr} {scope:Scope} {pos:Pos} {it acc:Value} {env:Env} (I:Nat→Shared→Prop)
  (turn:∀ n s,I n s→wpAny (model prog w) A (pyNext it) (fun r s₁=>match r with
   | none=>R (.ok .next) s₁
   | some v=>wpAny (model prog w) A (letOwnedTupleGo target it v) (fun _ s1=>wpAny (model prog w) A (assign target env v) (fun _ s₂ =>
     wpAny (model prog w) A (forIn ifs true fun c r=>if r=true then do let ok ← isTrue c env (eval c env); pure (ForInStep.yield ok) else pure (ForInStep.yield r)) (fun ok s₃ =>
      if ok=true then wpAny (model prog w) A (eval elt env) (fun x s₄ =>
       wpAny (model prog w) A (call (.builtin "list.append") [acc,x]) (fun _ s₅=>∃ m,m < n∧I m s₅) (fun _ _=>False) s₄) (fun _ _=>False) s₃
      else ∃ m,m < n∧I m s₃) (fun _ _=>False) s₂) (fun _ _=>False) s1) (fun _ _=>False) s₁) (fun _ _=>False) s)
  (n:Nat) (h:I n s) :
  codeAny (model prog w) A (.compLoop (.ListComp elt [⟨target,iter,ifs,0⟩] scope pos) 0 it acc env) R s:=by
 refine codeAny_loop rfl I (fun n s hI=>?_) n h
 show wpAny _ A ((compTurn (.ListComp elt [⟨target,iter,ifs,0⟩] scope pos) 0 it acc env).onRaise (fun x=>do noteFrame x env; theTreesLotGoes x)) _ _ s
 refine wpAny_noted ?_
 rw [compTurn_list]
 refine wpAny_bind (wpAny_standAt (wpAny_bind (wpAny_mono (turn n s hI) (fun r s₁ h₁=>?_) fun _ _ h'=>h'.elim)))
 cases r with
 | none=>exact wpAny_pure h₁
 | some v =>
  refine wpAny_bind (wpAny_mono h₁ (fun _ s1 h1=>wpAny_bind (wpAny_mono h1 (fun _ s₂ h₂=>wpAny_bind (wpAny_mono h₂ (fun ok s₃ h₃=>?_) fun _ _ h'=>h'.elim)) fun _ _ h'=>h'.elim)) fun _ _ h'=>h'.elim)
  cases ok with
  | false=>exact wpAny_pure ⟨rfl,h₃⟩
  | true =>
   exact wpAny_bind (wpAny_bind (wpAny_mono h₃ (fun x s₄ h₄=>wpAny_bind (wpAny_mono h₄ (fun _ s₅ h₅=>wpAny_pure (wpAny_pure ⟨rfl,h₅⟩)) fun _ _ h'=>h'.elim)) fun _ _ h'=>h'.elim))
end
section
variable {X:Cx}
theorem ptl_nil:PTL X [] (fun _ H Q=>Q true H):=fun pins s σ H Q I h=>wpAny_tests_nil ⟨H,I,h⟩
theorem comp_inv {pins:List (Addr×Obj)} {σ:St} {H:Hp} {s2:Shared} {N:List Str} {mp:List (Option Nat)} {scope:Scope} {cl:List (Str×Addr)} {fp:List Addr} {h1:Heap} {tk:Nat} (I:Inv X pins σ H s2) (S:CompScope X N mp scope)
  (hcl:closes X.env.cells scope.names []=some cl) (hfp:∀ b∈fp,FpOk X pins H b) (hfo:∀ b∈fp,∃ o,s2.heap.get? b=some o)
  (old:∀ b o,s2.heap.get? b=some o→h1.get? b=some o) (hD:h1.get? s2.heap.objs.size=some { cls:=.type "list",data:=.seq ([]:List Value).toArray }) {m:Str→Option Value} (hC:h1.Ns (s2.heap.objs.size + 1) m) :
  Inv (cxC X N scope cl (s2.heap.objs.size + 1) s2 H fp) [] (compStart0 mp σ) (upd H s2.heap.objs.size (.lst [])) { s2 with heap:=h1,toks:=tk }:=by
 have clm:∀ {x:Str} {c:Addr},cl.lookup x=some c→X.env.cells.lookup x=some c:=fun {x c} e=>closes_mem hcl (fun p z=>absurd z (by simp)) (x,c) (PySem.mem_of_lookup e)
 have hn:H s2.heap.objs.size=none:=I.hok.fresh (Nat.le_refl _)
 have hnC:H (s2.heap.objs.size + 1)=none:=I.hok.fresh (Nat.le_succ _)
 have cellLt:∀ {x:Str} {c:Addr},X.env.cells.lookup x=some c→c < s2.heap.objs.size:=fun {x c} e=>by
  obtain ⟨v,q⟩:=I.cell x c e
  exact q.lt
 have freeOf:∀ x,((relabel scope X.env).names.lookup x=some .cell∨(relabel scope X.env).names.lookup x=some .free)→(x,NameKind.free)∈scope.names:=fun x hx=>by
  have hm:(x,NameKind.cell)∈(relabel scope X.env).names∨(x,NameKind.free)∈(relabel scope X.env).names:=hx.elim (fun z=>.inl (PySem.mem_of_lookup z)) fun z=>.inr (PySem.mem_of_lookup z)
  have conv:∀ k,(x,k)∈(relabel scope X.env).names→(k=.cell∨k=.free)→(x,NameKind.free)∈scope.names:=fun k hm hk=>by
   obtain ⟨⟨n,k'⟩,hy,e⟩:=List.mem_map.mp hm
   dsimp only at e
   split at e
   ·rename_i hc
    simp only [Bool.and_eq_true,beq_iff_eq] at hc
    cases e
    rw [hc.1.1] at hy
    exact hy
   ·cases e
    rcases hk with z | z
    ·subst z; exact absurd rfl (S.nocell _ hy)
    ·subst z; exact hy
  exact hm.elim (fun z=>conv _ z (.inl rfl)) fun z=>conv _ z (.inr rfl)
 have ok:(cxC X N scope cl (s2.heap.objs.size + 1) s2 H fp).Ok:=by
  refine ⟨I.ok.mod,S.kind,I.ok.glob,I.ok.blt,Nat.le_succ _,fun x y c e1 e2=>I.ok.inj x y c (clm e1) (clm e2),fun x hx=>?_,(fun x c z=>nomatch z),I.ok.hd,I.ok.frames,.inl rfl,fun b hb=>⟨?_,fun x c e=>(hfp b hb).2.2.2.2.1 x c (clm e)⟩,I.bs,Nat.le_trans I.ok.bsz I.sz,fun b o e hb=>?_,fun b hb z=>?_,I.stack,I.stkFree⟩
  ·obtain ⟨c,hc⟩:=closes_has hcl (.inl (freeOf x hx))
   obtain ⟨d,hd,_⟩:=lookup_of_mem hc
   exact ⟨d,hd⟩
  ·obtain ⟨o,e⟩:=hfo b hb
   exact Nat.ne_of_lt (Nat.lt_succ_of_lt (Heap.lt_size e))
  ·rcases (hfp b hb).2.2.2.1 with z | z
   ·exact I.ok.noex b o e z
   ·exact absurd (Nat.lt_of_lt_of_le (Heap.lt_size e) (Nat.le_trans I.ok.bsz z)) (Nat.lt_irrefl _)
  ·rcases List.mem_cons.mp (I.stkSub b z) with q | q
   ·exact (hfp b hb).2.1 q
   ·exact (hfp b hb).2.2.1 q
 refine ⟨ok,rfl,I.bare,Un.laid old (Nat.le_refl _) hn,⟨m,hC,fun i x v e1 e2 e3=>?_⟩,fun x c e=>?_,?_,fun x c e=>?_,(fun p hp=>nomatch hp),?_,?_⟩
 ·
  unfold compStart0 at e2
  rw [List.getElem?_map] at e2
  cases em:mp[i]? with
  | none=>rw [em] at e2; cases e2
  | some o =>
   rw [em] at e2
   cases o with
   | none=>cases e2
   | some j =>
    have e2':(σ[j]?).bind id=some v:=Option.some.inj e2
    obtain ⟨x',n1,n2,n3,n4⟩:=S.out i j em
    rw [show (cxC X N scope cl (s2.heap.objs.size + 1) s2 H fp).N[i]?=N[i]? from rfl,n1] at e1
    cases e1
    have sj:σ[j]?=some (some v):=by
     cases ej:σ[j]? with
     | none=>rw [ej] at e2'; cases e2'
     | some o=>rw [ej] at e2'; exact congrArg some e2'
    obtain ⟨m0,hm0,hl⟩:=I.loc
    obtain ⟨u,ru,lk⟩:=hl j x v n2 sj (.inr n3)
    refine ⟨u,ru,.inr ⟨?_,?_⟩⟩
    ·have hf:(x,NameKind.free)∈scope.names:=PySem.mem_of_lookup n4
     have key:∀ l:List (Str×NameKind),l.lookup x=some .free→((l.map fun (n,k)=>if (k == NameKind.free && X.env.scope.kind == .function && X.env.kindOf n == some .cell) then (n,NameKind.cell) else (n,k)).lookup x=some .cell ∨
       (l.map fun (n,k)=>if (k == NameKind.free && X.env.scope.kind == .function && X.env.kindOf n == some .cell) then (n,NameKind.cell) else (n,k)).lookup x=some .free):=by
      intro l
      induction l with
      | nil=>intro z; cases z
      | cons y r ih =>
       obtain ⟨n,k⟩:=y
       intro z
       rw [List.lookup_cons] at z
       rw [List.map_cons]
       dsimp only
       by_cases en:(x == n)=true
       ·rw [en] at z
        dsimp only at z
        cases z
        split
        ·exact .inl (by rw [List.lookup_cons,en])
        ·exact .inr (by rw [List.lookup_cons,en])
       ·have en2:(x == n)=false:=by simpa using en
        rw [en2] at z
        dsimp only at z
        split
        ·rw [List.lookup_cons,en2]; exact ih z
        ·rw [List.lookup_cons,en2]; exact ih z
     exact key scope.names n4
    ·have hf:(x,NameKind.free)∈scope.names:=PySem.mem_of_lookup n4
     obtain ⟨c,hc⟩:=closes_has hcl (.inl hf)
     obtain ⟨d,hd,_⟩:=lookup_of_mem hc
     rcases lk with ⟨k1,_⟩ | ⟨_,c',hc',z⟩
     ·have k1':X.env.scope.names.lookup x=some .local:=k1
      rcases n3 with z | z <;> (rw [k1'] at z; cases z)
     ·have e:=clm hd
      rw [hc'] at e
      have e3:c'=d:=Option.some.inj e
      obtain ⟨o,ho,hdt⟩:=z
      rw [e3] at ho
      exact ⟨d,hd,o,old _ _ ho,hdt⟩
 ·obtain ⟨v,o,ho,hdt⟩:=I.cell x c (clm e)
  exact ⟨v,o,old _ _ ho,hdt⟩
 ·show upd H s2.heap.objs.size (.lst []) (s2.heap.objs.size + 1)=none
  rw [upd_ne (Nat.ne_of_gt (Nat.lt_succ_self _))]; exact hnC
 ·show upd H s2.heap.objs.size (.lst []) c=none
  rw [upd_ne (Nat.ne_of_lt (cellLt (clm e)))]
  exact I.freeC x c (clm e)
 ·exact I.hok.laid old (Nat.le_refl _) ⟨by show 0≤sizeLine; exact Nat.zero_le _,[],0,.nil,hD⟩
 ·show (compStart0 mp σ).length=N.length
  unfold compStart0
  rw [List.length_map]; exact S.len
noncomputable def tComp (mp:List (Option Nat)) (wi:TI) (g:Addr→Shared→Hp→List Addr→TG) (tt:Addr→Shared→Hp→List Addr→TT) (te:Addr→Shared→Hp→List Addr→TE):TE:=fun σ H Q=>wi σ H fun J H1=>∀ (D:Addr),H1 D=none→∀ (C:Addr) (s2:Shared) (fp:List Addr),
 ∃ W:Nat→Nat→St→Hp→Prop,(∃ m,W 0 m (compStart0 mp σ) (upd H1 D (.lst [])))∧∀ i m σ2 H2,W i m σ2 H2 →
  (J.stop i H2∧Q (.ref D) H2)∨(J.go i H2∧∃ N:St→Hp→Prop,(∀ σ' H',N σ' H'→∃ m',m' < m∧W (i + 1) m' σ' H')∧∀ x H',J.yld i H2 x H'→g C s2 H1 fp x σ2 H' fun σ3 H3=>tt C s2 H1 fp σ3 H3 fun b H4 =>
   if b=true then te C s2 H1 fp σ3 H4 fun y H5=>∃ xs,H5 D=some (.lst xs)∧xs.length < sizeLine∧N σ3 (upd H5 D (.lst (xs++[y]))) else N σ3 H4)
theorem pe_comp {elt iter tg:Expr} {ifs:List Expr} {scope:Scope} {pos:Pos} {N:List Str} {mp:List (Option Nat)} {cl:List (Str×Addr)} {wi:TI} {g:Addr→Shared→Hp→List Addr→TG} {tt:Addr→Shared→Hp→List Addr→TT} {te:Addr→Shared→Hp→List Addr→TE}
  (hc:X.calm=true) (S:CompScope X N mp scope) (hcl:closes X.env.cells scope.names []=some cl) (hi:PI X tg iter wi)
  (hg:∀ C s2 H2 fp,PG (cxC X N scope cl C s2 H2 fp) tg (g C s2 H2 fp)) (ht:∀ C s2 H2 fp,PTL (cxC X N scope cl C s2 H2 fp) ifs (tt C s2 H2 fp)) (he:∀ C s2 H2 fp,PE (cxC X N scope cl C s2 H2 fp) elt (te C s2 H2 fp))
  (hs:∀ x,foldedSetIterable iter X.env x=pure x:=by intro _; rfl) :
  PE X (.ListComp elt [⟨tg,iter,ifs,0⟩] scope pos) (tComp mp wi g tt te):=by
 intro pins s σ H Q I h
 rw [eval_ListComp]
 refine wpAny_comprehension_free (use:=none) rfl hs (closureFor_of hcl) S.kind S.names (thn (hi pins s σ H _ I h) fun v s1 h1=>thn h1 fun itv s2 h2=>?_)
 obtain ⟨it,fp,tn,J,H2,e,I2,T,st2,f2,h3⟩:=h2
 subst e
 refine wpAny_newObj_type (wpAny_newFunctionEnv S.nocell (by intro y hy; simp at hy) (fun h₁ hns₁ hsb₁=>?_) S.kind)
 dsimp only at hns₁ hsb₁ ⊢
 have hn2:H2 s2.heap.objs.size=none:=I2.hok.fresh (Nat.le_refl _)
 generalize hH2:s2.heap.push { cls:=.type "list",dict:=none,data:=.seq ([]:List Value).toArray }=G2 at hns₁ hsb₁ ⊢
 have hC:G2.objs.size=s2.heap.objs.size + 1:=by rw [← hH2,Heap.size_push]
 have old:∀ b o,s2.heap.get? b=some o→h₁.get? b=some o:=fun b o e=>hsb₁.extBut b o (by rw [hC]; exact Nat.ne_of_lt (Nat.lt_succ_of_lt (Heap.lt_size e))) (Heap.get?_push_of_some _ (hH2 ▸ Heap.get?_push_of_some _ e))
 have hD1:h₁.get? s2.heap.objs.size=some { cls:=.type "list",data:=.seq ([]:List Value).toArray }:=hsb₁.extBut _ _ (by rw [hC]; exact Nat.ne_of_lt (Nat.lt_succ_self _)) (Heap.get?_push_of_some _ (hH2 ▸ Heap.get?_push_size _ rfl))
 rw [hC] at hns₁
 obtain ⟨W,⟨m0,w0⟩,turn⟩:=h3 s2.heap.objs.size hn2 (s2.heap.objs.size + 1) s2 fp
 have I4:=comp_inv (tk:=s2.toks + ([]:List (Str×Value)).length) I2 S hcl f2 (fun b hb=>let ⟨o,e,_⟩:=T.obj _ _ st2 b hb; ⟨o,e⟩) old hD1 hns₁
 have st4:tn 0 h₁:=T.keep _ _ _ st2 fun b hb o e=>old b o e
 have stat:∀ {pl:List (Addr×Obj)} {H':Hp},(∀ b∈fp,H' b=none)→(∀ p∈pl,p.1 ∉ fp)→∀ b∈fp,FpOk (cxC X N scope cl (s2.heap.objs.size + 1) s2 H2 fp) pl H' b:=fun {pl H'} hn hp b hb =>
  ⟨hn b hb,(I4.ok.exf b hb).1,I4.ok.exfs b hb,.inl hb,(I4.ok.exf b hb).2,fun p z q=>hp p (by simpa [cxC] using z) (by rw [q]; exact hb)⟩
 have fr0:∀ b∈fp,(upd H2 s2.heap.objs.size (.lst [])) b=none:=fun b hb=>by
  obtain ⟨o,e,_⟩:=T.obj _ _ st2 b hb
  rw [upd_ne (Nat.ne_of_lt (Heap.lt_size e))]
  exact (f2 b hb).1
 have envEq:(newEnv scope G2.objs.size X.env.globals cl X.env.qual none .none (some X.env) X.env.builtins)=(newEnv scope (s2.heap.objs.size + 1) X.env.globals cl X.env.qual none .none (some X.env) X.env.builtins):=by rw [hC]
 have fin:∀ {σ':St} {H':Hp} {s':Shared},Inv (cxC X N scope cl (s2.heap.objs.size + 1) s2 H2 fp) [] σ' H' s'→Q (.ref s2.heap.objs.size) H'→compPost (model X.prog X.w) X.A X.xe none (EP X pins σ Q) (.ref s2.heap.objs.size) (s2.heap.objs.size + 1) (.ok .next) s':=by
  intro σ' H' s' J' q
  obtain ⟨m,hm,_⟩:=id J'.loc
  refine ⟨m,hm,fun h'' sb=>?_⟩
  have keepC:∀ b o,b≠s2.heap.objs.size + 1→s'.heap.get? b=some o→h''.get? b=some o:=fun b o hb e=>sb.extBut b o hb e
  have u0:=J'.base
  have neC:∀ b o,s2.heap.get? b=some o→b≠s2.heap.objs.size + 1:=fun b o e=>Nat.ne_of_lt (Nat.lt_succ_of_lt (Heap.lt_size e))
  have u:Un (frs X.stack) fp H2 H' s2.heap h'':=⟨fun b o e n hb hx=>keepC b o (neC b o e) (u0.keep b o e n hb hx),fun b o e n hb hx=>by
    obtain ⟨sl,e1⟩:=u0.slot b o e n hb hx
    exact ⟨sl,keepC b _ (neC b o e) e1⟩,u0.free,fun b o e hx=>by
    obtain ⟨o',e1⟩:=u0.there b o e hx
    exact ⟨o',keepC b o' (neC b o e) e1⟩,u0.tups,u0.frzs,u0.tbls⟩
  have freeC:H' (s2.heap.objs.size + 1)=none:=J'.free
  have hok:HOk X.prog X.w H' h'':=fun b o e=>(J'.hok b o e).stay (fun c v hcc r=>keepC c v (by
    intro z
    rcases hcc with q1 | q1
    ·rw [← q1,z,freeC] at e; cases e
    ·rw [z,freeC] at q1; cases q1) r) (fun _ z=>z) fun _ _ z=>z
  exact ⟨.ref s2.heap.objs.size,H',I2.call' (s':={ s' with heap:=h'' }) J'.os u hok J'.bare fun b hb=>⟨(f2 b hb).2.2.2.1,(f2 b hb).2.1,(f2 b hb).2.2.2.2.1,(f2 b hb).2.2.2.2.2⟩,rfl,q⟩
 have loop:codeAny (model X.prog X.w) X.A (.compLoop (.ListComp elt [⟨tg,iter,ifs,0⟩] scope pos) 0 (.ref it) (.ref s2.heap.objs.size) (compEnvC scope cl (s2.heap.objs.size + 1) X.env))
   (compPost (model X.prog X.w) X.A X.xe none (EP X pins σ Q) (.ref s2.heap.objs.size) (s2.heap.objs.size + 1)) { s2 with heap:=h₁,toks:=s2.toks + ([]:List (Str×Value)).length }:=by
  refine compLoop_go (fun n s'=>∃ i σ' H',Inv (cxC X N scope cl (s2.heap.objs.size + 1) s2 H2 fp) [] σ' H' s'∧tn i s'.heap∧(∀ b∈fp,H' b=none)∧W i n σ' H') ?_ m0 ⟨0,_,_,I4,st4,fr0,w0⟩
  rintro n s3 ⟨i,σ3,H3,I3,st3,fr3,w3⟩
  rcases turn i n σ3 H3 w3 with ⟨stop,qn⟩ | ⟨go,N',hN,step⟩
  ·refine (thn (T.done (cxC X N scope cl (s2.heap.objs.size + 1) s2 H2 fp) rfl rfl rfl hc i [] s3 σ3 H3 (fun _ _=>False) I3 (stat fr3 (fun _ z=>nomatch z)) st3 stop) fun r s4 ⟨hr,I4'⟩=>?_)
   subst hr
   exact fin I4' qn
  ·refine (thn (T.item (cxC X N scope cl (s2.heap.objs.size + 1) s2 H2 fp) rfl rfl rfl hc i [] s3 σ3 H3 (fun _ _=>False) I3 (stat fr3 (fun _ z=>nomatch z)) st3 go) fun r s4 ⟨u,hr,h4⟩=>?_)
   subst hr
   refine thn h4 fun _ s5 ⟨x,H5,I5,r5,y5,st5,fr5⟩=>?_
   have I5':=I5.pinned (pins:=[]) (stat fr5 (fun _ z=>nomatch z)) (T.obj _ _ st5)
   refine (thn (hg (s2.heap.objs.size + 1) s2 H2 fp _ s5 σ3 H5 x u _ I5' r5 (step x H5 y5)) fun _ s6 ⟨σ6,H6,I6,q6⟩=>?_)
   refine (thn (ht (s2.heap.objs.size + 1) s2 H2 fp _ s6 σ6 H6 _ I6 q6) fun b s7 ⟨H7,I7,q7⟩=>?_)
   have again:∀ {σ7:St} {H7:Hp} {s7:Shared},Inv (cxC X N scope cl (s2.heap.objs.size + 1) s2 H2 fp) ([]++pinsAt fp s5.heap) σ7 H7 s7→N' σ7 H7→∃ m,m < n∧∃ i σ' H',Inv (cxC X N scope cl (s2.heap.objs.size + 1) s2 H2 fp) [] σ' H' s7∧tn i s7.heap∧(∀ b∈fp,H' b=none)∧W i m σ' H':=fun {σ7 H7 s7} I7 n7=>by
    obtain ⟨m',hm,w7⟩:=hN σ7 H7 n7
    refine ⟨m',hm,i + 1,σ7,H7,I7.unpinned,T.keep _ _ _ st5 fun b hb o e=>(I7.pin (b,o) (List.mem_append_right _ (List.mem_append_right _ (mem_pinsAt hb e)))).1,fun b hb=>?_,w7⟩
    obtain ⟨o,e,d⟩:=T.obj _ _ st5 b hb
    exact (I7.pin (b,o) (List.mem_append_right _ (List.mem_append_right _ (mem_pinsAt hb e)))).2.1
   cases b with
   | false =>
    rw [if_neg Bool.false_ne_true] at q7 ⊢
    exact again I7 q7
   | true =>
    rw [if_pos rfl] at q7 ⊢
    refine (thn (he (s2.heap.objs.size + 1) s2 H2 fp _ s7 σ6 H7 _ I7 q7) fun y s8 ⟨yv,H8,I8,ry,xs,hx,hz,n8⟩=>?_)
    refine (thn (mt_append (X:=cxC X N scope cl (s2.heap.objs.size + 1) s2 H2 fp) _ s8 σ6 H8 (.ref s2.heap.objs.size) [yv] (.ref s2.heap.objs.size) [y] (fun _ H'=>N' σ6 H') I8 rfl (.cons ry .nil) ⟨_,xs,yv,rfl,rfl,hx,hz,n8⟩) fun _ s9 ⟨_,H9,I9,_,n9⟩=>?_)
    exact again I9 n9
 have goal:=codeAny_compStart_list loop (T.self X.A 0 { s2 with heap:=h₁,toks:=s2.toks + ([]:List (Str×Value)).length } _ _ st4 loop)
 rw [hC]
 exact goal
end
end L2
namespace L2
open PySem PySem.Spec PyProof.Rows
inductive D where
 | non
 | bl (b:Bool)
 | int (i:Int)
 | str (x:Str)
 | tup (l:List D)
 | lst (l:List D)
mutual
noncomputable def Rep (K:PySem.W.Frag) (H:Hp):D→V→Prop
 | .non,v=>v=.non
 | .bl b,v=>v=.bl b
 | .int i,v=>v=.int i
 | .str x,v=>v=.str x
 | .tup ds,v=>∃ p xs,v=.ref p∧SqT K H p xs∧Reps K H ds xs
 | .lst ds,v=>∃ p xs,v=.ref p∧SqL K H p xs∧Reps K H ds xs
noncomputable def Reps (K:PySem.W.Frag) (H:Hp):List D→List V→Prop
 | [],xs=>xs=[]
 | d :: ds,xs=>∃ x r,xs=x :: r∧Rep K H d x∧Reps K H ds r
end
mutual
noncomputable def eqD:D→D→Bool
 | .non,.non=>true
 | .bl a,.bl b=>a == b
 | .bl a,.int b=>(if a then 1 else 0) == b
 | .int a,.bl b=>a == (if b then 1 else 0)
 | .int a,.int b=>a == b
 | .str a,.str b=>a == b
 | .tup a,.tup b=>eqDs a b
 | .lst a,.lst b=>eqDs a b
 | _,_=>false
noncomputable def eqDs:List D→List D→Bool
 | [],[]=>true
 | a :: r,b :: t=>eqD a b && eqDs r t
 | _,_=>false
end
mutual
noncomputable def D.dep:D→Nat
 | .tup l=>deps l + 1
 | .lst l=>deps l + 1
 | _=>0
noncomputable def deps:List D→Nat
 | []=>0
 | d :: r=>max d.dep (deps r)
end
theorem Reps.len {K:PySem.W.Frag} {H:Hp}:∀ {ds:List D} {xs:List V},Reps K H ds xs→ds.length=xs.length
 | [],xs,h=>by
  unfold Reps at h; subst h; rfl
 | d :: ds,xs,h=>by
  unfold Reps at h
  obtain ⟨x,r,rfl,_,h⟩:=h
  rw [List.length_cons,List.length_cons,Reps.len h]
theorem Reps.get {K:PySem.W.Frag} {H:Hp}:∀ {ds:List D} {xs:List V} {j:Nat} {d:D},Reps K H ds xs→ds[j]?=some d→∃ x,xs[j]?=some x∧Rep K H d x
 | [],xs,j,d,h,e=>by cases e
 | a :: ds,xs,j,d,h,e=>by
  unfold Reps at h
  obtain ⟨x,r,rfl,h1,h2⟩:=h
  match j,e with
  | 0,e=>cases e; exact ⟨x,rfl,h1⟩
  | j + 1,e=>exact Reps.get (ds:=ds) (j:=j) h2 (by simpa using e)
mutual
theorem eqD_refl:∀ d:D,eqD d d=true
 | .non=>rfl
 | .bl b=>by unfold eqD; simp
 | .int i=>by unfold eqD; simp
 | .str x=>by unfold eqD; simp
 | .tup l=>by unfold eqD; exact eqDs_refl l
 | .lst l=>by unfold eqD; exact eqDs_refl l
theorem eqDs_refl:∀ l:List D,eqDs l l=true
 | []=>by unfold eqDs; rfl
 | d :: r=>by unfold eqDs; rw [eqD_refl d,eqDs_refl r]; rfl
end
section
variable {X:Cx} {pins:List (Addr×Obj)} {σ:St} {H:Hp} {s:Shared}
theorem Inv.list_tup (I:Inv X pins σ H s) {a:Addr} {xs ys:List V} (h1:SqL X.K H a xs) (h2:SqT X.K H a ys):False:=by
 obtain ⟨its,_,⟨o,n,e1,c1,_⟩,_⟩:=I.list h1
 obtain ⟨its2,_,⟨o2,e2,c2,_⟩,_⟩:=I.tuple h2
 rw [e1] at e2; cases e2
 rw [c1] at c2
 injection c2 with c3
 exact absurd c3 (by decide)
mutual
theorem rep_inj (I:Inv X pins σ H s):∀ (d e:D) (v:V),Rep X.K H d v→Rep X.K H e v→d=e
  | .non,e,v,h1,h2=>by
    unfold Rep at h1; subst h1
    cases e <;> (unfold Rep at h2; first | rfl | (obtain ⟨_,_,z,_⟩:=h2; cases z; done) | cases h2)
  | .bl b,e,v,h1,h2=>by
    unfold Rep at h1; subst h1
    cases e <;> (unfold Rep at h2; first | (obtain ⟨_,_,z,_⟩:=h2; cases z; done) | (cases h2; rfl) | cases h2)
  | .int b,e,v,h1,h2=>by
    unfold Rep at h1; subst h1
    cases e <;> (unfold Rep at h2; first | (obtain ⟨_,_,z,_⟩:=h2; cases z; done) | (cases h2; rfl) | cases h2)
  | .str b,e,v,h1,h2=>by
    unfold Rep at h1; subst h1
    cases e <;> (unfold Rep at h2; first | (obtain ⟨_,_,z,_⟩:=h2; cases z; done) | (cases h2; rfl) | cases h2)
  | .tup l,e,v,h1,h2=>by
    unfold Rep at h1
    obtain ⟨p,xs,rfl,q,r⟩:=h1
    cases e with
    | tup l2 =>
      unfold Rep at h2
      obtain ⟨p2,xs2,z,q2,r2⟩:=h2
      cases z
      rw [I.tuple_inj q2 q] at r2
      rw [reps_inj I l l2 xs r r2]
    | lst l2 =>
      unfold Rep at h2
      obtain ⟨p2,xs2,z,q2,r2⟩:=h2
      cases z
      exact (I.list_tup q2 q).elim
    | _=>unfold Rep at h2; cases h2
  | .lst l,e,v,h1,h2=>by
    unfold Rep at h1
    obtain ⟨p,xs,rfl,q,r⟩:=h1
    cases e with
    | lst l2 =>
      unfold Rep at h2
      obtain ⟨p2,xs2,z,q2,r2⟩:=h2
      cases z
      rw [I.list_inj q2 q] at r2
      rw [reps_inj I l l2 xs r r2]
    | tup l2 =>
      unfold Rep at h2
      obtain ⟨p2,xs2,z,q2,r2⟩:=h2
      cases z
      exact (I.list_tup q q2).elim
    | _=>unfold Rep at h2; cases h2
theorem reps_inj (I:Inv X pins σ H s):∀ (ds es:List D) (xs:List V),Reps X.K H ds xs→Reps X.K H es xs→ds=es
 | [],es,xs,h1,h2=>by
  unfold Reps at h1; subst h1
  cases es with
  | nil=>rfl
  | cons e es=>unfold Reps at h2; obtain ⟨_,_,z,_⟩:=h2; cases z
 | d :: ds,es,xs,h1,h2=>by
  unfold Reps at h1
  obtain ⟨x,r,rfl,a,b⟩:=h1
  cases es with
  | nil=>unfold Reps at h2; cases h2
  | cons e es =>
   unfold Reps at h2
   obtain ⟨x2,r2,z,a2,b2⟩:=h2
   cases z
   rw [rep_inj I d e x a a2,reps_inj I ds es r b b2]
end
theorem eqDs_all:∀ (ds es:List D),ds.length=es.length→(List.range ds.length).all (fun j=>match ds[j]?,es[j]? with
  | some d,some e=>eqD d e
  | _,_=>false)=eqDs ds es
 | [],[],_=>by unfold eqDs; rfl
 | d :: ds,e :: es,h=>by
  rw [List.length_cons,List.range_succ_eq_map,List.all_cons,List.all_map]
  unfold eqDs
  rw [← eqDs_all ds es (by simpa using h)]
  rfl
theorem eqDs_len:∀ (ds es:List D),ds.length≠es.length→eqDs ds es=false
 | [],[],h=>absurd rfl h
 | [],_ :: _,_=>by unfold eqDs; rfl
 | _ :: _,[],_=>by unfold eqDs; rfl
 | d :: ds,e :: es,h=>by
  unfold eqDs
  rw [eqDs_len ds es (by simpa using h),Bool.and_false]
noncomputable def eAt (ds es:List D) (j:Nat):Bool:=match ds[j]?,es[j]? with
  | some d,some e=>eqD d e
  | _,_=>false
theorem items_eq {A:Around} {ds es:List D} {xs ys:List V} {us vs:List Value} (r1:Reps X.K H ds xs) (r2:Reps X.K H es ys) (v1:Vals xs us) (v2:Vals ys vs)
  (ih:∀ (j:Nat) (d e:D) (x y:V) (u v:Value),ds[j]?=some d→es[j]?=some e→Rep X.K H d x→Rep X.K H e y→RelV x u→RelV y v→SeqAt.EqAt A s u v (eqD d e)) :
  ∀ j (h1:j < us.toArray.size) (h2:j < vs.toArray.size),SeqAt.EqAt A s us.toArray[j] vs.toArray[j] (eAt ds es j):=by
 intro j h1 h2
 rw [List.size_toArray] at h1 h2
 have l1:=r1.len
 have l2:=r2.len
 have l3:=v1.length
 have l4:=v2.length
 have e1:ds[j]?=some (ds[j]'(by lia)):=List.getElem?_eq_getElem _
 have e2:es[j]?=some (es[j]'(by lia)):=List.getElem?_eq_getElem _
 obtain ⟨x,hx,px⟩:=r1.get e1
 obtain ⟨y,hy,py⟩:=r2.get e2
 obtain ⟨u,hu,ru⟩:=v1.get hx
 obtain ⟨v,hv,rv⟩:=v2.get hy
 have q:=ih j _ _ x y u v e1 e2 px py ru rv
 have hu':us.toArray[j]'(by simpa using h1)=u:=by
  have:=List.getElem?_eq_getElem h1
  rw [hu] at this
  simpa using (Option.some.inj this).symm
 have hv':vs.toArray[j]'(by simpa using h2)=v:=by
  have:=List.getElem?_eq_getElem h2
  rw [hv] at this
  simpa using (Option.some.inj this).symm
 rw [hu',hv']
 unfold eAt
 rw [e1,e2]
 exact q
theorem range_lst {ds es:List D} {n:Nat} (h:ds.length=n) (h2:es.length=n):(List.range n).all (eAt ds es)=eqDs ds es:=by
 rw [← h,← eqDs_all ds es (h.trans h2.symm)]
 rfl
theorem range_tup {ds es:List D} {n m:Nat} (h:ds.length=n) (h2:es.length=m):((List.range (min n m)).all (eAt ds es) && (n == m))=eqDs ds es:=by
 by_cases e:n=m
 ·subst e
  rw [Nat.min_self,range_lst h h2]
  simp
 ·have e2:(n == m)=false:=by simpa using e
  rw [e2,Bool.and_false,eqDs_len ds es (by rw [h,h2]; exact e)]
theorem rc_lists {A:Around} {l b:Addr} {ds es:List D} {xs ys:List V} (I:Inv X pins σ H s) (h1:SqL X.K H l xs) (h2:SqL X.K H b ys) (r1:Reps X.K H ds xs) (r2:Reps X.K H es ys) (hu:A.units < cLine)
  (ih:∀ (j:Nat) (d e:D) (x y:V) (u v:Value),ds[j]?=some d→es[j]?=some e→Rep X.K H d x→Rep X.K H e y→RelV x u→RelV y v→SeqAt.EqAt A.in1 s u v (eqD d e)) :
  SeqAt.RcAt A s (.ref l) (.ref b) (eqDs ds es)∧SeqAt.RcNeAt A s (.ref l) (.ref b) (!eqDs ds es):=by
 obtain ⟨us,v1,p1,z1⟩:=I.list h1
 obtain ⟨vs,v2,p2,z2⟩:=I.list h2
 have l1:=r1.len
 have l2:=r2.len
 have l3:=v1.length
 have l4:=v2.length
 by_cases e:us.length=vs.length
 ·have it:=items_eq r1 r2 v1 v2 ih
  have a1:=SeqAt.RcAt.lists (A:=A) p1.isList p2.isList (by simpa using e) hu it
  have a2:=SeqAt.RcNeAt.lists (A:=A) p1.isList p2.isList (by simpa using e) hu it
  rw [range_lst (ds:=ds) (es:=es) (by simp; lia) (by simp; lia)] at a1 a2
  exact ⟨a1,a2⟩
 ·have ne:(us.toArray.size != vs.toArray.size)=true:=by simpa using e
  rw [eqDs_len ds es (by lia)]
  exact ⟨SeqAt.RcAt.lists_lengths p1.isList p2.isList ne hu,SeqAt.RcNeAt.lists_lengths p1.isList p2.isList ne hu⟩
theorem rc_tups {A:Around} {l b:Addr} {ds es:List D} {xs ys:List V} (I:Inv X pins σ H s) (h1:SqT X.K H l xs) (h2:SqT X.K H b ys) (r1:Reps X.K H ds xs) (r2:Reps X.K H es ys) (hu:A.units < cLine)
  (ih:∀ (j:Nat) (d e:D) (x y:V) (u v:Value),ds[j]?=some d→es[j]?=some e→Rep X.K H d x→Rep X.K H e y→RelV x u→RelV y v→SeqAt.EqAt A.in1 s u v (eqD d e)) :
  SeqAt.RcAt A s (.ref l) (.ref b) (eqDs ds es)∧SeqAt.RcNeAt A s (.ref l) (.ref b) (!eqDs ds es):=by
 obtain ⟨us,v1,p1,z1⟩:=I.tuple h1
 obtain ⟨vs,v2,p2,z2⟩:=I.tuple h2
 have l1:=r1.len
 have l2:=r2.len
 have l3:=v1.length
 have l4:=v2.length
 have it:=items_eq r1 r2 v1 v2 ih
 have a1:=SeqAt.RcAt.tuples (A:=A) (show s.heap.IsTuple l us.toArray from p1) (show s.heap.IsTuple b vs.toArray from p2) hu it
 have a2:=SeqAt.RcNeAt.tuples (A:=A) (show s.heap.IsTuple l us.toArray from p1) (show s.heap.IsTuple b vs.toArray from p2) hu it
 rw [range_tup (ds:=ds) (es:=es) (by simp; lia) (by simp; lia)] at a1 a2
 exact ⟨a1,a2⟩
theorem deps_get:∀ {l:List D} {j:Nat} {d:D},l[j]?=some d→d.dep≤deps l
 | a :: l,0,d,e=>by cases e; unfold deps; lia
 | a :: l,j + 1,d,e=>by
  have:=deps_get (l:=l) (j:=j) (d:=d) (by simpa using e)
  unfold deps; lia
theorem rep_eq (I:Inv X pins σ H s):∀ (n:Nat) (A:Around) (d e:D) (x y:V) (u v:Value),d.dep≤n→A.units + n < cLine→Rep X.K H d x→Rep X.K H e y→RelV x u→RelV y v→SeqAt.EqAt A s u v (eqD d e):=by
 intro n
 induction n with
 | zero =>
  intro A d e x y u v hd hu r1 r2 ru rv
  have hu0:A.units < cLine:=by lia
  cases d with
  | tup l=>unfold D.dep at hd; lia
  | lst l=>unfold D.dep at hd; lia
  | non =>
   unfold Rep at r1; subst r1; cases ru
   cases e with
   | non=>unfold Rep at r2; subst r2; cases rv; exact SeqAt.EqAt.same _
   | bl b=>unfold Rep at r2; subst r2; cases rv; exact SeqAt.EqAt.none_bool b
   | int b=>unfold Rep at r2; subst r2; obtain ⟨t,rfl⟩:=rv; exact SeqAt.EqAt.none_int b t
   | str b=>unfold Rep at r2; subst r2; obtain ⟨t,rfl⟩:=rv; exact SeqAt.EqAt.none_str b t
   | tup l=>unfold Rep at r2; obtain ⟨p,xs,rfl,q,_⟩:=r2; cases rv; obtain ⟨us,_,pt,_⟩:=I.tuple q; exact SeqAt.EqAt.none_tuple (show s.heap.IsTuple p us.toArray from pt) hu0
   | lst l=>unfold Rep at r2; obtain ⟨p,xs,rfl,q,_⟩:=r2; cases rv; obtain ⟨us,_,pt,_⟩:=I.list q; exact SeqAt.EqAt.none_list pt.isList hu0
  | bl a =>
   unfold Rep at r1; subst r1; cases ru
   cases e with
   | non=>unfold Rep at r2; subst r2; cases rv; exact SeqAt.EqAt.bool_none a
   | bl b=>unfold Rep at r2; subst r2; cases rv; exact SeqAt.EqAt.bool_bool a b
   | int b=>unfold Rep at r2; subst r2; obtain ⟨t,rfl⟩:=rv; exact SeqAt.EqAt.bool_int a b t
   | str b=>unfold Rep at r2; subst r2; obtain ⟨t,rfl⟩:=rv; exact SeqAt.EqAt.bool_str a b t
   | tup l=>unfold Rep at r2; obtain ⟨p,xs,rfl,q,_⟩:=r2; cases rv; obtain ⟨us,_,pt,_⟩:=I.tuple q; exact SeqAt.EqAt.bool_tuple a (show s.heap.IsTuple p us.toArray from pt) hu0
   | lst l=>unfold Rep at r2; obtain ⟨p,xs,rfl,q,_⟩:=r2; cases rv; obtain ⟨us,_,pt,_⟩:=I.list q; exact SeqAt.EqAt.bool_list a pt.isList hu0
  | int a =>
   unfold Rep at r1; subst r1; obtain ⟨t1,rfl⟩:=ru
   cases e with
   | non=>unfold Rep at r2; subst r2; cases rv; exact SeqAt.EqAt.int_none a t1
   | bl b=>unfold Rep at r2; subst r2; cases rv; exact SeqAt.EqAt.int_bool a t1 b
   | int b=>unfold Rep at r2; subst r2; obtain ⟨t,rfl⟩:=rv; exact SeqAt.EqAt.int_int a t1 b t
   | str b=>unfold Rep at r2; subst r2; obtain ⟨t,rfl⟩:=rv; exact SeqAt.EqAt.int_str a t1 b t
   | tup l=>unfold Rep at r2; obtain ⟨p,xs,rfl,q,_⟩:=r2; cases rv; obtain ⟨us,_,pt,_⟩:=I.tuple q; exact SeqAt.EqAt.int_tuple a t1 (show s.heap.IsTuple p us.toArray from pt) hu0
   | lst l=>unfold Rep at r2; obtain ⟨p,xs,rfl,q,_⟩:=r2; cases rv; obtain ⟨us,_,pt,_⟩:=I.list q; exact SeqAt.EqAt.int_list a t1 pt.isList hu0
  | str a =>
   unfold Rep at r1; subst r1; obtain ⟨t1,rfl⟩:=ru
   cases e with
   | non=>unfold Rep at r2; subst r2; cases rv; exact SeqAt.EqAt.str_none a t1
   | bl b=>unfold Rep at r2; subst r2; cases rv; exact SeqAt.EqAt.str_bool a t1 b
   | int b=>unfold Rep at r2; subst r2; obtain ⟨t,rfl⟩:=rv; exact SeqAt.EqAt.str_int a t1 b t
   | str b=>unfold Rep at r2; subst r2; obtain ⟨t,rfl⟩:=rv; exact SeqAt.EqAt.str_str a t1 b t
   | tup l=>unfold Rep at r2; obtain ⟨p,xs,rfl,q,_⟩:=r2; cases rv; obtain ⟨us,_,pt,_⟩:=I.tuple q; exact SeqAt.EqAt.str_tuple a t1 (show s.heap.IsTuple p us.toArray from pt) hu0
   | lst l=>unfold Rep at r2; obtain ⟨p,xs,rfl,q,_⟩:=r2; cases rv; obtain ⟨us,_,pt,_⟩:=I.list q; exact SeqAt.EqAt.str_list a t1 pt.isList hu0
 | succ n ihn =>
  intro A d e x y u v hd hu r1 r2 ru rv
  have hu0:A.units < cLine:=by lia
  have hu1:A.in1.units + n < cLine:=by show A.units + 1 + n < cLine; lia
  cases d with
  | tup l =>
   have r1':=r1
   unfold Rep at r1
   obtain ⟨p,xs,rfl,q,rs⟩:=r1
   cases ru
   have hd':deps l≤n:=by unfold D.dep at hd; lia
   obtain ⟨us,_,pt,_⟩:=id (I.tuple q)
   cases e with
   | non=>unfold Rep at r2; subst r2; cases rv; exact SeqAt.EqAt.tuple_none (show s.heap.IsTuple p us.toArray from pt) hu0
   | bl b=>unfold Rep at r2; subst r2; cases rv; exact SeqAt.EqAt.tuple_bool b (show s.heap.IsTuple p us.toArray from pt) hu0
   | int b=>unfold Rep at r2; subst r2; obtain ⟨t,rfl⟩:=rv; exact SeqAt.EqAt.tuple_int b t (show s.heap.IsTuple p us.toArray from pt) hu0
   | str b=>unfold Rep at r2; subst r2; obtain ⟨t,rfl⟩:=rv; exact SeqAt.EqAt.tuple_str b t (show s.heap.IsTuple p us.toArray from pt) hu0
   | tup l2 =>
    have r2':=r2
    unfold Rep at r2
    obtain ⟨p2,xs2,rfl,q2,rs2⟩:=r2
    cases rv
    by_cases hp:p=p2
    ·subst hp
     rw [rep_inj I _ _ _ r1' r2',eqD_refl]
     exact SeqAt.EqAt.same _
    ·unfold eqD
     exact SeqAt.EqAt.of_refs hp (rc_tups I q q2 rs rs2 hu0 fun j d e x y u v e1 e2 a b c f=>ihn A.in1 d e x y u v (Nat.le_trans (deps_get e1) hd') hu1 a b c f).1
   | lst l2 =>
    unfold Rep at r2
    obtain ⟨p2,xs2,rfl,q2,rs2⟩:=r2
    cases rv
    obtain ⟨us2,_,pt2,_⟩:=I.list q2
    exact SeqAt.EqAt.tuple_list (show s.heap.IsTuple p us.toArray from pt) pt2.isList hu0
  | lst l =>
   have r1':=r1
   unfold Rep at r1
   obtain ⟨p,xs,rfl,q,rs⟩:=r1
   cases ru
   have hd':deps l≤n:=by unfold D.dep at hd; lia
   obtain ⟨us,_,pt,_⟩:=id (I.list q)
   cases e with
   | non=>unfold Rep at r2; subst r2; cases rv; exact SeqAt.EqAt.list_none pt.isList hu0
   | bl b=>unfold Rep at r2; subst r2; cases rv; exact SeqAt.EqAt.list_bool b pt.isList hu0
   | int b=>unfold Rep at r2; subst r2; obtain ⟨t,rfl⟩:=rv; exact SeqAt.EqAt.list_int b t pt.isList hu0
   | str b=>unfold Rep at r2; subst r2; obtain ⟨t,rfl⟩:=rv; exact SeqAt.EqAt.list_str b t pt.isList hu0
   | lst l2 =>
    have r2':=r2
    unfold Rep at r2
    obtain ⟨p2,xs2,rfl,q2,rs2⟩:=r2
    cases rv
    by_cases hp:p=p2
    ·subst hp
     rw [rep_inj I _ _ _ r1' r2',eqD_refl]
     exact SeqAt.EqAt.same _
    ·unfold eqD
     exact SeqAt.EqAt.of_refs hp (rc_lists I q q2 rs rs2 hu0 fun j d e x y u v e1 e2 a b c f=>ihn A.in1 d e x y u v (Nat.le_trans (deps_get e1) hd') hu1 a b c f).1
   | tup l2 =>
    unfold Rep at r2
    obtain ⟨p2,xs2,rfl,q2,rs2⟩:=r2
    cases rv
    obtain ⟨us2,_,pt2,_⟩:=I.tuple q2
    exact SeqAt.EqAt.list_tuple pt.isList (show s.heap.IsTuple p2 us2.toArray from pt2) hu0
  | _=>exact ihn A _ e x y u v (by unfold D.dep; exact Nat.zero_le _) (by lia) r1 r2 ru rv
noncomputable def rEqS (K:PySem.W.Frag) (neg:Bool):R2:=fun x y H Q=>∃ ds es,((Rep K H (.lst ds) x∧Rep K H (.lst es) y)∨(Rep K H (.tup ds) x∧Rep K H (.tup es) y))∧deps ds≤50∧Q (.bl (if neg then !eqDs ds es else eqDs ds es)) H
theorem rc_both (I:Inv X pins σ H s) {x y:V} {u v:Value} {ds es:List D} (hA:X.A.units + 60 < cLine) (ru:RelV x u) (rv:RelV y v) (h:(Rep X.K H (.lst ds) x∧Rep X.K H (.lst es) y)∨(Rep X.K H (.tup ds) x∧Rep X.K H (.tup es) y)) (hd:deps ds≤50) :
  SeqAt.RcAt X.A s u v (eqDs ds es)∧SeqAt.RcNeAt X.A s u v (!eqDs ds es):=by
 have ih:∀ (j:Nat) (d e:D) (x y:V) (u v:Value),ds[j]?=some d→es[j]?=some e→Rep X.K H d x→Rep X.K H e y→RelV x u→RelV y v→SeqAt.EqAt X.A.in1 s u v (eqD d e) :=
  fun j d e x y u v e1 e2 a b c f=>rep_eq I 50 X.A.in1 d e x y u v (Nat.le_trans (deps_get e1) hd) (by show X.A.units + 1 + 50 < cLine; lia) a b c f
 rcases h with ⟨h1,h2⟩ | ⟨h1,h2⟩
 ·unfold Rep at h1 h2
  obtain ⟨p,xs,rfl,q,rs⟩:=h1
  obtain ⟨p2,xs2,rfl,q2,rs2⟩:=h2
  cases ru; cases rv
  exact rc_lists I q q2 rs rs2 (by lia) ih
 ·unfold Rep at h1 h2
  obtain ⟨p,xs,rfl,q,rs⟩:=h1
  obtain ⟨p2,xs2,rfl,q2,rs2⟩:=h2
  cases ru; cases rv
  exact rc_tups I q q2 rs rs2 (by lia) ih
theorem op_eqS (hA:X.A.units + 60 < cLine):OpR X (compareOp .Eq) (rEqS X.K false):=by
 intro pins s σ H x y u v Q I ru rv h
 obtain ⟨ds,es,h,hd,q⟩:=h
 exact (rc_both I hA ru rv h hd).1 X.prog X.w X.xe _ ⟨.bl (eqDs ds es),H,I,rfl,q⟩
theorem op_neS (hA:X.A.units + 60 < cLine):OpR X (compareOp .NotEq) (rEqS X.K true):=by
 intro pins s σ H x y u v Q I ru rv h
 obtain ⟨ds,es,h,hd,q⟩:=h
 exact (rc_both I hA ru rv h hd).2 X.prog X.w X.xe _ ⟨.bl (!eqDs ds es),H,I,rfl,q⟩
theorem eqDs_ints:∀ ns ms:List Int,eqDs (ns.map D.int) (ms.map D.int)=decide (ns=ms)
 | [],[]=>by rw [List.map_nil]; unfold eqDs; rfl
 | [],_ :: _=>by rw [List.map_nil,List.map_cons]; unfold eqDs; rfl
 | _ :: _,[]=>by rw [List.map_nil,List.map_cons]; unfold eqDs; rfl
 | n :: ns,m :: ms=>by
  rw [List.map_cons,List.map_cons]
  unfold eqDs
  rw [eqDs_ints ns ms]
  unfold eqD
  by_cases h:n=m
  ·subst h
   by_cases h2:ns=ms
   ·subst h2; simp
   ·simp [h2]
  ·simp [h]
end
end L2
namespace L2
open PySem PySem.Spec PyProof.Rows
section
variable {X:Cx} {pos:Pos}
noncomputable def gLst (K:PySem.W.Frag) (n:Nat) (t:TGs):TG:=fun v σ H Q=>∃ a xs,v=.ref a∧SqL K H a xs∧xs.length=n∧t xs σ H Q
theorem pg_lst {es:List Expr} {k:Nat} {t:TGs} {n:Nat} (hc:X.calm=true) (h:PGs X es t)
  (hn:(assignEach es X.env).length=n:=by rfl) (hst:(assignEach es X.env).findIdx? (·.1)=none:=by rfl):PG X (.Tuple es k pos) (gLst X.K n t):=by
 intro pins s σ H v u Q I r hw
 obtain ⟨a,xs,e1,hq,hl,hw⟩:=hw
 subst e1
 cases r
 obtain ⟨its,rv,ht,hz⟩:=I.list hq
 rw [assign_Tuple]
 refine wpAny_bind (wpAny_standAt ?_)
 unfold unpack
 rw [show (assignEach es X.env).length=its.toArray.size by simp [hn,← hl,rv.length],hst]
 refine wpAny_bind (wpAny_holding (PySem.W.kun_itemsOf (I.ok.hd hc) ht.isList fun h' hx=>?_))
 have I1:Inv X pins σ H { s with heap:=h' }:=I.kept (t':=s.toks) fun b o e=>hx b o (Nat.ne_of_lt (Heap.lt_size e)) e
 exact h pins _ σ H xs _ Q I1 (by simpa using rv) hw
theorem hu60 {k:Nat} {A:Around} (hr:Room k A):A.units + 60 < cLine:=by have:=hr.units; lia
noncomputable def outChk (XN:List Str) (xn:List (Str×NameKind)) (N:List Str) (cn:List (Str×NameKind)):List (Option Nat)→Nat→Bool
 | [],_=>true
 | none :: r,i=>outChk XN xn N cn r (i + 1)
 | some j :: r,i=>(match N[i]? with
  | some x=>XN[j]? == some x && (xn.lookup x == some .cell || xn.lookup x == some .free) && cn.lookup x == some .free
  | none=>false) && outChk XN xn N cn r (i + 1)
theorem outChk_ok {XN:List Str} {xn:List (Str×NameKind)} {N:List Str} {cn:List (Str×NameKind)}:∀ {mp:List (Option Nat)} {k:Nat},outChk XN xn N cn mp k=true→∀ (i j:Nat),mp[i]?=some (some j)→∃ x,N[k + i]?=some x∧XN[j]?=some x∧(xn.lookup x=some .cell∨xn.lookup x=some .free)∧cn.lookup x=some .free
 | [],k,h,i,j,e=>by cases e
 | none :: r,k,h,0,j,e=>by cases e
 | none :: r,k,h,i + 1,j,e=>by
  have:=outChk_ok (mp:=r) (k:=k + 1) h i j (by simpa using e)
  rw [show k + (i + 1)=k + 1 + i by lia]; exact this
 | some m :: r,k,h,0,j,e=>by
  cases e
  unfold outChk at h
  rw [Bool.and_eq_true] at h
  have h1:=h.1
  cases en:N[k]? with
  | none=>rw [en] at h1; cases h1
  | some x =>
   rw [en] at h1
   simp only [Bool.and_eq_true,Bool.or_eq_true,beq_iff_eq] at h1
   exact ⟨x,rfl,h1.1.1,h1.1.2,h1.2⟩
 | some m :: r,k,h,i + 1,j,e=>by
  unfold outChk at h
  rw [Bool.and_eq_true] at h
  have:=outChk_ok (mp:=r) (k:=k + 1) h.2 i j (by simpa using e)
  rw [show k + (i + 1)=k + 1 + i by lia]; exact this
theorem cs_of {N:List Str} {scope:Scope} (mp:List (Option Nat)) (h1:scope.kind=.function) (h2:∀ y∈scope.names,y.2≠.cell) (h3:∀ y∈scope.names,y.2=.local→scope.names.lookup y.1=some .local) (h4:mp.length=N.length)
  (h5:outChk X.N X.env.scope.names N scope.names mp 0=true):CompScope X N mp scope :=
 ⟨h1,h2,h3,h4,fun i j e=>by
  obtain ⟨x,a,b,c,d⟩:=outChk_ok h5 i j e
  exact ⟨x,by simpa using a,b,c,d⟩⟩
noncomputable def NextC (Pv:Nat→List V→St→Hp→Prop) (D:Addr) (i:Nat):St→Hp→Prop:=fun σ' H'=>∃ ys,ys.length≤i + 1∧Pv (i + 1) ys σ' H'∧H' D=some (.lst ys)
theorem comp_list {K:PySem.W.Frag} {a:Addr} {xs:List V} {H1:Hp} {D:Addr} {σ0:St} {g:TG} {tt:TT} {te:TE} {R:Hp→Prop}
  (Pv:Nat→List V→St→Hp→Prop) (hl:∀ i ys σ H2,Pv i ys σ H2→SqL K H2 a xs) (h0:Pv 0 [] σ0 (upd H1 D (.lst [])))
  (hs:∀ i x ys σ H2,xs[i]?=some x→ys.length≤i→Pv i ys σ H2→H2 D=some (.lst ys)→g x σ H2 fun σ3 H3=>tt σ3 H3 fun b H4=>if b=true then te σ3 H4 fun y H5=>∃ zs,H5 D=some (.lst zs)∧zs.length < sizeLine∧NextC Pv D i σ3 (upd H5 D (.lst (zs++[y]))) else NextC Pv D i σ3 H4)
  (hd:∀ ys σ H2,Pv xs.length ys σ H2→H2 D=some (.lst ys)→R H2) :
  ∃ W:Nat→Nat→St→Hp→Prop,(∃ m,W 0 m σ0 (upd H1 D (.lst [])))∧∀ i m σ2 H2,W i m σ2 H2 →
  ((Itl K a).stop i H2∧R H2)∨((Itl K a).go i H2∧∃ N:St→Hp→Prop,(∀ σ' H',N σ' H'→∃ m',m' < m∧W (i + 1) m' σ' H')∧∀ x H',(Itl K a).yld i H2 x H'→g x σ2 H' fun σ3 H3=>tt σ3 H3 fun b H4 =>
   if b=true then te σ3 H4 fun y H5=>∃ xs,H5 D=some (.lst xs)∧xs.length < sizeLine∧N σ3 (upd H5 D (.lst (xs++[y]))) else N σ3 H4):=by
 refine ⟨fun i m σ H'=>m=xs.length - i∧i≤xs.length∧∃ ys,ys.length≤i∧Pv i ys σ H'∧H' D=some (.lst ys),⟨xs.length,by simp,Nat.zero_le _,[],Nat.le_refl _,h0,upd_same⟩,?_⟩
 rintro i m σ2 H2 ⟨rfl,hi,ys,hy,p,e⟩
 have q:=hl i ys σ2 H2 p
 by_cases hlt:i < xs.length
 ·refine .inr ⟨⟨xs,xs[i],q,by simp [hlt]⟩,NextC Pv D i,fun σ' H' ⟨ys',l',p',e'⟩=>⟨xs.length - (i + 1),by lia,rfl,hlt,ys',l',p',e'⟩,fun x' H' y=>?_⟩
  obtain ⟨e1,y⟩:=y
  subst e1
  exact hs i x' ys σ2 _ (y xs q) hy p e
 ·have ei:i=xs.length:=by lia
  subst ei
  exact .inl ⟨⟨xs,q,Nat.le_refl _⟩,hd ys σ2 H2 p e⟩
end
end L2
namespace L2
open PySem PySem.Spec PyProof.Rows
section
variable {prog:Program} {w:World} {A:Around} {E:Value→Shared→Prop} {s:Shared}
end
section
variable {prog:Program} {w:World} {A:Around} {E:Value→Shared→Prop} {s:Shared}
end
section
variable {X:Cx} {es:List Expr} {kk:Nat} {tpos:Pos}
end
end L2
namespace L2
open PySem PySem.Spec PyProof.Rows PySem.Builtin.Str
noncomputable abbrev cs (x:Str):List Nat:=x.cps.toList
theorem cs_len (x:Str):(cs x).length=x.length:=by show x.cps.toList.length=x.cps.size; simp
theorem cs_app (x y:Str):cs (x++y)=cs x++cs y:=by
 show (x.cps++y.cps).toList=_
 simp
theorem str_ext {x y:Str} (h:cs x=cs y):x=y:=by
 obtain ⟨a⟩:=x
 obtain ⟨b⟩:=y
 have e:a=b:=Array.toList_inj.mp h
 rw [e]
noncomputable def cutG {α:Type} (xs:List α) (lo hi:Option Int):List α:=(xs.drop (HT.sIx xs.length 0 lo)).take (HT.sIx xs.length xs.length hi - HT.sIx xs.length 0 lo)
theorem strIdx (lo hi:Option Int) (n:Nat):strSliceIndices lo hi 1 n=(List.range (HT.sIx n n hi - HT.sIx n 0 lo)).map (HT.sIx n 0 lo + ·):=by
 obtain ⟨h1,h2,h3⟩:=slice_bounds lo hi n
 have e:strSliceIndices lo hi 1 n=sliceRange (sliceBounds lo hi none n).1 (sliceBounds lo hi none n).2.1 (sliceBounds lo hi none n).2.2:=rfl
 rw [e,h1,h2,h3,sliceRange_one]
theorem slice_cs (x:Str) (lo hi:Option Int):cs (Txt.slice x lo hi)=cutG (cs x) lo hi:=by
 have key:(strSliceIndices lo hi 1 x.length).filterMap (x.cps[·]?)=cutG (cs x) lo hi:=by
  rw [strIdx,pick_run]
  unfold cutG
  rw [cs_len]
 unfold Txt.slice
 split
 ·rename_i h
  simp only [beq_self_eq_true,Bool.true_and,beq_iff_eq] at h
  have hl:(cutG (cs x) lo hi).length=(cs x).length:=by
   rw [strIdx,List.length_map,List.length_range] at h
   unfold cutG
   rw [List.length_take,List.length_drop,cs_len,h]
   have a1:=HT.sIx_le x.length 0 (Nat.zero_le _) lo
   have a2:=HT.sIx_le x.length x.length (Nat.le_refl _) hi
   lia
  have:cutG (cs x) lo hi=cs x:=by
   have sub:(cutG (cs x) lo hi).Sublist (cs x):=(List.take_sublist _ _).trans (List.drop_sublist _ _)
   exact sub.eq_of_length hl
  exact this.symm
 ·show ((strSliceIndices lo hi 1 x.length).filterMap (x.cps[·]?)).toArray.toList=_
  rw [key]
section
variable {X:Cx}
noncomputable def rSlS:V→Option Int→Option Int→Hp→VK→Prop:=fun x lo hi H Q=>∃ z,x=.str z∧z.length≤sizeLine∧∀ y:Str,cs y=cutG (cs z) lo hi→Q (.str y) H
theorem sl_str:SlR X rSlS:=by
 intro pins s σ H x v vl vu lo hi sl Q I rx hs pl pu h
 obtain ⟨z,rfl,zl,q⟩:=h
 obtain ⟨t,rfl⟩:=rx
 refine ⟨"str",_,F.slot_str_getitem.lookup,typeIs_str _ _ _,?_⟩
 obtain ⟨o,ho,hc,hd⟩:=hs
 obtain ⟨l,hl1,hl2⟩:∃ l:Option (Int×Tok),vl=partValue l∧l.map (·.1)=lo:=by
  cases pl with
  | none=>exact ⟨none,rfl,rfl⟩
  | int i t=>exact ⟨some (i,t),rfl,rfl⟩
 obtain ⟨u,hu1,hu2⟩:∃ u:Option (Int×Tok),vu=partValue u∧u.map (·.1)=hi:=by
  cases pu with
  | none=>exact ⟨none,rfl,rfl⟩
  | int i t=>exact ⟨some (i,t),rfl,rfl⟩
 refine wpAny_getItem_str_slice (l:=l) (u:=u) (st:=none) ⟨o,ho,hc,by rw [hd,hl1,hu1]; rfl⟩ rfl ?_
 have e:=slice_cs z lo hi
 have q':=q (Txt.slice z lo hi) e
 unfold sliceMade slicePicked
 rw [hl2,hu2]
 unfold Txt.slice at q'
 show (if ((1:Int) == 1 && (strSliceIndices lo hi 1 z.length).length == z.length)=true then Made.val (Value.str z t) else Made.str ⟨((strSliceIndices lo hi 1 z.length).filterMap (z.cps[·]?)).toArray⟩).post (EP X pins σ Q) s
 by_cases hw:((1:Int) == 1 && (strSliceIndices lo hi 1 z.length).length == z.length)=true
 ·rw [if_pos hw] at q' ⊢
  exact ⟨.str z,H,I,⟨t,rfl⟩,q'⟩
 ·rw [if_neg hw] at q' ⊢
  refine ⟨?_,.str _,H,I.tok _,⟨_,rfl⟩,q'⟩
  show ((strSliceIndices lo hi 1 z.length).filterMap (z.cps[·]?)).toArray.size≤sizeLine
  rw [List.size_toArray]
  exact Nat.le_trans (List.length_filterMap_le _ _) (Nat.le_trans (sliceIndices_le lo hi z.length) zl)
theorem strs_of:∀ {ys:List Str} {us:List Value},Vals (ys.map V.str) us→StrsAre us ys
 | [],us,r=>by rw [List.map_nil] at r; cases r; exact .nil
 | y :: ys,us,r=>by
  rw [List.map_cons] at r
  cases r with
  | cons r1 r2 =>
   obtain ⟨t,e⟩:=r1
   subst e
   exact .cons y t (strs_of r2)
theorem mt_join:MtR X "str.join" (fun x xs H Q=>∃ (sep:Str) (p:Addr) (ys:List Str),x=.str sep∧xs=[.ref p]∧SqL X.K H p (ys.map V.str)∧(ys.map (·.length)).sum + ys.length * sep.length≤16777216∧Q (.str (Txt.join sep ys)) H):=by
 intro pins s σ H x xs v us Q I rx rs h
 obtain ⟨sep,p,ys,rfl,rfl,hS,hz,q⟩:=h
 obtain ⟨t,rfl⟩:=rx
 obtain ⟨u,rfl,ru⟩:=vals1 rs
 cases ru
 obtain ⟨its,rv,pl,_⟩:=I.list hS
 exact join_list pl.isList (strs_of rv) hz fun t' k=>⟨.str _,H,I.tok k,⟨t',rfl⟩,q⟩
theorem mt_startswith:MtR X "str.startswith" (fun x xs H Q=>∃ (z y:Str),x=.str z∧xs=[.str y]∧Q (.bl (decide (0 + y.length≤z.length) && subAt z y 0)) H):=by
 intro pins s σ H x xs v us Q I rx rs h
 obtain ⟨z,y,rfl,rfl,q⟩:=h
 obtain ⟨t,rfl⟩:=rx
 obtain ⟨u,rfl,⟨t2,rfl⟩⟩:=vals1 rs
 exact call_gives F.slot_str_startswith (typeIs_str _ _ _) F.entry_str_startswith (F.args_str_startswith_2 _ _) (gives_str_startswith z y t t2) ⟨.bl _,H,I,rfl,q⟩
theorem call_int_text:CallR X (.type "int") (fun xs H Q=>∃ (x:Str) (n:Int),xs=[.str x]∧PySem.intText? x=some n∧x.length≤640∧Q (.int n) H):=by
 intro pins s σ H xs us Q I r h
 obtain ⟨x,n,rfl,hn,hl,q⟩:=h
 obtain ⟨u,rfl,t,rfl⟩:=vals1 r
 exact PySem.W.KIN.call_text hn hl ⟨.int n,H,I.tok _,⟨_,rfl⟩,q⟩
theorem op_in_one:OpR X (compareOp .In) (fun x y H Q=>∃ (c:Nat) (z:Str),x=.str ⟨#[c]⟩∧y=.str z∧Q (.bl (decide (c∈cs z))) H):=by
 intro pins s σ H x y v u Q I rx ry h
 obtain ⟨c,z,rfl,rfl,q⟩:=h
 refine op_in_str pins s σ H _ _ v u Q I rx ry ⟨_,z,rfl,rfl,?_⟩
 rw [StrLaws.found_one]
 exact q
end
end L2
namespace L2
open PySem PySem.Spec PyProof.Rows PySem.Builtin.Str
section
variable {prog:Program} {w:World} {A:Around} {E:Value→Shared→Prop} {s:Shared}
theorem setItem_sliceG {l b sl:Addr} {items new:Array Value} {n n2:Nat} {vl vu:Value} {lo hi:Option Int} {a c:Nat} {Q:Unit→Shared→Prop}
    (e:s.heap.get? l=some { cls:=.type "list",data:=.seq items n }) (e2:s.heap.get? b=some { cls:=.type "list",data:=.seq new n2 }) (hne:l≠b)
    (hs:s.heap.IsSliceOf sl vl vu .none) (pl:IsPart vl lo) (pu:IsPart vu hi) (hbd:sliceBounds lo hi none items.size=((a:Int),(c:Int),1)) (hac:a≤c) (hc:c≤items.size)
    (hsz:items.size + new.size≤sizeLine) (h:Q () { s with heap:=s.heap.update l (Obj.mapSeq fun xs=>xs.extract 0 a++new++xs.extract c xs.size) }) :
    wpAny (model prog w) A (setItem (.ref l) (.ref sl) (.ref b)) Q E s:=by
  have hl:s.heap.IsList l items:=PySem.IsL.isList e
  have hb:s.heap.IsList b new:=PySem.IsL.isList e2
  obtain ⟨os,hos,hcs,hds⟩:=id hs
  have hTs:s.TypeIs (.ref sl) "slice":=⟨os,hos,hcs⟩
  have hstep:¬ ((rawPart none == rawInt 0)=true):=Bool.false_ne_true
  have hsame:Builtin.List.listSameRef (.ref l) (.ref b)=false:=by
    unfold Builtin.List.listSameRef
    exact beq_eq_false_iff_ne.mpr hne
  have hmax:(max (a:Int) (c:Int)).toNat=c:=by lia
  have hz':((fun xs:Array Value=>xs.extract 0 a++new++xs.extract c xs.size) items).size≤sizeLine + 1:=by
    simp only [Array.size_append,Array.size_extract]
    lia
  unfold setItem
  try with_reducible refine wpAny_holding ?_
  first | refine wpAny_bind (wpAny_pure ?_) | skip
  refine wpAny_bind (wpAny_sequenceKey hl.typeIs (by decide) ?_)
  refine wpAny_bind (wpAny_callSpecial?_slot (name:=Str.ofString "__setitem__") hl.typeIs slot_list_setitem
    (wpAny_call_entry slot_list_setitem hl.typeIs entry_list_setitem ?_ (args_list_setitem _ _ _)))
  show wpAny _ _ (Builtin.List.listSubscript? (.ref sl) >>= _) _ _ s
  refine wpAny_bind ?_
  unfold Builtin.List.listSubscript?
  refine wpAny_bind (wpAny_specialOf hTs slice_no_index ?_)
  simp only [Option.isNone_none,if_true]
  refine wpAny_pure ?_
  show wpAny _ _ (typeOf (.ref sl) >>= _) _ _ s
  refine wpAny_bind (wpAny_typeOf hTs ?_)
  first
    | rw [if_neg (by decide)]
    | refine PySem.W.KFB.if_not (by decide) ?_
  rw [listSliceParts_eq]
  refine wpAny_bind (wpAny_bind (wpAny_field hos hds (x:=.none) rfl (wpAny_bind (wpAny_listPart .none ?_))))
  rw [if_neg hstep]
  refine wpAny_bind (wpAny_field hos hds (x:=vl) rfl (wpAny_bind (wpAny_listPart pl ?_)))
  refine wpAny_bind (wpAny_field hos hds (x:=vu) rfl (wpAny_bind (wpAny_listPart pu (wpAny_pure ?_))))
  first
    | simp only [hsame,Bool.false_eq_true,if_false]
    | refine PySem.W.KFB.if_not hsame ?_
    | (dsimp only
       rw [if_neg (by rw [hsame]; exact Bool.false_ne_true)])
  refine wpAny_bind (m:=Builtin.List.listAllItems (.ref b) "must assign iterable to extended slice") ?_
  unfold Builtin.List.listAllItems
  refine wpAny_bind (wpAny_typeOf hb.typeIs ?_)
  first
    | refine PySem.W.KFB.if_so (by decide) ?_
    | rw [if_pos (by decide)]
    | simp only [beq_self_eq_true,Bool.true_or,if_true]
  unfold Builtin.List.listItems
  refine wpAny_bind (wpAny_seqItems e2 rfl (wpAny_pure ?_))
  refine wpAny_bind (wpAny_bind (wpAny_seqItems e rfl (wpAny_pure ?_)))
  refine wpAny_bind (wpAny_of_eq ((sliceIndices_raw lo hi none items.size (by simp)).trans (congrArg (pure:Int×Int×Int→Sem (Int×Int×Int)) hbd)) ?_)
  show wpAny _ _ (if ((1:Int) == 1)=true then _ else _) _ _ s
  rw [if_pos (by decide)]
  refine wpAny_bind (wpAny_rule ?_)
  first
    | simp only [notLongL hsz,Bool.false_eq_true,if_false]
    | refine PySem.W.KFB.if_not (notLongL hsz) ?_
  first | refine wpAny_bind (wpAny_pure ?_) | skip
  show wpAny _ _ (updateSeq l (fun xs=>xs.extract 0 ((a:Int)).toNat++new++xs.extract (max (a:Int) (c:Int)).toNat xs.size) >>= _) _ _ s
  rw [hmax,Int.toNat_natCast]
  refine wpAny_bind (wpAny_updateSeq (hz:=Nat.le_trans (Nat.le_add_right _ _) hsz) (_hz':=hz') e rfl ?_)
  refine wpAny_bind (wpAny_letGo ?_)
  first
    | exact wpAny_bind (wpAny_pure (wpAny_pure ⟨.none,rfl,wpAny_pure h⟩))
    | exact wpAny_pure ⟨.none,rfl,wpAny_pure h⟩
end
section
variable {X:Cx} {pos p2:Pos}
noncomputable def slO (lo hi:Option Int) (sl:Addr):HO:=.ext fun h=>∃ vl vu,h.IsSliceOf sl vl vu .none∧IsPart vl lo∧IsPart vu hi
noncomputable def tSlice (tl th:TO):TE:=fun σ H Q=>tl σ H fun l H1=>th σ H1 fun u H2=>∀ p,H2 p=none→Q (.ref p) (upd H2 p (slO l u p))
theorem pe_sliceO {lo hi:Option Expr} {tl th:TO} (hl:PO X lo tl) (hu:PO X hi th):PE X (.Slice lo hi none p2) (tSlice tl th):=by
 intro pins s σ H Q I h
 refine wpAny_Slice (thn (hl pins s σ H _ I h) fun vl s2 ⟨l,H2,I2,pl,q2⟩=>thn (hu pins s2 σ H2 _ I2 q2) fun vu s3 ⟨u,H3,I3,pu,q3⟩=>?_)
 rw [evalPart_none]
 refine wpAny_pure ?_
 refine ⟨.ref s3.heap.objs.size,_,I3.laid (t':=s3.toks) (o:=slO l u s3.heap.objs.size) (fun b ob q=>Heap.get?_push_of_some _ q) (Nat.le_refl _) ?_,rfl,q3 _ (I3.hok.fresh (Nat.le_refl _))⟩
 refine ⟨⟨vl,vu,Heap.IsSliceOf.new ..,pl,pu⟩,⟨_,Heap.get?_push_size _ rfl⟩,?_⟩
 rintro h1 h2 ⟨a,b,⟨o,e,c,d⟩,pa,pb⟩ k
 exact ⟨a,b,⟨o,k o e,c,d⟩,pa,pb⟩
noncomputable def rSetSl:TSet:=fun o i v H Q=>∃ l b sl xs ys lo hi,o=.ref l∧i=.ref sl∧v=.ref b∧H l=some (.lst xs)∧H b=some (.lst ys)∧l≠b∧H sl=some (slO lo hi sl)∧HT.sIx xs.length 0 lo≤HT.sIx xs.length xs.length hi∧xs.length + ys.length≤sizeLine ∧
 Q (upd H l (.lst (xs.take (HT.sIx xs.length 0 lo)++ys++xs.drop (HT.sIx xs.length xs.length hi))))
theorem set_sl:PSet X rSetSl:=by
 intro pins s σ H o i v ov iv u Q I ro ri rv h
 obtain ⟨l,b,sl,xs,ys,lo,hi,rfl,rfl,rfl,hH,hB,hne,hS,hac,hz,q⟩:=h
 cases ro; cases ri; cases rv
 obtain ⟨⟨vl,vu,hs,pl,pu⟩,_,_⟩:=(show ObjOk X.prog X.w H s.heap sl (slO lo hi sl) from I.hok sl _ hS)
 obtain ⟨z,its,n,r,hl,e⟩:=I.lstM hH
 obtain ⟨z2,its2,n2,r2,hl2,e2⟩:=I.lstM hB
 obtain ⟨b1,b2,b3⟩:=slice_bounds lo hi its.toArray.size
 have hbd:sliceBounds lo hi none its.toArray.size=(((HT.sIx xs.length 0 lo:Nat):Int),((HT.sIx xs.length xs.length hi:Nat):Int),1):=by
  have el:its.toArray.size=xs.length:=by rw [List.size_toArray]; exact hl.symm
  rw [el] at b1 b2 b3 ⊢
  exact Prod.ext b1 (Prod.ext b2 b3)
 refine setItem_sliceG e e2 hne hs pl pu hbd hac (by rw [List.size_toArray,← hl]; exact HT.sIx_le _ _ (Nat.le_refl _) hi) (by rw [List.size_toArray,List.size_toArray]; lia) ?_
 refine ⟨_,I.lset (its':=its.take (HT.sIx xs.length 0 lo)++its2++its.drop (HT.sIx xs.length xs.length hi)) (t':=s.toks) hH e ?_ (Vals.append (Vals.append (r.take _) r2) (r.drop _)) ?_,q⟩
 ·exact splice_eq its its2 _ _
 ·rw [List.length_append,List.length_append,List.length_take,List.length_drop]
  lia
theorem turn_none {P:Program} {w:World} {K:PySem.W.Frag} {tg:Expr} (it:Addr) (lo c:Int):Turn P w K tg (Itr lo 0) [it] it (fun i h=>i=0∧IsRangeIter h it lo 0 c) where
 mem:=by simp
 obj:=fun i h st b hb=>by
  have e:b=it:=by simpa using hb
  subst e
  exact ⟨_,st.2,fun v z=>by
   have z':Data.fields _=Data.cell v:=z
   cases z'⟩
 keep:=fun i h h' st k=>⟨st.1,k it (by simp) _ st.2⟩
 item:=by
  intro X hP hw hK hc i pins s σ H E I hf st hg
  exact absurd hg (Nat.not_lt_zero i)
 done:=by
  intro X hP hw hK hc i pins s σ H E I hf st hg
  subst hP hw hK
  obtain ⟨f0,f1,f2,f3,f4,f5⟩:=hf it (by simp)
  exact wpAny_pyNext_range_end (I.ok.hd hc) st.2 (by lia) fun h' eb=>⟨rfl,I.turned (t':=s.toks) (fun b o hb e=>eb b o hb e) f0 f1 f3 f4 f5⟩
 self:=fun _ _ _ _ _ st h=>wpAny_pyIter_rangeiter st.2 h
noncomputable def iRng3e (ta:TA):TI:=fun σ H R=>ta σ H fun vs H1=>∃ i j k:Int,vs=[.int i,.int j,.int k]∧(0≤i∧i < 2 ^ 30∧0≤j∧j≤i∧0 < k∧k < 2 ^ 30)∧R (Itr i 0) H1
theorem range_none {i j k:Int} (h0:j≤i) (hk:0 < k):Builtin.Range.rangeSize i j k=0:=by
  unfold Builtin.Range.rangeSize
  first
    | (split <;> (try split) <;> (try lia) <;> (try (exfalso; lia)) <;> (apply Int.ediv_eq_zero_of_lt <;> lia))
    | (simp only [hk,if_true]; split <;> lia)
theorem fits_of {x:Int} (h:-(2 ^ 62)≤x) (h2:x≤2 ^ 62):Builtin.Range.rangeFitsLong x=true:=by
 unfold Builtin.Range.rangeFitsLong
 rw [Bool.and_eq_true]
 exact ⟨decide_eq_true (by lia),decide_eq_true (by lia)⟩
theorem pi_range3e {tg a b c:Expr} {ta:TA} {p pos:Pos} (hm:X.mg "range"=none) (ha:PA X [a,b,c] ta) (hg:Gl X "range":=by rfl) (hs:starEach [a,b,c] X.env=(false,eval a X.env) :: starEach [b,c] X.env:=by rfl)
  (hpl:(backTo pos (starEach [b,c] X.env)).any (·.1)=false:=by rfl):PI X tg (.Call (.Name "range" p) [a,b,c] [] pos) (iRng3e ta):=by
 intro pins s σ H R I h
 refine Call_ (ld_blt I hg hm boot_range (PyProof.Rows.callWith_type1 (thn (ha pos pins s σ H _ I h) fun us s1 ⟨vs,H1,I1,r1,q1⟩=>?_) hs hpl))
 obtain ⟨i,j,k,e,⟨i0,i1,j0,ji,k0,k1⟩,q⟩:=q1
 subst e
 cases r1 with
 | cons r rr =>
  cases rr with
  | cons r' rr =>
   cases rr with
   | cons r'' rr =>
    cases rr
    obtain ⟨t,rfl⟩:=r
    obtain ⟨t',rfl⟩:=r'
    obtain ⟨t'',rfl⟩:=r''
    have hz:=range_none (i:=i) (j:=j) (k:=k) ji k0
    refine call_range_3 (by lia) ?_ (.inl (PyProof.noPylong_small (by lia)))
    refine wpAny_pyIter_range (IsRange.new ..) ?_ ?_
    ·unfold Builtin.Range.small
     rw [hz,fits_of (by lia) (by lia),fits_of (by lia) (by lia),fits_of (by lia) (by lia),fits_of (by lia) (by lia)]
     rfl
    ·have I2:Inv X pins σ H1 { s1 with heap:=s1.heap.push { cls:=.type "range",data:=.fields #[.int i t,.int j t',.int k t''] } }:=I1.kept (t':=s1.toks) fun b o e=>Heap.get?_push_of_some _ e
     refine ⟨_,_,_,_,H1,rfl,I2.kept (t':=s1.toks) fun b o e=>Heap.get?_push_of_some _ e,turn_none (s1.heap.push { cls:=.type "range",data:=.fields #[.int i t,.int j t',.int k t''] }).objs.size i k,⟨rfl,?_⟩,fun b hb=>?_,q⟩
     ·rw [hz]
      exact Heap.get?_push_size _ rfl
     ·have e:b=(s1.heap.push { cls:=.type "range",data:=.fields #[.int i t,.int j t',.int k t''] }).objs.size:=by simpa using hb
      subst e
      exact I2.fpOk (Nat.le_refl _) (I2.hok.fresh (Nat.le_refl _))
noncomputable def TopItems (w:World) (K:PySem.W.Frag) (a:Addr) (kvs:List (Str×V)):Prop:=∃ es n,K.lookup a=some ⟨.type "dict",none,.dict es n,#[]⟩∧PySem.W.KeysLit w.params es.toList ∧
 Paired (fun (kv:Str×V) (e:DictEntry)=>(∃ t,e.key=.str kv.1 t)∧RelV kv.2 e.val) kvs es.toList∧(kvs.map (·.1)).Nodup∧(a == sysModules)=false
theorem pairs_of {P:Program} {w:World}:∀ {kvs:List (Str×V)} {es:List DictEntry},Paired (fun (kv:Str×V) (e:DictEntry)=>(∃ t,e.key=.str kv.1 t)∧RelV kv.2 e.val) kvs es →
  ∃ vs:List (Str×Value),Pairs (strKind P w) es vs∧vs.map (·.1)=kvs.map (·.1)∧∀ (i:Nat) (k:Str) (v:Value),vs[i]?=some (k,v)→∃ x,kvs[i]?=some (k,x)∧RelV x v
 | _,_,.nil=>⟨[],.nil,rfl,fun i k v e=>by cases e⟩
 | kv :: kvs,e :: es,.cons ⟨⟨t,h1⟩,h2⟩ r=>by
  obtain ⟨vs,p,q,g⟩:=pairs_of (P:=P) (w:=w) r
  refine ⟨(kv.1,e.val) :: vs,.cons (by rw [h1]; exact strKind_is P w kv.1 t) rfl p,by rw [List.map_cons,List.map_cons,q],fun i k v hi=>?_⟩
  match i,hi with
  | 0,hi=>cases hi; exact ⟨kv.2,rfl,h2⟩
  | i + 1,hi=>exact g i k v (by simpa using hi)
theorem Inv.topItems {pins:List (Addr×Obj)} {σ:St} {H:Hp} {s:Shared} (I:Inv X pins σ H s) {a:Addr} {kvs:List (Str×V)} (T:TopItems X.w X.K a kvs) :
  ∃ (vs:List (Str×Value)) (ep:Nat),s.heap.DictAt (strKind X.prog X.w) a vs ep∧vs.length=kvs.length∧∀ (i:Nat) (k:Str) (v:Value),vs[i]?=some (k,v)→∃ x,kvs[i]?=some (k,x)∧RelV x v:=by
 obtain ⟨es,n,hl,hk,hp,hnd,hs⟩:=T
 obtain ⟨vs,p,q,g⟩:=pairs_of (P:=X.prog) (w:=X.w) hp
 refine ⟨vs,n,⟨_,es,I.kIn _ _ hl,⟨rfl,rfl,rfl⟩,rfl,fun e he=>?_,p,by rw [q]; exact hnd⟩,by have:=congrArg List.length q; simpa using this,g⟩
 obtain ⟨x,t,e1,e2⟩:=hk.all e (Array.mem_toList_iff.mpr he)
 exact ⟨x,by rw [e1]; exact strKind_is _ _ x t,e2⟩
noncomputable def Iti (kvs:List (Str×V)):It :=
 ⟨fun i _=>i < kvs.length,fun i H v H'=>∃ T k x,v=.ref T∧H T=none∧H'=upd H T (.tup [.str k,x])∧kvs[i]?=some (k,x),fun i _=>kvs.length≤i⟩
theorem turn_items {P:Program} {w:World} {K:PySem.W.Frag} {es:List Expr} {kk:Nat} {tp:Pos} (d it:Addr) (kvs:List (Str×V)) (T:TopItems w K d kvs) (ep:Nat)
  (hep:∀ es n,K.lookup d=some ⟨.type "dict",none,.dict es n,#[]⟩→n=ep) :
  Turn P w K (.Tuple es kk tp) (Iti kvs) [it] it (fun i h=>∃ a b,IsItemIter h it d i kvs.length ep a b) where
 mem:=by simp
 obj:=fun i h ⟨a,b,st⟩ c hc=>by
  have e:c=it:=by simpa using hc
  subst e
  exact ⟨_,st,fun v z=>by cases z⟩
 keep:=fun i h h' ⟨a,b,st⟩ k=>⟨a,b,k it (by simp) _ st⟩
 item:=by
  rintro X hP hw hK hc i pins s σ H E I hf ⟨a,b,st⟩ hg
  subst hP hw hK
  obtain ⟨vs,ep',hm,hlen,g⟩:=I.topItems T
  have eep:ep'=ep:=by
   obtain ⟨es',n,hl,_⟩:=T
   obtain ⟨o,es2,e1,_,e2,_⟩:=hm
   have e3:=I.kIn _ _ hl
   rw [e1] at e3
   cases e3
   have e4:Data.dict es' n=Data.dict es2 ep':=e2
   cases e4
   exact hep _ _ hl
  subst eep
  obtain ⟨⟨k,v⟩,hx⟩:∃ p,vs[i]?=some p:=⟨vs[i]'(by rw [hlen]; exact hg),List.getElem?_eq_getElem _⟩
  obtain ⟨x,hkx,rx⟩:=g i k v hx
  obtain ⟨f0,f1,f2,f3,f4,f5⟩:=hf it (by simp)
  rw [← hlen] at st
  refine wpAny_pyNext_items_item st hm hx fun key h' hkey st' new sz kp=>⟨_,rfl,?_⟩
  refine wpAny_letOwnedTupleGo_items st' fun h2 st2 sb=>?_
  have nT:H s.heap.objs.size=none:=I.hok.fresh (Nat.le_refl _)
  have il:s.heap.objs.size≠it:=Nat.ne_of_gt (Heap.lt_size st)
  have kp2:∀ c o,c≠it→s.heap.get? c=some o→h2.get? c=some o:=fun c o n e=>sb.extBut c o n (kp c o n e)
  have new2:=sb.extBut _ _ il new
  obtain ⟨t,ek⟩:∃ t,key=Value.str k t:=by
   have hkey':Value.isStrOf k key=true:=hkey
   exact Value.isStrOf_shape hkey'
  subst ek
  have I1:Inv X pins σ H { s with heap:=h2 }:=I.turned (t':=s.toks) kp2 f0 f1 f3 f4 f5
  have I2:Inv X pins σ (upd H s.heap.objs.size (.tup [.str k,x])) { s with heap:=h2 }:=by
   have ko:ObjOk X.prog X.w (upd H s.heap.objs.size (.tup [.str k,x])) h2 s.heap.objs.size (.tup [.str k,x]):=⟨by show 2≤sizeLine; rw [sizeLine_eq]; decide,[.str k t,v],.cons ⟨t,rfl⟩ (.cons rx .nil),⟨_,new2,rfl,0,rfl⟩⟩
   refine I.step (h':=h2) (g':=s.gens) (d':=s.drawn) (t':=s.toks) (ch:=[it]) (fun c hc=>?_) (fun c o _ _ hc e _=>kp2 c o (by simpa using hc) e) (fun c o _ _ hc e _=>⟨o.slots,kp2 c o (by simpa using hc) e⟩) (fun c o hc e n=>?_) (fun c o hc e=>⟨o,kp2 c o (by simpa using hc) e⟩) (fun c ys e=>?_) (fun c o u e=>?_) (fun c ps e=>⟨#[],?_⟩) (fun m hm'=>?_) (fun c o e=>?_) I.bare
   ·have e:c=it:=by simpa using hc
    subst e
    exact ⟨f3,f1,f4,f5⟩
   ·rw [upd_ne (Nat.ne_of_lt (Heap.lt_size e))]; exact n
   ·rw [upd_ne (ne_of_none e nT)]; exact e
   ·rw [upd_ne (ne_of_none e nT)]; exact e
   ·rw [upd_ne (ne_of_none e nT),e]; simp
   ·obtain ⟨o,es,ep,ho,r⟩:=hm'
    exact ⟨o,es,ep,kp2 _ o (Ne.symm f1) ho,r⟩
   ·by_cases hb:c=s.heap.objs.size
    ·subst hb
     rw [upd_same] at e
     cases e
     exact ko
    ·rw [upd_ne hb] at e
     refine (I1.hok c o e).stay (fun _ _ _ r=>r) (fun c' r=>by rw [upd_ne (ne_of_none r nT)]; exact r) fun c' xs r=>by rw [upd_ne (ne_of_none r nT)]; exact r
  rw [hlen] at st2
  exact ⟨.ref s.heap.objs.size,_,I2,rfl,⟨_,k,x,rfl,nT,rfl,hkx⟩,⟨_,_,st2⟩,fun c hc=>by
   have e:c=it:=by simpa using hc
   subst e
   rw [upd_ne (Ne.symm il)]
   exact f0⟩
 done:=by
  rintro X hP hw hK hc i pins s σ H E I hf ⟨a,b,st⟩ hg
  subst hP hw hK
  obtain ⟨vs,ep',hm,hlen,g⟩:=I.topItems T
  have eep:ep'=ep:=by
   obtain ⟨es',n,hl,_⟩:=T
   obtain ⟨o,es2,e1,_,e2,_⟩:=hm
   have e3:=I.kIn _ _ hl
   rw [e1] at e3
   cases e3
   have e4:Data.dict es' n=Data.dict es2 ep':=e2
   cases e4
   exact hep _ _ hl
  subst eep
  obtain ⟨f0,f1,f2,f3,f4,f5⟩:=hf it (by simp)
  rw [← hlen] at st
  have hx:vs[i]?=none:=List.getElem?_eq_none (by rw [hlen]; exact hg)
  exact wpAny_pyNext_items_end (I.ok.hd hc) st hm hx fun h' eb=>⟨rfl,I.turned (t':=s.toks) (fun c o n e=>eb c o n e) f0 f1 f3 f4 f5⟩
 self:=fun A i s Q E ⟨a,b,st⟩ h=>by
  have hT:s.TypeIs (.ref it) "dict_itemiterator":=⟨_,st,rfl⟩
  refine wpAny_pyIter_slot hT F.slot_dict_itemiterator_iter (wpAny_call_entry F.slot_dict_itemiterator_iter hT PySem.W.kcp_entry ?_ (F.args_dict_itemiterator_iter_1 _))
  show wpAny _ _ (ret (.ref it)) _ _ s
  exact wpAny_pure ⟨_,rfl,"dict_itemiterator",_,hT,F.slot_dict_itemiterator_next.lookup,h⟩
noncomputable def iItems (kvs:List (Str×V)):TI:=fun _ H R=>R (Iti kvs) H
theorem pi_items {d:Addr} {kvs:List (Str×V)} {x:Str} {p apos cpos:Pos} {es:List Expr} {kk:Nat} {tp:Pos} (hm:X.mg x=some (.ref d)) (T:TopItems X.w X.K d kvs) (hg:Gl X x:=by rfl) (hd:(x == ("__debug__":Str))=false:=by decide)
  (hbase:attributeBase (.Name x p) "items" X.env (eval (.Name x p) X.env)=eval (.Name x p) X.env:=by rfl) (hline:(apos.endLine == cpos.line)=true:=by rfl) :
  PI X (.Tuple es kk tp) (.Call (.Attribute (.Name x p) "items" apos) [] [] cpos) (iItems kvs):=by
 intro pins s σ H R I h
 refine wpAny_Call_method0_late hbase hline (thn (pe_glob (v:=.ref d) hg hm rfl hd pins s σ H (fun v H'=>v=.ref d∧H'=H) I ⟨rfl,rfl⟩) fun v s1 ⟨y,H1,I1,r1,ey,eH⟩=>?_)
 subst ey eH
 cases r1
 obtain ⟨vs,ep,hmm,hlen,_⟩:=I1.topItems T
 obtain ⟨es0,n,hl,hk,hpz,hnd,hsys⟩:=id T
 obtain ⟨o,es1,e1,ex,e2,e3⟩:=id hmm
 have hT:s1.TypeIs (.ref d) "dict":=⟨o,e1,ex.1⟩
 refine ⟨"dict","dict.items",F.plainAttrs_dict,F.slot_dict_items,F.type_dict_items,hT,fun a e=>by cases e; exact ⟨o,e1,ex.2.1⟩,?_⟩
 refine Calls.callWith_builtin rfl (PySem.evalArgs_none ?_)
 refine call_meetsIn F.slot_dict_items hT F.entry_dict_items (F.args_dict_items_1 _) (meets_dict_items (strKind X.prog X.w) d hsys) ⟨⟨vs,o,es1,ep,e1,ex,e2,e3⟩,?_⟩
 have I2:Inv X pins σ H1 { s1 with heap:=s1.heap.push { cls:=.type "dict_items",data:=.fields #[.ref d] } }:=I1.kept (t':=s1.toks) fun b o e=>Heap.get?_push_of_some _ e
 have hm2:({ s1 with heap:=s1.heap.push { cls:=.type "dict_items",data:=.fields #[.ref d] } }:Shared).heap.DictAt (strKind X.prog X.w) d vs ep:=⟨o,es1,Heap.get?_push_of_some _ e1,ex,e2,e3⟩
 refine wpAny_pyIter_items (knd:=strKind X.prog X.w) (d:=d) (kvs:=vs) (ep:=ep) ⟨_,Heap.get?_push_size _ rfl,rfl,rfl⟩ hm2 ?_
 have hep:∀ es n,X.K.lookup d=some ⟨.type "dict",none,.dict es n,#[]⟩→n=ep:=fun es' n' hl'=>by
  have e4:=I1.kIn _ _ hl'
  rw [e1] at e4
  cases e4
  have e5:Data.dict es' n'=Data.dict es1 ep:=e2
  cases e5
  rfl
 refine ⟨_,_,_,_,H1,rfl,I2.kept (t':=s1.toks) fun b o e=>Heap.get?_push_of_some _ e,turn_items d _ kvs T ep hep,⟨.none,.none,?_⟩,fun b hb=>?_,h⟩
 ·rw [← hlen]
  exact Heap.get?_push_size _ rfl
 ·have e:b=(s1.heap.push { cls:=.type "dict_items",data:=.fields #[.ref d] }).objs.size:=by simpa using hb
  subst e
  exact I2.fpOk (Nat.le_refl _) (I2.hok.fresh (Nat.le_refl _))
theorem for_items {kvs:List (Str×V)} {g:TG} {tb:TS} {D:Ends} {σ:St} {H:Hp} (Pv:Nat→St→Hp→Prop) (h0:Pv 0 σ H)
  (hs:∀ i T k x σ H,kvs[i]?=some (k,x)→Pv i σ H→H T=none→g (.ref T) σ (upd H T (.tup [.str k,x])) fun σ2 H2=>tb { D with nx:=Pv (i + 1),ct:=Pv (i + 1),bk:=D.nx } σ2 H2) (hd:∀ σ H,Pv kvs.length σ H→D.nx σ H) :
  ∃ W:Nat→Nat→St→Hp→Prop,(∃ m,W 0 m σ H)∧∀ i m σ H,W i m σ H →
   ((Iti kvs).stop i H∧D.nx σ H)∨((Iti kvs).go i H∧∃ N:St→Hp→Prop,(∀ σ' H',N σ' H'→∃ m',m' < m∧W (i + 1) m' σ' H')∧∀ x H',(Iti kvs).yld i H x H'→g x σ H' fun σ2 H2=>tb { D with nx:=N,ct:=N,bk:=D.nx } σ2 H2):=by
 refine ⟨fun i m σ H=>m=kvs.length - i∧i≤kvs.length∧Pv i σ H,⟨kvs.length,by simp,Nat.zero_le _,h0⟩,?_⟩
 rintro i m σ H ⟨rfl,hi,p⟩
 by_cases hlt:i < kvs.length
 ·refine .inr ⟨hlt,Pv (i + 1),fun σ' H' p'=>⟨kvs.length - (i + 1),by lia,rfl,hlt,p'⟩,fun v H' y=>?_⟩
  obtain ⟨T,k,x,rfl,hT,rfl,hx⟩:=y
  exact hs i T k x σ H hx p hT
 ·have e:i=kvs.length:=by lia
  subst e
  exact .inl ⟨Nat.le_refl _,hd σ H p⟩
end
end L2
namespace L2
open PySem PySem.Spec PyProof.Rows
section
variable {X:Cx}
end
section
variable {prog:Program} {w:World} {A:Around} {E:Value→Shared→Prop} {s:Shared}
end
section
variable {X:Cx} {es:List Expr} {kk:Nat} {tpos:Pos}
end
end L2
namespace HT
open PySem PySem.Spec PyProof.Rows
section
variable {prog:Program} {w:World} {A:Around} {E:Value→Shared→Prop} {s:Shared}
end
end HT
namespace L2
open PySem PySem.Spec PyProof.Rows
variable {X:Cx}
end L2
namespace L2
open PySem PySem.Spec PyProof.Rows
section
variable {O:KeyOrd}
noncomputable def Up (f:Nat→O.α) (n:Nat):Prop:=∀ i j,i≤j→j < n→O.kle (f i) (f j)
noncomputable def Dn (f:Nat→O.α) (n:Nat):Prop:=∀ i j,i≤j→j < n→O.kle (f j) (f i)
theorem Up.one (f:Nat→O.α):Up f 1:=fun i j a b=>by
 have e:i=j:=by lia
 rw [e]; exact KeyOrd.kle_refl _
theorem Dn.one (f:Nat→O.α):Dn f 1:=fun i j a b=>by
 have e:i=j:=by lia
 rw [e]; exact KeyOrd.kle_refl _
theorem Up.snoc {f:Nat→O.α} {n:Nat} (u:Up f n) (h:O.kle (f (n - 1)) (f n)):Up f (n + 1):=fun i j a b=>by
 rcases Nat.lt_or_ge j n with c | c
 ·exact u i j a c
 have ej:j=n:=by lia
 rw [ej]
 rcases Nat.lt_or_ge i n with c2 | c2
 ·exact KeyOrd.kle_trans (u i (n - 1) (by lia) (by lia)) h
 ·have ei:i=n:=by lia
  rw [ei]; exact KeyOrd.kle_refl _
theorem Dn.snoc {f:Nat→O.α} {n:Nat} (u:Dn f n) (h:O.kle (f n) (f (n - 1))):Dn f (n + 1):=fun i j a b=>by
 rcases Nat.lt_or_ge j n with c | c
 ·exact u i j a c
 have ej:j=n:=by lia
 rw [ej]
 rcases Nat.lt_or_ge i n with c2 | c2
 ·exact KeyOrd.kle_trans h (u i (n - 1) (by lia) (by lia))
 ·have ei:i=n:=by lia
  rw [ei]; exact KeyOrd.kle_refl _
theorem Dn.congr {f g:Nat→O.α} {n:Nat} (u:Dn f n) (h:∀ i,g i=f i):Dn g n:=fun i j a b=>by rw [h,h]; exact u i j a b
end
section
variable {O:KeyOrd} (κ:Keyed→O.α) (d:O.α)
noncomputable def fk (xs:Array Keyed) (i:Nat):O.α:=match xs[i]? with
 | some p=>κ p
 | none=>d
theorem fk_eq {xs ys:Array Keyed} {i j:Nat} (h:xs[i]?=ys[j]?):fk κ d xs i=fk κ d ys j:=by unfold fk; rw [h]
theorem fk_turn {xs:Array Keyed} {i j:Nat} (hj:j≤xs.size) (k:Nat):fk κ d (mirror xs i j ((j - i) / 2)) k=if i≤k∧k < j then fk κ d xs (i + j - 1 - k) else fk κ d xs k:=by
 have e:=getElem?_mirror_all (i:=i) hj k
 split at e
 ·rename_i c; rw [if_pos c]; exact fk_eq κ d e
 ·rename_i c; rw [if_neg c]; exact fk_eq κ d e
theorem fk_flat {xs:Array Keyed} {i j:Nat} (hj:j≤xs.size) (h:∀ k,i≤k→k < j→fk κ d xs k=fk κ d xs (j - 1)) (k:Nat):fk κ d (mirror xs i j ((j - i) / 2)) k=fk κ d xs k:=by
 rw [fk_turn κ d hj]
 split
 ·rename_i c
  rw [h _ (by lia) (by lia),← h k c.1 c.2]
 ·rfl
theorem fk_down {xs:Array Keyed} {a b:Nat} (ha:a < xs.size) (hb:b≤a) (k:Nat):fk κ d (bubble xs a b) k=if k=a - b then fk κ d xs a else if a - b < k∧k≤a then fk κ d xs (k - 1) else fk κ d xs k:=by
 have e:=getElem?_bubble ha b hb k
 split at e
 ·rename_i c; rw [if_pos c]; exact fk_eq κ d e
 ·rename_i c
  rw [if_neg c]
  split at e
  ·rename_i c2; rw [if_pos c2]; exact fk_eq κ d e
  ·rename_i c2; rw [if_neg c2]; exact fk_eq κ d e
end
structure Srt (M:Model) (A:Around) (E:Value→Shared→Prop) (s:Shared) {O:KeyOrd} (κ:Keyed→O.α) (d:O.α) (n:Nat) (Bs:SortSt→Prop):Prop where
 lt:∀ {st:SortSt} {i j:Nat} {Q:Option Bool→SortSt→Prop},Bs st→i < n→j < n→Q (some (O.blt (fk κ d (arrOf st) i) (fk κ d (arrOf st) j))) st→wpS M A E s (ltAt' i j) Q st
 put:∀ {st:SortSt} {xs:Array Keyed},Bs st→xs.Perm (arrOf st)→Bs (setArr st xs)
 sz:∀ {st:SortSt},Bs st→(arrOf st).size=n
section
variable {prog:Program} {w:World} {A:Around} {E:Value→Shared→Prop} {s:Shared} {O:KeyOrd} {κ:Keyed→O.α} {d:O.α} {n:Nat} {Bs:SortSt→Prop}
theorem srt_asc (S:Srt (model prog w) A E s κ d n Bs) {st:SortSt} (hb:Bs st) {a m:Nat} (h1:1≤a) (ham:a≤m) (hmn:m≤n) (up:Up (fk κ d (arrOf st)) a) {Q:AscSt→SortSt→Prop}
  (q:∀ k,a≤k→k≤m→Up (fk κ d (arrOf st)) k→(k=m∨O.klt (fk κ d (arrOf st) k) (fk κ d (arrOf st) (k - 1)))→Q (none,k) st):wpS (model prog w) A E s (ascLoop a m) Q st:=by
 unfold ascLoop
 refine wpS_forRange (fun x c st'=>st'=st∧c=(none,x)∧Up (fk κ d (arrOf st)) x) (fun x c st' hx hm hI=>?_) (fun c st' hI=>?_) ⟨rfl,rfl,up⟩
 ·obtain ⟨e1,e2,u⟩:=hI
  subst e1 e2
  refine wpS_bind (S.lt hb (show x < n by lia) (show x - 1 < n by lia) ?_)
  dsimp only
  cases e:O.blt (fk κ d (arrOf st') x) (fk κ d (arrOf st') (x - 1)) with
  | true=>rw [if_pos rfl]; exact wpS_pure (q x hx (by lia) u (.inr e))
  | false=>rw [if_neg Bool.false_ne_true]; exact wpS_pure ⟨rfl,rfl,u.snoc e⟩
 ·obtain ⟨e1,e2,u⟩:=hI
  subst e1 e2
  rw [Nat.max_eq_right ham] at u ⊢
  exact q m ham (Nat.le_refl m) u (.inl rfl)
theorem srt_tail (S:Srt (model prog w) A E s κ d n Bs) {st:SortSt} (hb:Bs st) {a m:Nat} (h1:1≤a) (ham:a≤m) (hmn:m≤n) (dn:Dn (fk κ d (arrOf st)) a) {Q:Option Nat→SortSt→Prop}
  (q:∀ k st',Bs st'→1≤k→k≤m→Up (fk κ d (arrOf st')) k→Q (some k) st'):wpS (model prog w) A E s (tail3 a m) Q st:=by
 have z:a≤(arrOf st).size:=by rw [S.sz hb]; lia
 unfold tail3
 refine wpS_bind (wpS_reverse ?_)
 have hb2:=S.put hb (mirror_perm (arrOf st) 0 a ((a - 0) / 2))
 have u2:Up (fk κ d (mirror (arrOf st) 0 a ((a - 0) / 2))) a:=fun i j c1 c2=>by
  rw [fk_turn κ d z,fk_turn κ d z,if_pos ⟨Nat.zero_le _,by lia⟩,if_pos ⟨Nat.zero_le _,c2⟩]
  exact dn _ _ (by lia) (by lia)
 exact wpS_bind (srt_asc S hb2 h1 ham hmn u2 fun k k1 k2 u _=>wpS_pure (q k _ hb2 (by lia) k2 u))
theorem srt_desc (S:Srt (model prog w) A E s κ d n Bs) {st:SortSt} (hb:Bs st) {a m:Nat} (h1:1≤a) (ham:a≤m) (hmn:m≤n) (dn:Dn (fk κ d (arrOf st)) a) {Q:DescSt→SortSt→Prop}
  (q:∀ k e st',Bs st'→a≤k→k≤m→Dn (fk κ d (arrOf st')) k→e + 1≤k→(∀ i,k - (e + 1)≤i→i < k→fk κ d (arrOf st') i=fk κ d (arrOf st') (k - 1))→Q (none,k,e) st'):wpS (model prog w) A E s (descLoop a m) Q st:=by
 unfold descLoop
 have one:∀ (xs:Array Keyed) (x:Nat),1≤x→∀ i,x - (0 + 1)≤i→i < x→fk κ d xs i=fk κ d xs (x - 1):=fun xs x hx i c1 c2=>by rw [show i=x - 1 by lia]
 refine wpS_forRange (fun x c st'=>∃ e,c=(none,x,e)∧Bs st'∧Dn (fk κ d (arrOf st')) x∧e + 1≤x∧∀ i,x - (e + 1)≤i→i < x→fk κ d (arrOf st') i=fk κ d (arrOf st') (x - 1)) (fun x c st' hx hm hI=>?_) (fun c st' hI=>?_) ⟨0,rfl,hb,dn,h1,one _ a h1⟩
 ·obtain ⟨e,rfl,b,u,le,fl⟩:=hI
  have z:x≤(arrOf st').size:=by rw [S.sz b]; lia
  refine wpS_bind (S.lt b (show x < n by lia) (show x - 1 < n by lia) ?_)
  dsimp only
  cases e1:O.blt (fk κ d (arrOf st') x) (fk κ d (arrOf st') (x - 1)) with
  | true =>
   rw [if_pos rfl]
   have u1:Dn (fk κ d (arrOf st')) (x + 1):=u.snoc (KeyOrd.kle_of_klt e1)
   by_cases c:e > 0
   ·rw [if_pos c]
    exact wpS_bind (wpS_reverse (wpS_pure ⟨0,rfl,S.put b (mirror_perm _ _ _ _),u1.congr (fk_flat κ d z fl),by lia,one _ (x + 1) (by lia)⟩))
   ·rw [if_neg c]
    exact wpS_pure ⟨0,rfl,b,u1,by lia,one _ (x + 1) (by lia)⟩
  | false =>
   rw [if_neg Bool.false_ne_true]
   refine wpS_bind (S.lt b (show x - 1 < n by lia) (show x < n by lia) ?_)
   dsimp only
   cases e2:O.blt (fk κ d (arrOf st') (x - 1)) (fk κ d (arrOf st') x) with
   | true=>rw [if_pos rfl]; exact wpS_pure (q x e st' b hx (by lia) u le fl)
   | false =>
    rw [if_neg Bool.false_ne_true]
    have same:fk κ d (arrOf st') x=fk κ d (arrOf st') (x - 1):=KeyOrd.kle_antisymm e2 e1
    refine wpS_pure ⟨e + 1,rfl,b,u.snoc (by rw [same]; exact KeyOrd.kle_refl _),by lia,fun i c1 c2=>?_⟩
    rw [Nat.add_sub_cancel]
    rcases Nat.lt_or_ge i x with c3 | c3
    ·rw [same]; exact fl i (by lia) c3
    ·rw [show i=x by lia]
 ·obtain ⟨e,rfl,b,u,le,fl⟩:=hI
  rw [Nat.max_eq_right ham] at u le fl ⊢
  exact q m e st' b ham (Nat.le_refl m) u le fl
theorem srt_descPart (S:Srt (model prog w) A E s κ d n Bs) {st:SortSt} (hb:Bs st) {a m:Nat} (ham:a + 1≤m) (hmn:m≤n) (dn:Dn (fk κ d (arrOf st)) (a + 1)) {Q:Option Nat→SortSt→Prop}
  (q:∀ k st',Bs st'→1≤k→k≤m→Up (fk κ d (arrOf st')) k→Q (some k) st'):wpS (model prog w) A E s (descPart a m) Q st:=by
 unfold descPart
 refine wpS_bind (wpS_lift (wpAny_rule ⟨rfl,?_⟩))
 refine wpS_bind (srt_desc S hb (by lia) ham hmn dn fun k e st' b k1 k2 u le fl=>?_)
 have z:k≤(arrOf st').size:=by rw [S.sz b]; lia
 dsimp only
 by_cases c:e > 0
 ·rw [if_pos c]
  exact wpS_bind (wpS_reverse (srt_tail S (S.put b (mirror_perm _ _ _ _)) (by lia) k2 hmn (u.congr (fk_flat κ d z fl)) q))
 ·rw [if_neg c]
  exact srt_tail S b (by lia) k2 hmn u q
theorem srt_count (S:Srt (model prog w) A E s κ d n Bs) {st:SortSt} (hb:Bs st) {m:Nat} (h1:1≤m) (hmn:m≤n) {Q:Option Nat→SortSt→Prop}
  (q:∀ k st',Bs st'→1≤k→k≤m→Up (fk κ d (arrOf st')) k→Q (some k) st'):wpS (model prog w) A E s (countRun' 0 m) Q st:=by
 rw [countRun0_eq]
 refine wpS_bind (srt_asc S hb (Nat.le_refl 1) h1 hmn (Up.one _) fun k k1 k2 u ends=>?_)
 have z:k≤(arrOf st).size:=by rw [S.sz hb]; lia
 dsimp only
 by_cases c:k=m
 ·rw [if_pos (beq_iff_eq.mpr c)]
  exact wpS_pure (q k st hb k1 k2 u)
 rw [if_neg (fun z=>c (beq_iff_eq.mp z))]
 have fall:=ends.resolve_left c
 by_cases c1:k > 1
 ·rw [if_pos c1]
  refine wpS_bind (S.lt hb (show 0 < n by lia) (show k - 1 < n by lia) ?_)
  dsimp only
  cases e:O.blt (fk κ d (arrOf st) 0) (fk κ d (arrOf st) (k - 1)) with
  | true=>rw [if_pos rfl]; exact wpS_pure (q k st hb k1 k2 u)
  | false =>
   rw [if_neg Bool.false_ne_true]
   have flat:∀ i,0≤i→i < k→fk κ d (arrOf st) i=fk κ d (arrOf st) (k - 1):=fun i _ ci =>
    KeyOrd.kle_antisymm (u i (k - 1) (by lia) (by lia)) (KeyOrd.kle_trans e (u 0 i (Nat.zero_le _) ci))
   have dn:Dn (fk κ d (arrOf st)) (k + 1):=by
    refine Dn.snoc (fun i j a b=>?_) (KeyOrd.kle_of_klt fall)
    rw [flat i (Nat.zero_le _) (by lia),flat j (Nat.zero_le _) b]
    exact KeyOrd.kle_refl _
   exact wpS_bind (wpS_reverse (srt_descPart S (S.put hb (mirror_perm _ _ _ _)) (by lia) hmn (dn.congr (fk_flat κ d z flat)) q))
 ·rw [if_neg c1]
  have e1:k=1:=by lia
  subst e1
  exact srt_descPart S hb (by lia) hmn (Dn.snoc (Dn.one _) (KeyOrd.kle_of_klt fall)) q
theorem srt_binary (S:Srt (model prog w) A E s κ d n Bs) {st:SortSt} (hb:Bs st) {a:Nat} (han:a≤n) (up:Up (fk κ d (arrOf st)) a) {Q:Bool→SortSt→Prop}
  (q:∀ st',Bs st'→Up (fk κ d (arrOf st')) n→Q true st'):wpS (model prog w) A E s (binarySort' 0 n a) Q st:=by
 rw [binarySort'_eq]
 simp only [Nat.zero_add]
 refine wpS_bind (wpS_mono (wpS_forRange (fun x c st'=>c=(none,())∧Bs st'∧Up (fk κ d (arrOf st')) (min x n)) (Q:=fun c st'=>c=(none,())∧Bs st'∧Up (fk κ d (arrOf st')) n) (fun x c st' hx hxn hI=>?_) (fun c st' hI=>?_) ⟨rfl,hb,?_⟩) ?_)
 ·obtain ⟨rfl,b,u⟩:=hI
  rw [Nat.min_eq_left (by lia)] at u
  refine wpS_bind (wpS_mono (wpS_forRange (fun y c st2=>st2=st'∧∃ l r,c=(none,l,r)∧l≤r∧r≤x∧r - l≤x - y∧(∀ i,i < l→O.kle (fk κ d (arrOf st') i) (fk κ d (arrOf st') x))∧∀ i,r≤i→i < x→O.klt (fk κ d (arrOf st') x) (fk κ d (arrOf st') i))
   (Q:=fun c st2=>st2=st'∧∃ l r,c=(none,l,r)∧l≤x∧(∀ i,i < l→O.kle (fk κ d (arrOf st') i) (fk κ d (arrOf st') x))∧∀ i,l≤i→i < x→O.klt (fk κ d (arrOf st') x) (fk κ d (arrOf st') i))
   (fun y c st2 _ hy hJ=>?_) (fun c st2 hJ=>?_) ⟨rfl,0,x,rfl,Nat.zero_le _,Nat.le_refl _,Nat.le_refl _,(fun i hi=>absurd hi (Nat.not_lt_zero i)),fun i c1 c2=>absurd c2 (Nat.not_lt.mpr c1)⟩) ?_)
  ·obtain ⟨rfl,l,r,rfl,lr,rx,dist,lo,hi⟩:=hJ
   dsimp only
   by_cases c:l ≥ r
   ·rw [if_pos c]
    exact wpS_pure ⟨rfl,l,r,rfl,by lia,lo,fun i c1 c2=>hi i (by lia) c2⟩
   rw [if_neg c]
   refine wpS_bind (S.lt b (show x < n by lia) (show (l + r) / 2 < n by lia) ?_)
   dsimp only
   cases e:O.blt (fk κ d (arrOf st2) x) (fk κ d (arrOf st2) ((l + r) / 2)) with
   | true =>
    rw [if_pos rfl]
    exact wpS_pure ⟨rfl,l,(l + r) / 2,rfl,by lia,by lia,by lia,lo,fun i c1 c2=>KeyOrd.klt_of_klt_of_kle e (u _ _ c1 c2)⟩
   | false =>
    rw [if_neg Bool.false_ne_true]
    exact wpS_pure ⟨rfl,(l + r) / 2 + 1,r,rfl,by lia,rx,by lia,fun i ci=>KeyOrd.kle_trans (u i ((l + r) / 2) (by lia) (by lia)) e,hi⟩
  ·obtain ⟨rfl,l,r,rfl,lr,rx,dist,lo,hi⟩:=hJ
   exact ⟨rfl,l,r,rfl,by lia,lo,fun i c1 c2=>hi i (by lia) c2⟩
  ·rintro c st2 ⟨rfl,l,r,rfl,lx,lo,hi⟩
   have z:x < (arrOf st2).size:=by rw [S.sz b]; exact hxn
   show wpS _ _ _ _ (moveDown' x l >>= fun _=>pure (ForInStep.yield (none,()))) _ _
   rw [moveDown'_eq]
   refine wpS_bind (wpS_modify (wpS_pure ⟨rfl,S.put b (bubble_perm _ _ _),?_⟩))
   rw [Nat.min_eq_left (by lia)]
   intro i j c1 c2
   show O.kle (fk κ d (bubble (arrOf st2) x (x - l)) i) (fk κ d (bubble (arrOf st2) x (x - l)) j)
   rw [fk_down κ d z (Nat.sub_le _ _),fk_down κ d z (Nat.sub_le _ _),show x - (x - l)=l by lia]
   by_cases a1:i=l
   ·rw [if_pos a1]
    by_cases a2:j=l
    ·rw [if_pos a2]; exact KeyOrd.kle_refl _
    ·rw [if_neg a2,if_pos ⟨by lia,by lia⟩]; exact KeyOrd.kle_of_klt (hi _ (by lia) (by lia))
   ·rw [if_neg a1]
    by_cases a3:l < i∧i≤x
    ·rw [if_pos a3,if_neg (by lia),if_pos ⟨by lia,by lia⟩]
     exact u _ _ (by lia) (by lia)
    ·rw [if_neg a3]
     by_cases a2:j=l
     ·rw [if_pos a2]; exact lo i (by lia)
     ·rw [if_neg a2]
      by_cases a4:l < j∧j≤x
      ·rw [if_pos a4]; exact u _ _ (by lia) (by lia)
      ·rw [if_neg a4]; exact u _ _ c1 (by lia)
 ·obtain ⟨rfl,b,u⟩:=hI
  rw [show min (max (max a 1) n) n=n by lia] at u
  exact ⟨rfl,b,u⟩
 ·intro i j c1 c2
  rcases Nat.lt_or_ge j a with c | c
  ·exact up i j c1 c
  ·have e:i=j:=by lia
   rw [e]; exact KeyOrd.kle_refl _
 ·rintro c st' ⟨rfl,b,u⟩
  exact wpS_pure (q st' b u)
end
end L2
namespace L2
open PySem PySem.Spec PyProof.Rows
structure TB (kd:SortKind) (a0:Array Keyed) (st:SortSt):Prop where
 kind:kindOf st=kd
 perm:(arrOf st).Perm a0
 pend:pendingOf st=#[]
 fail:failedOf st=none
section
variable {prog:Program} {w:World} {A:Around} {E:Value→Shared→Prop} {s:Shared} {O:KeyOrd} {κ:Keyed→O.α} {d:O.α} {kd:SortKind} {a0:Array Keyed}
theorem srt_runs (S:Srt (model prog w) A E s κ d a0.size (TB kd a0)) (h2:2≤a0.size) (h64:a0.size < 64) {st:SortSt} (hb:TB kd a0 st) {Q:Unit→SortSt→Prop}
  (q:∀ st',(arrOf st').Perm a0→failedOf st'=none→Up (fk κ d (arrOf st')) a0.size→Q () st'):wpS (model prog w) A E s sortRuns' Q st:=by
 have zst:=S.sz hb
 have mr:minRun' a0.size a0.size 0=a0.size:=by
  cases e:a0.size with
  | zero=>lia
  | succ k =>
   rw [minRun'_succ,if_pos (by lia)]
 rw [sortRuns'_eq]
 refine wpS_bind (wpS_get ?_)
 dsimp only
 rw [zst,mr]
 have laid:∀ st':SortSt,TB kd a0 st'→Up (fk κ d (arrOf st')) a0.size→(arrOf (setPending st' ((pendingOf st').push (0,a0.size,0)))).Perm a0∧failedOf (setPending st' ((pendingOf st').push (0,a0.size,0)))=none∧pendingOf (setPending st' ((pendingOf st').push (0,a0.size,0)))=#[(0,a0.size,0)]∧Up (fk κ d (arrOf (setPending st' ((pendingOf st').push (0,a0.size,0))))) a0.size:=fun st' b u =>
  ⟨b.perm,b.fail,(by show (pendingOf st').push (0,a0.size,0)=_; rw [b.pend]; rfl),u⟩
 refine wpS_bind (wpS_mono (wpS_forRange (fun x c st'=>(x=0∧c=(none,0)∧TB kd a0 st')∨(c=(none,a0.size)∧(arrOf st').Perm a0∧failedOf st'=none∧pendingOf st'=#[(0,a0.size,0)]∧Up (fk κ d (arrOf st')) a0.size))
  (Q:=fun c st'=>c=(none,a0.size)∧(arrOf st').Perm a0∧failedOf st'=none∧pendingOf st'=#[(0,a0.size,0)]∧Up (fk κ d (arrOf st')) a0.size) (fun x c st' _ hx hI=>?_) (fun c st' hI=>?_) (.inl ⟨rfl,rfl,hb⟩)) ?_)
 ·rcases hI with ⟨rfl,rfl,b⟩ | ⟨rfl,r⟩
  ·dsimp only
   rw [if_neg (by lia)]
   simp only [Nat.sub_zero,Nat.min_self,Nat.zero_add]
   refine wpS_bind (srt_count S b (by lia) (Nat.le_refl _) fun k st2 b2 k1 k2 u=>?_)
   dsimp only
   by_cases c:k < a0.size
   ·rw [if_pos c]
    refine wpS_bind (wpS_lift (wpAny_rule ⟨rfl,?_⟩))
    refine wpS_bind (srt_binary S b2 k2 u fun st3 b3 u3=>?_)
    simp only [Bool.not_true,Bool.false_eq_true,if_false]
    refine wpS_bind (wpS_get ?_)
    rw [show (pendingOf st3).back?=none by rw [b3.pend]; rfl]
    dsimp only
    exact wpS_bind (wpS_modify (wpS_pure (.inr ⟨rfl,laid st3 b3 u3⟩)))
   ·rw [if_neg c]
    have ek:k=a0.size:=by lia
    subst ek
    refine wpS_bind (wpS_get ?_)
    rw [show (pendingOf st2).back?=none by rw [b2.pend]; rfl]
    dsimp only
    exact wpS_bind (wpS_modify (wpS_pure (.inr ⟨rfl,laid st2 b2 u⟩)))
  ·dsimp only
   rw [if_pos (Nat.le_refl _)]
   exact wpS_pure ⟨rfl,r⟩
 ·rcases hI with ⟨h,_⟩ | h
  ·exact absurd h (by lia)
  ·exact h
 ·rintro c st' ⟨rfl,r1,r2,r3,r4⟩
  dsimp only
  refine wpS_bind (wpS_mono (wpS_forRange (fun _ c st2=>st2=st'∧c=(none,())) (Q:=fun c st2=>st2=st'∧c=(none,())) (fun x c st2 _ _ hJ=>?_) (fun c st2 hJ=>hJ) ⟨rfl,rfl⟩) ?_)
  ·obtain ⟨rfl,rfl⟩:=hJ
   refine wpS_bind (wpS_get ?_)
   rw [if_pos (by rw [r3]; exact Nat.le_refl 1)]
   exact wpS_pure ⟨rfl,rfl⟩
  ·rintro c st2 ⟨rfl,rfl⟩
   exact wpS_pure (q _ r1 r2 r4)
end
noncomputable def lx:List Int→List Int→Bool
 | [],[]=>false
 | [],_ :: _=>true
 | _ :: _,[]=>false
 | a :: x,b :: y=>if a=b then lx x y else decide (a < b)
theorem lx_cons (a b:Int) (x y:List Int):lx (a :: x) (b :: y)=if a=b then lx x y else decide (a < b):=by rw [lx]
theorem lx_irrefl:∀ x,lx x x=false
 | []=>rfl
 | a :: x=>by rw [lx_cons,if_pos rfl]; exact lx_irrefl x
theorem lx_total:∀ x y,lx x y=false→lx y x=false→x=y
 | [],[],_,_=>rfl
 | [],_ :: _,h,_=>by cases h
 | _ :: _,[],_,h=>by cases h
 | a :: x,b :: y,h1,h2=>by
  rw [lx_cons] at h1 h2
  by_cases e:a=b
  ·subst e
   rw [if_pos rfl] at h1 h2
   rw [lx_total x y h1 h2]
  ·rw [if_neg e] at h1
   rw [if_neg (Ne.symm e)] at h2
   have:=of_decide_eq_false h1
   have:=of_decide_eq_false h2
   lia
theorem lx_trans:∀ x y z,lx x y=true→lx y z=true→lx x z=true
 | [],[],_,h,_=>by cases h
 | [],_ :: _,[],_,h=>by cases h
 | [],_ :: _,_ :: _,_,_=>rfl
 | _ :: _,[],_,h,_=>by cases h
 | _ :: _,_ :: _,[],_,h=>by cases h
 | a :: x,b :: y,c :: z,h1,h2=>by
  rw [lx_cons] at h1 h2 ⊢
  by_cases e1:a=b
  ·subst e1
   rw [if_pos rfl] at h1
   by_cases e2:a=c
   ·subst e2
    rw [if_pos rfl] at h2 ⊢
    exact lx_trans x y z h1 h2
   ·rw [if_neg e2] at h2 ⊢; exact h2
  ·rw [if_neg e1] at h1
   have k1:=of_decide_eq_true h1
   by_cases e2:b=c
   ·subst e2
    rw [if_neg e1]; exact h1
   ·rw [if_neg e2] at h2
    have k2:=of_decide_eq_true h2
    rw [if_neg (by lia)]
    exact decide_eq_true (by lia)
theorem lx_neg:∀ x y z,lx x z=true→lx x y=true∨lx y z=true
 | [],[],_,h=>.inr h
 | [],_ :: _,_,_=>.inl rfl
 | _ :: _,_,[],h=>by cases h
 | _ :: _,[],_ :: _,_=>.inr rfl
 | a :: x,b :: y,c :: z,h=>by
  rw [lx_cons] at h ⊢
  rw [lx_cons]
  by_cases e1:a=b
  ·subst e1
   rw [if_pos rfl]
   by_cases e2:a=c
   ·subst e2
    rw [if_pos rfl] at h ⊢
    exact lx_neg x y z h
   ·rw [if_neg e2] at h ⊢; exact .inr h
  ·rw [if_neg e1]
   by_cases e2:b=c
   ·subst e2
    rw [if_neg e1] at h; exact .inl h
   ·rw [if_neg e2]
    by_cases e3:a < b
    ·exact .inl (decide_eq_true e3)
    ·refine .inr (decide_eq_true ?_)
     by_cases e4:a=c
     ·subst e4; lia
     ·rw [if_neg e4] at h
      have:=of_decide_eq_true h
      lia
noncomputable def lxO:KeyOrd:=⟨List Int,lx,lx_irrefl,lx_trans,fun a b c h=>lx_neg a b c h,lx_total⟩
noncomputable abbrev tupKind (b:Bool):SortKind:=(sortPriv% PySem.Builtin.KeyKind.tuples) b
noncomputable def TupI (h:Heap) (v:Value) (ns:List Int):Prop:=∃ (a:Addr) (us:List Value),v=.ref a∧h.IsTuple a us.toArray∧IntsAre us ns
theorem keyLt_tup (b:Bool) (x y:Value):keyLt' (tupKind b) x y=(do
  let xs ← Builtin.List.listItems x
  let ys ← Builtin.List.listItems y
  for ((p,q),i) in (xs.toList.zip ys.toList).zipIdx do
   if !(← eqBool p q) then return ← oneLt' (b && i == 0) p q
  return xs.size < ys.size):=rfl
section
variable {prog:Program} {w:World} {A:Around} {E:Value→Shared→Prop} {s:Shared}
theorem one_int (b:Bool) {m n:Int} {t u:Tok} {Q:Bool→Shared→Prop} (h:Q (decide (m < n)) s):wpAny (model prog w) A (oneLt' b (.int m t) (.int n u)) Q E s:=by
 cases b with
 | true=>exact oneLt_int h
 | false =>
  rw [oneLt'_eq]
  simp only [Bool.false_eq_true,if_false]
  exact wpAny_bind (HT.rcLt_int A s m t n u prog w E _ (wpAny_truthy_bool h))
noncomputable def lexO:List Int→List Int→Option Bool
 | a :: x,b :: y=>if a=b then lexO x y else some (decide (a < b))
 | _,_=>none
theorem lexO_cons (a b:Int) (x y:List Int):lexO (a :: x) (b :: y)=if a=b then lexO x y else some (decide (a < b)):=by rw [lexO]
theorem lx_lexO:∀ x y,lx x y=(lexO x y).getD (decide (x.length < y.length))
 | [],[]=>rfl
 | [],b :: y=>by
  have e:lexO [] (b :: y)=none:=by unfold lexO; rfl
  rw [e]
  exact (decide_eq_true (Nat.succ_pos y.length)).symm
 | _ :: _,[]=>rfl
 | a :: x,b :: y=>by
  rw [lx_cons,lexO_cons]
  by_cases e:a=b
  ·rw [if_pos e,if_pos e,lx_lexO x y,List.length_cons,List.length_cons]
   simp
  ·rw [if_neg e,if_neg e]; rfl
theorem lex_loop (b:Bool):∀ (us vs:List Value) (ns ms:List Int) (k:Nat) {Q:Option Bool×Unit→Shared→Prop},IntsAre us ns→IntsAre vs ms→Q (lexO ns ms,()) s →
  wpAny (model prog w) A (forIn ((us.zip vs).zipIdx k) ((none,()):Option Bool×Unit) fun x __s=>match x with
     | ((p,q),i)=>do
      let __do_lift ← eqBool p q
      if (!__do_lift)=true then do
        let __do_lift ← oneLt' (b && i == 0) p q
        pure (ForInStep.done (some __do_lift,()))
       else pure (ForInStep.yield (none,()))) Q E s
 | _,_,_,_,k,Q,.nil,_,h=>by
  rw [List.zip_nil_left,List.zipIdx_nil]
  exact wpAny_pure (by cases ‹IntsAre _ _› <;> exact h)
 | _,_,_,_,k,Q,.cons m t r,.nil,h=>by
  rw [List.zip_nil_right,List.zipIdx_nil]
  exact wpAny_pure h
 | _,_,_,_,k,Q,.cons m t (vs:=us) (ns:=ns) r,.cons n u (vs:=vs) (ns:=ms) r2,h=>by
  rw [List.zip_cons_cons,List.zipIdx_cons,List.forIn_cons]
  rw [lexO_cons] at h
  refine wpAny_bind (wpAny_bind (wpAny_eqBool_int ?_))
  by_cases e:m=n
  ·rw [if_pos e] at h
   rw [show (m == n)=true from beq_iff_eq.mpr e]
   exact wpAny_pure (lex_loop b us vs ns ms (k + 1) r r2 h)
  ·rw [if_neg e] at h
   rw [show (m == n)=false from beq_false_of_ne e]
   exact wpAny_bind (one_int _ (wpAny_pure (wpAny_pure h)))
theorem ints_len:∀ {us:List Value} {ns:List Int},IntsAre us ns→us.length=ns.length
 | _,_,.nil=>rfl
 | _,_,.cons _ _ r=>by rw [List.length_cons,List.length_cons,ints_len r]
theorem lt_tup (b:Bool) {x y:Value} {ns ms:List Int} {Q:Bool→Shared→Prop} (hx:TupI s.heap x ns) (hy:TupI s.heap y ms) (h:Q (lx ns ms) s):wpAny (model prog w) A (keyLt' (tupKind b) x y) Q E s:=by
 obtain ⟨a,us,rfl,⟨oa,ha,_,na,da⟩,iu⟩:=hx
 obtain ⟨c,vs,rfl,⟨oc,hc,_,nc,dc⟩,iv⟩:=hy
 have l1:=ints_len iu
 have l2:=ints_len iv
 rw [keyLt_tup]
 refine wpAny_bind (listItems_at ha da (wpAny_bind (listItems_at hc dc (wpAny_bind (lex_loop b us vs ns ms 0 iu iv ?_)))))
 rw [lx_lexO] at h
 cases e:lexO ns ms with
 | some r=>rw [e] at h; exact wpAny_pure h
 | none =>
  rw [e] at h
  refine wpAny_pure ?_
  rw [List.size_toArray,List.size_toArray,l1,l2]
  exact h
end
end L2
namespace L2
open PySem PySem.Spec PyProof.Rows
section
variable {prog:Program} {w:World} {A:Around} {E:Value→Shared→Prop} {s:Shared}
theorem collect_tup {l:Addr} {us:List Value} {Q:List Value→Shared→Prop} (hl:s.heap.IsTuple l us.toArray) (hz:us.length≤sizeLine)
  (q:∀ g,(∀ b o,s.heap.get? b=some o→g.get? b=some o)→g.objs.size=s.heap.objs.size + 1→Q us { s with heap:=g }):wpAny (model prog w) A (collect (.ref l)) Q E s:=by
 obtain ⟨o,ho,hc,n,hd⟩:=id hl
 have new:(s.heap.push (seqObj "list" #[] 0)).get? s.heap.objs.size=some (seqObj "list" #[] 0):=Heap.get?_push_size _ rfl
 have old:(s.heap.push (seqObj "list" #[] 0)).get? l=some o:=Heap.get?_push_of_some _ ho
 unfold collect
 refine wpAny_bind (wpAny_runValue (codeAny_builtin entry_proto_collect' ?_))
 refine wpAny_bind (m:=newList []) (wpAny_newList (wpAny_pure ⟨Code.quiet_builtin _ (by decide +kernel),codeAny_builtin entry_list_iadd' ?_⟩))
 show wpAny _ _ (Builtin.List.listExtendWith (.ref s.heap.objs.size) (.ref l) (.ref s.heap.objs.size)) _ _ _
 unfold Builtin.List.listExtendWith
 refine wpAny_bind (wpAny_typeOf (T:="tuple") ⟨o,old,hc⟩ ?_)
 rw [if_pos (by rw [show (Value.type "tuple" == Value.type "tuple")=true from rfl]; simp)]
 refine wpAny_bind (listItems_at old hd (wpAny_bind (listItems_at new rfl ?_)))
 rw [if_neg (by simp)]
 refine wpAny_bind (listUpdate_at new rfl ?_ (Nat.zero_le _) (by show (#[]++us.toArray).size≤_; rw [Array.size_append]; show 0 + us.toArray.size≤_; rw [List.size_toArray]; lia))
 refine wpAny_pure ?_
 show wpAny (model prog w) A (load s.heap.objs.size >>= fun o=>match o.data with
   | .seq xs _=>pure xs.toList
   | _=>unsupported "internal:collect") Q E { s with heap:=(s.heap.push (seqObj "list" #[] 0)).update s.heap.objs.size (Obj.mapSeq (·++us.toArray)) }
 refine wpAny_bind (wpAny_load (get?_update_seq new _) ?_)
 show wpAny _ _ (pure ((#[]:Array Value)++us.toArray).toList) Q E _
 rw [show ((#[]:Array Value)++us.toArray).toList=us by simp]
 refine wpAny_pure (q _ (fun b o' e=>?_) (by rw [Heap.size_update,Heap.size_push]))
 have ne:b≠s.heap.objs.size:=Nat.ne_of_lt (Heap.lt_size e)
 exact (Heap.get?_update_other _ _ (Ne.symm ne)).trans (Heap.get?_push_of_some _ e)
theorem mapM_wp {α β:Type} {f:α→Sem β} {r:α→β}:∀ (l:List α),(∀ x∈l,∀ {Q:β→Shared→Prop},Q (r x) s→wpAny (model prog w) A (f x) Q E s)→∀ {Q:List β→Shared→Prop},Q (l.map r) s→wpAny (model prog w) A (l.mapM f) Q E s
 | [],_,Q,h=>by rw [List.mapM_nil]; exact wpAny_pure h
 | x :: t,hf,Q,h=>by
  rw [List.mapM_cons]
  exact wpAny_bind (hf x (List.mem_cons_self ..) (wpAny_bind (mapM_wp t (fun y hy=>hf y (List.mem_cons_of_mem _ hy)) (wpAny_pure h))))
theorem kind_tup {ks:List Value} {f:Value→List Int} (hk:∀ v∈ks,TupI s.heap v (f v)∧f v≠[]) {Q:SortKind→Shared→Prop} (q:∀ b,Q (tupKind b) s):wpAny (model prog w) A (keyKind' ks.toArray) Q E s:=by
  have hf:∀ v∈ks,∃ m t,∀ {Q:Option Value→Shared→Prop},Q (some (.int m t)) s→wpAny (model prog w) A (firstOfTuple' v) Q E s:=fun v hv=>by
    obtain ⟨ht,ne⟩:=hk v hv
    cases e:f v with
    | nil=>exact absurd e ne
    | cons m r =>
      rw [e] at ht
      obtain ⟨a,us,rfl,hT,iu⟩:=ht
      cases iu with
      | cons m t r2 =>
        refine ⟨m,t,fun {Q} h=>?_⟩
        obtain ⟨o,ho,hc,n,hd⟩:=hT
        show wpAny _ _ (do if (← typeOf (.ref a)) != .type "tuple" then return none
                           return (← Builtin.List.listItems (.ref a))[0]?) _ _ s
        refine wpAny_bind (wpAny_typeOf (T:="tuple") ⟨o,ho,hc⟩ ?_)
        rw [if_neg (by decide)]
        exact wpAny_bind (listItems_at ho hd (wpAny_pure h))
  obtain ⟨g,hg⟩:∃ g:Value→Int×Tok,∀ v∈ks,∀ {Q:Option Value→Shared→Prop},Q (some (.int (g v).1 (g v).2)) s→wpAny (model prog w) A (firstOfTuple' v) Q E s:=by
    classical
    refine ⟨fun v=>if h:v∈ks then ((hf v h).choose,(hf v h).choose_spec.choose) else (0,0),fun v hv Q h=>?_⟩
    dsimp only at h
    rw [dif_pos hv] at h
    exact (hf v hv).choose_spec.choose_spec h
  rw [keyKind'_eq,List.mapM_toArray]
  rw [map_eq_pure_bind,bind_assoc]
  refine wpAny_bind (mapM_wp (r:=fun v=>some (.int (g v).1 (g v).2)) ks hg ?_)
  rw [pure_bind]
  rw [if_pos (by simp)]
  refine wpAny_bind (wpAny_rule ?_)
  have iz:∃ ns,IntsAre (ks.map fun v=>Value.int (g v).1 (g v).2) ns:=by
    clear hk hf hg q
    induction ks with
    | nil=>exact ⟨[],.nil⟩
    | cons v r ih =>
      obtain ⟨ns,h⟩:=ih
      exact ⟨_,.cons _ _ h⟩
  obtain ⟨ns,iz⟩:=iz
  have ef:(ks.map fun v=>some (Value.int (g v).1 (g v).2)).toArray.filterMap id=(ks.map fun v=>Value.int (g v).1 (g v).2).toArray:=by
    apply Array.toList_inj.mp
    rw [Array.toList_filterMap]
    show List.filterMap id (ks.map fun v=>some (Value.int (g v).1 (g v).2))=ks.map fun v=>Value.int (g v).1 (g v).2
    rw [List.filterMap_map]
    show List.filterMap (fun v=>some (Value.int (g v).1 (g v).2)) ks=_
    rw [List.filterMap_eq_map']
  rw [ef,oneTypeOnly'_eq,List.mapM_toArray,mapM_typeOf_ints iz,map_pure,pure_bind]
  cases hts:(List.map (fun x=>Value.type "int") (List.map (fun v=>Value.int (g v).fst (g v).snd) ks)).toArray[0]? with
  | none=>exact wpAny_bind (wpAny_pure (wpAny_pure (q _)))
  | some t=>exact wpAny_bind (wpAny_pure (wpAny_pure (q _)))
end
end L2
namespace L2
open PySem PySem.Spec PyProof.Rows
theorem sort_key_eq (a f:Addr):Builtin.«list.sort» ⟨[.ref a],[("key",.ref f)]⟩=(do
  let row ← Builtin.List.listItems (.ref a)
  Builtin.List.listUpdate (.ref a) fun _=>#[]
  let first ← seqEpoch a
  let kept ← newTuple row.toList
  let store ← newList []
  holding [kept,store] do
   rule "list.sort.key"
   for x in row do
    match ← (call (.ref f) [x]).attempt with
    | .ok k=>Builtin.List.listUpdate store (·.push k)
    | .error e =>
     rule "list.sort.key-raised"
     let made ← Builtin.List.listItems store
     Builtin.List.listUpdate store fun _=>#[]
     letGo made.toList.reverse [e]
     Builtin.List.listUpdate (.ref a) fun _=>row
     throw e
   let ks ← Builtin.List.listItems store
   let kd ← if row.size < 2 then pure general' else keyKind' ks
   let ((),st) ← (if row.size < 2 then pure () else sortRuns').run (SortSt.mk' kd (ks.zip row) #[] 7 none)
   Builtin.List.listUpdate store fun _=>#[]
   letGo ((arrOf st).map (·.1)).toList (failedOf st).toList
   let other:=(← seqEpoch a) != first
   Builtin.List.listUpdate (.ref a) fun _=>(arrOf st).map (·.2)
   if let some e:=failedOf st then rule "list.sort.comparison-raised"; throw e
   if other then rule "list.sort.modified"; raiseError "ValueError" "list modified during sort"
   ret .none):=rfl
end L2
namespace L2
open PySem PySem.Spec PyProof.Rows
section
variable {X:Cx} {k:Nat} {f:Addr} {fd:FuncData} {ps:List Str} {sp:Sp}
theorem run_in2 {pins:List (Addr×Obj)} {σ:St} {H:Hp} {s:Shared} {Q:VK} {us:List Value} {vs:List V} {E:XK} (F:FnOk X.prog X.w X.K X.mg X.base CX0 k f fd ps sp) (hr:Room (k + 2) X.A) (hb:Binds X.K fd ps [])
  (I:Inv X pins σ H s) (r:Vals vs us) (h:sp vs H Q E) {E':Value→Shared→Prop}:wpAny (model X.prog X.w) X.A.in1.in1 (call (.ref f) us) (EP X pins σ Q) E' s:=by
 have hl:us.length=ps.length:=by rw [← r.length]; exact F.len _ _ _ _ h
 have hb':=hb s us I.kIn (by rw [List.append_nil]; exact hl)
 rw [List.append_nil] at hb'
 refine wpAny_call (codeAny_mono (F.run X.A.in1.in1 X.stack s H ⟨us,[]⟩ us vs Q E hr.in1.in1 I.env0.in1.in1 hb' r h) fun z s' hq=>?_)
 cases z with
 | error e=>exact False.elim hq
 | ok fl =>
  cases fl with
  | ret u=>exact I.after hq
  | next=>exact False.elim hq
  | brk=>exact False.elim hq
  | cont=>exact False.elim hq
end
section
variable {prog:Program} {w:World} {A:Around} {E:Value→Shared→Prop} {s:Shared}
open Classical in
noncomputable def keyAt (h:Heap) (v:Value):List Int:=if c:∃ ns,TupI h v ns then c.choose else []
theorem ints_one {us:List Value} {ns ms:List Int} (a:IntsAre us ns) (b:IntsAre us ms):ns=ms:=by
 induction a generalizing ms with
 | nil=>cases b; rfl
 | cons n t r ih=>cases b with | cons _ _ r2=>rw [ih r2]
theorem TupI.one {h:Heap} {v:Value} {ns ms:List Int} (a:TupI h v ns) (b:TupI h v ms):ns=ms:=by
 obtain ⟨p,us,rfl,⟨o,ho,_,n,hd⟩,iu⟩:=a
 obtain ⟨p2,vs,e,⟨o2,ho2,_,n2,hd2⟩,iv⟩:=b
 cases e
 rw [ho] at ho2
 cases ho2
 rw [hd] at hd2
 have e2:us.toArray=vs.toArray:=by injection hd2
 have e3:us=vs:=by simpa using e2
 subst e3
 exact ints_one iu iv
theorem keyAt_eq {h:Heap} {v:Value} {ns:List Int} (a:TupI h v ns):keyAt h v=ns:=by
 have c:∃ ns,TupI h v ns:=⟨ns,a⟩
 unfold keyAt
 rw [dif_pos c]
 exact c.choose_spec.one a
theorem srt_tup (b:Bool) {a0:Array Keyed} (hk:∀ p∈a0.toList,∃ ns,TupI s.heap p.1 ns):Srt (O:=lxO) (model prog w) A E s (fun p=>keyAt s.heap p.1) ([]:List Int) a0.size (TB (tupKind b) a0) where
 lt:=fun {st i j Q} hb hi hj q=>by
  have z:(arrOf st).size=a0.size:=hb.perm.size_eq
  have gi:(arrOf st)[i]?=some (arrOf st)[i]:=getElem?_pos _ i (by lia)
  have gj:(arrOf st)[j]?=some (arrOf st)[j]:=getElem?_pos _ j (by lia)
  have inn:∀ p,p∈(arrOf st).toList→∃ ns,TupI s.heap p.1 ns:=fun p hp=>hk p ((Array.perm_iff_toList_perm.mp hb.perm).mem_iff.mp hp)
  obtain ⟨ni,ti⟩:=inn (arrOf st)[i] (by simp)
  obtain ⟨nj,tj⟩:=inn (arrOf st)[j] (by simp)
  have q2:Q (some (lx ni nj)) st:=by
   have e1:fk (O:=lxO) (fun p=>keyAt s.heap p.1) ([]:List Int) (arrOf st) i=ni:=by unfold fk; rw [gi]; exact keyAt_eq ti
   have e2:fk (O:=lxO) (fun p=>keyAt s.heap p.1) ([]:List Int) (arrOf st) j=nj:=by unfold fk; rw [gj]; exact keyAt_eq tj
   rw [e1,e2] at q
   exact q
  rw [ltAt'_eq]
  refine wpS_bind (wpS_get ?_)
  show wpS _ _ _ _ (elem' (arrOf st) i >>= fun x=>elem' (arrOf st) j >>= fun y=>lt' x y) Q st
  rw [elem'_eq,elem'_eq,gi,gj]
  refine wpS_bind (wpS_pure (wpS_bind (wpS_pure ?_)))
  rw [lt'_eq]
  refine wpS_bind (wpS_get ?_)
  rw [hb.kind]
  exact wpS_bind (wpS_lift (wpAny_attempt (lt_tup b ti tj ⟨rfl,wpS_pure q2⟩)))
 put:=fun {st xs} hb hp=>⟨hb.kind,hp.trans hb.perm,hb.pend,hb.fail⟩
 sz:=fun {st} hb=>hb.perm.size_eq
end
end L2
namespace L2
open PySem PySem.Spec PyProof.Rows
theorem perm_lift {α β:Type} {g:α→β}:∀ {l m:List β},l.Perm m→∀ T:List α,T.map g=m→∃ T':List α,T'.Perm T∧T'.map g=l:=by
 intro l m h
 induction h with
 | nil=>intro T e; exact ⟨T,.refl _,e⟩
 | cons x _ ih =>
  intro T e
  cases T with
  | nil=>cases e
  | cons a r =>
   injection e with e1 e2
   obtain ⟨T',p,e3⟩:=ih r e2
   exact ⟨a :: T',.cons a p,by rw [List.map_cons,e1,e3]⟩
 | swap x y l =>
  intro T e
  match T,e with
  | a :: b :: r,e =>
   injection e with e1 e2
   injection e2 with e3 e4
   exact ⟨b :: a :: r,.swap a b r,by rw [List.map_cons,List.map_cons,e1,e3,e4]⟩
 | trans _ _ i1 i2 =>
  intro T e
  obtain ⟨T1,p1,e1⟩:=i2 T e
  obtain ⟨T2,p2,e2⟩:=i1 T1 e1
  exact ⟨T2,p2.trans p1,e2⟩
theorem vals_refs:∀ {ts:List Addr} {us:List Value},Vals (ts.map V.ref) us→us=ts.map Value.ref
 | [],_,.nil=>rfl
 | t :: r,_,.cons h h2=>by
  have e:_=Value.ref t:=h
  rw [List.map_cons,← vals_refs h2,e]
theorem vals_of {T:List (Keyed×V)} (h:∀ p∈T,RelV p.2 p.1.2):Vals (T.map (·.2)) (T.map (·.1.2)):=by
 induction T with
 | nil=>exact .nil
 | cons p r ih=>exact .cons (h p (List.mem_cons_self ..)) (ih fun x hx=>h x (List.mem_cons_of_mem _ hx))
theorem zip3 {R:Addr→V→Prop}:∀ {ts:List Addr} {xs:List V} {us:List Value},Paired R ts xs→Vals xs us →
  ((((ts.map Value.ref).zip us).zip xs).map (·.1)=(ts.map Value.ref).zip us)∧((((ts.map Value.ref).zip us).zip xs).map (·.2)=xs)∧∀ p∈((ts.map Value.ref).zip us).zip xs,RelV p.2 p.1.2∧∃ t,p.1.1=.ref t∧R t p.2
 | [],[],[],.nil,.nil=>⟨rfl,rfl,fun p hp=>by cases hp⟩
 | t :: ts,x :: xs,u :: us,.cons a r,.cons b r2=>by
  obtain ⟨h1,h2,h3⟩:=zip3 r r2
  refine ⟨by rw [List.map_cons,List.zip_cons_cons,List.zip_cons_cons,List.map_cons,h1],by rw [List.map_cons,List.zip_cons_cons,List.zip_cons_cons,List.map_cons,h2],fun p hp=>?_⟩
  rw [List.map_cons,List.zip_cons_cons,List.zip_cons_cons] at hp
  rcases List.mem_cons.mp hp with rfl | hp
  ·exact ⟨b,t,rfl,a⟩
  ·exact h3 p hp
theorem pr_app {α β:Type} {R:α→β→Prop}:∀ {a:List α} {b:List β} {c:List α} {d:List β},Paired R a b→Paired R c d→Paired R (a++c) (b++d)
 | _,_,_,_,.nil,h=>h
 | _,_,_,_,.cons x r,h=>.cons x (pr_app r h)
theorem order_out {h:Heap} {T:List (Keyed×V)} {a:Array Keyed} {key:V→List Int} (hp:a.toList.Perm (T.map (·.1))) (hT:∀ p∈T,RelV p.2 p.1.2∧TupI h p.1.1 (key p.2))
  (up:Up (O:=lxO) (fk (O:=lxO) (fun p=>keyAt h p.1) ([]:List Int) a) a.size):∃ ys:List V,ys.Perm (T.map (·.2))∧Vals ys (a.toList.map (·.2))∧ys.Pairwise (fun x y=>lx (key y) (key x)=false):=by
 obtain ⟨T',pT,eT⟩:=perm_lift (g:=fun p:Keyed×V=>p.1) hp T rfl
 have mem:∀ p∈T',RelV p.2 p.1.2∧TupI h p.1.1 (key p.2):=fun p hp=>hT p (pT.mem_iff.mp hp)
 have lenT:T'.length=a.size:=by
  have:=congrArg List.length eT
  rw [List.length_map,Array.length_toList] at this
  exact this
 refine ⟨T'.map (·.2),pT.map _,?_,?_⟩
 ·have e:a.toList.map (·.2)=T'.map (·.1.2):=by rw [← eT,List.map_map]; rfl
  rw [e]
  exact vals_of fun p hp=>(mem p hp).1
 ·rw [List.pairwise_map,List.pairwise_iff_getElem]
  intro i j hi hj hij
  have kk:∀ (m:Nat) (hm:m < T'.length),fk (O:=lxO) (fun p=>keyAt h p.1) ([]:List Int) a m=key T'[m].2:=fun m hm=>by
   have g:a[m]?=some T'[m].1:=by
    rw [← Array.getElem?_toList,← eT,List.getElem?_map,List.getElem?_eq_getElem hm]
    rfl
   unfold fk
   rw [g]
   exact keyAt_eq (mem T'[m] (List.getElem_mem hm)).2
  have u:=up i j (Nat.le_of_lt hij) (by lia)
  rw [kk i hi,kk j hj] at u
  exact u
theorem pr_mem {α β:Type} {R:α→β→Prop}:∀ {a:List α} {b:List β} {x:α},Paired R a b→x∈a→∃ y∈b,R x y
 | _,_,_,.cons h r,hx=>by
  rcases List.mem_cons.mp hx with rfl | hx
  ·exact ⟨_,List.mem_cons_self ..,h⟩
  ·obtain ⟨y,hy,e⟩:=pr_mem r hx
   exact ⟨y,List.mem_cons_of_mem _ hy,e⟩
theorem args_sortedK (a f:Value):argsOk "sorted" ⟨[a],[("key",f)]⟩:=by unfold argsOk; kernel_rfl
theorem args_sortK (a f:Value):argsOk "list.sort" ⟨[a],[("key",f)]⟩:=by unfold argsOk; kernel_rfl
section
variable {X:Cx} {k:Nat} {f:Addr} {fd:FuncData} {ps:List Str} {sp:Sp}
theorem sort_call {pins:List (Addr×Obj)} {σ:St} {H:Hp} {s:Shared} {Q:VK} {l:Addr} {xs:List V} {E:XK} (key:V→List Int) (F:FnOk X.prog X.w X.K X.mg X.base CX0 k f fd ps sp) (hr:Room (k + 2) X.A) (hb:Binds X.K fd ps [])
  (I:Inv X pins σ H s) (hl:SqT X.K H l xs) (h64:xs.length < 64) (hne:∀ x∈xs,key x≠[])
  (hk:∀ (H':Hp) (x:V),Same H H'→x∈xs→∀ Q':VK,(∀ (t:Addr) (H'':Hp),Same H' H''→H'' t=some (.tup ((key x).map V.int))→Q' (.ref t) H'')→sp [x] H' Q' E)
  (q:∀ (p:Addr) (ys:List V) (H':Hp),Same H H'→H' p=some (.lst ys)→ys.Perm xs→ys.Pairwise (fun a b=>lx (key b) (key a)=false)→Q (.ref p) H') :
  wpAny (model X.prog X.w) X.A (call (.builtin "sorted") [.ref l] [("key",.ref f)]) (EP X pins σ Q) X.xe s:=by
 obtain ⟨us,ru,pu,hz⟩:=I.tuple hl
 have lu:xs.length=us.length:=ru.length
 have szl:=sizeLine_eq
 refine call_function_entry_kw kind_sorted plain_sorted entry_sorted (args_sortedK _ _) ?_
 unfold Builtin.«sorted»
 refine wpAny_bind (m:=checkCount "sorted" 1 1 _) (wpAny_pure ?_)
 refine wpAny_bind (collect_tup (show s.heap.IsTuple l us.toArray from pu) (by lia) fun g1 k1 z1=>?_)
 refine wpAny_bind (wpAny_newList ?_)
 have gL:(g1.push (seqObj "list" us.toArray 0)).get? g1.objs.size=some (seqObj "list" us.toArray 0):=Heap.get?_push_size _ rfl
 refine wpAny_bind (wpAny_holding (wpAny_call_entry_kw slot_list_sort ⟨_,gL,rfl⟩ entry_list_sort ?_ (args_sortK _ _)))
 rw [sort_key_eq]
 refine wpAny_bind (listItems_at gL rfl (wpAny_bind (listUpdate_at gL rfl ?_ (by rw [List.size_toArray]; lia) (Nat.zero_le _))))
 obtain ⟨e1,gE⟩:∃ e1,((g1.push (seqObj "list" us.toArray 0)).update g1.objs.size (Obj.mapSeq fun _=>#[])).get? g1.objs.size=some (seqObj "list" #[] e1):=⟨_,get?_update_seq gL (fun _=>#[])⟩
 refine wpAny_bind (seqEpoch_at gE rfl (wpAny_bind (wpAny_newTuple (wpAny_bind (wpAny_newList (wpAny_holding ?_))))))
 dsimp only
 have L1:s.heap.objs.size≤g1.objs.size:=by lia
 have kA:∀ b o,s.heap.get? b=some o→((((g1.push (seqObj "list" us.toArray 0)).update g1.objs.size (Obj.mapSeq fun _=>#[])).push (seqObj "tuple" us.toArray 0)).push (seqObj "list" #[] 0)).get? b=some o:=fun b o e=>by
  have ne:b≠g1.objs.size:=Nat.ne_of_lt (Nat.lt_of_lt_of_le (Heap.lt_size e) L1)
  exact Heap.get?_push_of_some _ (Heap.get?_push_of_some _ ((Heap.get?_update_other _ _ (Ne.symm ne)).trans (Heap.get?_push_of_some _ (k1 b o e))))
 have zA:(((g1.push (seqObj "list" us.toArray 0)).update g1.objs.size (Obj.mapSeq fun _=>#[])).push (seqObj "tuple" us.toArray 0)).objs.size=g1.objs.size + 2:=by rw [Heap.size_push,Heap.size_update,Heap.size_push]
 have gL5:((((g1.push (seqObj "list" us.toArray 0)).update g1.objs.size (Obj.mapSeq fun _=>#[])).push (seqObj "tuple" us.toArray 0)).push (seqObj "list" #[] 0)).get? g1.objs.size=some (seqObj "list" #[] e1):=Heap.get?_push_of_some _ (Heap.get?_push_of_some _ gE)
 have gS5:((((g1.push (seqObj "list" us.toArray 0)).update g1.objs.size (Obj.mapSeq fun _=>#[])).push (seqObj "tuple" us.toArray 0)).push (seqObj "list" #[] 0)).get? (g1.objs.size + 2)=some (seqObj "list" #[] 0):=by
  have:=Heap.get?_push_size (((g1.push (seqObj "list" us.toArray 0)).update g1.objs.size (Obj.mapSeq fun _=>#[])).push (seqObj "tuple" us.toArray 0)) (o:=seqObj "list" #[] 0) rfl
  rw [zA] at this
  exact this
 rw [zA]
 generalize (((g1.push (seqObj "list" us.toArray 0)).update g1.objs.size (Obj.mapSeq fun _=>#[])).push (seqObj "tuple" us.toArray 0)).push (seqObj "list" #[] 0)=g5 at kA gL5 gS5 ⊢
 generalize hLe:g1.objs.size=L at *
 have fL:=I.fpOk (b:=L) (H':=H) (by lia) (I.hok.fresh (by lia))
 have nS:H (L + 2)=none:=I.hok.fresh (by lia)
 have I2:Inv X pins σ (upd H (L + 2) (.lst [])) { s with heap:=g5 }:=I.laid (t':=s.toks) kA (by lia) ⟨Nat.zero_le _,[],0,.nil,gS5⟩
 have I3:Inv X (pins++[(L,seqObj "list" #[] e1)]) σ (upd H (L + 2) (.lst [])) { s with heap:=g5 }:=I2.pins_of fun p hp=>by
  rcases List.mem_append.mp hp with hp | hp
  ·exact I2.pin p (List.mem_append_right _ hp)
  ·rw [List.mem_singleton.mp hp]
   exact ⟨gL5,by rw [upd_ne (show L≠L + 2 from Nat.ne_of_lt (Nat.lt_add_of_pos_right (by decide)))]; exact fL.1,fL.2.1,fL.2.2.1,fun v e=>by cases e⟩
 refine wpAny_bind (wpAny_rule (wpAny_bind (wpAny_mono (forIn_array_ _ (fun rest _ s'=>∃ (dv rv:List V) (du:List Value) (ts:List Addr) (Hc:Hp),xs=dv++rv∧us=du++rest∧Vals rv rest∧Vals dv du∧Inv X (pins++[(L,seqObj "list" #[] e1)]) σ Hc s'∧Same H Hc∧Hc (L + 2)=some (.lst (ts.map V.ref))∧Paired (fun t x=>Hc t=some (.tup ((key x).map V.int))) ts dv)
  (fun _ s'=>∃ (ts:List Addr) (Hc:Hp),Inv X (pins++[(L,seqObj "list" #[] e1)]) σ Hc s'∧Same H Hc∧Hc (L + 2)=some (.lst (ts.map V.ref))∧Paired (fun t x=>Hc t=some (.tup ((key x).map V.int))) ts xs) ?turn ?fin us.toArray PUnit.unit ⟨[],xs,[],[],_,rfl,rfl,ru,.nil,I3,(fun b o e=>by rw [upd_ne (ne_of_none e nS)]; exact e),upd_same,.nil⟩) ?post fun _ _ e=>e)))
 case fin =>
  rintro _ s' ⟨dv,rv,du,ts,Hc,e1,e2,v1,v2,Ic,sc,hS,pr⟩
  cases v1
  rw [List.append_nil] at e1
  subst e1
  exact ⟨ts,Hc,Ic,sc,hS,pr⟩
 case turn =>
  rintro x rest _ s' ⟨dv,rv,du,ts,Hc,e1,e2,v1,v2,Ic,sc,hS,pr⟩
  cases v1 with
  | @cons xv _ rv' _ rx v1 =>
  have hm:xv∈xs:=by rw [e1]; exact List.mem_append_right _ (List.mem_cons_self ..)
  have lts:=pr.length
  have ldv:dv.length≤xs.length:=by rw [e1,List.length_append]; lia
  refine wpAny_bind (wpAny_attempt (wpAny_mono (run_in2 F hr hb Ic (.cons rx .nil) (hk Hc xv sc hm (fun v H''=>∃ t,v=.ref t∧Same Hc H''∧H'' t=some (.tup ((key xv).map V.int))) fun t H'' s2 ht=>⟨t,rfl,s2,ht⟩)) (fun u s2x h=>?_) fun _ _ e=>e))
  obtain ⟨v,H2,Id,rv2,t,rfl,s2,ht⟩:=h
  obtain rfl:u=Value.ref t:=rv2
  obtain ⟨zz,its,n,r,hl2,e⟩:=Id.lstM (s2 _ _ hS)
  have li:its.length=ts.length:=by rw [← hl2,List.length_map]
  dsimp only
  refine wpAny_bind (listUpdate_at e rfl ?_ (by rw [List.size_toArray]; lia) (by show (its.toArray.push _).size≤_; rw [Array.size_push,List.size_toArray]; lia))
  refine wpAny_pure ?_
  have I4:=Id.lset (t':=s2x.toks) (its':=its++[Value.ref t]) (f:=fun x=>x.push (Value.ref t)) (ys:=(ts++[t]).map V.ref) (s2 _ _ hS) e (by simp) (by rw [List.map_append]; exact r.append (.cons rfl .nil)) (by rw [List.length_map,List.length_append]; show _ + 1≤_; lia)
  have tkp:∀ (a:Addr) (zs:List V),H2 a=some (.tup zs)→(upd H2 (L + 2) (.lst ((ts++[t]).map V.ref))) a=some (.tup zs):=fun a zs h=>by
   rw [upd_ne (fun e=>by rw [e,s2 _ _ hS] at h; cases h)]; exact h
  exact ⟨dv++[xv],rv',du++[x],ts++[t],_,by rw [e1]; simp,by rw [e2]; simp,v1,v2.append (.cons rx .nil),I4,(fun b o eb=>by rw [upd_ne (ne_of_none eb nS)]; exact s2 _ _ (sc b o eb)),upd_same,pr_app (L2.Paired.mapP pr fun a y h=>tkp a _ (s2 _ _ h)) (.cons (tkp t _ ht) .nil)⟩
 case post =>
  rintro _ s6 ⟨ts,Hc,Ic,sc,hS,pr⟩
  have ltx:=pr.length
  obtain ⟨zz,its,n6,r6,hl6,g6⟩:=Ic.lstM hS
  have ei:=vals_refs r6
  subst ei
  obtain ⟨z1,z2,z3⟩:=zip3 pr ru
  have hT:∀ p∈((ts.map Value.ref).zip us).zip xs,RelV p.2 p.1.2∧TupI s6.heap p.1.1 (key p.2):=fun p hp=>by
   obtain ⟨a1,t,e,ht⟩:=z3 p hp
   obtain ⟨us',r',p',_⟩:=Ic.tuple (SqT.of ht)
   exact ⟨a1,t,us',e,p',intsAre_of r'⟩
  have pinL:s6.heap.get? L=some (seqObj "list" #[] e1)∧Hc L=none:=by
   have:=Ic.pin (L,seqObj "list" #[] e1) (List.mem_append_right _ (List.mem_append_right _ (List.mem_singleton.mpr rfl)))
   exact ⟨this.1,this.2.1⟩
  have sz0:((ts.map Value.ref).toArray.zip us.toArray).size=xs.length:=by
   rw [Array.size_zip,List.size_toArray,List.size_toArray,List.length_map]; lia
  have tl0:((ts.map Value.ref).toArray.zip us.toArray).toList=(((ts.map Value.ref).zip us).zip xs).map (·.1):=by rw [z1]; simp
  refine wpAny_bind (listItems_at g6 rfl ?_)
  by_cases h2:us.toArray.size < 2
  ·rw [if_pos h2]
   refine wpAny_bind (wpAny_pure ?_)
   rw [if_pos h2,StateT.run_pure]
   refine wpAny_bind (wpAny_pure ?_)
   have hp:(arrOf (SortSt.mk' general' ((ts.map Value.ref).toArray.zip us.toArray) #[] 7 none)).Perm ((ts.map Value.ref).toArray.zip us.toArray):=Array.Perm.refl _
   have hf:failedOf (SortSt.mk' general' ((ts.map Value.ref).toArray.zip us.toArray) #[] 7 none)=none:=rfl
   have up:Up (O:=lxO) (fk (O:=lxO) (fun p=>keyAt s6.heap p.1) ([]:List Int) (arrOf (SortSt.mk' general' ((ts.map Value.ref).toArray.zip us.toArray) #[] 7 none))) ((ts.map Value.ref).toArray.zip us.toArray).size:=fun i j a b=>by
    rw [List.size_toArray] at h2
    have e:i=j:=by lia
    rw [e]; exact KeyOrd.kle_refl _
   generalize SortSt.mk' general' ((ts.map Value.ref).toArray.zip us.toArray) #[] 7 none=st at hp hf up ⊢
   dsimp only
   obtain ⟨ys,py,vy,wy⟩:=order_out (h:=s6.heap) (T:=((ts.map Value.ref).zip us).zip xs) (a:=arrOf st) (key:=key) (by rw [← tl0]; exact Array.perm_iff_toList_perm.mp hp) hT (by rw [hp.size_eq]; exact up)
   have szs:(arrOf st).size=xs.length:=hp.size_eq.trans sz0
   refine wpAny_bind (listUpdate_at g6 rfl ?_ (by rw [List.size_toArray,List.length_map]; lia) (Nat.zero_le _))
   have I7:=Ic.lset (t':=s6.toks) (its':=[]) (f:=fun _=>#[]) (ys:=[]) hS g6 rfl .nil (Nat.zero_le _)
   have gL7:=(I7.pin (L,seqObj "list" #[] e1) (List.mem_append_right _ (List.mem_append_right _ (List.mem_singleton.mpr rfl))))
   refine wpAny_bind (wpAny_letGo (wpAny_bind (seqEpoch_at gL7.1 rfl (wpAny_bind (listUpdate_at gL7.1 rfl ?_ (Nat.zero_le _) (by rw [Array.size_map]; lia))))))
   rw [hf]
   dsimp only
   rw [if_neg (by simp)]
   refine wpAny_pure ⟨_,rfl,wpAny_pure ⟨_,rfl,?_⟩⟩
   have I8:=I7.pins_of (pins':=pins) fun p hp=>I7.pin p (List.mem_append_right _ (List.mem_append_left _ hp))
   have nL:=gL7.2.1
   have oth:∀ b o,b ∉ [L]→(s6.heap.update (L + 2) (Obj.mapSeq fun _=>#[])).get? b=some o→((s6.heap.update (L + 2) (Obj.mapSeq fun _=>#[])).update L (Obj.mapSeq fun _=>(arrOf st).map (·.2))).get? b=some o:=fun b o nb e=>by
    have ne:b≠L:=fun z=>nb (by rw [z]; exact List.mem_singleton.mpr rfl)
    exact (Heap.get?_update_other _ _ (Ne.symm ne)).trans e
   refine ⟨.ref L,upd (upd Hc (L + 2) (.lst [])) L (.lst ys),?_,rfl,q L ys _ (fun b o e=>?_) upd_same (by rw [z2] at py; exact py) wy⟩
   ·refine Inv.step (s:={ s6 with heap:=s6.heap.update (L + 2) (Obj.mapSeq fun _=>#[]) }) (g':=s6.gens) (d':=s6.drawn) (t':=s6.toks) (ch:=[L]) I8 (fun b hb=>?_) (fun b o _ _ hc e _=>oth b o hc e) (fun b o _ _ hc e _=>⟨o.slots,oth b o hc e⟩) (fun b o hc e n=>?_) (fun b o hc e=>⟨o,oth b o hc e⟩) (fun b zs e=>?_) (fun b o u e=>?_) (fun b ps e=>⟨#[],?_⟩) (fun m hm=>?_) (fun b o e=>?_) I8.bare
    ·rw [List.mem_singleton.mp hb]
     exact ⟨fL.2.2.2.1,fL.2.1,fL.2.2.2.2.1,fL.2.2.2.2.2⟩
    ·rw [upd_ne (fun z=>hc (by rw [z]; exact List.mem_singleton.mpr rfl))]; exact n
    ·rw [upd_ne (ne_of_none e nL)]; exact e
    ·rw [upd_ne (ne_of_none e nL)]; exact e
    ·rw [upd_ne (ne_of_none e nL),e]; simp
    ·obtain ⟨o,es,ep,ho,r⟩:=hm
     exact ⟨o,es,ep,oth _ o (fun z=>fL.2.1 (List.mem_singleton.mp z).symm) ho,r⟩
    ·by_cases hb:b=L
     ·subst hb
      rw [upd_same] at e
      cases e
      have lys:ys.length=(arrOf st).size:=by have:=py.length_eq; rw [z2] at this; lia
      exact ⟨by lia,_,_,vy,by
       have:=get?_update_seq gL7.1 (fun _=>(arrOf st).map (·.2))
       rw [this]
       congr 3
       apply Array.toList_inj.mp
       simp⟩
     ·rw [upd_ne hb] at e
      refine (I8.hok b o e).stay (fun c v' hcc r=>?_) (fun c r=>by rw [upd_ne (ne_of_none r nL)]; exact r) fun c xs r=>by rw [upd_ne (ne_of_none r nL)]; exact r
      rcases hcc with rfl | hcc
      ·exact oth c v' (fun z=>hb (List.mem_singleton.mp z)) r
      ·exact oth c v' (fun z=>ne_of_none hcc nL (List.mem_singleton.mp z)) r
   ·rw [upd_ne (ne_of_none e fL.1),upd_ne (ne_of_none e nS)]; exact sc b o e
  ·rw [if_neg h2]
   refine wpAny_bind (kind_tup (f:=fun v=>keyAt s6.heap v) (fun v hv=>?_) fun b=>?_)
   ·obtain ⟨t,ht,rfl⟩:=List.mem_map.mp hv
    obtain ⟨x,hx,e⟩:=pr_mem pr ht
    obtain ⟨us',r',p',_⟩:=Ic.tuple (SqT.of e)
    have ti:TupI s6.heap (.ref t) (key x):=⟨t,us',rfl,p',intsAre_of r'⟩
    rw [keyAt_eq ti]
    exact ⟨ti,hne x hx⟩
   rw [if_neg h2]
   rw [List.size_toArray] at h2
   have hk0:∀ p∈((ts.map Value.ref).toArray.zip us.toArray).toList,∃ ns,TupI s6.heap p.1 ns:=fun p hp=>by
    rw [tl0] at hp
    obtain ⟨p2,h2,rfl⟩:=List.mem_map.mp hp
    exact ⟨_,(hT p2 h2).2⟩
   refine wpAny_bind (wpAny_mono (srt_runs (srt_tup b hk0) (by rw [sz0]; lia) (by rw [sz0]; exact h64) (st:=SortSt.mk' (tupKind b) ((ts.map Value.ref).toArray.zip us.toArray) #[] 7 none) ⟨rfl,Array.Perm.refl _,rfl,rfl⟩ (Q:=fun _ st=>(arrOf st).Perm ((ts.map Value.ref).toArray.zip us.toArray)∧failedOf st=none∧Up (O:=lxO) (fk (O:=lxO) (fun p=>keyAt s6.heap p.1) ([]:List Int) (arrOf st)) ((ts.map Value.ref).toArray.zip us.toArray).size) fun st' a b c=>⟨a,b,c⟩) ?_ fun _ _ e=>e)
   rintro ⟨⟨⟩,st⟩ s' ⟨es,hp,hf,up⟩
   have es2:=es.symm
   subst es2
   dsimp only
   obtain ⟨ys,py,vy,wy⟩:=order_out (h:=s6.heap) (T:=((ts.map Value.ref).zip us).zip xs) (a:=arrOf st) (key:=key) (by rw [← tl0]; exact Array.perm_iff_toList_perm.mp hp) hT (by rw [hp.size_eq]; exact up)
   have szs:(arrOf st).size=xs.length:=hp.size_eq.trans sz0
   refine wpAny_bind (listUpdate_at g6 rfl ?_ (by rw [List.size_toArray,List.length_map]; lia) (Nat.zero_le _))
   have I7:=Ic.lset (t':=s6.toks) (its':=[]) (f:=fun _=>#[]) (ys:=[]) hS g6 rfl .nil (Nat.zero_le _)
   have gL7:=(I7.pin (L,seqObj "list" #[] e1) (List.mem_append_right _ (List.mem_append_right _ (List.mem_singleton.mpr rfl))))
   refine wpAny_bind (wpAny_letGo (wpAny_bind (seqEpoch_at gL7.1 rfl (wpAny_bind (listUpdate_at gL7.1 rfl ?_ (Nat.zero_le _) (by rw [Array.size_map]; lia))))))
   rw [hf]
   dsimp only
   rw [if_neg (by simp)]
   refine wpAny_pure ⟨_,rfl,wpAny_pure ⟨_,rfl,?_⟩⟩
   have I8:=I7.pins_of (pins':=pins) fun p hp=>I7.pin p (List.mem_append_right _ (List.mem_append_left _ hp))
   have nL:=gL7.2.1
   have oth:∀ b o,b ∉ [L]→(s6.heap.update (L + 2) (Obj.mapSeq fun _=>#[])).get? b=some o→((s6.heap.update (L + 2) (Obj.mapSeq fun _=>#[])).update L (Obj.mapSeq fun _=>(arrOf st).map (·.2))).get? b=some o:=fun b o nb e=>by
    have ne:b≠L:=fun z=>nb (by rw [z]; exact List.mem_singleton.mpr rfl)
    exact (Heap.get?_update_other _ _ (Ne.symm ne)).trans e
   refine ⟨.ref L,upd (upd Hc (L + 2) (.lst [])) L (.lst ys),?_,rfl,q L ys _ (fun b o e=>?_) upd_same (by rw [z2] at py; exact py) wy⟩
   ·refine Inv.step (s:={ s6 with heap:=s6.heap.update (L + 2) (Obj.mapSeq fun _=>#[]) }) (g':=s6.gens) (d':=s6.drawn) (t':=s6.toks) (ch:=[L]) I8 (fun b hb=>?_) (fun b o _ _ hc e _=>oth b o hc e) (fun b o _ _ hc e _=>⟨o.slots,oth b o hc e⟩) (fun b o hc e n=>?_) (fun b o hc e=>⟨o,oth b o hc e⟩) (fun b zs e=>?_) (fun b o u e=>?_) (fun b ps e=>⟨#[],?_⟩) (fun m hm=>?_) (fun b o e=>?_) I8.bare
    ·rw [List.mem_singleton.mp hb]
     exact ⟨fL.2.2.2.1,fL.2.1,fL.2.2.2.2.1,fL.2.2.2.2.2⟩
    ·rw [upd_ne (fun z=>hc (by rw [z]; exact List.mem_singleton.mpr rfl))]; exact n
    ·rw [upd_ne (ne_of_none e nL)]; exact e
    ·rw [upd_ne (ne_of_none e nL)]; exact e
    ·rw [upd_ne (ne_of_none e nL),e]; simp
    ·obtain ⟨o,es,ep,ho,r⟩:=hm
     exact ⟨o,es,ep,oth _ o (fun z=>fL.2.1 (List.mem_singleton.mp z).symm) ho,r⟩
    ·by_cases hb:b=L
     ·subst hb
      rw [upd_same] at e
      cases e
      have lys:ys.length=(arrOf st).size:=by have:=py.length_eq; rw [z2] at this; lia
      exact ⟨by lia,_,_,vy,by
       have:=get?_update_seq gL7.1 (fun _=>(arrOf st).map (·.2))
       rw [this]
       congr 3
       apply Array.toList_inj.mp
       simp⟩
     ·rw [upd_ne hb] at e
      refine (I8.hok b o e).stay (fun c v' hcc r=>?_) (fun c r=>by rw [upd_ne (ne_of_none r nL)]; exact r) fun c xs r=>by rw [upd_ne (ne_of_none r nL)]; exact r
      rcases hcc with rfl | hcc
      ·exact oth c v' (fun z=>hb (List.mem_singleton.mp z)) r
      ·exact oth c v' (fun z=>ne_of_none hcc nL (List.mem_singleton.mp z)) r
   ·rw [upd_ne (ne_of_none e fL.1),upd_ne (ne_of_none e nS)]; exact sc b o e
end
end L2
namespace L2
open PySem PySem.Spec PyProof.Rows
theorem bt_sorted:bootBuiltins "sorted"=some (.builtin "sorted"):=by decide +kernel
section
variable {X:Cx} {k:Nat} {f:Addr} {fd:FuncData} {ps:List Str} {sp:Sp}
noncomputable def tSortK (K:PySem.W.Frag) (sp:Sp) (E:XK) (ta:TE):TE:=fun σ H Q=>ta σ H fun x H1=>∃ (l:Addr) (xs:List V) (key:V→List Int),x=.ref l∧SqT K H1 l xs∧xs.length < 64∧(∀ x∈xs,key x≠[]) ∧
 (∀ (H':Hp) (x:V),Same H1 H'→x∈xs→∀ Q':VK,(∀ (t:Addr) (H'':Hp),Same H' H''→H'' t=some (.tup ((key x).map V.int))→Q' (.ref t) H'')→sp [x] H' Q' E) ∧
 ∀ (p:Addr) (ys:List V) (H':Hp),Same H1 H'→H' p=some (.lst ys)→ys.Perm xs→ys.Pairwise (fun a b=>lx (key b) (key a)=false)→Q (.ref p) H'
theorem pe_sortK {a:Expr} {ta:TE} {g:Str} {p p2 kp pos:Pos} {E:XK} (F:FnOk X.prog X.w X.K X.mg X.base CX0 k f fd ps sp) (hb:Binds X.K fd ps []) (hm:X.mg g=some (.ref f)) (hr:Room (k + 2) X.A) (hms:X.mg "sorted"=none) (ha:PE X a ta)
  (hgs:Gl X "sorted":=by rfl) (hg:Gl X g:=by rfl) (hdb:(g == ("__debug__":Str))=false:=by decide) (hs:starEach [a] X.env=[(false,eval a X.env)]:=by rfl) :
  PE X (.Call (.Name "sorted" p) [a] [⟨some "key",.Name g p2,kp⟩] pos) (tSortK X.K sp E ta):=by
 intro pins s σ H Q I h
 refine wpAny_Call_Name_kw (ld_blt I hgs hms bt_sorted ?_)
 refine callWith_kw (thn ((pa_cons ha pa_nil hs) pos pins s σ H (fun vs H1=>match vs with
  | [x]=>∃ (l:Addr) (xs:List V) (key:V→List Int),x=.ref l∧SqT X.K H1 l xs∧xs.length < 64∧(∀ x∈xs,key x≠[]) ∧
   (∀ (H':Hp) (x:V),Same H1 H'→x∈xs→∀ Q':VK,(∀ (t:Addr) (H'':Hp),Same H' H''→H'' t=some (.tup ((key x).map V.int))→Q' (.ref t) H'')→sp [x] H' Q' E) ∧
   ∀ (p:Addr) (ys:List V) (H':Hp),Same H1 H'→H' p=some (.lst ys)→ys.Perm xs→ys.Pairwise (fun a b=>lx (key b) (key a)=false)→Q (.ref p) H'
  | _=>False) I h) fun us s1 ⟨vs,H1,I1,r1,q0⟩=>?_) (by rw [hs]; rfl) (by rw [hs]; rfl)
 obtain ⟨x,rfl,l,xs,key,rfl,h1,h2,h3,h4,q⟩:∃ x,vs=[x]∧∃ (l:Addr) (xs:List V) (key:V→List Int),x=.ref l∧SqT X.K H1 l xs∧xs.length < 64∧(∀ x∈xs,key x≠[]) ∧
   (∀ (H':Hp) (x:V),Same H1 H'→x∈xs→∀ Q':VK,(∀ (t:Addr) (H'':Hp),Same H' H''→H'' t=some (.tup ((key x).map V.int))→Q' (.ref t) H'')→sp [x] H' Q' E) ∧
   ∀ (p:Addr) (ys:List V) (H':Hp),Same H1 H'→H' p=some (.lst ys)→ys.Perm xs→ys.Pairwise (fun a b=>lx (key b) (key a)=false)→Q (.ref p) H':=by
  match vs,q0 with
  | [x],q0=>exact ⟨x,rfl,q0⟩
 obtain ⟨u,rfl,ru⟩:=vals1 r1
 cases ru
 refine kws_cons (ld_glob I1 hg hm (kws_nil ?_) hdb)
 exact sort_call key F hr hb I1 h1 h2 h3 h4 q
theorem pe_sortD {a:Expr} {ta:TE} {g:Str} {p p2 kp pos:Pos} {E:XK} (G:Def X.prog X.w X.K X.mg X.base CX0 k g sp) (hr:Room (k + 2) X.A) (hms:X.mg "sorted"=none) (ha:PE X a ta)
  (hgs:Gl X "sorted":=by rfl) (hg:Gl X g:=by rfl) (hdb:(g == ("__debug__":Str))=false:=by decide) (hs:starEach [a] X.env=[(false,eval a X.env)]:=by rfl) :
  PE X (.Call (.Name "sorted" p) [a] [⟨some "key",.Name g p2,kp⟩] pos) (tSortK X.K sp E ta):=by
 obtain ⟨f,fd,ps,F,b,c,_⟩:=G.ex
 exact pe_sortK F b c hr hms ha hgs hg hdb hs
end
end L2
namespace HT
open PySem PySem.Spec PyProof.Rows
theorem adj_rev (n:Nat):Builtin.Slice.sliceAdjust none none (-1) (n:Int)=((n:Int) - 1,-1):=by
 unfold Builtin.Slice.sliceAdjust
 rfl
theorem places_rev (n:Nat):Builtin.Slice.slicePlaces ((n:Int) - 1) (-1) (-1)=n:=by
 unfold Builtin.Slice.slicePlaces
 simp
 lia
theorem fm_congr {α β:Type} {f g:α→Option β}:∀ {l:List α},(∀ x∈l,f x=g x)→l.filterMap f=l.filterMap g
 | [],_=>rfl
 | a :: r,h=>by
  rw [List.filterMap_cons,List.filterMap_cons,h a (List.mem_cons_self ..),fm_congr fun x hx=>h x (List.mem_cons_of_mem _ hx)]
theorem pick_rev (xs:List Value):((List.range xs.length).filterMap fun (m:Nat)=>xs.toArray[(((xs.length:Int) - 1) + (m:Int) * (-1)).toNat]?).toArray=xs.reverse.toArray:=by
 have e:=pick_gen xs.reverse.toArray 0 xs.length
 have e2:(xs.reverse.toArray.toList.drop 0).take xs.length=xs.reverse:=by
  show (xs.reverse.drop 0).take xs.length=xs.reverse
  rw [List.drop_zero,← List.length_reverse,List.take_length]
 rw [e2] at e
 rw [← e]
 refine congrArg List.toArray (fm_congr fun m hm=>?_)
 have hm':m < xs.length:=List.mem_range.mp hm
 rw [show (((xs.length:Int) - 1) + (m:Int) * (-1)).toNat=xs.length - 1 - m by lia,show ((((0:Nat):Int)) + (m:Int) * 1).toNat=m by lia]
 rw [List.getElem?_toArray,List.getElem?_toArray,List.getElem?_reverse hm']
section
variable {prog:Program} {w:World} {A:Around} {E:Value→Shared→Prop} {s:Shared}
theorem sliceApplied_rev {sl:Addr} {vs:Value} {n:Nat} {Q:Int×Int×Nat→Shared→Prop} (hs:s.heap.IsSliceOf sl .none .none vs) (pv:IsPart vs (some (-1))) (h:Q ((n:Int) - 1,-1,n) s):wpAny (model prog w) A (Builtin.Slice.sliceApplied (.ref sl) (pure (n:Int))) Q E s:=by
 obtain ⟨os,hos,hcs,hds⟩:=id hs
 unfold Builtin.Slice.sliceApplied Builtin.Slice.sliceFields
 refine wpAny_bind (wpAny_bind (wpAny_field hos hds (x:=.none) rfl (wpAny_bind (wpAny_field hos hds (x:=.none) rfl (wpAny_bind (wpAny_field hos hds (x:=vs) rfl (wpAny_pure ?_)))))))
 refine wpAny_bind (slicePart_ pv ?_)
 show wpAny _ _ (if ((-1:Int) == 0)=true then _ else _) _ _ s
 rw [if_neg (by decide)]
 refine wpAny_bind (slicePart_none (wpAny_bind (slicePart_none (wpAny_bind (wpAny_pure ?_)))))
 show wpAny _ _ (match Builtin.Slice.sliceAdjust none none (-1) (n:Int) with | (lo,hi)=>pure (lo,(-1:Int),Builtin.Slice.slicePlaces lo hi (-1))) _ _ s
 rw [adj_rev n]
 show wpAny _ _ (pure ((n:Int) - 1,(-1:Int),Builtin.Slice.slicePlaces ((n:Int) - 1) (-1) (-1))) _ _ s
 rw [places_rev]
 exact wpAny_pure h
theorem getItem_tuple_rev {t sl:Addr} {us:List Value} {vs:Value} {Q:Value→Shared→Prop} (ht:IsTup s.heap t us.toArray) (hs:s.heap.IsSliceOf sl .none .none vs) (pv:IsPart vs (some (-1)))
    (h:Q (.ref s.heap.objs.size) { s with heap:=s.heap.push { cls:=.type "tuple",data:=.seq us.reverse.toArray } }) (hsz:us.length≤sizeLine):wpAny (model prog w) A (getItem (.ref t) (.ref sl)) Q E s:=by
  obtain ⟨os,hos,hcs,hds⟩:=id hs
  have hTs:s.TypeIs (.ref sl) "slice":=⟨os,hos,hcs⟩
  unfold getItem
  try with_reducible refine wpAny_holding ?_
  first | refine wpAny_bind (wpAny_pure ?_) | skip
  refine wpAny_bind (wpAny_sequenceKey ht.typeIs (by decide) ?_)
  refine wpAny_bind (wpAny_callSpecial?_slot (name:=Str.ofString "__getitem__") ht.typeIs PyProof.Rows.slot_tuple_getitem
    (wpAny_call_entry PyProof.Rows.slot_tuple_getitem ht.typeIs entry_tuple_getitem ?_ (args_tuple_getitem _ _)))
  show wpAny _ _ (Builtin.Tuple.tupleItemsOf (.ref t) >>= _) _ _ s
  refine wpAny_bind (tupleItemsOf_ ht ?_)
  refine wpAny_bind (wpAny_typeOf hTs ?_)
  rw [if_pos (by decide)]
  rw [show us.toArray.size=us.length from List.size_toArray ..]
  refine wpAny_bind (sliceApplied_rev hs pv ?_)
  show wpAny _ _ (if (((us.length:Int) - 1) == 0 && (-1:Int) == 1 && us.length == us.length)=true then _ else _) _ _ s
  rw [if_neg (by simp),pick_rev]
  have hk:sizeOk (.seq us.reverse.toArray):=by show us.reverse.toArray.size≤sizeLine; rw [List.size_toArray,List.length_reverse]; exact hsz
  first
    | exact wpAny_bind (m:=Builtin.Tuple.tupleExact _) (wpAny_newObj_type (wpAny_pure ⟨_,rfl,wpAny_pure h⟩) hk)
    | exact wpAny_bind (m:=Builtin.Tuple.tupleExact _) (wpAny_newObj_type (wpAny_bind (wpAny_pure (wpAny_pure ⟨_,rfl,wpAny_pure h⟩))) hk)
    | exact wpAny_bind (wpAny_bind (m:=Builtin.Tuple.tupleExact _) (wpAny_newObj_type (wpAny_pure (wpAny_pure ⟨_,rfl,wpAny_pure h⟩)) hk))
    | exact wpAny_bind (wpAny_bind (m:=Builtin.Tuple.tupleExact _) (wpAny_newObj_type (wpAny_pure ⟨_,rfl,wpAny_pure h⟩) hk))
end
end HT
namespace L2
open PySem PySem.Spec PyProof.Rows
variable {X:Cx}
theorem pe_revT {e:Expr} {te:TE} {j} {p2 p3 p4 pos:Pos} (he:PE X e te):PE X (.Subscript e (.Slice none none (some (.UnaryOp .USub (.Constant (.int 1) j p3) p4)) p2) pos) (fun σ H Q=>te σ H fun x H1=>∃ a xs,x=.ref a∧SqT X.K H1 a xs∧∀ p,H1 p=none→Q (.ref p) (upd H1 p (.tup xs.reverse))):=by
 intro pins s σ H Q I h
 refine Subscript_ (thn (he pins s σ H _ I h) fun v s1 ⟨x,H1,I1,r1,q1⟩=>?_)
 obtain ⟨a,xs,rfl,hx,q⟩:=q1
 obtain rfl:v=Value.ref a:=r1
 refine wpAny_Slice ?_
 rw [evalPart_none]
 refine wpAny_pure (wpAny_pure ?_)
 refine thn (po_some (X:=X) (pe_un un_neg pe_int) pins s1 σ H1 (fun o H'=>o=some (-1)∧H'=H1) I1 ⟨1,rfl,-1,rfl,rfl,rfl⟩) fun vs s2 ⟨o,H2,I2,ip,eo,eH⟩=>?_
 subst eo eH
 obtain ⟨its,r,ht,hz⟩:=I2.tuple hx
 have hlen:=r.length
 have I4:Inv X pins σ H2 { s2 with heap:=s2.heap.push { cls:=.type "slice",data:=.fields #[.none,.none,vs] } }:=I2.kept (t':=s2.toks) fun b ob q=>Heap.get?_push_of_some _ q
 obtain ⟨its4,r4,ht4,hz4⟩:=I4.tuple hx
 refine tail_any (ops:=[.ref a,.ref s2.heap.objs.size]) ht4.typeIs PyProof.Rows.slot_tuple_getitem.lookup ?_ (by with_unfolding_all rfl)
 refine HT.getItem_tuple_rev ht4 (Heap.IsSliceOf.new ..) ip ?_ (by rw [← r4.length]; exact hz4)
 refine ⟨.ref _,_,I4.laid (t':=s2.toks) (o:=.tup xs.reverse) (fun b ob q=>Heap.get?_push_of_some _ q) (Nat.le_refl _) ?_,rfl,q _ (I4.hok.fresh (Nat.le_refl _))⟩
 exact ⟨by rw [List.length_reverse]; exact hz,its4.reverse,r4.reverse,IsTup.new _ _⟩
theorem mt_extendT:MtM X "list.extend" (fun x vs H Q=>∃ l b xs zs,x=.ref l∧vs=[.ref b]∧H l=some (.lst xs)∧H b=some (.tup zs)∧xs.length + zs.length≤1000000∧Q .non (upd H l (.lst (xs++zs)))):=by
 intro pins s σ H x vs v us Q I rx rv h
 obtain ⟨l,b,xs,zs,rfl,rfl,hH,hB,hz,q⟩:=h
 cases rx
 obtain ⟨u,rfl,ru⟩:=rv.one
 cases ru
 have szl:=sizeLine_eq
 obtain ⟨z,its,n,r,hl,e⟩:=I.lstM hH
 obtain ⟨its2,r2,⟨o2,e2,c2,n2,d2⟩,z2⟩:=I.tuple (SqT.of hB)
 have l1:=r.length
 have l2:=r2.length
 refine wpAny_call_entry F.slot_list_extend ⟨_,e,rfl⟩ F.entry_list_extend ?_ (F.args_list_extend_2 _ _)
 show wpAny _ _ (Builtin.List.listExtendWith (.ref l) (.ref b) .none) _ _ s
 unfold Builtin.List.listExtendWith
 refine wpAny_bind (wpAny_typeOf (T:="tuple") ⟨o2,e2,c2⟩ ?_)
 rw [if_pos (by rw [show (Value.type "tuple" == Value.type "tuple")=true from rfl]; simp)]
 refine wpAny_bind (listItems_at e2 d2 (wpAny_bind (listItems_at e rfl ?_)))
 have nl:¬ (!its.toArray.isEmpty && Builtin.List.listTooLong (its.toArray.size + its2.toArray.size))=true:=by
  rw [notLongL (by rw [List.size_toArray,List.size_toArray]; lia),Bool.and_false]
  exact Bool.false_ne_true
 rw [if_neg nl]
 refine wpAny_bind (listUpdate_at e rfl ?_ (by rw [List.size_toArray]; lia) (by rw [Array.size_append,List.size_toArray,List.size_toArray]; lia))
 refine wpAny_pure ⟨_,rfl,.non,_,I.lset (t':=s.toks) (its':=its++its2) hH e (by simp) (r.append r2) (by rw [List.length_append]; lia),rfl,q⟩
theorem op_catG:OpR X (binaryOp .Add) (fun x y H Q=>∃ a b xs ys,x=.ref a∧y=.ref b∧H a=some (.tup xs)∧H b=some (.tup ys)∧xs.length + ys.length≤1000000∧∀ p H',Same H H'→H' p=some (.tup (xs++ys))→Q (.ref p) H'):=by
 intro pins s σ H x y v u Q I rx ry h
 obtain ⟨a,b,xs,ys,rfl,rfl,ha,hb,hz,q⟩:=h
 have szl:=sizeLine_eq
 by_cases hx:xs=[]
 ·subst hx
  cases rx
  cases ry
  obtain ⟨its,r1,⟨⟨cls,dd,data,sl⟩,ho,hc,n,hd⟩,_⟩:=I.tuple (SqT.of ha)
  obtain ⟨its2,r2,⟨⟨cls2,dd2,data2,sl2⟩,ho2,hc2,n2,hd2⟩,_⟩:=I.tuple (SqT.of hb)
  simp only at hc hd hc2 hd2
  subst hc hd hc2 hd2
  have e0:its=[]:=r1.nil_iff.mpr rfl
  exact concat_meets ⟨_,ho,rfl⟩ ⟨_,ho2,rfl⟩ noFill_tuple_add seq_tuple_add PySem.F.slot_tuple_add PySem.F.entry_tuple_add (PySem.F.args_tuple_add_2 _ _)
   (tuple_addW0 a b its.toArray its2.toArray n n2 dd dd2 sl sl2 (by simp [e0])) ⟨ho,ho2,⟨.ref b,H,I,rfl,q b H (Same.refl H) hb⟩⟩
 ·exact op_catT pins s σ H _ _ v u Q I rx ry ⟨a,b,xs,ys,rfl,rfl,SqT.of ha,SqT.of hb,hx,by lia,(fun e=>q a H (Same.refl H) (by rw [e,List.append_nil]; exact ha)),fun _ p hp=>q p _ (fun c o e=>by rw [upd_ne (ne_of_none e hp)]; exact e) upd_same⟩
end L2
namespace Law
open PySem L2
noncomputable def Keep (S:List Addr) (H H':Hp):Prop:=∀ b o,H b=some o→b ∉ S→H' b=some o
theorem Keep.trans {S:List Addr} {H H1 H2:Hp} (a:Keep S H H1) (b:Keep S H1 H2):Keep S H H2:=fun c o h n=>b c o (a c o h n) n
theorem Keep.new {S:List Addr} {H:Hp} {p:Addr} {o:HO} (h:H p=none):Keep S H (upd H p o):=fun b u q _=>by rw [upd_ne (ne_of_none q h)]; exact q
theorem Keep.upd {S:List Addr} {H:Hp} {p:Addr} {o:HO} (h:p∈S):Keep S H (upd H p o):=fun b u q n=>by
 have hb:b≠p:=fun e=>n (by rw [e]; exact h)
 rw [upd_ne hb]; exact q
theorem Same.new {H:Hp} {p:Addr} {o:HO} (h:H p=none):Same H (L2.upd H p o):=fun b u q=>by rw [upd_ne (ne_of_none q h)]; exact q
noncomputable def KT (H H':Hp):Prop:=∀ p xs,H p=some (.tup xs)→H' p=some (.tup xs)
theorem KT.trans {H H1 H2:Hp} (a:KT H H1) (b:KT H1 H2):KT H H2:=fun p xs h=>b p xs (a p xs h)
theorem KT.same {H H':Hp} (a:Same H H'):KT H H':=fun p xs h=>a p _ h
theorem KT.upd {H:Hp} {p:Addr} {o:HO} {ys:List V} (h:H p=some (.lst ys)):KT H (L2.upd H p o):=fun b xs q=>by
 rw [upd_ne]; · exact q
 ·intro e; subst e; rw [h] at q; cases q
theorem KT.new {H:Hp} {p:Addr} {o:HO} (h:H p=none):KT H (L2.upd H p o):=KT.same (Same.new h)
theorem atI_mem {α:Type} {xs:List α} {r:Int} (h0:0≤r) (h1:r < (xs.length:Int)):∃ v,atI xs r=some v∧v∈xs:=by
 have hl:r.toNat < xs.length:=by lia
 have e:r=((r.toNat:Nat):Int):=by lia
 have h:atI xs ((r.toNat:Nat):Int)=some xs[r.toNat]:=atI_nat (List.getElem?_eq_getElem hl)
 rw [← e] at h
 exact ⟨xs[r.toNat],h,List.getElem_mem hl⟩
structure Blt (mg:Str→Option Value):Prop where
 len:mg "len"=none
 sum:mg "sum"=none
 range:mg "range"=none
 isinstance:mg "isinstance"=none
 int:mg "int"=none
 str:mg "str"=none
 bool:mg "bool"=none
 tuple:mg "tuple"=none
 zip:mg "zip"=none
end Law
namespace Law
open PySem L2
noncomputable def okWord (w:Str):Prop:=w="plus"∨w="less"∨w="times"∨w="share"
instance okWordDec (w:Str):Decidable (okWord w):=by unfold okWord; infer_instance
inductive Way where
 | num (n:Int)
 | op (w:Str) (a b:Way)
noncomputable def Way.size:Way→Nat
 | .num _=>1
 | .op _ a b=>a.size + b.size
noncomputable def Way.ht:Way→Nat
 | .num _=>0
 | .op _ a b=>max a.ht b.ht + 1
noncomputable def Way.nodes:Way→Nat
 | .num _=>1
 | .op _ a b=>a.nodes + b.nodes + 1
noncomputable def Way.ok (m:Int):Way→Prop
 | .num n=>1≤n∧n≤m
 | .op w a b=>okWord w∧a.ok m∧b.ok m
theorem Way.size_pos (x:Way):1≤x.size:=by
 induction x with
 | num n=>exact Nat.le_refl _
 | op w a b iha ihb=>show 1≤a.size + b.size; lia
theorem Way.ht_lt (x:Way):x.ht < x.size:=by
 induction x with
 | num n=>exact Nat.le_refl _
 | op w a b iha ihb =>
  have:=a.size_pos; have:=b.size_pos
  show max a.ht b.ht + 1 < a.size + b.size; lia
theorem Way.nodes_eq (x:Way):x.nodes + 1=2 * x.size:=by
 induction x with
 | num n=>rfl
 | op w a b iha ihb=>show a.nodes + b.nodes + 1 + 1=2 * (a.size + b.size); lia
theorem Way.ok_mono {m m':Int} (h:m≤m') (x:Way):x.ok m→x.ok m':=by
 induction x with
 | num n=>intro ⟨a,b⟩; exact ⟨a,by lia⟩
 | op w a b iha ihb=>intro ⟨c,d,e⟩; exact ⟨c,iha d,ihb e⟩
inductive WayIn (H:Hp):V→Way→Prop where
 | num (n:Int):WayIn H (.int n) (.num n)
 | op {p:Addr} {w:Str} {x y:V} {a b:Way} (h:H p=some (.tup [.str w,x,y])) (ha:WayIn H x a) (hb:WayIn H y b):WayIn H (.ref p) (.op w a b)
theorem WayIn.kt {H H':Hp} {v:V} {x:Way} (h:WayIn H v x) (k:KT H H'):WayIn H' v x:=by
 induction h with
 | num n=>exact .num n
 | op h ha hb iha ihb=>exact .op (k _ _ h) iha ihb
noncomputable def post:Way→List V
 | .num n=>[.int n]
 | .op w a b=>post a++post b++[.str w]
theorem post_len (x:Way):(post x).length=x.nodes:=by
 induction x with
 | num n=>rfl
 | op w a b iha ihb=>simp only [post,List.length_append,iha,ihb,Way.nodes,List.length_cons,List.length_nil]
noncomputable def spSteps:Sp:=fun vs H Q _=>∃ (v:V) (x:Way),vs=[v]∧WayIn H v x∧x.nodes≤1000∧∀ (r:Addr) (H':Hp),Same H H'→H' r=some (.lst (post x))→Q (.ref r) H'
noncomputable def spLaw (K:PySem.W.Frag):Sp:=fun vs H Q _=>∃ (a:Addr) (ns:List Int),vs=[.ref a]∧SqL K H a (ns.map V.int)∧ns.length≤63∧∀ H',Q (.bl true) H'
theorem mkDef {P:Program} {w:World} {K:PySem.W.Frag} {mg:Str→Option Value} {base:Heap} {CX:CXT} {k:Nat} {x:Str} {sp:Sp} {f:Addr} {fd:FuncData} {ps:List Str} (a:FnOk P w K mg base CX k f fd ps sp) (b:Binds K fd ps []) (c:mg x=some (.ref f)) (d:PySem.W.keepIn K (.ref f)=true):Def P w K mg base CX k x sp:=⟨f,fd,ps,a,b,c,d⟩
noncomputable def emit:Way→List V
 | .num n=>[.int n]
 | .op w a b=>.str w :: (emit b++emit a)
theorem emit_rev (x:Way):(emit x).reverse=post x:=by
 induction x with
 | num n=>rfl
 | op w a b iha ihb=>rw [emit,List.reverse_cons,List.reverse_append,iha,ihb,post]
theorem emit_len (x:Way):(emit x).length=x.nodes:=by rw [← post_len,← emit_rev,List.length_reverse]
noncomputable def sumNodes (ws:List Way):Nat:=(ws.map Way.nodes).sum
theorem emits_len (ws:List Way):(ws.flatMap emit).length=sumNodes ws:=by
 induction ws with
 | nil=>rfl
 | cons a r ih=>rw [List.flatMap_cons,List.length_append,emit_len,ih]; simp [sumNodes]
theorem nodes_pos (x:Way):1≤x.nodes:=by cases x <;> simp [Way.nodes]
theorem len_le_nodes (ws:List Way):ws.length≤sumNodes ws:=by
 induction ws with
 | nil=>exact Nat.le_refl _
 | cons a r ih =>
  have:=nodes_pos a
  have e:sumNodes (a :: r)=a.nodes + sumNodes r:=by simp [sumNodes]
  rw [e,List.length_cons]; lia
end Law
namespace L2
open PySem PySem.Spec PyProof.Rows
theorem pg_subA {X:Cx} {pos:Pos} {o i:Expr} {to ti:TE} {t:TSet} (ho:PE X o to) (hi:PE X i ti) (hs:PSet X t):PG X (.Subscript o i pos) (gSub to ti t):=by
 intro pins s σ H v u Q I r h
 refine PySem.W.kas_sub (thn (ho pins s σ H _ I h) fun ov s1 ⟨x,H1,I1,r1,q1⟩=>thn (hi pins s1 σ H1 _ I1 q1) fun iv s2 ⟨y,H2,I2,r2,q2⟩=>thn (hs pins s2 σ H2 x y v ov iv u _ I2 r1 r2 r q2) fun _ s3 ⟨H3,I3,q3⟩=>⟨σ,H3,I3,q3⟩)
end L2
namespace Law
open PySem L2 PySem.NumText PyProof.Rows
noncomputable def mkS (l:List Nat):Str:=⟨l.toArray⟩
theorem cs_mkS (l:List Nat):cs (mkS l)=l:=by show l.toArray.toList=l; simp
theorem mkS_cs (x:Str):mkS (cs x)=x:=str_ext (cs_mkS _)
theorem mkS_eq {x:Str} {l:List Nat} (h:cs x=l):x=mkS l:=by rw [← h,mkS_cs]
theorem len_mkS (l:List Nat):(mkS l).length=l.length:=by rw [← cs_len,cs_mkS]
noncomputable def isF (c:Nat):Bool:=decide (c∈cs ("0123456789":Str))
theorem isF_iff (c:Nat):isF c=true↔48≤c∧c≤57:=by
 unfold isF
 rw [decide_eq_true_iff,show cs ("0123456789":Str)=List.range' 48 10 by decide +kernel,List.mem_range'_1]
 exact ⟨fun h=>⟨h.1,Nat.le_of_lt_succ h.2⟩,fun h=>⟨h.1,Nat.lt_succ_of_le h.2⟩⟩
noncomputable def dig (n:Int):List Nat:=cs (Str.ofString (toString n))
noncomputable def topN:Int:=10 ^ 63
theorem dig_nat (m:Nat):dig (m:Int)=(Nat.toDigits 10 m).map Char.toNat:=PySem.W.KIN.signs_num m
theorem dig_head:∀ m:Nat,1≤m→∃ c r,(Nat.toDigits 10 m).map Char.toNat=c :: r∧c≠48:=by
 intro m
 induction m using Nat.strongRecOn with
 | _ m ih =>
  intro h1
  by_cases h:m < 10
  ·rw [Nat.toDigits_of_lt_base h]
   refine ⟨_,_,rfl,?_⟩
   have:∀ k:Nat,k < 10→1≤k→(Nat.digitChar k).toNat≠48:=by decide
   exact this m h h1
  ·have hm:m % 10 < 10:=Nat.mod_lt m (by decide)
   have t:Nat.toDigits 10 (m / 10)++Nat.toDigits 10 (m % 10)=Nat.toDigits 10 (10 * (m / 10) + m % 10):=Nat.toDigits_append_toDigits (by decide) (by lia) hm
   rw [Nat.div_add_mod] at t
   obtain ⟨c,r,e,hc⟩:=ih (m / 10) (by lia) (by lia)
   refine ⟨c,r++(Nat.toDigits 10 (m % 10)).map Char.toNat,?_,hc⟩
   rw [← t,List.map_append,e]
   rfl
theorem dig_facts {n:Int} (h0:1≤n) (h1:n < topN):AllDigits (dig n)∧(∃ c r,dig n=c :: r∧c≠48)∧(dig n).length≤63∧((digitsVal (dig n):Nat):Int)=n:=by
 obtain ⟨m,rfl⟩:=Int.eq_ofNat_of_zero_le (show 0≤n by lia)
 have hm:m < 10 ^ 63:=by
  have:((m:Nat):Int) < ((10 ^ 63:Nat):Int):=by simpa [topN] using h1
  exact Int.ofNat_lt.mp this
 rw [dig_nat]
 refine ⟨?_,dig_head m (by lia),?_,by rw [PySem.W.KIN.val_back]⟩
 ·intro c hc
  obtain ⟨ch,hch,e⟩:=List.mem_map.mp hc
  have r:=digit_range (Nat.isDigit_of_mem_toDigits (by decide) (by decide) hch)
  rw [← e]
  exact r
 ·rw [List.length_map]
  exact toDigits_len_pow (by decide) (by decide) hm
theorem cs_len_app (x y:Str):(x++y).length=x.length + y.length:=by
 rw [← cs_len,cs_app,List.length_append,cs_len,cs_len]
noncomputable def sgnC (w:Str):Nat:=if w="plus" then 43 else if w="less" then 45 else if w="times" then 42 else 47
noncomputable def sgn (w:Str):List Nat:=[32,sgnC w,32]
noncomputable def par:Way→List Nat
 | .num n=>dig n
 | .op w a b=>40 :: (par a++(sgn w++(par b++[41])))
noncomputable def txt:Way→List Nat
 | .num n=>dig n
 | .op w a b=>par a++(sgn w++par b)
noncomputable def toks:Way→List V
 | .num n=>[.int n]
 | .op w a b=>.str "(" :: (toks a++(.str w :: (toks b++[.str ")"])))
noncomputable def Stop (l:List Nat):Prop:=∀ c r,l=c :: r→isF c=false
theorem take_fig:∀ {d r:List Nat},(∀ c∈d,isF c=true)→Stop r→(d++r).takeWhile isF=d
 | [],r,_,h=>by
  cases r with
  | nil=>rfl
  | cons c r=>rw [List.nil_append,List.takeWhile_cons,h c r rfl]; rfl
 | c :: d,r,h,hs=>by
  rw [List.cons_append,List.takeWhile_cons,h c (List.mem_cons_self ..)]
  show c :: (d++r).takeWhile isF=c :: d
  rw [take_fig (fun x hx=>h x (List.mem_cons_of_mem _ hx)) hs]
noncomputable def tokAt:List Nat→Option (V×Nat)
 | []=>none
 | c :: r=>if c=40∨c=41 then some (.str ⟨#[c]⟩,1)
  else if isF c=true then (if c≠48∧((c :: r).takeWhile isF).length < 64 then some (.int ((digitsVal ((c :: r).takeWhile isF):Nat):Int),((c :: r).takeWhile isF).length) else none)
  else if (c :: r).take 3=sgn "plus" then some (.str "plus",3)
  else if (c :: r).take 3=sgn "less" then some (.str "less",3)
  else if (c :: r).take 3=sgn "times" then some (.str "times",3)
  else if (c :: r).take 3=sgn "share" then some (.str "share",3)
  else none
inductive Lex:List Nat→List V→Prop where
 | nil:Lex [] []
 | cons {l:List Nat} {v:V} {k:Nat} {ts:List V} (h:tokAt l=some (v,k)) (hk:1≤k) (hr:Lex (l.drop k) ts):Lex l (v :: ts)
theorem tok_open (r:List Nat):tokAt (40 :: r)=some (.str "(",1):=rfl
theorem tok_close (r:List Nat):tokAt (41 :: r)=some (.str ")",1):=rfl
theorem tok_sgn {w:Str} (h:okWord w) (r:List Nat):tokAt (sgn w++r)=some (.str w,3):=by
 rcases h with rfl | rfl | rfl | rfl <;> rfl
theorem tok_dig {n:Int} (h0:1≤n) (h1:n < topN) {r:List Nat} (hs:Stop r):tokAt (dig n++r)=some (.int n,(dig n).length):=by
 obtain ⟨ha,⟨c,t,e,hc⟩,hl,hv⟩:=dig_facts h0 h1
 have tw:(dig n++r).takeWhile isF=dig n:=take_fig (fun c hc=>(isF_iff c).mpr (ha c hc)) hs
 have h48:=ha c (by rw [e]; exact List.mem_cons_self ..)
 have fc:isF c=true:=(isF_iff c).mpr h48
 have e2:dig n++r=c :: (t++r):=by rw [e]; rfl
 rw [e2] at tw ⊢
 unfold tokAt
 dsimp only
 rw [if_neg (by lia),if_pos fc,tw,if_pos ⟨hc,by lia⟩,hv]
theorem stop_sgn (w:Str) (r:List Nat):Stop (sgn w++r):=by
 intro c t e
 cases e
 decide +kernel
theorem stop_close (r:List Nat):Stop (41 :: r):=by
 intro c t e
 cases e
 decide +kernel
theorem lex_par {m:Int} (hm:m < topN):∀ {x:Way},x.ok m→∀ {r:List Nat} {ts:List V},Stop r→Lex r ts→Lex (par x++r) (toks x++ts):=by
 intro x
 induction x with
 | num n =>
  intro ⟨h0,h1⟩ r ts hs hr
  have hn:n < topN:=by lia
  obtain ⟨_,⟨c,t,e,_⟩,_⟩:=dig_facts h0 hn
  refine .cons (tok_dig h0 hn hs) (by rw [e]; exact Nat.succ_le_succ (Nat.zero_le _)) ?_
  show Lex ((dig n++r).drop (dig n).length) ([]++ts)
  rw [List.drop_left]
  exact hr
 | op w a b iha ihb =>
  intro ⟨hw,ha,hb⟩ r ts hs hr
  have e:par (.op w a b)++r=40 :: (par a++(sgn w++(par b++(41 :: r)))):=by simp [par]
  have e2:toks (.op w a b)++ts=.str "(" :: (toks a++(.str w :: (toks b++(.str ")" :: ts)))):=by simp [toks]
  rw [e,e2]
  refine .cons (tok_open _) (Nat.le_refl _) ?_
  show Lex (par a++(sgn w++(par b++(41 :: r)))) _
  refine iha ha (stop_sgn _ _) (.cons (tok_sgn hw _) (by decide) ?_)
  show Lex (par b++(41 :: r)) _
  exact ihb hb (stop_close _) (.cons (tok_close _) (Nat.le_refl _) hr)
theorem par_len {m:Int} (hm:m < topN):∀ {x:Way},x.ok m→(par x).length + 5≤70 * x.size:=by
 intro x
 induction x with
 | num n =>
  intro ⟨h0,h1⟩
  have:=(dig_facts h0 (show n < topN by lia)).2.2.1
  show (dig n).length + 5≤70 * 1
  lia
 | op w a b iha ihb =>
  intro ⟨hw,ha,hb⟩
  have h1:=iha ha
  have h2:=ihb hb
  have e:(par (.op w a b)).length=(par a).length + (par b).length + 5:=by simp [par,sgn]; lia
  have e2:(Way.op w a b).size=a.size + b.size:=rfl
  lia
theorem par_txt (w:Str) (a b:Way):par (.op w a b)=40 :: (txt (.op w a b)++[41]):=by simp [par,txt]
theorem txt_len {m:Int} (hm:m < topN) {x:Way} (h:x.ok m):(txt x).length≤70 * x.size:=by
 have:=par_len hm h
 cases x with
 | num n=>exact Nat.le_trans (Nat.le_add_right _ _) this
 | op w a b=>rw [par_txt] at this; simp at this; lia
inductive Item where
 | br
 | wd (w:Str)
 | wy (x:Way)
inductive ItemIn (H:Hp):V→Item→Prop where
 | br:ItemIn H (.str "(") .br
 | wd {w:Str} (h:okWord w):ItemIn H (.str w) (.wd w)
 | wy {v:V} {x:Way} (h:WayIn H v x):ItemIn H v (.wy x)
theorem ItemIn.kt {H H':Hp} {v:V} {i:Item} (h:ItemIn H v i) (k:KT H H'):ItemIn H' v i:=by
 cases h with
 | br=>exact .br
 | wd h=>exact .wd h
 | wy h=>exact .wy (h.kt k)
noncomputable def closeIt:List Item→Option (List Item)
 | .wy b :: .wd w :: .wy a :: .br :: st=>some (.wy (.op w a b) :: st)
 | _=>none
theorem closeIt_some {st st2:List Item} (h:closeIt st=some st2):∃ (w:Str) (a b:Way) (r:List Item),st=.wy b :: .wd w :: .wy a :: .br :: r∧st2=.wy (.op w a b) :: r:=by
 unfold closeIt at h
 split at h
 ·cases h; exact ⟨_,_,_,_,rfl,rfl⟩
 ·cases h
noncomputable def parse:List V→List Item→Option (List Item)
 | [],st=>some st
 | .int n :: r,st=>parse r (.wy (.num n) :: st)
 | .str w :: r,st=>if w="(" then parse r (.br :: st) else if w=")" then (closeIt st).bind (parse r) else if okWord w then parse r (.wd w :: st) else none
 | _,_=>none
theorem parse_int (n:Int) (r:List V) (st:List Item):parse (.int n :: r) st=parse r (.wy (.num n) :: st):=by rw [parse]
theorem parse_str (w:Str) (r:List V) (st:List Item):parse (.str w :: r) st=if w="(" then parse r (.br :: st) else if w=")" then (closeIt st).bind (parse r) else if okWord w then parse r (.wd w :: st) else none:=by rw [parse]
theorem parse_some {y:V} {r:List V} {st out:List Item} (h:parse (y :: r) st=some out):(∃ n:Int,y=.int n∧parse r (.wy (.num n) :: st)=some out)∨(y=.str "("∧parse r (.br :: st)=some out) ∨
  (∃ (w:Str) (a b:Way) (st2:List Item),y=.str ")"∧st=.wy b :: .wd w :: .wy a :: .br :: st2∧parse r (.wy (.op w a b) :: st2)=some out)∨∃ w:Str,y=.str w∧w≠"("∧w≠")"∧okWord w∧parse r (.wd w :: st)=some out:=by
 cases y with
 | int n=>rw [parse_int] at h; exact .inl ⟨n,rfl,h⟩
 | str w =>
  rw [parse_str] at h
  split at h
  ·rename_i e; subst e; exact .inr (.inl ⟨rfl,h⟩)
  ·split at h
   ·rename_i e; subst e
    cases hc:closeIt st with
    | none=>rw [hc] at h; cases h
    | some st2 =>
     rw [hc] at h
     obtain ⟨w,a,b,r2,e1,e2⟩:=closeIt_some hc
     subst e2
     exact .inr (.inr (.inl ⟨w,a,b,r2,rfl,e1,h⟩))
   ·split at h
    ·rename_i n1 n2 hw
     exact .inr (.inr (.inr ⟨w,rfl,n1,n2,hw,h⟩))
    ·cases h
 | _=>unfold parse at h; cases h
theorem okWord_ne {w:Str} (h:okWord w):w≠"("∧w≠")":=by
 rcases h with rfl | rfl | rfl | rfl <;> decide
theorem parse_toks {m:Int}:∀ {x:Way},x.ok m→∀ (r:List V) (st:List Item),parse (toks x++r) st=parse r (.wy x :: st):=by
 intro x
 induction x with
 | num n=>intro _ r st; exact parse_int n r st
 | op w a b iha ihb =>
  intro ⟨hw,ha,hb⟩ r st
  have e2:toks (.op w a b)++r=.str "(" :: (toks a++(.str w :: (toks b++(.str ")" :: r)))):=by simp [toks]
  obtain ⟨n1,n2⟩:=okWord_ne hw
  rw [e2,parse_str,if_pos rfl,iha ha,parse_str,if_neg n1,if_neg n2,if_pos hw,ihb hb,parse_str,if_neg (by decide),if_pos rfl]
  rfl
theorem toks_len (x:Way):(toks x).length + 3=4 * x.size:=by
 induction x with
 | num n=>rfl
 | op w a b iha ihb =>
  have e:(toks (.op w a b)).length=(toks a).length + (toks b).length + 3:=by simp [toks]; lia
  have e2:(Way.op w a b).size=a.size + b.size:=rfl
  lia
mutual
noncomputable def Dat (H:Hp):D→V→Prop
 | .non,v=>v=.non
 | .bl b,v=>v=.bl b
 | .int i,v=>v=.int i
 | .str x,v=>v=.str x
 | .tup ds,v=>∃ p xs,v=.ref p∧H p=some (.tup xs)∧Dats H ds xs
 | .lst ds,v=>False
noncomputable def Dats (H:Hp):List D→List V→Prop
 | [],xs=>xs=[]
 | d :: ds,xs=>∃ x r,xs=x :: r∧Dat H d x∧Dats H ds r
end
mutual
theorem Dat.kt {H H':Hp} (k:KT H H'):∀ (d:D) {v:V},Dat H d v→Dat H' d v
 | .non,v,h=>by unfold Dat at h ⊢; exact h
 | .bl b,v,h=>by unfold Dat at h ⊢; exact h
 | .int b,v,h=>by unfold Dat at h ⊢; exact h
 | .str b,v,h=>by unfold Dat at h ⊢; exact h
 | .tup ds,v,h=>by
  unfold Dat at h ⊢
  obtain ⟨p,xs,e,hp,hs⟩:=h
  exact ⟨p,xs,e,k _ _ hp,Dats.kt k ds hs⟩
 | .lst ds,v,h=>by unfold Dat at h; exact h.elim
theorem Dats.kt {H H':Hp} (k:KT H H'):∀ (ds:List D) {vs:List V},Dats H ds vs→Dats H' ds vs
 | [],vs,h=>by unfold Dats at h ⊢; exact h
 | d :: ds,vs,h=>by
  unfold Dats at h ⊢
  obtain ⟨x,r,e,h1,h2⟩:=h
  exact ⟨x,r,e,Dat.kt k d h1,Dats.kt k ds h2⟩
end
mutual
theorem Dat.rep {K:PySem.W.Frag} {H:Hp}:∀ (d:D) {v:V},Dat H d v→Rep K H d v
 | .non,v,h=>by unfold Dat at h; unfold Rep; exact h
 | .bl b,v,h=>by unfold Dat at h; unfold Rep; exact h
 | .int b,v,h=>by unfold Dat at h; unfold Rep; exact h
 | .str b,v,h=>by unfold Dat at h; unfold Rep; exact h
 | .tup ds,v,h=>by
  unfold Dat at h; unfold Rep
  obtain ⟨p,xs,e,hp,hs⟩:=h
  exact ⟨p,xs,e,SqT.of hp,Dats.rep ds hs⟩
 | .lst ds,v,h=>by unfold Dat at h; exact h.elim
theorem Dats.rep {K:PySem.W.Frag} {H:Hp}:∀ (ds:List D) {vs:List V},Dats H ds vs→Reps K H ds vs
 | [],vs,h=>by unfold Dats at h; unfold Reps; exact h
 | d :: ds,vs,h=>by
  unfold Dats at h; unfold Reps
  obtain ⟨x,r,e,h1,h2⟩:=h
  exact ⟨x,r,e,Dat.rep d h1,Dats.rep ds h2⟩
end
theorem Dats.len {H:Hp}:∀ {ds:List D} {xs:List V},Dats H ds xs→ds.length=xs.length
 | [],xs,h=>by unfold Dats at h; subst h; rfl
 | d :: ds,xs,h=>by
  unfold Dats at h
  obtain ⟨x,r,rfl,_,h⟩:=h
  rw [List.length_cons,List.length_cons,Dats.len h]
noncomputable def spNumberOf:Sp:=fun vs H Q _=>∃ z:Str,vs=[.str z]∧AllDigits (cs z)∧(∃ c r,cs z=c :: r∧c≠48)∧z.length < 64∧∀ H',Same H H'→Q (.int ((digitsVal (cs z):Nat):Int)) H'
noncomputable def spFigEnd:Sp:=fun vs H Q _=>∃ (z:Str) (k:Nat),vs=[.str z,.int k]∧k≤z.length∧z.length≤10000∧Q (.int ((k + (((cs z).drop k).takeWhile isF).length:Nat):Int)) H
noncomputable def spIsFig:Sp:=fun vs H Q _=>∃ z:Str,vs=[.str z]∧z.length≤10000∧∀ b:Bool,(b=true↔cs z≠[]∧((cs z).takeWhile isF).length=(cs z).length)→Q (.bl b) H
noncomputable def spPieceAt:Sp:=fun vs H Q _=>∃ (z:Str) (k:Nat) (v:V) (n:Nat),vs=[.str z,.int k]∧z.length≤10000∧tokAt ((cs z).drop k)=some (v,n)∧∀ (t:Addr) (H':Hp),Same H H'→H' t=some (.tup [v,.int ((k + n:Nat):Int)])→Q (.ref t) H'
noncomputable def spPieces:Sp:=fun vs H Q _=>∃ (z:Str) (ts:List V),vs=[.str z]∧z.length≤10000∧Lex (cs z) ts∧∀ (r:Addr) (H':Hp),Same H H'→H' r=some (.lst ts)→Q (.ref r) H'
noncomputable def spClosed:Sp:=fun vs H Q _=>∃ (p:Addr) (pre:List V) (a b:V) (wd:Str) (x y:Way),vs=[.ref p]∧H p=some (.lst (pre++[.str "(",a,.str wd,b]))∧okWord wd∧WayIn H a x∧WayIn H b y∧∀ (t:Addr) (H':Hp),Same H H'→H' t=some (.tup [.str wd,a,b])→Q (.ref t) H'
noncomputable def spIsWord:Sp:=fun vs H Q _=>∃ wd:Str,vs=[.str wd]∧okWord wd∧Q (.bl true) H
noncomputable def spIsWay:Sp:=fun vs H Q _=>∃ (v:V) (x:Way),vs=[v]∧WayIn H v x∧Q (.bl true) H
noncomputable def spRead:Sp:=fun vs H Q _=>∃ (x:Way) (m:Int),vs=[.str (mkS (txt x))]∧x.ok m∧m < topN∧x.size≤100∧∀ (v:V) (H':Hp),Same H H'→WayIn H' v x→Q v H'
end Law
namespace Law
open PySem L2
inductive IsForm:D→Prop
 | num {i:Int} (h0:1≤i) (h1:i≤1000000):IsForm (.int i)
 | grp {k:Str} {m0:D} {more off:List D} (hk:k="sum"∨k="product") (h0:IsForm m0) (h1:∀ x∈more,IsForm x) (h2:∀ x∈off,IsForm x):IsForm (.tup [.str k,.tup (m0 :: more),.tup off])
mutual
noncomputable def sz:D→Nat
 | .tup l=>1 + szs l
 | _=>1
noncomputable def szs:List D→Nat
 | []=>0
 | d :: r=>sz d + 1 + szs r
end
theorem deps_mem {l:List D} {d:D} (h:d∈l):d.dep≤deps l:=by
 obtain ⟨j,hj⟩:=List.getElem?_of_mem h
 exact deps_get hj
theorem sz_pos (d:D):1≤sz d:=by cases d <;> unfold sz <;> lia
theorem deps_le {l:List D} {n:Nat} (h:∀ x∈l,x.dep≤n):deps l≤n:=by
 induction l with
 | nil=>rw [deps]; lia
 | cons d r ih =>
  have:=h d (List.mem_cons_self ..)
  have:=ih fun x hx=>h x (List.mem_cons_of_mem _ hx)
  rw [deps]; lia
end Law
namespace Law
open PySem L2
noncomputable def rkK (k:Str):Int:=if k="sum" then 2 else 3
mutual
noncomputable def kD:D→List Int
 | .int i=>[1,i]
 | .tup l=>kG l
 | _=>[]
noncomputable def kG:List D→List Int
 | .str k :: r=>rkK k :: kR r
 | _=>[]
noncomputable def kR:List D→List Int
 | []=>[]
 | d :: r=>kRow d++0 :: kR r
noncomputable def kRow:D→List Int
 | .tup l=>kS l
 | _=>[]
noncomputable def kS:List D→List Int
 | []=>[]
 | d :: r=>kD d++kS r
end
theorem kD_int (i:Int):kD (.int i)=[1,i]:=by rw [kD]
theorem kD_grp (k:Str) (more off:List D):kD (.tup [.str k,.tup more,.tup off])=rkK k :: (kS more++0 :: (kS off++[0])):=by
 rw [kD,kG,kR,kR,kR,kRow,kRow]
theorem kS_cons (d:D) (r:List D):kS (d :: r)=kD d++kS r:=by rw [kS]
theorem kS_nil:kS []=[]:=by rw [kS]
theorem kD_head {d:D} (h:IsForm d):∃ a r,kD d=a :: r∧0 < a:=by
 cases h with
 | num h0 h1=>rw [kD_int]; exact ⟨1,_,rfl,by decide⟩
 | @grp k m0 more off hk _ _ _=>rw [kD_grp]; exact ⟨_,_,rfl,by unfold rkK; split <;> decide⟩
noncomputable def sl (a b:List Int):Prop:=∃ (p:List Int) (u v:Int) (x y:List Int),a=p++u :: x∧b=p++v :: y∧u < v
theorem sl.app {a b:List Int} (h:sl a b) (x y:List Int):sl (a++x) (b++y):=by
 obtain ⟨p,u,v,x1,y1,rfl,rfl,l⟩:=h
 exact ⟨p,u,v,x1++x,y1++y,by simp,by simp,l⟩
theorem sl.pre {a b:List Int} (h:sl a b) (p:List Int):sl (p++a) (p++b):=by
 obtain ⟨p1,u,v,x1,y1,rfl,rfl,l⟩:=h
 exact ⟨p++p1,u,v,x1,y1,by simp,by simp,l⟩
theorem sl.cons {a b:List Int} (h:sl a b) (c:Int):sl (c :: a) (c :: b):=h.pre [c]
theorem sl_head {a b:Int} (h:a < b) (x y:List Int):sl (a :: x) (b :: y):=⟨[],a,b,x,y,rfl,rfl,h⟩
theorem sl.lx {a b:List Int} (h:sl a b):lx a b=true:=by
 obtain ⟨p,u,v,x,y,rfl,rfl,l⟩:=h
 induction p with
 | nil=>show L2.lx (u :: x) (v :: y)=true; rw [lx_cons,if_neg (by lia)]; exact decide_eq_true l
 | cons a p ih=>show L2.lx (a :: (p++u :: x)) (a :: (p++v :: y))=true; rw [lx_cons,if_pos rfl]; exact ih
theorem lx_not {a b:List Int} (h:L2.lx a b=true):L2.lx b a=false:=by
 cases e:L2.lx b a with
 | false=>rfl
 | true =>
  have:=lx_trans _ _ _ h e
  rw [lx_irrefl] at this
  cases this
noncomputable def Tri (d e:D):Prop:=d=e∨sl (kD d) (kD e)∨sl (kD e) (kD d)
theorem rows_tri:∀ {a b:List D},(∀ x∈a,IsForm x)→(∀ y∈b,IsForm y)→(∀ x∈a,∀ y∈b,Tri x y)→∀ (s t:List Int),a=b∨sl (kS a++0 :: s) (kS b++0 :: t)∨sl (kS b++0 :: t) (kS a++0 :: s)
 | [],[],_,_,_,s,t=>.inl rfl
 | [],y :: r,_,hb,_,s,t=>by
  obtain ⟨c,z,e,hc⟩:=kD_head (hb y (List.mem_cons_self ..))
  rw [kS_nil,kS_cons,e]
  exact .inr (.inl (sl_head hc _ _))
 | x :: r,[],ha,_,_,s,t=>by
  obtain ⟨c,z,e,hc⟩:=kD_head (ha x (List.mem_cons_self ..))
  rw [kS_nil,kS_cons,e]
  exact .inr (.inr (sl_head hc _ _))
 | x :: r,y :: q,ha,hb,ht,s,t=>by
  rw [kS_cons,kS_cons,List.append_assoc,List.append_assoc]
  rcases ht x (List.mem_cons_self ..) y (List.mem_cons_self ..) with rfl | h | h
  ·rcases rows_tri (fun z hz=>ha z (List.mem_cons_of_mem _ hz)) (fun z hz=>hb z (List.mem_cons_of_mem _ hz)) (fun z hz w hw=>ht z (List.mem_cons_of_mem _ hz) w (List.mem_cons_of_mem _ hw)) s t with rfl | h | h
   ·exact .inl rfl
   ·exact .inr (.inl (h.pre _))
   ·exact .inr (.inr (h.pre _))
  ·exact .inr (.inl (h.app _ _))
  ·exact .inr (.inr (h.app _ _))
theorem tri {d:D} (hd:IsForm d):∀ {e:D},IsForm e→Tri d e:=by
 induction hd with
 | @num i h0 h1 =>
  intro e he
  cases he with
  | @num j _ _ =>
   unfold Tri
   rw [kD_int,kD_int]
   rcases Int.lt_trichotomy i j with h | h | h
   ·exact .inr (.inl ((sl_head h [] []).cons 1))
   ·exact .inl (by rw [h])
   ·exact .inr (.inr ((sl_head h [] []).cons 1))
  | @grp k m0 more off hk _ _ _ =>
   refine .inr (.inl ?_)
   rw [kD_int,kD_grp]
   exact sl_head (by unfold rkK; split <;> decide) _ _
 | @grp k m0 more off hk h0 h1 h2 i0 i1 i2 =>
  intro e he
  cases he with
  | @num j _ _ =>
   refine .inr (.inr ?_)
   rw [kD_int,kD_grp]
   exact sl_head (by unfold rkK; split <;> decide) _ _
  | @grp k' m0' more' off' hk' h0' h1' h2' =>
   have f1:∀ x∈m0 :: more,IsForm x:=fun x hx=>by rcases List.mem_cons.mp hx with rfl | hx; exact h0; exact h1 x hx
   have f1':∀ x∈m0' :: more',IsForm x:=fun x hx=>by rcases List.mem_cons.mp hx with rfl | hx; exact h0'; exact h1' x hx
   have t1:∀ x∈m0 :: more,∀ y∈m0' :: more',Tri x y:=fun x hx y hy=>by
    rcases List.mem_cons.mp hx with rfl | hx
    ·exact i0 (f1' y hy)
    ·exact i1 x hx (f1' y hy)
   by_cases ek:k=k'
   ·subst ek
    unfold Tri
    rw [kD_grp,kD_grp]
    rcases rows_tri f1 f1' t1 (kS off++[0]) (kS off'++[0]) with e1 | h | h
    ·rcases rows_tri h2 h2' (fun x hx y hy=>i2 x hx (h2' y hy)) [] [] with e2 | h | h
     ·exact .inl (by rw [e1,e2])
     ·rw [e1]; exact .inr (.inl (((h.cons 0).pre _).cons _))
     ·rw [e1]; exact .inr (.inr (((h.cons 0).pre _).cons _))
    ·exact .inr (.inl (h.cons _))
    ·exact .inr (.inr (h.cons _))
   ·unfold Tri
    rw [kD_grp,kD_grp]
    rcases hk with rfl | rfl <;> rcases hk' with rfl | rfl
    ·exact absurd rfl ek
    ·exact .inr (.inl (sl_head (by decide) _ _))
    ·exact .inr (.inr (sl_head (by decide) _ _))
    ·exact absurd rfl ek
theorem kD_inj {d e:D} (hd:IsForm d) (he:IsForm e) (h:kD d=kD e):d=e:=by
 rcases tri hd he with r | r | r
 ·exact r
 ·have:=r.lx; rw [h,lx_irrefl] at this; cases this
 ·have:=r.lx; rw [h,lx_irrefl] at this; cases this
noncomputable def Le (a b:D):Prop:=L2.lx (kD b) (kD a)=false
noncomputable def Ord (l:List D):Prop:=l.Pairwise Le
theorem ord_unique:∀ {a b:List D},(∀ x∈a,IsForm x)→a.Perm b→Ord a→Ord b→a=b
 | [],b,_,p,_,_=>(List.nil_perm.mp p).symm
 | x :: r,b,hf,p,oa,ob=>by
  cases b with
  | nil=>exact absurd (p.length_eq) (by simp)
  | cons y q =>
   have hfb:∀ z∈y :: q,IsForm z:=fun z hz=>hf z (p.mem_iff.mpr hz)
   obtain ⟨a1,a2⟩:=List.pairwise_cons.mp oa
   obtain ⟨b1,b2⟩:=List.pairwise_cons.mp ob
   have e:x=y:=by
    by_cases c:x=y
    ·exact c
    have m1:x∈q:=by
     rcases List.mem_cons.mp (p.mem_iff.mp (List.mem_cons_self ..)) with h | h
     ·exact absurd h c
     ·exact h
    have m2:y∈r:=by
     rcases List.mem_cons.mp (p.mem_iff.mpr (List.mem_cons_self ..)) with h | h
     ·exact absurd h.symm c
     ·exact h
    exact kD_inj (hf x (List.mem_cons_self ..)) (hf y (List.mem_cons_of_mem _ m2)) (lx_total _ _ (b1 x m1) (a1 y m2))
   subst e
   rw [ord_unique (fun z hz=>hf z (List.mem_cons_of_mem _ hz)) (List.Perm.cons_inv p) a2 b2]
theorem ord_insert:∀ {l:List D} {x:D},Ord l→Ord (l.take (l.countP fun y=>!L2.lx (kD x) (kD y))++x :: l.drop (l.countP fun y=>!L2.lx (kD x) (kD y)))
 | [],x,_=>List.pairwise_singleton _ _
 | y :: r,x,o=>by
  obtain ⟨o1,o2⟩:=List.pairwise_cons.mp o
  have ih:=ord_insert (x:=x) o2
  rw [List.countP_cons]
  cases e:L2.lx (kD x) (kD y) with
  | false =>
   rw [if_pos (by rfl),List.take_succ_cons,List.drop_succ_cons,List.cons_append]
   refine List.pairwise_cons.mpr ⟨fun z hz=>?_,ih⟩
   have hz':z=x∨z∈r:=by
    rcases List.mem_append.mp hz with h | h
    ·exact .inr (List.mem_of_mem_take h)
    ·rcases List.mem_cons.mp h with h | h
     ·exact .inl h
     ·exact .inr (List.mem_of_mem_drop h)
   rcases hz' with rfl | h
   ·exact e
   ·exact o1 z h
  | true =>
   have none:(r.countP fun y=>!L2.lx (kD x) (kD y))=0:=List.countP_eq_zero.mpr fun z hz=>by
    have h1:=o1 z hz
    cases e2:L2.lx (kD x) (kD z) with
    | true=>decide
    | false =>
     rcases lx_neg _ (kD z) _ e with h | h
     ·rw [e2] at h; cases h
     ·have h1':L2.lx (kD z) (kD y)=false:=h1
      rw [h1'] at h; cases h
   rw [none,if_neg (by decide)]
   show Ord (x :: (y :: r))
   refine List.pairwise_cons.mpr ⟨fun z hz=>?_,o⟩
   rcases List.mem_cons.mp hz with rfl | hz
   ·exact lx_not e
   ·show L2.lx (kD z) (kD x)=false
    have h1:L2.lx (kD z) (kD y)=false:=o1 z hz
    cases e2:L2.lx (kD z) (kD x) with
    | false=>rfl
    | true=>have:=lx_trans _ _ _ e2 e; rw [h1] at this; cases this
end Law
namespace Law
open PySem L2
noncomputable def insD (l:List D) (x:D):List D:=l.take (l.countP fun y=>!L2.lx (kD x) (kD y))++x :: l.drop (l.countP fun y=>!L2.lx (kD x) (kD y))
theorem insD_perm (l:List D) (x:D):(insD l x).Perm (l++[x]):=by
 unfold insD
 refine List.perm_middle.trans ?_
 rw [List.take_append_drop]
 exact List.perm_append_comm (l₁:=[x])
noncomputable def srtD (l:List D):List D:=l.foldl insD []
theorem srt_fold:∀ (l acc:List D),Ord acc→Ord (l.foldl insD acc)∧(l.foldl insD acc).Perm (acc++l)
 | [],acc,o=>⟨o,by rw [List.append_nil]; exact .refl _⟩
 | x :: r,acc,o=>by
  obtain ⟨a,b⟩:=srt_fold r (insD acc x) (ord_insert o)
  refine ⟨a,b.trans ?_⟩
  have:=(insD_perm acc x).append_right r
  rw [List.append_assoc] at this
  exact this
theorem srtD_ord (l:List D):Ord (srtD l):=(srt_fold l [] List.Pairwise.nil).1
theorem srtD_perm (l:List D):(srtD l).Perm l:=by have:=(srt_fold l [] List.Pairwise.nil).2; rwa [List.nil_append] at this
theorem srtD_eq {l m:List D} (hf:∀ x∈l,IsForm x) (h:l.Perm m):srtD l=srtD m :=
 ord_unique (fun x hx=>hf x ((srtD_perm l).mem_iff.mp hx)) ((srtD_perm l).trans (h.trans (srtD_perm m).symm)) (srtD_ord l) (srtD_ord m)
theorem srtD_of {l m:List D} (hf:∀ x∈m,IsForm x) (p:l.Perm m) (o:Ord l):l=srtD m :=
 ord_unique (fun x hx=>hf x (p.mem_iff.mp hx)) (p.trans (srtD_perm m).symm) o (srtD_ord m)
noncomputable def knd (w:Str):Str:=if w="plus"∨w="less" then "sum" else "product"
noncomputable def trn (w:Str):Bool:=decide (w="less"∨w="share")
theorem knd_ok (w:Str):knd w="sum"∨knd w="product":=by unfold knd; split; exact .inl rfl; exact .inr rfl
noncomputable def pf (k:Str):D→List D×List D
 | .tup [.str k',.tup m,.tup o]=>if k'=k then (m,o) else ([.tup [.str k',.tup m,.tup o]],[])
 | d=>([d],[])
noncomputable def swp (b:Bool) (p:List D×List D):List D×List D:=if b then (p.2,p.1) else p
noncomputable def fP:Way→D
 | .num n=>.int n
 | .op w a b=>.tup [.str (knd w),.tup (srtD ((pf (knd w) (fP a)).1++(swp (trn w) (pf (knd w) (fP b))).1)),.tup (srtD ((pf (knd w) (fP a)).2++(swp (trn w) (pf (knd w) (fP b))).2))]
theorem pf_int (k:Str) (i:Int):pf k (.int i)=([.int i],[]):=rfl
theorem pf_grp (k k':Str) (m o:List D):pf k (.tup [.str k',.tup m,.tup o])=if k'=k then (m,o) else ([.tup [.str k',.tup m,.tup o]],[]):=rfl
theorem pf_form {k:Str} {d:D} (h:IsForm d):(∃ m0 r,(pf k d).1=m0 :: r)∧(∀ x∈(pf k d).1,IsForm x)∧∀ x∈(pf k d).2,IsForm x:=by
 have one:∀ x∈[d],IsForm x:=fun x hx=>by rw [List.mem_singleton.mp hx]; exact h
 cases h with
 | num h0 h1=>exact ⟨⟨_,_,rfl⟩,one,fun x hx=>by cases hx⟩
 | @grp k' m0 more off hk g0 g1 g2 =>
  rw [pf_grp]
  split
  ·refine ⟨⟨_,_,rfl⟩,fun x hx=>?_,g2⟩
   rcases List.mem_cons.mp hx with rfl | hx
   ·exact g0
   ·exact g1 x hx
  ·exact ⟨⟨_,_,rfl⟩,one,fun x hx=>by cases hx⟩
theorem srt_cons {l:List D} {m0:D} {r:List D} (h:l=m0 :: r):∃ x t,srtD l=x :: t:=by
 cases e:srtD l with
 | nil=>have:=(srtD_perm l).length_eq; rw [e,h] at this; cases this
 | cons x t=>exact ⟨x,t,rfl⟩
theorem swp_forms {b:Bool} {k:Str} {d:D} (h:IsForm d):(∀ x∈(swp b (pf k d)).1,IsForm x)∧∀ x∈(swp b (pf k d)).2,IsForm x:=by
 obtain ⟨_,h1,h2⟩:=pf_form (k:=k) h
 cases b
 ·exact ⟨h1,h2⟩
 ·exact ⟨h2,h1⟩
theorem fP_form:∀ {x:Way},x.ok 1000000→IsForm (fP x):=by
 intro x
 induction x with
 | num n=>intro h; exact .num h.1 h.2
 | op w a b ia ib =>
  intro h
  obtain ⟨_,ha,hb⟩:=h
  have fa:=ia ha
  have fb:=ib hb
  obtain ⟨⟨m0,r,e⟩,a1,a2⟩:=pf_form (k:=knd w) fa
  obtain ⟨b1,b2⟩:=swp_forms (b:=trn w) (k:=knd w) fb
  have f1:∀ x∈srtD ((pf (knd w) (fP a)).1++(swp (trn w) (pf (knd w) (fP b))).1),IsForm x:=fun x hx=>by
   rcases List.mem_append.mp ((srtD_perm _).mem_iff.mp hx) with h | h
   ·exact a1 x h
   ·exact b1 x h
  have f2:∀ x∈srtD ((pf (knd w) (fP a)).2++(swp (trn w) (pf (knd w) (fP b))).2),IsForm x:=fun x hx=>by
   rcases List.mem_append.mp ((srtD_perm _).mem_iff.mp hx) with h | h
   ·exact a2 x h
   ·exact b2 x h
  show IsForm (.tup [.str (knd w),.tup _,.tup _])
  obtain ⟨x,t,es⟩:=srt_cons (l:=(pf (knd w) (fP a)).1++(swp (trn w) (pf (knd w) (fP b))).1) (m0:=m0) (r:=r++(swp (trn w) (pf (knd w) (fP b))).1) (by rw [e]; rfl)
  rw [es] at f1 ⊢
  exact .grp (knd_ok w) (f1 x (List.mem_cons_self ..)) (fun y hy=>f1 y (List.mem_cons_of_mem _ hy)) f2
noncomputable def spr (k:Str):Way→Int→List (Way×Int)
 | .num n,sg=>[(.num n,sg)]
 | .op w a b,sg=>if knd w=k then spr k a sg++spr k b (sg * (if trn w then -1 else 1)) else [(.op w a b,sg)]
noncomputable def psF (l:List (Way×Int)):List D:=(l.filter fun p=>decide (0 < p.2)).map fun p=>fP p.1
noncomputable def ngF (l:List (Way×Int)):List D:=(l.filter fun p=>decide (p.2 < 0)).map fun p=>fP p.1
theorem psF_app (a b:List (Way×Int)):psF (a++b)=psF a++psF b:=by unfold psF; rw [List.filter_append,List.map_append]
theorem ngF_app (a b:List (Way×Int)):ngF (a++b)=ngF a++ngF b:=by unfold ngF; rw [List.filter_append,List.map_append]
theorem spr_pf (k:Str):∀ x:Way,((psF (spr k x 1)).Perm (pf k (fP x)).1∧(ngF (spr k x 1)).Perm (pf k (fP x)).2)∧((psF (spr k x (-1))).Perm (pf k (fP x)).2∧(ngF (spr k x (-1))).Perm (pf k (fP x)).1):=by
 intro x
 induction x with
 | num n =>
  refine ⟨⟨?_,?_⟩,?_,?_⟩ <;> exact List.Perm.refl _
 | op w a b ia ib =>
  by_cases e:knd w=k
  ·have es:∀ sg,spr k (.op w a b) sg=spr k a sg++spr k b (sg * (if trn w then -1 else 1)):=fun sg=>by rw [spr,if_pos e]
   have ef:pf k (fP (.op w a b))=(srtD ((pf k (fP a)).1++(swp (trn w) (pf k (fP b))).1),srtD ((pf k (fP a)).2++(swp (trn w) (pf k (fP b))).2)):=by
    rw [fP,pf_grp,if_pos e,e]
   rw [ef,es,es]
   obtain ⟨⟨a1,a2⟩,a3,a4⟩:=ia
   obtain ⟨⟨b1,b2⟩,b3,b4⟩:=ib
   rw [psF_app,ngF_app,psF_app,ngF_app]
   cases ht:trn w with
   | false =>
    simp only [Bool.false_eq_true,if_false,Int.mul_one]
    exact ⟨⟨(a1.append b1).trans (srtD_perm _).symm,(a2.append b2).trans (srtD_perm _).symm⟩,(a3.append b3).trans (srtD_perm _).symm,(a4.append b4).trans (srtD_perm _).symm⟩
   | true =>
    simp only [if_true]
    rw [show (1:Int) * -1=-1 by decide,show (-1:Int) * -1=1 by decide]
    exact ⟨⟨(a1.append b3).trans (srtD_perm _).symm,(a2.append b4).trans (srtD_perm _).symm⟩,(a3.append b1).trans (srtD_perm _).symm,(a4.append b2).trans (srtD_perm _).symm⟩
  ·have es:∀ sg,spr k (.op w a b) sg=[(.op w a b,sg)]:=fun sg=>by rw [spr,if_neg e]
   have ef:pf k (fP (.op w a b))=([fP (.op w a b)],[]):=by rw [fP,pf_grp,if_neg e]
   rw [ef,es,es]
   exact ⟨⟨.refl _,.refl _⟩,.refl _,.refl _⟩
theorem law_form {w:Str} {a b:Way} (h:(Way.op w a b).ok 1000000):D.tup [.str (knd w),.tup (srtD (psF (spr (knd w) (.op w a b) 1))),.tup (srtD (ngF (spr (knd w) (.op w a b) 1)))]=fP (.op w a b):=by
 obtain ⟨⟨h1,h2⟩,_⟩:=spr_pf (knd w) (.op w a b)
 have ef:pf (knd w) (fP (.op w a b))=(srtD ((pf (knd w) (fP a)).1++(swp (trn w) (pf (knd w) (fP b))).1),srtD ((pf (knd w) (fP a)).2++(swp (trn w) (pf (knd w) (fP b))).2)):=by rw [fP,pf_grp,if_pos rfl]
 rw [ef] at h1 h2
 have ff:=pf_form (k:=knd w) (fP_form h)
 rw [ef] at ff
 have g1:∀ x∈psF (spr (knd w) (.op w a b) 1),IsForm x:=fun x hx=>ff.2.1 x (h1.mem_iff.mp hx)
 have g2:∀ x∈ngF (spr (knd w) (.op w a b) 1),IsForm x:=fun x hx=>ff.2.2 x (h2.mem_iff.mp hx)
 rw [srtD_eq g1 (h1.trans (srtD_perm _)),srtD_eq g2 (h2.trans (srtD_perm _)),fP]
end Law
namespace Law
open PySem L2
theorem Dats.nilI (H:Hp):Dats H [] []:=by unfold Dats; rfl
theorem Dats.consI {H:Hp} {d:D} {ds:List D} {x:V} {xs:List V} (a:Dat H d x) (b:Dats H ds xs):Dats H (d :: ds) (x :: xs):=by unfold Dats; exact ⟨x,xs,rfl,a,b⟩
theorem Dats.consE {H:Hp} {d:D} {ds:List D} {xs:List V} (h:Dats H (d :: ds) xs):∃ x r,xs=x :: r∧Dat H d x∧Dats H ds r:=by unfold Dats at h; exact h
theorem Dats.nilE {H:Hp} {xs:List V} (h:Dats H [] xs):xs=[]:=by unfold Dats at h; exact h
theorem Dats.app {H:Hp}:∀ {a b:List D} {xs ys:List V},Dats H a xs→Dats H b ys→Dats H (a++b) (xs++ys)
 | [],b,xs,ys,h,h2=>by rw [h.nilE]; exact h2
 | d :: r,b,xs,ys,h,h2=>by
  obtain ⟨x,t,rfl,h1,h3⟩:=h.consE
  exact .consI h1 (Dats.app h3 h2)
theorem Dat.tupI {H:Hp} {ds:List D} {p:Addr} {xs:List V} (h:H p=some (.tup xs)) (d:Dats H ds xs):Dat H (.tup ds) (.ref p):=by unfold Dat; exact ⟨p,xs,rfl,h,d⟩
theorem Dat.tupE {H:Hp} {ds:List D} {v:V} (h:Dat H (.tup ds) v):∃ p xs,v=.ref p∧H p=some (.tup xs)∧Dats H ds xs:=by unfold Dat at h; exact h
theorem Dat.strI {H:Hp} (x:Str):Dat H (.str x) (.str x):=by unfold Dat; rfl
theorem Dat.strE {H:Hp} {x:Str} {v:V} (h:Dat H (.str x) v):v=.str x:=by unfold Dat at h; exact h
theorem Dat.intI {H:Hp} (i:Int):Dat H (.int i) (.int i):=by unfold Dat; rfl
theorem Dat.intE {H:Hp} {i:Int} {v:V} (h:Dat H (.int i) v):v=.int i:=by unfold Dat at h; exact h
theorem dat_grp {H:Hp} {k:Str} {m0:D} {more off:List D} {v:V} (h:Dat H (.tup [.str k,.tup (m0 :: more),.tup off]) v):∃ (p pm po:Addr) (x0:V) (xm xo:List V),v=.ref p∧H p=some (.tup [.str k,.ref pm,.ref po])∧H pm=some (.tup (x0 :: xm))∧H po=some (.tup xo)∧Dat H m0 x0∧Dats H more xm∧Dats H off xo:=by
 obtain ⟨p,xs,rfl,hp,h⟩:=h.tupE
 obtain ⟨a,r,rfl,ha,h⟩:=h.consE
 obtain ⟨b,r,rfl,hb,h⟩:=h.consE
 obtain ⟨c,r,rfl,hc,h⟩:=h.consE
 have:=h.nilE
 subst this
 have:=ha.strE
 subst this
 obtain ⟨pm,xm,rfl,hpm,hm⟩:=hb.tupE
 obtain ⟨po,xo,rfl,hpo,ho⟩:=hc.tupE
 obtain ⟨x0,r,rfl,h0,hm⟩:=hm.consE
 exact ⟨p,pm,po,x0,r,xo,rfl,hp,hpm,hpo,h0,hm,ho⟩
theorem szs_len:∀ l:List D,2 * l.length≤szs l
 | []=>Nat.zero_le _
 | d :: r=>by
  have:=szs_len r
  have:=sz_pos d
  rw [szs,List.length_cons]; lia
theorem sz_grp (k:Str) (m0:D) (more off:List D):szs (m0 :: more) + szs off + 5≤sz (.tup [.str k,.tup (m0 :: more),.tup off]):=by
 have e1:∀ l,sz (.tup l)=1 + szs l:=fun l=>by rw [sz]
 have e3:∀ (d:D) (r:List D),szs (d :: r)=sz d + 1 + szs r:=fun d r=>by rw [szs]
 have e4:szs []=0:=by rw [szs]
 rw [e1,e3 (.str k),e3 (.tup _),e3 (.tup off),e4,e1,e1]
 lia
theorem dat_fun {H:Hp} {d:D} (hd:IsForm d):∀ {e:D} {v:V},IsForm e→Dat H d v→Dat H e v→d=e:=by
 have rows:∀ {a b:List D} {xs:List V},(∀ x∈a,∀ {e:D} {v:V},IsForm e→Dat H x v→Dat H e v→x=e)→(∀ x∈b,IsForm x)→Dats H a xs→Dats H b xs→a=b:=by
  intro a
  induction a with
  | nil =>
   intro b xs _ _ h1 h2
   have:=h1.nilE
   subst this
   cases b with
   | nil=>rfl
   | cons y q=>obtain ⟨_,_,e,_⟩:=h2.consE; cases e
  | cons x r ih =>
   intro b xs hx hb h1 h2
   obtain ⟨u,t,rfl,g1,g2⟩:=h1.consE
   cases b with
   | nil=>have:=h2.nilE; cases this
   | cons y q =>
    obtain ⟨u',t',e,k1,k2⟩:=h2.consE
    cases e
    rw [hx x (List.mem_cons_self ..) (hb y (List.mem_cons_self ..)) g1 k1,ih (fun z hz=>hx z (List.mem_cons_of_mem _ hz)) (fun z hz=>hb z (List.mem_cons_of_mem _ hz)) g2 k2]
 induction hd with
 | @num i h0 h1 =>
  intro e v he h h'
  have:=h.intE
  subst this
  cases he with
  | @num j _ _=>have:=h'.intE; cases this; rfl
  | grp _ _ _ _=>obtain ⟨_,_,e,_⟩:=h'.tupE; cases e
 | @grp k m0 more off hk h0 h1 h2 i0 i1 i2 =>
  intro e v he h h'
  cases he with
  | @num j _ _=>have:=h'.intE; subst this; obtain ⟨_,_,e,_⟩:=h.tupE; cases e
  | @grp k' m0' more' off' hk' h0' h1' h2' =>
   obtain ⟨p,pm,po,x0,xm,xo,rfl,a1,a2,a3,a4,a5,a6⟩:=dat_grp h
   obtain ⟨p',pm',po',x0',xm',xo',e,b1,b2,b3,b4,b5,b6⟩:=dat_grp h'
   cases e
   rw [a1] at b1
   cases b1
   rw [a2] at b2
   cases b2
   rw [a3] at b3
   cases b3
   rw [i0 h0' a4 b4,rows i1 h1' a5 b5,rows i2 h2' a6 b6]
theorem dats_perm {H:Hp} {ys xs:List V} (p:ys.Perm xs):∀ {ds:List D},Dats H ds xs→∃ es,es.Perm ds∧Dats H es ys:=by
 induction p with
 | nil=>intro ds h; exact ⟨ds,.refl _,h⟩
 | cons x q ih =>
  intro ds h
  cases ds with
  | nil=>have:=h.nilE; cases this
  | cons d r =>
   obtain ⟨u,t,e,g1,g2⟩:=h.consE
   cases e
   obtain ⟨es,p1,p2⟩:=ih g2
   exact ⟨d :: es,p1.cons d,.consI g1 p2⟩
 | swap x y l =>
  intro ds h
  cases ds with
  | nil=>have:=h.nilE; cases this
  | cons d r =>
   obtain ⟨u,t,e,g1,g2⟩:=h.consE
   cases e
   cases r with
   | nil=>have:=g2.nilE; cases this
   | cons d2 r2 =>
    obtain ⟨u,t,e,g3,g4⟩:=g2.consE
    cases e
    exact ⟨d2 :: d :: r2,.swap ..,.consI g3 (.consI g1 g4)⟩
 | trans _ _ i1 i2 =>
  intro ds h
  obtain ⟨es,p1,h1⟩:=i2 h
  obtain ⟨fs,p2,h2⟩:=i1 h1
  exact ⟨fs,p2.trans p1,h2⟩
theorem dats_mem {H:Hp}:∀ {ds:List D} {xs:List V} {x:V},Dats H ds xs→x∈xs→∃ d∈ds,Dat H d x
 | [],xs,x,h,hx=>by rw [h.nilE] at hx; cases hx
 | d :: r,xs,x,h,hx=>by
  obtain ⟨u,t,rfl,g1,g2⟩:=h.consE
  rcases List.mem_cons.mp hx with rfl | hx
  ·exact ⟨d,List.mem_cons_self ..,g1⟩
  ·obtain ⟨e,he,k⟩:=dats_mem g2 hx
   exact ⟨e,List.mem_cons_of_mem _ he,k⟩
theorem dats_memL {H:Hp}:∀ {ds:List D} {xs:List V} {d:D},Dats H ds xs→d∈ds→∃ x∈xs,Dat H d x
 | [],xs,x,h,hx=>by cases hx
 | d :: r,xs,x,h,hx=>by
  obtain ⟨u,t,rfl,g1,g2⟩:=h.consE
  rcases List.mem_cons.mp hx with rfl | hx
  ·exact ⟨u,List.mem_cons_self ..,g1⟩
  ·obtain ⟨e,he,k⟩:=dats_memL g2 hx
   exact ⟨e,List.mem_cons_of_mem _ he,k⟩
open Classical in
noncomputable def keyH (H:Hp) (v:V):List Int:=if h:∃ d,IsForm d∧Dat H d v then kD h.choose else []
theorem keyH_eq {H:Hp} {v:V} {d:D} (hf:IsForm d) (h:Dat H d v):keyH H v=kD d:=by
 unfold keyH
 have e:∃ d,IsForm d∧Dat H d v:=⟨d,hf,h⟩
 rw [dif_pos e]
 rw [dat_fun e.choose_spec.1 hf e.choose_spec.2 h]
theorem dats_ord {H:Hp}:∀ {es:List D} {ys:List V},(∀ x∈es,IsForm x)→Dats H es ys→ys.Pairwise (fun a b=>lx (keyH H b) (keyH H a)=false)→Ord es
 | [],ys,_,_,_=>List.Pairwise.nil
 | d :: r,ys,hf,h,o=>by
  obtain ⟨u,t,rfl,g1,g2⟩:=h.consE
  obtain ⟨o1,o2⟩:=List.pairwise_cons.mp o
  refine List.pairwise_cons.mpr ⟨fun e he=>?_,dats_ord (fun z hz=>hf z (List.mem_cons_of_mem _ hz)) g2 o2⟩
  obtain ⟨x,hx,k⟩:=dats_memL g2 he
  have:=o1 x hx
  rw [keyH_eq (hf e (List.mem_cons_of_mem _ he)) k,keyH_eq (hf d (List.mem_cons_self ..)) g1] at this
  exact this
theorem sorted_dats {H H':Hp} {xs ys:List V} {ds:List D} (s:Same H H') (hf:∀ x∈ds,IsForm x) (h:Dats H ds xs) (p:ys.Perm xs) (o:ys.Pairwise (fun a b=>lx (keyH H b) (keyH H a)=false)):Dats H' (srtD ds) ys:=by
 obtain ⟨es,p1,h1⟩:=dats_perm p h
 have e:=srtD_of hf p1 (dats_ord (fun x hx=>hf x (p1.mem_iff.mp hx)) h1 o)
 rw [← e]
 exact Dats.kt (KT.same s) _ h1
theorem kS_len:∀ {l:List D},(∀ x∈l,(kD x).length≤2 * sz x)→(kS l).length≤2 * szs l
 | [],_=>by rw [kS_nil]; exact Nat.zero_le _
 | d :: r,h=>by
  have ih:=kS_len (l:=r) fun x hx=>h x (List.mem_cons_of_mem _ hx)
  have:=h d (List.mem_cons_self ..)
  rw [kS_cons,szs,List.length_append]
  lia
theorem kD_len {d:D} (h:IsForm d):(kD d).length≤2 * sz d:=by
 induction h with
 | @num i _ _=>rw [kD_int]; have:=sz_pos (.int i); show 2≤_; lia
 | @grp k m0 more off hk h0 h1 h2 i0 i1 i2 =>
  have sg:=sz_grp k m0 more off
  have a:=kS_len (l:=m0 :: more) (fun x hx=>by rcases List.mem_cons.mp hx with rfl | hx; exact i0; exact i1 x hx)
  have b:=kS_len i2
  rw [kD_grp,List.length_cons,List.length_append,List.length_cons,List.length_append]
  show _ + (_ + (1) + 1) + 1≤_
  lia
theorem szs_app:∀ (a b:List D),szs (a++b)=szs a + szs b
 | [],b=>by rw [szs]; simp
 | d :: r,b=>by
  show szs (d :: (r++b))=_
  rw [szs,szs,szs_app r b]
  lia
theorem szs_perm {a b:List D} (p:a.Perm b):szs a=szs b:=by
 induction p with
 | nil=>rfl
 | cons x _ ih=>rw [szs,szs,ih]
 | swap x y l=>rw [szs,szs,szs,szs]; lia
 | trans _ _ i1 i2=>rw [i1,i2]
theorem sz_grpE (k:Str) (more off:List D):sz (.tup [.str k,.tup more,.tup off])=szs more + szs off + 7:=by
 have e1:∀ l,sz (.tup l)=1 + szs l:=fun l=>by rw [sz]
 have e2:sz (.str k)=1:=by rw [sz]; all_goals simp
 have e3:∀ (d:D) (r:List D),szs (d :: r)=sz d + 1 + szs r:=fun d r=>by rw [szs]
 have e4:szs []=0:=by rw [szs]
 rw [e1,e3 (.str k),e3 (.tup more),e3 (.tup off),e4,e2,e1,e1]
 lia
theorem pf_sz {k:Str} {d:D} (h:IsForm d):szs (pf k d).1 + szs (pf k d).2≤sz d + 1:=by
 have e0:szs []=0:=by rw [szs]
 have e1:∀ (d:D) (r:List D),szs (d :: r)=sz d + 1 + szs r:=fun d r=>by rw [szs]
 have one:∀ d:D,szs [d] + szs []=sz d + 1:=fun d=>by rw [e1,e0]
 cases h with
 | num h0 h1=>rw [pf_int]; exact Nat.le_of_eq (one _)
 | @grp k' m0 more off hk g0 g1 g2 =>
  rw [pf_grp]
  split
  ·rw [sz_grpE]; show szs (m0 :: more) + szs off≤_; lia
  ·exact Nat.le_of_eq (one _)
theorem swp_sz (b:Bool) (p:List D×List D):szs (swp b p).1 + szs (swp b p).2=szs p.1 + szs p.2:=by
 cases b
 ·rfl
 ·show szs p.2 + szs p.1=_; lia
theorem fP_sz:∀ {x:Way},x.ok 1000000→sz (fP x) + 10≤11 * x.size:=by
 intro x
 induction x with
 | num n=>intro _; show sz (.int n) + 10≤11 * 1; rw [sz]; all_goals simp
 | op w a b ia ib =>
  intro h
  obtain ⟨_,ha,hb⟩:=h
  have fa:=pf_sz (k:=knd w) (fP_form ha)
  have fb:=pf_sz (k:=knd w) (fP_form hb)
  have sw:=swp_sz (trn w) (pf (knd w) (fP b))
  have i1:=ia ha
  have i2:=ib hb
  rw [fP,sz_grpE,szs_perm (srtD_perm _),szs_perm (srtD_perm _),szs_app,szs_app]
  show _≤11 * (a.size + b.size)
  lia
theorem mem_sz:∀ {l:List D} {x:D},x∈l→sz x + 1≤szs l
 | d :: r,x,h=>by
  rw [szs]
  rcases List.mem_cons.mp h with rfl | h
  ·lia
  ·have:=mem_sz h; lia
end Law
namespace Law
open PySem L2
end Law
namespace Law
open PySem L2
theorem fP_of {w w':Str} {a b a' b':Way} (h:(Way.op w a b).ok 1000000) (h':(Way.op w' a' b').ok 1000000) (ek:knd w=knd w') (p:(spr (knd w) (.op w a b) 1).Perm (spr (knd w) (.op w' a' b') 1)):fP (.op w a b)=fP (.op w' a' b'):=by
 obtain ⟨⟨x1,x2⟩,_⟩:=spr_pf (knd w) (.op w a b)
 have ff:=pf_form (k:=knd w) (fP_form h)
 have q1:(psF (spr (knd w) (.op w a b) 1)).Perm (psF (spr (knd w) (.op w' a' b') 1)):=(p.filter _).map _
 have q2:(ngF (spr (knd w) (.op w a b) 1)).Perm (ngF (spr (knd w) (.op w' a' b') 1)):=(p.filter _).map _
 have g1:∀ x∈psF (spr (knd w) (.op w a b) 1),IsForm x:=fun x hx=>ff.2.1 x (x1.mem_iff.mp hx)
 have g2:∀ x∈ngF (spr (knd w) (.op w a b) 1),IsForm x:=fun x hx=>ff.2.2 x (x2.mem_iff.mp hx)
 rw [← law_form h,← law_form h',← ek,srtD_eq g1 q1,srtD_eq g2 q2]
theorem sprO {k w:Str} {a b:Way} {sg:Int} (h:knd w=k):spr k (.op w a b) sg=spr k a sg++spr k b (sg * (if trn w then -1 else 1)):=by rw [spr,if_pos h]
theorem twin_swap {w:Str} {a b:Way} (h:(Way.op w a b).ok 1000000) (ht:trn w=false):fP (.op w b a)=fP (.op w a b):=by
 obtain ⟨hw,ha,hb⟩:=id h
 refine fP_of ⟨hw,hb,ha⟩ h rfl ?_
 rw [sprO rfl,sprO rfl,ht]
 simp only [Bool.false_eq_true,if_false,Int.mul_one]
 exact List.perm_append_comm
theorem twin_left {w v:Str} {a b c:Way} (h:(Way.op w (.op v a b) c).ok 1000000) (ek:knd v=knd w):fP (.op v (.op w a c) b)=fP (.op w (.op v a b) c):=by
 obtain ⟨hw,⟨hv,ha,hb⟩,hc⟩:=id h
 refine fP_of ⟨hv,⟨hw,ha,hc⟩,hb⟩ h ek ?_
 rw [sprO rfl,sprO ek.symm,sprO ek.symm,sprO rfl]
 simp only [List.append_assoc]
 exact List.Perm.append_left _ List.perm_append_comm
theorem twin_right {w v l:Str} {a b c:Way} (h:(Way.op w a (.op v b c)).ok 1000000) (ol:okWord l) (ev:knd v=knd w) (el:knd l=knd w) (ht:trn l=(trn w != trn v)):fP (.op l (.op w a b) c)=fP (.op w a (.op v b c)):=by
 obtain ⟨hw,ha,hv,hb,hc⟩:=id h
 refine fP_of ⟨ol,⟨hw,ha,hb⟩,hc⟩ h el ?_
 rw [sprO rfl,sprO el.symm,sprO el.symm,sprO (ev.trans el.symm),ht]
 have e:(1:Int) * (if (trn w != trn v)=true then -1 else 1)=1 * (if trn w=true then -1 else 1) * (if trn v=true then -1 else 1):=by
  cases trn w <;> cases trn v <;> decide
 rw [e,List.append_assoc]
theorem kD_twin {x y:Way} (hx:x.ok 1000000) (hy:y.ok 1000000):kD (fP x)=kD (fP y)↔fP x=fP y:=⟨fun h=>kD_inj (fP_form hx) (fP_form hy) h,fun h=>by rw [h]⟩
end Law
namespace L2
open PySem PySem.Spec PyProof.Rows
section
variable {M:Model} {A:Around} {E:Value→Shared→Prop} {s:Shared}
end
section
variable {X:Cx}
end
end L2
namespace L2
open PySem PySem.Spec PyProof.Rows
section
variable {prog:Program} {w:World} {A:Around} {R:Result→Shared→Prop} {s:Shared}
end
section
variable {X:Cx}
end
end L2
namespace L2
open PySem PySem.Spec PyProof.Rows
section
variable {M:Model} {A:Around} {E:Value→Shared→Prop} {s:Shared}
end
section
variable {X:Cx} {σ:St} {H:Hp} {s:Shared}
end
section
variable {X:Cx} {E:XS} {M:Model} {A:Around} {F:Value→Shared→Prop} {s:Shared} {ev:Value} {tb:Bool} {mk:Option Bool}
end
section
variable {X:Cx} {E:XS}
end
section
variable {X:Cx} {E:XS} {k:Nat} {sp:Sp} {x:Str} {p pos:Pos} {e:Expr} {es:List Expr} {t:TA}
end
section
variable {P:Program} {w:World} {K:PySem.W.Frag} {mg:Str→Option Value} {base:Heap}
end
section
variable {X:Cx} {pins:List (Addr×Obj)} {σ:St} {H:Hp} {s:Shared}
end
end L2
namespace L2
open PySem PySem.Spec PyProof.Rows
section
variable {X:Cx} {pins:List (Addr×Obj)} {σ:St} {H:Hp} {s:Shared}
end
section
variable {M:Model} {A:Around} {E:Value→Shared→Prop}
end
section
variable {X:Cx} {i:Nat} {n x:Str} {C:Addr} {bw:List Value} {body suite:List Stmt} {b0:Stmt} {np hp pos:Pos} {tb:XS→TS} {ts:TS}
end
end L2
namespace L2
open PySem PySem.Spec PyProof.Rows
section
variable {K:PySem.W.Frag} {C W:Addr} {bm bw:List Value}
end
section
variable {prog:Program} {w:World} {A:Around} {E:Value→Shared→Prop} {h:Heap} {g:Array GenState} {d:Drawn} {t:Nat} {os:OsState} {K:PySem.W.Frag} {C:Addr} {bm us:List Value}
end
end L2
namespace L2
open PySem PySem.Spec PyProof.Rows
section
variable {prog:Program} {w:World} {A:Around} {E:Value→Shared→Prop} {s:Shared} {K:PySem.W.Frag} {C x:Addr} {bm:List Value} {ox:Obj} {od:Option Obj} {name:Str}
end
end L2
namespace L2
open PySem PySem.Spec PyProof.Rows
section
variable {X:Cx} {a c o e value:Expr} {ta tc tv:TE} {p pos pos':Pos} {f:Str}
end
section
variable {X:Cx} {pins:List (Addr×Obj)} {σ:St} {H:Hp} {s:Shared}
end
section
variable {X:Cx} {C f:Addr} {bm:List Value} {k:Nat} {fd:FuncData} {ps:List Str} {sp:Sp} {x:Str} {p pos rpos:Pos} {e:Expr} {es:List Expr} {t:TA}
end
section
variable {X:Cx} {E:XS} {k:Nat} {Fam:Addr→Sp→Prop} {x:Str} {p pos:Pos} {e:Expr} {es:List Expr} {tf:TE} {t:TA}
end
end L2
namespace L2
open PySem PySem.Spec PyProof.Rows
section
variable {P:Program} {w:World} {K:PySem.W.Frag} {mg:Str→Option Value} {base:Heap}
end
end L2
namespace L2
open PySem PySem.Spec PyProof.Rows
section
variable {X:Cx} {tg:Expr}
end
end L2
namespace L2
open PySem PySem.Spec PyProof.Rows PySem.Builtin.Str
variable {X:Cx}
theorem bt_max:bootBuiltins "max"=some (.builtin "max"):=by decide +kernel
theorem bt_min:bootBuiltins "min"=some (.builtin "min"):=by decide +kernel
end L2
namespace L2
open PySem PySem.Spec PyProof.Rows PySem.Builtin.Str
variable {X:Cx}
end L2
namespace L2
open PySem PySem.Spec PyProof.Rows PySem.Builtin.Str
variable {X:Cx}
end L2
namespace L2
open PySem PySem.Spec PyProof.Rows
structure Wr (p:Prop):Prop where
 un:p
section
variable {X:Cx} {e:Expr} {es:List Expr} {te:TE} {t:TA} {pos:Pos} {a b:Expr} {ta tb:TE}
theorem w_str {x:Str} {j:Nat}:Wr (PE X (.Constant (.str x) j pos) (tC (.str x))):=⟨pe_str⟩
theorem w_nil:Wr (PA X [] tNil):=⟨pa_nil⟩
theorem w_cons (ha:Wr (PE X e te)) (hr:Wr (PA X es t)) (hs:starEach (e :: es) X.env=(false,eval e X.env) :: starEach es X.env:=by rfl):Wr (PA X (e :: es) (tCons te t)):=⟨pa_cons ha.un hr.un hs⟩
theorem w_set {i:Nat} {x:Str} {pos':Pos} (hN:X.N.Nodup) (hi:X.N[i]?=some x) (hx:Loc X.env.scope x) (he:Wr (PE X e te)) (hs:swapsWith e (some (.Name x pos')) pos.line X.env=pure false:=by rfl) (hf:X.fn x=true∨X.env.scope.names.lookup x=some .local:=by first | exact .inl rfl | exact .inr rfl | assumption) :
  Wr (PS X (.Assign [.Name x pos'] e pos) (tAsg te (gName i))):=⟨ps_set hN hi hx he.un hs hf⟩
theorem wss_cons {st:Stmt} {rest:List Stmt} {t u:TS} (h1:Wr (PS X st t)) (h2:Wr (PSs X rest u)):Wr (PSs X (st :: rest) (tSeq t u)):=⟨pss_cons h1.un h2.un⟩
theorem wss_one {st:Stmt} {t:TS} (h1:Wr (PS X st t)):Wr (PSs X [st] t):=⟨pss_one h1.un⟩
end
section
variable {P:Program} {w:World} {K:PySem.W.Frag} {mg:Str→Option Value} {base:Heap}
theorem Fun.okW {x qual:Str} {st:Stmt} {f:Addr} {fd:FuncData} {N ps:List Str} {k:Nat} {sp:Sp} (F:Fun K x qual st f fd) (S:FnScope N ps (defScope st)) (len:∀ vs H Q E,sp vs H Q E→vs.length=ps.length)
  (hb:∀ (cdv:Value) (A:Around) (outer:List Env) (s:Shared) (H:Hp) (vs:List V) (Q:VK) (E:XK),Room k (A.deeper (envOfC qual (defScope st) s.heap.objs.size f cdv))→sp vs H Q E →
   ∃ t,Wr (PSs (cxOf CX0 P w K mg base N qual (defScope st) f cdv A outer s H E).nox (defBody st) t)∧t { nx:=fun _ H'=>Q .non H',rt:=Q } (start N vs) H):FnOk P w K mg base CX0 (k + 1) f fd ps sp :=
 F.ok S len fun cdv A outer s H vs Q E hr h=>by
  obtain ⟨t,h1,q⟩:=hb cdv A outer s H vs Q E hr h
  exact ⟨t,h1.un,q⟩
end
end L2
namespace L2
open PySem PySem.Spec PyProof.Rows
variable {X:Cx}
end L2
namespace HT
open PySem PySem.Spec PyProof.Rows
section
variable {prog:Program} {w:World} {A:Around} {E:Value→Shared→Prop} {s:Shared}
end
end HT
namespace L2
open PySem PySem.Spec PyProof.Rows
variable {X:Cx}
end L2
namespace L2
open PySem PySem.Spec PyProof.Rows
theorem star_tup {es:List Expr} {k:Nat} {pos:Pos} {r:List Expr} {env:Env}:starEach (.Tuple es k pos :: r) env=(false,eval (.Tuple es k pos) env) :: starEach r env:=rfl
theorem w_tup {X:Cx} {es:List Expr} {t:TA} {k:Nat} {pos:Pos} (h:Wr (PA X es t)):Wr (PE X (.Tuple es k pos) (tTup t)):=⟨pe_tup h.un⟩
end L2
namespace Law
open PySem L2
end Law
namespace Law
open PySem L2
end Law
namespace Law
open PySem L2
end Law
namespace Law
open PySem L2
noncomputable def nmW:Way→List Int
 | .num n=>[n]
 | .op _ a b=>nmW a++nmW b
mutual
noncomputable def nmD:D→List Int
 | .int i=>[i]
 | .tup l=>nmL l
 | _=>[]
noncomputable def nmL:List D→List Int
 | []=>[]
 | d :: r=>nmD d++nmL r
end
theorem nmL_nil:nmL []=[]:=by rw [nmL]
theorem nmL_cons (d:D) (r:List D):nmL (d :: r)=nmD d++nmL r:=by rw [nmL]
theorem nmD_int (i:Int):nmD (.int i)=[i]:=by rw [nmD]
theorem nmD_grp (k:Str) (m o:List D):nmD (.tup [.str k,.tup m,.tup o])=nmL m++nmL o:=by
 have e:nmD (.str k)=[]:=by rw [nmD] <;> intros <;> simp_all
 rw [nmD,nmL_cons,nmL_cons,nmL_cons,nmL_nil,e,nmD,nmD,List.append_nil,List.nil_append]
theorem nmL_app:∀ a b:List D,nmL (a++b)=nmL a++nmL b
 | [],b=>by rw [nmL_nil]; rfl
 | d :: r,b=>by rw [List.cons_append,nmL_cons,nmL_cons,nmL_app r b,List.append_assoc]
theorem nmL_perm {a b:List D} (h:a.Perm b):(nmL a).Perm (nmL b):=by
 induction h with
 | nil=>exact .refl _
 | cons x _ ih=>rw [nmL_cons,nmL_cons]; exact ih.append_left _
 | swap x y l=>rw [nmL_cons,nmL_cons,nmL_cons,nmL_cons,← List.append_assoc,← List.append_assoc]; exact List.perm_append_comm.append_right _
 | trans _ _ i j=>exact i.trans j
theorem pf_nm {k:Str} {d:D} (h:IsForm d):nmL (pf k d).1++nmL (pf k d).2=nmD d:=by
 have one:nmL [d]++nmL []=nmD d:=by rw [nmL_cons,nmL_nil,List.append_nil,List.append_nil]
 cases h with
 | num h0 h1=>rw [pf_int]; exact one
 | @grp k' m0 more off hk g0 g1 g2 =>
  rw [pf_grp]
  split
  ·rw [nmD_grp]
  ·exact one
theorem four {α:Type} (a b c d:List α):((a++c)++(b++d)).Perm ((a++b)++(c++d)):=by
 rw [List.append_assoc,List.append_assoc]
 refine List.Perm.append_left a ?_
 rw [← List.append_assoc,← List.append_assoc]
 exact List.perm_append_comm.append_right d
theorem fP_nm:∀ {x:Way},x.ok 1000000→(nmD (fP x)).Perm (nmW x):=by
 intro x
 induction x with
 | num n=>intro _; rw [fP,nmD_int]; exact .refl _
 | op w a b ia ib =>
  intro h
  obtain ⟨hw,ha,hb⟩:=id h
  have pa:=pf_nm (k:=knd w) (fP_form ha)
  have pb:=pf_nm (k:=knd w) (fP_form hb)
  have pbs:(nmL (swp (trn w) (pf (knd w) (fP b))).1++nmL (swp (trn w) (pf (knd w) (fP b))).2).Perm (nmD (fP b)):=by
   unfold swp
   split
   ·refine List.perm_append_comm.trans ?_
    rw [← pb]
   ·rw [← pb]
  rw [fP,nmD_grp]
  have s1:=nmL_perm (srtD_perm ((pf (knd w) (fP a)).1++(swp (trn w) (pf (knd w) (fP b))).1))
  have s2:=nmL_perm (srtD_perm ((pf (knd w) (fP a)).2++(swp (trn w) (pf (knd w) (fP b))).2))
  rw [nmL_app] at s1 s2
  refine (s1.append s2).trans ((four _ _ _ _).trans ?_)
  rw [pa,nmW]
  exact (ia ha).append (pbs.trans (ib hb))
end Law
namespace L2
open PySem PySem.Spec PyProof.Rows
section
variable {prog:Program} {w:World} {A:Around} {E:Value→Shared→Prop} {s:Shared}
theorem walks_from {it l:Addr} {items:Array Value} {j:Nat} (hne:l≠it) (hh:A.handled=none) (hj:j≤items.size) :
  Walks prog w A it [it,l] [it] (items.size - j) (fun i v=>items[j + i]?=some v) (fun i h=>h.IsListIter it l (j + i)∧h.IsList l items) where
 sub:=fun b hb=>by rw [List.mem_singleton.mp hb]; exact List.mem_cons_self
 frame:=fun i h h' ⟨⟨o,h1,h2⟩,⟨o',g1,g2⟩⟩ k=>⟨⟨o,k it List.mem_cons_self o h1,h2⟩,⟨o',k l (List.mem_cons_of_mem _ List.mem_cons_self) o' g1,g2⟩⟩
 item:=fun i s Q E hi ⟨hit,hl⟩ hQ=>by
  have hlt:j + i < items.size:=by lia
  refine wpAny_pyNext_list_item hit hl (x:=items[j + i]) (by simp [hlt]) fun h' hit' hs'=>?_
  exact hQ _ h' s.toks (by simp [hlt]) ⟨by rw [← Nat.add_assoc]; exact hit',hl.extBut hs'.extBut hne⟩ fun b o hb e=>hs'.extBut b o (fun z=>hb (by rw [z]; exact List.mem_cons_self)) e
 done:=fun s Q E ⟨hit,hl⟩ hQ=>wpAny_pyNext_list_end hh hit hl (by rw [show j + (items.size - j)=items.size by lia]; simp) fun h' he=>hQ h' s.toks fun b o hb e=>he b o (fun z=>hb (by rw [z]; exact List.mem_cons_self)) e
 self:=fun i s Q E ⟨hit,_⟩ q=>wpAny_pyIter_listiter hit q
theorem moved_eq {wr:List Addr} {s s':Shared} (m:Moved wr (fun a b=>b=a) s s'):s'={ s with heap:=s'.heap,toks:=s'.toks }:=by
 obtain ⟨h1,h2,h3,h4,h5⟩:=m
 cases s
 cases s'
 simp only at h2 h3 h4
 subst h2 h3 h4
 rfl
theorem star_items {l:Addr} {x:Value} {r:List Value} {Q:List Value→Shared→Prop} (hh:A.handled=none) (hl:s.heap.IsList l (x :: r).toArray) (hz:r.length≤sizeLine)
  (hQ:∀ (h':Heap) tk,(∀ b o,s.heap.get? b=some o→h'.get? b=some o)→Q [x,.ref h'.objs.size] { s with heap:=h'.push { cls:=.type "list",data:=.seq r.toArray },toks:=tk }):wpAny (model prog w) A (unpackItems (.ref l) 2 (some 1)) Q E s:=by
 have hlt:l < s.heap.objs.size:=by obtain ⟨o,ho,_⟩:=hl; exact Heap.lt_size ho
 have hne:l≠s.heap.objs.size:=Nat.ne_of_lt hlt
 unfold unpackItems
 refine wpAny_bind ?_
 unfold notIterableAtAll
 refine wpAny_bind (wpAny_specialOf hl.typeIs slot_list_iter.lookup ?_)
 refine wpAny_pure ?_
 simp only [Bool.false_eq_true,if_false]
 refine wpAny_bind (wpAny_holding (wpAny_pyIter_list hl ?_))
 refine wpAny_bind (wpAny_holding (PySem.W.kun_draw hne 1 0 _ _ ⟨_,Heap.get?_push_size _ rfl,rfl,rfl⟩ (hl.push _) (by simp) fun h₁ hit₁ hs₁=>?_))
 have e1:(List.drop 0 (x :: r).toArray.toList).take 1=[x]:=rfl
 rw [e1]
 rw [if_neg (by simp)]
 have hl₁:h₁.IsList l (x :: r).toArray:=(hl.push _).extBut hs₁.extBut hne
 have hk:∀ b o,s.heap.get? b=some o→h₁.get? b=some o:=fun b o e=>hs₁.extBut b o (Nat.ne_of_lt (Heap.lt_size e)) (Heap.get?_push_of_some _ e)
 have W:=(walks_from (prog:=prog) (w:=w) (A:=A.in1) (it:=s.heap.objs.size) (l:=l) (items:=(x :: r).toArray) (j:=1) hne hh (by simp)).toS
 refine wpAny_bind (wpAny_holding (wpAny_collect_iter (T:="list_iterator") (.inr (.inr (.inl rfl))) W (fun i s ⟨h,_⟩=>h.typeIs) ⟨hit₁,hl₁⟩ ?_ List.mem_cons_self (fun s' acc hm hi=>?_) ?_))
 ·intro b hb
  rcases List.mem_cons.mp hb with z | hb
  ·rw [z]; exact Heap.lt_size hit₁.choose_spec.1
  ·rw [List.mem_singleton.mp hb]; exact Heap.lt_size hl₁.choose_spec.1
 ·have ea:acc.toList=r:=by
   obtain ⟨h1,h2⟩:=hi
   apply List.ext_getElem?
   intro i
   by_cases hi:i < acc.size
   ·have e2:=h2 i acc[i] (by simp [hi])
    have e3:(x :: r)[1 + i]?=r[i]?:=by rw [Nat.add_comm]; rfl
    rw [← e3]
    rw [show acc.toList[i]?=some acc[i] by simp [hi]]
    have e4:(x :: r).toArray[1 + i]?=(x :: r)[1 + i]?:=by simp
    rw [← e4]
    exact e2.symm
   ·have hs:acc.size=r.length:=by rw [h1]; simp
    rw [List.getElem?_eq_none (by simpa using hi),List.getElem?_eq_none (by lia)]
  rw [ea,moved_eq hm]
  have hk2:∀ b o,s.heap.get? b=some o→s'.heap.get? b=some o:=fun b o e=>hm.heap b o (fun z=>Nat.ne_of_lt (Heap.lt_size e) (List.mem_singleton.mp z)) (hk b o e)
  rw [if_neg (by simp)]
  have et:r.take (r.length - (2 - 1 - 1))=r:=List.take_of_length_le (by simp)
  have ed:r.drop (r.length - (2 - 1 - 1))=[]:=List.drop_eq_nil_of_le (by simp)
  rw [et,ed]
  refine wpAny_bind (wpAny_newList ?_ hz)
  refine wpAny_pure ?_
  exact hQ s'.heap s'.toks hk2
 ·simp; lia
end
section
variable {X:Cx} {pos:Pos}
noncomputable def gStar (K:PySem.W.Frag) (t:TGs):TG:=fun v σ H Q=>∃ a x xs,v=.ref a∧SqL K H a (x :: xs)∧∀ p,H p=none→t [x,.ref p] σ (upd H p (.lst xs)) Q
theorem pg_star {e1 e2:Expr} {p2:Pos} {k:Nat} {t:TGs} (hc:X.calm=true) (h:PGs X [e1,e2] t)
  (hn:(assignEach [e1,.Starred e2 p2] X.env).length=2:=by rfl) (hst:(assignEach [e1,.Starred e2 p2] X.env).findIdx? (·.1)=some 1:=by rfl)
  (hm:(assignEach [e1,.Starred e2 p2] X.env).map (·.2)=(assignEach [e1,e2] X.env).map (·.2):=by rfl):PG X (.Tuple [e1,.Starred e2 p2] k pos) (gStar X.K t):=by
 intro pins s σ H v u Q I r hw
 obtain ⟨a,x,xs,e1,hq,hw⟩:=hw
 subst e1
 cases r
 obtain ⟨its,rv,ht,hz⟩:=I.list hq
 cases rv with
 | cons rx rr =>
  rw [assign_Tuple]
  refine wpAny_bind (wpAny_standAt ?_)
  unfold unpack
  rw [hn,hst,hm]
  have hz':xs.length≤sizeLine:=Nat.le_trans (Nat.le_succ _) hz
  refine wpAny_bind (wpAny_holding (star_items (I.ok.hd hc) ht.isList (by rw [← rr.length]; exact hz') fun h' tk hk=>?_))
  have I1:Inv X pins σ H { s with heap:=h',toks:=tk }:=I.kept hk
  have I2:Inv X pins σ (upd H h'.objs.size (.lst xs)) { s with heap:=h'.push _,toks:=tk }:=I1.laid (t':=tk) (fun b u e=>Heap.get?_push_of_some _ e) (Nat.le_refl _) (show ObjOk X.prog X.w _ _ _ (.lst xs) from ⟨hz',_,0,rr,Heap.get?_push_size _ rfl⟩)
  exact h pins _ σ _ [x,.ref h'.objs.size] _ Q I2 (.cons rx (.cons rfl .nil)) (hw _ (I1.hok.fresh (Nat.le_refl _)))
end
end L2
namespace L2
open PySem PySem.Spec PyProof.Rows PySem.Builtin PySem.Builtin.Str
section
variable {X:Cx} {pins:List (Addr×Obj)} {σ:St} {H:Hp} {s:Shared}
theorem vals_strs:∀ l:List (Str×Tok),Vals ((l.map (·.1)).map V.str) (strValues l)
 | []=>.nil
 | p :: r=>.cons ⟨p.2,rfl⟩ (vals_strs r)
theorem strs_ep {Q:VK} (I:Inv X pins σ H s) {l:List (Str×Tok)} {k:Nat} (hz:l.length≤sizeLine) (q:∀ p,H p=none→Q (.ref p) (upd H p (.lst ((l.map (·.1)).map V.str)))) :
  EP X pins σ Q (.ref s.heap.objs.size) { s with heap:=s.heap.push { cls:=.type "list",data:=.seq (strValues l).toArray },toks:=k } :=
 ⟨.ref s.heap.objs.size,_,I.laid (t':=k) (fun b u e=>Heap.get?_push_of_some _ e) (Nat.le_refl _) (show ObjOk X.prog X.w _ _ _ (.lst ((l.map (·.1)).map V.str)) from ⟨by rw [List.length_map,List.length_map]; exact hz,strValues l,0,vals_strs l,Heap.get?_push_size _ rfl⟩),rfl,q _ (I.hok.fresh (Nat.le_refl _))⟩
theorem mt_split1:MtR X "str.split" (fun x xs H Q=>∃ (z y:Str),x=.str z∧xs=[.str y]∧(y.length == 0)=false∧z.length + 2≤sizeLine∧∀ p,H p=none→Q (.ref p) (upd H p (.lst ((Txt.split z y).map V.str)))):=by
 intro pins s σ H x xs v us Q I rx rs h
 obtain ⟨z,y,rfl,rfl,hy,hsz,q⟩:=h
 obtain ⟨t,rfl⟩:=rx
 obtain ⟨u,rfl,⟨t2,rfl⟩⟩:=vals1 rs
 have hn:(partsBetween z (occurrences z y 0 z.length (z.length + 1)) y.length).length≤sizeLine:=by
  have e1:=StrLaws.occ_length_le z y 0 z.length (z.length + 1)
  rw [length_partsBetween]; lia
 have h1l:1≤sizeLine:=by decide
 cases h1:(decide (z.length < y.length) || decide (strKind z < strKind y))
 ·cases hf:(occurrences z y 0 z.length (z.length + 1)).isEmpty
  ·refine call_meets F.slot_str_split (typeIs_str _ _ _) F.entry_str_split (F.args_str_split_2 _ _) (meets_str_split_sep z y t t2 h1 hy hf (by lia) hn) ?_
   show wants _ _ _ { s with toks:=_,heap:=s.heap.push { cls:=.type "list",data:=.seq (strsFrom s.toks (partsBetween z (occurrences z y 0 z.length (z.length + 1)) y.length)).toArray } }
   rw [strsFrom_eq]
   have e:(numbered s.toks (partsBetween z (occurrences z y 0 z.length (z.length + 1)) y.length)).map (·.1)=Txt.split z y:=(numbered_texts _ _).trans ((if_neg (ne_true_of_eq_false h1)).trans (if_neg (ne_true_of_eq_false hf))).symm
   refine strs_ep I ?_ (by rw [e]; exact q)
   have e2:=congrArg List.length (numbered_texts s.toks (partsBetween z (occurrences z y 0 z.length (z.length + 1)) y.length))
   rw [List.length_map] at e2
   rw [e2]; exact hn
  ·have e:[(z,t)].map (·.1)=Txt.split z y:=((if_neg (ne_true_of_eq_false h1)).trans (if_pos hf)).symm
   exact call_meets F.slot_str_split (typeIs_str _ _ _) F.entry_str_split (F.args_str_split_2 _ _) (meets_str_split_not_found z y t t2 h1 hy hf) (strs_ep (l:=[(z,t)]) (k:=s.toks) I h1l (by rw [e]; exact q))
 ·have e:[(z,t)].map (·.1)=Txt.split z y:=(if_pos h1).symm
  exact call_meets F.slot_str_split (typeIs_str _ _ _) F.entry_str_split (F.args_str_split_2 _ _) (meets_str_split_cannot_occur z y t t2 h1) (strs_ep (l:=[(z,t)]) (k:=s.toks) I h1l (by rw [e]; exact q))
theorem mt_splitlines:MtR X "str.splitlines" (fun x xs H Q=>∃ (z:Str),x=.str z∧xs=[]∧z.length + 1≤sizeLine∧∀ p,H p=none→Q (.ref p) (upd H p (.lst ((Txt.lines z).map V.str)))):=by
 intro pins s σ H x xs v us Q I rx rs h
 obtain ⟨z,rfl,rfl,hsz,q⟩:=h
 obtain ⟨t,rfl⟩:=rx
 cases rs
 have hc:=lineCuts_le z
 have h1l:1≤sizeLine:=by decide
 refine call_meets F.slot_str_splitlines (typeIs_str _ _ _) F.entry_str_splitlines (F.args_str_splitlines_1 _) (meets_str_splitlines z t (by lia) (by lia)) ?_
 cases hw:lineCuts z == [(0,z.length)]
 ·simp only [Bool.false_eq_true,if_false]
  rw [strsFrom_eq]
  have e:(numbered s.toks (linesOf z)).map (·.1)=Txt.lines z:=(numbered_texts _ _).trans (if_neg (ne_true_of_eq_false hw)).symm
  refine strs_ep I ?_ (by rw [e]; exact q)
  have e2:=congrArg List.length (numbered_texts s.toks (linesOf z))
  rw [List.length_map] at e2
  rw [e2]
  have e3:(linesOf z).length=(lineCuts z).length:=by unfold linesOf; rw [List.length_map]
  lia
 ·simp only [if_true]
  have e:[(z,t)].map (·.1)=Txt.lines z:=(if_pos hw).symm
  exact strs_ep (l:=[(z,t)]) (k:=s.toks) I h1l (by rw [e]; exact q)
theorem mt_scount:MtR X "str.count" (fun x xs H Q=>∃ (z y:Str),x=.str z∧xs=[.str y]∧Q (.int (occurrences z y 0 z.length (z.length + 1)).length) H):=by
 intro pins s σ H x xs v us Q I rx rs h
 obtain ⟨z,y,rfl,rfl,q⟩:=h
 obtain ⟨t,rfl⟩:=rx
 obtain ⟨u,rfl,⟨t2,rfl⟩⟩:=vals1 rs
 exact call_gives F.slot_str_count (typeIs_str _ _ _) F.entry_str_count (F.args_str_count_2 _ _) (gives_str_count z y t t2) ⟨.int _,H,I.tok _,⟨_,rfl⟩,q⟩
end
end L2
namespace L2
open PySem PySem.Spec PyProof.Rows PySem.Builtin PySem.Builtin.Str
theorem cps_app (a b:Str):(a++b).cps.toList=a.cps.toList++b.cps.toList:=by
 show (a.cps++b.cps).toList=_
 simp
theorem fst_cut {c:Nat}:∀ {a w:List Nat} {r t:List Nat},c ∉ a→c ∉ w→a++c :: r=w++c :: t→a=w∧r=t
 | [],[],r,t,_,_,e=>⟨rfl,(List.cons.inj e).2⟩
 | [],y :: w,r,t,_,hw,e=>absurd (by rw [(List.cons.inj e).1]; exact List.mem_cons_self) hw
 | x :: a,[],r,t,ha,_,e=>absurd (by rw [← (List.cons.inj e).1]; exact List.mem_cons_self) ha
 | x :: a,y :: w,r,t,ha,hw,e=>by
  obtain ⟨h1,h2⟩:=fst_cut (fun z=>ha (List.mem_cons_of_mem _ z)) (fun z=>hw (List.mem_cons_of_mem _ z)) (List.cons.inj e).2
  exact ⟨by rw [(List.cons.inj e).1,h1],h2⟩
theorem join_cut {c:Nat} {l:List Str} {w t:List Nat} (hf:∀ p∈l,c ∉ p.cps.toList) (e:(Str.join ⟨#[c]⟩ l).cps.toList=w++c :: t) (hw:c ∉ w) :
  ∃ p q r,l=p :: q :: r∧p.cps.toList=w∧(Str.join ⟨#[c]⟩ (q :: r)).cps.toList=t:=by
 match l,hf,e with
 | [],_,e =>
  have:([]:List Nat)=w++c :: t:=e
  cases w <;> cases this
 | [p],hf,e =>
  have e':p.cps.toList=w++c :: t:=e
  exact absurd (by rw [e']; exact List.mem_append.mpr (.inr List.mem_cons_self)) (hf p List.mem_cons_self)
 | p :: q :: r,hf,e =>
  have e':(p++⟨#[c]⟩++Str.join ⟨#[c]⟩ (q :: r)).cps.toList=w++c :: t:=e
  rw [cps_app,cps_app,List.append_assoc] at e'
  obtain ⟨h1,h2⟩:=fst_cut (hf p List.mem_cons_self) hw e'
  exact ⟨p,q,r,rfl,h1,h2⟩
theorem split_head {c:Nat} {x:Str} {w t:List Nat} (e:x.cps.toList=w++c :: t) (hw:c ∉ w) :
  ∃ p q r,Txt.split x ⟨#[c]⟩=p :: q :: r∧p.cps.toList=w∧(Str.join ⟨#[c]⟩ (q :: r)).cps.toList=t :=
 join_cut (StrLaws.split_free x c) (by rw [StrLaws.join_split]; exact e) hw
theorem split_two {c:Nat} {x:Str} {w t:List Nat} (e:x.cps.toList=w++c :: t) (hw:c ∉ w) (ht:c ∉ t) :
  ∃ p q,Txt.split x ⟨#[c]⟩=[p,q]∧p.cps.toList=w∧q.cps.toList=t:=by
 obtain ⟨p,q,r,h1,h2,h3⟩:=split_head e hw
 match r,h1,h3 with
 | [],h1,h3=>exact ⟨p,q,h1,h2,h3⟩
 | y :: r,h1,h3 =>
  have e':(q++⟨#[c]⟩++Str.join ⟨#[c]⟩ (y :: r)).cps.toList=t:=h3
  rw [cps_app,cps_app,List.append_assoc] at e'
  exact absurd (by rw [← e']; exact List.mem_append.mpr (.inr (List.mem_append.mpr (.inl List.mem_cons_self)))) ht
theorem occ_one {c:Nat} {x:Str} {w t:List Nat} (e:x.cps.toList=w++c :: t) (hw:c ∉ w) (ht:c ∉ t):(occurrences x ⟨#[c]⟩ 0 x.length (x.length + 1)).length=1:=by
 obtain ⟨f,hG,hn⟩:=StrLaws.occ_tight x ⟨#[c]⟩ (Nat.le_refl 1)
 have h:=chain_count x c _ 0 f hG hn
 rw [List.drop_zero,e,cnt_append,cnt_none c _ hw,cnt_cons,if_pos rfl,cnt_none c _ ht] at h
 lia
end L2
namespace L2
open PySem PySem.Spec PyProof.Rows PySem.Builtin PySem.Builtin.Str
section
variable {X:Cx}
theorem op_inTop:OpR X (compareOp .In) (fun x y H Q=>∃ (a:Addr) (z:Str) (r:Option Value),x=.str z∧y=.ref a∧TopDict X.w X.K a∧(a == sysModules)=false∧PySem.W.nsIn X.K a z=some r∧Q (.bl r.isSome) H):=by
 intro pins s σ H x y u v Q I ru rv h
 obtain ⟨a,z,r,rfl,rfl,⟨es,n,hl,hk⟩,lo,e,q⟩:=h
 obtain rfl:v=Value.ref a:=rv
 obtain ⟨t,rfl⟩:=ru
 obtain ⟨m,F⟩:=I.fr
 exact PySem.W.topIn_K F I.mod.kin hl hk e lo ⟨.bl _,H,I.tok _,rfl,q⟩
end
theorem noBreak:∀ c:Nat,32≤c→c < 127→Unicode.isLineBreak c=false:=by
 have h:∀ c:Fin 127,32≤c.val→Unicode.isLineBreak c.val=false:=by decide +kernel
 exact fun c h1 h2=>h ⟨c,h2⟩ h1
theorem ls_none (x:Str) (h:∀ i,i < x.length→Unicode.isLineBreak (x.cps.getD i 0)=false):∀ (m cur:Nat),cur + m≤x.length→Id.run (forIn (m:=Id) (List.range' cur m) ((#[],0):StrLaws.LsSt) (StrLaws.lsBody x))=(#[],0)
 | 0,cur,_=>rfl
 | m + 1,cur,hm=>by
  rw [List.range'_succ,List.forIn_cons]
  have e:=h cur (by lia)
  unfold StrLaws.lsBody
  rw [e,Bool.and_false]
  simp only [Bool.false_eq_true,if_false]
  exact ls_none x h m (cur + 1) (by lia)
theorem one_line {x:Str} (h0:0 < x.length) (h:∀ c∈x.cps.toList,32≤c∧c < 127):Txt.lines x=[x]:=by
 have hb:∀ i,i < x.length→Unicode.isLineBreak (x.cps.getD i 0)=false:=by
  intro i hi
  have hi':i < x.cps.size:=hi
  have e:x.cps.getD i 0=x.cps[i]:=by simp [Array.getD,hi']
  rw [e]
  have hm:x.cps[i]∈x.cps.toList:=by simp
  obtain ⟨h1,h2⟩:=h _ hm
  exact noBreak _ h1 h2
 have e:lineSpans x=[(0,x.length,x.length)]:=by
  rw [StrLaws.ls_eq,ls_none x hb x.length 0 (by lia)]
  unfold StrLaws.lsEnd
  simp only [h0,if_true]
  rfl
 unfold Txt.lines lineCuts
 rw [e]
 simp
end L2
namespace L2
open PySem PySem.Spec PyProof.Rows
section
variable {κ:Type} [DecidableEq κ]
noncomputable def valV (kvs:List (κ×V)) (k:κ):Option V:=(kvs.find? fun kv=>decide (kv.1=k)).map (·.2)
noncomputable def putK (kvs:List (κ×V)) (k:κ) (v:V):List (κ×V) :=
 if (kvs.any fun kv=>decide (kv.1=k))=true then kvs.map (fun kv=>if kv.1=k then (kv.1,v) else kv) else kvs++[(k,v)]
theorem valV_pos {p:κ×V} {r:List (κ×V)} {k:κ} (e:p.1=k):valV (p :: r) k=some p.2:=by simp [valV,List.find?_cons,e]
theorem valV_neg {p:κ×V} {r:List (κ×V)} {k:κ} (e:¬ p.1=k):valV (p :: r) k=valV r k:=by simp [valV,List.find?_cons,e]
theorem length_putK (kvs:List (κ×V)) (k:κ) (v:V):(putK kvs k v).length≤kvs.length + 1:=by
 unfold putK
 split
 ·rw [List.length_map]; lia
 ·rw [List.length_append,List.length_cons,List.length_nil]; lia
theorem KV.val {kvs:List (κ×V)} {vs:List (κ×Value)} (r:KV kvs vs) (k:κ):RelO (valV kvs k) (valueAt vs k):=by
 unfold KV at r
 induction r with
 | nil=>exact True.intro
 | @cons p q ps qs h t ih =>
  obtain ⟨h1,h2⟩:=h
  by_cases e:p.1=k
  ·have e':q.1=k:=h1.symm.trans e
   have b:valueAt (q :: qs) k=some q.2:=by simp [valueAt,List.find?_cons,e']
   rw [valV_pos e,b]; exact h2
  ·have e':¬ q.1=k:=fun z=>e (h1.trans z)
   have b:valueAt (q :: qs) k=valueAt qs k:=by simp [valueAt,List.find?_cons,e']
   rw [valV_neg e,b]; exact ih
theorem KV.any {kvs:List (κ×V)} {vs:List (κ×Value)} (r:KV kvs vs) (k:κ):(kvs.any fun kv=>decide (kv.1=k))=vs.any fun kv=>decide (kv.1=k):=by
 unfold KV at r
 induction r with
 | nil=>rfl
 | cons h t ih=>rw [List.any_cons,List.any_cons,ih,h.1]
theorem KV.repl {kvs:List (κ×V)} {vs:List (κ×Value)} (r:KV kvs vs) (k:κ) {y:V} {u:Value} (ry:RelV y u) :
  KV (kvs.map fun kv=>if kv.1=k then (kv.1,y) else kv) (vs.map fun kv=>if kv.1=k then (kv.1,u) else kv):=by
 unfold KV at r ⊢
 induction r with
 | nil=>exact .nil
 | @cons p q ps qs h t ih =>
  rw [List.map_cons,List.map_cons]
  refine .cons ?_ ih
  obtain ⟨h1,h2⟩:=h
  by_cases e:p.1=k
  ·rw [if_pos e,if_pos (h1.symm.trans e)]; exact ⟨h1,ry⟩
  ·rw [if_neg e,if_neg (fun z=>e (h1.trans z))]; exact ⟨h1,h2⟩
theorem KV.put {kvs:List (κ×V)} {vs:List (κ×Value)} (r:KV kvs vs) (k:κ) {y:V} {u:Value} (ry:RelV y u):KV (putK kvs k y) (stored vs k u):=by
 unfold putK stored
 rw [r.any k]
 by_cases e:(vs.any fun kv=>decide (kv.1=k))=true
 ·rw [if_pos e,if_pos e]; exact r.repl k ry
 ·rw [if_neg e,if_neg e]; exact Paired.snoc r ⟨rfl,ry⟩
end
theorem kV_is {P:Program} {w:World} {k:Key} {u:Value} (r:RelV (kV k) u):(mixKind P w).is k u=true:=by
 cases k with
 | inl i=>obtain ⟨t,e⟩:=(show ∃ t,u=Value.int i t from r); subst e; exact mixKind_int P w i t
 | inr x=>obtain ⟨t,e⟩:=(show ∃ t,u=Value.str x t from r); subst e; exact mixKind_str P w x t
theorem items_are {P:Program} {w:World}:∀ {ks:List Key} {us:List Value},Vals (ks.map kV) us→ItemsAre (mixKind P w) ks us
 | [],_,r=>by rw [List.map_nil] at r; cases r; exact .nil
 | k :: ks,_,r=>by
  rw [List.map_cons] at r
  cases r with
  | cons h t=>exact .cons (kV_is h) (items_are t)
noncomputable abbrev KTd (H:Hp):List (List Key×V)→List (List Key×Addr×Value)→Prop:=Paired fun p q=>p.1=q.1∧H q.2.1=some (.tup (p.1.map kV))∧RelV p.2 q.2.2
theorem KTd.val {H:Hp} {kvs:List (List Key×V)} {xs:List (List Key×Addr×Value)} (r:KTd H kvs xs) (k:List Key):RelO (valV kvs k) ((atKey xs k).map (·.2)):=by
 induction r with
 | nil=>exact True.intro
 | @cons p q ps qs h t ih =>
  obtain ⟨h1,_,h2⟩:=h
  by_cases e:p.1=k
  ·have e':q.1=k:=h1.symm.trans e
   have b:atKey (q :: qs) k=some q.2:=by simp [atKey,List.find?_cons,e']
   rw [valV_pos e,b]; exact h2
  ·have e':¬ q.1=k:=fun z=>e (h1.trans z)
   have b:atKey (q :: qs) k=atKey qs k:=by simp [atKey,List.find?_cons,e']
   rw [valV_neg e,b]; exact ih
section
variable {P:Program} {w:World} {H:Hp} {h:Heap} {a:Addr}
theorem rd_of {u:HO} (ok:HOk P w H h) (e:Rd H a u):ObjOk P w H h a u:=e.ok ok
theorem dk_rd {kvs:List (Key×V)} (ok:HOk P w H h) (e:Rd H a (.dK kvs)):kvs.length≤sizeLine∧(a == sysModules)=false∧∃ vs,KV kvs vs∧h.DictOf (mixKind P w) a vs :=
 show ObjOk P w H h a (.dK kvs) from rd_of ok e
theorem dk_of {kvs:List (Key×V)} (ok:HOk P w H h) (e:H a=some (.dK kvs)):kvs.length≤sizeLine∧(a == sysModules)=false∧∃ vs,KV kvs vs∧h.DictOf (mixKind P w) a vs:=dk_rd ok (.inl e)
theorem key_of {ks:List Key} (ok:HOk P w H h) (e:H a=some (.tup (ks.map kV))):(tupleKind (mixKind P w)).is h ks a:=by
 obtain ⟨_,its,r,o,h1,h2,n,h3⟩:=(show ObjOk P w H h a (.tup (ks.map kV)) from ok a _ e)
 exact ⟨o,its.toArray,n,h1,h2,h3,by simpa using items_are r⟩
theorem dt_rd {kvs:List (List Key×V)} (ok:HOk P w H h) (e:Rd H a (.dT kvs)):kvs.length≤sizeLine∧(a == sysModules)=false ∧
  ∃ xs,KTd H kvs xs∧h.DictOfH (tupleKind (mixKind P w)) a xs:=by
 obtain ⟨z,y,xs,r,o,es,ep,h1,h2,h3,h4,h5⟩:=(show ObjOk P w H h a (.dT kvs) from rd_of ok e)
 refine ⟨z,y,xs,r,o,es,ep,h1,h2,h3,h4,fun x hx=>?_,h5⟩
 have all:∀ {l:List (List Key×V)} {m:List (List Key×Addr×Value)},KTd H l m→∀ x∈m,(tupleKind (mixKind P w)).is h x.1 x.2.1:=by
  intro l m q
  induction q with
  | nil=>intro x hx; exact nomatch hx
  | @cons p q ps qs hq t ih =>
   intro x hx
   rcases List.mem_cons.mp hx with e | hx
   ·subst e
    exact key_of ok (by rw [← hq.1]; exact hq.2.1)
   ·exact ih x hx
 exact all r x hx
end
noncomputable def DGet (H:Hp) (a:Addr) (y:V) (r:Option V):Prop :=
 (∃ kvs k,Rd H a (.dK kvs)∧y=kV k∧r=valV kvs k)∨∃ kvs k b,Rd H a (.dT kvs)∧y=.ref b∧H b=some (.tup (k.map kV))∧r=valV kvs k
theorem DGet.k {H:Hp} {a:Addr} {kvs:List (Key×V)} {k:Key} (e:H a=some (.dK kvs)):DGet H a (kV k) (valV kvs k):=.inl ⟨kvs,k,.inl e,rfl,rfl⟩
section
variable {X:Cx} {pins:List (Addr×Obj)} {σ:St} {H:Hp} {s:Shared} {a:Addr} {y v:V} {u r:Value} {o:Option V} {A:Around} {E:Value→Shared→Prop}
theorem Inv.big (I:Inv X pins σ H s):sysModules < s.heap.objs.size:=by
 have h:mainGlobals < s.heap.objs.size:=(I.mod.glob.keeps I.bk).lt
 exact Nat.lt_trans (by decide) h
theorem d_getItem {Q:Value→Shared→Prop} (hu:A.units + 1 < cLine) (I:Inv X pins σ H s) (g:DGet H a y (some v)) (ry:RelV y u) (h:∀ w' s',Inv X pins σ H s'→RelV v w'→Q w' s') :
  wpAny (model X.prog X.w) A (getItem (.ref a) u) Q E s:=by
 rcases g with ⟨kvs,k,e,ey,l⟩ | ⟨kvs,k,b,e,ey,eb,l⟩
 ·subst ey
  obtain ⟨z,hd,vs,rel,dd⟩:=dk_rd I.hok e
  obtain ⟨w',hw,rw'⟩:=RelO.some_of (v:=v) (o:=valueAt vs k) (by rw [l]; exact rel.val k)
  exact wpAny_getItem_of (kV_is ry) dd.mapOf hw (h w' _ (I.tok _) rw')
 ·subst ey
  cases (show u=Value.ref b from ry)
  obtain ⟨z,hd,xs,rel,dd⟩:=dt_rd I.hok e
  obtain ⟨w',hw,rw'⟩:=RelO.some_of (v:=v) (o:=(atKey xs k).map (·.2)) (by rw [l]; exact rel.val k)
  obtain ⟨p,hp,hp2⟩:=Option.map_eq_some_iff.mp hw
  refine wpAny_getItem_heap (tupleKind_room_in1 hu) (key_of I.hok eb) dd hp ?_
  rw [hp2]
  exact h w' _ (I.tok _) rw'
theorem d_write {h':Heap} {t':Nat} {ob:HO} (I:Inv X pins σ H s) (mu:Mut (H a)) (hs:Heap.SameBut a s.heap h') (he:∃ q,h'.get? a=some q) (new:ObjOk X.prog X.w (upd H a ob) h' a ob) :
  Inv X pins σ (upd H a ob) { s with heap:=h',toks:=t' } :=
 I.write (x:=a) (e:=a) mu (.inl rfl) (fun b q hb z=>(hs.2 b hb).trans z) he new
theorem dk_new {P:Program} {w:World} {H':Hp} {h':Heap} {kvs:List (Key×V)} {vs:List (Key×Value)} (z:kvs.length≤sizeLine) (hd:(a == sysModules)=false) (rel:KV kvs vs) (dd:h'.DictOf (mixKind P w) a vs) :
  ObjOk P w H' h' a (.dK kvs):=⟨z,hd,vs,rel,dd⟩
end
section
variable {X:Cx} {pins:List (Addr×Obj)} {σ:St} {H:Hp} {s:Shared} {a:Addr} {kvs:List (Key×V)} {k:Key} {u:Value} {A:Around} {E:Value→Shared→Prop}
end
noncomputable def NoSl (i:Expr):Prop:=∀ ov iv,subscripted i false ov iv=operate [ov,iv] (getItem ov iv)
theorem subD_of {prog:Program} {w:World} {A:Around} {E:Value→Shared→Prop} {s:Shared} {env:Env} {value slice:Expr} {pos:Pos} {T id:String} {Q:Value→Shared→Prop}
    (hl:typeLookup (.type T) "__getitem__"=pure (some (.builtin id))) (hs:NoSl slice)
    (h:wpAny (model prog w) A (eval value env) (fun o s₁=>wpAny (model prog w) A (eval slice env) (fun i s₂=>s₂.TypeIs o T∧wpAny (model prog w) A (getItem o i) Q E s₂) E s₁) E s) :
    wpAny (model prog w) A (eval (.Subscript value slice pos) env) Q E s:=by
  refine Subscript_ (wpAny_mono h (fun o s₁ h₁=>wpAny_mono h₁ (fun i s₂ h₂=>?_) fun _ _ x=>x) fun _ _ x=>x)
  obtain ⟨hT,h₂⟩:=h₂
  unfold subscriptTail
  refine wpAny_bind ?_
  rw [getitemInPython_of_ne hT.not_modules]
  refine wpAny_bind (wpAny_specialOf hT hl ?_)
  have fin:wpAny (model prog w) A (subscripted slice false o i) (fun r s₃=>wpAny (model prog w) A (letTemporaryGo value o r >>= fun _=>pure r) Q E s₃) E s₂:=by
    rw [hs o i]
    exact wpAny_operating (wpAny_mono h₂ (fun r s₃ h₃=>wpAny_bind (wpAny_letTemporaryGo (wpAny_pure h₃))) fun _ _ x=>x)
  first
    | exact wpAny_pure (wpAny_bind fin)
    | exact wpAny_bind (wpAny_pure (wpAny_bind fin))
    | exact wpAny_bind fin
theorem dict_typeIs {X:Cx} {pins:List (Addr×Obj)} {σ:St} {H:Hp} {s:Shared} {a:Addr} {y:V} {o:Option V} (I:Inv X pins σ H s) (g:DGet H a y o):s.TypeIs (.ref a) "dict":=by
 rcases g with ⟨kvs,k,e,_,_⟩ | ⟨kvs,k,b,e,_,_,_⟩
 ·obtain ⟨_,_,vs,_,dd⟩:=dk_rd I.hok e
  exact dd.typeIs
 ·obtain ⟨_,_,xs,_,dd⟩:=dt_rd I.hok e
  exact dd.typeIs
noncomputable def tDGet (td ty:TE):TE:=fun σ H Q=>td σ H fun x H1=>ty σ H1 fun y H2=>∃ a v,x=.ref a∧DGet H2 a y (some v)∧Q v H2
section
variable {X:Cx} {o i e value:Expr} {pos pos' tpos:Pos} {td ty tv:TE}
theorem pe_dget (hu:X.A.units + 1 < cLine) (ho:PE X o td) (hi:PE X i ty) (hs:NoSl i):PE X (.Subscript o i pos) (tDGet td ty):=by
 intro pins s σ H Q I h
 refine subD_of PySem.F.slot_dict_getitem.lookup hs (thn (ho pins s σ H _ I h) fun u s1 ⟨x,H1,I1,rx,q1⟩=>thn (hi pins s1 σ H1 _ I1 q1) fun iv s2 ⟨y,H2,I2,ry,a,v,ex,g,q2⟩=>?_)
 subst ex
 obtain rfl:u=Value.ref a:=rx
 exact ⟨dict_typeIs I2 g,d_getItem hu I2 g ry fun w' s3 I3 rw'=>⟨v,H2,I3,rw',q2⟩⟩
end
theorem dk_empty {P:Program} {w:World} {H:Hp} (h:Heap) (hb:sysModules < h.objs.size):ObjOk P w H (h.push { cls:=.type "dict",data:=.dict #[] }) h.objs.size (.dK []) :=
 ⟨Nat.zero_le _,beq_eq_false_iff_ne.mpr (Ne.symm (Nat.ne_of_lt hb)),[],.nil,Heap.DictOf.new h⟩
section
variable {X:Cx} {pos:Pos}
end
noncomputable def tPairs:List (TE×TE)→St→Hp→(List (V×V)→Hp→Prop)→Prop
 | [],_,H,Q=>Q [] H
 | (tk,tv) :: r,σ,H,Q=>tk σ H fun x H1=>tv σ H1 fun y H2=>tPairs r σ H2 fun ps H3=>Q ((x,y) :: ps) H3
noncomputable abbrev VV:List (V×V)→List (Value×Value)→Prop:=Paired fun p q=>RelV p.1 q.1∧RelV p.2 q.2
noncomputable def PPs (X:Cx) (pos:Pos) (keys:List (Option Expr)) (values:List Expr) (trs:List (TE×TE)):Prop :=
 ∀ (pins:List (Addr×Obj)) (s:Shared) (σ:St) (H:Hp) (Q:List (V×V)→Hp→Prop),Inv X pins σ H s→tPairs trs σ H Q →
  wpAny (model X.prog X.w) X.A (evalPairs (pairTrees keys values X.env pos)) (fun vs s'=>∃ ps H',Inv X pins σ H' s'∧VV ps vs∧Q ps H') X.xe s
theorem pps_nil {X:Cx} {pos:Pos}:PPs X pos [] [] []:=fun pins s σ H Q I h=>pairTrees_nil_walk ⟨[],H,I,.nil,h⟩
theorem pps_cons {X:Cx} {pos:Pos} {k v:Expr} {ks:List (Option Expr)} {vs:List Expr} {tk tv:TE} {trs:List (TE×TE)} (hk:PE X k tk) (hv:PE X v tv) (hr:PPs X pos ks vs trs) :
  PPs X pos (some k :: ks) (v :: vs) ((tk,tv) :: trs):=fun pins s σ H Q I h =>
 pairTrees_cons_walk (thn (hk pins s σ H _ I h) fun u s1 ⟨x,H1,I1,rx,q1⟩=>thn (hv pins s1 σ H1 _ I1 q1) fun w2 s2 ⟨y,H2,I2,ry,q2⟩ =>
  thn (hr pins s2 σ H2 _ I2 q2) fun ws s3 ⟨ps,H3,I3,rel,q3⟩=>⟨(x,y) :: ps,H3,I3,.cons ⟨rx,ry⟩ rel,q3⟩)
noncomputable def mergeK (kvs more:List (Key×V)):List (Key×V):=more.foldl (fun acc kv=>putK acc kv.1 kv.2) kvs
theorem KV.merge:∀ {more:List (Key×V)} {rs:List (Key×Value)} {kvs:List (Key×V)} {vs:List (Key×Value)},KV more rs→KV kvs vs→KV (mergeK kvs more) (merged vs rs):=by
 intro more rs kvs vs r
 unfold KV at r
 induction r generalizing kvs vs with
 | nil=>intro q; exact q
 | @cons p q ps qs h t ih =>
  intro r0
  have e:KV (putK kvs p.1 p.2) (stored vs q.1 q.2):=by
   have:=r0.put p.1 h.2
   rw [← h.1]; exact this
  exact ih e
theorem length_mergeK:∀ (more kvs:List (Key×V)),(mergeK kvs more).length≤kvs.length + more.length
 | [],kvs=>by show kvs.length≤kvs.length + 0; lia
 | p :: r,kvs=>by
  have h1:=length_mergeK r (putK kvs p.1 p.2)
  have h2:=length_putK kvs p.1 p.2
  show (mergeK (putK kvs p.1 p.2) r).length≤_
  rw [List.length_cons]; lia
theorem carries_of {P:Program} {w:World}:∀ {kvs:List (Key×V)} {ws:List (Value×Value)},VV (kvs.map fun kv=>(kV kv.1,kv.2)) ws→∃ rs,Carries (mixKind P w) ws rs∧KV kvs rs
 | [],_,r=>by rw [List.map_nil] at r; cases r; exact ⟨[],True.intro,.nil⟩
 | p :: kvs,_,r=>by
  rw [List.map_cons] at r
  cases r with
  | @cons a b as bs h t =>
   obtain ⟨rs,c,q⟩:=carries_of (P:=P) (w:=w) t
   obtain ⟨b1,b2⟩:=b
   exact ⟨(p.1,b2) :: rs,⟨kV_is h.1,rfl,c⟩,.cons ⟨rfl,h.2⟩ q⟩
noncomputable def tDisp (trs:List (TE×TE)):TE:=fun σ H Q=>∀ p,H p=none→tPairs trs σ (upd H p (.dK [])) fun ps H2=>H2 p=some (.dK [])∧∃ kvs:List (Key×V),ps=kvs.map (fun kv=>(kV kv.1,kv.2))∧kvs.length≤15∧Q (.ref p) (upd H2 p (.dK (mergeK [] kvs)))
theorem pe_disp {X:Cx} {pos:Pos} {keys:List (Option Expr)} {values:List Expr} {trs:List (TE×TE)} (h:PPs X pos keys values trs) (hall:keys.all (·.isSome)=true) (hl:keys.length=values.length) (h0:keys≠[])
  (h15:keys.length≤15):PE X (.Dict keys values pos) (tDisp trs):=by
 intro pins s σ H Q I q
 have hn:=I.hok.fresh (Nat.le_refl s.heap.objs.size)
 have I1:=I.laid (a:=s.heap.objs.size) (o:=.dK []) (h':=s.heap.push { cls:=.type "dict",data:=.dict #[] }) (t':=s.toks) (fun _ _ q=>Heap.get?_push_of_some _ q) (Nat.le_refl _) (dk_empty s.heap I.big)
 refine wpAny_Dict_walk (knd:=mixKind X.prog X.w) hall hl h0 h15 (thn (h pins _ σ _ _ I1 (q _ hn)) fun ws s2 ⟨ps,H2,I2,rel,e,kvs,ep,lk,q2⟩=>?_)
 subst ep
 obtain ⟨rs,c,rk⟩:=carries_of (P:=X.prog) (w:=X.w) rel
 obtain ⟨z,hd,vs0,r0,dd⟩:=dk_of I2.hok e
 cases r0
 refine ⟨rs,c,dd,fun h' dd' hs=>⟨.ref s.heap.objs.size,_,?_,rfl,q2⟩⟩
 have hz:(mergeK [] kvs).length≤sizeLine:=by
  have h1:=length_mergeK kvs []
  rw [List.length_nil] at h1
  rw [sizeLine_eq]; lia
 have he:∃ q,h'.get? s.heap.objs.size=some q:=let ⟨q,_,_,hq,_⟩:=dd'; ⟨q,hq⟩
 exact d_write I2 (by rw [e]; exact True.intro) hs he (dk_new hz hd (rk.merge .nil) dd')
section
variable {X:Cx} {pins:List (Addr×Obj)} {σ:St} {H:Hp} {s:Shared} {a:Addr} {y d:V} {u r:Value} {o:Option V} {A:Around} {E:Value→Shared→Prop}
end
section
variable {X:Cx} {o e f:Expr} {apos cpos:Pos} {td ty tx:TE}
end
section
variable {X:Cx} {pins:List (Addr×Obj)} {σ:St} {H:Hp} {s:Shared} {a:Addr} {kvs:List (Key×V)} {A:Around} {E:Value→Shared→Prop}
end
section
variable {X:Cx} {pins:List (Addr×Obj)} {σ:St} {H:Hp} {s:Shared} {a:Addr} {y:V} {u:Value} {A:Around} {E:Value→Shared→Prop}
end
end L2
namespace L2
open PySem PySem.Spec PyProof.Rows
section
variable {κ:Type} [DecidableEq κ]
end
end L2
namespace Law
open PySem L2
noncomputable def top (i:Nat):Stmt:=PySem.Challenge.pw_ledtowish_k36_desk_twins.main.body.getD i (.Pass ⟨0,0,0,0⟩)
end Law
namespace Law
open PySem L2
section
variable {P:Program} {w:World} {K:PySem.W.Frag} {mg:Str→Option Value} {base:Heap}
noncomputable def spId:Sp:=fun vs H Q _=>∃ v:V,vs=[v]∧Q v H
noncomputable abbrev s_number_itself:Stmt:=top 16
theorem sc_number_itself:FnScope ["number"] ["number"] (defScope s_number_itself):=⟨rfl,rfl,rfl,by decide +kernel,rfl,by decide +kernel,by decide +kernel⟩
theorem ok_id {f:Addr} {fd:FuncData} (F:Fun K "number_itself" "number_itself" s_number_itself f fd):FnOk P w K mg base CX0 1 f fd ["number"] spId:=by
 refine F.ok sc_number_itself (fun vs H Q E h=>?_) (fun cdv A outer s H vs Q E hr h=>?_)
 ·obtain ⟨v,rfl,_⟩:=h
  rfl
 obtain ⟨v,rfl,q⟩:=h
 exact ⟨_,(pss_one (ps_ret (pv 0))),⟨_,rfl,q⟩⟩
noncomputable def kO:Option D→List Int
 | none=>[0]
 | some d=>kD d
noncomputable def sO:Option D→Nat
 | none=>1
 | some d=>sz d
noncomputable def sOs (l:List (Option D)):Nat:=(l.map sO).sum
inductive DatO (H:Hp):V→Option D→Prop
 | non:DatO H .non none
 | som {d:D} {v:V}:IsForm d→Dat H d v→DatO H v (some d)
theorem DatO.kt {H H':Hp} (k:KT H H') {o:Option D} {v:V} (h:DatO H v o):DatO H' v o:=by
 cases h with
 | non=>exact .non
 | som a b=>exact .som a (Dat.kt k _ b)
theorem sO_pos (o:Option D):1≤sO o:=by
 cases o with
 | none=>exact Nat.le_refl _
 | some d=>exact sz_pos d
theorem sOs_cons (o:Option D) (r:List (Option D)):sOs (o :: r)=sO o + sOs r:=by unfold sOs; rw [List.map_cons,List.sum_cons]
theorem sOs_app (a b:List (Option D)):sOs (a++b)=sOs a + sOs b:=by unfold sOs; rw [List.map_append,List.sum_append]
theorem sOs_some:∀ l:List D,sOs (l.map some)≤szs l
 | []=>Nat.zero_le _
 | d :: r=>by
  have:=sOs_some r
  rw [List.map_cons,sOs_cons,szs]
  show sz d + _≤_
  lia
theorem sOs_len:∀ l:List (Option D),l.length≤sOs l
 | []=>Nat.zero_le _
 | o :: r=>by
  have:=sOs_len r
  have:=sO_pos o
  rw [sOs_cons,List.length_cons]
  lia
theorem kO_some:∀ l:List D,(l.map some).flatMap kO=kS l
 | []=>by rw [kS_nil]; rfl
 | d :: r=>by rw [List.map_cons,List.flatMap_cons,kO_some r,kS_cons]; rfl
theorem datO_some {H:Hp}:∀ {l:List D} {xs:List V},(∀ x∈l,IsForm x)→Dats H l xs→Paired (DatO H) xs (l.map some)
 | [],xs,_,h=>by rw [h.nilE]; exact .nil
 | d :: r,xs,hf,h=>by
  obtain ⟨x,t,rfl,h1,h2⟩:=h.consE
  exact .cons (.som (hf d (List.mem_cons_self ..)) h1) (datO_some (fun z hz=>hf z (List.mem_cons_of_mem _ hz)) h2)
noncomputable def spOrder:Sp:=fun vs H Q _=>∃ (v:V) (d:D),vs=[v]∧Dat H d v∧IsForm d∧sz d≤400∧∀ (t:Addr) (H':Hp),Same H H'→H' t=some (.tup ((kD d).map V.int))→Q (.ref t) H'
noncomputable abbrev s_order_of:Stmt:=top 33
theorem sc_order_of:FnScope ["form","order","waiting","part","kind","more","off"] ["form"] (defScope s_order_of):=⟨rfl,rfl,rfl,by decide +kernel,rfl,by decide +kernel,by decide +kernel⟩
theorem ok_order {f dR:Addr} {fd:FuncData} (F:Fun K "order_of" "order_of" s_order_of f fd) (B:Blt mg) (mR:mg "RANKS"=some (.ref dR)) (TR:TopDict w K dR)
  (hR:∀ k:Str,(k="sum"∨k="product")→∃ t,PySem.W.nsIn K dR k=some (some (.int (rkK k) t))):FnOk P w K mg base CX0 1 f fd ["form"] spOrder:=by
 refine F.ok sc_order_of (fun vs H Q E h=>?_) (fun cdv A outer s H vs Q E hr h=>?_)
 ·obtain ⟨v,d,rfl,_⟩:=h
  rfl
 obtain ⟨v,d,rfl,hd,hF,hz,q⟩:=h
 have kl:=kD_len hF
 refine ⟨_,(pss_cons (ps_set (i:=1) sc_order_of.nd rfl (by first | exact Or.inl rfl | exact Or.inr rfl) (pe_lst pa_nil))
   (pss_cons (ps_set (i:=2) sc_order_of.nd rfl (by first | exact Or.inl rfl | exact Or.inr rfl) (pe_lst (pa_cons (pv 0) pa_nil)))
   (pss_cons (ps_while PassesOwn.never (pt_truth (pv 2) (fun _=>rfl)) (pss_cons (ps_set (i:=3) sc_order_of.nd rfl (by first | exact Or.inl rfl | exact Or.inr rfl) (pe_bm0 PySem.F.plainAttrs_list PySem.F.slot_list_pop PySem.F.type_list_pop mt_pop (pv 2)))
   (pss_one (ps_if (pt_cmpR op_isN (pv 3) pe_non (nomark _)) (pss_one (ps_expr (pe_bm PySem.F.plainAttrs_list PySem.F.slot_list_append PySem.F.type_list_append mt_append (pv 1) (pa_cons pe_int pa_nil)))) (pss_one (ps_if (pt_val (pe_isin B.isinstance B.tuple bt_tuple (pv 3))) (pss_cons (ps_asg (pv 3) (pg_tup rfl (pgs_cons (pg_name (i:=4) sc_order_of.nd rfl (by first | exact Or.inl rfl | exact Or.inr rfl)) (pgs_cons (pg_name (i:=5) sc_order_of.nd rfl (by first | exact Or.inl rfl | exact Or.inr rfl)) (pgs_cons (pg_name (i:=6) sc_order_of.nd rfl (by first | exact Or.inl rfl | exact Or.inr rfl)) pgs_nil)))))
   (pss_cons (ps_expr (pe_bm PySem.F.plainAttrs_list PySem.F.slot_list_append PySem.F.type_list_append mt_append (pv 1) (pa_cons (pe_ix ix_top (pe_glob (v:=.ref dR) rfl mR rfl) (pv 4) (fun _ _=>rfl)) pa_nil)))
   (pss_cons (ps_expr (pe_bm PySem.F.plainAttrs_list PySem.F.slot_list_append PySem.F.type_list_append mt_append (pv 2) (pa_cons pe_non pa_nil)))
   (pss_cons (ps_expr (pe_bm PySem.F.plainAttrs_list PySem.F.slot_list_extend PySem.F.type_list_extend mt_extendT (pv 2) (pa_cons (pe_revT (pv 6)) pa_nil)))
   (pss_cons (ps_expr (pe_bm PySem.F.plainAttrs_list PySem.F.slot_list_append PySem.F.type_list_append mt_append (pv 2) (pa_cons pe_non pa_nil)))
   (pss_one (ps_expr (pe_bm PySem.F.plainAttrs_list PySem.F.slot_list_extend PySem.F.type_list_extend mt_extendT (pv 2) (pa_cons (pe_revT (pv 5)) pa_nil))))))))) (pss_cons (ps_expr (pe_bm PySem.F.plainAttrs_list PySem.F.slot_list_append PySem.F.type_list_append mt_append (pv 1) (pa_cons pe_int pa_nil)))
   (pss_one (ps_expr (pe_bm PySem.F.plainAttrs_list PySem.F.slot_list_append PySem.F.type_list_append mt_append (pv 1) (pa_cons (pv 3) pa_nil)))))))))))
   (pss_one (ps_ret (pe_callTy call_tuple_of rfl B.tuple bt_tuple (pa_cons (pv 1) pa_nil))))))),?_⟩
 refine ⟨(by show 0≤sizeLine; decide),fun ps hps=>⟨_,rfl,(by show 1≤sizeLine; decide),fun pw hpw=>?_⟩⟩
 have hs1:(upd (upd H ps (.lst [])) pw (.lst [v])) ps=some (.lst []):=by rw [upd_ne (ne_of_none upd_same hpw),upd_same]
 have npw:H pw=none:=(Same.new hps).free hpw
 have nsw:ps≠pw:=ne_of_none upd_same hpw
 have S0:Same H (upd (upd H ps (.lst [])) pw (.lst [v])):=(Same.new hps).trans (Same.new hpw)
 refine ⟨fun m σ H'=>∃ (vr:List V) (wr:List (Option D)) (st:List Int) (o1 o2 o3 o4:Option V),σ=[some v,some (.ref ps),some (.ref pw),o1,o2,o3,o4]∧Same H H'∧H' ps=some (.lst (st.map V.int))∧H' pw=some (.lst vr.reverse)∧Paired (DatO H') vr wr∧st++wr.flatMap kO=kD d∧sOs wr≤400∧m=sOs wr,
  ⟨_,[v],[some d],[],none,none,none,none,rfl,S0,hs1,upd_same,.cons (.som hF (Dat.kt (KT.same S0) _ hd)) .nil,by rw [List.flatMap_cons,List.flatMap_nil,List.append_nil]; rfl,by unfold sOs; simpa [sO] using hz,rfl⟩,?_⟩
 rintro m σ H' ⟨vr,wr,st,o1,o2,o3,o4,rfl,sH,h1,h2,pr,eq,hsz,em⟩
 have lv:=pr.length
 have lw:=sOs_len wr
 have lst:st.length≤800:=by
  have:=congrArg List.length eq
  rw [List.length_append] at this
  lia
 have big:∀ k:Nat,k≤1000→k < sizeLine:=fun k=>small1000
 refine ⟨_,rfl,_,.inl ⟨_,SqL.of h2,rfl⟩,?_⟩
 cases pr with
 | nil =>
  refine iteF ?_
  have e:st=kD d:=by simpa using eq
  rw [e] at h1
  exact ⟨_,rfl,ps,_,rfl,.inl ⟨SqL.of h1,fun l hl=>q l _ (sH.trans (Same.new hl)) upd_same⟩⟩
 | @cons y z vr' wr' hy pr' =>
  have e2:(y :: vr').reverse=vr'.reverse++[y]:=List.reverse_cons
  have sn:=sOs_cons z wr'
  have zp:=sO_pos z
  rw [e2] at h2
  refine (show (if _ then _ else _:Prop) from ?_)
  have ne:(!((y :: vr').reverse).isEmpty)=true:=by rw [e2]; simp
  rw [if_pos ne]
  refine ⟨fun σ' H'=>∃ m',m' < m∧∃ (vr:List V) (wr:List (Option D)) (st:List Int) (o1 o2 o3 o4:Option V),σ'=[some v,some (.ref ps),some (.ref pw),o1,o2,o3,o4]∧Same H H'∧H' ps=some (.lst (st.map V.int))∧H' pw=some (.lst vr.reverse)∧Paired (DatO H') vr wr∧st++wr.flatMap kO=kD d∧sOs wr≤400∧m'=sOs wr,fun σ' H' h=>h,?_⟩
  refine ⟨_,rfl,.inl ⟨rfl,_,SqL.of h2⟩,pw,_,y,rfl,rfl,h2,(by simp),?_⟩
  rw [List.dropLast_concat]
  have h1a:(upd H' pw (.lst vr'.reverse)) ps=some (.lst (st.map V.int)):=by rw [upd_ne nsw]; exact h1
  have h2a:(upd H' pw (.lst vr'.reverse)) pw=some (.lst vr'.reverse):=upd_same
  have sW:∀ (o:HO) (H'':Hp),Same H H''→Same H (upd H'' pw o):=fun o H'' s b u e=>by rw [upd_ne (ne_of_none e npw)]; exact s b u e
  have sP:∀ (o:HO) (H'':Hp),Same H H''→Same H (upd H'' ps o):=fun o H'' s b u e=>by rw [upd_ne (ne_of_none e hps)]; exact s b u e
  have sHa:=sW (.lst vr'.reverse) _ sH
  have ka:KT H' (upd H' pw (.lst vr'.reverse)):=KT.upd h2
  have pra:=L2.Paired.mapP pr' fun _ _ h=>h.kt ka
  have hya:=hy.kt ka
  have eqz:st++(kO z++wr'.flatMap kO)=kD d:=by rw [← List.flatMap_cons]; exact eq
  have push:∀ (u:List Int) (a b c d':Option V) (m1:Hp),kO z=u→Same H m1→m1 ps=some (.lst (st.map V.int++u.map V.int))→m1 pw=some (.lst vr'.reverse)→KT (upd H' pw (.lst vr'.reverse)) m1→∃ m',m' < m∧∃ (vr:List V) (wr:List (Option D)) (st:List Int) (o1 o2 o3 o4:Option V),[some v,some (.ref ps),some (.ref pw),a,b,c,d']=[some v,some (.ref ps),some (.ref pw),o1,o2,o3,o4]∧Same H m1∧m1 ps=some (.lst (st.map V.int))∧m1 pw=some (.lst vr.reverse)∧Paired (DatO m1) vr wr∧st++wr.flatMap kO=kD d∧sOs wr≤400∧m'=sOs wr:=fun u a b c d' m1 hu g1 g2 g3 g4 =>
   ⟨sOs wr',by lia,vr',wr',st++u,a,b,c,d',rfl,g1,by rw [g2,List.map_append],g3,L2.Paired.mapP pra fun _ _ h=>h.kt g4,by rw [List.append_assoc,← hu]; exact eqz,by lia,rfl⟩
  have lsm:(st.map V.int).length≤800:=by rw [List.length_map]; exact lst
  cases hya with
  | non =>
   refine ⟨_,rfl,rfl,_,rfl,iteT ?_⟩
   refine ⟨_,rfl,.inl ⟨rfl,_,SqL.of h1a⟩,ps,_,_,rfl,rfl,h1a,big _ (by lia),?_⟩
   exact push [0] _ _ _ _ _ rfl (sP _ _ sHa) upd_same (by rw [upd_ne nsw.symm]; exact h2a) (KT.upd h1a)
  | @som z' _ hz1 hdz =>
   cases hz1 with
   | @num i g0 g1 =>
    have:=hdz.intE
    subst this
    refine ⟨_,rfl,rfl,_,rfl,iteF ?_⟩
    refine ⟨_,rfl,_,_,TyOf.int _,kit_int_tuple _,_,rfl,iteF ?_⟩
    refine ⟨_,rfl,.inl ⟨rfl,_,SqL.of h1a⟩,ps,_,_,rfl,rfl,h1a,big _ (by lia),?_⟩
    refine ⟨_,rfl,.inl ⟨rfl,_,SqL.of upd_same⟩,_,rfl,ps,_,_,rfl,rfl,upd_same,big _ (by rw [List.length_append]; show _ + 1≤_; lia),?_⟩
    exact push [1,i] _ _ _ _ _ (kD_int i) (sP _ _ (sP _ _ sHa)) (by rw [upd_same,List.append_assoc]; rfl) (by rw [upd_ne nsw.symm,upd_ne nsw.symm]; exact h2a) ((KT.upd h1a).trans (KT.upd upd_same))
   | @grp k m0 more off hk g0 g1 g2 =>
    obtain ⟨p,pm,po,x0,xm,xo,rfl,hp,hpm,hpo,d0,d1,d2⟩:=dat_grp hdz
    have sg:=sz_grp k m0 more off
    obtain ⟨t1,e1⟩:=hR k hk
    have szz:sO (some (D.tup [.str k,.tup (m0 :: more),.tup off]))=sz (.tup [.str k,.tup (m0 :: more),.tup off]):=rfl
    have c1:=szs_len (m0 :: more)
    have c2:=szs_len off
    have lm:=d1.len
    have lo:=d2.len
    rw [List.length_cons] at c1
    have lv':=pra.length
    have lw':=sOs_len wr'
    refine ⟨_,rfl,rfl,_,rfl,iteF ?_⟩
    refine ⟨_,rfl,_,_,TyOf.tup hp,kit_tup_tup _,_,rfl,iteT ?_⟩
    refine ⟨_,rfl,p,_,rfl,SqT.of hp,rfl,_,_,rfl,_,_,rfl,_,_,rfl,rfl,?_⟩
    refine ⟨_,rfl,.inl ⟨rfl,_,SqL.of h1a⟩,?_⟩
    refine ⟨_,rfl,dR,k,.int (rkK k),_,rfl,rfl,TR,e1,⟨t1,rfl⟩,?_⟩
    refine ⟨ps,_,_,rfl,rfl,h1a,big _ (by lia),?_⟩
    have h2b:(upd (upd H' pw (.lst vr'.reverse)) ps (.lst (st.map V.int++[.int (rkK k)]))) pw=some (.lst vr'.reverse):=by rw [upd_ne nsw.symm]; exact h2a
    refine ⟨_,rfl,.inl ⟨rfl,_,SqL.of h2b⟩,pw,_,_,rfl,rfl,h2b,big _ (by rw [List.length_reverse]; lia),?_⟩
    have k0:KT (upd H' pw (.lst vr'.reverse)) (upd (upd H' pw (.lst vr'.reverse)) ps (.lst (st.map V.int++[.int (rkK k)]))):=KT.upd h1a
    have k1:=k0.trans (KT.upd (o:=.lst (vr'.reverse++[.non])) h2b)
    have s1:=sW (.lst (vr'.reverse++[.non])) _ (sP (.lst (st.map V.int++[.int (rkK k)])) _ sHa)
    have f1:(upd (upd (upd H' pw (.lst vr'.reverse)) ps (.lst (st.map V.int++[.int (rkK k)]))) pw (.lst (vr'.reverse++[.non]))) ps=some (.lst (st.map V.int++[.int (rkK k)])):=by rw [upd_ne nsw,upd_same]
    have f2:(upd (upd (upd H' pw (.lst vr'.reverse)) ps (.lst (st.map V.int++[.int (rkK k)]))) pw (.lst (vr'.reverse++[.non]))) pw=some (.lst (vr'.reverse++[.non])):=upd_same
    generalize upd (upd (upd H' pw (.lst vr'.reverse)) ps (.lst (st.map V.int++[.int (rkK k)]))) pw (.lst (vr'.reverse++[.non]))=G1 at k1 s1 f1 f2 ⊢
    refine ⟨_,rfl,.inl ⟨rfl,_,SqL.of f2⟩,_,rfl,po,_,rfl,SqT.of (k1 _ _ hpo),fun pp hpp=>?_⟩
    have f3:=Same.new (o:=.tup xo.reverse) hpp _ _ f2
    refine ⟨pw,pp,_,_,rfl,rfl,f3,upd_same,by rw [List.length_append,List.length_reverse,List.length_reverse]; show _ + 1 + _≤_; lia,?_⟩
    have k2:=(k1.trans (KT.new (o:=.tup xo.reverse) hpp)).trans (KT.upd (o:=.lst (vr'.reverse++[.non]++xo.reverse)) f3)
    have s2:=sW (.lst (vr'.reverse++[.non]++xo.reverse)) _ (s1.trans (Same.new (o:=.tup xo.reverse) hpp))
    have f4:(upd (upd G1 pp (.tup xo.reverse)) pw (.lst (vr'.reverse++[.non]++xo.reverse))) ps=some (.lst (st.map V.int++[.int (rkK k)])):=by rw [upd_ne nsw]; exact Same.new hpp _ _ f1
    have f5:(upd (upd G1 pp (.tup xo.reverse)) pw (.lst (vr'.reverse++[.non]++xo.reverse))) pw=some (.lst (vr'.reverse++[.non]++xo.reverse)):=upd_same
    generalize upd (upd G1 pp (.tup xo.reverse)) pw (.lst (vr'.reverse++[.non]++xo.reverse))=G3 at k2 s2 f4 f5 ⊢
    refine ⟨_,rfl,.inl ⟨rfl,_,SqL.of f5⟩,pw,_,_,rfl,rfl,f5,big _ (by rw [List.length_append,List.length_append,List.length_reverse,List.length_reverse]; show _ + 1 + _≤_; lia),?_⟩
    have k4:=k2.trans (KT.upd (o:=.lst (vr'.reverse++[.non]++xo.reverse++[.non])) f5)
    have s4:=sW (.lst (vr'.reverse++[.non]++xo.reverse++[.non])) _ s2
    have f6:(upd G3 pw (.lst (vr'.reverse++[.non]++xo.reverse++[.non]))) ps=some (.lst (st.map V.int++[.int (rkK k)])):=by rw [upd_ne nsw]; exact f4
    have f7:(upd G3 pw (.lst (vr'.reverse++[.non]++xo.reverse++[.non]))) pw=some (.lst (vr'.reverse++[.non]++xo.reverse++[.non])):=upd_same
    generalize upd G3 pw (.lst (vr'.reverse++[.non]++xo.reverse++[.non]))=G4 at k4 s4 f6 f7 ⊢
    refine ⟨_,rfl,.inl ⟨rfl,_,SqL.of f7⟩,_,rfl,pm,_,rfl,SqT.of (k4 _ _ hpm),fun pq hpq=>?_⟩
    have f8:=Same.new (o:=.tup (x0 :: xm).reverse) hpq _ _ f7
    refine ⟨pw,pq,_,_,rfl,rfl,f8,upd_same,by rw [List.length_append,List.length_append,List.length_append,List.length_reverse,List.length_reverse,List.length_reverse]; show _ + 1 + _ + 1 + (xm.length + 1)≤_; lia,?_⟩
    have k6:=(k4.trans (KT.new (o:=.tup (x0 :: xm).reverse) hpq)).trans (KT.upd (o:=.lst (vr'.reverse++[.non]++xo.reverse++[.non]++(x0 :: xm).reverse)) f8)
    have a1:=sOs_some (m0 :: more)
    have a2:=sOs_some off
    have cnt:sOs ((m0 :: more).map some++(none :: (off.map some++(none :: wr'))))≤szs (m0 :: more) + szs off + 2 + sOs wr':=by
     rw [sOs_app,sOs_cons,sOs_app,sOs_cons]
     show _ + (1 + (_ + (1 + _)))≤_
     lia
    refine ⟨sOs ((m0 :: more).map some++(none :: (off.map some++(none :: wr')))),by lia,(x0 :: xm)++(.non :: (xo++(.non :: vr'))),(m0 :: more).map some++(none :: (off.map some++(none :: wr'))),st++[rkK k],_,_,_,_,rfl,sW _ _ (s4.trans (Same.new hpq)),?_,?_,?_,?_,by lia,rfl⟩
    ·rw [upd_ne nsw,Same.new hpq _ _ f6,List.map_append]; rfl
    ·rw [upd_same]; simp
    ·have w1:=datO_some (l:=m0 :: more) (fun x hx=>by rcases List.mem_cons.mp hx with rfl | hx; exact g0; exact g1 x hx) (.consI (Dat.kt k6 _ d0) (Dats.kt k6 _ d1))
     have w2:=datO_some g2 (Dats.kt k6 _ d2)
     exact pr_app w1 (.cons .non (pr_app w2 (.cons .non (L2.Paired.mapP pra fun _ _ h=>h.kt k6))))
    ·rw [List.flatMap_append,List.flatMap_cons,List.flatMap_append,List.flatMap_cons,kO_some,kO_some,← eqz]
     show _=st++(kD _++_)
     rw [kD_grp]
     simp [kO]
noncomputable def spIn:Sp:=fun vs H Q _=>∃ (l:Addr) (xs:List V) (ds:List D),vs=[.ref l]∧H l=some (.tup xs)∧Dats H ds xs∧(∀ x∈ds,IsForm x)∧szs ds≤120∧∀ (t:Addr) (H':Hp),Same H H'→Dat H' (.tup (srtD ds)) (.ref t)→Q (.ref t) H'
noncomputable abbrev s_in_order:Stmt:=top 32
theorem sc_in_order:FnScope ["parts"] ["parts"] (defScope s_in_order):=⟨rfl,rfl,rfl,by decide +kernel,rfl,by decide +kernel,by decide +kernel⟩
theorem ok_in {f:Addr} {fd:FuncData} (F:Fun K "in_order" "in_order" s_in_order f fd) (B:Blt mg) (hms:mg "sorted"=none) (Gorder:Def P w K mg base CX0 1 "order_of" spOrder):FnOk P w K mg base CX0 4 f fd ["parts"] spIn:=by
 refine F.ok (k:=3) sc_in_order (fun vs H Q E h=>?_) (fun cdv A outer s H vs Q E hr h=>?_)
 ·obtain ⟨l,xs,ds,rfl,_⟩:=h
  rfl
 obtain ⟨l,xs,ds,rfl,hl,hd,hf,hz,q⟩:=h
 have c:=szs_len ds
 have ln:=hd.len
 refine ⟨_,(pss_one (ps_ret (pe_callTy call_tuple_of rfl B.tuple bt_tuple (pa_cons (pe_sortD (E:=E) Gorder (hr.mono (by lia)) hms (pv 0)) pa_nil)))),?_⟩
 refine ⟨_,rfl,l,xs,keyH H,rfl,SqT.of hl,by lia,fun x hx=>?_,fun H' x s' hx Q' q'=>?_,fun p ys H' s' hp pp po=>?_⟩
 ·obtain ⟨d,hd1,hd2⟩:=dats_mem hd hx
  rw [keyH_eq (hf d hd1) hd2]
  obtain ⟨a,r,e,_⟩:=kD_head (hf d hd1)
  rw [e]
  exact fun h=>nomatch h
 ·obtain ⟨d,hd1,hd2⟩:=dats_mem hd hx
  have m:=mem_sz hd1
  refine ⟨x,d,rfl,Dat.kt (KT.same s') _ hd2,hf d hd1,by lia,fun t H'' s2 ht=>q' t H'' s2 ?_⟩
  rw [keyH_eq (hf d hd1) hd2]
  exact ht
 ·refine ⟨p,_,rfl,.inl ⟨SqL.of hp,fun t ht=>?_⟩⟩
  have s3:=s'.trans (Same.new (o:=.tup ys) ht)
  exact q t _ s3 (.tupI upd_same (sorted_dats s3 hf hd pp po))
noncomputable def spIsOf:Sp:=fun vs H Q _=>∃ (k:Str) (v:V) (d:D),vs=[.str k,v]∧Dat H d v∧IsForm d∧Q (.bl (match d with | .tup (.str k' :: _)=>decide (k'=k) | _=>false)) H
noncomputable abbrev s_is_of:Stmt:=top 31
theorem sc_is_of:FnScope ["kind","form"] ["kind","form"] (defScope s_is_of):=⟨rfl,rfl,rfl,by decide +kernel,rfl,by decide +kernel,by decide +kernel⟩
theorem ok_is {f:Addr} {fd:FuncData} (F:Fun K "is_of" "is_of" s_is_of f fd) (B:Blt mg):FnOk P w K mg base CX0 1 f fd ["kind","form"] spIsOf:=by
 refine F.ok sc_is_of (fun vs H Q E h=>?_) (fun cdv A outer s H vs Q E hr h=>?_)
 ·obtain ⟨k,v,d,rfl,_⟩:=h
  rfl
 obtain ⟨k,v,d,rfl,hd,hF,q⟩:=h
 refine ⟨_,(pss_one (ps_ret (pe_and (pe_isin B.isinstance B.tuple bt_tuple (pv 1)) (pe_one (pe_cmpR op_eq (pe_ix ix_tup (pv 1) pe_int (fun _ _=>rfl)) (pv 0) (nomark _)))))),?_⟩
 cases hF with
 | num g0 g1 =>
  have:=hd.intE
  subst this
  exact ⟨_,rfl,_,_,TyOf.int _,kit_int_tuple _,_,rfl,iteF q⟩
 | @grp k' m0 more off hk g0 g1 g2 =>
  obtain ⟨p,pm,po,x0,xm,xo,rfl,hp,hpm,hpo,d0,d1,d2⟩:=dat_grp hd
  refine ⟨_,rfl,_,_,TyOf.tup hp,kit_tup_tup _,_,rfl,iteT ?_⟩
  exact ⟨_,rfl,p,_,0,_,rfl,rfl,SqT.of hp,atI_nat (j:=0) rfl,_,rfl,rfl,by rw [show decide (V.str k'=V.str k)=decide (k'=k) from decide_eq_decide.mpr ⟨fun e=>V.str.inj e,fun e=>congrArg V.str e⟩]; exact q⟩
noncomputable def spParts:Sp:=fun vs H Q _=>∃ (k:Str) (v:V) (d:D),vs=[.str k,v]∧Dat H d v∧IsForm d∧∀ (t a b:Addr) (xs ys:List V) (H':Hp),Same H H'→H' t=some (.tup [.ref a,.ref b])→H' a=some (.tup xs)→H' b=some (.tup ys)→Dats H' (pf k d).1 xs→Dats H' (pf k d).2 ys→Q (.ref t) H'
noncomputable abbrev s_parts_for:Stmt:=top 30
theorem sc_parts_for:FnScope ["kind","form"] ["kind","form"] (defScope s_parts_for):=⟨rfl,rfl,rfl,by decide +kernel,rfl,by decide +kernel,by decide +kernel⟩
theorem ok_parts {f:Addr} {fd:FuncData} (F:Fun K "parts_for" "parts_for" s_parts_for f fd) (B:Blt mg) (Gis:Def P w K mg base CX0 1 "is_of" spIsOf):FnOk P w K mg base CX0 2 f fd ["kind","form"] spParts:=by
 refine F.ok (k:=1) sc_parts_for (fun vs H Q E h=>?_) (fun cdv A outer s H vs Q E hr h=>?_)
 ·obtain ⟨k,v,d,rfl,_⟩:=h
  rfl
 obtain ⟨k,v,d,rfl,hd,hF,q⟩:=h
 refine ⟨_,(pss_cons (ps_if (pt_val (pe_def Gis (hr.mono (by lia)) (pa_cons (pv 0) (pa_cons (pv 1) pa_nil)))) (pss_one (ps_ret (pe_tup (pa_cons (pe_ix ix_tup (pv 1) pe_int (fun _ _=>rfl)) (pa_cons (pe_ix ix_tup (pv 1) pe_int (fun _ _=>rfl)) pa_nil))))) pss_nil)
   (pss_one (ps_ret (pe_tup (pa_cons (pe_tup (pa_cons (pv 1) pa_nil)) (pa_cons (pe_tup pa_nil) pa_nil star_tup) star_tup))))),?_⟩
 refine ⟨_,rfl,_,rfl,k,v,d,rfl,hd,hF,_,rfl,?_⟩
 have single:((pf k d).1=[d]∧(pf k d).2=[])→∀ (p1 p2 p3:Addr),H p1=none→(upd H p1 (.tup [v])) p2=none→(upd (upd H p1 (.tup [v])) p2 (.tup [])) p3=none→Q (.ref p3) (upd (upd (upd H p1 (.tup [v])) p2 (.tup [])) p3 (.tup [.ref p1,.ref p2])):=by
  intro hp p1 p2 p3 h1 h2 h3
  have s1:Same H (upd (upd (upd H p1 (.tup [v])) p2 (.tup [])) p3 (.tup [.ref p1,.ref p2])):=((Same.new h1).trans (Same.new h2)).trans (Same.new h3)
  refine q p3 p1 p2 [v] [] _ s1 upd_same ((Same.new h2).trans (Same.new h3) _ _ upd_same) (Same.new h3 _ _ upd_same) ?_ ?_
  ·rw [hp.1]; exact .consI (Dat.kt (KT.same s1) _ hd) (.nilI _)
  ·rw [hp.2]; exact .nilI _
 have fin:((pf k d).1=[d]∧(pf k d).2=[])→∀ (p1:Addr),H p1=none→([]:List V).length≤sizeLine∧∀ p2,(upd H p1 (.tup [v])) p2=none→[V.ref p1,V.ref p2].length≤sizeLine∧∀ p3,(upd (upd H p1 (.tup [v])) p2 (.tup [])) p3=none→Q (.ref p3) (upd (upd (upd H p1 (.tup [v])) p2 (.tup [])) p3 (.tup [.ref p1,.ref p2])):=fun hp p1 h1=>⟨by show 0≤sizeLine; decide,fun p2 h2=>⟨by show 2≤sizeLine; decide,fun p3 h3=>single hp p1 p2 p3 h1 h2 h3⟩⟩
 cases hF with
 | num g0 g1 =>
  refine iteF ?_
  exact ⟨_,rfl,(by show 1≤sizeLine; decide),fin ⟨rfl,rfl⟩⟩
 | @grp k' m0 more off hk g0 g1 g2 =>
  by_cases e:k'=k
  ·subst e
   obtain ⟨p,pm,po,x0,xm,xo,rfl,hp,hpm,hpo,d0,d1,d2⟩:=dat_grp hd
   refine (show (if decide (k'=k')=true then _ else _:Prop) from ?_)
   rw [if_pos (decide_eq_true rfl)]
   refine ⟨_,rfl,p,_,1,_,rfl,rfl,SqT.of hp,atI_nat (j:=1) rfl,_,rfl,p,_,2,_,rfl,rfl,SqT.of hp,atI_nat (j:=2) rfl,(by show 2≤sizeLine; decide),fun t ht=>?_⟩
   have s1:Same H (upd H t (.tup [.ref pm,.ref po])):=Same.new ht
   have ep:pf k' (.tup [.str k',.tup (m0 :: more),.tup off])=(m0 :: more,off):=by rw [pf_grp,if_pos rfl]
   refine q t pm po _ _ _ s1 upd_same (s1 _ _ hpm) (s1 _ _ hpo) ?_ ?_
   ·rw [ep]; exact .consI (Dat.kt (KT.same s1) _ d0) (Dats.kt (KT.same s1) _ d1)
   ·rw [ep]; exact Dats.kt (KT.same s1) _ d2
  ·have ep:pf k (.tup [.str k',.tup (m0 :: more),.tup off])=([.tup [.str k',.tup (m0 :: more),.tup off]],[]):=by rw [pf_grp,if_neg e]
   refine (show (if decide (k'=k)=true then _ else _:Prop) from ?_)
   rw [if_neg (by rw [decide_eq_false e]; decide)]
   exact ⟨_,rfl,(by show 1≤sizeLine; decide),fin (by rw [ep]; exact ⟨rfl,rfl⟩)⟩
noncomputable def spJoin:Sp:=fun vs H Q _=>∃ (wd:Str) (u v:V) (a b:Way),vs=[.str wd,u,v]∧(Way.op wd a b).ok 1000000∧(Way.op wd a b).size≤12∧Dat H (fP a) u∧Dat H (fP b) v∧∀ (t:V) (H':Hp),Same H H'→Dat H' (fP (.op wd a b)) t→Q t H'
noncomputable def TurnT (K:PySem.W.Frag) (a:Addr):Prop:=∀ H:Hp,SqT K H a [.str "less",.str "share"]
theorem eqV_str (a b:Str):eqV (.str a) (.str b)=decide (a=b):=by
 unfold eqV
 first | rfl | (by_cases h:a=b <;> simp [h])
theorem trn_in (wd:Str):inV (.str wd) [.str "less",.str "share"]=trn wd:=by
 unfold inV trn
 rw [List.any_cons,List.any_cons,List.any_nil,Bool.or_false]
 rw [eqV_str,eqV_str]
 by_cases h1:wd="less"
 ·subst h1; decide
 ·by_cases h2:wd="share"
  ·subst h2; decide
  ·rw [decide_eq_false (show ¬ ("less":Str)=wd from fun e=>h1 e.symm),decide_eq_false (show ¬ ("share":Str)=wd from fun e=>h2 e.symm),decide_eq_false (by rintro (h | h); exact h1 h; exact h2 h)]; rfl
noncomputable abbrev s_joined:Stmt:=top 29
theorem sc_joined:FnScope ["word","first","second","kind","more","off","put","taken"] ["word","first","second"] (defScope s_joined):=⟨rfl,rfl,rfl,by decide +kernel,rfl,by decide +kernel,by decide +kernel⟩
theorem ok_join {f dK tT:Addr} {fd:FuncData} (F:Fun K "joined" "joined" s_joined f fd) (B:Blt mg) (mK:mg "KINDS"=some (.ref dK)) (mT:mg "TURNED"=some (.ref tT)) (TK:TopDict w K dK) (TT:TurnT K tT)
  (hK:∀ k:Str,okWord k→∃ t,PySem.W.nsIn K dK k=some (some (.str (knd k) t))) (Gparts:Def P w K mg base CX0 2 "parts_for" spParts) (Gin:Def P w K mg base CX0 4 "in_order" spIn):FnOk P w K mg base CX0 5 f fd ["word","first","second"] spJoin:=by
 refine F.ok (k:=4) sc_joined (fun vs H Q E h=>?_) (fun cdv A outer s H vs Q E hr h=>?_)
 ·obtain ⟨wd,u,v,a,b,rfl,_⟩:=h
  rfl
 obtain ⟨wd,u,v,a,b,rfl,hok,hs,du,dv,q⟩:=h
 obtain ⟨ow,oa,ob⟩:=id hok
 obtain ⟨t1,e1⟩:=hK wd ow
 have za:=fP_sz oa
 have zb:=fP_sz ob
 have pa:=pf_sz (k:=knd wd) (fP_form oa)
 have pb:=pf_sz (k:=knd wd) (fP_form ob)
 have sw:=swp_sz (trn wd) (pf (knd wd) (fP b))
 have hs':a.size + b.size≤12:=hs
 obtain ⟨_,fa1,fa2⟩:=pf_form (k:=knd wd) (fP_form oa)
 obtain ⟨fb1,fb2⟩:=swp_forms (b:=trn wd) (k:=knd wd) (fP_form ob)
 refine ⟨_,(pss_cons (ps_set (i:=3) sc_joined.nd rfl (by first | exact Or.inl rfl | exact Or.inr rfl) (pe_ix ix_top (pe_glob (v:=.ref dK) rfl mK rfl) (pv 0) (fun _ _=>rfl)))
   (pss_cons (ps_asg (pe_def Gparts (hr.mono (by lia)) (pa_cons (pv 3) (pa_cons (pv 1) pa_nil))) (pg_tup rfl (pgs_cons (pg_name (i:=4) sc_joined.nd rfl (by first | exact Or.inl rfl | exact Or.inr rfl)) (pgs_cons (pg_name (i:=5) sc_joined.nd rfl (by first | exact Or.inl rfl | exact Or.inr rfl)) pgs_nil))))
   (pss_cons (ps_asg (pe_def Gparts (hr.mono (by lia)) (pa_cons (pv 3) (pa_cons (pv 2) pa_nil))) (pg_tup rfl (pgs_cons (pg_name (i:=6) sc_joined.nd rfl (by first | exact Or.inl rfl | exact Or.inr rfl)) (pgs_cons (pg_name (i:=7) sc_joined.nd rfl (by first | exact Or.inl rfl | exact Or.inr rfl)) pgs_nil))))
   (pss_cons (ps_if (pt_cmpR op_in_seq (pv 0) (pe_glob (v:=.ref tT) rfl mT rfl) rfl) (pss_one (ps_par (i:=6) (j:=7) rfl sc_joined.nd rfl rfl (by decide) rfl rfl (pa_cons (pv 7) (pa_cons (pv 6) pa_nil)) rfl)) pss_nil)
   (pss_one (ps_ret (pe_tup (pa_cons (pv 3) (pa_cons (pe_def Gin (hr.mono (by lia)) (pa_cons (pe_op op_catG (pv 4) (pv 6)) pa_nil)) (pa_cons (pe_def Gin (hr.mono (by lia)) (pa_cons (pe_op op_catG (pv 5) (pv 7)) pa_nil)) pa_nil)))))))))),?_⟩
 refine ⟨_,rfl,dK,wd,.str (knd wd),_,rfl,rfl,TK,e1,⟨t1,rfl⟩,?_⟩
 refine ⟨_,rfl,_,rfl,knd wd,u,fP a,rfl,du,fP_form oa,fun t a1 a2 xs ys H1 s1 ht h1 h2 dx dy=>?_⟩
 refine ⟨t,_,rfl,SqT.of ht,rfl,_,_,rfl,_,_,rfl,rfl,?_⟩
 refine ⟨_,rfl,_,rfl,knd wd,v,fP b,rfl,Dat.kt (KT.same s1) _ dv,fP_form ob,fun t2 b1 b2 zs ws H2 s2 ht2 h3 h4 dz dw=>?_⟩
 refine ⟨t2,_,rfl,SqT.of ht2,rfl,_,_,rfl,_,_,rfl,rfl,?_⟩
 refine ⟨_,rfl,tT,_,rfl,.inr (TT _),rfl,rfl,_,rfl,?_⟩
 refine (show (if inV (.str wd) [.str "less",.str "share"]=true then _ else _:Prop) from ?_)
 rw [trn_in]
 have k2:=KT.same s2
 have g1:=s2 _ _ h1
 have g2:=s2 _ _ h2
 have ex:=Dats.kt k2 _ dx
 have ey:=Dats.kt k2 _ dy
 have s12:=s1.trans s2
 cases ht0:trn wd with
 | false =>
  refine iteF ?_
  rw [ht0] at fb1 fb2 sw
  have ef:fP (.op wd a b)=.tup [.str (knd wd),.tup (srtD ((pf (knd wd) (fP a)).1++(swp false (pf (knd wd) (fP b))).1)),.tup (srtD ((pf (knd wd) (fP a)).2++(swp false (pf (knd wd) (fP b))).2))]:=by rw [fP,ht0]
  rw [ef] at q
  have d1:Dats H2 ((pf (knd wd) (fP a)).1++(swp false (pf (knd wd) (fP b))).1) _:=Dats.app ex dz
  have d2:Dats H2 ((pf (knd wd) (fP a)).2++(swp false (pf (knd wd) (fP b))).2) _:=Dats.app ey dw
  have z1:=szs_len ((pf (knd wd) (fP a)).1++(swp false (pf (knd wd) (fP b))).1)
  have z2:=szs_len ((pf (knd wd) (fP a)).2++(swp false (pf (knd wd) (fP b))).2)
  have l1:=d1.len
  have l2:=d2.len
  have c1:=szs_app (pf (knd wd) (fP a)).1 (swp false (pf (knd wd) (fP b))).1
  have c2:=szs_app (pf (knd wd) (fP a)).2 (swp false (pf (knd wd) (fP b))).2
  refine ⟨_,rfl,_,rfl,_,rfl,a1,b1,_,_,rfl,rfl,g1,h3,by rw [← List.length_append]; lia,fun p H3 s3 hp=>?_⟩
  refine ⟨p,_,_,rfl,hp,Dats.kt (KT.same s3) _ d1,fun x hx=>?_,by lia,fun m H4 s4 dm=>?_⟩
  ·rcases List.mem_append.mp hx with h | h
   ·exact fa1 x h
   ·exact fb1 x h
  have s34:=s3.trans s4
  refine ⟨_,rfl,_,rfl,a2,b2,_,_,rfl,rfl,s34 _ _ g2,s34 _ _ h4,by rw [← List.length_append]; lia,fun p2 H5 s5 hp2=>?_⟩
  refine ⟨p2,_,_,rfl,hp2,Dats.kt (KT.same (s34.trans s5)) _ d2,fun x hx=>?_,by lia,fun o H6 s6 do_=>?_⟩
  ·rcases List.mem_append.mp hx with h | h
   ·exact fa2 x h
   ·exact fb2 x h
  refine ⟨(by show 3≤sizeLine; decide),fun r hr0=>?_⟩
  have sr:Same H6 (upd H6 r (.tup [.str (knd wd),.ref m,.ref o])):=Same.new hr0
  exact q (.ref r) _ ((s12.trans s34).trans ((s5.trans s6).trans sr)) (.tupI upd_same (.consI (.strI _) (.consI (Dat.kt (KT.same ((s5.trans s6).trans sr)) _ dm) (.consI (Dat.kt (KT.same sr) _ do_) (.nilI _)))))
 | true =>
  refine iteT ?_
  rw [ht0] at fb1 fb2 sw
  have ef:fP (.op wd a b)=.tup [.str (knd wd),.tup (srtD ((pf (knd wd) (fP a)).1++(swp true (pf (knd wd) (fP b))).1)),.tup (srtD ((pf (knd wd) (fP a)).2++(swp true (pf (knd wd) (fP b))).2))]:=by rw [fP,ht0]
  rw [ef] at q
  refine ⟨_,rfl,_,rfl,_,_,rfl,?_⟩
  have d1:Dats H2 ((pf (knd wd) (fP a)).1++(swp true (pf (knd wd) (fP b))).1) _:=Dats.app ex dw
  have d2:Dats H2 ((pf (knd wd) (fP a)).2++(swp true (pf (knd wd) (fP b))).2) _:=Dats.app ey dz
  have z1:=szs_len ((pf (knd wd) (fP a)).1++(swp true (pf (knd wd) (fP b))).1)
  have z2:=szs_len ((pf (knd wd) (fP a)).2++(swp true (pf (knd wd) (fP b))).2)
  have l1:=d1.len
  have l2:=d2.len
  have c1:=szs_app (pf (knd wd) (fP a)).1 (swp true (pf (knd wd) (fP b))).1
  have c2:=szs_app (pf (knd wd) (fP a)).2 (swp true (pf (knd wd) (fP b))).2
  refine ⟨_,rfl,_,rfl,_,rfl,a1,b2,_,_,rfl,rfl,g1,h4,by rw [← List.length_append]; lia,fun p H3 s3 hp=>?_⟩
  refine ⟨p,_,_,rfl,hp,Dats.kt (KT.same s3) _ d1,fun x hx=>?_,by lia,fun m H4 s4 dm=>?_⟩
  ·rcases List.mem_append.mp hx with h | h
   ·exact fa1 x h
   ·exact fb1 x h
  have s34:=s3.trans s4
  refine ⟨_,rfl,_,rfl,a2,b1,_,_,rfl,rfl,s34 _ _ g2,s34 _ _ h3,by rw [← List.length_append]; lia,fun p2 H5 s5 hp2=>?_⟩
  refine ⟨p2,_,_,rfl,hp2,Dats.kt (KT.same (s34.trans s5)) _ d2,fun x hx=>?_,by lia,fun o H6 s6 do_=>?_⟩
  ·rcases List.mem_append.mp hx with h | h
   ·exact fa2 x h
   ·exact fb2 x h
  refine ⟨(by show 3≤sizeLine; decide),fun r hr0=>?_⟩
  have sr:Same H6 (upd H6 r (.tup [.str (knd wd),.ref m,.ref o])):=Same.new hr0
  exact q (.ref r) _ ((s12.trans s34).trans ((s5.trans s6).trans sr)) (.tupI upd_same (.consI (.strI _) (.consI (Dat.kt (KT.same ((s5.trans s6).trans sr)) _ dm) (.consI (Dat.kt (KT.same sr) _ do_) (.nilI _)))))
noncomputable def wayRun:List V→List Way→Option (List Way)
 | [],st=>some st
 | .int n :: r,st=>wayRun r (.num n :: st)
 | .str w :: r,b :: a :: st=>wayRun r (.op w a b :: st)
 | _,_=>none
theorem wr_int (n:Int) (r:List V) (st:List Way):wayRun (.int n :: r) st=wayRun r (.num n :: st):=by rw [wayRun]
theorem wr_str (w:Str) (r:List V) (a b:Way) (st:List Way):wayRun (.str w :: r) (b :: a :: st)=wayRun r (.op w a b :: st):=by rw [wayRun]
theorem wr_some {y:V} {r:List V} {st out:List Way} (h:wayRun (y :: r) st=some out):(∃ n:Int,y=.int n∧wayRun r (.num n :: st)=some out)∨∃ (w:Str) (a b:Way) (t:List Way),y=.str w∧st=b :: a :: t∧wayRun r (.op w a b :: t)=some out:=by
 cases y with
 | int n=>rw [wr_int] at h; exact .inl ⟨n,rfl,h⟩
 | str w =>
  match st,h with
  | [],h=>simp [wayRun] at h
  | [_],h=>simp [wayRun] at h
  | b :: a :: t,h=>rw [wr_str] at h; exact .inr ⟨w,a,b,t,rfl,rfl,h⟩
 | _=>simp [wayRun] at h
theorem wr_post:∀ (x:Way) (r:List V) (st:List Way),wayRun (post x++r) st=wayRun r (x :: st):=by
 intro x
 induction x with
 | num n=>intro r st; show wayRun (.int n :: r) st=_; rw [wr_int]
 | op w a b iha ihb =>
  intro r st
  show wayRun ((post a++post b++[.str w])++r) st=_
  rw [List.append_assoc,List.append_assoc,iha,ihb]
  exact wr_str w r a b st
noncomputable def FormIn (H:Hp) (v:V) (x:Way):Prop:=Dat H (fP x) v
theorem FormIn.kt {H H':Hp} {v:V} {x:Way} (k:KT H H') (h:FormIn H v x):FormIn H' v x:=Dat.kt k _ h
theorem wr_down {p:Way→Prop} (hp:∀ w a b,p (.op w a b)→p a∧p b):∀ {l:List V} {st out:List Way},wayRun l st=some out→(∀ z∈out,p z)→∀ y∈st,p y
 | [],st,out,h,ho=>by rw [wayRun] at h; cases h; exact ho
 | y :: r,st,out,h,ho=>by
  rcases wr_some h with ⟨n,rfl,h1⟩ | ⟨w,a,b,t,rfl,rfl,h1⟩
  ·have:=wr_down hp h1 ho
   exact fun y hy=>this y (List.mem_cons_of_mem _ hy)
  ·have:=wr_down hp h1 ho
   obtain ⟨ha,hb⟩:=hp _ _ _ (this _ (List.mem_cons_self ..))
   intro y hy
   rcases List.mem_cons.mp hy with rfl | hy
   ·exact hb
   rcases List.mem_cons.mp hy with rfl | hy
   ·exact ha
   ·exact this y (List.mem_cons_of_mem _ hy)
noncomputable def Small (x:Way):Prop:=x.ok 1000000∧x.size≤12
theorem small_down (w:Str) (a b:Way) (h:Small (.op w a b)):Small a∧Small b:=by
 obtain ⟨⟨_,ha,hb⟩,hs⟩:=h
 have hs':a.size + b.size≤12:=hs
 exact ⟨⟨ha,by lia⟩,hb,by lia⟩
noncomputable def spCome (fN fW:Addr):Sp:=fun vs H Q _=>∃ (r:Addr) (x:Way),vs=[.ref r,.ref fN,.ref fW]∧H r=some (.lst (post x))∧Small x∧x.nodes≤900∧∀ (v:V) (H':Hp),Same H H'→FormIn H' v x→Q v H'
noncomputable abbrev s_come_of:Stmt:=top 15
theorem sc_come_of:FnScope ["steps","of_number","of_word","come","step","second","first"] ["steps","of_number","of_word"] (defScope s_come_of):=⟨rfl,rfl,rfl,by decide +kernel,rfl,by decide +kernel,by decide +kernel⟩
theorem ok_come {f fN fW:Addr} {fd:FuncData} (F:Fun K "come_of" "come_of" s_come_of f fd) (B:Blt mg) (CN:Callee P w K mg base CX0 1 fN spId) (CW:Callee P w K mg base CX0 5 fW spJoin):FnOk P w K mg base CX0 6 f fd ["steps","of_number","of_word"] (spCome fN fW):=by
 have FN_ok:∀ g sp,(g=fN∧sp=spId)→Callee P w K mg base CX0 1 g sp:=by
  rintro g sp ⟨rfl,rfl⟩
  exact CN
 have FW_ok:∀ g sp,(g=fW∧sp=spJoin)→Callee P w K mg base CX0 5 g sp:=by
  rintro g sp ⟨rfl,rfl⟩
  exact CW
 refine F.ok (k:=5) sc_come_of (fun vs H Q E h=>?_) (fun cdv A outer s H vs Q E hr h=>?_)
 ·obtain ⟨r,x,rfl,_⟩:=h
  rfl
 obtain ⟨r,x,rfl,hr1,hsm,hn,q⟩:=h
 refine ⟨_,(pss_cons (ps_set (i:=3) sc_come_of.nd rfl (by first | exact Or.inl rfl | exact Or.inr rfl) (pe_lst pa_nil))
   (pss_cons (ps_for PassesOwn.never rfl (pi_list (pv 0)) (pg_name (i:=4) sc_come_of.nd rfl (by first | exact Or.inl rfl | exact Or.inr rfl)) (pss_one (ps_if (pt_val (pe_isin B.isinstance B.str bt_str (pv 4))) (pss_cons (ps_set (i:=5) sc_come_of.nd rfl (by first | exact Or.inl rfl | exact Or.inr rfl) (pe_bm0 PySem.F.plainAttrs_list PySem.F.slot_list_pop PySem.F.type_list_pop mt_pop (pv 3)))
   (pss_cons (ps_set (i:=6) sc_come_of.nd rfl (by first | exact Or.inl rfl | exact Or.inr rfl) (pe_bm0 PySem.F.plainAttrs_list PySem.F.slot_list_pop PySem.F.type_list_pop mt_pop (pv 3)))
   (pss_one (ps_expr (pe_bm PySem.F.plainAttrs_list PySem.F.slot_list_append PySem.F.type_list_append mt_append (pv 3) (pa_cons (pe_callV FW_ok (hr.mono (by lia)) pass0 (pv 2) (pa_cons (pv 4) (pa_cons (pv 6) (pa_cons (pv 5) pa_nil)))) pa_nil)))))) (pss_one (ps_expr (pe_bm PySem.F.plainAttrs_list PySem.F.slot_list_append PySem.F.type_list_append mt_append (pv 3) (pa_cons (pe_callV FN_ok (hr.mono (by lia)) pass0 (pv 1) (pa_cons (pv 4) pa_nil)) pa_nil)))))))
   (pss_one (ps_ret (pe_ix ix_list (pv 3) pe_int (fun _ _=>rfl)))))),?_⟩
 refine ⟨(by show 0≤sizeLine; decide),fun pw hpw=>?_⟩
 have pl:=post_len x
 have nrw:r≠pw:=ne_of_none hr1 hpw
 refine ⟨_,rfl,r,rfl,⟨_,SqL.of (Same.new hpw _ _ hr1)⟩,for_list (K:=K) (a:=r) (xs:=post x) (fun i σ H'=>∃ (vr:List V) (st:List Way) (a b c:Option V),σ=[some (.ref r),some (.ref fN),some (.ref fW),some (.ref pw),a,b,c]∧Same H H'∧H' pw=some (.lst vr.reverse)∧Paired (FormIn H') vr st∧st.length≤i∧wayRun ((post x).drop i) st=some [x])
  ⟨[],[],none,none,none,rfl,Same.new hpw,upd_same,.nil,Nat.le_refl _,by have:=wr_post x [] []; rw [List.append_nil] at this; exact this⟩ (fun i σ H' _ ⟨_,_,_,_,_,_,g,_⟩=>SqL.of (g _ _ hr1)) ?_ ?_⟩
 ·rintro i y σ H' hi ⟨vr,st,a,b,c,rfl,sH,hP,pr,hl,hrn⟩
  have il:i < (post x).length:=(List.getElem?_eq_some_iff.mp hi).1
  have ed:(post x).drop i=y :: (post x).drop (i + 1):=by
   rw [List.drop_eq_getElem_cons il,(List.getElem?_eq_some_iff.mp hi).2]
  rw [ed] at hrn
  have big:∀ k:Nat,k≤1000→k < sizeLine:=fun k=>small1000
  have sU:∀ (o:HO) (H'':Hp),Same H H''→Same H (upd H'' pw o):=fun o H'' s b u e=>by rw [upd_ne (ne_of_none e hpw)]; exact s b u e
  have lv:vr.length=st.length:=pr.length
  rcases wr_some hrn with ⟨n,rfl,hrn1⟩ | ⟨wd,a1,b1,t,rfl,rfl,hrn1⟩
  ·refine ⟨_,rfl,_,_,TyOf.int _,kit_int_str _,_,rfl,iteF ?_⟩
   refine ⟨_,rfl,.inl ⟨rfl,_,SqL.of hP⟩,_,rfl,fN,spId,rfl,⟨rfl,rfl⟩,_,rfl,_,rfl,pw,_,_,rfl,rfl,hP,big _ (by rw [List.length_reverse]; lia),?_⟩
   have k1:KT H' (upd H' pw (.lst (vr.reverse++[.int n]))):=KT.upd hP
   exact ⟨.int n :: vr,.num n :: st,_,_,_,rfl,sU _ _ sH,by rw [upd_same,List.reverse_cons],.cons (Dat.intI n) (L2.Paired.mapP pr fun _ _ h=>h.kt k1),Nat.succ_le_succ hl,hrn1⟩
  ·cases pr with
   | @cons v2 _ vr1 _ h2 pr1 =>
   cases pr1 with
   | @cons v1 _ vr2 _ h1 pr2 =>
   have e2:(v2 :: v1 :: vr2).reverse=(vr2.reverse++[v1])++[v2]:=by simp
   rw [e2] at hP
   refine ⟨_,rfl,_,_,TyOf.str _,kit_str_str _,_,rfl,iteT ?_⟩
   refine ⟨_,rfl,.inl ⟨rfl,_,SqL.of hP⟩,pw,_,v2,rfl,rfl,hP,(by simp),?_⟩
   rw [List.dropLast_concat]
   refine ⟨_,rfl,.inl ⟨rfl,_,SqL.of upd_same⟩,pw,_,v1,rfl,rfl,upd_same,(by simp),?_⟩
   rw [List.dropLast_concat]
   have l2:vr2.length + 2=t.length + 2:=by simpa using lv
   have l3:t.length + 2≤i:=by simpa using hl
   have sm:=wr_down small_down hrn1 (fun z hz=>by rw [List.mem_singleton.mp hz]; exact hsm) _ (List.mem_cons_self ..)
   have k0:KT H' (upd (upd H' pw (.lst (vr2.reverse++[v1]))) pw (.lst vr2.reverse)):=(KT.upd hP).trans (KT.upd upd_same)
   refine ⟨_,rfl,.inl ⟨rfl,_,SqL.of upd_same⟩,_,rfl,fW,spJoin,rfl,⟨rfl,rfl⟩,_,rfl,_,rfl,_,rfl,wd,v1,v2,a1,b1,rfl,sm.1,sm.2,Dat.kt k0 _ h1,Dat.kt k0 _ h2,fun tv H2 s2 dt=>?_⟩
   have hP2:H2 pw=some (.lst vr2.reverse):=s2 _ _ upd_same
   refine ⟨pw,_,_,rfl,rfl,hP2,big _ (by rw [List.length_reverse]; lia),?_⟩
   have k2:KT H2 (upd H2 pw (.lst (vr2.reverse++[tv]))):=KT.upd hP2
   have k1:=(k0.trans (KT.same s2)).trans k2
   exact ⟨tv :: vr2,.op wd a1 b1 :: t,_,_,_,rfl,sU _ _ ((sU _ _ (sU _ _ sH)).trans s2),by rw [upd_same,List.reverse_cons],.cons (Dat.kt k2 _ dt) (L2.Paired.mapP pr2 fun _ _ h=>h.kt k1),by show t.length + 1≤i + 1; lia,hrn1⟩
 ·rintro σ H' ⟨vr,st,a,b,c,rfl,sH,hP,pr,hl,hrn⟩
  rw [List.drop_length,wayRun] at hrn
  cases hrn
  cases pr with
  | @cons v _ vr1 _ h1 pr1 =>
  cases pr1
  exact ⟨_,rfl,pw,_,_,v,rfl,rfl,SqL.of hP,rfl,q v H' sH h1⟩
noncomputable def spFormOf:Sp:=fun vs H Q _=>∃ (v:V) (x:Way),vs=[v]∧WayIn H v x∧Small x∧∀ (u:V) (H':Hp),Same H H'→Dat H' (fP x) u→Q u H'
noncomputable abbrev s_form_of:Stmt:=top 28
theorem sc_form_of:FnScope ["way"] ["way"] (defScope s_form_of):=⟨rfl,rfl,rfl,by decide +kernel,rfl,by decide +kernel,by decide +kernel⟩
theorem ok_form_of {f fN fJ:Addr} {fd:FuncData} (F:Fun K "form_of" "form_of" s_form_of f fd) (B:Blt mg) (mN:mg "number_itself"=some (.ref fN)) (mJ:mg "joined"=some (.ref fJ)) (Gcome:Def P w K mg base CX0 6 "come_of" (spCome fN fJ)) (Gsteps:Def P w K mg base CX0 1 "steps_of" spSteps):FnOk P w K mg base CX0 7 f fd ["way"] spFormOf:=by
 refine F.ok (k:=6) sc_form_of (fun vs H Q E h=>?_) (fun cdv A outer s H vs Q E hr h=>?_)
 ·obtain ⟨v,x,rfl,_⟩:=h
  rfl
 obtain ⟨v,x,rfl,hw,hs,q⟩:=h
 have ns:=x.nodes_eq
 have h2:=hs.2
 refine ⟨_,(pss_one (ps_ret (pe_def Gcome (hr.mono (by lia)) (pa_cons (pe_def Gsteps (hr.mono (by lia)) (pa_cons (pv 0) pa_nil)) (pa_cons (pe_glob (v:=.ref fN) rfl mN rfl) (pa_cons (pe_glob (v:=.ref fJ) rfl mJ rfl) pa_nil)))))),?_⟩
 exact ⟨_,rfl,v,x,rfl,hw,by lia,fun r H1 s1 h1=>⟨r,x,rfl,h1,hs,by lia,fun u H2 s2 hw=>q u H2 (s1.trans s2) hw⟩⟩
theorem repInts {K:PySem.W.Frag} {H:Hp}:∀ l:List Int,Reps K H (l.map D.int) (l.map V.int)
 | []=>by unfold Reps; rfl
 | i :: r=>by
  show Reps K H (D.int i :: r.map D.int) (V.int i :: r.map V.int)
  unfold Reps
  exact ⟨_,_,rfl,by unfold Rep; rfl,repInts r⟩
theorem depInts:∀ l:List Int,deps (l.map D.int)=0
 | []=>by rw [List.map_nil,deps]
 | i :: r=>by
  rw [List.map_cons,deps,depInts r,D.dep]
  all_goals simp
noncomputable def spTwins:Sp:=fun vs H Q _=>∃ (u v:V) (x y:Way),vs=[u,v]∧WayIn H u x∧WayIn H v y∧Small x∧Small y∧∀ H',Same H H'→Q (.bl (decide (kD (fP x)=kD (fP y)))) H'
noncomputable abbrev s_are_twins:Stmt:=top 34
theorem sc_are_twins:FnScope ["one","other"] ["one","other"] (defScope s_are_twins):=⟨rfl,rfl,rfl,by decide +kernel,rfl,by decide +kernel,by decide +kernel⟩
theorem ok_twins {f:Addr} {fd:FuncData} (F:Fun K "are_twins" "are_twins" s_are_twins f fd) (B:Blt mg) (Gorder:Def P w K mg base CX0 1 "order_of" spOrder) (Gformof:Def P w K mg base CX0 7 "form_of" spFormOf):FnOk P w K mg base CX0 8 f fd ["one","other"] spTwins:=by
 refine F.ok (k:=7) sc_are_twins (fun vs H Q E h=>?_) (fun cdv A outer s H vs Q E hr h=>?_)
 ·obtain ⟨u,v,x,y,rfl,_⟩:=h
  rfl
 obtain ⟨u,v,x,y,rfl,hu,hv,sx,sy,q⟩:=h
 have zx:=fP_sz sx.1
 have zy:=fP_sz sy.1
 have hx2:=sx.2
 have hy2:=sy.2
 refine ⟨_,(pss_one (ps_ret (pe_cmpR (op_eqS (hu60 hr)) (pe_def Gorder (hr.mono (by lia)) (pa_cons (pe_def Gformof (hr.mono (by lia)) (pa_cons (pv 0) pa_nil)) pa_nil)) (pe_def Gorder (hr.mono (by lia)) (pa_cons (pe_def Gformof (hr.mono (by lia)) (pa_cons (pv 1) pa_nil)) pa_nil)) (nomark _)))),?_⟩
 refine ⟨_,rfl,u,x,rfl,hu,sx,fun u1 H1 s1 d1=>⟨u1,fP x,rfl,d1,fP_form sx.1,by lia,fun t1 H2 s2 ht1=>?_⟩⟩
 have s12:=s1.trans s2
 refine ⟨_,rfl,v,y,rfl,hv.kt (KT.same s12),sy,fun u2 H3 s3 d2=>⟨u2,fP y,rfl,d2,fP_form sy.1,by lia,fun t2 H4 s4 ht2=>?_⟩⟩
 have ht1':=(s3.trans s4) _ _ ht1
 refine ⟨(kD (fP x)).map D.int,(kD (fP y)).map D.int,.inr ⟨⟨t1,_,rfl,SqT.of ht1',repInts _⟩,⟨t2,_,rfl,SqT.of ht2,repInts _⟩⟩,by rw [depInts]; lia,?_⟩
 rw [if_neg (by decide),eqDs_ints]
 exact q _ (s12.trans (s3.trans s4))
end
end Law
namespace Law
open PySem L2
section
variable {P:Program} {w:World} {K:PySem.W.Frag} {mg:Str→Option Value} {base:Heap}
noncomputable abbrev s_number_of:Stmt:=top 56
theorem sc_number_of:FnScope ["figures","first","number","at"] ["figures"] (defScope s_number_of):=⟨rfl,rfl,rfl,by decide +kernel,rfl,by decide +kernel,by decide +kernel⟩
theorem zero_digits {x:Str} (h:PySem.NumText.AllDigits (cs x)) (hl:x.length < 64):PySem.intText? (("0":Str)++x)=some ((PySem.NumText.digitsVal (cs x):Nat):Int):=by
 have e:cs (("0":Str)++x)=48 :: cs x:=by rw [cs_app]; rfl
 have h2:PySem.NumText.AllDigits (cs (("0":Str)++x)):=by
  rw [e]
  intro c hc
  rcases List.mem_cons.mp hc with rfl | hc
  ·decide
  ·exact h c hc
 have h3:=PySem.intText_digits h2 (by rw [show (("0":Str)++x).cps.toList=48 :: cs x from e]; simp) (by rw [← cs_len,e]; simp only [List.length_cons]; rw [cs_len]; lia)
 rw [h3,show (("0":Str)++x).cps.toList=48 :: cs x from e]
 rfl
theorem cutG_all {l:List Nat}:cutG l none (some (l.length:Int))=l:=by
 unfold cutG
 rw [HT.sIx_none,HT.sIx_nat,List.drop_zero]
 exact List.take_of_length_le (by lia)
theorem ok_number_of {f:Addr} {fd:FuncData} (F:Fun K "number_of" "number_of" s_number_of f fd) (B:Blt mg):FnOk P w K mg base CX0 1 f fd ["figures"] spNumberOf:=by
 refine F.ok sc_number_of (fun vs H Q E h=>?_) (fun cdv A outer s H vs Q E hr h=>?_)
 ·obtain ⟨n,rfl,_⟩:=h
  rfl
 obtain ⟨z,rfl,hd,⟨c,r,hz,hc⟩,hl,q⟩:=h
 have big:z.length≤sizeLine:=Nat.le_of_lt (small1000 (by lia))
 have lz:(cs z).length=z.length:=cs_len z
 refine ⟨_,(pss_cons (ps_if (pt_val (pe_bm PySem.F.plainAttrs_str PySem.F.slot_str_startswith PySem.F.type_str_startswith mt_startswith (pv 0) (pa_cons pe_str pa_nil))) (pss_one ps_never) pss_nil)
   (pss_cons (ps_set (i:=1) sc_number_of.nd rfl (by first | exact Or.inl rfl | exact Or.inr rfl) (pe_op op_mod (pe_callB call_len_str rfl B.len bt_len (pa_cons (pv 0) pa_nil)) pe_int))
   (pss_cons (ps_set (i:=2) sc_number_of.nd rfl (by first | exact Or.inl rfl | exact Or.inr rfl) (pe_callTy call_int_text rfl B.int bt_int (pa_cons (pe_op op_add_str pe_str (pe_slice sl_str (pv 0) po_none (po_some (pv 1)))) pa_nil)))
   (pss_cons (ps_for PassesOwn.never rfl (pi_range3e B.range (pa_cons (pv 1) (pa_cons (pe_callB call_len_str rfl B.len bt_len (pa_cons (pv 0) pa_nil)) (pa_cons pe_int pa_nil)))) (pg_name (i:=3) sc_number_of.nd rfl (by first | exact Or.inl rfl | exact Or.inr rfl)) (pss_one (ps_set (i:=2) sc_number_of.nd rfl (by first | exact Or.inl rfl | exact Or.inr rfl) (pe_op op_add (pe_op op_mul (pv 2) (pe_op op_pow pe_int pe_int)) (pe_callTy call_int_text rfl B.int bt_int (pa_cons (pe_slice sl_str (pv 0) (po_some (pv 3)) (po_some (pe_op op_add (pv 3) pe_int))) pa_nil))))))
   (pss_one (ps_ret (pv 2))))))),?_⟩
 refine ⟨_,rfl,rfl,z,"0",rfl,rfl,_,rfl,?_⟩
 have hs:(decide (0 + ("0":Str).length≤z.length) && PySem.Builtin.Str.subAt z "0" 0)=false:=by
  have h:=(PySem.StrLaws.subAt_one z 48 0)
  rw [Bool.eq_false_iff]
  intro e
  rw [Bool.and_eq_true,decide_eq_true_iff] at e
  have:=h.mp e
  rw [show z.cps.toList=c :: r from hz] at this
  exact hc (Option.some.inj this)
 rw [hs]
 refine iteF ?_
 refine ⟨_,rfl,z,rfl,big,_,_,rfl,rfl,(by show (0:Int) < 64; decide),?_⟩
 have hm:((z.length:Nat):Int) % 64=(z.length:Int):=by lia
 dsimp only
 rw [hm]
 refine ⟨_,rfl,_,rfl,_,rfl,z,rfl,big,fun y hy=>?_⟩
 have ey:y=z:=str_ext (by rw [hy,← cs_len]; exact cutG_all)
 subst ey
 refine ⟨_,_,rfl,rfl,?_,_,_,rfl,zero_digits hd hl,?_,?_⟩
 ·show 1 + y.length≤sizeLine
  have:=small1000 (n:=1 + y.length) (by lia)
  lia
 ·show (("0":Str)++y).length≤640
  rw [← cs_len,cs_app,List.length_append,cs_len,cs_len]
  show 1 + y.length≤640
  lia
 refine ⟨_,rfl,_,rfl,_,rfl,big,_,_,_,rfl,⟨by lia,by lia,by lia,by lia,by decide,by decide⟩,?_⟩
 refine for_range (n:=0) (fun i σ H'=>∃ o:Option V,σ=[some (.str y),some (.int y.length),some (.int ((PySem.NumText.digitsVal (cs y):Nat):Int)),o]∧H'=H) ⟨_,rfl,rfl⟩ ?_ ?_
 ·intro i σ H' hi
  exact absurd hi (Nat.not_lt_zero _)
 ·rintro σ H' ⟨o,rfl,rfl⟩
  exact ⟨_,rfl,q _ (Same.refl _)⟩
noncomputable abbrev s_figures_end:Stmt:=top 61
theorem sc_figures_end:FnScope ["text","at"] ["text","at"] (defScope s_figures_end):=⟨rfl,rfl,rfl,by decide +kernel,rfl,by decide +kernel,by decide +kernel⟩
theorem ok_figures_end {f:Addr} {fd:FuncData} {tF:Tok} (F:Fun K "figures_end" "figures_end" s_figures_end f fd) (B:Blt mg) (mF:mg "FIGURES"=some (.str "0123456789" tF)):FnOk P w K mg base CX0 1 f fd ["text","at"] spFigEnd:=by
 refine F.ok sc_figures_end (fun vs H Q E h=>?_) (fun cdv A outer s H vs Q E hr h=>?_)
 ·obtain ⟨z,k,rfl,_⟩:=h
  rfl
 obtain ⟨z,k,rfl,hk,hl,q⟩:=h
 have big:z.length≤sizeLine:=by rw [sizeLine_eq]; lia
 have lz:(cs z).length=z.length:=cs_len z
 refine ⟨_,(pss_cons (ps_while PassesOwn.never (PW.pt (pw_and (pt_cmpR op_lt (pv 1) (pe_callB call_len_str rfl B.len bt_len (pa_cons (pv 0) pa_nil)) (nomark _)) (pw_and1 (pt_cmpR op_in_one (pe_ix ix_str (pv 0) (pv 1) (fun _ _=>rfl)) (pe_glob (v:=.str "0123456789") rfl mF ⟨_,rfl⟩) rfl)))) (pss_one (ps_aug (i:=1) sc_figures_end.nd rfl (by first | exact Or.inl rfl | exact Or.inr rfl) pe_int ip_add)))
   (pss_one (ps_ret (pv 1)))),?_⟩
 refine ⟨fun m σ H'=>∃ j:Nat,σ=[some (.str z),some (.int j)]∧H=H'∧j≤z.length∧m=z.length - j∧j + (((cs z).drop j).takeWhile isF).length=k + (((cs z).drop k).takeWhile isF).length,⟨_,k,rfl,rfl,hk,rfl,rfl⟩,?_⟩
 rintro m σ H' ⟨j,rfl,rfl,hj,rfl,ej⟩
 refine ⟨_,rfl,_,rfl,z,rfl,big,_,_,rfl,rfl,_,rfl,?_⟩
 refine ite2 (fun e=>?_) (fun e=>?_)
 ·have hj2:j < z.length:=by have:=of_decide_eq_true e; lia
  have hjc:j < (cs z).length:=by lia
  have hat:atI z.cps.toList (j:Int)=some (cs z)[j]:=atI_nat (List.getElem?_eq_getElem hjc)
  have ed:(cs z).drop j=(cs z)[j] :: (cs z).drop (j + 1):=List.drop_eq_getElem_cons hjc
  refine ⟨_,rfl,_,rfl,z,_,_,rfl,rfl,big,hat,_,_,rfl,rfl,_,rfl,?_⟩
  refine ite2 (fun e2=>?_) (fun e2=>?_)
  ·refine ⟨fun σ' H'=>∃ m',m' < z.length - j∧∃ j:Nat,σ'=[some (.str z),some (.int j)]∧H=H'∧j≤z.length∧m'=z.length - j∧j + (((cs z).drop j).takeWhile isF).length=k + (((cs z).drop k).takeWhile isF).length,fun σ' H' h=>h,?_⟩
   refine ⟨_,rfl,_,_,rfl,rfl,z.length - (j + 1),by lia,j + 1,rfl,rfl,by lia,rfl,?_⟩
   rw [ed,List.takeWhile_cons,show isF (cs z)[j]=true from e2] at ej
   have:((cs z)[j] :: List.takeWhile isF (List.drop (j + 1) (cs z))).length=(List.takeWhile isF (List.drop (j + 1) (cs z))).length + 1:=rfl
   have ej':j + ((cs z)[j] :: List.takeWhile isF (List.drop (j + 1) (cs z))).length=k + (((cs z).drop k).takeWhile isF).length:=ej
   lia
  ·have hf:isF (cs z)[j]=false:=Bool.eq_false_iff.mpr e2
   rw [ed,List.takeWhile_cons,hf] at ej
   have ej':j + 0=k + (((cs z).drop k).takeWhile isF).length:=ej
   rw [← ej'] at q
   exact ⟨_,rfl,q⟩
 ·have hj2:¬ j < z.length:=fun x=>e (decide_eq_true (by lia))
  rw [List.drop_eq_nil_of_le (show (cs z).length≤j by lia)] at ej
  have ej':j + 0=k + (((cs z).drop k).takeWhile isF).length:=ej
  rw [← ej'] at q
  refine iteF ?_
  exact ⟨_,rfl,q⟩
noncomputable abbrev s_is_figures:Stmt:=top 60
theorem sc_is_figures:FnScope ["text"] ["text"] (defScope s_is_figures):=⟨rfl,rfl,rfl,by decide +kernel,rfl,by decide +kernel,by decide +kernel⟩
theorem ok_is_figures {f:Addr} {fd:FuncData} (F:Fun K "is_figures" "is_figures" s_is_figures f fd) (B:Blt mg) (Gend:Def P w K mg base CX0 1 "figures_end" spFigEnd):FnOk P w K mg base CX0 2 f fd ["text"] spIsFig:=by
 refine F.ok sc_is_figures (fun vs H Q E h=>?_) (fun cdv A outer s H vs Q E hr h=>?_)
 ·obtain ⟨z,rfl,_⟩:=h
  rfl
 obtain ⟨z,rfl,hl,q⟩:=h
 have big:z.length≤sizeLine:=by rw [sizeLine_eq]; lia
 have lz:(cs z).length=z.length:=cs_len z
 refine ⟨_,(pss_one (ps_ret (pe_and (pe_cmpR op_ne (pv 0) pe_str (nomark _)) (pe_one (pe_cmpR op_eq (pe_def Gend (hr.mono (by lia)) (pa_cons (pv 0) (pa_cons pe_int pa_nil))) (pe_callB call_len_str rfl B.len bt_len (pa_cons (pv 0) pa_nil)) (nomark _)))))),?_⟩
 refine ⟨_,rfl,rfl,_,rfl,?_⟩
 refine ite2 (fun e=>?_) (fun e=>?_)
 ·refine ⟨_,rfl,z,0,rfl,Nat.zero_le _,hl,_,rfl,z,rfl,big,rfl,?_⟩
  refine q _ ?_
  have ne:cs z≠[]:=fun h=>by
   have ez:z="":=str_ext (by rw [h]; rfl)
   rw [ez] at e
   exact absurd e (by decide)
  rw [decide_eq_true_iff,List.drop_zero,lz]
  constructor
  ·intro h
   have:=V.int.inj h
   exact ⟨ne,by lia⟩
  ·intro h
   have:=h.2
   exact congrArg V.int (by lia)
 ·refine q false ⟨fun h=>(Bool.false_ne_true h).elim,fun h=>?_⟩
  have ez:z="":=by
   have h2:=Decidable.of_not_not (fun h2=>e (by simp [h2]):¬ ¬ (V.str z=V.str ""))
   exact V.str.inj h2
  rw [ez] at h
  exact absurd rfl h.1
noncomputable abbrev s_is_word:Stmt:=top 65
theorem sc_is_word:FnScope ["piece"] ["piece"] (defScope s_is_word):=⟨rfl,rfl,rfl,by decide +kernel,rfl,by decide +kernel,by decide +kernel⟩
theorem ok_is_word {f:Addr} {fd:FuncData} (F:Fun K "is_word" "is_word" s_is_word f fd) (B:Blt mg):FnOk P w K mg base CX0 1 f fd ["piece"] spIsWord:=by
 refine F.ok sc_is_word (fun vs H Q E h=>?_) (fun cdv A outer s H vs Q E hr h=>?_)
 ·obtain ⟨z,rfl,_⟩:=h
  rfl
 obtain ⟨z,rfl,hw,q⟩:=h
 refine ⟨_,(pss_one (ps_ret (pe_and (pe_isin B.isinstance B.str bt_str (pv 0)) (pe_one (pe_cmpR op_ne (pv 0) pe_str (nomark _)))))),?_⟩
 refine ⟨_,rfl,_,_,TyOf.str _,kit_str_str _,_,rfl,iteT ?_⟩
 refine ⟨_,rfl,rfl,?_⟩
 have e:(!decide (V.str z=V.str "("))=true:=by
  have:=(okWord_ne hw).1
  simp [this]
 rw [e]
 exact q
noncomputable abbrev s_is_way:Stmt:=top 66
theorem sc_is_way:FnScope ["piece"] ["piece"] (defScope s_is_way):=⟨rfl,rfl,rfl,by decide +kernel,rfl,by decide +kernel,by decide +kernel⟩
theorem ok_is_way {f:Addr} {fd:FuncData} (F:Fun K "is_way" "is_way" s_is_way f fd) (B:Blt mg):FnOk P w K mg base CX0 1 f fd ["piece"] spIsWay:=by
 refine F.ok sc_is_way (fun vs H Q E h=>?_) (fun cdv A outer s H vs Q E hr h=>?_)
 ·obtain ⟨z,x,rfl,_⟩:=h
  rfl
 obtain ⟨v,x,rfl,hw,q⟩:=h
 refine ⟨_,(pss_one (ps_ret (pe_not (pe_isin B.isinstance B.str bt_str (pv 0))))),?_⟩
 cases hw with
 | num n=>exact ⟨_,rfl,_,_,TyOf.int _,kit_int_str _,_,rfl,q⟩
 | op h ha hb=>exact ⟨_,rfl,_,_,TyOf.tup h,kit_tup_str _,_,rfl,q⟩
theorem cutG_nat {l:List Nat} {a b:Nat} (h:a≤l.length):cutG l (some (a:Int)) (some (b:Int))=(l.drop a).take (b - a):=by
 unfold cutG
 rw [HT.sIx_nat,HT.sIx_nat,show min a l.length=a by lia]
 rcases Nat.le_total b l.length with hb | hb
 ·rw [show min b l.length=b by lia]
 ·rw [show min b l.length=l.length by lia,List.take_of_length_le (by rw [List.length_drop]; lia),List.take_of_length_le (by rw [List.length_drop]; lia)]
noncomputable def kvS:List (Str×V):=[("plus",.str " + "),("less",.str " - "),("times",.str " * "),("share",.str " / ")]
theorem take_while:∀ l:List Nat,l.take (l.takeWhile isF).length=l.takeWhile isF
 | []=>rfl
 | c :: r=>by
  rw [List.takeWhile_cons]
  cases h:isF c with
  | true =>
   show (c :: r).take ((r.takeWhile isF).length + 1)=c :: r.takeWhile isF
   rw [List.take_succ_cons,take_while r]
  | false=>rfl
theorem while_digits:∀ l:List Nat,PySem.NumText.AllDigits (l.takeWhile isF)
 | []=>fun c h=>by cases h
 | c :: r=>by
  rw [List.takeWhile_cons]
  cases h:isF c with
  | true =>
   intro d hd
   rcases List.mem_cons.mp hd with rfl | hd
   ·exact (isF_iff d).mp h
   ·exact while_digits r d hd
  | false=>intro d hd; cases hd
noncomputable abbrev s_piece_at:Stmt:=top 63
theorem sc_piece_at:FnScope ["text","at","end","word","sign"] ["text","at"] (defScope s_piece_at):=⟨rfl,rfl,rfl,by decide +kernel,rfl,by decide +kernel,by decide +kernel⟩
theorem ok_piece_at {f:Addr} {fd:FuncData} {tF:Tok} {dS:Addr} (F:Fun K "piece_at" "piece_at" s_piece_at f fd) (B:Blt mg) (mF:mg "FIGURES"=some (.str "0123456789" tF)) (mS:mg "SIGNS"=some (.ref dS)) (TS:TopItems w K dS kvS)
  (Gnum:Def P w K mg base CX0 1 "number_of" spNumberOf) (Gend:Def P w K mg base CX0 1 "figures_end" spFigEnd):FnOk P w K mg base CX0 2 f fd ["text","at"] spPieceAt:=by
 refine F.ok sc_piece_at (fun vs H Q E h=>?_) (fun cdv A outer s H vs Q E hr h=>?_)
 ·obtain ⟨z,k,v,n,rfl,_⟩:=h
  rfl
 obtain ⟨z,k,v,n,rfl,hl,ht,q⟩:=h
 have big:z.length≤sizeLine:=by rw [sizeLine_eq]; lia
 have lz:(cs z).length=z.length:=cs_len z
 have hk:k < (cs z).length:=by
  rcases Nat.lt_or_ge k (cs z).length with h | h
  ·exact h
  ·rw [List.drop_eq_nil_of_le h] at ht
   cases ht
 have ed:(cs z).drop k=(cs z)[k] :: (cs z).drop (k + 1):=List.drop_eq_getElem_cons hk
 have hat:atI z.cps.toList (k:Int)=some (cs z)[k]:=atI_nat (List.getElem?_eq_getElem hk)
 generalize hc:(cs z)[k]=c at ed hat
 generalize hrr:(cs z).drop (k + 1)=r at ed
 refine ⟨_,(pss_cons (ps_if (pt_cmpR op_in_one (pe_ix ix_str (pv 0) (pv 1) (fun _ _=>rfl)) pe_str rfl) (pss_one (ps_ret (pe_tup (pa_cons (pe_ix ix_str (pv 0) (pv 1) (fun _ _=>rfl)) (pa_cons (pe_op op_add (pv 1) pe_int) pa_nil))))) pss_nil)
   (pss_cons (ps_if (pt_cmpR op_in_one (pe_ix ix_str (pv 0) (pv 1) (fun _ _=>rfl)) (pe_glob (v:=.str "0123456789") rfl mF ⟨_,rfl⟩) rfl) (pss_cons (ps_set (i:=2) sc_piece_at.nd rfl (by first | exact Or.inl rfl | exact Or.inr rfl) (pe_def Gend (hr.mono (by lia)) (pa_cons (pv 0) (pa_cons (pv 1) pa_nil))))
   (pss_one (ps_ret (pe_tup (pa_cons (pe_def Gnum (hr.mono (by lia)) (pa_cons (pe_slice sl_str (pv 0) (po_some (pv 1)) (po_some (pv 2))) pa_nil)) (pa_cons (pv 2) pa_nil)))))) pss_nil)
   (pss_cons (ps_for PassesOwn.never rfl (pi_items mS TS) (pg_tup rfl (pgs_cons (pg_name (i:=3) sc_piece_at.nd rfl (by first | exact Or.inl rfl | exact Or.inr rfl)) (pgs_cons (pg_name (i:=4) sc_piece_at.nd rfl (by first | exact Or.inl rfl | exact Or.inr rfl)) pgs_nil))) (pss_one (ps_if (pt_cmpR op_eq (pe_slice sl_str (pv 0) (po_some (pv 1)) (po_some (pe_op op_add (pv 1) pe_int))) (pv 4) (nomark _)) (pss_one (ps_ret (pe_tup (pa_cons (pv 3) (pa_cons (pe_op op_add (pv 1) pe_int) pa_nil))))) pss_nil)))
   (pss_one ps_never)))),?_⟩
 refine ⟨_,rfl,_,rfl,z,_,_,rfl,rfl,big,hat,_,_,rfl,rfl,_,rfl,?_⟩
 rw [ed] at ht
 unfold tokAt at ht
 dsimp only at ht
 refine ite2 (fun e=>?_) (fun e=>?_)
 ·have e1:c=40∨c=41:=by
   have:=of_decide_eq_true e
   rw [show cs ("()":Str)=[40,41] by decide +kernel] at this
   simpa using this
  rw [if_pos e1] at ht
  cases ht
  refine ⟨_,rfl,_,rfl,z,_,_,rfl,rfl,big,hat,_,rfl,_,_,rfl,rfl,(by show 2≤sizeLine; decide),fun t ht=>?_⟩
  exact q t _ (Same.new ht) upd_same
 have e1:¬ (c=40∨c=41):=fun h=>e (decide_eq_true (by rw [show cs ("()":Str)=[40,41] by decide +kernel]; simpa using h))
 rw [if_neg e1] at ht
 refine ⟨_,rfl,_,rfl,z,_,_,rfl,rfl,big,hat,_,_,rfl,rfl,_,rfl,?_⟩
 refine ite2 (fun e2=>?_) (fun e2=>?_)
 ·rw [if_pos (show isF c=true from e2)] at ht
  split at ht
  ·rename_i hg
   cases ht
   rw [← ed] at hg q
   refine ⟨_,rfl,_,rfl,z,k,rfl,by lia,hl,?_⟩
   refine ⟨_,rfl,_,rfl,_,rfl,_,rfl,_,rfl,z,rfl,big,fun y hy=>?_⟩
   have ey:cs y=((cs z).drop k).takeWhile isF:=by
    rw [hy,cutG_nat (by lia),show k + (((cs z).drop k).takeWhile isF).length - k=(((cs z).drop k).takeWhile isF).length by lia,take_while]
   refine ⟨y,rfl,by rw [ey]; exact while_digits _,⟨c,r.takeWhile isF,?_,hg.1⟩,by rw [← cs_len,ey]; exact hg.2,fun H' s'=>?_⟩
   ·rw [ey,ed,List.takeWhile_cons,show isF c=true from e2]; rfl
   rw [ey]
   refine ⟨_,rfl,(by show 2≤sizeLine; decide),fun t ht=>?_⟩
   exact q t _ (s'.trans (Same.new ht)) upd_same
  ·cases ht
 rw [if_neg (show ¬ isF c=true from e2),← ed] at ht
 refine for_items (kvs:=kvS) (fun i σ H'=>∃ o1 o2:Option V,σ=[some (.str z),some (.int k),none,o1,o2]∧Same H H'∧(0 < i→((cs z).drop k).take 3≠sgn "plus")∧(1 < i→((cs z).drop k).take 3≠sgn "less")∧(2 < i→((cs z).drop k).take 3≠sgn "times")∧(3 < i→((cs z).drop k).take 3≠sgn "share")) ⟨none,none,rfl,Same.refl _,by lia,by lia,by lia,by lia⟩ ?_ ?_
 ·rintro i T wd x σ H' hi ⟨o1,o2,rfl,sH,n1,n2,n3,n4⟩ hT
  have hx:∃ sg:Str,x=.str sg∧cs sg=sgn wd∧((i=0∧wd="plus")∨(i=1∧wd="less")∨(i=2∧wd="times")∨(i=3∧wd="share")):=by
   match i,hi with
   | 0,hi=>cases hi; exact ⟨_,rfl,by decide +kernel,.inl ⟨rfl,rfl⟩⟩
   | 1,hi=>cases hi; exact ⟨_,rfl,by decide +kernel,.inr (.inl ⟨rfl,rfl⟩)⟩
   | 2,hi=>cases hi; exact ⟨_,rfl,by decide +kernel,.inr (.inr (.inl ⟨rfl,rfl⟩))⟩
   | 3,hi=>cases hi; exact ⟨_,rfl,by decide +kernel,.inr (.inr (.inr ⟨rfl,rfl⟩))⟩
   | i + 4,hi=>cases hi
  obtain ⟨sg,rfl,hsg,hcase⟩:=hx
  refine ⟨T,_,rfl,SqT.of upd_same,rfl,_,_,rfl,_,_,rfl,rfl,?_⟩
  refine ⟨_,rfl,_,rfl,_,rfl,_,rfl,_,_,rfl,rfl,_,rfl,z,rfl,big,fun y hy=>⟨_,rfl,rfl,_,rfl,?_⟩⟩
  have ey:cs y=((cs z).drop k).take 3:=by
   rw [hy]
   have:=cutG_nat (l:=cs z) (a:=k) (b:=k + 3) (by lia)
   rw [show k + 3 - k=3 by lia] at this
   exact this
  refine ite2 (fun e3=>?_) (fun e3=>?_)
  ·have e4:y=sg:=V.str.inj (of_decide_eq_true e3)
   subst e4
   rw [hsg] at ey
   have e5:v=.str wd∧n=3:=by
    rcases hcase with ⟨rfl,rfl⟩ | ⟨rfl,rfl⟩ | ⟨rfl,rfl⟩ | ⟨rfl,rfl⟩
    ·rw [if_pos ey.symm] at ht; cases ht; exact ⟨rfl,rfl⟩
    ·rw [if_neg (n1 (by lia)),if_pos ey.symm] at ht; cases ht; exact ⟨rfl,rfl⟩
    ·rw [if_neg (n1 (by lia)),if_neg (n2 (by lia)),if_pos ey.symm] at ht; cases ht; exact ⟨rfl,rfl⟩
    ·rw [if_neg (n1 (by lia)),if_neg (n2 (by lia)),if_neg (n3 (by lia)),if_pos ey.symm] at ht; cases ht; exact ⟨rfl,rfl⟩
   obtain ⟨rfl,rfl⟩:=e5
   refine ⟨_,rfl,_,rfl,_,_,rfl,rfl,(by show 2≤sizeLine; decide),fun t ht=>?_⟩
   exact q t _ (sH.trans ((Same.new hT).trans (Same.new ht))) upd_same
  ·have e4:((cs z).drop k).take 3≠sgn wd:=fun h=>e3 (decide_eq_true (congrArg V.str (str_ext (by rw [ey,hsg]; exact h))))
   refine ⟨_,_,rfl,sH.trans (Same.new hT),?_⟩
   rcases hcase with ⟨rfl,rfl⟩ | ⟨rfl,rfl⟩ | ⟨rfl,rfl⟩ | ⟨rfl,rfl⟩
   ·exact ⟨fun _=>e4,by lia,by lia,by lia⟩
   ·exact ⟨fun _=>n1 (by lia),fun _=>e4,by lia,by lia⟩
   ·exact ⟨fun _=>n1 (by lia),fun _=>n2 (by lia),fun _=>e4,by lia⟩
   ·exact ⟨fun _=>n1 (by lia),fun _=>n2 (by lia),fun _=>n3 (by lia),fun _=>e4⟩
 ·rintro σ H' ⟨o1,o2,rfl,sH,n1,n2,n3,n4⟩
  rw [if_neg (n1 (by decide)),if_neg (n2 (by decide)),if_neg (n3 (by decide)),if_neg (n4 (by decide))] at ht
  cases ht
noncomputable abbrev s_pieces_of:Stmt:=top 62
theorem sc_pieces_of:FnScope ["text","pieces","at","piece"] ["text"] (defScope s_pieces_of):=⟨rfl,rfl,rfl,by decide +kernel,rfl,by decide +kernel,by decide +kernel⟩
theorem lex_len:∀ {l:List Nat} {ts:List V},Lex l ts→ts.length≤l.length:=by
 intro l ts h
 induction h with
 | nil=>exact Nat.le_refl _
 | cons h hk hr ih =>
  rename_i l v k ts
  rw [List.length_drop] at ih
  rw [List.length_cons]
  have:l≠[]:=fun e=>by rw [e] at h; cases h
  have:0 < l.length:=List.length_pos_iff.mpr this
  lia
theorem ok_pieces_of {f:Addr} {fd:FuncData} (F:Fun K "pieces_of" "pieces_of" s_pieces_of f fd) (B:Blt mg) (Gpiece:Def P w K mg base CX0 2 "piece_at" spPieceAt):FnOk P w K mg base CX0 3 f fd ["text"] spPieces:=by
 refine F.ok sc_pieces_of (fun vs H Q E h=>?_) (fun cdv A outer s H vs Q E hr h=>?_)
 ·obtain ⟨z,ts,rfl,_⟩:=h
  rfl
 obtain ⟨z,ts,rfl,hl,hx,q⟩:=h
 have big:z.length≤sizeLine:=by rw [sizeLine_eq]; lia
 have lz:(cs z).length=z.length:=cs_len z
 have lt:=lex_len hx
 refine ⟨_,(pss_cons (ps_set (i:=1) sc_pieces_of.nd rfl (by first | exact Or.inl rfl | exact Or.inr rfl) (pe_lst pa_nil))
   (pss_cons (ps_set (i:=2) sc_pieces_of.nd rfl (by first | exact Or.inl rfl | exact Or.inr rfl) pe_int)
   (pss_cons (ps_while PassesOwn.never (pt_cmpR op_lt (pv 2) (pe_callB call_len_str rfl B.len bt_len (pa_cons (pv 0) pa_nil)) (nomark _)) (pss_cons (ps_asg (pe_def Gpiece (hr.mono (by lia)) (pa_cons (pv 0) (pa_cons (pv 2) pa_nil))) (pg_tup rfl (pgs_cons (pg_name (i:=3) sc_pieces_of.nd rfl (by first | exact Or.inl rfl | exact Or.inr rfl)) (pgs_cons (pg_name (i:=2) sc_pieces_of.nd rfl (by first | exact Or.inl rfl | exact Or.inr rfl)) pgs_nil))))
   (pss_one (ps_expr (pe_bm PySem.F.plainAttrs_list PySem.F.slot_list_append PySem.F.type_list_append mt_append (pv 1) (pa_cons (pv 3) pa_nil))))))
   (pss_one (ps_ret (pv 1)))))),?_⟩
 refine ⟨(by show 0≤sizeLine; decide),fun p hp=>?_⟩
 refine ⟨fun m σ H'=>∃ (k:Nat) (t1 t2:List V) (o:Option V),σ=[some (.str z),some (.ref p),some (.int k),o]∧Same H H'∧H' p=some (.lst t1)∧Lex ((cs z).drop k) t2∧t1++t2=ts∧m=t2.length,⟨_,0,[],ts,none,rfl,Same.new hp,upd_same,hx,rfl,rfl⟩,?_⟩
 rintro m σ H' ⟨k,t1,t2,o,rfl,sH,hP,lx,et,rfl⟩
 refine ⟨_,rfl,_,rfl,z,rfl,big,_,_,rfl,rfl,_,rfl,?_⟩
 refine ite2 (fun e=>?_) (fun e=>?_)
 ·have hk:k < (cs z).length:=by have:=of_decide_eq_true e; lia
  generalize hD:(cs z).drop k=l at lx
  cases lx with
  | nil =>
   have:=congrArg List.length hD
   rw [List.length_drop] at this
   have h0:(cs z).length - k=0:=this
   lia
  | @cons _ v n t2' h hn hr2 =>
   refine ⟨fun σ' H'=>∃ m',m' < (v :: t2').length∧∃ (k:Nat) (t1 t2:List V) (o:Option V),σ'=[some (.str z),some (.ref p),some (.int k),o]∧Same H H'∧H' p=some (.lst t1)∧Lex ((cs z).drop k) t2∧t1++t2=ts∧m'=t2.length,fun σ' H' h=>h,?_⟩
   refine ⟨_,rfl,_,rfl,z,k,v,n,rfl,hl,by rw [hD]; exact h,fun t H2 s2 h2=>?_⟩
   refine ⟨t,_,rfl,SqT.of h2,rfl,_,_,rfl,_,_,rfl,rfl,?_⟩
   have lt1:t1.length≤10000:=by rw [← et,List.length_append] at lt; lia
   refine ⟨_,rfl,.inl ⟨rfl,_,SqL.of (s2 _ _ hP)⟩,_,rfl,p,t1,v,rfl,rfl,s2 _ _ hP,(by rw [sizeLine_eq]; lia),?_⟩
   refine ⟨t2'.length,Nat.lt_succ_self _,k + n,t1++[v],t2',_,rfl,?_,upd_same,?_,by rw [List.append_assoc]; exact et,rfl⟩
   ·exact fun b o e=>by rw [upd_ne (ne_of_none e hp)]; exact s2 _ _ (sH b o e)
   ·rw [← hD,List.drop_drop] at hr2; exact hr2
 ·have hk:¬ k < (cs z).length:=fun h=>e (decide_eq_true (by lia))
  rw [List.drop_eq_nil_of_le (by lia)] at lx
  have e2:t2=[]:=by
   cases lx with
   | nil=>rfl
   | cons h _ _=>cases h
  subst e2
  rw [List.append_nil] at et
  subst et
  exact ⟨_,rfl,q p _ sH hP⟩
noncomputable abbrev s_way_closed:Stmt:=top 64
theorem sc_way_closed:FnScope ["held","bracket","first","word","second"] ["held"] (defScope s_way_closed):=⟨rfl,rfl,rfl,by decide +kernel,rfl,by decide +kernel,by decide +kernel⟩
theorem cut_last4 {pre four:List V} (h:four.length=4):cutV (pre++four) (some (-4)) none=four:=by
 unfold cutV
 have e:HT.sIx (pre++four).length 0 (some (-4))=pre.length:=by
  show (if (-4:Int) < 0 then ((-4:Int) + ((pre++four).length:Int)).toNat else min (-4:Int).toNat (pre++four).length)=_
  rw [if_pos (by decide),List.length_append,h]
  lia
 rw [e,HT.sIx_none,List.drop_left,List.length_append,h]
 exact List.take_of_length_le (by lia)
theorem ok_way_closed {f:Addr} {fd:FuncData} (F:Fun K "way_closed" "way_closed" s_way_closed f fd) (B:Blt mg) (Gword:Def P w K mg base CX0 1 "is_word" spIsWord) (Gway:Def P w K mg base CX0 1 "is_way" spIsWay):FnOk P w K mg base CX0 2 f fd ["held"] spClosed:=by
 refine F.ok sc_way_closed (fun vs H Q E h=>?_) (fun cdv A outer s H vs Q E hr h=>?_)
 ·obtain ⟨p,pre,a,b,wd,x,y,rfl,_⟩:=h
  rfl
 obtain ⟨p,pre,a,b,wd,x,y,rfl,hp,hw,ha,hb,q⟩:=h
 refine ⟨_,(pss_cons (ps_if (pt_cmpR op_lt (pe_callB call_len_seq rfl B.len bt_len (pa_cons (pv 0) pa_nil)) pe_int (nomark _)) (pss_one ps_never) pss_nil)
   (pss_cons (ps_asg (pe_slice sl_list (pv 0) (po_some (pe_un un_neg pe_int)) po_none) (pg_lst rfl (pgs_cons (pg_name (i:=1) sc_way_closed.nd rfl (by first | exact Or.inl rfl | exact Or.inr rfl)) (pgs_cons (pg_name (i:=2) sc_way_closed.nd rfl (by first | exact Or.inl rfl | exact Or.inr rfl)) (pgs_cons (pg_name (i:=3) sc_way_closed.nd rfl (by first | exact Or.inl rfl | exact Or.inr rfl)) (pgs_cons (pg_name (i:=4) sc_way_closed.nd rfl (by first | exact Or.inl rfl | exact Or.inr rfl)) pgs_nil))))))
   (pss_cons (ps_if (PW.pt (pw_or (pt_cmpR op_ne (pv 1) pe_str (nomark _)) (pw_or (pt_not (pt_val (pe_def Gword (hr.mono (by lia)) (pa_cons (pv 3) pa_nil)))) (pw_or (pt_not (pt_val (pe_def Gway (hr.mono (by lia)) (pa_cons (pv 2) pa_nil)))) (pw_or1 (pt_not (pt_val (pe_def Gway (hr.mono (by lia)) (pa_cons (pv 4) pa_nil))))))))) (pss_one ps_never) pss_nil)
   (pss_one (ps_ret (pe_tup (pa_cons (pv 3) (pa_cons (pv 2) (pa_cons (pv 4) pa_nil))))))))),?_⟩
 refine ⟨_,rfl,p,_,rfl,.inl (SqL.of hp),_,_,rfl,rfl,_,rfl,?_⟩
 refine (show (if _ then _ else _:Prop) from ?_)
 rw [if_neg (by rw [decide_eq_true_iff,List.length_append]; show ¬ (((pre.length + 4:Nat):Int) < 4); lia)]
 refine ⟨_,rfl,_,rfl,_,rfl,p,_,rfl,SqL.of hp,fun r hr'=>?_⟩
 rw [cut_last4 rfl]
 refine ⟨r,_,rfl,SqL.of upd_same,rfl,_,_,rfl,_,_,rfl,_,_,rfl,_,_,rfl,rfl,?_⟩
 refine ⟨_,rfl,rfl,_,rfl,iteF ?_⟩
 refine ⟨_,rfl,wd,rfl,hw,_,rfl,iteF ?_⟩
 refine ⟨_,rfl,a,x,rfl,ha.kt (KT.new hr'),_,rfl,iteF ?_⟩
 refine ⟨_,rfl,b,y,rfl,hb.kt (KT.new hr'),_,rfl,iteF ?_⟩
 refine ⟨_,rfl,_,rfl,_,rfl,(by show 3≤sizeLine; decide),fun t ht=>?_⟩
 exact q t _ ((Same.new hr').trans (Same.new ht)) upd_same
noncomputable abbrev s_read_way:Stmt:=top 59
theorem sc_read_way:FnScope ["text","held","piece"] ["text"] (defScope s_read_way):=⟨rfl,rfl,rfl,by decide +kernel,rfl,by decide +kernel,by decide +kernel⟩
theorem not_figs:∀ {l:List Nat} {c:Nat},c∈l→isF c=false→(l.takeWhile isF).length≠l.length
 | a :: l,c,h,hc=>by
  rw [List.takeWhile_cons]
  cases ha:isF a with
  | false=>intro e; cases e
  | true =>
   rcases List.mem_cons.mp h with rfl | h
   ·rw [hc] at ha; cases ha
   ·intro e
    have:(l.takeWhile isF).length + 1=l.length + 1:=e
    exact not_figs h hc (by lia)
theorem all_figs:∀ {l:List Nat},(∀ c∈l,isF c=true)→l.takeWhile isF=l:=by
 intro l h
 have:=take_fig (d:=l) (r:=[]) h (fun c r e=>by cases e)
 rwa [List.append_nil] at this
theorem last4 (n:Nat) (h:4≤n):HT.sIx n 0 (some (-4))=n - 4:=by
 show (if (-4:Int) < 0 then ((-4:Int) + (n:Int)).toNat else min (-4:Int).toNat n)=n - 4
 rw [if_pos (by decide)]
 lia
theorem ok_read_way {f:Addr} {fd:FuncData} (F:Fun K "read_way" "read_way" s_read_way f fd) (B:Blt mg) (Gisf:Def P w K mg base CX0 2 "is_figures" spIsFig) (Gnum:Def P w K mg base CX0 1 "number_of" spNumberOf)
  (Gpieces:Def P w K mg base CX0 3 "pieces_of" spPieces) (Gclosed:Def P w K mg base CX0 2 "way_closed" spClosed):FnOk P w K mg base CX0 4 f fd ["text"] spRead:=by
 refine F.ok sc_read_way (fun vs H Q E h=>?_) (fun cdv A outer s H vs Q E hr h=>?_)
 ·obtain ⟨x,m,rfl,_⟩:=h
  rfl
 obtain ⟨x,m,rfl,ho,hm,hz,q⟩:=h
 have tl:=txt_len hm ho
 have ltx:(mkS (txt x)).length≤10000:=by rw [len_mkS]; lia
 refine ⟨_,(pss_cons (ps_if (pt_val (pe_def Gisf (hr.mono (by lia)) (pa_cons (pv 0) pa_nil))) (pss_one (ps_ret (pe_def Gnum (hr.mono (by lia)) (pa_cons (pv 0) pa_nil)))) pss_nil)
   (pss_cons (ps_set (i:=1) sc_read_way.nd rfl (by first | exact Or.inl rfl | exact Or.inr rfl) (pe_lst pa_nil))
   (pss_cons (ps_for PassesOwn.never rfl (pi_list (pe_def Gpieces (hr.mono (by lia)) (pa_cons (pe_op op_add_str (pe_op op_add_str pe_str (pv 0)) pe_str) pa_nil))) (pg_name (i:=2) sc_read_way.nd rfl (by first | exact Or.inl rfl | exact Or.inr rfl)) (pss_one (ps_if (pt_cmpR op_eq (pv 2) pe_str (nomark _)) (pss_one (ps_asg (pe_lst (pa_cons (pe_def Gclosed (hr.mono (by lia)) (pa_cons (pv 1) pa_nil)) pa_nil)) (pg_subA (pv 1) (pe_sliceO (po_some (pe_un un_neg pe_int)) po_none) set_sl))) (pss_one (ps_expr (pe_bm PySem.F.plainAttrs_list PySem.F.slot_list_append PySem.F.type_list_append mt_append (pv 1) (pa_cons (pv 2) pa_nil)))))))
   (pss_cons (ps_if (pt_cmpR op_ne (pe_callB call_len_seq rfl B.len bt_len (pa_cons (pv 1) pa_nil)) pe_int (nomark _)) (pss_one ps_never) pss_nil)
   (pss_one (ps_ret (pe_ix ix_list (pv 1) pe_int (fun _ _=>rfl)))))))),?_⟩
 refine ⟨_,rfl,_,rfl,ltx,fun b hb=>⟨_,rfl,?_⟩⟩
 rw [cs_mkS] at hb
 cases x with
 | num n =>
  obtain ⟨h1,h2⟩:=ho
  obtain ⟨ha,hc,hl,hv⟩:=dig_facts h1 (show n < topN by lia)
  have nn:txt (.num n)≠[]:=fun e=>by
   obtain ⟨c,r,e2,_⟩:=hc
   rw [show txt (.num n)=dig n from rfl,e2] at e
   exact absurd e (by simp)
  have eb:b=true:=hb.mpr ⟨nn,congrArg List.length (all_figs (l:=txt (.num n)) fun c hc=>(isF_iff c).mpr (ha c hc))⟩
  subst eb
  refine iteT ?_
  refine ⟨_,rfl,_,rfl,by rw [cs_mkS]; exact ha,by rw [cs_mkS]; exact hc,by rw [len_mkS]; show (dig n).length < 64; lia,fun H' s'=>?_⟩
  rw [cs_mkS,show txt (.num n)=dig n from rfl,hv]
  exact q _ _ s' (.num n)
 | op wd a1 b1 =>
  have eb:b=false:=by
   rw [Bool.eq_false_iff]
   intro e
   exact not_figs (l:=txt (.op wd a1 b1)) (c:=32) (by simp [txt,sgn]) (by decide +kernel) (hb.mp e).2
  subst eb
  refine iteF ?_
  refine ⟨(by show 0≤sizeLine; decide),fun hd hhd=>?_⟩
  have sz:sizeLine=16777216:=sizeLine_eq
  refine ⟨_,rfl,_,_,rfl,rfl,(by show 1 + (mkS (txt (.op wd a1 b1))).length≤sizeLine; lia),_,_,rfl,rfl,(by rw [cs_len_app]; show 1 + (mkS (txt (.op wd a1 b1))).length + 1≤sizeLine; lia),?_⟩
  have ecs:cs ((("(":Str)++mkS (txt (.op wd a1 b1)))++(")":Str))=par (.op wd a1 b1):=by
   rw [cs_app,cs_app,cs_mkS,par_txt]; rfl
  have lx:Lex (par (.op wd a1 b1)) (toks (.op wd a1 b1)):=by
   have:=lex_par hm ho (r:=[]) (ts:=[]) (fun c r e=>by cases e) .nil
   rwa [List.append_nil,List.append_nil] at this
  have tkl:=toks_len (.op wd a1 b1)
  refine ⟨_,_,rfl,(by rw [cs_len_app,cs_len_app]; show 1 + (mkS (txt (.op wd a1 b1))).length + 1≤10000; rw [len_mkS]; lia),by rw [ecs]; exact lx,fun r H1 s1 hr1=>?_⟩
  have h0:H1 hd=some (.lst []):=s1 _ _ upd_same
  have nhr:hd≠r:=fun e=>by subst e; rw [h0] at hr1; injection hr1 with hr1; injection hr1 with hr1; cases hr1
  generalize hx:Way.op wd a1 b1=x at *
  refine ⟨r,rfl,⟨_,SqL.of hr1⟩,for_list (K:=K) (a:=r) (xs:=toks x) (fun i σ H'=>∃ (vl:List V) (il:List Item) (o:Option V),σ=[some (.str (mkS (txt x))),some (.ref hd),o]∧Same H H'∧H' r=some (.lst (toks x))∧H' hd=some (.lst vl.reverse)∧Paired (ItemIn H') vl il∧parse ((toks x).drop i) il=some [.wy x]∧vl.length≤i)
   ⟨[],[],none,rfl,(Same.new hhd).trans s1,hr1,h0,.nil,by have:=parse_toks ho [] []; rw [List.append_nil] at this; exact this,Nat.le_refl _⟩ (fun i σ H' _ ⟨_,_,_,_,_,g,_⟩=>SqL.of g) ?_ ?_⟩
  ·rintro i y σ H' hi ⟨vl,il,o,rfl,sH,hR,hP,pr,hrun,hlen⟩
   have hil:i < (toks x).length:=(List.getElem?_eq_some_iff.mp hi).1
   have ed:(toks x).drop i=y :: (toks x).drop (i + 1):=by
    rw [List.drop_eq_getElem_cons hil,(List.getElem?_eq_some_iff.mp hi).2]
   rw [ed] at hrun
   have big:∀ k:Nat,k≤1000→k < sizeLine:=fun k=>small1000
   rcases parse_some hrun with ⟨n,rfl,hrun⟩ | ⟨rfl,hrun⟩ | ⟨w2,a2,b2,il2,rfl,rfl,hrun⟩ | ⟨w2,rfl,n1,n2,hw2,hrun⟩
   ·refine ⟨_,rfl,rfl,_,rfl,?_⟩
    rw [decide_eq_false (fun e=>by cases e)]
    refine iteF ?_
    refine ⟨_,rfl,.inl ⟨rfl,_,SqL.of hP⟩,_,rfl,hd,_,_,rfl,rfl,hP,big _ (by rw [List.length_reverse]; lia),?_⟩
    refine ⟨.int n :: vl,(.wy (.num n)) :: il,_,rfl,?_,?_,?_,?_,hrun,Nat.succ_le_succ hlen⟩
    ·exact fun b o e=>by rw [upd_ne (ne_of_none e hhd)]; exact sH b o e
    ·rw [upd_ne nhr.symm]; exact hR
    ·rw [upd_same,List.reverse_cons]
    ·exact Paired.mapP (Paired.cons (.wy (.num n)) pr) fun _ _ h=>h.kt (KT.upd hP)
   ·refine ⟨_,rfl,rfl,_,rfl,?_⟩
    rw [decide_eq_false (fun e=>absurd (V.str.inj e) (by decide))]
    refine iteF ?_
    refine ⟨_,rfl,.inl ⟨rfl,_,SqL.of hP⟩,_,rfl,hd,_,_,rfl,rfl,hP,big _ (by rw [List.length_reverse]; lia),?_⟩
    refine ⟨.str "(" :: vl,.br :: il,_,rfl,?_,?_,?_,?_,hrun,Nat.succ_le_succ hlen⟩
    ·exact fun b o e=>by rw [upd_ne (ne_of_none e hhd)]; exact sH b o e
    ·rw [upd_ne nhr.symm]; exact hR
    ·rw [upd_same,List.reverse_cons]
    ·exact Paired.mapP (Paired.cons (.br) pr) fun _ _ h=>h.kt (KT.upd hP)
   ·cases pr with
    | @cons v1 _ vl1 _ i1 pr =>
     cases pr with
     | @cons v2 _ vl2 _ i2 pr =>
      cases pr with
      | @cons v3 _ vl3 _ i3 pr =>
       cases pr with
       | @cons v4 _ vl4 _ i4 pr =>
        cases i1 with
        | wy w1 =>
        cases i2 with
        | wd hw2 =>
        cases i3 with
        | wy w3 =>
        cases i4 with
        | br =>
        have erev:(v1 :: V.str w2 :: v3 :: V.str "(" :: vl4).reverse=vl4.reverse++[.str "(",v3,.str w2,v1]:=by simp
        rw [erev] at hP
        have ln4:vl4.length + 4≤i:=hlen
        refine ⟨_,rfl,rfl,_,rfl,iteT ?_⟩
        refine ⟨_,rfl,hd,_,_,_,_,_,_,rfl,hP,hw2,w3,w1,fun t H2 s2 ht=>?_⟩
        refine ⟨(by show 1≤sizeLine; decide),fun lq hlq=>?_⟩
        refine ⟨_,rfl,_,rfl,_,rfl,fun sl hsl=>?_⟩
        have hP3:(upd (upd H2 lq (.lst [.ref t])) sl (slO (some (-4)) none sl)) hd=some (.lst (vl4.reverse++[.str "(",v3,.str w2,v1])):=Same.new hsl _ _ (Same.new hlq _ _ (s2 _ _ hP))
        have hQ3:(upd (upd H2 lq (.lst [.ref t])) sl (slO (some (-4)) none sl)) lq=some (.lst [.ref t]):=Same.new hsl _ _ upd_same
        have nhq:hd≠lq:=fun e=>by subst e; rw [s2 _ _ hP] at hlq; cases hlq
        have nle:(vl4.reverse++[V.str "(",v3,V.str w2,v1]).length=vl4.length + 4:=by simp
        refine ⟨hd,lq,sl,_,_,some (-4),none,rfl,rfl,rfl,hP3,hQ3,nhq,upd_same,?_,?_,?_⟩
        ·rw [nle,last4 _ (by lia),HT.sIx_none]; lia
        ·rw [nle]; show vl4.length + 4 + 1≤sizeLine; lia
        ·rw [nle,last4 _ (by lia),HT.sIx_none,← nle,List.drop_length,nle]
         rw [show vl4.length + 4 - 4=vl4.reverse.length by rw [List.length_reverse]; lia,List.take_left,List.append_nil]
         have kt:KT H' (upd (upd (upd H2 lq (.lst [.ref t])) sl (slO (some (-4)) none sl)) hd (.lst (vl4.reverse++[.ref t]))):=(KT.same (s2.trans ((Same.new hlq).trans (Same.new hsl)))).trans (KT.upd hP3)
         have hT:(upd (upd (upd H2 lq (.lst [.ref t])) sl (slO (some (-4)) none sl)) hd (.lst (vl4.reverse++[.ref t]))) t=some (.tup [.str w2,v3,v1]):=by
          have:=KT.upd (o:=.lst (vl4.reverse++[.ref t])) hP3
          exact this _ _ (Same.new hsl _ _ (Same.new hlq _ _ ht))
         refine ⟨.ref t :: vl4,.wy (.op w2 a2 b2) :: il2,_,rfl,?_,?_,?_,?_,hrun,by show vl4.length + 1≤i + 1; lia⟩
         ·exact fun b o e=>by rw [upd_ne (ne_of_none e hhd)]; exact Same.new hsl _ _ (Same.new hlq _ _ (s2 _ _ (sH b o e)))
         ·rw [upd_ne nhr.symm]; exact Same.new hsl _ _ (Same.new hlq _ _ (s2 _ _ hR))
         ·rw [upd_same,List.reverse_cons]
         ·exact .cons (.wy (.op hT (w3.kt kt) (w1.kt kt))) (Paired.mapP pr fun _ _ h=>h.kt kt)
   ·refine ⟨_,rfl,rfl,_,rfl,?_⟩
    rw [decide_eq_false (fun e=>n2 (V.str.inj e))]
    refine iteF ?_
    refine ⟨_,rfl,.inl ⟨rfl,_,SqL.of hP⟩,_,rfl,hd,_,_,rfl,rfl,hP,big _ (by rw [List.length_reverse]; lia),?_⟩
    refine ⟨.str w2 :: vl,(.wd w2) :: il,_,rfl,?_,?_,?_,?_,hrun,Nat.succ_le_succ hlen⟩
    ·exact fun b o e=>by rw [upd_ne (ne_of_none e hhd)]; exact sH b o e
    ·rw [upd_ne nhr.symm]; exact hR
    ·rw [upd_same,List.reverse_cons]
    ·exact Paired.mapP (Paired.cons (.wd hw2) pr) fun _ _ h=>h.kt (KT.upd hP)
  ·rintro σ H' ⟨vl,il,o,rfl,sH,hR,hP,pr,hrun,hlen⟩
   rw [List.drop_length] at hrun
   have est:il=[.wy x]:=by rw [parse] at hrun; exact Option.some.inj hrun
   subst est
   cases pr with
   | @cons v1 _ vl1 _ i1 pr =>
    cases pr
    cases i1 with
    | wy w1 =>
    refine ⟨_,rfl,hd,_,rfl,.inl (SqL.of hP),rfl,_,rfl,iteNS rfl ?_⟩
    refine ⟨_,rfl,hd,_,_,_,rfl,rfl,SqL.of hP,rfl,?_⟩
    exact q _ _ sH w1
end
end Law
namespace Law
open PySem L2
section
variable {P:Program} {w:World} {K:PySem.W.Frag} {mg:Str→Option Value} {base:Heap}
theorem sql_same {K:PySem.W.Frag} {H H':Hp} {a:Addr} {xs:List V} (s:Same H H') (h:SqL K H a xs):SqL K H' a xs:=by
 rcases h with h | h
 ·rcases h with h | ⟨o,h⟩
  ·exact .inl (.inl (s _ _ h))
  ·exact .inl (.inr ⟨o,s _ _ h⟩)
 ·exact .inr h
theorem same_upd {H H':Hp} {p:Addr} {o:HO} (s:Same H H') (h:H p=none):Same H (upd H' p o):=fun b u e=>by rw [upd_ne (ne_of_none e h)]; exact s b u e
section
variable {X:Cx} {pos:Pos}
theorem w_ixT {a b:Expr} {ta tb:TE} {r:R2} (hr:IxR X r) (ha:Wr (PE X a ta)) (hb:Wr (PE X b tb)) (hs:PlainIx b):Wr (PE X (.Subscript a b pos) (tOp r ta tb)):=⟨pe_ix hr ha.un hb.un hs⟩
theorem w_pnil:Wr (PPs X pos [] [] []):=⟨pps_nil⟩
theorem w_pcons {k v:Expr} {ks:List (Option Expr)} {vs:List Expr} {tk tv:TE} {trs:List (TE×TE)} (hk:Wr (PE X k tk)) (hv:Wr (PE X v tv)) (hr:Wr (PPs X pos ks vs trs)):Wr (PPs X pos (some k :: ks) (v :: vs) ((tk,tv) :: trs)):=⟨pps_cons hk.un hv.un hr.un⟩
theorem w_disp {keys:List (Option Expr)} {values:List Expr} {trs:List (TE×TE)} (h:Wr (PPs X pos keys values trs)) (hall:keys.all (·.isSome)=true) (hl:keys.length=values.length) (h0:keys≠[]) (h15:keys.length≤15):Wr (PE X (.Dict keys values pos) (tDisp trs)):=⟨pe_disp h.un hall hl h0 h15⟩
theorem w_dget {o i:Expr} {td ty:TE} (hu:X.A.units + 1 < cLine) (ho:Wr (PE X o td)) (hi:Wr (PE X i ty)) (hs:NoSl i):Wr (PE X (.Subscript o i pos) (tDGet td ty)):=⟨pe_dget hu ho.un hi.un hs⟩
end
theorem seq_key {s u:TS} {D:Ends} {σ:St} {H:Hp} (Mid:St→Hp→Prop) (h2:∀ σ' H',Mid σ' H'→u D σ' H') (h:∀ X':St→Hp→Prop,(∀ σ' H',Mid σ' H'→X' σ' H')→s { D with nx:=X' } σ H):tSeq s u D σ H:=h (u D) h2
noncomputable def spDrawS (K:PySem.W.Frag):Sp:=fun vs H Q _=>∃ (a:Addr) (ns:List Int) (k:Int),vs=[.ref a,.int k]∧SqL K H a (ns.map V.int)∧ns.length≤63∧0≤k∧k < 100000∧∀ (r:Int) (H':Hp),0≤r→r < 2147483579→Same H H'→Q (.int r) H'
noncomputable abbrev s_law_draw:Stmt:=top 85
theorem sc_law_draw:FnScope ["script","k","many","cell","turn","mixed"] ["script","k"] (defScope s_law_draw):=⟨rfl,rfl,rfl,by decide +kernel,rfl,by decide +kernel,by decide +kernel⟩
theorem ok_draw {f:Addr} {fd:FuncData} (F:Fun K "_law_draw" "_law_draw" s_law_draw f fd) (B:Blt mg) (Bmax:mg "max"=none) (Bmin:mg "min"=none) (Blist:mg "list"=none):FnOk P w K mg base CX0 1 f fd ["script","k"] (spDrawS K):=by
 refine F.ok sc_law_draw (fun vs H Q E h=>?_) (fun cdv A outer s H vs Q E hr h=>?_)
 ·obtain ⟨a,ns,k,rfl,_⟩:=h
  rfl
 obtain ⟨a,ns,k,rfl,hS,hl,k0,k1,q⟩:=h
 refine ⟨_,(pss_cons (ps_set (i:=2) sc_law_draw.nd rfl (by first | exact Or.inl rfl | exact Or.inr rfl) (pe_callB (call_max2 rfl) rfl Bmax bt_max (pa_cons pe_int (pa_cons (pe_callB call_len_seq rfl B.len bt_len (pa_cons (pv 0) pa_nil)) pa_nil))))
   (pss_cons (ps_set (i:=3) sc_law_draw.nd rfl (by first | exact Or.inl rfl | exact Or.inr rfl) (pe_ix ix_list (pe_op op_cat (pe_callTy call_list_of rfl Blist bt_list (pa_cons (pv 0) pa_nil)) (pe_lst (pa_cons pe_int pa_nil))) (pe_op op_mod (pv 1) (pv 2)) (fun _ _=>rfl)))
   (pss_cons (ps_if (PW.pt (pw_or (pt_cmpR op_ge (pv 3) (pe_op op_pow pe_int pe_int) (nomark _)) (pw_or1 (pt_cmpR op_le (pv 3) (pe_un un_neg (pe_op op_pow pe_int pe_int)) (nomark _))))) (pss_cons (ps_for PassesOwn.never rfl (pi_range1 rfl B.range (pa_cons (pe_callB (call_min2 rfl) rfl Bmin bt_min (pa_cons (pe_op op_fdiv (pv 1) (pv 2)) (pa_cons pe_int pa_nil))) pa_nil)) (pg_name (i:=4) sc_law_draw.nd rfl (by first | exact Or.inl rfl | exact Or.inr rfl)) (pss_one (ps_set (i:=3) sc_law_draw.nd rfl (by first | exact Or.inl rfl | exact Or.inr rfl) (pe_op op_fdivB (pv 3) pe_int))))
   (pss_one (ps_ret (pe_op op_mod (pv 3) pe_int)))) pss_nil)
   (pss_cons (ps_set (i:=5) sc_law_draw.nd rfl (by first | exact Or.inl rfl | exact Or.inr rfl) (pe_op op_mod (pe_op op_mul (pe_op op_add (pe_op op_add (pe_op op_mod (pv 3) pe_int) pe_int) (pe_op op_mul pe_int (pe_op op_fdiv (pv 1) (pv 2)))) pe_int) pe_int))
   (pss_cons (ps_set (i:=5) sc_law_draw.nd rfl (by first | exact Or.inl rfl | exact Or.inr rfl) (pe_op op_mod (pe_op op_mul (pv 5) (pv 5)) pe_int))
   (pss_one (ps_ret (pe_op op_mod (pe_op op_mul (pv 5) pe_int) pe_int)))))))),?_⟩
 have szl:=sizeLine_eq
 refine ⟨_,rfl,a,_,rfl,.inl hS,1,_,rfl,?_⟩
 rw [List.length_map]
 obtain ⟨m,hm,m1,m2,m3⟩:∃ m:Int,(if (ns.length:Int) > 1 then (ns.length:Int) else 1)=m∧1≤m∧m≤63∧m≤(ns.length:Int) + 1:=⟨_,rfl,by split <;> lia,by split <;> lia,by split <;> lia⟩
 rw [hm]
 refine ⟨_,rfl,a,_,rfl,.inl hS,fun p1 hp1=>⟨(by show 1≤sizeLine; decide),fun p2 hp2=>⟨p1,p2,_,_,rfl,rfl,Same.new hp2 _ _ upd_same,upd_same,?_,fun p3 hp3=>?_⟩⟩⟩
 ·rw [List.length_map,szl]; show ns.length + 1≤_; lia
 have s3:Same H (upd (upd (upd H p1 (.lst (ns.map V.int))) p2 (.lst [.int 0])) p3 (.lst (ns.map V.int++[.int 0]))):=(Same.new hp1).trans ((Same.new hp2).trans (Same.new hp3))
 have g3:(upd (upd (upd H p1 (.lst (ns.map V.int))) p2 (.lst [.int 0])) p3 (.lst (ns.map V.int++[.int 0]))) p3=some (.lst ((ns++[0]).map V.int)):=by rw [upd_same,List.map_append]; rfl
 generalize upd (upd (upd H p1 (.lst (ns.map V.int))) p2 (.lst [.int 0])) p3 (.lst (ns.map V.int++[.int 0]))=H1 at s3 g3 ⊢
 have i0:0≤k % m:=Int.emod_nonneg _ (by lia)
 have i1:k % m < m:=Int.emod_lt_of_pos _ (by lia)
 obtain ⟨v,hv,hmem⟩:=atI_mem (xs:=(ns++[0]).map V.int) i0 (by rw [List.length_map,List.length_append]; show k % m < ((ns.length + 1:Nat):Int); lia)
 obtain ⟨cell,_,rfl⟩:=List.mem_map.mp hmem
 refine ⟨_,rfl,_,rfl,_,_,rfl,rfl,(by show (0:Int) < m; lia),p3,_,_,_,rfl,rfl,SqL.of g3,hv,?_⟩
 have d0:0≤k / m:=Int.ediv_nonneg k0 (by lia)
 have d1:k / m≤k:=by
  have:=Int.ediv_le_self m k0
  exact this
 dsimp only [gName]
 refine seq_key (fun σ' H'=>σ'=[some (.ref a),some (.int k),some (.int m),some (.int cell),none,none]∧H'=H1) ?_ ?_
 ·rintro σ' H' ⟨rfl,rfl⟩
  have e1:0≤cell % 2147483629:=Int.emod_nonneg _ (by decide)
  have e2:cell % 2147483629 < 2147483629:=Int.emod_lt_of_pos _ (by decide)
  refine ⟨_,rfl,_,_,rfl,rfl,(by show (0:Int) < _; decide),_,_,rfl,rfl,_,rfl,_,rfl,_,_,rfl,rfl,⟨by lia,by lia⟩,_,_,rfl,rfl,.inl ⟨by decide,by decide⟩,_,_,rfl,rfl,_,_,rfl,rfl,.inr ⟨by decide,by decide⟩,_,_,rfl,rfl,(by show (0:Int) < _; decide),?_⟩
  generalize hy:(cell % 2147483629 + 17 + 68209 * (k / m)) * 47791 % 2147483629=y
  have y0:0≤y:=by rw [← hy]; exact Int.emod_nonneg _ (by decide)
  have y1:y < 2147483629:=by rw [← hy]; exact Int.emod_lt_of_pos _ (by decide)
  refine ⟨_,rfl,_,rfl,_,_,rfl,rfl,.inl ⟨by lia,by lia⟩,_,_,rfl,rfl,(by show (0:Int) < _; decide),?_⟩
  refine ⟨_,rfl,_,_,rfl,rfl,.inr ⟨by decide,by decide⟩,_,_,rfl,rfl,(by show (0:Int) < _; decide),?_⟩
  exact q _ _ (Int.emod_nonneg _ (by decide)) (Int.emod_lt_of_pos _ (by decide)) s3
 ·intro X' hX
  refine ⟨_,rfl,_,_,rfl,rfl,⟨by decide,by decide,by decide⟩,_,_,rfl,rfl,_,rfl,?_⟩
  refine ite2 (fun _=>iteT ?g1) (fun _=>?g3)
  case g3 =>
   refine ⟨_,rfl,_,_,rfl,rfl,⟨by decide,by decide,by decide⟩,_,rfl,_,_,rfl,rfl,_,rfl,?_⟩
   refine ite2 (fun _=>?g2) (fun _=>?g4)
   case g4=>exact hX _ _ ⟨rfl,rfl⟩
   case g2 =>
    refine ⟨_,rfl,_,rfl,_,_,rfl,rfl,⟨by lia,by lia⟩,_,_,rfl,_,rfl,(by split <;> lia),(by split <;> lia),for_range (fun i σ H'=>∃ (c:Int) (z:Option V),σ=[some (.ref a),some (.int k),some (.int m),some (.int c),z,none]∧H'=H1) ⟨cell,none,rfl,rfl⟩ ?_ ?_⟩
    ·rintro i σ H' _ ⟨c,z,rfl,rfl⟩
     exact ⟨_,rfl,_,_,rfl,rfl,⟨by decide,by decide⟩,_,_,rfl,rfl⟩
    ·rintro σ H' ⟨c,z,rfl,rfl⟩
     exact ⟨_,rfl,_,_,rfl,rfl,(by show (0:Int) < _; decide),q _ _ (Int.emod_nonneg _ (by decide)) (Int.lt_trans (Int.emod_lt_of_pos _ (by decide)) (by decide)) s3⟩
  case g1 =>
   refine ⟨_,rfl,_,rfl,_,_,rfl,rfl,⟨by lia,by lia⟩,_,_,rfl,_,rfl,(by split <;> lia),(by split <;> lia),for_range (fun i σ H'=>∃ (c:Int) (z:Option V),σ=[some (.ref a),some (.int k),some (.int m),some (.int c),z,none]∧H'=H1) ⟨cell,none,rfl,rfl⟩ ?_ ?_⟩
   ·rintro i σ H' _ ⟨c,z,rfl,rfl⟩
    exact ⟨_,rfl,_,_,rfl,rfl,⟨by decide,by decide⟩,_,_,rfl,rfl⟩
   ·rintro σ H' ⟨c,z,rfl,rfl⟩
    exact ⟨_,rfl,_,_,rfl,rfl,(by show (0:Int) < _; decide),q _ _ (Int.emod_nonneg _ (by decide)) (Int.lt_trans (Int.emod_lt_of_pos _ (by decide)) (by decide)) s3⟩
noncomputable abbrev s_steps_of:Stmt:=top 14
theorem sc_steps_of:FnScope ["way","steps","waiting","part","word","first","second"] ["way"] (defScope s_steps_of):=⟨rfl,rfl,rfl,by decide +kernel,rfl,by decide +kernel,by decide +kernel⟩
theorem ok_steps_of {f:Addr} {fd:FuncData} (F:Fun K "steps_of" "steps_of" s_steps_of f fd) (B:Blt mg):FnOk P w K mg base CX0 1 f fd ["way"] spSteps:=by
 refine F.ok sc_steps_of (fun vs H Q E h=>?_) (fun cdv A outer s H vs Q E hr h=>?_)
 ·obtain ⟨v,x,rfl,_⟩:=h
  rfl
 obtain ⟨v,x,rfl,hx,hn,q⟩:=h
 refine ⟨_,(pss_cons (ps_set (i:=1) sc_steps_of.nd rfl (by first | exact Or.inl rfl | exact Or.inr rfl) (pe_lst pa_nil))
   (pss_cons (ps_set (i:=2) sc_steps_of.nd rfl (by first | exact Or.inl rfl | exact Or.inr rfl) (pe_lst (pa_cons (pv 0) pa_nil)))
   (pss_cons (ps_while PassesOwn.never (pt_truth (pv 2) (fun _=>rfl)) (pss_cons (ps_set (i:=3) sc_steps_of.nd rfl (by first | exact Or.inl rfl | exact Or.inr rfl) (pe_bm0 PySem.F.plainAttrs_list PySem.F.slot_list_pop PySem.F.type_list_pop mt_pop (pv 2)))
   (pss_one (ps_if (pt_val (pe_isin B.isinstance B.tuple bt_tuple (pv 3))) (pss_cons (ps_asg (pv 3) (pg_tup rfl (pgs_cons (pg_name (i:=4) sc_steps_of.nd rfl (by first | exact Or.inl rfl | exact Or.inr rfl)) (pgs_cons (pg_name (i:=5) sc_steps_of.nd rfl (by first | exact Or.inl rfl | exact Or.inr rfl)) (pgs_cons (pg_name (i:=6) sc_steps_of.nd rfl (by first | exact Or.inl rfl | exact Or.inr rfl)) pgs_nil)))))
   (pss_cons (ps_expr (pe_bm PySem.F.plainAttrs_list PySem.F.slot_list_append PySem.F.type_list_append mt_append (pv 1) (pa_cons (pv 4) pa_nil)))
   (pss_cons (ps_expr (pe_bm PySem.F.plainAttrs_list PySem.F.slot_list_append PySem.F.type_list_append mt_append (pv 2) (pa_cons (pv 5) pa_nil)))
   (pss_one (ps_expr (pe_bm PySem.F.plainAttrs_list PySem.F.slot_list_append PySem.F.type_list_append mt_append (pv 2) (pa_cons (pv 6) pa_nil))))))) (pss_one (ps_expr (pe_bm PySem.F.plainAttrs_list PySem.F.slot_list_append PySem.F.type_list_append mt_append (pv 1) (pa_cons (pv 3) pa_nil))))))))
   (pss_one (ps_ret (pe_rev (pv 1))))))),?_⟩
 refine ⟨(by show 0≤sizeLine; decide),fun ps hps=>⟨_,rfl,(by show 1≤sizeLine; decide),fun pw hpw=>?_⟩⟩
 have hs1:(upd (upd H ps (.lst [])) pw (.lst [v])) ps=some (.lst []):=by rw [upd_ne (ne_of_none upd_same hpw),upd_same]
 have npw:H pw=none:=(Same.new hps).free hpw
 have nsw:ps≠pw:=ne_of_none upd_same hpw
 refine ⟨fun m σ H'=>∃ (vr:List V) (wr:List Way) (st:List V) (a b c d:Option V),σ=[some v,some (.ref ps),some (.ref pw),a,b,c,d]∧Same H H'∧H' ps=some (.lst st)∧H' pw=some (.lst vr.reverse)∧Paired (WayIn H) vr wr∧st++wr.flatMap emit=emit x∧m=sumNodes wr,
  ⟨_,[v],[x],[],none,none,none,none,rfl,(Same.new hps).trans (Same.new hpw),hs1,upd_same,.cons hx .nil,by simp,rfl⟩,?_⟩
 rintro m σ H' ⟨vr,wr,st,a,b,c,d,rfl,sH,h1,h2,pr,eq,em⟩
 have lenAll:st.length + sumNodes wr=x.nodes:=by rw [← emits_len,← List.length_append,eq,emit_len]
 have lenW:=len_le_nodes wr
 have lenV:vr.length=wr.length:=pr.length
 refine ⟨_,rfl,_,.inl ⟨_,SqL.of h2,rfl⟩,?_⟩
 cases pr with
 | nil =>
  refine iteF ?_
  have e:st=emit x:=by simpa using eq
  refine ⟨_,rfl,ps,_,rfl,SqL.of h1,fun p hp=>?_⟩
  refine q p _ (sH.trans (Same.new hp)) ?_
  rw [upd_same,e,emit_rev]
 | @cons y z vr' wr' hy pr' =>
  have e2:(y :: vr').reverse=vr'.reverse++[y]:=List.reverse_cons
  have sn:sumNodes (z :: wr')=z.nodes + sumNodes wr':=by simp [sumNodes]
  rw [sn] at lenAll em
  have lv':vr'.length=wr'.length:=pr'.length
  have lw':=len_le_nodes wr'
  have np:=nodes_pos z
  rw [e2] at h2
  refine (show (if _ then _ else _:Prop) from ?_)
  have ne:(!((y :: vr').reverse).isEmpty)=true:=by rw [e2]; simp
  rw [if_pos ne]
  refine ⟨fun σ' H'=>∃ m',m' < m∧∃ (vr:List V) (wr:List Way) (st:List V) (a b c d:Option V),σ'=[some v,some (.ref ps),some (.ref pw),a,b,c,d]∧Same H H'∧H' ps=some (.lst st)∧H' pw=some (.lst vr.reverse)∧Paired (WayIn H) vr wr∧st++wr.flatMap emit=emit x∧m'=sumNodes wr,fun σ' H' h=>h,?_⟩
  refine ⟨_,rfl,.inl ⟨rfl,_,SqL.of h2⟩,pw,_,y,rfl,rfl,h2,(by simp),?_⟩
  rw [List.dropLast_concat]
  have h1a:(upd H' pw (.lst vr'.reverse)) ps=some (.lst st):=by rw [upd_ne nsw]; exact h1
  have h2a:(upd H' pw (.lst vr'.reverse)) pw=some (.lst vr'.reverse):=upd_same
  have sHa:Same H (upd H' pw (.lst vr'.reverse)):=fun b o e=>by rw [upd_ne (ne_of_none e npw)]; exact sH b o e
  have nps:H ps=none:=hps
  have big:∀ k:Nat,k≤1000→k < sizeLine:=fun k=>small1000
  cases hy with
  | num n =>
   refine ⟨_,rfl,_,_,TyOf.int _,kit_int_tuple _,_,rfl,iteF ?_⟩
   refine ⟨_,rfl,.inl ⟨rfl,_,SqL.of h1a⟩,_,rfl,ps,st,_,rfl,rfl,h1a,big _ (by lia),?_⟩
   refine ⟨sumNodes wr',by lia,vr',wr',st++[.int n],_,_,_,_,rfl,?_,upd_same,?_,pr',?_,rfl⟩
   ·exact fun b o e=>by rw [upd_ne (ne_of_none e nps)]; exact sHa b o e
   ·rw [upd_ne nsw.symm]; exact h2a
   ·rw [List.append_assoc]; exact eq
  | @op p wd x1 y1 a1 b1 h ha hb =>
   refine ⟨_,rfl,_,_,TyOf.tup (sHa _ _ h),kit_tup_tup _,_,rfl,iteT ?_⟩
   refine ⟨_,rfl,p,_,rfl,SqT.of (sHa _ _ h),rfl,_,_,rfl,_,_,rfl,_,_,rfl,rfl,?_⟩
   refine ⟨_,rfl,.inl ⟨rfl,_,SqL.of h1a⟩,_,rfl,ps,st,_,rfl,rfl,h1a,big _ (by lia),?_⟩
   have h2b:(upd (upd H' pw (.lst vr'.reverse)) ps (.lst (st++[.str wd]))) pw=some (.lst vr'.reverse):=by rw [upd_ne nsw.symm]; exact h2a
   have nd:(Way.op wd a1 b1).nodes=a1.nodes + b1.nodes + 1:=rfl
   have n1:=nodes_pos a1
   have n2:=nodes_pos b1
   refine ⟨_,rfl,.inl ⟨rfl,_,SqL.of h2b⟩,_,rfl,pw,_,_,rfl,rfl,h2b,big _ (by rw [List.length_reverse]; lia),?_⟩
   refine ⟨_,rfl,.inl ⟨rfl,_,SqL.of upd_same⟩,_,rfl,pw,_,_,rfl,rfl,upd_same,big _ (by rw [List.length_append,List.length_reverse]; show vr'.length + 1≤1000; lia),?_⟩
   refine ⟨b1.nodes + (a1.nodes + sumNodes wr'),by lia,y1 :: x1 :: vr',b1 :: a1 :: wr',st++[.str wd],_,_,_,_,rfl,?_,?_,?_,.cons hb (.cons ha pr'),?_,by simp [sumNodes]⟩
   ·exact fun b o e=>by rw [upd_ne (ne_of_none e npw),upd_ne (ne_of_none e npw),upd_ne (ne_of_none e nps)]; exact sHa b o e
   ·rw [upd_ne nsw,upd_ne nsw,upd_same]
   ·rw [upd_same,List.reverse_cons,List.reverse_cons]
   ·rw [← eq,List.append_assoc,List.flatMap_cons,List.flatMap_cons,List.flatMap_cons,emit]
    simp
end
end Law
namespace Law
open PySem L2
section
variable {P:Program} {w:World} {K:PySem.W.Frag} {mg:Str→Option Value} {base:Heap}
noncomputable abbrev kvT:List (Key×V):=[(Sum.inr "plus",.str "+"),(Sum.inr "less",.str "-"),(Sum.inr "times",.str "*"),(Sum.inr "share",.str "/")]
theorem sgn_of {wd:Str} (h:okWord wd):∃ sg:Str,valV (mergeK [] kvT) (Sum.inr wd)=some (.str sg)∧cs sg=[sgnC wd]:=by
 rcases h with rfl | rfl | rfl | rfl
 ·exact ⟨"+",by decide +kernel,by decide +kernel⟩
 ·exact ⟨"-",by decide +kernel,by decide +kernel⟩
 ·exact ⟨"*",by decide +kernel,by decide +kernel⟩
 ·exact ⟨"/",by decide +kernel,by decide +kernel⟩
theorem log_small {n:Int} (h0:1≤n) (h1:n < topN):n.natAbs.log2 < 1920:=by
 refine log2_lt_of (by decide) ?_
 have hn:n < 10 ^ 63:=h1
 have:(10:Int) ^ 63 < ((2 ^ 1920:Nat):Int):=by decide +kernel
 lia
noncomputable def tx (b:Bool) (x:Way):List Nat:=if b then par x else txt x
noncomputable def spText2 (n:Nat):Sp:=fun vs H Q _=>∃ (v:V) (b:Bool) (x:Way),vs=[v,.bl b]∧WayIn H v x∧x.ok 1000000∧x.size≤100∧x.ht < n∧∀ H',Same H H'→Q (.str (mkS (tx b x))) H'
theorem m6:(1000000:Int) < topN:=by decide +kernel
noncomputable abbrev s_law_text:Stmt:=top 87
theorem sc_law_text:FnScope ["way","within","sign","text"] ["way","within"] (defScope s_law_text):=⟨rfl,rfl,rfl,by decide +kernel,rfl,by decide +kernel,by decide +kernel⟩
theorem ok_text_step {n:Nat} {f:Addr} {fd:FuncData} (F:Fun K "_law_text" "_law_text" s_law_text f fd) (B:Blt mg) (Gtext:Def P w K mg base CX0 n "_law_text" (spText2 n)):FnOk P w K mg base CX0 (n + 1) f fd ["way","within"] (spText2 (n + 1)):=by
 refine F.okW sc_law_text (fun vs H Q E h=>?_) (fun cdv A outer s H vs Q E hr h=>?_)
 ·obtain ⟨v,b,x,rfl,_⟩:=h
  rfl
 obtain ⟨v,b,x,rfl,hx,ho,hz,hh,q⟩:=h
 refine ⟨_,(wss_cons (Wr.mk (ps_if (pt_val (pe_isin B.isinstance B.int bt_int (pv 0))) (pss_one (ps_ret (pe_callTy call_str_int rfl B.str bt_str (pa_cons (pv 0) pa_nil)))) pss_nil))
   (wss_cons (w_set (i:=2) sc_law_text.nd rfl (Or.inl rfl) (w_dget (hu_of hr) (w_disp (w_pcons w_str w_str (w_pcons w_str w_str (w_pcons w_str w_str (w_pcons w_str w_str w_pnil)))) rfl rfl (by simp) (by decide)) (Wr.mk (pe_ix ix_tup (pv 0) pe_int (fun _ _=>rfl))) (fun _ _=>rfl)))
   (wss_cons (Wr.mk (ps_set (i:=3) sc_law_text.nd rfl (by first | exact Or.inl rfl | exact Or.inr rfl) (pe_op op_add_str (pe_op op_add_str (pe_op op_add_str (pe_op op_add_str (pe_def Gtext (hr.mono (by lia)) (pa_cons (pe_ix ix_tup (pv 0) pe_int (fun _ _=>rfl)) (pa_cons pe_bl pa_nil))) pe_str) (pv 2)) pe_str) (pe_def Gtext (hr.mono (by lia)) (pa_cons (pe_ix ix_tup (pv 0) pe_int (fun _ _=>rfl)) (pa_cons pe_bl pa_nil))))))
   (wss_cons (Wr.mk (ps_if (pt_truth (pv 1) (fun _=>rfl)) (pss_one (ps_ret (pe_op op_add_str (pe_op op_add_str pe_str (pv 3)) pe_str))) pss_nil))
   (wss_one (Wr.mk (ps_ret (pv 3)))))))),?_⟩
 have szl:sizeLine=16777216:=sizeLine_eq
 have hm:=m6
 cases hx with
 | num k =>
  have h0:1≤k:=ho.1
  have h1:k < topN:=by have:=ho.2; lia
  refine ⟨_,rfl,_,_,TyOf.int _,kit_int_int _,_,rfl,iteT ?_⟩
  refine ⟨_,rfl,k,rfl,log_small h0 h1,?_⟩
  have e:mkS (tx b (.num k))=mkS (dig k):=by unfold tx; cases b <;> rfl
  rw [e] at q
  exact q _ (Same.refl _)
 | @op p wd x1 y1 a1 b1 hp ha hb =>
  obtain ⟨hw,oa,ob⟩:=ho
  obtain ⟨sg,hsg,csg⟩:=sgn_of hw
  have e2:(Way.op wd a1 b1).size=a1.size + b1.size:=rfl
  have e3:(Way.op wd a1 b1).ht=max a1.ht b1.ht + 1:=rfl
  have lsg:sg.length=1:=by rw [← cs_len,csg]; rfl
  refine ⟨_,rfl,_,_,TyOf.tup hp,kit_tup_int _,_,rfl,iteF ?_⟩
  refine fun pd hpd=>⟨upd_same,kvT,rfl,by decide,?_⟩
  have gd:(upd (upd H pd (.dK [])) pd (.dK (mergeK [] kvT))) pd=some (.dK (mergeK [] kvT)):=upd_same
  have sd:Same H (upd (upd H pd (.dK [])) pd (.dK (mergeK [] kvT))):=fun b u e=>by rw [upd_ne (ne_of_none e hpd),upd_ne (ne_of_none e hpd)]; exact e
  generalize upd (upd H pd (.dK [])) pd (.dK (mergeK [] kvT))=H1 at gd sd ⊢
  have hg:DGet H1 pd (.str wd) (some (.str sg)):=by rw [← hsg]; exact DGet.k (k:=Sum.inr wd) gd
  refine ⟨_,rfl,p,_,_,_,rfl,rfl,SqT.of (sd _ _ hp),atI_nat (j:=0) rfl,pd,.str sg,rfl,hg,?_⟩
  refine ⟨_,rfl,p,_,_,_,rfl,rfl,SqT.of (sd _ _ hp),atI_nat (j:=1) rfl,x1,true,a1,rfl,ha.kt (KT.same sd),oa,by lia,by lia,fun H2 s2=>?_⟩
  have l1:=par_len hm oa
  have l2:=par_len hm ob
  have la:(mkS (par a1)).length≤7000:=by rw [len_mkS]; lia
  have lb:(mkS (par b1)).length≤7000:=by rw [len_mkS]; lia
  refine ⟨_,_,rfl,rfl,(by show (mkS (par a1)).length + 1≤sizeLine; lia),_,rfl,_,_,rfl,rfl,(by rw [cs_len_app]; show (mkS (par a1)).length + 1 + sg.length≤sizeLine; lia),_,_,rfl,rfl,(by rw [cs_len_app,cs_len_app]; show (mkS (par a1)).length + 1 + sg.length + 1≤sizeLine; lia),?_⟩
  refine ⟨_,rfl,p,_,_,_,rfl,rfl,SqT.of (s2 _ _ (sd _ _ hp)),atI_nat (j:=2) rfl,y1,true,b1,rfl,hb.kt (KT.same (sd.trans s2)),ob,by lia,by lia,fun H3 s3=>?_⟩
  refine ⟨_,_,rfl,rfl,(by rw [cs_len_app,cs_len_app,cs_len_app]; show (mkS (par a1)).length + 1 + sg.length + 1 + (mkS (par b1)).length≤sizeLine; lia),?_⟩
  have et:mkS (tx true a1)++(" ":Str)++sg++(" ":Str)++mkS (tx true b1)=mkS (txt (.op wd a1 b1)):=mkS_eq (by
   rw [cs_app,cs_app,cs_app,cs_app,cs_mkS,cs_mkS,csg]
   show par a1++[32]++[sgnC wd]++[32]++par b1=par a1++(sgn wd++par b1)
   simp [sgn])
  rw [et]
  have lt:(mkS (txt (.op wd a1 b1))).length≤15000:=by
   rw [len_mkS]; show (par a1++(sgn wd++par b1)).length≤_; simp [sgn]; lia
  dsimp only [gName]
  have s03:=sd.trans (s2.trans s3)
  cases b with
  | true =>
   refine ⟨_,rfl,_,rfl,iteT ?_⟩
   refine ⟨_,rfl,_,_,rfl,rfl,(by show 1 + (mkS (txt (.op wd a1 b1))).length≤sizeLine; lia),_,_,rfl,rfl,(by rw [cs_len_app]; show 1 + (mkS (txt (.op wd a1 b1))).length + 1≤sizeLine; lia),?_⟩
   have ep:("(":Str)++mkS (txt (.op wd a1 b1))++(")":Str)=mkS (tx true (.op wd a1 b1)):=mkS_eq (by
    rw [cs_app,cs_app,cs_mkS]
    show [40]++txt (.op wd a1 b1)++[41]=par (.op wd a1 b1)
    rw [par_txt]; rfl)
   rw [ep]
   exact q _ s03
  | false =>
   refine ⟨_,rfl,_,rfl,iteF ?_⟩
   refine ⟨_,rfl,?_⟩
   exact q _ s03
theorem ok_text {f:Addr} {fd:FuncData} (F:Fun K "_law_text" "_law_text" s_law_text f fd) (b:Binds K fd ["way","within"] []) (m:mg "_law_text"=some (.ref f)) (B:Blt mg):∀ n,FnOk P w K mg base CX0 n f fd ["way","within"] (spText2 n)
 | 0=>by
  have no:∀ vs H Q E,¬ spText2 0 vs H Q E:=fun vs H Q E h=>by
   obtain ⟨v,b,x,_,_,_,_,h2,_⟩:=h
   lia
  exact ⟨fun vs H Q E h=>absurd h (no vs H Q E),fun A outer s H args us vs Q E _ _ _ _ h=>absurd h (no vs H Q E)⟩
 | n + 1=>ok_text_step F B (mkDef (ok_text F b m B n) b m F.kp)
end
end Law
namespace Law
open PySem L2
section
variable {P:Program} {w:World} {K:PySem.W.Frag} {mg:Str→Option Value} {base:Heap}
theorem par_chars {x:Way} (h:x.ok 1000000):∀ c∈par x,32≤c∧c≤57:=by
 induction x with
 | num n =>
  intro c hc
  have:=(dig_facts h.1 (show n < topN by have:=h.2; have:=m6; lia)).1 c hc
  lia
 | op w a b ia ib =>
  obtain ⟨hw,ha,hb⟩:=h
  intro c hc
  have hs:∀ c∈sgn w,32≤c∧c≤57:=by rcases hw with rfl | rfl | rfl | rfl <;> decide +kernel
  simp only [par,List.mem_cons,List.mem_append,List.not_mem_nil,or_false] at hc
  rcases hc with rfl | hc | hc | hc | rfl
  ·decide
  ·exact ia ha c hc
  ·exact hs c hc
  ·exact ib hb c hc
  ·decide
theorem txt_chars {x:Way} (h:x.ok 1000000):∀ c∈txt x,32≤c∧c≤57:=by
 cases x with
 | num n=>exact par_chars (x:=.num n) h
 | op w a b=>exact fun c hc=>par_chars h c (by rw [par_txt]; exact List.mem_cons_of_mem _ (List.mem_append.mpr (.inl hc)))
theorem join_len {c:Nat}:∀ (r:List Str) (q:Str),(Str.join ⟨#[c]⟩ (q :: r)).cps.toList.length + 1=((q :: r).map (·.length)).sum + (q :: r).length
 | [],q=>by
  show q.cps.toList.length + 1=q.length + 0 + 1
  rw [Array.length_toList]; rfl
 | p :: r,q=>by
  have ih:=join_len (c:=c) r p
  have e:(Str.join ⟨#[c]⟩ (q :: p :: r)).cps.toList=(q++⟨#[c]⟩++Str.join ⟨#[c]⟩ (p :: r)).cps.toList:=rfl
  have e3:(q :: p :: r).length=(p :: r).length + 1:=List.length_cons
  rw [e,cps_app,cps_app,List.length_append,List.length_append,List.map_cons,List.sum_cons,e3]
  have e1:q.cps.toList.length=q.length:=by rw [Array.length_toList]; rfl
  have e2:((⟨#[c]⟩:Str).cps.toList).length=1:=rfl
  rw [e1,e2]
  lia
noncomputable def twoT (x y:Way):List Nat:=txt x++59 :: txt y
noncomputable def lineT (x y:Way):List Nat:=[116,119,105,110,115]++32 :: twoT x y
noncomputable def yn (x y:Way):Str:=if decide (kD (fP x)=kD (fP y))=true then "yes" else "no"
theorem two_len {x y:Way} (hx:Small x) (hy:Small y):(twoT x y).length≤2000:=by
 have l1:=txt_len m6 hx.1
 have l2:=txt_len m6 hy.1
 have:=hx.2
 have:=hy.2
 unfold twoT
 rw [List.length_append,List.length_cons]
 lia
theorem two_split {x y:Way} (hx:Small x) (hy:Small y):Txt.split (mkS (twoT x y)) ";"=[mkS (txt x),mkS (txt y)]∧(PySem.Builtin.Str.occurrences (mkS (twoT x y)) ";" 0 (mkS (twoT x y)).length ((mkS (twoT x y)).length + 1)).length=1:=by
 have h1:59 ∉ txt x:=fun h=>absurd (txt_chars hx.1 59 h).2 (by decide)
 have h2:59 ∉ txt y:=fun h=>absurd (txt_chars hy.1 59 h).2 (by decide)
 have e:(mkS (twoT x y)).cps.toList=txt x++59 :: txt y:=cs_mkS _
 have es:(";":Str)=⟨#[59]⟩:=by decide +kernel
 rw [es]
 refine ⟨?_,occ_one e h1 h2⟩
 obtain ⟨p,q,e1,e2,e3⟩:=split_two e h1 h2
 rw [e1,mkS_eq (x:=p) e2,mkS_eq (x:=q) e3]
theorem line_split {x y:Way} (hx:Small x) (hy:Small y):∃ (q:Str) (r:List Str),Txt.split (mkS (lineT x y)) " "=("twins":Str) :: q :: r∧Txt.join " " (q :: r)=mkS (twoT x y)∧((q :: r).map (·.length)).sum + (q :: r).length * (" ":Str).length≤16777216:=by
 have h1:32 ∉ [116,119,105,110,115]:=by decide
 have e:(mkS (lineT x y)).cps.toList=[116,119,105,110,115]++32 :: twoT x y:=cs_mkS _
 have es:(" ":Str)=⟨#[32]⟩:=by decide +kernel
 obtain ⟨p,q,r,e1,e2,e3⟩:=split_head e h1
 have ep:p="twins":=(mkS_eq (x:=p) e2).trans (by decide +kernel)
 refine ⟨q,r,by rw [es,e1,ep],?_,?_⟩
 ·rw [es]
  exact (PySem.StrLaws.glued_eq_join _ _).trans (mkS_eq (x:=Str.join ⟨#[32]⟩ (q :: r)) e3)
 ·have:=join_len (c:=32) r q
  rw [e3] at this
  have:=two_len hx hy
  rw [show (" ":Str).length=1 by decide +kernel]
  lia
theorem line_line {x y:Way} (hx:Small x) (hy:Small y):Txt.lines (mkS (lineT x y))=[mkS (lineT x y)]∧(mkS (lineT x y)).length≤3000:=by
 have hl:=two_len hx hy
 have el:(mkS (lineT x y)).length=(twoT x y).length + 6:=by rw [len_mkS]; unfold lineT; simp
 refine ⟨one_line (by lia) fun c hc=>?_,by lia⟩
 have hc:c∈[116,119,105,110,115]++32 :: (txt x++59 :: txt y):=by
  have e:(mkS (lineT x y)).cps.toList=[116,119,105,110,115]++32 :: twoT x y:=cs_mkS _
  rw [e] at hc; exact hc
 rcases List.mem_append.mp hc with h | h
 ·simp only [List.mem_cons,List.not_mem_nil,or_false] at h
  lia
 rcases List.mem_cons.mp h with rfl | h
 ·decide
 rcases List.mem_append.mp h with h | h
 ·have:=txt_chars hx.1 c h; lia
 rcases List.mem_cons.mp h with rfl | h
 ·decide
 ·have:=txt_chars hy.1 c h; lia
theorem rep1 {K:PySem.W.Frag} {H:Hp} (a:Str):Reps K H [D.str a] [V.str a]:=by
 unfold Reps
 exact ⟨_,_,rfl,by unfold Rep; rfl,by unfold Reps; rfl⟩
theorem dep1 (a:Str):deps [D.str a]=0:=by
 rw [deps,deps,D.dep] <;> simp
theorem eq1 (a b:Str):eqDs [D.str a] [D.str b]=(a == b):=by
 rw [eqDs,eqDs,eqD,Bool.and_true]
noncomputable def spYes:Sp:=fun vs H Q _=>∃ b:Bool,vs=[.bl b]∧∀ p,H p=none→Q (.ref p) (upd H p (.lst [.str (if b=true then "yes" else "no")]))
noncomputable abbrev s_yes_or_no:Stmt:=top 77
theorem sc_yes_or_no:FnScope ["truth"] ["truth"] (defScope s_yes_or_no):=⟨rfl,rfl,rfl,by decide +kernel,rfl,by decide +kernel,by decide +kernel⟩
theorem ok_yes {f:Addr} {fd:FuncData} (F:Fun K "yes_or_no" "yes_or_no" s_yes_or_no f fd):FnOk P w K mg base CX0 1 f fd ["truth"] spYes:=by
 refine F.ok sc_yes_or_no (fun vs H Q E h=>?_) (fun cdv A outer s H vs Q E hr h=>?_)
 ·obtain ⟨b,rfl,_⟩:=h
  rfl
 obtain ⟨b,rfl,q⟩:=h
 refine ⟨_,(pss_one (ps_ret (pe_lst (pa_cons (pe_ifExp (pt_truth (pv 0) (fun _=>rfl)) pe_str pe_str) pa_nil)))),?_⟩
 cases b with
 | true=>exact ⟨_,rfl,_,rfl,iteT ⟨(by show 1≤sizeLine; decide),fun p hp=>q p hp⟩⟩
 | false=>exact ⟨_,rfl,_,rfl,iteF ⟨(by show 1≤sizeLine; decide),fun p hp=>q p hp⟩⟩
noncomputable def spRows:Sp:=fun vs H Q _=>∃ (u:V) (x y:Way),vs=[u,.str (mkS (twoT x y))]∧Small x∧Small y∧∀ (p:Addr) (H':Hp),Same H H'→H p=none→H' p=some (.lst [.str (yn x y)])→Q (.ref p) H'
noncomputable abbrev s_twins_rows:Stmt:=top 75
theorem sc_twins_rows:FnScope ["numbers","text","one","other"] ["numbers","text"] (defScope s_twins_rows):=⟨rfl,rfl,rfl,by decide +kernel,rfl,by decide +kernel,by decide +kernel⟩
theorem ok_rows {f:Addr} {fd:FuncData} (F:Fun K "twins_rows" "twins_rows" s_twins_rows f fd) (B:Blt mg) (Gread:Def P w K mg base CX0 4 "read_way" spRead) (Gtwins:Def P w K mg base CX0 8 "are_twins" spTwins) (Gyes:Def P w K mg base CX0 1 "yes_or_no" spYes):FnOk P w K mg base CX0 9 f fd ["numbers","text"] spRows:=by
 refine F.ok (k:=8) sc_twins_rows (fun vs H Q E h=>?_) (fun cdv A outer s H vs Q E hr h=>?_)
 ·obtain ⟨u,x,y,rfl,_⟩:=h
  rfl
 obtain ⟨u,x,y,rfl,hx,hy,q⟩:=h
 obtain ⟨sp,oc⟩:=two_split hx hy
 have hl:=two_len hx hy
 have zl:(mkS (twoT x y)).length≤2000:=by rw [len_mkS]; exact hl
 have szl:=sizeLine_eq
 have zx:=hx.2
 have zy:=hy.2
 refine ⟨_,(pss_cons (ps_if (pt_cmpR op_ne (pe_bm PySem.F.plainAttrs_str PySem.F.slot_str_count PySem.F.type_str_count mt_scount (pv 1) (pa_cons pe_str pa_nil)) pe_int (nomark _)) (pss_one ps_never) pss_nil)
   (pss_cons (ps_asg (pe_bm PySem.F.plainAttrs_str PySem.F.slot_str_split PySem.F.type_str_split mt_split1 (pv 1) (pa_cons pe_str pa_nil)) (pg_lst rfl (pgs_cons (pg_name (i:=2) sc_twins_rows.nd rfl (by first | exact Or.inl rfl | exact Or.inr rfl)) (pgs_cons (pg_name (i:=3) sc_twins_rows.nd rfl (by first | exact Or.inl rfl | exact Or.inr rfl)) pgs_nil))))
   (pss_one (ps_ret (pe_def Gyes (hr.mono (by lia)) (pa_cons (pe_def Gtwins (hr.mono (by lia)) (pa_cons (pe_def Gread (hr.mono (by lia)) (pa_cons (pv 2) pa_nil)) (pa_cons (pe_def Gread (hr.mono (by lia)) (pa_cons (pv 3) pa_nil)) pa_nil))) pa_nil)))))),?_⟩
 refine ⟨_,rfl,rfl,_,";",rfl,rfl,rfl,_,rfl,iteNS (congrArg V.int (by rw [oc]; rfl)) ?_⟩
 refine ⟨_,rfl,rfl,_,";",rfl,rfl,by decide +kernel,by lia,fun p hp=>?_⟩
 rw [sp]
 refine ⟨p,_,rfl,SqL.of upd_same,rfl,_,_,rfl,_,_,rfl,rfl,?_⟩
 have sp:=Same.new (o:=.lst ([mkS (txt x),mkS (txt y)].map V.str)) hp
 refine ⟨_,rfl,x,1000000,rfl,hx.1,m6,by lia,fun v1 H2 s2 w1=>⟨_,rfl,y,1000000,rfl,hy.1,m6,by lia,fun v2 H3 s3 w2=>⟨v1,v2,x,y,rfl,w1.kt (KT.same s3),w2,hx,hy,fun H4 s4=>⟨_,rfl,fun p' hp'=>?_⟩⟩⟩⟩
 have sa:=sp.trans (s2.trans (s3.trans s4))
 exact q p' _ (sa.trans (Same.new hp')) (sa.free hp') upd_same
noncomputable def DeskAt (C:Addr) (H:Hp) (d:Addr):Prop:=∃ (dx:Addr) (fs:List (Str×V)) (v:V),H d=some (.ins C dx fs)∧fs.lookup ("numbers":Str)=some v∧fs.lookup ("ask":Str)=none
theorem DeskAt.same {C:Addr} {H H':Hp} {d:Addr} (h:DeskAt C H d) (s:Same H H'):DeskAt C H' d:=by
 obtain ⟨dx,fs,v,h1,h2⟩:=h
 exact ⟨dx,fs,v,s _ _ h1,h2⟩
noncomputable def spDesk (C:Addr):Sp:=fun vs H Q _=>∃ (d dx:Addr),vs=[.ref d]∧H d=some (.ins C dx [])∧∀ H',(∀ b o,b≠d→H b=some o→H' b=some o)→DeskAt C H' d→Q .non H'
noncomputable abbrev s_Desk___init:Stmt:=inClass (top 83) 0
theorem sc_Desk___init:FnScope ["self"] ["self"] (defScope s_Desk___init):=⟨rfl,rfl,rfl,by decide +kernel,rfl,by decide +kernel,by decide +kernel⟩
theorem ok_desk {f C:Addr} {fd:FuncData} (F:Fun K "__init__" "Desk.__init__" s_Desk___init f fd) (cl:Cls K C) (n1:NoAttr K C "numbers") (n2:NoAttr K C "wish"):FnOk P w K mg base CX0 1 f fd ["self"] (spDesk C):=by
 refine F.ok sc_Desk___init (fun vs H Q E h=>?_) (fun cdv A outer s H vs Q E hr h=>?_)
 ·obtain ⟨d,dx,rfl,_⟩:=h
  rfl
 obtain ⟨d,dx,rfl,hd,q⟩:=h
 refine ⟨_,pss_cons (ps_fld (pv 0) (pe_tup pa_nil) rfl) (pss_one (ps_fld (pv 0) pe_non rfl)),?_⟩
 refine ⟨(by show 0≤sizeLine; decide),fun t ht=>⟨_,rfl,d,C,dx,_,rfl,Same.new ht _ _ hd,cl,n1,by decide,?_⟩⟩
 refine ⟨_,rfl,d,C,dx,_,rfl,upd_same,cl,n2,by show 1 < 1000; decide,?_⟩
 refine q _ (fun b o hb e=>?_) ⟨dx,_,.ref t,upd_same,by with_unfolding_all rfl,by with_unfolding_all rfl⟩
 rw [upd_ne hb,upd_ne hb]
 exact Same.new ht _ _ e
noncomputable def spAsk (C:Addr):Sp:=fun vs H Q _=>∃ (d:Addr) (x y:Way),vs=[.ref d,.str (mkS (lineT x y))]∧DeskAt C H d∧Small x∧Small y∧∀ (p:Addr) (H':Hp),Same H H'→H p=none→H' p=some (.lst [.str (yn x y)])→Q (.ref p) H'
noncomputable abbrev s_Desk_ask:Stmt:=inClass (top 83) 1
theorem sc_Desk_ask:FnScope ["self","line","word","words","answer"] ["self","line"] (defScope s_Desk_ask):=⟨rfl,rfl,rfl,by decide +kernel,rfl,by decide +kernel,by decide +kernel⟩
theorem ok_ask {f C fT dW:Addr} {fd:FuncData} (F:Fun K "ask" "Desk.ask" s_Desk_ask f fd) (B:Blt mg) (cl:Cls K C) (n1:NoAttr K C "numbers") (mW:mg "WITH_TEXT"=some (.ref dW)) (TW:TopDict w K dW) (lo:(dW == sysModules)=false) (hW:PySem.W.nsIn K dW "twins"=some (some (.ref fT)))
  (CT:Callee P w K mg base CX0 9 fT spRows):FnOk P w K mg base CX0 10 f fd ["self","line"] (spAsk C):=by
 have W_ok:∀ g sp,(fun (g:Addr) (sp:Sp)=>g=fT∧sp=spRows) g sp→Callee P w K mg base CX0 9 g sp:=by
  rintro g sp ⟨rfl,rfl⟩
  exact CT
 refine F.ok (k:=9) sc_Desk_ask (fun vs H Q E h=>?_) (fun cdv A outer s H vs Q E hr h=>?_)
 ·obtain ⟨d,x,y,rfl,_⟩:=h
  rfl
 obtain ⟨d,x,y,rfl,hd,hx,hy,q⟩:=h
 obtain ⟨q0,r0,hsp,hjn,hbd⟩:=line_split hx hy
 obtain ⟨hln,hll⟩:=line_line hx hy
 have szl:=sizeLine_eq
 refine ⟨_,(pss_cons (ps_if (pt_cmpR (op_neS (hu60 hr)) (pe_bm0 PySem.F.plainAttrs_str PySem.F.slot_str_splitlines PySem.F.type_str_splitlines mt_splitlines (pv 1)) (pe_lst (pa_cons (pv 1) pa_nil)) (nomark _)) (pss_one ps_never) pss_nil)
   (pss_cons (ps_asg (pe_bm PySem.F.plainAttrs_str PySem.F.slot_str_split PySem.F.type_str_split mt_split1 (pv 1) (pa_cons pe_str pa_nil)) (pg_star rfl (pgs_cons (pg_name (i:=2) sc_Desk_ask.nd rfl (by first | exact Or.inl rfl | exact Or.inr rfl)) (pgs_cons (pg_name (i:=3) sc_Desk_ask.nd rfl (by first | exact Or.inl rfl | exact Or.inr rfl)) pgs_nil))))
   (pss_cons (ps_if (pt_cmpR op_eq (pv 2) pe_str (nomark _)) (pss_cons ps_never
   (pss_one (ps_ret (pe_lst pa_nil)))) pss_nil)
   (pss_cons (ps_if (pt_cmpR op_eq (pv 2) pe_str (nomark _)) (pss_cons ps_never
   (pss_one (ps_ret (pe_lst pa_nil)))) pss_nil)
   (pss_cons (ps_if (PW.pt (pw_and (pt_cmpR op_inTop (pv 2) (pe_glob (v:=.ref dW) rfl mW rfl) rfl) (pw_and1 (pt_truth (pv 3) (fun _=>rfl))))) (pss_cons (ps_set (i:=4) sc_Desk_ask.nd rfl (by first | exact Or.inl rfl | exact Or.inr rfl) (pe_ix ix_top (pe_glob (v:=.ref dW) rfl mW rfl) (pv 2) (fun _ _=>rfl)))
   (pss_one (ps_ret (pe_callV W_ok (hr.mono (by lia)) pass0 (pv 4) (pa_cons (pe_fld (pv 0) rfl) (pa_cons (pe_bm PySem.F.plainAttrs_str PySem.F.slot_str_join PySem.F.type_str_join mt_join pe_str (pa_cons (pv 3) pa_nil)) pa_nil)))))) pss_nil)
   (pss_one ps_never)))))),?_⟩
 refine ⟨_,rfl,rfl,_,rfl,rfl,by lia,fun p1 hp1=>?_⟩
 rw [hln]
 refine ⟨_,rfl,(by show 1≤sizeLine; decide),fun p2 hp2=>?_⟩
 have s2:=(Same.new (o:=.lst ([mkS (lineT x y)].map V.str)) hp1).trans (Same.new (o:=.lst [.str (mkS (lineT x y))]) hp2)
 refine ⟨[D.str (mkS (lineT x y))],[D.str (mkS (lineT x y))],.inl ⟨⟨p1,_,rfl,SqL.of (Same.new hp2 _ _ upd_same),rep1 _⟩,⟨p2,_,rfl,SqL.of upd_same,rep1 _⟩⟩,by rw [dep1]; lia,?_⟩
 rw [if_pos rfl,eq1,beq_self_eq_true]
 refine ⟨_,rfl,iteF ?_⟩
 generalize upd (upd H p1 (.lst ([mkS (lineT x y)].map V.str))) p2 (.lst [.str (mkS (lineT x y))])=H2 at s2 ⊢
 refine ⟨_,rfl,rfl,_," ",rfl,rfl,by decide +kernel,by lia,fun p3 hp3=>?_⟩
 rw [hsp]
 refine ⟨p3,.str "twins",(q0 :: r0).map V.str,rfl,SqL.of upd_same,fun pr hpr=>⟨_,_,rfl,_,_,rfl,rfl,?_⟩⟩
 have s3:=s2.trans ((Same.new (o:=.lst ((("twins":Str) :: q0 :: r0).map V.str)) hp3).trans (Same.new (o:=.lst ((q0 :: r0).map V.str)) hpr))
 have gr:(upd (upd H2 p3 (.lst ((("twins":Str) :: q0 :: r0).map V.str))) pr (.lst ((q0 :: r0).map V.str))) pr=some (.lst ((q0 :: r0).map V.str)):=upd_same
 generalize upd (upd H2 p3 (.lst ((("twins":Str) :: q0 :: r0).map V.str))) pr (.lst ((q0 :: r0).map V.str))=H3 at s3 gr ⊢
 refine ⟨_,rfl,rfl,_,rfl,?_⟩
 rw [decide_eq_false (fun e=>absurd (V.str.inj e) (by decide +kernel))]
 refine iteF ⟨_,rfl,rfl,_,rfl,?_⟩
 rw [decide_eq_false (fun e=>absurd (V.str.inj e) (by decide +kernel))]
 refine iteF ?_
 refine ⟨_,rfl,dW,"twins",_,rfl,rfl,TW,lo,hW,_,rfl,iteT ?_⟩
 refine ⟨_,rfl,_,.inl ⟨_,SqL.of gr,rfl⟩,iteT ?_⟩
 refine ⟨_,rfl,dW,"twins",.ref fT,.ref fT,rfl,rfl,TW,hW,rfl,?_⟩
 obtain ⟨dx,fs,v,d1,d2,d3⟩:=hd
 refine ⟨_,rfl,fT,spRows,rfl,⟨rfl,rfl⟩,_,rfl,d,C,dx,fs,v,rfl,s3 _ _ d1,cl,n1,d2,?_⟩
 refine ⟨rfl,_,rfl," ",pr,q0 :: r0,rfl,rfl,SqL.of gr,hbd,?_⟩
 rw [hjn]
 exact ⟨v,x,y,rfl,hx,hy,fun p H' s' np g=>q p H' (s3.trans s') (s3.free np) g⟩
end
end Law
namespace Law
open PySem L2
section
variable {P:Program} {w:World} {K:PySem.W.Frag} {mg:Str→Option Value} {base:Heap}
mutual
noncomputable def noB:D→Bool
 | .int _=>true
 | .str _=>true
 | .tup l=>noBs l
 | _=>false
noncomputable def noBs:List D→Bool
 | []=>true
 | d :: r=>noB d && noBs r
end
theorem noBs_of:∀ {l:List D},(∀ x∈l,noB x=true)→noBs l=true
 | [],_=>by rw [noBs]
 | d :: r,h=>by rw [noBs,h d (List.mem_cons_self ..),noBs_of fun x hx=>h x (List.mem_cons_of_mem _ hx)]; rfl
theorem form_noB {d:D} (h:IsForm d):noB d=true:=by
 induction h with
 | num h0 h1=>rw [noB]
 | @grp k m0 more off hk g0 g1 g2 ih0 ih1 ih2 =>
  rw [noB]
  refine noBs_of fun x hx=>?_
  simp only [List.mem_cons,List.not_mem_nil,or_false] at hx
  rcases hx with rfl | rfl | rfl
  ·rw [noB]
  ·rw [noB]
   exact noBs_of fun x hx=>by
    rcases List.mem_cons.mp hx with rfl | hx
    ·exact ih0
    ·exact ih1 x hx
  ·rw [noB]
   exact noBs_of ih2
mutual
theorem eqD_eq:∀ (d e:D),noB d=true→noB e=true→eqD d e=true→d=e
 | .int a,e,_,he,h=>by
  cases e with
  | int b=>rw [eqD] at h; rw [eq_of_beq h]
  | str b=>simp [eqD] at h
  | tup l=>simp [eqD] at h
  | _=>simp [noB] at he
 | .str a,e,_,he,h=>by
  cases e with
  | str b=>rw [eqD] at h; rw [eq_of_beq h]
  | int b=>simp [eqD] at h
  | tup l=>simp [eqD] at h
  | _=>simp [noB] at he
 | .tup l,e,hd,he,h=>by
  cases e with
  | tup m =>
   rw [eqD] at h
   rw [noB] at hd he
   rw [eqDs_eq l m hd he h]
  | int b=>simp [eqD] at h
  | str b=>simp [eqD] at h
  | _=>simp [noB] at he
 | .non,_,hd,_,_=>by simp [noB] at hd
 | .bl _,_,hd,_,_=>by simp [noB] at hd
 | .lst _,_,hd,_,_=>by simp [noB] at hd
theorem eqDs_eq:∀ (l m:List D),noBs l=true→noBs m=true→eqDs l m=true→l=m
 | [],m,_,_,h=>by
  cases m with
  | nil=>rfl
  | cons a b=>simp [eqDs] at h
 | d :: r,m,hd,he,h=>by
  cases m with
  | nil=>simp [eqDs] at h
  | cons a b =>
   rw [eqDs] at h
   rw [noBs] at hd he
   simp only [Bool.and_eq_true] at h hd he
   rw [eqD_eq d a hd.1 he.1 h.1,eqDs_eq r b hd.2 he.2 h.2]
end
theorem eqD_forms {x y:Way} (hx:x.ok 1000000) (hy:y.ok 1000000):eqD (fP x) (fP y)=decide (kD (fP x)=kD (fP y)):=by
 by_cases h:kD (fP x)=kD (fP y)
 ·rw [decide_eq_true h,(kD_twin hx hy).mp h,eqD_refl]
 ·rw [decide_eq_false h]
  cases e:eqD (fP x) (fP y) with
  | false=>rfl
  | true=>exact absurd ((kD_twin hx hy).mpr (eqD_eq _ _ (form_noB (fP_form hx)) (form_noB (fP_form hy)) e)) h
end
end Law
namespace L2
open PySem PySem.Spec PyProof.Rows Law
noncomputable def isF (d:D):Prop:=(∃ i,d=.int i)∨∃ l,d=.tup l
noncomputable def rEqF (K:PySem.W.Frag) (neg:Bool):R2:=fun x y H Q=>∃ d e:D,Rep K H d x∧Rep K H e y∧L2.isF d∧L2.isF e∧d.dep≤50∧Q (.bl (if neg then !eqD d e else eqD d e)) H
theorem op_eqF {X:Cx} (hA:X.A.units + 60 < cLine):OpR X (compareOp .Eq) (rEqF X.K false):=by
 intro pins s σ H x y u v Q I ru rv h
 obtain ⟨d,e,hd,he,fd,fe,hdep,q⟩:=h
 rcases fd with ⟨i,rfl⟩ | ⟨l,rfl⟩ <;> rcases fe with ⟨j,rfl⟩ | ⟨m,rfl⟩
 ·unfold Rep at hd he
  subst hd he
  refine op_eq pins s σ H _ _ u v Q I ru rv ⟨rfl,?_⟩
  rw [L2.dec_int]
  rw [if_neg (by decide),eqD] at q
  exact q
 ·unfold Rep at hd he
  subst hd
  obtain ⟨p,xs,rfl,hq,_⟩:=he
  obtain ⟨t,rfl⟩:=ru
  cases rv
  obtain ⟨its,r,ht,_⟩:=I.tuple hq
  have q':Q (.bl false) H:=by
   rw [if_neg (by decide)] at q
   simpa [eqD] using q
  exact SeqAt.RcAt.int_tuple i t (show s.heap.IsTuple p its.toArray from ht) (by lia) X.prog X.w X.xe _ ⟨.bl false,H,I,rfl,q'⟩
 ·unfold Rep at hd he
  subst he
  obtain ⟨p,xs,rfl,hq,_⟩:=hd
  obtain ⟨t,rfl⟩:=rv
  cases ru
  obtain ⟨its,r,ht,_⟩:=I.tuple hq
  have q':Q (.bl false) H:=by
   rw [if_neg (by decide)] at q
   simpa [eqD] using q
  exact SeqAt.RcAt.tuple_int j t (show s.heap.IsTuple p its.toArray from ht) (by lia) X.prog X.w X.xe _ ⟨.bl false,H,I,rfl,q'⟩
 ·refine op_eqS hA pins s σ H x y u v Q I ru rv ⟨l,m,.inr ⟨hd,he⟩,?_,?_⟩
  ·rw [D.dep] at hdep; lia
  ·rw [if_neg (by decide)] at q ⊢
   rw [eqD] at q
   exact q
end L2
namespace Law
open PySem L2
section
variable {P:Program} {w:World} {K:PySem.W.Frag} {mg:Str→Option Value} {base:Heap}
end
end Law
namespace Law
open PySem L2
section
variable {P:Program} {w:World} {K:PySem.W.Frag} {mg:Str→Option Value} {base:Heap}
theorem fP_congr {w:Str} {a b a' b':Way} (h1:fP a=fP a') (h2:fP b=fP b'):fP (.op w a b)=fP (.op w a' b'):=by
 unfold fP
 rw [h1,h2]
theorem m3 (x:Way) (h:x.ok 1000):x.ok 1000000:=Way.ok_mono (by decide) x h
noncomputable abbrev kvB:List (Key×V):=[(Sum.inr "less",.str "plus"),(Sum.inr "share",.str "times")]
noncomputable def Bk (w b:Str):Prop:=(w="less"∧b="plus")∨(w="share"∧b="times")
theorem Bk.fac {w b:Str} (h:Bk w b):okWord w∧okWord b∧trn w=true∧trn b=false∧knd w=knd b∧valV (mergeK [] kvB) (Sum.inr w)=some (.str b):=by
 rcases h with ⟨rfl,rfl⟩ | ⟨rfl,rfl⟩
 ·exact ⟨.inr (.inl rfl),.inl rfl,by decide,by decide,by unfold knd; decide,by decide +kernel⟩
 ·exact ⟨.inr (.inr (.inr rfl)),.inr (.inr (.inl rfl)),by decide,by decide,by unfold knd; decide,by decide +kernel⟩
theorem inV_pt {w:Str} (h:okWord w):(inV (.str w) [V.str "plus",V.str "times"]=true∧trn w=false)∨(inV (.str w) [V.str "plus",V.str "times"]=false∧∃ b,Bk w b):=by
 rcases h with rfl | rfl | rfl | rfl
 ·exact .inl ⟨by decide +kernel,by decide⟩
 ·exact .inr ⟨by decide +kernel,_,.inl ⟨rfl,rfl⟩⟩
 ·exact .inl ⟨by decide +kernel,by decide⟩
 ·exact .inr ⟨by decide +kernel,_,.inr ⟨rfl,rfl⟩⟩
theorem str_of_dec {a b:Str} (h:decide (V.str a=V.str b)=true):a=b:=V.str.inj (of_decide_eq_true h)
noncomputable def spTurn (K:PySem.W.Frag) (n:Nat):Sp:=fun vs H Q _=>∃ (a:Addr) (ns:List Int) (i:Int) (v:V) (x:Way),vs=[.ref a,.int i,v]∧SqL K H a (ns.map V.int)∧ns.length≤63∧0≤i∧(i + 2) * 2 ^ x.ht≤50000∧x.ht < n∧WayIn H v x∧x.ok 1000 ∧
 ∀ (v':V) (y:Way) (H':Hp),Same H H'→WayIn H' v' y→y.ok 1000→y.size=x.size→fP y=fP x→Q v' H'
theorem two_pow_mono {a b:Nat} (h:a≤b):(2:Int) ^ a≤2 ^ b:=by
 have e:=Nat.pow_le_pow_right (n:=2) (by decide) h
 have e1:((2 ^ a:Nat):Int)=(2:Int) ^ a:=by simp
 have e2:((2 ^ b:Nat):Int)=(2:Int) ^ b:=by simp
 lia
theorem half {i:Int} {a n:Nat} (h0:0≤i) (ha:a≤n) (h:(i + 2) * 2 ^ (n + 1)≤50000):(2 * i + 2 + 2) * 2 ^ a≤50000∧(2 * i + 1 + 2) * 2 ^ a≤50000∧i≤50000:=by
 have p:=two_pow_mono ha
 have p1:=two_pow_mono (Nat.zero_le a)
 have p2:=two_pow_mono (Nat.zero_le n)
 have ep:(2:Int) ^ (n + 1)=2 ^ n * 2:=Int.pow_succ ..
 rw [Int.pow_zero] at p1 p2
 have h1:(2 * i + 2 + 2) * 2 ^ a≤(2 * i + 2 + 2) * 2 ^ n:=Int.mul_le_mul_of_nonneg_left p (by lia)
 have e:(2 * i + 2 + 2) * 2 ^ n=(i + 2) * (2 ^ n * 2):=by rw [← Int.mul_assoc,Int.mul_comm ((i + 2) * 2 ^ n) 2,← Int.mul_assoc]; congr 1; lia
 have h2:(2 * i + 1 + 2) * 2 ^ a≤(2 * i + 2 + 2) * 2 ^ a:=Int.mul_le_mul_of_nonneg_right (by lia) (by lia)
 have h3:(i + 2) * 1≤(i + 2) * (2 ^ n * 2):=Int.mul_le_mul_of_nonneg_left (by lia) (by lia)
 rw [ep,← e] at h
 rw [← e] at h3
 exact ⟨by lia,by lia,by lia⟩
noncomputable abbrev s_law_turned:Stmt:=top 90
theorem sc_law_turned:FnScope ["script","at","way","word","one","other","draw","back"] ["script","at","way"] (defScope s_law_turned):=⟨rfl,rfl,rfl,by decide +kernel,rfl,by decide +kernel,by decide +kernel⟩
theorem ok_turn_step {n:Nat} {f:Addr} {fd:FuncData} (F:Fun K "_law_turned" "_law_turned" s_law_turned f fd) (B:Blt mg) (Gdraw:Def P w K mg base CX0 1 "_law_draw" (spDrawS K)) (Gturn:Def P w K mg base CX0 (n + 2) "_law_turned" (spTurn K n)):FnOk P w K mg base CX0 (n + 3) f fd ["script","at","way"] (spTurn K (n + 1)):=by
 refine F.okW (k:=n + 2) sc_law_turned (fun vs H Q E h=>?_) (fun cdv A outer s H vs Q E hr h=>?_)
 ·obtain ⟨a,ns,i,v,x,rfl,_⟩:=h
  rfl
 obtain ⟨a,ns,i,v,x,rfl,hS,hl,i0,hi,hh,hx,ho,q⟩:=h
 refine ⟨_,(wss_cons (Wr.mk (ps_if (pt_val (pe_isin B.isinstance B.int bt_int (pv 2))) (pss_one (ps_ret (pv 2))) pss_nil))
   (wss_cons (Wr.mk (ps_set (i:=3) sc_law_turned.nd rfl (by first | exact Or.inl rfl | exact Or.inr rfl) (pe_ix ix_tup (pv 2) pe_int (fun _ _=>rfl))))
   (wss_cons (Wr.mk (ps_set (i:=4) sc_law_turned.nd rfl (by first | exact Or.inl rfl | exact Or.inr rfl) (pe_def Gturn (hr.mono (by lia)) (pa_cons (pv 0) (pa_cons (pe_op op_add (pe_op op_mul pe_int (pv 1)) pe_int) (pa_cons (pe_ix ix_tup (pv 2) pe_int (fun _ _=>rfl)) pa_nil))))))
   (wss_cons (Wr.mk (ps_set (i:=5) sc_law_turned.nd rfl (by first | exact Or.inl rfl | exact Or.inr rfl) (pe_def Gturn (hr.mono (by lia)) (pa_cons (pv 0) (pa_cons (pe_op op_add (pe_op op_mul pe_int (pv 1)) pe_int) (pa_cons (pe_ix ix_tup (pv 2) pe_int (fun _ _=>rfl)) pa_nil))))))
   (wss_cons (Wr.mk (ps_set (i:=6) sc_law_turned.nd rfl (by first | exact Or.inl rfl | exact Or.inr rfl) (pe_op op_mod (pe_def Gdraw (hr.mono (by lia)) (pa_cons (pv 0) (pa_cons (pe_op op_add pe_int (pv 1)) pa_nil))) pe_int)))
   (wss_cons (Wr.mk (ps_if (pt_cmpR op_in_seq (pv 3) (pe_tup (pa_cons pe_str (pa_cons pe_str pa_nil))) rfl) (pss_cons (ps_if (pt_cmpR op_eq (pe_op op_mod (pv 6) pe_int) pe_int (nomark _)) (pss_one (ps_ret (pe_tup (pa_cons (pv 3) (pa_cons (pv 5) (pa_cons (pv 4) pa_nil)))))) pss_nil)
   (pss_cons (ps_if (PW.pt (pw_and (pt_cmpR op_eq (pv 6) pe_int (nomark _)) (pw_and (pt_not (pt_val (pe_isin B.isinstance B.int bt_int (pv 5)))) (pw_and1 (pt_cmpR op_eq (pe_ix ix_tup (pv 5) pe_int (fun _ _=>rfl)) (pv 3) (nomark _)))))) (pss_one (ps_ret (pe_tup (pa_cons (pv 3) (pa_cons (pe_tup (pa_cons (pv 3) (pa_cons (pv 4) (pa_cons (pe_ix ix_tup (pv 5) pe_int (fun _ _=>rfl)) pa_nil)))) (pa_cons (pe_ix ix_tup (pv 5) pe_int (fun _ _=>rfl)) pa_nil) star_tup))))) pss_nil)
   (pss_one (ps_ret (pe_tup (pa_cons (pv 3) (pa_cons (pv 4) (pa_cons (pv 5) pa_nil)))))))) pss_nil))
   (wss_cons (w_set (i:=7) sc_law_turned.nd rfl (Or.inl rfl) (w_dget (hu_of hr) (w_disp (w_pcons w_str w_str (w_pcons w_str w_str w_pnil)) rfl rfl (by simp) (by decide)) (Wr.mk (pv 3)) (fun _ _=>rfl)))
   (wss_cons (Wr.mk (ps_if (PW.pt (pw_and (pt_not (pt_val (pe_isin B.isinstance B.int bt_int (pv 5)))) (pw_and1 (pt_cmpR op_eq (pe_ix ix_tup (pv 5) pe_int (fun _ _=>rfl)) (pv 3) (nomark _))))) (pss_one (ps_ret (pe_tup (pa_cons (pv 3) (pa_cons (pe_tup (pa_cons (pv 7) (pa_cons (pv 4) (pa_cons (pe_ix ix_tup (pv 5) pe_int (fun _ _=>rfl)) pa_nil)))) (pa_cons (pe_ix ix_tup (pv 5) pe_int (fun _ _=>rfl)) pa_nil) star_tup))))) pss_nil))
   (wss_cons (Wr.mk (ps_if (PW.pt (pw_and (pt_cmpR op_eq (pv 6) pe_int (nomark _)) (pw_and (pt_not (pt_val (pe_isin B.isinstance B.int bt_int (pv 5)))) (pw_and1 (pt_cmpR op_eq (pe_ix ix_tup (pv 5) pe_int (fun _ _=>rfl)) (pv 7) (nomark _)))))) (pss_one (ps_ret (pe_tup (pa_cons (pv 3) (pa_cons (pe_tup (pa_cons (pv 3) (pa_cons (pv 4) (pa_cons (pe_ix ix_tup (pv 5) pe_int (fun _ _=>rfl)) pa_nil)))) (pa_cons (pe_ix ix_tup (pv 5) pe_int (fun _ _=>rfl)) pa_nil) star_tup))))) pss_nil))
   (wss_one (Wr.mk (ps_ret (pe_tup (pa_cons (pv 3) (pa_cons (pv 4) (pa_cons (pv 5) pa_nil)))))))))))))))),?_⟩
 cases hx with
 | num k =>
  refine ⟨_,rfl,_,_,TyOf.int _,kit_int_int _,_,rfl,iteT ?_⟩
  exact ⟨_,rfl,q _ (.num k) H (Same.refl _) (.num k) ho rfl rfl⟩
 | @op p wd x1 x2 a1 b1 hp ha hb =>
  obtain ⟨hw,oa,ob⟩:=id ho
  have e3:(Way.op wd a1 b1).ht=max a1.ht b1.ht + 1:=rfl
  rw [e3] at hi hh
  obtain ⟨_,ia,il⟩:=half (a:=a1.ht) i0 (Nat.le_max_left ..) hi
  obtain ⟨ib,_,_⟩:=half (a:=b1.ht) i0 (Nat.le_max_right ..) hi
  refine ⟨_,rfl,_,_,TyOf.tup hp,kit_tup_int _,_,rfl,iteF ?_⟩
  refine ⟨_,rfl,p,_,_,_,rfl,rfl,SqT.of hp,atI_nat (j:=0) rfl,?_⟩
  refine ⟨_,rfl,_,rfl,_,_,rfl,rfl,.inl ⟨by decide,by decide⟩,_,_,rfl,rfl,_,rfl,p,_,_,_,rfl,rfl,SqT.of hp,atI_nat (j:=1) rfl,a,ns,_,x1,a1,rfl,hS,hl,by lia,ia,by lia,ha,oa,fun v1 y1 H1 s1 w1 o1 z1 f1=>?_⟩
  refine ⟨_,rfl,_,rfl,_,_,rfl,rfl,.inl ⟨by decide,by decide⟩,_,_,rfl,rfl,_,rfl,p,_,_,_,rfl,rfl,SqT.of (s1 _ _ hp),atI_nat (j:=2) rfl,a,ns,_,x2,b1,rfl,sql_same s1 hS,hl,by lia,ib,by lia,hb.kt (KT.same s1),ob,fun v2 y2 H2 s2 w2 o2 z2 f2=>?_⟩
  have s12:=s1.trans s2
  refine ⟨_,rfl,_,rfl,_,_,rfl,rfl,a,ns,_,rfl,sql_same s12 hS,hl,by lia,by lia,fun r H3 r0 r1 s3=>⟨_,_,rfl,rfl,(by show (0:Int) < 4; decide),?_⟩⟩
  have s13:=s12.trans s3
  have w13:=w1.kt (KT.same (s2.trans s3))
  have w23:=w2.kt (KT.same s3)
  have q1:=m3 _ o1
  have q2:=m3 _ o2
  dsimp only [gName]
  generalize hd:r % 4=dr
  have d0:0≤dr:=by rw [← hd]; exact Int.emod_nonneg _ (by decide)
  clear s12 s2 s3 w1 w2 hd hS ia ib
  have o12:(Way.op wd y1 y2).ok 1000:=⟨hw,o1,o2⟩
  have q12:=m3 _ o12
  have f12:fP (.op wd y1 y2)=fP (.op wd a1 b1):=fP_congr f1 f2
  have fin:∀ (H5:Hp) (t:Addr) (y:Way),Same H3 H5→WayIn H5 (.ref t) y→y.ok 1000→y.size=a1.size + b1.size→fP y=fP (.op wd y1 y2)→Q (.ref t) H5:=fun H5 t y s5 hy oy zy fy =>
   q _ y H5 (s13.trans s5) hy oy zy (fy.trans f12)
  have plain:∀ (H5:Hp) (t:Addr),Same H3 H5→H5 t=none→Q (.ref t) (upd H5 t (.tup [.str wd,v1,v2])):=fun H5 t s5 ht =>
   fin _ t (.op wd y1 y2) (s5.trans (Same.new ht)) (.op upd_same (w13.kt (KT.same (s5.trans (Same.new ht)))) (w23.kt (KT.same (s5.trans (Same.new ht))))) o12 (by show y1.size + y2.size=_; lia) rfl
  refine seq_key (fun σ' H'=>σ'=[some (.ref a),some (.int i),some (.ref p),some (.str wd),some v1,some v2,some (.int dr),none]∧Same H3 H'∧∃ b,Bk wd b) ?_ ?_
  case refine_2 =>
   intro X' hX
   refine ⟨_,rfl,(by show 2≤sizeLine; decide),fun pl hpl=>?_⟩
   have sl:=Same.new (o:=.tup [V.str "plus",V.str "times"]) hpl
   refine ⟨pl,_,rfl,.inr (SqT.of upd_same),rfl,rfl,_,rfl,?_⟩
   generalize upd H3 pl (.tup [V.str "plus",V.str "times"])=H4 at sl ⊢
   have w14:=w13.kt (KT.same sl)
   have w24:=w23.kt (KT.same sl)
   rcases inV_pt hw with ⟨hin,ht⟩ | ⟨hin,hbk⟩
   ·rw [hin]
    refine iteT ?_
    refine seq_key (fun σ' H'=>σ'=[some (.ref a),some (.int i),some (.ref p),some (.str wd),some v1,some v2,some (.int dr),none]∧Same H3 H') ?_ ?_
    case refine_2 =>
     intro X2 hX2
     refine ⟨_,rfl,_,_,rfl,rfl,(by show (0:Int) < 2; decide),rfl,_,rfl,?_⟩
     refine ite2 (fun _=>?_) (fun _=>hX2 _ _ ⟨rfl,sl⟩)
     refine ⟨_,rfl,_,rfl,_,rfl,(by show 3≤sizeLine; decide),fun t ht'=>?_⟩
     have st:=Same.new (o:=.tup [.str wd,v2,v1]) ht'
     exact fin _ t (.op wd y2 y1) (sl.trans st) (.op upd_same (w24.kt (KT.same st)) (w14.kt (KT.same st))) ⟨hw,o2,o1⟩ (by show y2.size + y1.size=_; lia) (twin_swap q12 ht)
    case refine_1 =>
     rintro σ' H5 ⟨rfl,s5⟩
     refine seq_key (fun σ' H'=>σ'=[some (.ref a),some (.int i),some (.ref p),some (.str wd),some v1,some v2,some (.int dr),none]∧Same H3 H') ?_ ?_
     case refine_2 =>
      intro X2 hX2
      refine ⟨_,rfl,rfl,_,rfl,?_⟩
      refine ite2 (fun _=>?_) (fun _=>iteF (hX2 _ _ ⟨rfl,s5⟩))
      have w15:=w13.kt (KT.same s5)
      have w25:=w23.kt (KT.same s5)
      cases w25 with
      | num k=>exact ⟨_,rfl,_,_,TyOf.int _,kit_int_int _,_,rfl,iteF (iteF (hX2 _ _ ⟨rfl,s5⟩))⟩
      | @op p2 u2 m2 n2 am bm hp2 hm2 hn2 =>
       refine ⟨_,rfl,_,_,TyOf.tup hp2,kit_tup_int _,_,rfl,iteT ?_⟩
       refine ⟨_,rfl,p2,_,_,_,rfl,rfl,SqT.of hp2,atI_nat (j:=0) rfl,_,rfl,rfl,_,rfl,?_⟩
       refine ite2 (fun c1=>?_) (fun _=>hX2 _ _ ⟨rfl,s5⟩)
       have eu:=str_of_dec c1
       subst eu
       obtain ⟨hu1,om,on⟩:=id o2
       refine ⟨_,rfl,_,rfl,_,rfl,_,rfl,p2,_,_,_,rfl,rfl,SqT.of hp2,atI_nat (j:=1) rfl,(by show 3≤sizeLine; decide),fun t1 ht1=>?_⟩
       have st1:=Same.new (o:=.tup [.str u2,v1,m2]) ht1
       refine ⟨_,rfl,p2,_,_,_,rfl,rfl,SqT.of (st1 _ _ hp2),atI_nat (j:=2) rfl,(by show 3≤sizeLine; decide),fun t2 ht2=>?_⟩
       have st2:=Same.new (o:=.tup [.str u2,.ref t1,n2]) ht2
       have kt2:=KT.same st2
       have ktq:=KT.same (st1.trans st2)
       refine fin _ t2 (.op u2 (.op u2 y1 am) bm) (s5.trans (st1.trans st2)) (.op upd_same (.op (kt2 _ _ upd_same) (w15.kt ktq) (hm2.kt ktq)) (hn2.kt ktq)) ⟨hw,⟨hw,o1,om⟩,on⟩ ?_ (twin_right q12 hw rfl rfl (by rw [ht]; rfl))
       have:am.size + bm.size=b1.size:=z2
       show (y1.size + am.size) + bm.size=_
       lia
     case refine_1 =>
      clear s5
      rintro σ' H5 ⟨rfl,s5⟩
      refine ⟨_,rfl,_,rfl,_,rfl,(by show 3≤sizeLine; decide),fun t ht=>?_⟩
      exact plain _ t s5 ht
   ·rw [hin]
    exact iteF (hX _ _ ⟨rfl,sl,hbk⟩)
  case refine_1 =>
   rintro σ' H4 ⟨rfl,s4,b,hb'⟩
   obtain ⟨_,okb,tw,tb,kw,hv⟩:=hb'.fac
   refine fun pd hpd=>⟨upd_same,kvB,rfl,by decide,?_⟩
   have gd:(upd (upd H4 pd (.dK [])) pd (.dK (mergeK [] kvB))) pd=some (.dK (mergeK [] kvB)):=upd_same
   have sd:Same H4 (upd (upd H4 pd (.dK [])) pd (.dK (mergeK [] kvB))):=fun b u e=>by rw [upd_ne (ne_of_none e hpd),upd_ne (ne_of_none e hpd)]; exact e
   generalize upd (upd H4 pd (.dK [])) pd (.dK (mergeK [] kvB))=H5 at gd sd ⊢
   have hg:DGet H5 pd (.str wd) (some (.str b)):=by rw [← hv]; exact DGet.k (k:=Sum.inr wd) gd
   refine ⟨_,rfl,pd,.str b,rfl,hg,?_⟩
   have s5:=s4.trans sd
   clear gd hg sd hpd hv
   dsimp only [gName]
   refine seq_key (fun σ' H'=>σ'=[some (.ref a),some (.int i),some (.ref p),some (.str wd),some v1,some v2,some (.int dr),some (.str b)]∧Same H3 H') ?_ ?_
   case refine_2 =>
    intro X2 hX2
    have w15:=w13.kt (KT.same s5)
    have w25:=w23.kt (KT.same s5)
    cases w25 with
    | num k=>exact ⟨_,rfl,_,_,TyOf.int _,kit_int_int _,_,rfl,iteF (iteF (hX2 _ _ ⟨rfl,s5⟩))⟩
    | @op p2 u2 m2 n2 am bm hp2 hm2 hn2 =>
     refine ⟨_,rfl,_,_,TyOf.tup hp2,kit_tup_int _,_,rfl,iteT ?_⟩
     refine ⟨_,rfl,p2,_,_,_,rfl,rfl,SqT.of hp2,atI_nat (j:=0) rfl,_,rfl,rfl,_,rfl,?_⟩
     refine ite2 (fun c1=>?_) (fun _=>hX2 _ _ ⟨rfl,s5⟩)
     have eu:=str_of_dec c1
     subst eu
     obtain ⟨hu1,om,on⟩:=id o2
     refine ⟨_,rfl,_,rfl,_,rfl,_,rfl,p2,_,_,_,rfl,rfl,SqT.of hp2,atI_nat (j:=2) rfl,(by show 3≤sizeLine; decide),fun t1 ht1=>?_⟩
     have st1:=Same.new (o:=.tup [.str b,v1,n2]) ht1
     refine ⟨_,rfl,p2,_,_,_,rfl,rfl,SqT.of (st1 _ _ hp2),atI_nat (j:=1) rfl,(by show 3≤sizeLine; decide),fun t2 ht2=>?_⟩
     have st2:=Same.new (o:=.tup [.str u2,.ref t1,m2]) ht2
     have kt2:=KT.same st2
     have ktq:=KT.same (st1.trans st2)
     have ob':(Way.op b (.op u2 y1 am) bm).ok 1000:=⟨okb,⟨hw,o1,om⟩,on⟩
     refine fin _ t2 (.op u2 (.op b y1 bm) am) (s5.trans (st1.trans st2)) (.op upd_same (.op (kt2 _ _ upd_same) (w15.kt ktq) (hn2.kt ktq)) (hm2.kt ktq)) ⟨hw,⟨okb,o1,on⟩,om⟩ ?_ ((twin_left (m3 _ ob') kw).trans (twin_right q12 okb rfl kw.symm (by rw [tb,tw]; rfl)))
     have:am.size + bm.size=b1.size:=z2
     show (y1.size + bm.size) + am.size=_
     lia
   case refine_1 =>
    clear s5
    rintro σ' H6 ⟨rfl,s6⟩
    refine seq_key (fun σ' H'=>σ'=[some (.ref a),some (.int i),some (.ref p),some (.str wd),some v1,some v2,some (.int dr),some (.str b)]∧Same H3 H') ?_ ?_
    case refine_2 =>
     intro X2 hX2
     refine ⟨_,rfl,rfl,_,rfl,?_⟩
     refine ite2 (fun _=>?_) (fun _=>iteF (hX2 _ _ ⟨rfl,s6⟩))
     have w15:=w13.kt (KT.same s6)
     have w25:=w23.kt (KT.same s6)
     cases w25 with
     | num k=>exact ⟨_,rfl,_,_,TyOf.int _,kit_int_int _,_,rfl,iteF (iteF (hX2 _ _ ⟨rfl,s6⟩))⟩
     | @op p2 u2 m2 n2 am bm hp2 hm2 hn2 =>
      refine ⟨_,rfl,_,_,TyOf.tup hp2,kit_tup_int _,_,rfl,iteT ?_⟩
      refine ⟨_,rfl,p2,_,_,_,rfl,rfl,SqT.of hp2,atI_nat (j:=0) rfl,_,rfl,rfl,_,rfl,?_⟩
      refine ite2 (fun c1=>?_) (fun _=>hX2 _ _ ⟨rfl,s6⟩)
      have eu:=str_of_dec c1
      subst eu
      obtain ⟨hu1,om,on⟩:=id o2
      refine ⟨_,rfl,_,rfl,_,rfl,_,rfl,p2,_,_,_,rfl,rfl,SqT.of hp2,atI_nat (j:=1) rfl,(by show 3≤sizeLine; decide),fun t1 ht1=>?_⟩
      have st1:=Same.new (o:=.tup [.str wd,v1,m2]) ht1
      refine ⟨_,rfl,p2,_,_,_,rfl,rfl,SqT.of (st1 _ _ hp2),atI_nat (j:=2) rfl,(by show 3≤sizeLine; decide),fun t2 ht2=>?_⟩
      have st2:=Same.new (o:=.tup [.str wd,.ref t1,n2]) ht2
      have kt2:=KT.same st2
      have ktq:=KT.same (st1.trans st2)
      refine fin _ t2 (.op wd (.op wd y1 am) bm) (s6.trans (st1.trans st2)) (.op upd_same (.op (kt2 _ _ upd_same) (w15.kt ktq) (hm2.kt ktq)) (hn2.kt ktq)) ⟨hw,⟨hw,o1,om⟩,on⟩ ?_ (twin_right q12 hw kw.symm rfl (by rw [tw,tb]; rfl))
      have:am.size + bm.size=b1.size:=z2
      show (y1.size + am.size) + bm.size=_
      lia
    case refine_1 =>
     clear s6
     rintro σ' H5 ⟨rfl,s5⟩
     refine ⟨_,rfl,_,rfl,_,rfl,(by show 3≤sizeLine; decide),fun t ht=>?_⟩
     exact plain _ t s5 ht
theorem ok_turn {f:Addr} {fd:FuncData} (F:Fun K "_law_turned" "_law_turned" s_law_turned f fd) (b:Binds K fd ["script","at","way"] []) (m:mg "_law_turned"=some (.ref f)) (B:Blt mg) (Gdraw:Def P w K mg base CX0 1 "_law_draw" (spDrawS K)) :
  ∀ n,FnOk P w K mg base CX0 (n + 2) f fd ["script","at","way"] (spTurn K n)
 | 0=>by
  have no:∀ vs H Q E,¬ spTurn K 0 vs H Q E:=fun vs H Q E h=>by
   obtain ⟨a,ns,i,v,x,_,_,_,_,_,h2,_⟩:=h
   lia
  exact ⟨fun vs H Q E h=>absurd h (no vs H Q E),fun A outer s H args us vs Q E _ _ _ _ h=>absurd h (no vs H Q E)⟩
 | n + 1=>ok_turn_step F B Gdraw (mkDef (ok_turn F b m B Gdraw n) b m F.kp)
end
end Law
namespace Law
open PySem L2
section
variable {P:Program} {w:World} {K:PySem.W.Frag} {mg:Str→Option Value} {base:Heap}
noncomputable def spStr (n:Nat):Sp:=fun vs H Q _=>∃ (u v:V) (x:Way),vs=[u,v]∧WayIn H v x∧x.ok 1000∧x.ht < n ∧
 ∀ (v':V) (y:Way) (H':Hp),Same H H'→WayIn H' v' y→y.ok 1000000→y.size=x.size→(nmW y).sum=(nmW x).sum + 1→Q v' H'
noncomputable abbrev s_law_other:Stmt:=top 91
theorem sc_law_other:FnScope ["script","way"] ["script","way"] (defScope s_law_other):=⟨rfl,rfl,rfl,by decide +kernel,rfl,by decide +kernel,by decide +kernel⟩
theorem ok_str_step {n:Nat} {f:Addr} {fd:FuncData} (F:Fun K "_law_other" "_law_other" s_law_other f fd) (B:Blt mg) (Gother:Def P w K mg base CX0 (n + 2) "_law_other" (spStr n)):FnOk P w K mg base CX0 (n + 3) f fd ["script","way"] (spStr (n + 1)):=by
 refine F.ok (k:=n + 2) sc_law_other (fun vs H Q E h=>?_) (fun cdv A outer s H vs Q E hr h=>?_)
 ·obtain ⟨u,v,x,rfl,_⟩:=h
  rfl
 obtain ⟨u,v,x,rfl,hx,ho,hh,q⟩:=h
 refine ⟨_,(pss_cons (ps_if (pt_val (pe_isin B.isinstance B.int bt_int (pv 1))) (pss_one (ps_ret (pe_op op_add (pv 1) pe_int))) pss_nil)
   (pss_one (ps_ret (pe_tup (pa_cons (pe_ix ix_tup (pv 1) pe_int (fun _ _=>rfl)) (pa_cons (pe_ix ix_tup (pv 1) pe_int (fun _ _=>rfl)) (pa_cons (pe_def Gother (hr.mono (by lia)) (pa_cons (pv 0) (pa_cons (pe_ix ix_tup (pv 1) pe_int (fun _ _=>rfl)) pa_nil))) pa_nil))))))),?_⟩
 cases hx with
 | num k =>
  obtain ⟨k1,k2⟩:1≤k∧k≤1000:=ho
  refine ⟨_,rfl,_,_,TyOf.int _,kit_int_int _,_,rfl,iteT ?_⟩
  exact ⟨_,rfl,_,_,rfl,rfl,q _ (.num (k + 1)) H (Same.refl _) (.num _) (by show 1≤k + 1∧k + 1≤1000000; lia) rfl (by simp [nmW])⟩
 | @op p wd x1 x2 a1 b1 hp ha hb =>
  obtain ⟨hw,oa,ob⟩:=id ho
  have e3:(Way.op wd a1 b1).ht=max a1.ht b1.ht + 1:=rfl
  refine ⟨_,rfl,_,_,TyOf.tup hp,kit_tup_int _,_,rfl,iteF ?_⟩
  refine ⟨_,rfl,p,_,_,_,rfl,rfl,SqT.of hp,atI_nat (j:=0) rfl,_,rfl,p,_,_,_,rfl,rfl,SqT.of hp,atI_nat (j:=1) rfl,_,rfl,_,rfl,p,_,_,_,rfl,rfl,SqT.of hp,atI_nat (j:=2) rfl,u,x2,b1,rfl,hb,ob,by lia,fun v2 y2 H1 s1 w1 o1 z1 n1=>⟨(by show 3≤sizeLine; decide),fun t ht=>?_⟩⟩
  have st:=Same.new (o:=.tup [.str wd,x1,v2]) ht
  refine q (.ref t) (.op wd a1 y2) _ (s1.trans st) (.op upd_same (ha.kt (KT.same (s1.trans st))) (w1.kt (KT.same st))) ⟨hw,Way.ok_mono (by decide) _ oa,o1⟩ (by show a1.size + y2.size=a1.size + b1.size; lia) ?_
  show (nmW a1++nmW y2).sum=(nmW a1++nmW b1).sum + 1
  rw [List.sum_append,List.sum_append,n1]; lia
theorem ok_str {f:Addr} {fd:FuncData} (F:Fun K "_law_other" "_law_other" s_law_other f fd) (b:Binds K fd ["script","way"] []) (m:mg "_law_other"=some (.ref f)) (B:Blt mg) :
  ∀ n,FnOk P w K mg base CX0 (n + 2) f fd ["script","way"] (spStr n)
 | 0=>by
  have no:∀ vs H Q E,¬ spStr 0 vs H Q E:=fun vs H Q E h=>by
   obtain ⟨u,v,x,_,_,_,h2,_⟩:=h
   lia
  exact ⟨fun vs H Q E h=>absurd h (no vs H Q E),fun A outer s H args us vs Q E _ _ _ _ h=>absurd h (no vs H Q E)⟩
 | n + 1=>ok_str_step F B (mkDef (ok_str F b m B n) b m F.kp)
end
end Law
namespace Law
open PySem L2
section
variable {P:Program} {w:World} {K:PySem.W.Frag} {mg:Str→Option Value} {base:Heap}
theorem okw7 {v:V} (h:v∈([.str "plus",.str "less",.str "times",.str "share",.str "plus",.str "times",.str "less"]:List V)):∃ wd:Str,v=.str wd∧okWord wd:=by
 simp only [List.mem_cons,List.not_mem_nil,or_false] at h
 rcases h with h | h | h | h | h | h | h <;> (rw [h]; refine ⟨_,rfl,?_⟩; unfold okWord; simp)
noncomputable def spWayR (K:PySem.W.Frag) (n:Nat):Sp:=fun vs H Q _=>∃ (a:Addr) (ns:List Int) (i:Int) (f:Nat),vs=[.ref a,.int i,.int (f:Int)]∧SqL K H a (ns.map V.int)∧ns.length≤63∧0≤i∧(i + 2) * 2 ^ f≤10000∧f < n∧f≤3 ∧
 ∀ (v:V) (x:Way) (H':Hp),Same H H'→WayIn H' v x→x.ok 1000→x.size≤2 ^ f→Q v H'
noncomputable abbrev s_law_way:Stmt:=top 86
theorem sc_law_way:FnScope ["script","at","fuel","draw","word"] ["script","at","fuel"] (defScope s_law_way):=⟨rfl,rfl,rfl,by decide +kernel,rfl,by decide +kernel,by decide +kernel⟩
theorem ok_way_step {n:Nat} {f:Addr} {fd:FuncData} (F:Fun K "_law_way" "_law_way" s_law_way f fd) (B:Blt mg) (Gdraw:Def P w K mg base CX0 1 "_law_draw" (spDrawS K)) (Gway36:Def P w K mg base CX0 (n + 2) "_law_way" (spWayR K n)):FnOk P w K mg base CX0 (n + 3) f fd ["script","at","fuel"] (spWayR K (n + 1)):=by
 refine F.okW (k:=n + 2) sc_law_way (fun vs H Q E h=>?_) (fun cdv A outer s H vs Q E hr h=>?_)
 ·obtain ⟨a,ns,i,f,rfl,_⟩:=h
  rfl
 obtain ⟨a,ns,i,f,rfl,hS,hl,i0,hi,hf,hf3,q⟩:=h
 have hi2:i + 2≤10000:=by
  have h1:(1:Int)≤2 ^ f:=by
   have h3:=Nat.one_le_two_pow (n:=f)
   have e:((2 ^ f:Nat):Int)=(2:Int) ^ f:=by simp
   lia
  have h2:(i + 2) * 1≤(i + 2) * 2 ^ f:=Int.mul_le_mul_of_nonneg_left h1 (by lia)
  lia
 refine ⟨_,(wss_cons (Wr.mk (ps_set (i:=3) sc_law_way.nd rfl (by first | exact Or.inl rfl | exact Or.inr rfl) (pe_def Gdraw (hr.mono (by lia)) (pa_cons (pv 0) (pa_cons (pe_op op_add pe_int (pv 1)) pa_nil)))))
   (wss_cons (Wr.mk (ps_if (PW.pt (pw_or (pt_cmpR op_eq (pv 2) pe_int (nomark _)) (pw_or1 (pt_cmpR op_eq (pe_op op_mod (pv 3) pe_int) pe_int (nomark _))))) (pss_one (ps_ret (pe_op op_add pe_int (pe_op op_mod (pe_op op_fdiv (pv 3) pe_int) (pe_ix ix_tup (pe_tup (pa_cons pe_int (pa_cons pe_int (pa_cons pe_int pa_nil)))) (pe_op op_mod (pe_op op_fdiv (pv 3) pe_int) pe_int) (fun _ _=>rfl)))))) pss_nil))
   (wss_cons (w_set (i:=4) sc_law_way.nd rfl (by first | exact Or.inl rfl | exact Or.inr rfl) (w_ixT ix_tup (w_tup (w_cons w_str (w_cons w_str (w_cons w_str (w_cons w_str (w_cons w_str (w_cons w_str (w_cons w_str w_nil)))))))) (Wr.mk (pe_op op_mod (pv 3) pe_int)) (fun _ _=>rfl)))
   (wss_one (Wr.mk (ps_ret (pe_tup (pa_cons (pv 4) (pa_cons (pe_def Gway36 (hr.mono (by lia)) (pa_cons (pv 0) (pa_cons (pe_op op_add (pe_op op_mul pe_int (pv 1)) pe_int) (pa_cons (pe_op op_sub (pv 2) pe_int) pa_nil)))) (pa_cons (pe_def Gway36 (hr.mono (by lia)) (pa_cons (pv 0) (pa_cons (pe_op op_add (pe_op op_mul pe_int (pv 1)) pe_int) (pa_cons (pe_op op_sub (pv 2) pe_int) pa_nil)))) pa_nil)))))))))),?_⟩
 refine ⟨_,rfl,_,rfl,_,_,rfl,rfl,a,ns,_,rfl,hS,hl,by lia,by lia,fun r H1 r0 r1 s1=>?_⟩
 dsimp only [gName]
 have fin:∀ (H2:Hp),Same H1 H2→∀ m:Int,1≤m→m≤999→Q (.int (1 + r / 8 % m)) H2:=fun H2 s2 m m1 m2=>by
  have e1:0≤r / 8 % m:=Int.emod_nonneg _ (by lia)
  have e2:r / 8 % m < m:=Int.emod_lt_of_pos _ (by lia)
  exact q _ (.num _) H2 (s1.trans s2) (.num _) (by show 1≤_∧_≤_; lia) (by show 1≤_; exact Nat.one_le_two_pow)
 have a3:∀ t:Addr,H1 t=none→∃ m:Int,atI [V.int 9,V.int 30,V.int 999] (r / 64 % 3)=some (.int m)∧1≤m∧m≤999:=fun t _=>by
  obtain ⟨v,hv,hm⟩:=atI_mem (xs:=[V.int 9,V.int 30,V.int 999]) (r:=r / 64 % 3) (Int.emod_nonneg _ (by decide)) (Int.emod_lt_of_pos _ (by decide))
  simp only [List.mem_cons,List.not_mem_nil,or_false] at hm
  rcases hm with rfl | rfl | rfl
  ·exact ⟨9,hv,by decide,by decide⟩
  ·exact ⟨30,hv,by decide,by decide⟩
  ·exact ⟨999,hv,by decide,by decide⟩
 refine ⟨_,rfl,rfl,_,rfl,?_⟩
 refine ite2 (fun _=>iteT ?g1) (fun c0=>?g2)
 case g1 =>
  refine ⟨_,rfl,_,_,rfl,rfl,⟨by decide,by decide⟩,(by show 3≤sizeLine; decide),fun t ht=>?_⟩
  obtain ⟨m,hm,m1,m2⟩:=a3 t ht
  refine ⟨_,rfl,_,_,rfl,rfl,⟨by decide,by decide⟩,_,_,rfl,rfl,(by show (0:Int) < 3; decide),t,_,_,_,rfl,rfl,SqT.of upd_same,hm,_,_,rfl,rfl,(by show (0:Int) < m; lia),_,_,rfl,rfl,?_⟩
  exact fin _ (Same.new ht) m m1 m2
 case g2 =>
  refine ⟨_,rfl,_,_,rfl,rfl,(by show (0:Int) < 8; decide),rfl,_,rfl,?_⟩
  refine ite2 (fun _=>?g3) (fun _=>?g4)
  case g3 =>
   refine ⟨_,rfl,_,_,rfl,rfl,⟨by decide,by decide⟩,(by show 3≤sizeLine; decide),fun t ht=>?_⟩
   obtain ⟨m,hm,m1,m2⟩:=a3 t ht
   refine ⟨_,rfl,_,_,rfl,rfl,⟨by decide,by decide⟩,_,_,rfl,rfl,(by show (0:Int) < 3; decide),t,_,_,_,rfl,rfl,SqT.of upd_same,hm,_,_,rfl,rfl,(by show (0:Int) < m; lia),_,_,rfl,rfl,?_⟩
   exact fin _ (Same.new ht) m m1 m2
  case g4 =>
   obtain ⟨f',rfl⟩:∃ f',f=f' + 1:=by
    refine ⟨f - 1,?_⟩
    have:f≠0:=fun z=>c0 (decide_eq_true (by rw [z]; rfl))
    lia
   have ep:(2:Int) ^ (f' + 1)=2 ^ f' * 2:=Int.pow_succ ..
   have en:(2:Nat) ^ (f' + 1)=2 ^ f' * 2:=Nat.pow_succ ..
   have p0:(0:Int)≤2 ^ f':=Int.pow_nonneg (by decide)
   have ea:(2 * i + 2 + 2) * 2 ^ f'≤10000:=by
    have:(2 * i + 2 + 2) * 2 ^ f'=(i + 2) * (2 ^ f' * 2):=by rw [← Int.mul_assoc,Int.mul_comm ((i + 2) * 2 ^ f') 2,← Int.mul_assoc]; congr 1; lia
    rw [this,← ep]; exact hi
   have eb:(2 * i + 1 + 2) * 2 ^ f'≤10000:=by
    have:(2 * i + 1 + 2) * 2 ^ f'≤(2 * i + 2 + 2) * 2 ^ f':=Int.mul_le_mul_of_nonneg_right (by lia) p0
    lia
   refine ⟨(by show 7≤sizeLine; decide),fun t ht=>?_⟩
   obtain ⟨v,hv,hvm⟩:=atI_mem (xs:=([.str "plus",.str "less",.str "times",.str "share",.str "plus",.str "times",.str "less"]:List V)) (r:=r % 7) (Int.emod_nonneg _ (by decide)) (Int.emod_lt_of_pos _ (by decide))
   obtain ⟨wd,rfl,hw⟩:=okw7 hvm
   refine ⟨_,rfl,_,_,rfl,rfl,(by show (0:Int) < 7; decide),t,_,_,_,rfl,rfl,SqT.of upd_same,hv,?_⟩
   have st:=s1.trans (Same.new (o:=.tup [.str "plus",.str "less",.str "times",.str "share",.str "plus",.str "times",.str "less"]) ht)
   dsimp only [gName]
   generalize upd H1 t (.tup [.str "plus",.str "less",.str "times",.str "share",.str "plus",.str "times",.str "less"])=H2 at st ⊢
   refine ⟨_,rfl,_,rfl,_,rfl,_,_,rfl,rfl,.inl ⟨by decide,by decide⟩,_,_,rfl,rfl,_,rfl,_,_,rfl,rfl,a,ns,_,f',(by show [V.ref a,V.int (2 * i + 1),V.int (((f' + 1:Nat):Int) - 1)]=_; rw [show (((f' + 1:Nat):Int) - 1)=(f':Int) by lia]),sql_same st hS,hl,by lia,eb,by lia,by lia,fun v1 x1 H3 s3 w1 o1 z1=>?_⟩
   refine ⟨_,rfl,_,rfl,_,_,rfl,rfl,.inl ⟨by decide,by decide⟩,_,_,rfl,rfl,_,rfl,_,_,rfl,rfl,a,ns,_,f',(by show [V.ref a,V.int (2 * i + 2),V.int (((f' + 1:Nat):Int) - 1)]=_; rw [show (((f' + 1:Nat):Int) - 1)=(f':Int) by lia]),sql_same (st.trans s3) hS,hl,by lia,ea,by lia,by lia,fun v2 x2 H4 s4 w2 o2 z2=>⟨(by show 3≤sizeLine; decide),fun p hp=>?_⟩⟩
   have sp:=Same.new (o:=.tup [.str wd,v1,v2]) hp
   exact q (.ref p) (.op wd x1 x2) _ (st.trans (s3.trans (s4.trans sp))) (.op upd_same (w1.kt (KT.same (s4.trans sp))) (w2.kt (KT.same sp))) ⟨hw,o1,o2⟩ (by show x1.size + x2.size≤_; lia)
theorem ok_way {f:Addr} {fd:FuncData} (F:Fun K "_law_way" "_law_way" s_law_way f fd) (b:Binds K fd ["script","at","fuel"] []) (m:mg "_law_way"=some (.ref f)) (B:Blt mg) (Gdraw:Def P w K mg base CX0 1 "_law_draw" (spDrawS K)) :
  ∀ n,FnOk P w K mg base CX0 (n + 2) f fd ["script","at","fuel"] (spWayR K n)
 | 0=>by
  have no:∀ vs H Q E,¬ spWayR K 0 vs H Q E:=fun vs H Q E h=>by
   obtain ⟨a,ns,i,f,_,_,_,_,_,h2,_⟩:=h
   lia
  exact ⟨fun vs H Q E h=>absurd h (no vs H Q E),fun A outer s H args us vs Q E _ _ _ _ h=>absurd h (no vs H Q E)⟩
 | n + 1=>ok_way_step F B Gdraw (mkDef (ok_way F b m B Gdraw n) b m F.kp)
end
end Law
namespace Law
open PySem L2
section
variable {P:Program} {w:World} {K:PySem.W.Frag} {mg:Str→Option Value} {base:Heap}
noncomputable def okNs (ns:List Int):Prop:=∀ n∈ns,1≤n∧n≤1000000
noncomputable def spOwn (n:Nat):Sp:=fun vs H Q _=>∃ (v:V) (x:Way),vs=[v]∧WayIn H v x∧x.ok 1000000∧x.size≤n∧x.size≤100 ∧
 ∀ (p:Addr) (ns:List Int) (H':Hp),Same H H'→H p=none→H' p=some (.lst (ns.map V.int))→ns.length=x.size→okNs ns→Q (.ref p) H'
noncomputable abbrev s_law_numbers:Stmt:=top 89
theorem sc_law_numbers:FnScope ["way"] ["way"] (defScope s_law_numbers):=⟨rfl,rfl,rfl,by decide +kernel,rfl,by decide +kernel,by decide +kernel⟩
theorem ok_own_step {n:Nat} {f:Addr} {fd:FuncData} (F:Fun K "_law_numbers" "_law_numbers" s_law_numbers f fd) (B:Blt mg) (Gnums:Def P w K mg base CX0 (n + 2) "_law_numbers" (spOwn n)):FnOk P w K mg base CX0 (n + 3) f fd ["way"] (spOwn (n + 1)):=by
 refine F.ok (k:=n + 2) sc_law_numbers (fun vs H Q E h=>?_) (fun cdv A outer s H vs Q E hr h=>?_)
 ·obtain ⟨v,x,rfl,_⟩:=h
  rfl
 obtain ⟨v,x,rfl,hx,ho,hn,h100,q⟩:=h
 refine ⟨_,(pss_cons (ps_if (pt_val (pe_isin B.isinstance B.int bt_int (pv 0))) (pss_one (ps_ret (pe_lst (pa_cons (pv 0) pa_nil)))) pss_nil)
   (pss_one (ps_ret (pe_op op_cat (pe_def Gnums (hr.mono (by lia)) (pa_cons (pe_ix ix_tup (pv 0) pe_int (fun _ _=>rfl)) pa_nil)) (pe_def Gnums (hr.mono (by lia)) (pa_cons (pe_ix ix_tup (pv 0) pe_int (fun _ _=>rfl)) pa_nil)))))),?_⟩
 have szl:=sizeLine_eq
 cases hx with
 | num k =>
  refine ⟨_,rfl,_,_,TyOf.int _,kit_int_int _,_,rfl,iteT ?_⟩
  refine ⟨_,rfl,(by show 1≤sizeLine; decide),fun p hp=>?_⟩
  exact q p [k] _ (Same.new hp) hp upd_same rfl fun n hn=>by rw [List.mem_singleton.mp hn]; exact ho
 | @op p wd x1 x2 a1 b1 hp ha hb =>
  obtain ⟨hw,oa,ob⟩:=id ho
  have za:=a1.size_pos
  have zb:=b1.size_pos
  have hsz:a1.size + b1.size≤n + 1:=hn
  have hsz2:a1.size + b1.size≤100:=h100
  refine ⟨_,rfl,_,_,TyOf.tup hp,kit_tup_int _,_,rfl,iteF ?_⟩
  refine ⟨_,rfl,p,_,_,_,rfl,rfl,SqT.of hp,atI_nat (j:=1) rfl,x1,a1,rfl,ha,oa,by lia,by lia,fun p1 ns1 H1 s1 n1 g1 l1 k1=>?_⟩
  refine ⟨_,rfl,p,_,_,_,rfl,rfl,SqT.of (s1 _ _ hp),atI_nat (j:=2) rfl,x2,b1,rfl,hb.kt (KT.same s1),ob,by lia,by lia,fun p2 ns2 H2 s2 n2 g2 l2 k2=>?_⟩
  refine ⟨p1,p2,_,_,rfl,rfl,s2 _ _ g1,g2,by rw [List.length_map,List.length_map,szl]; lia,fun p3 hp3=>?_⟩
  refine q p3 (ns1++ns2) _ (s1.trans (s2.trans (Same.new hp3))) ?_ (by rw [upd_same,List.map_append]) (by rw [List.length_append,l1,l2]; rfl) fun n hn=>?_
  ·cases e:H p3 with
   | none=>rfl
   | some o=>rw [s2 _ _ (s1 _ _ e)] at hp3; cases hp3
  ·rcases List.mem_append.mp hn with h | h
   ·exact k1 n h
   ·exact k2 n h
theorem ok_own {f:Addr} {fd:FuncData} (F:Fun K "_law_numbers" "_law_numbers" s_law_numbers f fd) (b:Binds K fd ["way"] []) (m:mg "_law_numbers"=some (.ref f)) (B:Blt mg) :
  ∀ n,FnOk P w K mg base CX0 (n + 2) f fd ["way"] (spOwn n)
 | 0=>by
  have no:∀ vs H Q E,¬ spOwn 0 vs H Q E:=fun vs H Q E h=>by
   obtain ⟨v,x,_,_,_,h2,_⟩:=h
   have:=x.size_pos
   lia
  exact ⟨fun vs H Q E h=>absurd h (no vs H Q E),fun A outer s H args us vs Q E _ _ _ _ h=>absurd h (no vs H Q E)⟩
 | n + 1=>ok_own_step F B (mkDef (ok_own F b m B n) b m F.kp)
theorem kt_of {l:Addr} {H H':Hp} {xs:List V} (hl:H l=some (.lst xs)) (k:Keep [l] H H'):KT H H':=fun p ys e=>k _ _ e (by
 intro z
 rw [List.mem_singleton.mp z,hl] at e
 cases e)
noncomputable def spPut (n:Nat):Sp:=fun vs H Q _=>∃ (v:V) (x:Way) (l:Addr) (ns:List Int),vs=[v,.ref l]∧WayIn H v x∧x.ok 1000000∧x.size≤n∧H l=some (.lst (ns.map V.int))∧x.size≤ns.length∧okNs ns ∧
 ∀ (v':V) (y:Way) (H':Hp),WayIn H' v' y→y.ok 1000000→y.size=x.size→Keep [l] H H'→H' l=some (.lst ((ns.drop x.size).map V.int))→Q v' H'
noncomputable abbrev s_law_filled:Stmt:=top 92
theorem sc_law_filled:FnScope ["way","numbers","one"] ["way","numbers"] (defScope s_law_filled):=⟨rfl,rfl,rfl,by decide +kernel,rfl,by decide +kernel,by decide +kernel⟩
theorem ok_put_step {n:Nat} {f:Addr} {fd:FuncData} (F:Fun K "_law_filled" "_law_filled" s_law_filled f fd) (B:Blt mg) (Gfill:Def P w K mg base CX0 (n + 2) "_law_filled" (spPut n)):FnOk P w K mg base CX0 (n + 3) f fd ["way","numbers"] (spPut (n + 1)):=by
 refine F.ok (k:=n + 2) sc_law_filled (fun vs H Q E h=>?_) (fun cdv A outer s H vs Q E hr h=>?_)
 ·obtain ⟨v,x,l,ns,rfl,_⟩:=h
  rfl
 obtain ⟨v,x,l,ns,rfl,hx,ho,hn,hl,hln,kn,q⟩:=h
 refine ⟨_,(pss_cons (ps_if (pt_val (pe_isin B.isinstance B.int bt_int (pv 0))) (pss_one (ps_ret (pe_bm PySem.F.plainAttrs_list PySem.F.slot_list_pop PySem.F.type_list_pop mt_popAt (pv 1) (pa_cons pe_int pa_nil)))) pss_nil)
   (pss_cons (ps_set (i:=2) sc_law_filled.nd rfl (by first | exact Or.inl rfl | exact Or.inr rfl) (pe_def Gfill (hr.mono (by lia)) (pa_cons (pe_ix ix_tup (pv 0) pe_int (fun _ _=>rfl)) (pa_cons (pv 1) pa_nil))))
   (pss_one (ps_ret (pe_tup (pa_cons (pe_ix ix_tup (pv 0) pe_int (fun _ _=>rfl)) (pa_cons (pv 2) (pa_cons (pe_def Gfill (hr.mono (by lia)) (pa_cons (pe_ix ix_tup (pv 0) pe_int (fun _ _=>rfl)) (pa_cons (pv 1) pa_nil))) pa_nil)))))))),?_⟩
 cases hx with
 | num k =>
  refine ⟨_,rfl,_,_,TyOf.int _,kit_int_int _,_,rfl,iteT ?_⟩
  match ns,hln,hl,kn with
  | n0 :: nr,hln,hl,kn =>
   refine ⟨_,rfl,.inl ⟨rfl,_,SqL.of hl⟩,l,_,0,0,.int n0,rfl,rfl,hl,by decide,by decide,?_,rfl,?_⟩
   ·show seqIndex? 0 (nr.map V.int).length.succ=some 0
    unfold seqIndex?
    simp
   ·exact q (.int n0) (.num n0) _ (.num n0) (kn n0 (List.mem_cons_self ..)) rfl (Keep.upd (by simp)) (by rw [upd_same]; rfl)
 | @op p wd x1 x2 a1 b1 hp ha hb =>
  obtain ⟨hw,oa,ob⟩:=id ho
  have za:=a1.size_pos
  have zb:=b1.size_pos
  have hsz:a1.size + b1.size≤n + 1:=hn
  have hsl:a1.size + b1.size≤ns.length:=hln
  refine ⟨_,rfl,_,_,TyOf.tup hp,kit_tup_int _,_,rfl,iteF ?_⟩
  refine ⟨_,rfl,p,_,_,_,rfl,rfl,SqT.of hp,atI_nat (j:=1) rfl,_,rfl,x1,a1,l,ns,rfl,ha,oa,by lia,hl,by lia,kn,fun v1 y1 H1 w1 o1 z1 k1 g1=>?_⟩
  have t1:=kt_of hl k1
  refine ⟨_,rfl,p,_,_,_,rfl,rfl,SqT.of (t1 _ _ hp),atI_nat (j:=0) rfl,_,rfl,_,rfl,p,_,_,_,rfl,rfl,SqT.of (t1 _ _ hp),atI_nat (j:=2) rfl,_,rfl,x2,b1,l,ns.drop a1.size,rfl,hb.kt t1,ob,by lia,g1,by rw [List.length_drop]; lia,fun n hn=>kn n (List.mem_of_mem_drop hn),fun v2 y2 H2 w2 o2 z2 k2 g2=>⟨(by show 3≤sizeLine; decide),fun t ht=>?_⟩⟩
  have t2:=kt_of g1 k2
  have tn:=KT.new (o:=.tup [.str wd,v1,v2]) ht
  refine q (.ref t) (.op wd y1 y2) _ (.op upd_same (w1.kt (KT.trans t2 tn)) (w2.kt tn)) ⟨hw,o1,o2⟩ (by show y1.size + y2.size=a1.size + b1.size; lia) (k1.trans (k2.trans (Keep.new ht))) ?_
  rw [List.drop_drop] at g2
  exact Same.new ht _ _ g2
theorem ok_put {f:Addr} {fd:FuncData} (F:Fun K "_law_filled" "_law_filled" s_law_filled f fd) (b:Binds K fd ["way","numbers"] []) (m:mg "_law_filled"=some (.ref f)) (B:Blt mg) :
  ∀ n,FnOk P w K mg base CX0 (n + 2) f fd ["way","numbers"] (spPut n)
 | 0=>by
  have no:∀ vs H Q E,¬ spPut 0 vs H Q E:=fun vs H Q E h=>by
   obtain ⟨v,x,l,ns,_,_,_,h2,_⟩:=h
   have:=x.size_pos
   lia
  exact ⟨fun vs H Q E h=>absurd h (no vs H Q E),fun A outer s H args us vs Q E _ _ _ _ h=>absurd h (no vs H Q E)⟩
 | n + 1=>ok_put_step F B (mkDef (ok_put F b m B n) b m F.kp)
end
end Law
namespace Law
open PySem L2
section
variable {P:Program} {w:World} {K:PySem.W.Frag} {mg:Str→Option Value} {base:Heap}
theorem dep_grpE (k:Str) (more off:List D):(D.tup [.str k,.tup more,.tup off]).dep=max (deps more + 1) (deps off + 1) + 1:=by
 have e1:∀ l,(D.tup l).dep=deps l + 1:=fun l=>by rw [D.dep]
 have e2:(D.str k).dep=0:=by rw [D.dep]; all_goals simp
 have e3:∀ (d:D) (r:List D),deps (d :: r)=max d.dep (deps r):=fun d r=>by rw [deps]
 have e4:deps []=0:=by rw [deps]
 rw [e1,e3,e3,e3,e4,e2,e1,e1]
 lia
theorem pf_dep {k:Str} {d x:D} (h:IsForm d) (hx:x∈(pf k d).1∨x∈(pf k d).2):x.dep≤d.dep:=by
 have one:∀ d:D,(x∈[d]∨x∈([]:List D))→x.dep≤d.dep:=fun d h=>by
  rcases h with h | h
  ·rw [List.mem_singleton.mp h]; exact Nat.le_refl _
  ·cases h
 cases h with
 | num h0 h1=>exact one _ hx
 | @grp k' m0 more off hk g0 g1 g2 =>
  rw [pf_grp] at hx
  split at hx
  ·rw [dep_grpE]
   rcases hx with h | h
   ·have:=deps_mem (l:=m0 :: more) h; lia
   ·have:=deps_mem (l:=off) h; lia
  ·exact one _ hx
theorem fP_dep:∀ {x:Way},x.ok 1000000→(fP x).dep + 2≤2 * x.size:=by
 intro x
 induction x with
 | num n=>intro _; show (D.int n).dep + 2≤2 * 1; rw [D.dep]; all_goals simp
 | op w a b ia ib =>
  intro h
  obtain ⟨_,ha,hb⟩:=h
  have i1:=ia ha
  have i2:=ib hb
  have pa:=a.size_pos
  have pb:=b.size_pos
  have es:(Way.op w a b).size=a.size + b.size:=rfl
  have all:∀ x,(x∈(pf (knd w) (fP a)).1∨x∈(pf (knd w) (fP a)).2)∨(x∈(pf (knd w) (fP b)).1∨x∈(pf (knd w) (fP b)).2)→x.dep≤2 * (a.size + b.size) - 4:=fun x hx=>by
   rcases hx with hx | hx
   ·have:=pf_dep (fP_form ha) hx; lia
   ·have:=pf_dep (fP_form hb) hx; lia
  have sw:∀ x,(x∈(swp (trn w) (pf (knd w) (fP b))).1∨x∈(swp (trn w) (pf (knd w) (fP b))).2)→(x∈(pf (knd w) (fP b)).1∨x∈(pf (knd w) (fP b)).2):=fun x hx=>by
   cases ht:trn w with
   | false=>rw [ht] at hx; exact hx
   | true=>rw [ht] at hx; exact hx.symm
  have d1:deps (srtD ((pf (knd w) (fP a)).1++(swp (trn w) (pf (knd w) (fP b))).1))≤2 * (a.size + b.size) - 4:=deps_le fun x hx=>by
   rcases List.mem_append.mp ((srtD_perm _).mem_iff.mp hx) with h | h
   ·exact all x (.inl (.inl h))
   ·exact all x (.inr (sw x (.inl h)))
  have d2:deps (srtD ((pf (knd w) (fP a)).2++(swp (trn w) (pf (knd w) (fP b))).2))≤2 * (a.size + b.size) - 4:=deps_le fun x hx=>by
   rcases List.mem_append.mp ((srtD_perm _).mem_iff.mp hx) with h | h
   ·exact all x (.inl (.inr h))
   ·exact all x (.inr (sw x (.inr h)))
  rw [fP,dep_grpE]
  lia
theorem fP_isF (x:Way):L2.isF (fP x):=by
 cases x with
 | num n=>exact .inl ⟨n,rfl⟩
 | op w a b=>exact .inr ⟨_,rfl⟩
theorem cut_lo (xs:List V) {a:Nat} (h:a≤xs.length):cutV xs none (some (a:Int))=xs.take a:=by
 unfold cutV
 show (xs.drop 0).take (min a xs.length - 0)=xs.take a
 rw [List.drop_zero,Nat.sub_zero,Nat.min_eq_left h]
theorem cut_hi (xs:List V) {a:Nat} (h:a≤xs.length):cutV xs (some (a:Int)) none=xs.drop a:=by
 unfold cutV
 show (xs.drop (min a xs.length)).take (xs.length - min a xs.length)=xs.drop a
 rw [Nat.min_eq_left h,← List.length_drop,List.take_length]
theorem bnd1 {i:Int} {f:Nat} (h0:0≤i) (h:i≤1000) (hf:f≤3):(i + 2) * 2 ^ f≤10000:=by
 have h1:(i + 2) * 2 ^ f≤(i + 2) * 2 ^ 3:=Int.mul_le_mul_of_nonneg_left (two_pow_mono hf) (by lia)
 have e:(2:Int) ^ 3=8:=by decide
 rw [e] at h1
 lia
theorem bnd2 {i:Int} {f:Nat} (h0:0≤i) (h:i≤200) (hf:f≤7):(i + 2) * 2 ^ f≤50000:=by
 have h1:(i + 2) * 2 ^ f≤(i + 2) * 2 ^ 7:=Int.mul_le_mul_of_nonneg_left (two_pow_mono hf) (by lia)
 have e:(2:Int) ^ 7=128:=by decide
 rw [e] at h1
 lia
theorem draw3 (r:Int):∃ f:Nat,1 + r % 3=(f:Int)∧f≤3∧(2:Nat) ^ f≤8:=by
 have h0:0≤r % 3:=Int.emod_nonneg _ (by decide)
 have h1:r % 3 < 3:=Int.emod_lt_of_pos _ (by decide)
 obtain ⟨f,hf,h3⟩:∃ f:Nat,1 + r % 3=(f:Int)∧f≤3:=⟨(1 + r % 3).toNat,by lia,by lia⟩
 exact ⟨f,hf,h3,Nat.pow_le_pow_right (n:=2) (by decide) h3⟩
theorem line_eq (x y:Way):("twins ":Str)++mkS (tx false x)++(";":Str)++mkS (tx false y)=mkS (lineT x y):=mkS_eq (by
 rw [cs_app,cs_app,cs_app,cs_mkS,cs_mkS,show cs ("twins ":Str)=[116,119,105,110,115,32] by decide +kernel,show cs (";":Str)=[59] by decide +kernel]
 unfold lineT twoT tx
 simp)
theorem yn_yes {x y:Way} (h:fP y=fP x):yn x y="yes":=by unfold yn; rw [h,decide_eq_true rfl,if_pos rfl]
theorem perm_sum {a b:List Int} (h:a.Perm b):a.sum=b.sum:=by
 induction h with
 | nil=>rfl
 | cons x _ ih=>rw [List.sum_cons,List.sum_cons,ih]
 | swap x y l=>rw [List.sum_cons,List.sum_cons,List.sum_cons,List.sum_cons]; lia
 | trans _ _ i j=>exact i.trans j
theorem yn_no {x y:Way} (hx:x.ok 1000000) (hy:y.ok 1000000) (h:(nmW y).sum=(nmW x).sum + 1):yn x y="no":=by
 unfold yn
 rw [decide_eq_false,if_neg (by decide)]
 intro e
 have e:=(kD_twin hx hy).mp e
 have p:=(fP_nm hx).symm.trans (e ▸ fP_nm hy)
 have:=perm_sum p
 lia
theorem at_yn (b:Bool):atI [V.str "no",V.str "yes"] (if b=true then 1 else 0)=some (.str (if b=true then "yes" else "no")):=by cases b <;> rfl
theorem tx_len {x:Way} (h:Small x):(mkS (tx false x)).length≤1000:=by
 have:=txt_len m6 h.1
 have:=h.2
 rw [len_mkS]
 show (txt x).length≤_
 lia
theorem same_desk {C:Addr} {H H':Hp} {x dx:Addr} (nx:H x=none) (ndx:H dx=none) (h:∀ b o,b≠x→upd (upd H dx (.own x)) x (.ins C dx []) b=some o→H' b=some o):Same H H':=fun b o e=>by
 refine h b o (ne_of_none e nx) ?_
 rw [upd_ne (ne_of_none e nx),upd_ne (ne_of_none e ndx)]
 exact e
noncomputable abbrev s_law:Stmt:=top 93
theorem sc_law:FnScope ["script","desk","turn","way","twin","strange","drawn","numbers","at","mixed","small","other","line","due","told"] ["script"] (defScope s_law):=⟨rfl,rfl,rfl,by decide +kernel,rfl,by decide +kernel,by decide +kernel⟩
theorem ok_law {f C fI fA:Addr} {fd fdI fdA:FuncData} (F:Fun K "law" "law" s_law f fd) (B:Blt mg) (Gdraw:Def P w K mg base CX0 1 "_law_draw" (spDrawS K)) (Gway36:Def P w K mg base CX0 6 "_law_way" (spWayR K 4)) (Gturn:Def P w K mg base CX0 10 "_law_turned" (spTurn K 8)) (Gother:Def P w K mg base CX0 10 "_law_other" (spStr 8))
  (Gnums:Def P w K mg base CX0 10 "_law_numbers" (spOwn 8)) (Gfill:Def P w K mg base CX0 10 "_law_filled" (spPut 8)) (Gtext:Def P w K mg base CX0 12 "_law_text" (spText2 12)) (Gformof:Def P w K mg base CX0 7 "form_of" spFormOf)
  (M:Mk K C fI) (FI:FnOk P w K mg base CX0 1 fI fdI ["self"] (spDesk C)) (bI:Binds K fdI ["self"] []) (mC:mg "Desk"=some (.ref C)) (cl:Cls K C) (mA:Meth K C "ask" fA) (FA:FnOk P w K mg base CX0 10 fA fdA ["self","line"] (spAsk C)) (bA:Binds K fdA ["self","line"] []):FnOk P w K mg base CX0 30 f fd ["script"] (spLaw K):=by
 refine F.ok (k:=29) sc_law (fun vs H Q E h=>?_) (fun cdv A outer s H vs Q E hr h=>?_)
 ·obtain ⟨a,ns,rfl,_⟩:=h
  rfl
 obtain ⟨a,ns,rfl,hS,hl,q⟩:=h
 refine ⟨_,(pss_cons (ps_set (i:=1) sc_law.nd rfl (by first | exact Or.inl rfl | exact Or.inr rfl) (pe_make0 M FI (hr.mono (by lia)) rfl mC bI .nil pass0))
   (pss_cons (ps_for PassesOwn.never rfl (pi_range1 rfl B.range (pa_cons pe_int pa_nil)) (pg_name (i:=2) sc_law.nd rfl (by first | exact Or.inl rfl | exact Or.inr rfl)) (pss_cons (ps_set (i:=3) sc_law.nd rfl (by first | exact Or.inl rfl | exact Or.inr rfl) (pe_def Gway36 (hr.mono (by lia)) (pa_cons (pv 0) (pa_cons (pe_op op_mul pe_int (pv 2)) (pa_cons (pe_op op_add pe_int (pe_op op_mod (pe_def Gdraw (hr.mono (by lia)) (pa_cons (pv 0) (pa_cons (pe_op op_add pe_int (pv 2)) pa_nil))) pe_int)) pa_nil)))))
   (pss_cons (ps_set (i:=4) sc_law.nd rfl (by first | exact Or.inl rfl | exact Or.inr rfl) (pe_def Gturn (hr.mono (by lia)) (pa_cons (pv 0) (pa_cons (pe_op op_mul pe_int (pv 2)) (pa_cons (pv 3) pa_nil)))))
   (pss_cons (ps_set (i:=5) sc_law.nd rfl (by first | exact Or.inl rfl | exact Or.inr rfl) (pe_def Gother (hr.mono (by lia)) (pa_cons (pv 0) (pa_cons (pv 4) pa_nil))))
   (pss_cons (ps_set (i:=6) sc_law.nd rfl (by first | exact Or.inl rfl | exact Or.inr rfl) (pe_def Gway36 (hr.mono (by lia)) (pa_cons (pv 0) (pa_cons (pe_op op_add (pe_op op_mul pe_int (pv 2)) pe_int) (pa_cons (pe_op op_add pe_int (pe_op op_mod (pe_def Gdraw (hr.mono (by lia)) (pa_cons (pv 0) (pa_cons (pe_op op_add pe_int (pv 2)) pa_nil))) pe_int)) pa_nil)))))
   (pss_cons (ps_set (i:=7) sc_law.nd rfl (by first | exact Or.inl rfl | exact Or.inr rfl) (pe_def Gnums (hr.mono (by lia)) (pa_cons (pv 4) pa_nil)))
   (pss_cons (ps_set (i:=8) sc_law.nd rfl (by first | exact Or.inl rfl | exact Or.inr rfl) (pe_op op_mod (pe_def Gdraw (hr.mono (by lia)) (pa_cons (pv 0) (pa_cons (pe_op op_add pe_int (pv 2)) pa_nil))) (pe_callB call_len_seq rfl B.len bt_len (pa_cons (pv 7) pa_nil))))
   (pss_cons (ps_set (i:=9) sc_law.nd rfl (by first | exact Or.inl rfl | exact Or.inr rfl) (pe_def Gfill (hr.mono (by lia)) (pa_cons (pv 4) (pa_cons (pe_op op_cat (pe_slice sl_list (pv 7) (po_some (pv 8)) po_none) (pe_rev (pe_slice sl_list (pv 7) po_none (po_some (pv 8))))) pa_nil))))
   (pss_cons (ps_set (i:=10) sc_law.nd rfl (by first | exact Or.inl rfl | exact Or.inr rfl) (pe_def Gfill (hr.mono (by lia)) (pa_cons (pv 3) (pa_cons (pe_comp (N:=["number"]) rfl (cs_of [none] rfl (by decide +kernel) (by decide +kernel) rfl rfl) rfl (pi_list (pv 7)) (fun _ _ _ _=>(pg_name (i:=0) (show (["number"]:List Str).Nodup by decide +kernel) rfl (by first | exact Or.inl rfl | exact Or.inr rfl))) (fun _ _ _ _=>ptl_nil) (fun _ _ _ _=>(pe_op op_add pe_int (pe_op op_mod (pv 0) pe_int)))) pa_nil))))
   (pss_cons (ps_for PassesOwn.never rfl (pi_tup (pe_tup (pa_cons (pv 4) (pa_cons (pv 5) (pa_cons (pv 6) (pa_cons (pv 3) (pa_cons (pv 9) (pa_cons (pv 10) pa_nil)))))))) (pg_name (i:=11) sc_law.nd rfl (by first | exact Or.inl rfl | exact Or.inr rfl)) (pss_cons (ps_set (i:=12) sc_law.nd rfl (by first | exact Or.inl rfl | exact Or.inr rfl) (pe_op op_add_str (pe_op op_add_str (pe_op op_add_str pe_str (pe_def Gtext (hr.mono (by lia)) (pa_cons (pv 3) (pa_cons pe_bl pa_nil)))) pe_str) (pe_def Gtext (hr.mono (by lia)) (pa_cons (pv 11) (pa_cons pe_bl pa_nil)))))
   (pss_cons (ps_set (i:=13) sc_law.nd rfl (by first | exact Or.inl rfl | exact Or.inr rfl) (pe_ix ix_list (pe_lst (pa_cons pe_str (pa_cons pe_str pa_nil))) (pe_callTy call_int1 rfl B.int bt_int (pa_cons (pe_cmpR (op_eqF (hu60 hr)) (pe_def Gformof (hr.mono (by lia)) (pa_cons (pv 3) pa_nil)) (pe_def Gformof (hr.mono (by lia)) (pa_cons (pv 11) pa_nil)) (nomark _)) pa_nil)) (fun _ _=>rfl)))
   (pss_cons (ps_set (i:=14) sc_law.nd rfl (by first | exact Or.inl rfl | exact Or.inr rfl) (pe_meth (pv 1) cl mA FA (hr.mono (by lia)) bA .nil pass0 (pa_cons (pv 12) pa_nil)))
   (pss_cons (ps_if (pt_cmpR (op_neS (hu60 hr)) (pv 14) (pe_lst (pa_cons (pv 13) pa_nil)) (nomark _)) (pss_one (ps_ret pe_bl)) pss_nil)
   (pss_one (ps_expr (pe_bm PySem.F.plainAttrs_list PySem.F.slot_list_append PySem.F.type_list_append mt_append (pv 14) (pa_cons pe_str pa_nil)))))))))
   (pss_cons (ps_if (pt_cmpR (op_neS (hu60 hr)) (pe_meth (pv 1) cl mA FA (hr.mono (by lia)) bA .nil pass0 (pa_cons (pe_op op_add_str (pe_op op_add_str (pe_op op_add_str pe_str (pe_def Gtext (hr.mono (by lia)) (pa_cons (pv 3) (pa_cons pe_bl pa_nil)))) pe_str) (pe_def Gtext (hr.mono (by lia)) (pa_cons (pv 4) (pa_cons pe_bl pa_nil)))) pa_nil)) (pe_lst (pa_cons pe_str pa_nil)) (nomark _)) (pss_one (ps_ret pe_bl)) pss_nil)
   (pss_one (ps_if (pt_cmpR (op_neS (hu60 hr)) (pe_meth (pv 1) cl mA FA (hr.mono (by lia)) bA .nil pass0 (pa_cons (pe_op op_add_str (pe_op op_add_str (pe_op op_add_str pe_str (pe_def Gtext (hr.mono (by lia)) (pa_cons (pv 4) (pa_cons pe_bl pa_nil)))) pe_str) (pe_def Gtext (hr.mono (by lia)) (pa_cons (pv 5) (pa_cons pe_bl pa_nil)))) pa_nil)) (pe_lst (pa_cons pe_str pa_nil)) (nomark _)) (pss_one (ps_ret pe_bl)) pss_nil)))))))))))))
   (pss_one (ps_ret pe_bl)))),?_⟩
 have szl:=sizeLine_eq
 refine fun d dx nx ndx nex=>⟨d,dx,rfl,upd_same,fun H0 hk D0=>⟨rfl,?_⟩⟩
 have S0:Same H H0:=same_desk nx ndx hk
 have hS0:=sql_same S0 hS
 clear hk S0 hS nex ndx nx
 refine ⟨6,rfl,by decide,by decide,for_range (n:=6) (fun i σ H'=>∃ (z2 z3 z4 z5 z6 z7 z8 z9 z10 z11 z12 z13 z14:Option V),σ=[some (.ref a),some (.ref d),z2,z3,z4,z5,z6,z7,z8,z9,z10,z11,z12,z13,z14]∧Same H0 H') ⟨_,_,_,_,_,_,_,_,_,_,_,_,_,rfl,Same.refl _⟩ ?_ ?_⟩
 ·rintro i σ H1 hi ⟨z2,z3,z4,z5,z6,z7,z8,z9,z10,z11,z12,z13,z14,rfl,s1⟩
  have hi6:i≤5:=by lia
  have kS:∀ {H'},Same H0 H'→SqL K H' a (ns.map V.int):=fun s'=>sql_same s' hS0
  refine ⟨_,rfl,_,rfl,_,_,rfl,rfl,.inl ⟨by decide,by decide⟩,_,rfl,_,rfl,_,_,rfl,rfl,a,ns,_,rfl,kS s1,hl,by lia,by lia,fun r H2 r0 r1 s2=>⟨_,_,rfl,rfl,(by show (0:Int) < 3; decide),_,_,rfl,rfl,?_⟩⟩
  obtain ⟨f1,hf1,f13,f18⟩:=draw3 r
  refine ⟨a,ns,40 * (0 + (i:Int)),f1,(by show [V.ref a,V.int (40 * (0 + (i:Int))),V.int (1 + r % 3)]=_; rw [hf1]),kS (s1.trans s2),hl,by lia,bnd1 (by lia) (by lia) f13,by lia,f13,fun v x H3 s3 wx ox zx=>?_⟩
  have s03:=s1.trans (s2.trans s3)
  have zx8:x.size≤8:=by lia
  have hx7:=x.ht_lt
  clear s1 s2 s3 r0 r1 hf1 f18 zx
  refine ⟨_,rfl,_,rfl,_,_,rfl,rfl,.inl ⟨by decide,by decide⟩,_,rfl,a,ns,_,v,x,rfl,kS s03,hl,by lia,bnd2 (by lia) (by lia) (by lia),by lia,wx,ox,fun vt y H4 s4 wy oy zy fy=>?_⟩
  have s04:=s03.trans s4
  have hy7:=y.ht_lt
  refine ⟨_,rfl,_,rfl,_,vt,y,rfl,wy,oy,by lia,fun vs z H5 s5 wz oz zz nz=>?_⟩
  have s05:=s04.trans s5
  refine ⟨_,rfl,_,rfl,_,_,rfl,rfl,.inl ⟨by decide,by decide⟩,_,_,rfl,rfl,_,rfl,_,rfl,_,_,rfl,rfl,a,ns,_,rfl,kS s05,hl,by lia,by lia,fun r2 H6 r20 r21 s6=>⟨_,_,rfl,rfl,(by show (0:Int) < 3; decide),_,_,rfl,rfl,?_⟩⟩
  obtain ⟨f2,hf2,f23,f28⟩:=draw3 r2
  refine ⟨a,ns,40 * (0 + (i:Int)) + 7,f2,(by show [V.ref a,V.int (40 * (0 + (i:Int)) + 7),V.int (1 + r2 % 3)]=_; rw [hf2]),kS (s05.trans s6),hl,by lia,bnd1 (by lia) (by lia) f23,by lia,f23,fun vd xd H7 s7 wd od zd=>?_⟩
  have s07:=s05.trans (s6.trans s7)
  have zd8:xd.size≤8:=by lia
  have wy7:=wy.kt (KT.same (s5.trans (s6.trans s7)))
  refine ⟨_,rfl,vt,y,rfl,wy7,m3 _ oy,by lia,by lia,fun pn nn H8 s8 npn gn ln kn=>?_⟩
  have s08:=s07.trans s8
  refine ⟨_,rfl,_,rfl,_,_,rfl,rfl,a,ns,_,rfl,kS s08,hl,by lia,by lia,fun r3 H9 r30 r31 s9=>⟨_,rfl,pn,_,rfl,.inl (SqL.of (s9 _ _ gn)),_,_,rfl,rfl,(by rw [List.length_map,ln]; have:=y.size_pos; show (0:Int) < _; lia),?_⟩⟩
  rw [List.length_map]
  have yp:=y.size_pos
  obtain ⟨at_,hat,hatl⟩:∃ k:Nat,r3 % (nn.length:Int)=(k:Int)∧k≤nn.length:=by
   have h0:0≤r3 % (nn.length:Int):=Int.emod_nonneg _ (by lia)
   have h1:r3 % (nn.length:Int) < (nn.length:Int):=Int.emod_lt_of_pos _ (by lia)
   exact ⟨(r3 % (nn.length:Int)).toNat,by lia,by lia⟩
  dsimp only [gName]
  rw [hat]
  have gn9:=s9 _ _ gn
  have s79:=s8.trans s9
  refine ⟨_,rfl,_,rfl,_,rfl,_,rfl,pn,_,rfl,SqL.of gn9,fun p1 hp1=>?_⟩
  rw [cut_hi _ (by rw [List.length_map]; exact hatl)]
  have t1:=Same.new (o:=.lst ((nn.map V.int).drop at_)) hp1
  refine ⟨_,rfl,_,rfl,_,rfl,pn,_,rfl,SqL.of (t1 _ _ gn9),fun p2 hp2=>?_⟩
  rw [cut_lo _ (by rw [List.length_map]; exact hatl)]
  have t2:=Same.new (o:=.lst ((nn.map V.int).take at_)) hp2
  refine ⟨p2,_,rfl,SqL.of upd_same,fun p3 hp3=>?_⟩
  have t3:=Same.new (o:=.lst ((nn.map V.int).take at_).reverse) hp3
  refine ⟨p1,p3,_,_,rfl,rfl,t3 _ _ (t2 _ _ upd_same),upd_same,by rw [List.length_reverse,List.length_drop,List.length_take,List.length_map,szl]; lia,fun p4 hp4=>?_⟩
  have t4:=Same.new (o:=.lst ((nn.map V.int).drop at_++((nn.map V.int).take at_).reverse)) hp4
  have eL:(nn.map V.int).drop at_++((nn.map V.int).take at_).reverse=(nn.drop at_++(nn.take at_).reverse).map V.int:=by
   rw [List.map_append,List.map_drop,List.map_reverse,List.map_take]
  rw [eL] at t4 ⊢
  have g4:(upd (upd (upd (upd H9 p1 (.lst ((nn.map V.int).drop at_))) p2 (.lst ((nn.map V.int).take at_))) p3 (.lst ((nn.map V.int).take at_).reverse)) p4 (.lst ((nn.drop at_++(nn.take at_).reverse).map V.int))) p4=some (.lst ((nn.drop at_++(nn.take at_).reverse).map V.int)):=upd_same
  have n4:H9 p4=none:=(t1.trans (t2.trans t3)).free hp4
  have s10:=t1.trans (t2.trans (t3.trans t4))
  generalize upd (upd (upd (upd H9 p1 (.lst ((nn.map V.int).drop at_))) p2 (.lst ((nn.map V.int).take at_))) p3 (.lst ((nn.map V.int).take at_).reverse)) p4 (.lst ((nn.drop at_++(nn.take at_).reverse).map V.int))=H10 at s10 g4 ⊢
  clear t1 t2 t3 t4 hp1 hp2 hp3 hp4 eL hat
  refine ⟨vt,y,p4,_,rfl,wy7.kt (KT.same (s79.trans s10)),m3 _ oy,by lia,g4,by rw [List.length_append,List.length_reverse,List.length_drop,List.length_take]; lia,(fun n hn=>?_),fun vm xm H11 wm om zm k11 g11=>?_⟩
  ·rcases List.mem_append.mp hn with h | h
   ·exact kn n (List.mem_of_mem_drop h)
   ·exact kn n (List.mem_of_mem_take (List.mem_reverse.mp h))
  have s11:Same H9 H11:=fun b o e=>k11 b o (s10 b o e) (fun z=>by rw [List.mem_singleton.mp z,n4] at e; cases e)
  have s7b:=s79.trans s11
  clear k11 g11 g4 n4 s10 gn9
  have gnB:=s11 _ _ (s9 _ _ gn)
  refine ⟨_,rfl,_,rfl,pn,rfl,⟨_,SqL.of gnB⟩,fun pD hD C2 sx fp=>?_⟩
  refine comp_list (K:=K) (a:=pn) (xs:=nn.map V.int) (tt:=fun _ H Q=>Q true H) (fun j zs σ H'=>∃ (o:Option V) (row:List Int),σ=[o]∧Same H11 H'∧zs=row.map V.int∧row.length=j∧okNs row) (fun j zs σ H' ⟨_,_,_,g,_⟩=>SqL.of (g _ _ gnB)) ⟨none,[],rfl,Same.new hD,rfl,rfl,fun n h=>by cases h⟩ ?_ ?_
  ·rintro j u zs σ H' hj hzl ⟨o,row,rfl,s',rfl,rl,kr⟩ g'
   obtain ⟨n0,hn0,rfl⟩:=List.mem_map.mp (List.mem_of_getElem? hj)
   have h1:0≤n0 % 3:=Int.emod_nonneg _ (by decide)
   have h2:n0 % 3 < 3:=Int.emod_lt_of_pos _ (by decide)
   have hj8:j < nn.length:=by have:=(List.getElem?_eq_some_iff.mp hj).1; rw [List.length_map] at this; exact this
   refine ⟨_,rfl,_,_,rfl,rfl,(by show (0:Int) < 3; decide),_,_,rfl,rfl,?_⟩
   refine ⟨_,g',by rw [List.length_map,szl]; lia,_,by rw [List.length_append]; show _ + 1≤j + 1; rw [List.length_map]; lia,⟨_,row++[1 + n0 % 3],rfl,same_upd s' hD,by rw [List.map_append]; rfl,by rw [List.length_append]; show _ + 1=j + 1; lia,fun n hn=>?_⟩,upd_same⟩
   rcases List.mem_append.mp hn with hn | hn
   ·exact kr n hn
   ·rw [List.mem_singleton.mp hn]; lia
  ·rintro zs σ H12 ⟨o,row,rfl,s12,rfl,rl,kr⟩ g12
   rw [List.length_map] at rl
   have s312:=s4.trans (s5.trans (s6.trans (s7.trans (s7b.trans s12))))
   refine ⟨v,x,pD,row,rfl,wx.kt (KT.same s312),m3 _ ox,by lia,g12,by lia,kr,fun vq xq H13 wq oq zq k13 g13=>?_⟩
   have s13:Same H11 H13:=fun b o e=>k13 b o (s12 b o e) (fun z=>by rw [List.mem_singleton.mp z,hD] at e; cases e)
   have q13:=KT.same s13
   have q7:=KT.same (s7b.trans s13)
   have wx13:=wx.kt (KT.same (s4.trans (s5.trans (s6.trans (s7.trans (s7b.trans s13))))))
   have wy13:=wy7.kt q7
   have wz13:=wz.kt (KT.same (s6.trans (s7.trans (s7b.trans s13))))
   have wd13:=wd.kt q7
   have wm13:=wm.kt q13
   have s013:=s07.trans (s7b.trans s13)
   have hx:Small x:=⟨m3 _ ox,by lia⟩
   have hy:Small y:=⟨m3 _ oy,by lia⟩
   have hz:Small z:=⟨oz,by lia⟩
   have hd:Small xd:=⟨m3 _ od,by lia⟩
   have hm:Small xm:=⟨om,by lia⟩
   have hq:Small xq:=⟨oq,by lia⟩
   clear g13 k13 g12 s12 s312 wx wy7 wy wz wd wm s03 s04 s05 s07 s7b s13 q13 q7 sx fp hD s4 s5 s6 s7 s8 s9 s11 s79 s08 kr rl row gnB gn npn
   dsimp only [gName]
   refine seq_key (fun σ' H'=>∃ o11 o12 o13 o14:Option V,σ'=[some (.ref a),some (.ref d),some (.int (0 + (i:Int))),some v,some vt,some vs,some vd,some (.ref pn),some (.int (at_:Int)),some vm,some vq,o11,o12,o13,o14]∧Same H13 H') ?_ ?_
   case refine_2 =>
    intro X' hX
    refine ⟨_,rfl,_,rfl,_,rfl,_,rfl,_,rfl,_,rfl,(by show 6≤sizeLine; decide),fun t ht=>?_⟩
    have st:=Same.new (o:=.tup [vt,vs,vd,v,vm,vq]) ht
    have gt:(upd H13 t (.tup [vt,vs,vd,v,vm,vq])) t=some (.tup [vt,vs,vd,v,vm,vq]):=upd_same
    generalize upd H13 t (.tup [vt,vs,vd,v,vm,vq])=H14 at st gt ⊢
    have all:∀ u∈[vt,vs,vd,v,vm,vq],∃ o:Way,WayIn H14 u o∧Small o:=by
     have k14:=KT.same st
     intro u hu
     simp only [List.mem_cons,List.not_mem_nil,or_false] at hu
     rcases hu with rfl | rfl | rfl | rfl | rfl | rfl
     ·exact ⟨y,wy13.kt k14,hy⟩
     ·exact ⟨z,wz13.kt k14,hz⟩
     ·exact ⟨xd,wd13.kt k14,hd⟩
     ·exact ⟨x,wx13.kt k14,hx⟩
     ·exact ⟨xm,wm13.kt k14,hm⟩
     ·exact ⟨xq,wq.kt k14,hq⟩
    refine ⟨t,rfl,⟨_,SqT.of gt⟩,for_tup (K:=K) (a:=t) (xs:=[vt,vs,vd,v,vm,vq]) (fun j σ H'=>∃ o11 o12 o13 o14:Option V,σ=[some (.ref a),some (.ref d),some (.int (0 + (i:Int))),some v,some vt,some vs,some vd,some (.ref pn),some (.int (at_:Int)),some vm,some vq,o11,o12,o13,o14]∧Same H14 H') ⟨_,_,_,_,rfl,Same.refl _⟩ (fun j σ H' _ ⟨_,_,_,_,_,g⟩=>SqT.of (g _ _ gt)) ?_ ?_⟩
    ·rintro j u σ H15 hj ⟨o11,o12,o13,o14,rfl,s15⟩
     obtain ⟨o,wo,ho⟩:=all u (List.mem_of_getElem? hj)
     have wx15:=wx13.kt (KT.same (st.trans s15))
     have wo15:=wo.kt (KT.same s15)
     have l1:=tx_len hx
     have l2:=tx_len ho
     have ht1:=x.ht_lt
     have ht2:=o.ht_lt
     refine ⟨_,rfl,v,false,x,rfl,wx15,hx.1,by have:=hx.2; lia,by have:=hx.2; lia,fun H16 s16=>⟨_,_,rfl,rfl,(by show 6 + _≤_; lia),_,_,rfl,rfl,(by rw [cs_len_app]; show 6 + _ + 1≤_; lia),?_⟩⟩
     refine ⟨_,rfl,u,false,o,rfl,wo15.kt (KT.same s16),ho.1,by have:=ho.2; lia,by have:=ho.2; lia,fun H17 s17=>⟨_,_,rfl,rfl,(by rw [cs_len_app,cs_len_app]; show 6 + _ + 1 + _≤_; lia),?_⟩⟩
     rw [line_eq]
     have s57:=s16.trans s17
     refine ⟨(by show 2≤sizeLine; decide),fun pl hpl=>?_⟩
     have sl:=Same.new (o:=.lst [V.str "no",V.str "yes"]) hpl
     have gl:(upd H17 pl (.lst [V.str "no",V.str "yes"])) pl=some (.lst [V.str "no",V.str "yes"]):=upd_same
     generalize upd H17 pl (.lst [V.str "no",V.str "yes"])=H18 at sl gl ⊢
     have s58:=s57.trans sl
     refine ⟨_,rfl,v,x,rfl,wx15.kt (KT.same s58),hx,fun u1 H19 s19 d1=>⟨_,rfl,u,o,rfl,wo15.kt (KT.same (s58.trans s19)),ho,fun u2 H20 s20 d2=>⟨fP x,fP o,Dat.rep _ (Dat.kt (KT.same s20) _ d1),Dat.rep _ d2,fP_isF x,fP_isF o,?_,?_⟩⟩⟩
     ·have:=fP_dep hx.1; have:=hx.2; lia
     rw [if_neg (by decide),eqD_forms hx.1 ho.1]
     refine .inr ⟨_,rfl,pl,_,_,_,rfl,rfl,SqL.of (s20 _ _ (s19 _ _ gl)),at_yn _,?_⟩
     have s520:=s58.trans (s19.trans s20)
     clear s58 s57 s16 s17 s19 s20 sl gl d1 d2 hpl
     obtain ⟨dx',fs,vN,e1,e2,e3⟩:=D0.same (s013.trans (st.trans (s15.trans s520)))
     refine ⟨_,rfl,d,dx',fs,rfl,e1,e3,_,rfl,d,x,o,rfl,⟨dx',fs,vN,e1,e2,e3⟩,hx,ho,fun pt H21 s21 npt gpt=>?_⟩
     refine ⟨_,rfl,_,rfl,(by show 1≤sizeLine; decide),fun p2 hp2=>?_⟩
     have s22:=Same.new (o:=.lst [.str (if decide (kD (fP x)=kD (fP o))=true then "yes" else "no")]) hp2
     refine ⟨[D.str (yn x o)],[D.str (yn x o)],.inl ⟨⟨pt,_,rfl,SqL.of (s22 _ _ gpt),rep1 _⟩,⟨p2,_,rfl,SqL.of upd_same,rep1 _⟩⟩,by rw [dep1]; lia,?_⟩
     rw [if_pos rfl,eq1,beq_self_eq_true]
     refine ⟨_,rfl,iteF ?_⟩
     refine ⟨_,rfl,.inl ⟨rfl,_,SqL.of (s22 _ _ gpt)⟩,pt,_,_,rfl,rfl,s22 _ _ gpt,by show 1 < sizeLine; decide,?_⟩
     refine ⟨_,_,_,_,rfl,s15.trans (s520.trans (same_upd (s21.trans s22) npt))⟩
    ·rintro σ H15 ⟨o11,o12,o13,o14,rfl,s15⟩
     exact hX _ _ ⟨_,_,_,_,rfl,st.trans s15⟩
   case refine_1 =>
    rintro σ' H14 ⟨o11,o12,o13,o14,rfl,s14⟩
    have wx14:=wx13.kt (KT.same s14)
    have wy14:=wy13.kt (KT.same s14)
    have wz14:=wz13.kt (KT.same s14)
    have l1:=tx_len hx
    have l2:=tx_len hy
    have l3:=tx_len hz
    have ht1:=x.ht_lt
    have ht2:=y.ht_lt
    have ht3:=z.ht_lt
    have S14:=s013.trans s14
    obtain ⟨dx',fs,vN,e1,e2,e3⟩:=D0.same S14
    refine ⟨_,rfl,d,dx',fs,rfl,e1,e3,?_⟩
    refine ⟨_,rfl,v,false,x,rfl,wx14,hx.1,by lia,by lia,fun H16 s16=>⟨_,_,rfl,rfl,(by show 6 + _≤_; lia),_,_,rfl,rfl,(by rw [cs_len_app]; show 6 + _ + 1≤_; lia),?_⟩⟩
    refine ⟨_,rfl,vt,false,y,rfl,wy14.kt (KT.same s16),hy.1,by lia,by lia,fun H17 s17=>⟨_,_,rfl,rfl,(by rw [cs_len_app,cs_len_app]; show 6 + _ + 1 + _≤_; lia),?_⟩⟩
    rw [line_eq]
    have s57:=s16.trans s17
    refine ⟨d,x,y,rfl,D0.same (S14.trans s57),hx,hy,fun pt H21 s21 npt gpt=>⟨(by show 1≤sizeLine; decide),fun p2 hp2=>?_⟩⟩
    rw [yn_yes fy] at gpt
    have s22:=Same.new (o:=.lst [.str "yes"]) hp2
    refine ⟨[D.str "yes"],[D.str "yes"],.inl ⟨⟨pt,_,rfl,SqL.of (s22 _ _ gpt),rep1 _⟩,⟨p2,_,rfl,SqL.of upd_same,rep1 _⟩⟩,by rw [dep1]; lia,?_⟩
    rw [if_pos rfl,eq1,beq_self_eq_true]
    refine ⟨_,rfl,iteF ?_⟩
    have s422:=s57.trans (s21.trans s22)
    clear s57 s16 s17 s21 gpt npt e1 e2 e3
    generalize upd H21 p2 (.lst [.str "yes"])=H22 at s422 ⊢
    obtain ⟨dx',fs,vN,e1,e2,e3⟩:=D0.same (S14.trans s422)
    refine ⟨_,rfl,d,dx',fs,rfl,e1,e3,?_⟩
    refine ⟨_,rfl,vt,false,y,rfl,wy14.kt (KT.same s422),hy.1,by lia,by lia,fun H16 s16=>⟨_,_,rfl,rfl,(by show 6 + _≤_; lia),_,_,rfl,rfl,(by rw [cs_len_app]; show 6 + _ + 1≤_; lia),?_⟩⟩
    refine ⟨_,rfl,vs,false,z,rfl,wz14.kt (KT.same (s422.trans s16)),hz.1,by lia,by lia,fun H17 s17=>⟨_,_,rfl,rfl,(by rw [cs_len_app,cs_len_app]; show 6 + _ + 1 + _≤_; lia),?_⟩⟩
    rw [line_eq]
    have s57:=s422.trans (s16.trans s17)
    refine ⟨d,y,z,rfl,D0.same (S14.trans s57),hy,hz,fun pt H21 s21 npt gpt=>⟨(by show 1≤sizeLine; decide),fun p2 hp2=>?_⟩⟩
    rw [yn_no hy.1 hz.1 nz] at gpt
    have s22:=Same.new (o:=.lst [.str "no"]) hp2
    refine ⟨[D.str "no"],[D.str "no"],.inl ⟨⟨pt,_,rfl,SqL.of (s22 _ _ gpt),rep1 _⟩,⟨p2,_,rfl,SqL.of upd_same,rep1 _⟩⟩,by rw [dep1]; lia,?_⟩
    rw [if_pos rfl,eq1,beq_self_eq_true]
    refine ⟨_,rfl,iteF ?_⟩
    exact ⟨_,_,_,_,_,_,_,_,_,_,_,_,_,rfl,S14.trans (s57.trans (s21.trans s22))⟩
 ·rintro σ H' ⟨z2,z3,z4,z5,z6,z7,z8,z9,z10,z11,z12,z13,z14,rfl,s'⟩
  exact q _
end
end Law
namespace Law
open PySem L2
theorem all_mk {l:PySem.W.OpenLaw} {w:World} {K:PySem.W.Frag} {h:Heap} {mg:Str→Option Value} {fa:Addr} (X:K.In h) (G:h.Ns mainGlobals mg) (hfa:mg "law"=some (.ref fa))
  {f_steps_of:Addr} {od_steps_of an_steps_of:Option Addr} {sl_steps_of:Array (Option Value)} {oc_steps_of kV_steps_of dc_steps_of pm_steps_of cd_steps_of ct_steps_of:Value}
  {f_come_of:Addr} {od_come_of an_come_of:Option Addr} {sl_come_of:Array (Option Value)} {oc_come_of kV_come_of dc_come_of pm_come_of cd_come_of ct_come_of:Value}
  {f_number_itself:Addr} {od_number_itself an_number_itself:Option Addr} {sl_number_itself:Array (Option Value)} {oc_number_itself kV_number_itself dc_number_itself pm_number_itself cd_number_itself ct_number_itself:Value}
  {f_form_of:Addr} {od_form_of an_form_of:Option Addr} {sl_form_of:Array (Option Value)} {oc_form_of kV_form_of dc_form_of pm_form_of cd_form_of ct_form_of:Value}
  {f_joined:Addr} {od_joined an_joined:Option Addr} {sl_joined:Array (Option Value)} {oc_joined kV_joined dc_joined pm_joined cd_joined ct_joined:Value}
  {f_parts_for:Addr} {od_parts_for an_parts_for:Option Addr} {sl_parts_for:Array (Option Value)} {oc_parts_for kV_parts_for dc_parts_for pm_parts_for cd_parts_for ct_parts_for:Value}
  {f_is_of:Addr} {od_is_of an_is_of:Option Addr} {sl_is_of:Array (Option Value)} {oc_is_of kV_is_of dc_is_of pm_is_of cd_is_of ct_is_of:Value}
  {f_in_order:Addr} {od_in_order an_in_order:Option Addr} {sl_in_order:Array (Option Value)} {oc_in_order kV_in_order dc_in_order pm_in_order cd_in_order ct_in_order:Value}
  {f_order_of:Addr} {od_order_of an_order_of:Option Addr} {sl_order_of:Array (Option Value)} {oc_order_of kV_order_of dc_order_of pm_order_of cd_order_of ct_order_of:Value}
  {f_are_twins:Addr} {od_are_twins an_are_twins:Option Addr} {sl_are_twins:Array (Option Value)} {oc_are_twins kV_are_twins dc_are_twins pm_are_twins cd_are_twins ct_are_twins:Value}
  {f_number_of:Addr} {od_number_of an_number_of:Option Addr} {sl_number_of:Array (Option Value)} {oc_number_of kV_number_of dc_number_of pm_number_of cd_number_of ct_number_of:Value}
  {f_read_way:Addr} {od_read_way an_read_way:Option Addr} {sl_read_way:Array (Option Value)} {oc_read_way kV_read_way dc_read_way pm_read_way cd_read_way ct_read_way:Value}
  {f_is_figures:Addr} {od_is_figures an_is_figures:Option Addr} {sl_is_figures:Array (Option Value)} {oc_is_figures kV_is_figures dc_is_figures pm_is_figures cd_is_figures ct_is_figures:Value}
  {f_figures_end:Addr} {od_figures_end an_figures_end:Option Addr} {sl_figures_end:Array (Option Value)} {oc_figures_end kV_figures_end dc_figures_end pm_figures_end cd_figures_end ct_figures_end:Value}
  {f_pieces_of:Addr} {od_pieces_of an_pieces_of:Option Addr} {sl_pieces_of:Array (Option Value)} {oc_pieces_of kV_pieces_of dc_pieces_of pm_pieces_of cd_pieces_of ct_pieces_of:Value}
  {f_piece_at:Addr} {od_piece_at an_piece_at:Option Addr} {sl_piece_at:Array (Option Value)} {oc_piece_at kV_piece_at dc_piece_at pm_piece_at cd_piece_at ct_piece_at:Value}
  {f_way_closed:Addr} {od_way_closed an_way_closed:Option Addr} {sl_way_closed:Array (Option Value)} {oc_way_closed kV_way_closed dc_way_closed pm_way_closed cd_way_closed ct_way_closed:Value}
  {f_is_word:Addr} {od_is_word an_is_word:Option Addr} {sl_is_word:Array (Option Value)} {oc_is_word kV_is_word dc_is_word pm_is_word cd_is_word ct_is_word:Value}
  {f_is_way:Addr} {od_is_way an_is_way:Option Addr} {sl_is_way:Array (Option Value)} {oc_is_way kV_is_way dc_is_way pm_is_way cd_is_way ct_is_way:Value}
  {f_twins_rows:Addr} {od_twins_rows an_twins_rows:Option Addr} {sl_twins_rows:Array (Option Value)} {oc_twins_rows kV_twins_rows dc_twins_rows pm_twins_rows cd_twins_rows ct_twins_rows:Value}
  {f_yes_or_no:Addr} {od_yes_or_no an_yes_or_no:Option Addr} {sl_yes_or_no:Array (Option Value)} {oc_yes_or_no kV_yes_or_no dc_yes_or_no pm_yes_or_no cd_yes_or_no ct_yes_or_no:Value}
  {f_law_draw:Addr} {od_law_draw an_law_draw:Option Addr} {sl_law_draw:Array (Option Value)} {oc_law_draw kV_law_draw dc_law_draw pm_law_draw cd_law_draw ct_law_draw:Value}
  {f_law_way:Addr} {od_law_way an_law_way:Option Addr} {sl_law_way:Array (Option Value)} {oc_law_way kV_law_way dc_law_way pm_law_way cd_law_way ct_law_way:Value}
  {f_law_text:Addr} {od_law_text an_law_text:Option Addr} {sl_law_text:Array (Option Value)} {oc_law_text kV_law_text dc_law_text pm_law_text cd_law_text ct_law_text:Value}
  {f_law_numbers:Addr} {od_law_numbers an_law_numbers:Option Addr} {sl_law_numbers:Array (Option Value)} {oc_law_numbers kV_law_numbers dc_law_numbers pm_law_numbers cd_law_numbers ct_law_numbers:Value}
  {f_law_turned:Addr} {od_law_turned an_law_turned:Option Addr} {sl_law_turned:Array (Option Value)} {oc_law_turned kV_law_turned dc_law_turned pm_law_turned cd_law_turned ct_law_turned:Value}
  {f_law_other:Addr} {od_law_other an_law_other:Option Addr} {sl_law_other:Array (Option Value)} {oc_law_other kV_law_other dc_law_other pm_law_other cd_law_other ct_law_other:Value}
  {f_law_filled:Addr} {od_law_filled an_law_filled:Option Addr} {sl_law_filled:Array (Option Value)} {oc_law_filled kV_law_filled dc_law_filled pm_law_filled cd_law_filled ct_law_filled:Value}
  {f_law:Addr} {od_law an_law:Option Addr} {sl_law:Array (Option Value)} {oc_law kV_law dc_law pm_law cd_law ct_law:Value}
  {d_KINDS:Addr} {es_KINDS:Array DictEntry} {n_KINDS:Nat}
  {d_RANKS:Addr} {es_RANKS:Array DictEntry} {n_RANKS:Nat}
  {d_SIGNS:Addr} {es_SIGNS:Array DictEntry} {n_SIGNS:Nat}
  {d_WITH_TEXT:Addr} {es_WITH_TEXT:Array DictEntry} {n_WITH_TEXT:Nat}
  {t_k1 t_k2 t_k3 t_k4 t_r1 t_r2:Tok}
  {t_T:Addr} {tt1 tt2:Tok} {ns_T:Nat} {od_T:Option Addr} {sl_T:Array (Option Value)}
  {t_plus t_less t_times t_share tF:Tok}
  {C_Desk:Addr}
  {f_dinit:Addr} {od_dinit an_dinit:Option Addr} {sl_dinit:Array (Option Value)} {oc_dinit kV_dinit dc_dinit pm_dinit cd_dinit ct_dinit:Value}
  {f_dask:Addr} {od_dask an_dask:Option Addr} {sl_dask:Array (Option Value)} {oc_dask kV_dask dc_dask pm_dask cd_dask ct_dask:Value}
  (a_steps_of:PySem.W.nsIn K mainGlobals "steps_of"=some (some (.ref f_steps_of))) (l_steps_of:K.lookup f_steps_of=some ⟨oc_steps_of,od_steps_of,.func (PySem.W.fnOf "steps_of" "steps_of" (defArgs s_steps_of) (defBody s_steps_of) (defScope s_steps_of) .none kV_steps_of dc_steps_of pm_steps_of an_steps_of cd_steps_of ct_steps_of),sl_steps_of⟩) (c_steps_of:PySem.W.codeIn K cd_steps_of "steps_of"=true) (k_steps_of:PySem.W.keepIn K (.ref f_steps_of)=true)
  (a_come_of:PySem.W.nsIn K mainGlobals "come_of"=some (some (.ref f_come_of))) (l_come_of:K.lookup f_come_of=some ⟨oc_come_of,od_come_of,.func (PySem.W.fnOf "come_of" "come_of" (defArgs s_come_of) (defBody s_come_of) (defScope s_come_of) .none kV_come_of dc_come_of pm_come_of an_come_of cd_come_of ct_come_of),sl_come_of⟩) (c_come_of:PySem.W.codeIn K cd_come_of "come_of"=true) (k_come_of:PySem.W.keepIn K (.ref f_come_of)=true)
  (a_number_itself:PySem.W.nsIn K mainGlobals "number_itself"=some (some (.ref f_number_itself))) (l_number_itself:K.lookup f_number_itself=some ⟨oc_number_itself,od_number_itself,.func (PySem.W.fnOf "number_itself" "number_itself" (defArgs s_number_itself) (defBody s_number_itself) (defScope s_number_itself) .none kV_number_itself dc_number_itself pm_number_itself an_number_itself cd_number_itself ct_number_itself),sl_number_itself⟩) (c_number_itself:PySem.W.codeIn K cd_number_itself "number_itself"=true) (k_number_itself:PySem.W.keepIn K (.ref f_number_itself)=true)
  (a_form_of:PySem.W.nsIn K mainGlobals "form_of"=some (some (.ref f_form_of))) (l_form_of:K.lookup f_form_of=some ⟨oc_form_of,od_form_of,.func (PySem.W.fnOf "form_of" "form_of" (defArgs s_form_of) (defBody s_form_of) (defScope s_form_of) .none kV_form_of dc_form_of pm_form_of an_form_of cd_form_of ct_form_of),sl_form_of⟩) (c_form_of:PySem.W.codeIn K cd_form_of "form_of"=true) (k_form_of:PySem.W.keepIn K (.ref f_form_of)=true)
  (a_joined:PySem.W.nsIn K mainGlobals "joined"=some (some (.ref f_joined))) (l_joined:K.lookup f_joined=some ⟨oc_joined,od_joined,.func (PySem.W.fnOf "joined" "joined" (defArgs s_joined) (defBody s_joined) (defScope s_joined) .none kV_joined dc_joined pm_joined an_joined cd_joined ct_joined),sl_joined⟩) (c_joined:PySem.W.codeIn K cd_joined "joined"=true) (k_joined:PySem.W.keepIn K (.ref f_joined)=true)
  (a_parts_for:PySem.W.nsIn K mainGlobals "parts_for"=some (some (.ref f_parts_for))) (l_parts_for:K.lookup f_parts_for=some ⟨oc_parts_for,od_parts_for,.func (PySem.W.fnOf "parts_for" "parts_for" (defArgs s_parts_for) (defBody s_parts_for) (defScope s_parts_for) .none kV_parts_for dc_parts_for pm_parts_for an_parts_for cd_parts_for ct_parts_for),sl_parts_for⟩) (c_parts_for:PySem.W.codeIn K cd_parts_for "parts_for"=true) (k_parts_for:PySem.W.keepIn K (.ref f_parts_for)=true)
  (a_is_of:PySem.W.nsIn K mainGlobals "is_of"=some (some (.ref f_is_of))) (l_is_of:K.lookup f_is_of=some ⟨oc_is_of,od_is_of,.func (PySem.W.fnOf "is_of" "is_of" (defArgs s_is_of) (defBody s_is_of) (defScope s_is_of) .none kV_is_of dc_is_of pm_is_of an_is_of cd_is_of ct_is_of),sl_is_of⟩) (c_is_of:PySem.W.codeIn K cd_is_of "is_of"=true) (k_is_of:PySem.W.keepIn K (.ref f_is_of)=true)
  (a_in_order:PySem.W.nsIn K mainGlobals "in_order"=some (some (.ref f_in_order))) (l_in_order:K.lookup f_in_order=some ⟨oc_in_order,od_in_order,.func (PySem.W.fnOf "in_order" "in_order" (defArgs s_in_order) (defBody s_in_order) (defScope s_in_order) .none kV_in_order dc_in_order pm_in_order an_in_order cd_in_order ct_in_order),sl_in_order⟩) (c_in_order:PySem.W.codeIn K cd_in_order "in_order"=true) (k_in_order:PySem.W.keepIn K (.ref f_in_order)=true)
  (a_order_of:PySem.W.nsIn K mainGlobals "order_of"=some (some (.ref f_order_of))) (l_order_of:K.lookup f_order_of=some ⟨oc_order_of,od_order_of,.func (PySem.W.fnOf "order_of" "order_of" (defArgs s_order_of) (defBody s_order_of) (defScope s_order_of) .none kV_order_of dc_order_of pm_order_of an_order_of cd_order_of ct_order_of),sl_order_of⟩) (c_order_of:PySem.W.codeIn K cd_order_of "order_of"=true) (k_order_of:PySem.W.keepIn K (.ref f_order_of)=true)
  (a_are_twins:PySem.W.nsIn K mainGlobals "are_twins"=some (some (.ref f_are_twins))) (l_are_twins:K.lookup f_are_twins=some ⟨oc_are_twins,od_are_twins,.func (PySem.W.fnOf "are_twins" "are_twins" (defArgs s_are_twins) (defBody s_are_twins) (defScope s_are_twins) .none kV_are_twins dc_are_twins pm_are_twins an_are_twins cd_are_twins ct_are_twins),sl_are_twins⟩) (c_are_twins:PySem.W.codeIn K cd_are_twins "are_twins"=true) (k_are_twins:PySem.W.keepIn K (.ref f_are_twins)=true)
  (a_number_of:PySem.W.nsIn K mainGlobals "number_of"=some (some (.ref f_number_of))) (l_number_of:K.lookup f_number_of=some ⟨oc_number_of,od_number_of,.func (PySem.W.fnOf "number_of" "number_of" (defArgs s_number_of) (defBody s_number_of) (defScope s_number_of) .none kV_number_of dc_number_of pm_number_of an_number_of cd_number_of ct_number_of),sl_number_of⟩) (c_number_of:PySem.W.codeIn K cd_number_of "number_of"=true) (k_number_of:PySem.W.keepIn K (.ref f_number_of)=true)
  (a_read_way:PySem.W.nsIn K mainGlobals "read_way"=some (some (.ref f_read_way))) (l_read_way:K.lookup f_read_way=some ⟨oc_read_way,od_read_way,.func (PySem.W.fnOf "read_way" "read_way" (defArgs s_read_way) (defBody s_read_way) (defScope s_read_way) .none kV_read_way dc_read_way pm_read_way an_read_way cd_read_way ct_read_way),sl_read_way⟩) (c_read_way:PySem.W.codeIn K cd_read_way "read_way"=true) (k_read_way:PySem.W.keepIn K (.ref f_read_way)=true)
  (a_is_figures:PySem.W.nsIn K mainGlobals "is_figures"=some (some (.ref f_is_figures))) (l_is_figures:K.lookup f_is_figures=some ⟨oc_is_figures,od_is_figures,.func (PySem.W.fnOf "is_figures" "is_figures" (defArgs s_is_figures) (defBody s_is_figures) (defScope s_is_figures) .none kV_is_figures dc_is_figures pm_is_figures an_is_figures cd_is_figures ct_is_figures),sl_is_figures⟩) (c_is_figures:PySem.W.codeIn K cd_is_figures "is_figures"=true) (k_is_figures:PySem.W.keepIn K (.ref f_is_figures)=true)
  (a_figures_end:PySem.W.nsIn K mainGlobals "figures_end"=some (some (.ref f_figures_end))) (l_figures_end:K.lookup f_figures_end=some ⟨oc_figures_end,od_figures_end,.func (PySem.W.fnOf "figures_end" "figures_end" (defArgs s_figures_end) (defBody s_figures_end) (defScope s_figures_end) .none kV_figures_end dc_figures_end pm_figures_end an_figures_end cd_figures_end ct_figures_end),sl_figures_end⟩) (c_figures_end:PySem.W.codeIn K cd_figures_end "figures_end"=true) (k_figures_end:PySem.W.keepIn K (.ref f_figures_end)=true)
  (a_pieces_of:PySem.W.nsIn K mainGlobals "pieces_of"=some (some (.ref f_pieces_of))) (l_pieces_of:K.lookup f_pieces_of=some ⟨oc_pieces_of,od_pieces_of,.func (PySem.W.fnOf "pieces_of" "pieces_of" (defArgs s_pieces_of) (defBody s_pieces_of) (defScope s_pieces_of) .none kV_pieces_of dc_pieces_of pm_pieces_of an_pieces_of cd_pieces_of ct_pieces_of),sl_pieces_of⟩) (c_pieces_of:PySem.W.codeIn K cd_pieces_of "pieces_of"=true) (k_pieces_of:PySem.W.keepIn K (.ref f_pieces_of)=true)
  (a_piece_at:PySem.W.nsIn K mainGlobals "piece_at"=some (some (.ref f_piece_at))) (l_piece_at:K.lookup f_piece_at=some ⟨oc_piece_at,od_piece_at,.func (PySem.W.fnOf "piece_at" "piece_at" (defArgs s_piece_at) (defBody s_piece_at) (defScope s_piece_at) .none kV_piece_at dc_piece_at pm_piece_at an_piece_at cd_piece_at ct_piece_at),sl_piece_at⟩) (c_piece_at:PySem.W.codeIn K cd_piece_at "piece_at"=true) (k_piece_at:PySem.W.keepIn K (.ref f_piece_at)=true)
  (a_way_closed:PySem.W.nsIn K mainGlobals "way_closed"=some (some (.ref f_way_closed))) (l_way_closed:K.lookup f_way_closed=some ⟨oc_way_closed,od_way_closed,.func (PySem.W.fnOf "way_closed" "way_closed" (defArgs s_way_closed) (defBody s_way_closed) (defScope s_way_closed) .none kV_way_closed dc_way_closed pm_way_closed an_way_closed cd_way_closed ct_way_closed),sl_way_closed⟩) (c_way_closed:PySem.W.codeIn K cd_way_closed "way_closed"=true) (k_way_closed:PySem.W.keepIn K (.ref f_way_closed)=true)
  (a_is_word:PySem.W.nsIn K mainGlobals "is_word"=some (some (.ref f_is_word))) (l_is_word:K.lookup f_is_word=some ⟨oc_is_word,od_is_word,.func (PySem.W.fnOf "is_word" "is_word" (defArgs s_is_word) (defBody s_is_word) (defScope s_is_word) .none kV_is_word dc_is_word pm_is_word an_is_word cd_is_word ct_is_word),sl_is_word⟩) (c_is_word:PySem.W.codeIn K cd_is_word "is_word"=true) (k_is_word:PySem.W.keepIn K (.ref f_is_word)=true)
  (a_is_way:PySem.W.nsIn K mainGlobals "is_way"=some (some (.ref f_is_way))) (l_is_way:K.lookup f_is_way=some ⟨oc_is_way,od_is_way,.func (PySem.W.fnOf "is_way" "is_way" (defArgs s_is_way) (defBody s_is_way) (defScope s_is_way) .none kV_is_way dc_is_way pm_is_way an_is_way cd_is_way ct_is_way),sl_is_way⟩) (c_is_way:PySem.W.codeIn K cd_is_way "is_way"=true) (k_is_way:PySem.W.keepIn K (.ref f_is_way)=true)
  (a_twins_rows:PySem.W.nsIn K mainGlobals "twins_rows"=some (some (.ref f_twins_rows))) (l_twins_rows:K.lookup f_twins_rows=some ⟨oc_twins_rows,od_twins_rows,.func (PySem.W.fnOf "twins_rows" "twins_rows" (defArgs s_twins_rows) (defBody s_twins_rows) (defScope s_twins_rows) .none kV_twins_rows dc_twins_rows pm_twins_rows an_twins_rows cd_twins_rows ct_twins_rows),sl_twins_rows⟩) (c_twins_rows:PySem.W.codeIn K cd_twins_rows "twins_rows"=true) (k_twins_rows:PySem.W.keepIn K (.ref f_twins_rows)=true)
  (a_yes_or_no:PySem.W.nsIn K mainGlobals "yes_or_no"=some (some (.ref f_yes_or_no))) (l_yes_or_no:K.lookup f_yes_or_no=some ⟨oc_yes_or_no,od_yes_or_no,.func (PySem.W.fnOf "yes_or_no" "yes_or_no" (defArgs s_yes_or_no) (defBody s_yes_or_no) (defScope s_yes_or_no) .none kV_yes_or_no dc_yes_or_no pm_yes_or_no an_yes_or_no cd_yes_or_no ct_yes_or_no),sl_yes_or_no⟩) (c_yes_or_no:PySem.W.codeIn K cd_yes_or_no "yes_or_no"=true) (k_yes_or_no:PySem.W.keepIn K (.ref f_yes_or_no)=true)
  (a_law_draw:PySem.W.nsIn K mainGlobals "_law_draw"=some (some (.ref f_law_draw))) (l_law_draw:K.lookup f_law_draw=some ⟨oc_law_draw,od_law_draw,.func (PySem.W.fnOf "_law_draw" "_law_draw" (defArgs s_law_draw) (defBody s_law_draw) (defScope s_law_draw) .none kV_law_draw dc_law_draw pm_law_draw an_law_draw cd_law_draw ct_law_draw),sl_law_draw⟩) (c_law_draw:PySem.W.codeIn K cd_law_draw "_law_draw"=true) (k_law_draw:PySem.W.keepIn K (.ref f_law_draw)=true)
  (a_law_way:PySem.W.nsIn K mainGlobals "_law_way"=some (some (.ref f_law_way))) (l_law_way:K.lookup f_law_way=some ⟨oc_law_way,od_law_way,.func (PySem.W.fnOf "_law_way" "_law_way" (defArgs s_law_way) (defBody s_law_way) (defScope s_law_way) .none kV_law_way dc_law_way pm_law_way an_law_way cd_law_way ct_law_way),sl_law_way⟩) (c_law_way:PySem.W.codeIn K cd_law_way "_law_way"=true) (k_law_way:PySem.W.keepIn K (.ref f_law_way)=true)
  (a_law_text:PySem.W.nsIn K mainGlobals "_law_text"=some (some (.ref f_law_text))) (l_law_text:K.lookup f_law_text=some ⟨oc_law_text,od_law_text,.func (PySem.W.fnOf "_law_text" "_law_text" (defArgs s_law_text) (defBody s_law_text) (defScope s_law_text) .none kV_law_text dc_law_text pm_law_text an_law_text cd_law_text ct_law_text),sl_law_text⟩) (c_law_text:PySem.W.codeIn K cd_law_text "_law_text"=true) (k_law_text:PySem.W.keepIn K (.ref f_law_text)=true)
  (a_law_numbers:PySem.W.nsIn K mainGlobals "_law_numbers"=some (some (.ref f_law_numbers))) (l_law_numbers:K.lookup f_law_numbers=some ⟨oc_law_numbers,od_law_numbers,.func (PySem.W.fnOf "_law_numbers" "_law_numbers" (defArgs s_law_numbers) (defBody s_law_numbers) (defScope s_law_numbers) .none kV_law_numbers dc_law_numbers pm_law_numbers an_law_numbers cd_law_numbers ct_law_numbers),sl_law_numbers⟩) (c_law_numbers:PySem.W.codeIn K cd_law_numbers "_law_numbers"=true) (k_law_numbers:PySem.W.keepIn K (.ref f_law_numbers)=true)
  (a_law_turned:PySem.W.nsIn K mainGlobals "_law_turned"=some (some (.ref f_law_turned))) (l_law_turned:K.lookup f_law_turned=some ⟨oc_law_turned,od_law_turned,.func (PySem.W.fnOf "_law_turned" "_law_turned" (defArgs s_law_turned) (defBody s_law_turned) (defScope s_law_turned) .none kV_law_turned dc_law_turned pm_law_turned an_law_turned cd_law_turned ct_law_turned),sl_law_turned⟩) (c_law_turned:PySem.W.codeIn K cd_law_turned "_law_turned"=true) (k_law_turned:PySem.W.keepIn K (.ref f_law_turned)=true)
  (a_law_other:PySem.W.nsIn K mainGlobals "_law_other"=some (some (.ref f_law_other))) (l_law_other:K.lookup f_law_other=some ⟨oc_law_other,od_law_other,.func (PySem.W.fnOf "_law_other" "_law_other" (defArgs s_law_other) (defBody s_law_other) (defScope s_law_other) .none kV_law_other dc_law_other pm_law_other an_law_other cd_law_other ct_law_other),sl_law_other⟩) (c_law_other:PySem.W.codeIn K cd_law_other "_law_other"=true) (k_law_other:PySem.W.keepIn K (.ref f_law_other)=true)
  (a_law_filled:PySem.W.nsIn K mainGlobals "_law_filled"=some (some (.ref f_law_filled))) (l_law_filled:K.lookup f_law_filled=some ⟨oc_law_filled,od_law_filled,.func (PySem.W.fnOf "_law_filled" "_law_filled" (defArgs s_law_filled) (defBody s_law_filled) (defScope s_law_filled) .none kV_law_filled dc_law_filled pm_law_filled an_law_filled cd_law_filled ct_law_filled),sl_law_filled⟩) (c_law_filled:PySem.W.codeIn K cd_law_filled "_law_filled"=true) (k_law_filled:PySem.W.keepIn K (.ref f_law_filled)=true)
  (a_law:PySem.W.nsIn K mainGlobals "law"=some (some (.ref f_law))) (l_law:K.lookup f_law=some ⟨oc_law,od_law,.func (PySem.W.fnOf "law" "law" (defArgs s_law) (defBody s_law) (defScope s_law) .none kV_law dc_law pm_law an_law cd_law ct_law),sl_law⟩) (c_law:PySem.W.codeIn K cd_law "law"=true) (k_law:PySem.W.keepIn K (.ref f_law)=true)
  (a_KINDS:PySem.W.nsIn K mainGlobals "KINDS"=some (some (.ref d_KINDS))) (l_KINDS:K.lookup d_KINDS=some ⟨.type "dict",none,.dict es_KINDS n_KINDS,#[]⟩) (k_KINDS:PySem.W.KeysLit w.params es_KINDS.toList)
  (e_KINDS_plus:PySem.W.nsIn K d_KINDS "plus"=some (some (.str "sum" t_k1)))
  (e_KINDS_less:PySem.W.nsIn K d_KINDS "less"=some (some (.str "sum" t_k2)))
  (e_KINDS_times:PySem.W.nsIn K d_KINDS "times"=some (some (.str "product" t_k3)))
  (e_KINDS_share:PySem.W.nsIn K d_KINDS "share"=some (some (.str "product" t_k4)))
  (a_RANKS:PySem.W.nsIn K mainGlobals "RANKS"=some (some (.ref d_RANKS))) (l_RANKS:K.lookup d_RANKS=some ⟨.type "dict",none,.dict es_RANKS n_RANKS,#[]⟩) (k_RANKS:PySem.W.KeysLit w.params es_RANKS.toList)
  (e_RANKS_sum:PySem.W.nsIn K d_RANKS "sum"=some (some (.int 2 t_r1)))
  (e_RANKS_product:PySem.W.nsIn K d_RANKS "product"=some (some (.int 3 t_r2)))
  (a_SIGNS:PySem.W.nsIn K mainGlobals "SIGNS"=some (some (.ref d_SIGNS))) (l_SIGNS:K.lookup d_SIGNS=some ⟨.type "dict",none,.dict es_SIGNS n_SIGNS,#[]⟩) (k_SIGNS:PySem.W.KeysLit w.params es_SIGNS.toList)
  (e_SIGNS_plus:PySem.W.nsIn K d_SIGNS "plus"=some (some (.str " + " t_plus)))
  (e_SIGNS_less:PySem.W.nsIn K d_SIGNS "less"=some (some (.str " - " t_less)))
  (e_SIGNS_times:PySem.W.nsIn K d_SIGNS "times"=some (some (.str " * " t_times)))
  (e_SIGNS_share:PySem.W.nsIn K d_SIGNS "share"=some (some (.str " / " t_share)))
  (a_WITH_TEXT:PySem.W.nsIn K mainGlobals "WITH_TEXT"=some (some (.ref d_WITH_TEXT))) (l_WITH_TEXT:K.lookup d_WITH_TEXT=some ⟨.type "dict",none,.dict es_WITH_TEXT n_WITH_TEXT,#[]⟩) (k_WITH_TEXT:PySem.W.KeysLit w.params es_WITH_TEXT.toList)
  (e_WITH_TEXT_twins:PySem.W.nsIn K d_WITH_TEXT "twins"=some (some (.ref f_twins_rows)))
  (z_max:PySem.W.nsIn K mainGlobals "max"=some none)
  (z_min:PySem.W.nsIn K mainGlobals "min"=some none)
  (z_sorted:PySem.W.nsIn K mainGlobals "sorted"=some none)
  (a_TURNED:PySem.W.nsIn K mainGlobals "TURNED"=some (some (.ref t_T)))
  (l_TURNED:K.lookup t_T=some ⟨.type "tuple",od_T,.seq #[.str "less" tt1,.str "share" tt2] ns_T,sl_T⟩)
  (p_SIGNS:Paired (fun (kv:Str×V) (e:DictEntry)=>(∃ t,e.key=.str kv.1 t)∧RelV kv.2 e.val) kvS es_SIGNS.toList)
  (y_SIGNS:(d_SIGNS == sysModules)=false)
  (a_FIGURES:PySem.W.nsIn K mainGlobals "FIGURES"=some (some (.str "0123456789" tF)))
  (z_list:PySem.W.nsIn K mainGlobals "list"=some none)
  (y_WITH:(d_WITH_TEXT == sysModules)=false)
  (a_Desk:PySem.W.nsIn K mainGlobals "Desk"=some (some (.ref C_Desk)))
  (pg_Desk:PySem.W.plainGet K C_Desk Str.empty=true)
  (hd_Desk:PySem.W.hasDictIn K C_Desk=true)
  (po_Desk:PySem.W.plainOver K C_Desk=true)
  (sa_Desk:PySem.W.findIn K (.ref C_Desk) "__setattr__"=some (some (.builtin "object.__setattr__")))
  (mk_Desk:PySem.W.makesIn K C_Desk=true)
  (kc_Desk:PySem.W.keepIn K (.ref C_Desk)=true)
  (n1_Desk:PySem.W.findIn K (.ref C_Desk) "numbers"=some none)
  (n2_Desk:PySem.W.findIn K (.ref C_Desk) "wish"=some none)
  (i_dinit:PySem.W.findIn K (.ref C_Desk) "__init__"=some (some (.ref f_dinit)))
  (y_dinit:PySem.W.isFn K (.ref f_dinit)=true)
  (l_dinit:K.lookup f_dinit=some ⟨oc_dinit,od_dinit,.func (PySem.W.fnOf "__init__" "Desk.__init__" (defArgs s_Desk___init) (defBody s_Desk___init) (defScope s_Desk___init) .none kV_dinit dc_dinit pm_dinit an_dinit cd_dinit ct_dinit),sl_dinit⟩)
  (c_dinit:PySem.W.codeIn K cd_dinit "Desk.__init__"=true)
  (k_dinit:PySem.W.keepIn K (.ref f_dinit)=true)
  (i_dask:PySem.W.findIn K (.ref C_Desk) "ask"=some (some (.ref f_dask)))
  (y_dask:PySem.W.isFn K (.ref f_dask)=true)
  (l_dask:K.lookup f_dask=some ⟨oc_dask,od_dask,.func (PySem.W.fnOf "ask" "Desk.ask" (defArgs s_Desk_ask) (defBody s_Desk_ask) (defScope s_Desk_ask) .none kV_dask dc_dask pm_dask an_dask cd_dask ct_dask),sl_dask⟩)
  (c_dask:PySem.W.codeIn K cd_dask "Desk.ask"=true)
  (k_dask:PySem.W.keepIn K (.ref f_dask)=true)
  (z_len:PySem.W.nsIn K mainGlobals "len"=some none)
  (z_sum:PySem.W.nsIn K mainGlobals "sum"=some none)
  (z_range:PySem.W.nsIn K mainGlobals "range"=some none)
  (z_isinstance:PySem.W.nsIn K mainGlobals "isinstance"=some none)
  (z_int:PySem.W.nsIn K mainGlobals "int"=some none)
  (z_str:PySem.W.nsIn K mainGlobals "str"=some none)
  (z_bool:PySem.W.nsIn K mainGlobals "bool"=some none)
  (z_tuple:PySem.W.nsIn K mainGlobals "tuple"=some none)
  (z_zip:PySem.W.nsIn K mainGlobals "zip"=some none) :
  ∃ fd:FuncData,(∀ (s:Shared) (v:Value),BindsTo s fd ⟨[v],[]⟩ [("script",v)])∧∀ base:Heap,K.In base→base.Ns mainGlobals mg→FnOk l.prog w K mg base CX0 30 fa fd ["script"] (spLaw K):=by
 have e:=hfa.symm.trans (PySem.W.mg_of X G a_law)
 cases e
 have F_steps_of:=fun_mk (st:=s_steps_of) l_steps_of c_steps_of k_steps_of
 have b_steps_of:=F_steps_of.binds (ps:=["way"]) fun _ _ _ _ _ _ us hl=>match us,hl with | [_],_=>rfl
 have m_steps_of:=PySem.W.mg_of X G a_steps_of
 have F_come_of:=fun_mk (st:=s_come_of) l_come_of c_come_of k_come_of
 have b_come_of:=F_come_of.binds (ps:=["steps","of_number","of_word"]) fun _ _ _ _ _ _ us hl=>match us,hl with | [_,_,_],_=>rfl
 have m_come_of:=PySem.W.mg_of X G a_come_of
 have F_number_itself:=fun_mk (st:=s_number_itself) l_number_itself c_number_itself k_number_itself
 have b_number_itself:=F_number_itself.binds (ps:=["number"]) fun _ _ _ _ _ _ us hl=>match us,hl with | [_],_=>rfl
 have m_number_itself:=PySem.W.mg_of X G a_number_itself
 have F_form_of:=fun_mk (st:=s_form_of) l_form_of c_form_of k_form_of
 have b_form_of:=F_form_of.binds (ps:=["way"]) fun _ _ _ _ _ _ us hl=>match us,hl with | [_],_=>rfl
 have m_form_of:=PySem.W.mg_of X G a_form_of
 have F_joined:=fun_mk (st:=s_joined) l_joined c_joined k_joined
 have b_joined:=F_joined.binds (ps:=["word","first","second"]) fun _ _ _ _ _ _ us hl=>match us,hl with | [_,_,_],_=>rfl
 have m_joined:=PySem.W.mg_of X G a_joined
 have F_parts_for:=fun_mk (st:=s_parts_for) l_parts_for c_parts_for k_parts_for
 have b_parts_for:=F_parts_for.binds (ps:=["kind","form"]) fun _ _ _ _ _ _ us hl=>match us,hl with | [_,_],_=>rfl
 have m_parts_for:=PySem.W.mg_of X G a_parts_for
 have F_is_of:=fun_mk (st:=s_is_of) l_is_of c_is_of k_is_of
 have b_is_of:=F_is_of.binds (ps:=["kind","form"]) fun _ _ _ _ _ _ us hl=>match us,hl with | [_,_],_=>rfl
 have m_is_of:=PySem.W.mg_of X G a_is_of
 have F_in_order:=fun_mk (st:=s_in_order) l_in_order c_in_order k_in_order
 have b_in_order:=F_in_order.binds (ps:=["parts"]) fun _ _ _ _ _ _ us hl=>match us,hl with | [_],_=>rfl
 have m_in_order:=PySem.W.mg_of X G a_in_order
 have F_order_of:=fun_mk (st:=s_order_of) l_order_of c_order_of k_order_of
 have b_order_of:=F_order_of.binds (ps:=["form"]) fun _ _ _ _ _ _ us hl=>match us,hl with | [_],_=>rfl
 have m_order_of:=PySem.W.mg_of X G a_order_of
 have F_are_twins:=fun_mk (st:=s_are_twins) l_are_twins c_are_twins k_are_twins
 have b_are_twins:=F_are_twins.binds (ps:=["one","other"]) fun _ _ _ _ _ _ us hl=>match us,hl with | [_,_],_=>rfl
 have m_are_twins:=PySem.W.mg_of X G a_are_twins
 have F_number_of:=fun_mk (st:=s_number_of) l_number_of c_number_of k_number_of
 have b_number_of:=F_number_of.binds (ps:=["figures"]) fun _ _ _ _ _ _ us hl=>match us,hl with | [_],_=>rfl
 have m_number_of:=PySem.W.mg_of X G a_number_of
 have F_read_way:=fun_mk (st:=s_read_way) l_read_way c_read_way k_read_way
 have b_read_way:=F_read_way.binds (ps:=["text"]) fun _ _ _ _ _ _ us hl=>match us,hl with | [_],_=>rfl
 have m_read_way:=PySem.W.mg_of X G a_read_way
 have F_is_figures:=fun_mk (st:=s_is_figures) l_is_figures c_is_figures k_is_figures
 have b_is_figures:=F_is_figures.binds (ps:=["text"]) fun _ _ _ _ _ _ us hl=>match us,hl with | [_],_=>rfl
 have m_is_figures:=PySem.W.mg_of X G a_is_figures
 have F_figures_end:=fun_mk (st:=s_figures_end) l_figures_end c_figures_end k_figures_end
 have b_figures_end:=F_figures_end.binds (ps:=["text","at"]) fun _ _ _ _ _ _ us hl=>match us,hl with | [_,_],_=>rfl
 have m_figures_end:=PySem.W.mg_of X G a_figures_end
 have F_pieces_of:=fun_mk (st:=s_pieces_of) l_pieces_of c_pieces_of k_pieces_of
 have b_pieces_of:=F_pieces_of.binds (ps:=["text"]) fun _ _ _ _ _ _ us hl=>match us,hl with | [_],_=>rfl
 have m_pieces_of:=PySem.W.mg_of X G a_pieces_of
 have F_piece_at:=fun_mk (st:=s_piece_at) l_piece_at c_piece_at k_piece_at
 have b_piece_at:=F_piece_at.binds (ps:=["text","at"]) fun _ _ _ _ _ _ us hl=>match us,hl with | [_,_],_=>rfl
 have m_piece_at:=PySem.W.mg_of X G a_piece_at
 have F_way_closed:=fun_mk (st:=s_way_closed) l_way_closed c_way_closed k_way_closed
 have b_way_closed:=F_way_closed.binds (ps:=["held"]) fun _ _ _ _ _ _ us hl=>match us,hl with | [_],_=>rfl
 have m_way_closed:=PySem.W.mg_of X G a_way_closed
 have F_is_word:=fun_mk (st:=s_is_word) l_is_word c_is_word k_is_word
 have b_is_word:=F_is_word.binds (ps:=["piece"]) fun _ _ _ _ _ _ us hl=>match us,hl with | [_],_=>rfl
 have m_is_word:=PySem.W.mg_of X G a_is_word
 have F_is_way:=fun_mk (st:=s_is_way) l_is_way c_is_way k_is_way
 have b_is_way:=F_is_way.binds (ps:=["piece"]) fun _ _ _ _ _ _ us hl=>match us,hl with | [_],_=>rfl
 have m_is_way:=PySem.W.mg_of X G a_is_way
 have F_twins_rows:=fun_mk (st:=s_twins_rows) l_twins_rows c_twins_rows k_twins_rows
 have b_twins_rows:=F_twins_rows.binds (ps:=["numbers","text"]) fun _ _ _ _ _ _ us hl=>match us,hl with | [_,_],_=>rfl
 have m_twins_rows:=PySem.W.mg_of X G a_twins_rows
 have F_yes_or_no:=fun_mk (st:=s_yes_or_no) l_yes_or_no c_yes_or_no k_yes_or_no
 have b_yes_or_no:=F_yes_or_no.binds (ps:=["truth"]) fun _ _ _ _ _ _ us hl=>match us,hl with | [_],_=>rfl
 have m_yes_or_no:=PySem.W.mg_of X G a_yes_or_no
 have F_law_draw:=fun_mk (st:=s_law_draw) l_law_draw c_law_draw k_law_draw
 have b_law_draw:=F_law_draw.binds (ps:=["script","k"]) fun _ _ _ _ _ _ us hl=>match us,hl with | [_,_],_=>rfl
 have m_law_draw:=PySem.W.mg_of X G a_law_draw
 have F_law_way:=fun_mk (st:=s_law_way) l_law_way c_law_way k_law_way
 have b_law_way:=F_law_way.binds (ps:=["script","at","fuel"]) fun _ _ _ _ _ _ us hl=>match us,hl with | [_,_,_],_=>rfl
 have m_law_way:=PySem.W.mg_of X G a_law_way
 have F_law_text:=fun_mk (st:=s_law_text) l_law_text c_law_text k_law_text
 have b_law_text:=F_law_text.binds (ps:=["way","within"]) fun _ _ _ _ _ _ us hl=>match us,hl with | [_,_],_=>rfl
 have m_law_text:=PySem.W.mg_of X G a_law_text
 have F_law_numbers:=fun_mk (st:=s_law_numbers) l_law_numbers c_law_numbers k_law_numbers
 have b_law_numbers:=F_law_numbers.binds (ps:=["way"]) fun _ _ _ _ _ _ us hl=>match us,hl with | [_],_=>rfl
 have m_law_numbers:=PySem.W.mg_of X G a_law_numbers
 have F_law_turned:=fun_mk (st:=s_law_turned) l_law_turned c_law_turned k_law_turned
 have b_law_turned:=F_law_turned.binds (ps:=["script","at","way"]) fun _ _ _ _ _ _ us hl=>match us,hl with | [_,_,_],_=>rfl
 have m_law_turned:=PySem.W.mg_of X G a_law_turned
 have F_law_other:=fun_mk (st:=s_law_other) l_law_other c_law_other k_law_other
 have b_law_other:=F_law_other.binds (ps:=["script","way"]) fun _ _ _ _ _ _ us hl=>match us,hl with | [_,_],_=>rfl
 have m_law_other:=PySem.W.mg_of X G a_law_other
 have F_law_filled:=fun_mk (st:=s_law_filled) l_law_filled c_law_filled k_law_filled
 have b_law_filled:=F_law_filled.binds (ps:=["way","numbers"]) fun _ _ _ _ _ _ us hl=>match us,hl with | [_,_],_=>rfl
 have m_law_filled:=PySem.W.mg_of X G a_law_filled
 have F_law:=fun_mk (st:=s_law) l_law c_law k_law
 have b_law:=F_law.binds (ps:=["script"]) fun _ _ _ _ _ _ us hl=>match us,hl with | [_],_=>rfl
 have m_law:=PySem.W.mg_of X G a_law
 have B:Blt mg:=⟨PySem.W.mg_none_of X G z_len,PySem.W.mg_none_of X G z_sum,PySem.W.mg_none_of X G z_range,PySem.W.mg_none_of X G z_isinstance,PySem.W.mg_none_of X G z_int,PySem.W.mg_none_of X G z_str,PySem.W.mg_none_of X G z_bool,PySem.W.mg_none_of X G z_tuple,PySem.W.mg_none_of X G z_zip⟩
 refine ⟨PySem.W.fnOf "law" "law" (defArgs s_law) (defBody s_law) (defScope s_law) .none kV_law dc_law pm_law an_law cd_law ct_law,fun s v=>.of_eq rfl,fun base _ _=>?_⟩
 have mK:=PySem.W.mg_of X G a_KINDS
 have mR:=PySem.W.mg_of X G a_RANKS
 have mT:=PySem.W.mg_of X G a_TURNED
 have TK:TopDict w K d_KINDS:=⟨es_KINDS,n_KINDS,l_KINDS,k_KINDS⟩
 have TR:TopDict w K d_RANKS:=⟨es_RANKS,n_RANKS,l_RANKS,k_RANKS⟩
 have TT:TurnT K t_T:=fun _=>.inr ⟨_,_,_,l_TURNED,rfl,rfl,by show 2≤sizeLine; decide,.cons ⟨tt1,rfl⟩ (.cons ⟨tt2,rfl⟩ .nil)⟩
 have hK:∀ k:Str,okWord k→∃ t,PySem.W.nsIn K d_KINDS k=some (some (.str (knd k) t)):=fun k h=>by
  rcases h with rfl | rfl | rfl | rfl
  ·exact ⟨t_k1,by rw [e_KINDS_plus,show knd "plus"="sum" by decide +kernel]⟩
  ·exact ⟨t_k2,by rw [e_KINDS_less,show knd "less"="sum" by decide +kernel]⟩
  ·exact ⟨t_k3,by rw [e_KINDS_times,show knd "times"="product" by decide +kernel]⟩
  ·exact ⟨t_k4,by rw [e_KINDS_share,show knd "share"="product" by decide +kernel]⟩
 have hR:∀ k:Str,(k="sum"∨k="product")→∃ t,PySem.W.nsIn K d_RANKS k=some (some (.int (rkK k) t)):=fun k h=>by
  rcases h with rfl | rfl
  ·exact ⟨t_r1,by rw [e_RANKS_sum,show rkK "sum"=2 by decide +kernel]⟩
  ·exact ⟨t_r2,by rw [e_RANKS_product,show rkK "product"=3 by decide +kernel]⟩
 have Bsorted:mg "sorted"=none:=PySem.W.mg_none_of X G z_sorted
 have Gorder:=mkDef (ok_order (P:=l.prog) (w:=w) (base:=base) F_order_of B mR TR hR) b_order_of m_order_of k_order_of
 have Gin:=mkDef (ok_in F_in_order B Bsorted Gorder) b_in_order m_in_order k_in_order
 have Gis:=mkDef (ok_is (P:=l.prog) (w:=w) (base:=base) F_is_of B) b_is_of m_is_of k_is_of
 have Gparts:=mkDef (ok_parts F_parts_for B Gis) b_parts_for m_parts_for k_parts_for
 have CN:Callee l.prog w K mg base CX0 1 f_number_itself spId:=⟨⟨_,_,ok_id F_number_itself,b_number_itself⟩,k_number_itself⟩
 have CW:Callee l.prog w K mg base CX0 5 f_joined spJoin:=⟨⟨_,_,ok_join F_joined B mK mT TK TT hK Gparts Gin,b_joined⟩,k_joined⟩
 have Gcome:=mkDef (ok_come F_come_of B CN CW) b_come_of m_come_of k_come_of
 have Gsteps:=mkDef (ok_steps_of (P:=l.prog) (w:=w) (base:=base) F_steps_of B) b_steps_of m_steps_of k_steps_of
 have Gformof:=mkDef (ok_form_of F_form_of B m_number_itself m_joined Gcome Gsteps) b_form_of m_form_of k_form_of
 have mS:=PySem.W.mg_of X G a_SIGNS
 have mF:=PySem.W.mg_of X G a_FIGURES
 have TS:TopItems w K d_SIGNS kvS:=⟨es_SIGNS,n_SIGNS,l_SIGNS,k_SIGNS,p_SIGNS,by decide +kernel,y_SIGNS⟩
 have Gnum:=mkDef (ok_number_of (P:=l.prog) (w:=w) (base:=base) F_number_of B) b_number_of m_number_of k_number_of
 have Gend:=mkDef (ok_figures_end (P:=l.prog) (w:=w) (base:=base) F_figures_end B mF) b_figures_end m_figures_end k_figures_end
 have Gisf:=mkDef (ok_is_figures F_is_figures B Gend) b_is_figures m_is_figures k_is_figures
 have Gword:=mkDef (ok_is_word (P:=l.prog) (w:=w) (base:=base) F_is_word B) b_is_word m_is_word k_is_word
 have Gway:=mkDef (ok_is_way (P:=l.prog) (w:=w) (base:=base) F_is_way B) b_is_way m_is_way k_is_way
 have Gpiece:=mkDef (ok_piece_at F_piece_at B mF mS TS Gnum Gend) b_piece_at m_piece_at k_piece_at
 have Gpieces:=mkDef (ok_pieces_of F_pieces_of B Gpiece) b_pieces_of m_pieces_of k_pieces_of
 have Gclosed:=mkDef (ok_way_closed F_way_closed B Gword Gway) b_way_closed m_way_closed k_way_closed
 have Gread:=mkDef (ok_read_way F_read_way B Gisf Gnum Gpieces Gclosed) b_read_way m_read_way k_read_way
 have Gtwins:=mkDef (ok_twins F_are_twins B Gorder Gformof) b_are_twins m_are_twins k_are_twins
 have Bmax:mg "max"=none:=PySem.W.mg_none_of X G z_max
 have Bmin:mg "min"=none:=PySem.W.mg_none_of X G z_min
 have Blist:mg "list"=none:=PySem.W.mg_none_of X G z_list
 have Gdraw:=mkDef (ok_draw (P:=l.prog) (w:=w) (base:=base) F_law_draw B Bmax Bmin Blist) b_law_draw m_law_draw k_law_draw
 have Gway36:=mkDef (ok_way F_law_way b_law_way m_law_way B Gdraw 4) b_law_way m_law_way k_law_way
 have Gturn:=mkDef (ok_turn F_law_turned b_law_turned m_law_turned B Gdraw 8) b_law_turned m_law_turned k_law_turned
 have Gother:=mkDef (ok_str (P:=l.prog) (w:=w) (base:=base) F_law_other b_law_other m_law_other B 8) b_law_other m_law_other k_law_other
 have Gnums:=mkDef (ok_own (P:=l.prog) (w:=w) (base:=base) F_law_numbers b_law_numbers m_law_numbers B 8) b_law_numbers m_law_numbers k_law_numbers
 have Gfill:=mkDef (ok_put (P:=l.prog) (w:=w) (base:=base) F_law_filled b_law_filled m_law_filled B 8) b_law_filled m_law_filled k_law_filled
 have Gtext:=mkDef (ok_text (P:=l.prog) (w:=w) (base:=base) F_law_text b_law_text m_law_text B 12) b_law_text m_law_text k_law_text
 have Gyes:=mkDef (ok_yes (P:=l.prog) (w:=w) (base:=base) (mg:=mg) F_yes_or_no) b_yes_or_no m_yes_or_no k_yes_or_no
 have CT:Callee l.prog w K mg base CX0 9 f_twins_rows spRows:=⟨⟨_,_,ok_rows F_twins_rows B Gread Gtwins Gyes,b_twins_rows⟩,k_twins_rows⟩
 have TW:TopDict w K d_WITH_TEXT:=⟨es_WITH_TEXT,n_WITH_TEXT,l_WITH_TEXT,k_WITH_TEXT⟩
 have cl:Cls K C_Desk:=⟨pg_Desk,hd_Desk,po_Desk,sa_Desk⟩
 have F_dinit:=fun_mk (st:=s_Desk___init) l_dinit c_dinit k_dinit
 have F_dask:=fun_mk (st:=s_Desk_ask) l_dask c_dask k_dask
 have b_dinit:=F_dinit.binds (ps:=["self"]) fun _ _ _ _ _ _ us hl=>match us,hl with | [_],_=>rfl
 have b_dask:=F_dask.binds (ps:=["self","line"]) fun _ _ _ _ _ _ us hl=>match us,hl with | [_,_],_=>rfl
 exact ok_law F_law B Gdraw Gway36 Gturn Gother Gnums Gfill Gtext Gformof ⟨mk_Desk,i_dinit,y_dinit,kc_Desk⟩ (ok_desk F_dinit cl n1_Desk n2_Desk) b_dinit (PySem.W.mg_of X G a_Desk) cl ⟨i_dask,y_dask,k_dask⟩ (ok_ask F_dask B cl n1_Desk (PySem.W.mg_of X G a_WITH_TEXT) TW y_WITH e_WITH_TEXT_twins CT) b_dask
theorem walk {l:PySem.W.OpenLaw} {q:Program} {loose:List Str} {XP:(Str→Option Value)→Heap→Prop} {YP:World→Heap→Prop} {d:DefRec} {K:Params→PySem.W.Frag} (hn:l.most=some 63) (hdf:d.params.defaults=[])
  (hY:∀ (w:World) (h:Heap),YP w h→(K w.params).In h)
  (F:∀ (w:World) (mg:Str→Option Value) (fa:Addr) (h:Heap),(K w.params).In h→h.Ns mainGlobals mg→mg d.name=some (.ref fa) →
   ∃ fd:FuncData,(∀ (s:Shared) (u:Value),BindsTo s fd ⟨[u],[]⟩ [("script",u)])∧∀ base:Heap,(K w.params).In base→base.Ns mainGlobals mg→FnOk l.prog w (K w.params) mg base CX0 30 fa fd ["script"] (spLaw (K w.params))) :
  PySem.W.WalkO q loose XP YP l.row.toRowW d [] (fun f vs=>PySem.call f vs) :=
 L2.walk_of (n:=63) (k:=30) (x:="script") (CX:=fun _=>CX0) (sp:=fun w=>spLaw (K w.params)) hn (by decide) hdf ⟨rfl,by decide,by decide⟩ hY F (fun _ _ a ns hl _ hS=>⟨a,ns,rfl,hS,hl,fun _=>rfl⟩) fun _ _ _ _ _ z=>z
end Law
open PySem PySem.W PyProof.Rows
namespace PySem.W.Fast
def tw16629681366075527551:Unit:=()
def tw8093561391469720467:Unit:=()
def tw288878240894589637:Unit:=()
def tw7152595676915031235:Unit:=()
def tw3103592975446043467:Unit:=()
def tw11619038405028156223:Unit:=()
def tw17505055263668341670:Unit:=()
def tw8523555621841238682:Unit:=()
def tw5949223999326656806:Unit:=()
def tw10256769175521626831:Unit:=()
def tw7556589214803735845:Unit:=()
def tw215746861019578723:Unit:=()
def tw13037682967135610765:Unit:=()
def tw11316448325251906063:Unit:=()
def tw5604943041471297223:Unit:=()
def tw13235744557243650727:Unit:=()
def tw3485656678812263242:Unit:=()
def tw8824795045210839633:Unit:=()
def tw4192632330326277830:Unit:=()
def tw6789948583896244761:Unit:=()
def tw9639571693863985952:Unit:=()
def tw12913323397224142016:Unit:=()
def tw10217698611549675801:Unit:=()
def tw1001138106760173848:Unit:=()
def tw17002244287846282097:Unit:=()
def tw15699198934242672928:Unit:=()
def tw5129119981843067675:Unit:=()
def tw9299127381406176439:Unit:=()
def tw7441984737285467394:Unit:=()
def tw3307107531243579669:Unit:=()
def tw8610305857665974180:Unit:=()
def tw14427774286869408656:Unit:=()
def tw6143682403400793637:Unit:=()
def tw8447982304569116046:Unit:=()
def tw16094963695194185397:Unit:=()
def tw6513923556026941581:Unit:=()
def tw5692993483092946958:Unit:=()
def tw5806465131797426326:Unit:=()
def tw3725186757622930035:Unit:=()
def tw16506952597166341060:Unit:=()
def tw11569242610042459731:Unit:=()
def tw15093594155019191925:Unit:=()
def tw18108204375621868064:Unit:=()
def tw16434416766987796474:Unit:=()
def tw3456864008631784849:Unit:=()
def tw11065830317202625076:Unit:=()
def tw6955108628857045792:Unit:=()
def tw6885147042054057125:Unit:=()
def tw13716843722905130646:Unit:=()
def tw9242705222515921034:Unit:=()
def tw14699375186620877228:Unit:=()
def tw15020987414026602454:Unit:=()
def tw9474117022805205008:Unit:=()
def tw5480578134058500574:Unit:=()
def tw5788025181987391496:Unit:=()
def tw11327029061751197007:Unit:=()
def tw12231384380929462165:Unit:=()
def tw1648814949101771855:Unit:=()
def tw17446187023508122449:Unit:=()
def tw1613033472766276971:Unit:=()
def tw7805982639150125427:Unit:=()
def tw11526520123002855627:Unit:=()
def tw200234554201589366:Unit:=()
def tw11950641655950845052:Unit:=()
def tw12502006699086985046:Unit:=()
def tw4338056931615562587:Unit:=()
def tw8122733878917382400:Unit:=()
def tw10379232582103682346:Unit:=()
def tw1582146724171539577:Unit:=()
def tw825222531602823759:Unit:=()
def tw4673179119159702748:Unit:=()
def tw5614277833029382345:Unit:=()
def tw5198637477917109717:Unit:=()
def tw11954627366327420819:Unit:=()
def tw6902393975567013416:Unit:=()
def tw5695487428504653297:Unit:=()
def tw7570055765712957803:Unit:=()
def tw14410592199766689787:Unit:=()
def tw9796051098091977129:Unit:=()
def tw2478401085503678497:Unit:=()
def tw4794414575783900424:Unit:=()
def tw3516599254376503555:Unit:=()
def tw17499360287630519262:Unit:=()
def tw6856725677001208634:Unit:=()
def tw15896517799533878394:Unit:=()
def tw7742726605429640202:Unit:=()
def tw11592527334897828688:Unit:=()
def tw6673509667825521789:Unit:=()
def tw2114041034841540408:Unit:=()
def tw342979368044946430:Unit:=()
def tw17654283987971173960:Unit:=()
def tw17433627885461993438:Unit:=()
def tw11338041215781855126:Unit:=()
def tw17572171655542418530:Unit:=()
def tw10067996843959680379:Unit:=()
def tw11002719670594920141:Unit:=()
def tw18149371865272456188:Unit:=()
def tw12925044585706473887:Unit:=()
def tw15365778389702272219:Unit:=()
def tw1394672081689540192:Unit:=()
def tw41894821671225364:Unit:=()
def tw4604755156743879997:Unit:=()
def tw7455546614383988814:Unit:=()
def tw8332432399293411983:Unit:=()
def tw8287930749656287768:Unit:=()
def tw5788316920830233537:Unit:=()
def tw380052001188500077:Unit:=()
def tw13231044328545834815:Unit:=()
def tw10297719744257104159:Unit:=()
def tw1393511589546134634:Unit:=()
def tw15302365588307818497:Unit:=()
def tw15557440159492819633:Unit:=()
def tw1780460183877109903:Unit:=()
def tw2426287458667186256:Unit:=()
def tw14215519728348149428:Unit:=()
def tw5955892161087790944:Unit:=()
def tw12046242107864789026:Unit:=()
def tw7582089483101177314:Unit:=()
def tw17251389186094006456:Unit:=()
def tw3654921326041125670:Unit:=()
def tw10826795114516798805:Unit:=()
def tw2539398250839174193:Unit:=()
def tw4023085151222110689:Unit:=()
def tw11372052228031007247:Unit:=()
def tw16943465802120937600:Unit:=()
def tw17060558635120671302:Unit:=()
def tw14967364224734204868:Unit:=()
def tw16703769428857428328:Unit:=()
def tw6886638731044857463:Unit:=()
def tw600943859354065531:Unit:=()
def tw7624466905032833750:Unit:=()
def tw7991757537330700917:Unit:=()
def tw13602563473322614817:Unit:=()
def tw1519528517704589912:Unit:=()
def tw13755076482711364207:Unit:=()
def tw15992814203406045308:Unit:=()
def tw6690626493896704610:Unit:=()
def tw11171727112259387261:Unit:=()
def tw9078155964873668001:Unit:=()
def tw10436991429238944148:Unit:=()
def tw18002967863597022745:Unit:=()
def tw14926003328597742801:Unit:=()
def tw3650757858295372181:Unit:=()
def tw651253221092180458:Unit:=()
def tw17625347775611833499:Unit:=()
def tw965749023746982965:Unit:=()
def tw13959096878703167486:Unit:=()
def tw2532736331947700228:Unit:=()
def tw14415441183541217662:Unit:=()
def tw16812534108008590424:Unit:=()
def tw2237436286616448717:Unit:=()
def tw14237932422417559796:Unit:=()
def tw8125655857429293450:Unit:=()
def tw16058358067832922208:Unit:=()
def tw16971633095768929016:Unit:=()
def tw370470606616915799:Unit:=()
def tw3396080183597799469:Unit:=()
def tw15868263365709964302:Unit:=()
def tw13871240468249366757:Unit:=()
def tw2591953962928667741:Unit:=()
def tw5958693222754096285:Unit:=()
def tw16546424159747178467:Unit:=()
def tw11633414460289952844:Unit:=()
def tw4136369571791077889:Unit:=()
def tw5520970268016583682:Unit:=()
def tw9165290980959354932:Unit:=()
def tw10437183116299451052:Unit:=()
def tw6247597222853606631:Unit:=()
def tw18048382934573393488:Unit:=()
def tw4021065065566504279:Unit:=()
def tw10080549077157104424:Unit:=()
def tw3401405791456644246:Unit:=()
def tw11228125069822958886:Unit:=()
def tw17385209003903288679:Unit:=()
def tw7529690508889612842:Unit:=()
def tw14122581845365886973:Unit:=()
def tw958463026432954771:Unit:=()
def tw14769397128976003530:Unit:=()
def tw17046689754263639556:Unit:=()
def tw7744282411840380171:Unit:=()
def tw18010866677216050548:Unit:=()
def tw8306746970666257900:Unit:=()
def tw7213444940730020652:Unit:=()
def tw16817231971430444636:Unit:=()
def tw454608192750390705:Unit:=()
def tw17629633217238276150:Unit:=()
def tw15058851688319620373:Unit:=()
def tw16392851985961462056:Unit:=()
def tw4804945797659668308:Unit:=()
def tw17585247679335085833:Unit:=()
def tw11295269595926026687:Unit:=()
def tw986210186158532025:Unit:=()
def tw10702523720879715423:Unit:=()
def tw8031099690640976359:Unit:=()
def tw1916511854243558869:Unit:=()
def tw14147758601746941252:Unit:=()
def tw8325489627674783639:Unit:=()
def tw14178253185704946661:Unit:=()
def tw9394377278188816180:Unit:=()
def tw16436746433805317769:Unit:=()
def tw5571497749898705016:Unit:=()
def tw4711277674270875398:Unit:=()
def tw14042070164134181114:Unit:=()
def tw10206256330844882281:Unit:=()
def tw3670235010053583372:Unit:=()
def tw5422887747424541601:Unit:=()
def tw15816233439720205583:Unit:=()
def tw3267619666128757722:Unit:=()
def tw7422827877756677276:Unit:=()
def tw18074527172268191305:Unit:=()
def tw2030610237980581518:Unit:=()
def tw4133375923333568546:Unit:=()
def tw13983291349212747081:Unit:=()
def tw11034715624517518249:Unit:=()
def tw16168045451203922850:Unit:=()
def tw9835746984182972618:Unit:=()
def tw10531553330335951247:Unit:=()
def tw14549793100578915895:Unit:=()
def tw6141830332799783170:Unit:=()
def tw12988890001887537730:Unit:=()
def tw12270259093013549766:Unit:=()
def tw1117358265422924735:Unit:=()
def tw13165116046074138864:Unit:=()
def tw3335000708443161785:Unit:=()
def tw8665519363504858724:Unit:=()
def tw5639701537651514383:Unit:=()
def tw6918641524455147819:Unit:=()
def tw6219277796136491755:Unit:=()
def tw12913292009822039601:Unit:=()
def tw16621844206438539380:Unit:=()
def tw962086126709142053:Unit:=()
def tw15317447023573484106:Unit:=()
def tw17664754498723599495:Unit:=()
def tw9178611149247957880:Unit:=()
def tw1380199538415038647:Unit:=()
def tw15818102461751132119:Unit:=()
def tw10914035364731986943:Unit:=()
def tw17812933427401692309:Unit:=()
def tw6703157147548335401:Unit:=()
def tw407597660528090560:Unit:=()
def tw12214904810451206167:Unit:=()
def tw9659764065885644004:Unit:=()
def tw1534790914221726308:Unit:=()
def tw10471972055907287543:Unit:=()
def tw5082886194067253110:Unit:=()
def tw7110357007287257289:Unit:=()
def tw14761638295475119518:Unit:=()
def tw3997254776266603567:Unit:=()
def tw10750539982724829588:Unit:=()
def tw4712388494705060709:Unit:=()
def tw17087116566861444108:Unit:=()
def tw8409970169486798415:Unit:=()
def tw2867473562635369190:Unit:=()
def tw11576856791785846541:Unit:=()
def tw4496834217596461967:Unit:=()
def tw2608238642758958564:Unit:=()
def tw14051324014143251608:Unit:=()
def tw1983540764012152588:Unit:=()
def tw16074679036441717737:Unit:=()
def tw16170634541261922341:Unit:=()
def tw18307521055655855194:Unit:=()
def tw13142788126278074689:Unit:=()
def tw11649429818513871490:Unit:=()
def tw12378549813741955690:Unit:=()
def tw16213482171021349613:Unit:=()
def tw11656851537573451272:Unit:=()
def tw13430414144696092482:Unit:=()
def tw14247181878796397585:Unit:=()
def tw17814851226734344071:Unit:=()
def tw4852211875286213594:Unit:=()
def tw16959420512609034889:Unit:=()
def tw10862049507609021390:Unit:=()
def tw16443533040568601799:Unit:=()
def tw3129505598041656243:Unit:=()
def tw7701987291862148255:Unit:=()
def tw1937650268088685563:Unit:=()
def tw6911048371627468990:Unit:=()
def tw17829260046502534157:Unit:=()
def tw16094804279226328009:Unit:=()
def tw15565414200756005161:Unit:=()
def tw15010496267875562585:Unit:=()
def tw9312351091664412557:Unit:=()
def tw13685221263112390173:Unit:=()
def tw11605918176753730880:Unit:=()
def tw14457004753362108844:Unit:=()
def tw10497819932003330652:Unit:=()
def tw8794668050866906132:Unit:=()
def tw12338150588200269089:Unit:=()
def tw9619543464666676402:Unit:=()
def tw15424079916949448170:Unit:=()
def tw14177012405415855283:Unit:=()
def tw18289841283253527656:Unit:=()
def tw725098439115191935:Unit:=()
def tw15081698049373029215:Unit:=()
def tw2007881688469035504:Unit:=()
def tw6605316846994342843:Unit:=()
def tw8221304144504672782:Unit:=()
def tw9209046319091545876:Unit:=()
def tw2587632140586405489:Unit:=()
def tw15389004577297178892:Unit:=()
def tw16591599661938372802:Unit:=()
def tw5323698239907870684:Unit:=()
def tw16198464334393851640:Unit:=()
def tw14943851653957496609:Unit:=()
def tw2918946917758634565:Unit:=()
def tw7182625767630786646:Unit:=()
def tw10230793874828514008:Unit:=()
def tw2496415957994961937:Unit:=()
def tw16371874822786521120:Unit:=()
def tw15210743344663947090:Unit:=()
def tw15075620065928460055:Unit:=()
def tw13555731023093021561:Unit:=()
def tw14031099252234161171:Unit:=()
def tw14209495956548647148:Unit:=()
def tw6613927404608507329:Unit:=()
def tw6928986335148403035:Unit:=()
end PySem.W.Fast
set_option maxRecDepth 100000 in
set_option maxHeartbeats 0 in
theorem PySem.Challenge.cw_ledtowish_k36_desk_twins_holds : PySem.Challenge.rw_ledtowish_k36_desk_twins.Holds := by
 w_on; o_law; k_head; (case hw=>w_witness2)
 k_fill
 refine Law.walk (l:=PySem.Challenge.rw_ledtowish_k36_desk_twins) rfl rfl (fun w h Y=>PySem.W.km_in_of Y) ?F
 case F =>
  intro w mg fa h KX G hmg
  refine' Law.all_mk KX G hmg ?a_steps_of ?l_steps_of ?c_steps_of ?k_steps_of ?a_come_of ?l_come_of ?c_come_of ?k_come_of ?a_number_itself ?l_number_itself ?c_number_itself ?k_number_itself ?a_form_of ?l_form_of ?c_form_of ?k_form_of ?a_joined ?l_joined ?c_joined ?k_joined ?a_parts_for ?l_parts_for ?c_parts_for ?k_parts_for ?a_is_of ?l_is_of ?c_is_of ?k_is_of ?a_in_order ?l_in_order ?c_in_order ?k_in_order ?a_order_of ?l_order_of ?c_order_of ?k_order_of ?a_are_twins ?l_are_twins ?c_are_twins ?k_are_twins ?a_number_of ?l_number_of ?c_number_of ?k_number_of ?a_read_way ?l_read_way ?c_read_way ?k_read_way ?a_is_figures ?l_is_figures ?c_is_figures ?k_is_figures ?a_figures_end ?l_figures_end ?c_figures_end ?k_figures_end ?a_pieces_of ?l_pieces_of ?c_pieces_of ?k_pieces_of ?a_piece_at ?l_piece_at ?c_piece_at ?k_piece_at ?a_way_closed ?l_way_closed ?c_way_closed ?k_way_closed ?a_is_word ?l_is_word ?c_is_word ?k_is_word ?a_is_way ?l_is_way ?c_is_way ?k_is_way ?a_twins_rows ?l_twins_rows ?c_twins_rows ?k_twins_rows ?a_yes_or_no ?l_yes_or_no ?c_yes_or_no ?k_yes_or_no ?a_law_draw ?l_law_draw ?c_law_draw ?k_law_draw ?a_law_way ?l_law_way ?c_law_way ?k_law_way ?a_law_text ?l_law_text ?c_law_text ?k_law_text ?a_law_numbers ?l_law_numbers ?c_law_numbers ?k_law_numbers ?a_law_turned ?l_law_turned ?c_law_turned ?k_law_turned ?a_law_other ?l_law_other ?c_law_other ?k_law_other ?a_law_filled ?l_law_filled ?c_law_filled ?k_law_filled ?a_law ?l_law ?c_law ?k_law ?a_KINDS ?l_KINDS ?k_KINDS ?e_KINDS_plus ?e_KINDS_less ?e_KINDS_times ?e_KINDS_share ?a_RANKS ?l_RANKS ?k_RANKS ?e_RANKS_sum ?e_RANKS_product ?a_SIGNS ?l_SIGNS ?k_SIGNS ?e_SIGNS_plus ?e_SIGNS_less ?e_SIGNS_times ?e_SIGNS_share ?a_WITH_TEXT ?l_WITH_TEXT ?k_WITH_TEXT ?e_WITH_TEXT_twins ?z_max ?z_min ?z_sorted ?a_TURNED ?l_TURNED ?p_SIGNS ?y_SIGNS ?a_FIGURES ?z_list ?y_WITH ?a_Desk ?pg_Desk ?hd_Desk ?po_Desk ?sa_Desk ?mk_Desk ?kc_Desk ?n1_Desk ?n2_Desk ?i_dinit ?y_dinit ?l_dinit ?c_dinit ?k_dinit ?i_dask ?y_dask ?l_dask ?c_dask ?k_dask ?z_len ?z_sum ?z_range ?z_isinstance ?z_int ?z_str ?z_bool ?z_tuple ?z_zip
  (case a_steps_of=>k_is)
  (case l_steps_of=>k_is)
  (case c_steps_of=>k_is)
  (case k_steps_of=>k_is)
  (case a_come_of=>k_is)
  (case l_come_of=>k_is)
  (case c_come_of=>k_is)
  (case k_come_of=>k_is)
  (case a_number_itself=>k_is)
  (case l_number_itself=>k_is)
  (case c_number_itself=>k_is)
  (case k_number_itself=>k_is)
  (case a_form_of=>k_is)
  (case l_form_of=>k_is)
  (case c_form_of=>k_is)
  (case k_form_of=>k_is)
  (case a_joined=>k_is)
  (case l_joined=>k_is)
  (case c_joined=>k_is)
  (case k_joined=>k_is)
  (case a_parts_for=>k_is)
  (case l_parts_for=>k_is)
  (case c_parts_for=>k_is)
  (case k_parts_for=>k_is)
  (case a_is_of=>k_is)
  (case l_is_of=>k_is)
  (case c_is_of=>k_is)
  (case k_is_of=>k_is)
  (case a_in_order=>k_is)
  (case l_in_order=>k_is)
  (case c_in_order=>k_is)
  (case k_in_order=>k_is)
  (case a_order_of=>k_is)
  (case l_order_of=>k_is)
  (case c_order_of=>k_is)
  (case k_order_of=>k_is)
  (case a_are_twins=>k_is)
  (case l_are_twins=>k_is)
  (case c_are_twins=>k_is)
  (case k_are_twins=>k_is)
  (case a_number_of=>k_is)
  (case l_number_of=>k_is)
  (case c_number_of=>k_is)
  (case k_number_of=>k_is)
  (case a_read_way=>k_is)
  (case l_read_way=>k_is)
  (case c_read_way=>k_is)
  (case k_read_way=>k_is)
  (case a_is_figures=>k_is)
  (case l_is_figures=>k_is)
  (case c_is_figures=>k_is)
  (case k_is_figures=>k_is)
  (case a_figures_end=>k_is)
  (case l_figures_end=>k_is)
  (case c_figures_end=>k_is)
  (case k_figures_end=>k_is)
  (case a_pieces_of=>k_is)
  (case l_pieces_of=>k_is)
  (case c_pieces_of=>k_is)
  (case k_pieces_of=>k_is)
  (case a_piece_at=>k_is)
  (case l_piece_at=>k_is)
  (case c_piece_at=>k_is)
  (case k_piece_at=>k_is)
  (case a_way_closed=>k_is)
  (case l_way_closed=>k_is)
  (case c_way_closed=>k_is)
  (case k_way_closed=>k_is)
  (case a_is_word=>k_is)
  (case l_is_word=>k_is)
  (case c_is_word=>k_is)
  (case k_is_word=>k_is)
  (case a_is_way=>k_is)
  (case l_is_way=>k_is)
  (case c_is_way=>k_is)
  (case k_is_way=>k_is)
  (case a_twins_rows=>k_is)
  (case l_twins_rows=>k_is)
  (case c_twins_rows=>k_is)
  (case k_twins_rows=>k_is)
  (case a_yes_or_no=>k_is)
  (case l_yes_or_no=>k_is)
  (case c_yes_or_no=>k_is)
  (case k_yes_or_no=>k_is)
  (case a_law_draw=>k_is)
  (case l_law_draw=>k_is)
  (case c_law_draw=>k_is)
  (case k_law_draw=>k_is)
  (case a_law_way=>k_is)
  (case l_law_way=>k_is)
  (case c_law_way=>k_is)
  (case k_law_way=>k_is)
  (case a_law_text=>k_is)
  (case l_law_text=>k_is)
  (case c_law_text=>k_is)
  (case k_law_text=>k_is)
  (case a_law_numbers=>k_is)
  (case l_law_numbers=>k_is)
  (case c_law_numbers=>k_is)
  (case k_law_numbers=>k_is)
  (case a_law_turned=>k_is)
  (case l_law_turned=>k_is)
  (case c_law_turned=>k_is)
  (case k_law_turned=>k_is)
  (case a_law_other=>k_is)
  (case l_law_other=>k_is)
  (case c_law_other=>k_is)
  (case k_law_other=>k_is)
  (case a_law_filled=>k_is)
  (case l_law_filled=>k_is)
  (case c_law_filled=>k_is)
  (case k_law_filled=>k_is)
  (case a_law=>k_is)
  (case l_law=>k_is)
  (case c_law=>k_is)
  (case k_law=>k_is)
  (case a_KINDS=>k_is)
  (case l_KINDS=>k_is)
  (case k_KINDS=>k_keys)
  (case e_KINDS_plus=>k_is)
  (case e_KINDS_less=>k_is)
  (case e_KINDS_times=>k_is)
  (case e_KINDS_share=>k_is)
  (case a_RANKS=>k_is)
  (case l_RANKS=>k_is)
  (case k_RANKS=>k_keys)
  (case e_RANKS_sum=>k_is)
  (case e_RANKS_product=>k_is)
  (case a_SIGNS=>k_is)
  (case l_SIGNS=>k_is)
  (case k_SIGNS=>k_keys)
  (case e_SIGNS_plus=>k_is)
  (case e_SIGNS_less=>k_is)
  (case e_SIGNS_times=>k_is)
  (case e_SIGNS_share=>k_is)
  (case a_WITH_TEXT=>k_is)
  (case l_WITH_TEXT=>k_is)
  (case k_WITH_TEXT=>k_keys)
  (case e_WITH_TEXT_twins=>k_is)
  (case z_max=>k_is)
  (case z_min=>k_is)
  (case z_sorted=>k_is)
  (case a_TURNED=>k_is)
  (case l_TURNED=>k_is)
  (case p_SIGNS=>exact .cons ⟨⟨_,rfl⟩,⟨_,rfl⟩⟩ (.cons ⟨⟨_,rfl⟩,⟨_,rfl⟩⟩ (.cons ⟨⟨_,rfl⟩,⟨_,rfl⟩⟩ (.cons ⟨⟨_,rfl⟩,⟨_,rfl⟩⟩ .nil))))
  (case y_SIGNS=>rfl)
  (case a_FIGURES=>k_is)
  (case z_list=>k_is)
  (case y_WITH=>rfl)
  (case a_Desk=>k_is)
  (case pg_Desk=>k_is)
  (case hd_Desk=>k_is)
  (case po_Desk=>k_is)
  (case sa_Desk=>k_is)
  (case mk_Desk=>k_is)
  (case kc_Desk=>k_is)
  (case n1_Desk=>k_is)
  (case n2_Desk=>k_is)
  (case i_dinit=>k_is)
  (case y_dinit=>k_is)
  (case l_dinit=>k_is)
  (case c_dinit=>k_is)
  (case k_dinit=>k_is)
  (case i_dask=>k_is)
  (case y_dask=>k_is)
  (case l_dask=>k_is)
  (case c_dask=>k_is)
  (case k_dask=>k_is)
  (case z_len=>k_is)
  (case z_sum=>k_is)
  (case z_range=>k_is)
  (case z_isinstance=>k_is)
  (case z_int=>k_is)
  (case z_str=>k_is)
  (case z_bool=>k_is)
  (case z_tuple=>k_is)
  (case z_zip=>k_is)
#print axioms PySem.Challenge.cw_ledtowish_k36_desk_twins_holds
