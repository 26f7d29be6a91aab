import PyProof.Rows.All
import Wide.All
import OpenK.AllK
import Wide.FinOn
import Lean
import PyProof.EqAt
import PyProof.EqKinds
import PyProof.TupleCall
import PyProof.NeKinds
import PyProof.ZipIter
import KE.KIntText
import PyProof.StrLawsIn
import PyProof.DictItems
import PyProof.Draws
import PyProof.EnumStmt
import PyProof.Rows.SortShellK
import PyProof.Rows.CallKwBuiltin
import PyProof.Rows.TupIn
import PyProof.NsDelKeeps
import PyProof.StrWalks
import PyProof.StrCalls6
import PyProof.MeetsStr3
import PyProof.DictIter
import PyProof.WalkLemmas
import PyProof.DictWalks
import PyProof.MinMaxWalk
import KE.KDictOf
import PySem.Challenge.RW_ledtowish_k29_whole_longer_rows
set_option Elab.async false
set_option linter.all false
set_option maxRecDepth 100000
namespace L2
open PySem PySem.Spec PyProof.Rows
noncomputable abbrev Key:=Sum Int Str
noncomputable def keyIs:Key→Value→Bool
 | .inl k,v=>Value.isInt k v
 | .inr x,v=>Value.isStrOf x v
noncomputable def keyH (w:World):Key→Int
 | .inl k=>hashInt k
 | .inr x=>hashStr w x
theorem keyIs_shape:∀ {k:Key} {v:Value},keyIs k v=true→(∃ i t,k=Sum.inl i∧v=Value.int i t)∨(∃ x t,k=Sum.inr x∧v=Value.str x t)
 | .inl i,v,h=>by
  obtain ⟨t,e⟩:=Value.isInt_shape (k:=i) (v:=v) h
  exact .inl ⟨i,t,rfl,e⟩
 | .inr x,v,h=>by
  obtain ⟨t,e⟩:=Value.isStrOf_shape (x:=x) (v:=v) h
  exact .inr ⟨x,t,rfl,e⟩
theorem key_ll (a b:Int):decide ((Sum.inl a:Key)=Sum.inl b)=(a == b):=by
 by_cases e:a=b
 ·subst e; simp
 ·have h:¬ (Sum.inl a:Key)=Sum.inl b:=fun q=>e (Sum.inl.inj q)
  rw [decide_eq_false h]
  exact (beq_eq_false_iff_ne.mpr e).symm
theorem key_rr (a b:Str):decide ((Sum.inr a:Key)=Sum.inr b)=decide (a=b):=by
 by_cases e:a=b
 ·subst e; simp
 ·have h:¬ (Sum.inr a:Key)=Sum.inr b:=fun q=>e (Sum.inr.inj q)
  rw [decide_eq_false h,decide_eq_false e]
theorem key_lr (a:Int) (b:Str):decide ((Sum.inl a:Key)=Sum.inr b)=false:=decide_eq_false (fun q=>nomatch q)
theorem key_rl (a:Str) (b:Int):decide ((Sum.inr a:Key)=Sum.inl b)=false:=decide_eq_false (fun q=>nomatch q)
noncomputable def mixKind (prog:Program) (w:World):PySem.KeyKind prog w Key where
 is:=keyIs
 hash:=keyH w
 inj:=fun v a b ha hb=>by
  rcases keyIs_shape ha with ⟨i,t,rfl,rfl⟩ | ⟨x,t,rfl,rfl⟩
  ·rcases keyIs_shape hb with ⟨j,u,rfl,e⟩ | ⟨y,u,rfl,e⟩
   ·injection e with e1 _; rw [e1]
   ·exact nomatch e
  ·rcases keyIs_shape hb with ⟨j,u,rfl,e⟩ | ⟨y,u,rfl,e⟩
   ·exact nomatch e
   ·injection e with e1 _; rw [e1]
 byValue:=fun k v h=>by
  rcases keyIs_shape h with ⟨i,t,rfl,rfl⟩ | ⟨x,t,rfl,rfl⟩ <;> rfl
 pyHash:=fun hv h=>by
  rcases keyIs_shape hv with ⟨i,t,rfl,rfl⟩ | ⟨x,t,rfl,rfl⟩
  ·exact wpAny_pyHash_int h
  ·exact wpAny_pyHash_str h
 eqBool:=fun hu hv h=>by
  rcases keyIs_shape hu with ⟨i,t,rfl,rfl⟩ | ⟨x,t,rfl,rfl⟩
  ·rcases keyIs_shape hv with ⟨j,u,rfl,rfl⟩ | ⟨y,u,rfl,rfl⟩
   ·rw [key_ll] at h; exact wpAny_eqBool_int h
   ·rw [key_lr] at h; exact SeqAt.EqAt.int_str i t y u _ _ _ _ h
  ·rcases keyIs_shape hv with ⟨j,u,rfl,rfl⟩ | ⟨y,u,rfl,rfl⟩
   ·rw [key_rl] at h; exact SeqAt.EqAt.str_int x t j u _ _ _ _ h
   ·rw [key_rr] at h; exact wpAny_eqBool_str h
 «strs»:=fun k x t v h=>by
  rcases keyIs_shape h with ⟨i,u,rfl,e⟩ | ⟨y,u,rfl,e⟩
  ·exact nomatch e
  ·injection e with e1 _
   subst e1
   cases v <;> rfl
end L2
namespace L2
open PySem PySem.Spec PyProof.Rows
inductive V where
 | non | bl (b:Bool) | int (i:Int) | str (x:Str) | byt (b:Array UInt8) | flt (b:UInt64) | ref (a:Addr) | ty (n:String)
 deriving DecidableEq
noncomputable def RelV:V→Value→Prop
 | .non,u=>u=Value.none
 | .bl b,u=>u=Value.bool b
 | .int i,u=>∃ t,u=Value.int i t
 | .str x,u=>∃ t,u=Value.str x t
 | .byt b,u=>∃ t,u=Value.bytes b t
 | .flt b,u=>∃ t,u=Value.float b t
 | .ref a,u=>u=Value.ref a
 | .ty n,u=>u=Value.type n
noncomputable abbrev Vals:List V→List Value→Prop:=Paired RelV
theorem Vals.length {xs:List V} {us:List Value} (r:Vals xs us):xs.length=us.length:=Paired.length r
theorem Vals.get:∀ {xs:List V} {us:List Value} {i:Nat} {x:V},Vals xs us→xs[i]?=some x→∃ u,us[i]?=some u∧RelV x u
 | _,_,_,_,.nil,e=>by simp at e
 | _,_,0,_,.cons r _,e=>by simp at e; subst e; exact ⟨_,rfl,r⟩
 | _,_,i + 1,x,.cons _ t,e=>by
  obtain ⟨u,h1,h2⟩:=Vals.get (i:=i) (x:=x) t (by simpa using e)
  exact ⟨u,by simpa using h1,h2⟩
theorem Vals.append:∀ {xs ys:List V} {us ws:List Value},Vals xs us→Vals ys ws→Vals (xs++ys) (us++ws)
 | _,_,_,_,.nil,s=>s
 | _,_,_,_,.cons r t,s=>.cons r (Vals.append t s)
noncomputable def RelO:Option V→Option Value→Prop
 | some v,some u=>RelV v u
 | none,none=>True
 | _,_=>False
noncomputable def KV {κ:Type}:List (κ×V)→List (κ×Value)→Prop:=Paired fun (p:κ×V) (q:κ×Value)=>p.1=q.1∧RelV p.2 q.2
noncomputable def kV:Key→V
 | .inl i=>.int i
 | .inr x=>.str x
inductive HO where
 | lst (xs:List V)
 | tup (xs:List V)
 | dK (kvs:List (Key×V)) | dT (kvs:List (List Key×V))
 | set (S:Int→Bool) (n:Nat)
 | ins (C dx:Addr) (fs:List (Str×V))
 | own (x:Addr)
 | xd (fs:List (Str×V))
 | met (f x:Addr)
 | rng (lo hi:Int)
 | frz (o:Obj) (u:HO)
 | tbl (ps:Array Value)
 | ext (φ:Heap→Prop)
noncomputable abbrev Hp:=Addr→Option HO
noncomputable def upd (H:Hp) (a:Addr) (o:HO):Hp:=fun b=>if b=a then some o else H b
theorem upd_same {H:Hp} {a:Addr} {o:HO}:upd H a o a=some o:=by unfold upd; rw [if_pos rfl]
theorem upd_ne {H:Hp} {a b:Addr} {o:HO} (h:b≠a):upd H a o b=H b:=by unfold upd; rw [if_neg h]
theorem upd_upd {H:Hp} {a:Addr} {o u:HO}:upd (upd H a o) a u=upd H a u:=by
 funext b; unfold upd; split <;> rfl
theorem ne_of_none {H:Hp} {a b:Addr} {o:HO} (h:H a=some o) (h':H b=none):a≠b:=by
 intro e; subst e; rw [h] at h'; cases h'
section
variable (P:Program) (w:World)
noncomputable def ObjOk (H:Hp) (h:Heap) (a:Addr):HO→Prop
 | .lst xs=>xs.length≤sizeLine∧∃ (its:List Value) (n:Nat),Vals xs its∧h.get? a=some { cls:=.type "list",data:=.seq its.toArray n }
 | .tup xs=>xs.length≤sizeLine∧∃ its:List Value,Vals xs its∧IsTup h a its.toArray
 | .dK kvs=>kvs.length≤sizeLine∧(a == sysModules)=false∧∃ vs,KV kvs vs∧h.DictOf (mixKind P w) a vs
 | .dT kvs=>kvs.length≤sizeLine∧(a == sysModules)=false∧∃ xs:List (List Key×Addr×Value),
   Paired (fun (p:List Key×V) (q:List Key×Addr×Value)=>p.1=q.1∧H q.2.1=some (.tup (p.1.map kV))∧RelV p.2 q.2.2) kvs xs ∧
   ∃ o es ep,h.get? a=some o∧o.ExactDict∧o.data=.dict es ep∧es.toList=xs.map (entryOfKey (tupleKind (mixKind P w)))∧(xs.map (·.1)).Nodup
 | .set S n=>h.SetOf (intKind P w) a S n
 | .ins C dx fs=>H dx=some (.own a)∧fs.length≤1000∧dx≠a∧h.get? a=some (PySem.W.instObj C dx) ∧
   ∃ mA,h.Ns1 dx mA∧(∀ f,RelO (fs.lookup f) (mA f))∧PySem.Within mA (fs.map (·.1))
 | .own _=>∃ o,h.get? a=some o
 | .xd fs=>∃ mA,h.Ns1 a mA∧∀ f,RelO (fs.lookup f) (mA f)
 | .rng lo hi=>∃ t u v,h.get? a=some { cls:=.type "range",data:=.fields #[.int lo t,.int hi u,.int 1 v] }
 | .frz o u=>h.get? a=some o∧ObjOk H h a u
 | .tbl ps=>h.get? a=some { cls:=.none,data:=.fields ps }
 | .met f x=>h.get? a=some (PySem.W.methodObj (.ref f) (.ref x))
 | .ext φ=>φ h∧(∃ o,h.get? a=some o)∧∀ h1 h2:Heap,φ h1→(∀ o,h1.get? a=some o→h2.get? a=some o)→φ h2
noncomputable def HOk (H:Hp) (h:Heap):Prop:=∀ a o,H a=some o→ObjOk P w H h a o
end
section
variable {P:Program} {w:World} {H H':Hp} {h h':Heap} {a:Addr} {o:HO}
theorem ObjOk.lt (x:ObjOk P w H h a o):a < h.objs.size:=by
 cases o with
 | lst xs=>obtain ⟨_,_,_,_,e⟩:=x; exact Heap.lt_size e
 | tup xs=>obtain ⟨_,_,_,p⟩:=x; exact p.lt
 | dK kvs=>obtain ⟨_,_,_,_,o,_,_,e,_⟩:=x; exact Heap.lt_size e
 | dT kvs=>obtain ⟨_,_,_,_,o,_,_,e,_⟩:=x; exact Heap.lt_size e
 | set S n=>obtain ⟨o,_,_,_,e,_⟩:=x; exact Heap.lt_size e
 | ins C dx fs=>obtain ⟨_,_,_,e,_⟩:=x; exact Heap.lt_size e
 | own y=>obtain ⟨_,e⟩:=x; exact Heap.lt_size e
 | xd fs=>obtain ⟨_,⟨_,_,_,e,_⟩,_⟩:=x; exact Heap.lt_size e
 | rng lo hi=>obtain ⟨_,_,_,e⟩:=x; exact Heap.lt_size e
 | frz ob u=>obtain ⟨e,_⟩:=x; exact Heap.lt_size e
 | tbl ps=>exact Heap.lt_size (show h.get? a=some _ from x)
 | met f y=>exact Heap.lt_size (show h.get? a=some _ from x)
 | ext φ=>obtain ⟨_,⟨_,e⟩,_⟩:=x; exact Heap.lt_size e
theorem Paired.mapP {α β:Type} {F G:α→β→Prop}:∀ {l₁:List α} {l₂:List β},Paired F l₁ l₂→(∀ a b,F a b→G a b)→Paired G l₁ l₂
 | _,_,.nil,_=>.nil
 | _,_,.cons r t,f=>.cons (f _ _ r) (Paired.mapP t f)
theorem ObjOk.stay (x:ObjOk P w H h a o) (k:∀ b u,(b=a∨H b=some (.own a))→h.get? b=some u→h'.get? b=some u)
  (ho:∀ b,H b=some (.own a)→H' b=some (.own a)) (ht:∀ b xs,H b=some (.tup xs)→H' b=some (.tup xs)):ObjOk P w H' h' a o:=by
 induction o with
 | lst xs=>obtain ⟨z,its,n,r,e⟩:=x; exact ⟨z,its,n,r,k _ _ (.inl rfl) e⟩
 | tup xs=>obtain ⟨z,its,r,ob,e,c⟩:=x; exact ⟨z,its,r,ob,k _ _ (.inl rfl) e,c⟩
 | dK kvs=>obtain ⟨z,y,vs,r,ob,es,ep,e,c⟩:=x; exact ⟨z,y,vs,r,ob,es,ep,k _ _ (.inl rfl) e,c⟩
 | dT kvs =>
  obtain ⟨z,y,xs,r,ob,es,ep,e,c⟩:=x
  exact ⟨z,y,xs,Paired.mapP r fun p q z=>⟨z.1,ht _ _ z.2.1,z.2.2⟩,ob,es,ep,k _ _ (.inl rfl) e,c⟩
 | set S n=>obtain ⟨ob,es,ep,t,e,c⟩:=x; exact ⟨ob,es,ep,t,k _ _ (.inl rfl) e,c⟩
 | ins C dx fs =>
  obtain ⟨d,z,ne,e,mA,⟨od,es,ep,e2,c⟩,r⟩:=x
  exact ⟨ho _ d,z,ne,k _ _ (.inl rfl) e,mA,⟨od,es,ep,k _ _ (.inr d) e2,c⟩,r⟩
 | own y=>obtain ⟨ob,e⟩:=x; exact ⟨ob,k _ _ (.inl rfl) e⟩
 | xd fs=>obtain ⟨mA,⟨od,es,ep,e,c⟩,r⟩:=x; exact ⟨mA,⟨od,es,ep,k _ _ (.inl rfl) e,c⟩,r⟩
 | rng lo hi=>obtain ⟨t,u,v,e⟩:=x; exact ⟨t,u,v,k _ _ (.inl rfl) e⟩
 | frz ob u ih=>obtain ⟨e,q⟩:=x; exact ⟨k _ _ (.inl rfl) e,ih q⟩
 | tbl ps =>
  have e:h.get? a=some { cls:=.none,data:=.fields ps }:=x
  show h'.get? a=some { cls:=.none,data:=.fields ps }
  exact k a _ (.inl rfl) e
 | met f y =>
  have e:h.get? a=some (PySem.W.methodObj (.ref f) (.ref y)):=x
  show h'.get? a=some (PySem.W.methodObj (.ref f) (.ref y))
  exact k a _ (.inl rfl) e
 | ext φ=>obtain ⟨p,⟨o,e⟩,st⟩:=x; exact ⟨st _ _ p fun o q=>k _ _ (.inl rfl) q,⟨o,k _ _ (.inl rfl) e⟩,st⟩
theorem HOk.lt (x:HOk P w H h) (e:H a=some o):a < h.objs.size:=(x a o e).lt
theorem HOk.fresh (x:HOk P w H h) (e:h.objs.size≤a):H a=none:=by
 cases q:H a with
 | none=>rfl
 | some u=>exact absurd (Nat.lt_of_lt_of_le (x.lt q) e) (Nat.lt_irrefl _)
theorem HOk.kept (x:HOk P w H h) (k:∀ b u,h.get? b=some u→h'.get? b=some u):HOk P w H h':=fun a o e =>
 (x a o e).stay (fun b u _ q=>k b u q) (fun _ q=>q) fun _ _ q=>q
theorem HOk.laid (x:HOk P w H h) (k:∀ b u,h.get? b=some u→h'.get? b=some u) (hp:h.objs.size≤a) (new:ObjOk P w (upd H a o) h' a o):HOk P w (upd H a o) h':=fun b u e=>by
 have hn:=x.fresh hp
 by_cases hb:b=a
 ·subst hb; rw [upd_same] at e; cases e; exact new
 ·rw [upd_ne hb] at e
  exact (x b u e).stay (fun c v _ q=>k c v q) (fun c q=>by rw [upd_ne (ne_of_none q hn)]; exact q) fun c xs q=>by rw [upd_ne (ne_of_none q hn)]; exact q
end
noncomputable def Rd (H:Hp) (a:Addr) (u:HO):Prop:=H a=some u∨∃ o,H a=some (.frz o u)
theorem Rd.ok {P:Program} {w:World} {H:Hp} {h:Heap} {a:Addr} {u:HO} (r:Rd H a u) (x:HOk P w H h):ObjOk P w H h a u:=by
 rcases r with r | ⟨o,r⟩
 ·exact x a u r
 ·obtain ⟨_,q⟩:=x a _ r
  exact q
noncomputable def Mut:Option HO→Prop
 | some (.lst _)=>True
 | some (.dK _)=>True
 | some (.dT _)=>True
 | some (.set _ _)=>True
 | some (.ins _ _ _)=>True
 | some (.ext _)=>True
 | _=>False
section
variable {P:Program} {w:World} {H:Hp} {h h':Heap} {x e:Addr} {o':HO}
theorem HOk.write (ok:HOk P w H h) (mu:Mut (H x)) (he:e=x∨H e=some (.own x)) (k:∀ b u,b≠e→h.get? b=some u→h'.get? b=some u) (heo:∃ u,h'.get? e=some u)
  (new:ObjOk P w (upd H x o') h' x o'):HOk P w (upd H x o') h':=fun b u q=>by
 have nown:∀ c y,H c=some (.own y)→c≠x:=fun c y r z=>by subst z; rw [r] at mu; exact mu
 have ntup:∀ c xs,H c=some (.tup xs)→c≠x:=fun c xs r z=>by subst z; rw [r] at mu; exact mu
 by_cases hb:b=x
 ·subst hb; rw [upd_same] at q; cases q; exact new
 ·rw [upd_ne hb] at q
  by_cases hbe:b=e
  ·have q':H b=some (.own x):=by
    rcases he with z | z
    ·exact absurd (hbe.trans z) hb
    ·rw [hbe]; exact z
   rw [q] at q'; cases q'
   obtain ⟨v,hv⟩:=heo
   exact ⟨v,by rw [hbe]; exact hv⟩
  ·refine (ok b u q).stay (fun c v hc r=>k c v ?_ r) (fun c r=>by rw [upd_ne (nown c b r)]; exact r) fun c xs r=>by rw [upd_ne (ntup c xs r)]; exact r
   rcases hc with rfl | hc
   ·exact hbe
   ·rintro rfl
    rcases he with z | z
    ·exact nown c b hc z
    ·rw [hc] at z; cases z; exact hb rfl
end
structure Un (fs ex:List Addr) (H H':Hp) (h h':Heap):Prop where
 keep:∀ b o,h.get? b=some o→H b=none→b ∉ fs→b ∉ ex→h'.get? b=some o
 slot:∀ b o,h.get? b=some o→H b=none→b∈fs→b ∉ ex→∃ sl,h'.get? b=some { o with slots:=sl }
 free:∀ b o,h.get? b=some o→H b=none→b ∉ ex→H' b=none
 there:∀ b o,h.get? b=some o→b ∉ ex→∃ o',h'.get? b=some o'
 tups:∀ b xs,H b=some (.tup xs)→H' b=some (.tup xs)
 frzs:∀ b o u,H b=some (.frz o u)→H' b=some (.frz o u)
 tbls:∀ b ps,H b=some (.tbl ps)→∃ more,H' b=some (.tbl (ps++more))
section
variable {fs fs' ex ex':List Addr} {H H1 H2:Hp} {h h1 h2 h':Heap} {a x e:Addr} {o:HO}
theorem Un.any (u:Un fs ex H H1 h h1) {b:Addr} {ob:Obj} (q:h.get? b=some ob) (n:H b=none) (hx:b ∉ ex):∃ sl,h1.get? b=some { ob with slots:=sl }:=by
 by_cases hb:b∈fs
 ·exact u.slot b ob q n hb hx
 ·exact ⟨ob.slots,u.keep b ob q n hb hx⟩
theorem Un.kept (k:∀ b u,h.get? b=some u→h'.get? b=some u):Un fs ex H H h h' :=
 ⟨fun b ob q _ _ _=>k b ob q,fun b ob q _ _ _=>⟨ob.slots,k b ob q⟩,fun _ _ _ n _=>n,fun b ob q _=>⟨ob,k b ob q⟩,fun _ _ q=>q,fun _ _ _ q=>q,fun _ ps q=>⟨#[],by rw [q]; simp⟩⟩
theorem Un.refl:Un fs ex H H h h:=Un.kept fun _ _ q=>q
theorem Un.laid (k:∀ b u,h.get? b=some u→h'.get? b=some u) (hp:h.objs.size≤a) (hn:H a=none):Un fs ex H (upd H a o) h h' where
 keep:=fun b u q _ _ _=>k b u q
 slot:=fun b u q _ _ _=>⟨u.slots,k b u q⟩
 free:=fun b u q n _=>by rw [upd_ne (Nat.ne_of_lt (Nat.lt_of_lt_of_le (Heap.lt_size q) hp))]; exact n
 there:=fun b u q _=>⟨u,k b u q⟩
 tups:=fun b xs q=>by rw [upd_ne (ne_of_none q hn)]; exact q
 frzs:=fun b u xs q=>by rw [upd_ne (ne_of_none q hn)]; exact q
 tbls:=fun b ps q=>⟨#[],by rw [upd_ne (ne_of_none q hn),q]; simp⟩
theorem Un.write (mu:Mut (H x)) (he:e=x∨H e=some (.own x)) (k:∀ b u,b≠e→h.get? b=some u→h'.get? b=some u) (heo:∃ u,h'.get? e=some u):Un fs ex H (upd H x o) h h':=by
 have hx:∀ b,H b=none→b≠x:=fun b n z=>by subst z; rw [n] at mu; exact mu
 have hb:∀ b,H b=none→b≠e:=fun b n z=>by
  subst z
  rcases he with r | r
  ·exact hx b n r
  ·rw [n] at r; cases r
 have hm:∀ b u,H b=some u→¬ Mut (some u)→b≠x:=fun b u q nm z=>by subst z; rw [q] at mu; exact nm mu
 refine ⟨fun b u q n _ _=>k b u (hb b n) q,fun b u q n _ _=>⟨u.slots,k b u (hb b n) q⟩,fun b u q n _=>by rw [upd_ne (hx b n)]; exact n,fun b u q _=>?_,
  fun b xs q=>by rw [upd_ne (hm b _ q fun z=>z)]; exact q,fun b u xs q=>by rw [upd_ne (hm b _ q fun z=>z)]; exact q,fun b ps q=>⟨#[],by rw [upd_ne (hm b _ q fun z=>z),q]; simp⟩⟩
 by_cases hbe:b=e
 ·subst hbe; exact heo
 ·exact ⟨u,k b u hbe q⟩
end
noncomputable def trk (h:Heap) (H:Hp):List Addr:=(List.range h.objs.size).filter fun a=>(H a).isSome
noncomputable def hidT (h:Heap) (H:Hp):Heap:=PySem.W.hideAll h (trk h H)
theorem hidT_size (h:Heap) (H:Hp):(hidT h H).objs.size=h.objs.size:=PySem.W.hideAll_size _ _
theorem hidT_get {h:Heap} {H:Hp} {b:Addr} {o:Obj} (e:h.get? b=some o) (n:H b=none):(hidT h H).get? b=some o :=
 PySem.W.hideAll_get _ e fun hm=>by
  have q:(H b).isSome=true:=(List.mem_filter.mp hm).2
  rw [n] at q; simp at q
theorem of_hidT {h:Heap} {H:Hp} {b:Addr} {o:Obj} (e:(hidT h H).get? b=some o):h.get? b=some o∧H b=none:=by
 have e':h.get? b=some o:=PySem.W.of_hideAll (trk h H) e
 refine ⟨e',?_⟩
 cases q:H b with
 | none=>rfl
 | some x =>
  have hm:b∈trk h H:=List.mem_filter.mpr ⟨List.mem_range.mpr (Heap.lt_size e'),by simp [q]⟩
  have z:(hidT h H).get? b=none:=PySem.W.hideAll_none (trk h H) hm
  rw [z] at e; cases e
end L2
namespace L2
open PySem PySem.Spec PyProof.Rows
structure Mod (K:PySem.W.Frag) (mg:Str→Option Value) (base:Heap):Prop where
 kin:K.In base
 glob:base.Ns mainGlobals mg
 blt:∃ mb,base.Ns builtinsNs mb∧∀ x:Str,x≠"__name__"→mb x=bootBuiltins x
 nolimit:base.NoLimit
structure Cx where
 prog:Program
 w:World
 K:PySem.W.Frag
 mg:Str→Option Value
 base:Heap
 A:Around
 N:List Str
 s₀:Shared
 H₀:Hp
 env:Env
 outer:List Env
 stack:List Env
 ex:List Addr
 fn:Str→Bool
 calm:Bool
 pn:List (Addr×Obj)
 xe:Value→Shared→Prop
noncomputable def frs (l:List Env):List Addr:=l.filterMap (·.frame)
noncomputable abbrev Cx.fs (X:Cx):List Addr:=frs X.outer
noncomputable def Vis (sc:Scope) (x:Str):Prop:=sc.names.lookup x=some .local∨sc.names.lookup x=some .cell∨sc.names.lookup x=some .free
noncomputable def Loc (sc:Scope) (x:Str):Prop:=sc.names.lookup x=some .local∨sc.names.lookup x=some .cell
noncomputable def Look (env:Env) (h:Heap) (m:Str→Option Value) (x:Str) (u:Value):Prop :=
 (env.kindOf x=some .local∧m x=some u)∨((env.kindOf x=some .cell∨env.kindOf x=some .free)∧∃ c,env.cells.lookup x=some c∧h.IsCell c (some u))
structure Cx.Ok (X:Cx):Prop where
 mod:Mod X.K X.mg X.base
 kind:X.env.scope.kind=.function
 glob:X.env.globals=mainGlobals
 blt:X.env.builtins=builtinsNs
 above:X.s₀.heap.objs.size≤X.env.locals
 inj:∀ x y c,X.env.cells.lookup x=some c→X.env.cells.lookup y=some c→x=y
 has:∀ x,(X.env.kindOf x=some .cell∨X.env.kindOf x=some .free)→∃ c,X.env.cells.lookup x=some c
 cab:∀ x c,X.fn x=true→X.env.cells.lookup x=some c→X.s₀.heap.objs.size≤c
 hd:X.calm=true→X.A.handled=none
 frames:X.A.frames=some X.stack
 stk:X.stack=X.outer∨(X.stack=X.env :: X.outer∧X.env.frame=some X.env.locals)
 exf:∀ b∈X.ex,b≠X.env.locals∧∀ x c,X.env.cells.lookup x=some c→c≠b
 bs:∀ b o,X.base.get? b=some o→X.s₀.heap.get? b=some o∧X.H₀ b=none
 bsz:X.base.objs.size≤X.s₀.heap.objs.size
 noex:∀ b o,X.base.get? b=some o→b ∉ X.ex
 exfs:∀ b∈X.ex,b ∉ X.fs
 funs:X.s₀.heap.FunFrames X.base X.outer
 frf:∀ b∈X.fs,X.H₀ b=none
structure Inv (X:Cx) (pins:List (Addr×Obj)) (σ:List (Option V)) (H:Hp) (s:Shared):Prop where
 ok:X.Ok
 os:s.os=X.s₀.os
 bare:AllBare s.gens
 base:Un X.fs X.ex X.H₀ H X.s₀.heap s.heap
 loc:∃ m,s.heap.Ns X.env.locals m∧∀ (i:Nat) (x:Str) (v:V),X.N[i]?=some x→σ[i]?=some (some v)→Vis X.env.scope x→∃ u,RelV v u∧Look X.env s.heap m x u
 cell:∀ x c,X.env.cells.lookup x=some c→∃ v,s.heap.IsCell c v
 free:H X.env.locals=none
 freeC:∀ x c,X.env.cells.lookup x=some c→H c=none
 pin:∀ p∈X.pn++pins,s.heap.get? p.1=some p.2∧H p.1=none∧p.1≠X.env.locals∧p.1 ∉ X.fs∧∀ v,p.2.data≠.cell v
 hok:HOk X.prog X.w H s.heap
 len:σ.length=X.N.length
section
variable {X:Cx} {pins:List (Addr×Obj)} {σ:List (Option V)} {H H':Hp} {s:Shared} {h':Heap}
theorem Cx.Ok.nofr (ok:X.Ok) {b:Addr} {o:Obj} (e:X.base.get? b=some o):b ∉ X.fs:=fun hb=>by
 have:=(ok.funs.mem hb).1
 rw [e] at this; cases this
theorem Inv.bs (I:Inv X pins σ H s):∀ b o,X.base.get? b=some o→s.heap.get? b=some o∧H b=none:=fun b o e =>
 ⟨I.base.keep b o (I.ok.bs b o e).1 (I.ok.bs b o e).2 (I.ok.nofr e) (I.ok.noex b o e),I.base.free b o (I.ok.bs b o e).1 (I.ok.bs b o e).2 (I.ok.noex b o e)⟩
theorem Inv.bk (I:Inv X pins σ H s):∀ b o,X.base.get? b=some o→s.heap.get? b=some o:=fun b o e=>(I.bs b o e).1
theorem Inv.mod (I:Inv X pins σ H s):Mod X.K X.mg X.base:=I.ok.mod
theorem Inv.kIn (I:Inv X pins σ H s):X.K.In s.heap:=I.ok.mod.kin.keeps I.bk
theorem Inv.fr (I:Inv X pins σ H s):∃ m,Fr X.base X.env.locals s.heap m :=
 let ⟨m,hn,_⟩:=I.loc
 ⟨m,hn,I.bk,Nat.le_trans I.ok.bsz I.ok.above⟩
theorem Inv.lt (I:Inv X pins σ H s):X.env.locals < s.heap.objs.size:=let ⟨_,hn,_⟩:=I.loc; hn.lt
theorem Inv.sz (I:Inv X pins σ H s):X.s₀.heap.objs.size≤s.heap.objs.size:=Nat.le_trans I.ok.above (Nat.le_of_lt I.lt)
theorem Inv.nofs (I:Inv X pins σ H s) {a:Addr} (h:s.heap.objs.size≤a):a ∉ X.fs:=fun hb=>by
 obtain ⟨_,o,ho,_⟩:=I.ok.funs.mem hb
 exact absurd (Nat.lt_of_lt_of_le (Heap.lt_size ho) (Nat.le_trans I.sz h)) (Nat.lt_irrefl _)
theorem Inv.cne (I:Inv X pins σ H s):∀ x c,X.env.cells.lookup x=some c→c≠X.env.locals:=fun x c e z=>by
 obtain ⟨v,o,ho,hd⟩:=I.cell x c e
 obtain ⟨m,⟨o',es,ep,ho',hd',_⟩,_⟩:=I.loc
 rw [z,ho'] at ho; cases ho; rw [hd'] at hd; cases hd
theorem Inv.funs (I:Inv X pins σ H s):s.heap.FunFrames X.base X.outer:=by
 have all:∀ (l:List Env),(∀ b∈frs l,b∈X.fs)→X.s₀.heap.FunFrames X.base l→s.heap.FunFrames X.base l:=by
  intro l
  induction l with
  | nil=>intro _ _; trivial
  | cons env r ih =>
   intro hs hl
   obtain ⟨hk,⟨L,o,hf,hn,ho,hd⟩,hr⟩:=hl
   have hL:L∈X.fs:=hs L (by unfold frs; rw [List.filterMap_cons,hf]; exact List.mem_cons_self)
   obtain ⟨sl,e⟩:=I.base.slot L o ho (I.ok.frf L hL) hL fun z=>I.ok.exfs L z hL
   exact ⟨hk,⟨L,_,hf,hn,e,hd⟩,ih (fun b hb=>hs b (by unfold frs; rw [List.filterMap_cons,hf]; exact List.mem_cons_of_mem _ hb)) hr⟩
 exact all X.outer (fun _ hb=>hb) I.ok.funs
theorem Inv.stack (I:Inv X pins σ H s):s.heap.FunFrames X.base X.stack:=by
 rcases I.ok.stk with e | ⟨e,hf⟩
 ·rw [e]; exact I.funs
 ·rw [e]
  obtain ⟨m,hn,_⟩:=I.loc
  refine .cons (by rw [I.ok.kind]; decide) hf hn ?_ I.funs
  exact Heap.get?_none_of_le (Nat.le_trans I.ok.bsz I.ok.above)
theorem Inv.stkSub (I:Inv X pins σ H s):∀ b∈frs X.stack,b∈X.env.locals :: X.fs:=fun b hb=>by
 rcases I.ok.stk with e | ⟨e,hf⟩
 ·rw [e] at hb; exact List.mem_cons_of_mem _ hb
 ·rw [e] at hb
  unfold frs at hb
  rw [List.filterMap_cons,hf] at hb
  exact hb
theorem Inv.stkFree (I:Inv X pins σ H s):∀ b∈frs X.stack,H b=none:=fun b hb=>by
 rcases List.mem_cons.mp (I.stkSub b hb) with e | hb
 ·rw [e]; exact I.free
 ·obtain ⟨_,o,ho,_⟩:=I.ok.funs.mem hb
  exact I.base.free b o ho (I.ok.frf b hb) fun z=>I.ok.exfs b z hb
theorem Inv.step {g':Array GenState} {t':Nat} {d':Drawn} {ch:List Addr} (I:Inv X pins σ H s)
  (hch:∀ b∈ch,(b∈X.ex∨X.s₀.heap.objs.size≤b)∧b≠X.env.locals∧(∀ x c,X.env.cells.lookup x=some c→c≠b)∧∀ p∈X.pn++pins,p.1≠b)
  (keep:∀ b o,b≠X.env.locals→b ∉ X.fs→b ∉ ch→s.heap.get? b=some o→H b=none→h'.get? b=some o)
  (slot:∀ b o,b≠X.env.locals→b∈X.fs→b ∉ ch→s.heap.get? b=some o→H b=none→∃ sl,h'.get? b=some { o with slots:=sl }) (free:∀ b o,b ∉ ch→s.heap.get? b=some o→H b=none→H' b=none)
  (there:∀ b o,b ∉ ch→s.heap.get? b=some o→∃ o',h'.get? b=some o')
  (tups:∀ b xs,H b=some (.tup xs)→H' b=some (.tup xs)) (frzs:∀ b o u,H b=some (.frz o u)→H' b=some (.frz o u)) (tbls:∀ b ps,H b=some (.tbl ps)→∃ more,H' b=some (.tbl (ps++more)))
  (ns:∀ m,s.heap.Ns X.env.locals m→h'.Ns X.env.locals m) (hok:HOk X.prog X.w H' h') (hg:AllBare g') :
  Inv X pins σ H' { s with heap:=h',gens:=g',drawn:=d',toks:=t' }:=by
 have neL:∀ b o,X.s₀.heap.get? b=some o→b≠X.env.locals:=fun b o e=>Nat.ne_of_lt (Nat.lt_of_lt_of_le (Heap.lt_size e) I.ok.above)
 have neC:∀ b o,X.s₀.heap.get? b=some o→b ∉ X.ex→b ∉ ch:=fun b o e hx hb=>by
  rcases (hch b hb).1 with z | z
  ·exact hx z
  ·exact absurd (Nat.lt_of_lt_of_le (Heap.lt_size e) z) (Nat.lt_irrefl _)
 have cellK:∀ x c,X.env.cells.lookup x=some c→∀ v,s.heap.IsCell c v→h'.IsCell c v:=fun x c e v ⟨o,ho,hd⟩=>by
  have nch:c ∉ ch:=fun z=>(hch c z).2.2.1 x c e rfl
  by_cases hc:c∈X.fs
  ·obtain ⟨sl,q⟩:=slot c o (I.cne x c e) hc nch ho (I.freeC x c e)
   exact ⟨_,q,hd⟩
  ·exact ⟨o,keep c o (I.cne x c e) hc nch ho (I.freeC x c e),hd⟩
 refine ⟨I.ok,I.os,hg,⟨fun b o e n hb hx=>?_,fun b o e n hb hx=>?_,fun b o e n hx=>?_,fun b o e hx=>?_,fun b xs e=>tups b xs (I.base.tups b xs e),fun b o xs e=>frzs b o xs (I.base.frzs b o xs e),fun b ps e=>?_⟩,?_,fun x c e=>?_,?_,fun x c e=>?_,fun p hp=>?_,hok,I.len⟩
 ·exact keep b o (neL b o e) hb (neC b o e hx) (I.base.keep b o e n hb hx) (I.base.free b o e n hx)
 ·obtain ⟨sl,e1⟩:=I.base.slot b o e n hb hx
  obtain ⟨sl',e2⟩:=slot b _ (neL b o e) hb (neC b o e hx) e1 (I.base.free b o e n hx)
  exact ⟨sl',e2⟩
 ·obtain ⟨o',e1⟩:=I.base.there b o e hx
  exact free b o' (neC b o e hx) e1 (I.base.free b o e n hx)
 ·obtain ⟨o',e1⟩:=I.base.there b o e hx
  exact there b o' (neC b o e hx) e1
 ·obtain ⟨m1,e1⟩:=I.base.tbls b ps e
  obtain ⟨m2,e2⟩:=tbls b _ e1
  exact ⟨m1++m2,by rw [e2,Array.append_assoc]⟩
 ·obtain ⟨m,hn,hl⟩:=I.loc
  refine ⟨m,ns m hn,fun i x v e1 e2 e3=>?_⟩
  obtain ⟨u,r,l⟩:=hl i x v e1 e2 e3
  refine ⟨u,r,?_⟩
  rcases l with l | ⟨k,c,e,z⟩
  ·exact .inl l
  ·exact .inr ⟨k,c,e,cellK x c e _ z⟩
 ·obtain ⟨v,z⟩:=I.cell x c e
  exact ⟨v,cellK x c e v z⟩
 ·obtain ⟨m,⟨o,_,_,ho,_⟩,_⟩:=I.loc
  exact free _ o (fun z=>(hch _ z).2.1 rfl) ho I.free
 ·obtain ⟨v,o,ho,hd⟩:=I.cell x c e
  exact free c o (fun z=>(hch c z).2.2.1 x c e rfl) ho (I.freeC x c e)
 ·obtain ⟨e,n,ne,nf,d⟩:=I.pin p hp
  have nch:p.1 ∉ ch:=fun z=>(hch p.1 z).2.2.2 p hp rfl
  exact ⟨keep p.1 p.2 ne nf nch e n,free p.1 p.2 nch e n,ne,nf,d⟩
theorem Inv.un {t':Nat} (I:Inv X pins σ H s) (u:Un X.fs [] H H' s.heap h') (hok:HOk X.prog X.w H' h'):Inv X pins σ H' { s with heap:=h',toks:=t' }:=by
 obtain ⟨m,⟨o,es,ep,ho,r⟩,_⟩:=id I.loc
 obtain ⟨sl,hL⟩:=u.any ho I.free (by simp)
 exact I.step (g':=s.gens) (d':=s.drawn) (ch:=[]) (fun _ z=>nomatch z) (fun b o _ hb _ e n=>u.keep b o e n hb (by simp)) (fun b o _ hb _ e n=>u.slot b o e n hb (by simp)) (fun b o _ e n=>u.free b o e n (by simp)) (fun b o _ e=>u.there b o e (by simp)) u.tups u.frzs u.tbls (fun m' hm=>by
  obtain ⟨o',es',ep',ho',r'⟩:=hm
  rw [ho] at ho'; cases ho'
  exact ⟨_,es',ep',hL,r'⟩) hok I.bare
theorem Inv.call {g':Array GenState} {t':Nat} {d':Drawn} {ch:List Addr} (I:Inv X pins σ H s) (u:Un (frs X.stack) ch H H' s.heap h') (hok:HOk X.prog X.w H' h') (hg:AllBare g')
  (hch:∀ b∈ch,(b∈X.ex∨X.s₀.heap.objs.size≤b)∧b≠X.env.locals∧(∀ x c,X.env.cells.lookup x=some c→c≠b)∧∀ p∈X.pn++pins,p.1≠b) :
  Inv X pins σ H' { s with heap:=h',gens:=g',drawn:=d',toks:=t' }:=by
 obtain ⟨m,⟨o,es,ep,ho,r⟩,_⟩:=id I.loc
 obtain ⟨sl,hL⟩:=u.any ho I.free fun z=>(hch _ z).2.1 rfl
 exact I.step (ch:=ch) hch (fun b o hL hb hc e n=>u.keep b o e n (fun z=>(List.mem_cons.mp (I.stkSub b z)).elim hL hb) hc) (fun b o _ _ hc e n=>u.any e n hc) (fun b o hc e n=>u.free b o e n hc) (fun b o hc e=>u.there b o e hc) u.tups u.frzs u.tbls (fun m' hm=>by
  obtain ⟨o',es',ep',ho',r'⟩:=hm
  rw [ho] at ho'; cases ho'
  exact ⟨_,es',ep',hL,r'⟩) hok hg
theorem Inv.turned {t':Nat} {it:Addr} (I:Inv X pins σ H s) (k:∀ b o,b≠it→s.heap.get? b=some o→h'.get? b=some o) (hn:H it=none) (hL:it≠X.env.locals)
  (h1:it∈X.ex∨X.s₀.heap.objs.size≤it) (h2:∀ x c,X.env.cells.lookup x=some c→c≠it) (h3:∀ p∈X.pn++pins,p.1≠it):Inv X pins σ H { s with heap:=h',toks:=t' }:=by
 have nit:∀ b u,H b=some u→b≠it:=fun b u e z=>by rw [z,hn] at e; cases e
 refine I.step (g':=s.gens) (d':=s.drawn) (ch:=[it]) (fun b hb=>?_) (fun b o _ _ hc e _=>k b o (fun z=>hc (by simp [z])) e) (fun b o _ _ hc e _=>⟨o.slots,k b o (fun z=>hc (by simp [z])) e⟩) (fun _ _ _ _ n=>n)
  (fun b o hc e=>⟨o,k b o (fun z=>hc (by simp [z])) e⟩) (fun _ _ e=>e) (fun _ _ _ e=>e) (fun b ps e=>⟨#[],by rw [e]; simp⟩) (fun m hm=>?_) (fun b u e=>?_) I.bare
 ·have e:b=it:=by simpa using hb
  subst e
  exact ⟨h1,hL,h2,h3⟩
 ·obtain ⟨o,es,ep,ho,r⟩:=hm
  exact ⟨o,es,ep,k _ o (Ne.symm hL) ho,r⟩
 ·refine (I.hok b u e).stay (fun c v hc q=>k c v ?_ q) (fun _ q=>q) fun _ _ q=>q
  rcases hc with z | z
  ·rw [z]; exact nit b u e
  ·exact nit c _ z
theorem Inv.tok (I:Inv X pins σ H s) (t:Nat):Inv X pins σ H { s with toks:=t }:=I.un (h':=s.heap) (t':=t) Un.refl I.hok
theorem Inv.kept {t':Nat} (I:Inv X pins σ H s) (k:∀ b u,s.heap.get? b=some u→h'.get? b=some u):Inv X pins σ H { s with heap:=h',toks:=t' }:=I.un (Un.kept k) (I.hok.kept k)
theorem Inv.laid {a:Addr} {o:HO} {t':Nat} (I:Inv X pins σ H s) (k:∀ b u,s.heap.get? b=some u→h'.get? b=some u) (hp:s.heap.objs.size≤a) (new:ObjOk X.prog X.w (upd H a o) h' a o) :
  Inv X pins σ (upd H a o) { s with heap:=h',toks:=t' }:=I.un (Un.laid k hp (I.hok.fresh hp)) (I.hok.laid k hp new)
theorem Inv.write {x e:Addr} {o:HO} {t':Nat} (I:Inv X pins σ H s) (mu:Mut (H x)) (he:e=x∨H e=some (.own x)) (k:∀ b u,b≠e→s.heap.get? b=some u→h'.get? b=some u) (heo:∃ u,h'.get? e=some u)
  (new:ObjOk X.prog X.w (upd H x o) h' x o):Inv X pins σ (upd H x o) { s with heap:=h',toks:=t' }:=I.un (Un.write mu he k heo) (I.hok.write mu he k heo new)
theorem Inv.pins_of {pins':List (Addr×Obj)} (I:Inv X pins σ H s) (h:∀ p∈pins',s.heap.get? p.1=some p.2∧H p.1=none∧p.1≠X.env.locals∧p.1 ∉ X.fs∧∀ v,p.2.data≠.cell v):Inv X pins' σ H s :=
 ⟨I.ok,I.os,I.bare,I.base,I.loc,I.cell,I.free,I.freeC,fun p hp=>(List.mem_append.mp hp).elim (fun z=>I.pin p (List.mem_append_left _ z)) (h p),I.hok,I.len⟩
theorem nodup_ix {N:List Str} (hN:N.Nodup) {i j:Nat} {x:Str} (a:N[i]?=some x) (b:N[j]?=some x):i=j:=by
 obtain ⟨h1,e1⟩:=List.getElem?_eq_some_iff.mp a
 obtain ⟨h2,e2⟩:=List.getElem?_eq_some_iff.mp b
 exact (List.getElem_inj hN).mp (e1.trans e2.symm)
theorem store_ok2 {M:Model} {A:Around} {E:Value→Shared→Prop} {i:Nat} {x:Str} {v:V} {u:Value} {Q:Unit→Shared→Prop} (I:Inv X pins σ H s) (hN:X.N.Nodup) (hi:X.N[i]?=some x) (hx:Loc X.env.scope x) (r:RelV v u)
  (h:∀ s',Inv X pins (σ.set i (some v)) H s'→(∃ a,Heap.SameBut a s.heap s'.heap∧(a=X.env.locals∨X.env.cells.lookup x=some a))→Q () s') (hf:X.fn x=true∨X.env.scope.names.lookup x=some .local:=by first | exact .inl rfl | exact .inr rfl | assumption):wpAny M A (storeName X.env x u) Q E s:=by
 obtain ⟨m,hn,hl⟩:=id I.loc
 have hcls:(X.env.scope.kind == .class || (X.env.scope.kind == .module && X.env.locals != X.env.globals))=false:=by rw [I.ok.kind]; rfl
 have hiσ:i < σ.length:=by rw [I.len]; exact (List.getElem?_eq_some_iff.mp hi).1
 have cne:=I.cne
 have tracked:∀ {a:Addr} {h':Heap},(∃ o,s.heap.get? a=some o∧H a=none)→Heap.SameBut a s.heap h'→HOk X.prog X.w H h':=fun {a h'} ha hs b ob e=>by
  obtain ⟨_,_,hfree⟩:=ha
  refine (I.hok b ob e).stay (fun c w' hc q=>(hs.2 c ?_).trans q) (fun _ q=>q) fun _ _ q=>q
  rintro rfl
  rcases hc with rfl | hc
  ·rw [hfree] at e; cases e
  ·rw [hfree] at hc; cases hc
 rcases hx with hk | hk
 ·refine wpAny_storeName_local hk hn (fun h' hn' hs=>?_) hcls
  obtain ⟨oL,_,_,hoL,_⟩:=id hn
  refine h _ ⟨I.ok,I.os,I.bare,⟨fun b o e n hb hx=>?_,fun b o e n hb hx=>?_,I.base.free,fun b o e hx=>?_,I.base.tups,I.base.frzs,I.base.tbls⟩,⟨_,hn',fun j y v' e1 e2 e3=>?_⟩,fun y c e=>?_,I.free,I.freeC,fun p hp=>?_,tracked ⟨oL,hoL,I.free⟩ hs,by simpa using I.len⟩ ⟨_,hs,.inl rfl⟩
  ·exact (hs.2 b (Nat.ne_of_lt (Nat.lt_of_lt_of_le (Heap.lt_size e) I.ok.above))).trans (I.base.keep b o e n hb hx)
  ·obtain ⟨sl,e1⟩:=I.base.slot b o e n hb hx
   exact ⟨sl,(hs.2 b (Nat.ne_of_lt (Nat.lt_of_lt_of_le (Heap.lt_size e) I.ok.above))).trans e1⟩
  ·obtain ⟨o',e1⟩:=I.base.there b o e hx
   exact ⟨o',(hs.2 b (Nat.ne_of_lt (Nat.lt_of_lt_of_le (Heap.lt_size e) I.ok.above))).trans e1⟩
  ·by_cases hj:j=i
   ·subst hj
    rw [hi] at e1; cases e1
    rw [List.getElem?_set_self hiσ] at e2
    cases e2
    exact ⟨u,r,.inl ⟨hk,by simp⟩⟩
   ·rw [List.getElem?_set_ne (Ne.symm hj)] at e2
    obtain ⟨u',r',q⟩:=hl j y v' e1 e2 e3
    refine ⟨u',r',?_⟩
    rcases q with ⟨k,e⟩ | ⟨k,c,e,z⟩
    ·refine .inl ⟨k,?_⟩
     have:y≠x:=fun e=>hj (nodup_ix hN e1 (e ▸ hi))
     simp [this,e]
    ·exact .inr ⟨k,c,e,z.sameBut hs (cne y c e)⟩
  ·obtain ⟨w',z⟩:=I.cell y c e
   exact ⟨w',z.sameBut hs (cne y c e)⟩
  ·obtain ⟨e,n,ne,nf,d⟩:=I.pin p hp
   exact ⟨(hs.2 p.1 ne).trans e,n,ne,nf,d⟩
 ·have hfn:X.fn x=true:=by
   rcases hf with z | z
   ·exact z
   ·rw [z] at hk; cases hk
  obtain ⟨c,hc⟩:=I.ok.has x (.inl hk)
  obtain ⟨w',z⟩:=I.cell x c hc
  refine wpAny_storeName_cell I.ok.kind hk hc z (fun h' hc' hs=>?_)
  obtain ⟨oc,hoc,hocd⟩:=id z
  refine h { s with heap:=h' } ⟨I.ok,I.os,I.bare,⟨fun b o e n hb hx=>?_,fun b o e n hb hx=>?_,I.base.free,fun b o e hx=>?_,I.base.tups,I.base.frzs,I.base.tbls⟩,⟨m,hn.sameBut hs (Ne.symm (cne x c hc)),fun j y v' e1 e2 e3=>?_⟩,fun y c' e=>?_,I.free,I.freeC,fun p hp=>?_,tracked ⟨oc,hoc,I.freeC x c hc⟩ hs,by simpa using I.len⟩ ⟨c,hs,.inr hc⟩
  ·exact (hs.2 b (Nat.ne_of_lt (Nat.lt_of_lt_of_le (Heap.lt_size e) (I.ok.cab x c hfn hc)))).trans (I.base.keep b o e n hb hx)
  ·obtain ⟨sl,e1⟩:=I.base.slot b o e n hb hx
   exact ⟨sl,(hs.2 b (Nat.ne_of_lt (Nat.lt_of_lt_of_le (Heap.lt_size e) (I.ok.cab x c hfn hc)))).trans e1⟩
  ·obtain ⟨o',e1⟩:=I.base.there b o e hx
   exact ⟨o',(hs.2 b (Nat.ne_of_lt (Nat.lt_of_lt_of_le (Heap.lt_size e) (I.ok.cab x c hfn hc)))).trans e1⟩
  ·by_cases hj:j=i
   ·subst hj
    rw [hi] at e1; cases e1
    rw [List.getElem?_set_self hiσ] at e2
    cases e2
    exact ⟨u,r,.inr ⟨.inl hk,c,hc,hc'⟩⟩
   ·rw [List.getElem?_set_ne (Ne.symm hj)] at e2
    obtain ⟨u',r',q⟩:=hl j y v' e1 e2 e3
    refine ⟨u',r',?_⟩
    rcases q with q | ⟨k,c',e,z'⟩
    ·exact .inl q
    ·refine .inr ⟨k,c',e,z'.sameBut hs ?_⟩
     rintro rfl
     exact hj (nodup_ix hN e1 (I.ok.inj _ _ _ e hc ▸ hi))
  ·by_cases hcc:c'=c
   ·subst hcc; exact ⟨_,hc'⟩
   ·obtain ⟨w2,z2⟩:=I.cell y c' e
    exact ⟨w2,z2.sameBut hs hcc⟩
  ·obtain ⟨e,n,ne,nf,d⟩:=I.pin p hp
   refine ⟨(hs.2 p.1 ?_).trans e,n,ne,nf,d⟩
   intro q
   rw [q,hoc] at e
   have q':oc=p.2:=Option.some.inj e
   exact d w' (by rw [← q']; exact hocd)
theorem store_ok {M:Model} {A:Around} {E:Value→Shared→Prop} {i:Nat} {x:Str} {v:V} {u:Value} {Q:Unit→Shared→Prop} (I:Inv X pins σ H s) (hN:X.N.Nodup) (hi:X.N[i]?=some x) (hx:Loc X.env.scope x) (r:RelV v u)
  (h:∀ s',Inv X pins (σ.set i (some v)) H s'→Q () s') (hf:X.fn x=true∨X.env.scope.names.lookup x=some .local:=by first | exact .inl rfl | exact .inr rfl | assumption):wpAny M A (storeName X.env x u) Q E s :=
 store_ok2 I hN hi hx r (fun s' I' _=>h s' I') hf
theorem Inv.call' {s':Shared} {ch:List Addr} (I:Inv X pins σ H s) (ho:s'.os=s.os) (u:Un (frs X.stack) ch H H' s.heap s'.heap) (hok:HOk X.prog X.w H' s'.heap) (hg:AllBare s'.gens)
  (hch:∀ b∈ch,(b∈X.ex∨X.s₀.heap.objs.size≤b)∧b≠X.env.locals∧(∀ x c,X.env.cells.lookup x=some c→c≠b)∧∀ p∈X.pn++pins,p.1≠b):Inv X pins σ H' s':=by
 obtain ⟨h',g',d',t',o'⟩:=s'
 have e:o'=s.os:=ho
 subst e
 exact I.call (g':=g') (t':=t') (d':=d') u hok hg hch
end
noncomputable abbrev XK:=Value→Option Addr→Hp→Prop
noncomputable abbrev St:=List (Option V)
noncomputable abbrev VK:=V→Hp→Prop
noncomputable abbrev TE:=St→Hp→VK→Prop
noncomputable abbrev TT:=St→Hp→(Bool→Hp→Prop)→Prop
noncomputable abbrev TA:=St→Hp→(List V→Hp→Prop)→Prop
structure Ends where
 nx:St→Hp→Prop
 rt:VK
 bk:St→Hp→Prop:=fun _ _=>False
 ct:St→Hp→Prop:=fun _ _=>False
noncomputable abbrev TS:=Ends→St→Hp→Prop
noncomputable def EP (X:Cx) (pins:List (Addr×Obj)) (σ:St) (Q:VK) (u:Value) (s':Shared):Prop:=∃ v H',Inv X pins σ H' s'∧RelV v u∧Q v H'
noncomputable def TP (X:Cx) (pins:List (Addr×Obj)) (σ:St) (Q:Bool→Hp→Prop) (b:Bool) (s':Shared):Prop:=∃ H',Inv X pins σ H' s'∧Q b H'
noncomputable def AP (X:Cx) (pins:List (Addr×Obj)) (σ:St) (Q:List V→Hp→Prop) (us:List Value) (s':Shared):Prop:=∃ vs H',Inv X pins σ H' s'∧Vals vs us∧Q vs H'
noncomputable def SP (X:Cx) (pins:List (Addr×Obj)) (D:Ends) (f:Flow) (s':Shared):Prop :=
 match f with
 | .next=>∃ σ' H',Inv X pins σ' H' s'∧D.nx σ' H'
 | .brk=>∃ σ' H',Inv X pins σ' H' s'∧D.bk σ' H'
 | .cont=>∃ σ' H',Inv X pins σ' H' s'∧D.ct σ' H'
 | .ret u=>∃ v σ' H',Inv X pins σ' H' s'∧RelV v u∧D.rt v H'
noncomputable def PE (X:Cx) (e:Expr) (t:TE):Prop :=
 ∀ (pins:List (Addr×Obj)) (s:Shared) (σ:St) (H:Hp) (Q:VK),Inv X pins σ H s→t σ H Q→wpAny (model X.prog X.w) X.A (eval e X.env) (EP X pins σ Q) X.xe s
noncomputable def PT (X:Cx) (e:Expr) (t:TT):Prop :=
 ∀ (pins:List (Addr×Obj)) (s:Shared) (σ:St) (H:Hp) (Q:Bool→Hp→Prop),Inv X pins σ H s→t σ H Q→wpAny (model X.prog X.w) X.A (isTrue e X.env (eval e X.env)) (TP X pins σ Q) X.xe s
noncomputable def PW (X:Cx) (e:Expr) (t:TT):Prop :=
 ∀ (whole:Sem Value) (pins:List (Addr×Obj)) (s:Shared) (σ:St) (H:Hp) (Q:Bool→Hp→Prop),Inv X pins σ H s→t σ H Q→wpAny (model X.prog X.w) X.A (isTrue e X.env whole) (TP X pins σ Q) X.xe s
theorem PW.pt {X:Cx} {e:Expr} {t:TT} (h:PW X e t):PT X e t:=h _
noncomputable def PA (X:Cx) (es:List Expr) (t:TA):Prop :=
 ∀ (pos:Pos) (pins:List (Addr×Obj)) (s:Shared) (σ:St) (H:Hp) (Q:List V→Hp→Prop),Inv X pins σ H s→t σ H Q→wpAny (model X.prog X.w) X.A (spliced (backTo pos (starEach es X.env))) (AP X pins σ Q) X.xe s
noncomputable def PS (X:Cx) (st:Stmt) (t:TS):Prop :=
 ∀ (pins:List (Addr×Obj)) (s:Shared) (σ:St) (H:Hp) (D:Ends),Inv X pins σ H s→t D σ H→wpAny (model X.prog X.w) X.A (exec st X.env) (SP X pins D) X.xe s
noncomputable def PSs (X:Cx) (st:List Stmt) (t:TS):Prop :=
 ∀ (pins:List (Addr×Obj)) (s:Shared) (σ:St) (H:Hp) (D:Ends),Inv X pins σ H s→t D σ H→wpAny (model X.prog X.w) X.A (execs st X.env) (SP X pins D) X.xe s
theorem thn {α:Type} {t:Sem α} {Q Q':α→Shared→Prop} {M:Model} {A:Around} {E:Value→Shared→Prop} {s:Shared} (h:wpAny M A t Q E s) (hQ:∀ a s,Q a s→Q' a s):wpAny M A t Q' E s:=wpAny_mono h hQ fun _ _ x=>x
end L2
namespace L2
open PySem PySem.Spec PyProof.Rows
section
variable {X:Cx}
noncomputable def tVar (i:Nat):TE:=fun σ H Q=>∃ v,σ[i]?=some (some v)∧Q v H
noncomputable def tC (v:V):TE:=fun _ H Q=>Q v H
theorem pe_var {i:Nat} {x:Str} {pos:Pos} (hN:X.N[i]?=some x) (hv:Vis X.env.scope x) (hd:(x == ("__debug__":Str))=false:=by decide) (hcd:(x == ("__classdict__":Str))=false:=by decide):PE X (.Name x pos) (tVar i):=by
 intro pins s σ H Q I h
 obtain ⟨v,e,h⟩:=h
 obtain ⟨m,hn,hl⟩:=I.loc
 obtain ⟨u,r,l⟩:=hl i x v hN e hv
 have fin:EP X pins σ Q u s:=⟨v,H,I,r,h⟩
 rcases l with ⟨hk,hm⟩ | ⟨hk,c,hc,hcell⟩
 ·exact wpAny_Name (wpAny_loadName_local I.ok.kind hk hn hm fin) hd
 ·rcases hk with hk | hk
  ·exact wpAny_Name (wpAny_loadName_cell I.ok.kind hk hc hcell fin) hd
  ·exact wpAny_Name (wpAny_loadName_free I.ok.kind hk hc hcell fin hcd) hd
theorem pe_int {i j pos}:PE X (.Constant (.int i) j pos) (tC (.int i)):=fun _ _ _ H _ I h=>wpAny_Constant_int ⟨.int i,H,I.tok _,⟨_,rfl⟩,h⟩
theorem pe_bl {b j pos}:PE X (.Constant (.bool b) j pos) (tC (.bl b)):=fun _ _ _ H _ I h=>Constant_bool ⟨.bl b,H,I,rfl,h⟩
theorem pe_non {j pos}:PE X (.Constant .none j pos) (tC .non):=fun _ _ _ H _ I h=>Constant_none ⟨.non,H,I,rfl,h⟩
theorem pe_str {x j pos}:PE X (.Constant (.str x) j pos) (tC (.str x)):=fun _ _ _ H _ I h=>Calls.Constant_str ⟨.str x,H,I.tok _,⟨_,rfl⟩,h⟩
noncomputable def Gl (X:Cx) (x:Str):Prop:=X.env.kindOf x=some .globalImplicit
theorem ld_glob {E:Value→Shared→Prop} {pins:List (Addr×Obj)} {s:Shared} {σ:St} {H:Hp} {x:Str} {u:Value} {pos:Pos} {Q:Value→Shared→Prop} (I:Inv X pins σ H s) (hg:Gl X x) (hm:X.mg x=some u) (h:Q u s)
  (hd:(x == ("__debug__":Str))=false:=by decide):wpAny (model X.prog X.w) X.A (eval (.Name x pos) X.env) Q E s :=
 Calls.Name_function_global I.ok.kind hg (Calls.loadGlobal_global (by rw [I.ok.glob]; exact I.mod.glob.keeps I.bk) hm h) hd
theorem ld_blt {E:Value→Shared→Prop} {pins:List (Addr×Obj)} {s:Shared} {σ:St} {H:Hp} {x:Str} {u:Value} {pos:Pos} {Q:Value→Shared→Prop} (I:Inv X pins σ H s) (hg:Gl X x) (hm:X.mg x=none) (hv:bootBuiltins x=some u) (h:Q u s)
  (hn:x≠"__name__":=by decide) (hd:(x == ("__debug__":Str))=false:=by decide):wpAny (model X.prog X.w) X.A (eval (.Name x pos) X.env) Q E s:=by
 obtain ⟨mb,h1,h2⟩:=I.mod.blt
 exact Calls.Name_function_global I.ok.kind hg (Calls.loadGlobal_builtin (by rw [I.ok.glob]; exact I.mod.glob.keeps I.bk) hm (by rw [I.ok.blt]; exact h1.keeps I.bk) ((h2 x hn).trans hv) h) hd
theorem pe_glob {x:Str} {v:V} {u:Value} {pos:Pos} (hg:Gl X x) (hm:X.mg x=some u) (r:RelV v u) (hd:(x == ("__debug__":Str))=false:=by decide):PE X (.Name x pos) (tC v) :=
 fun _ _ _ H _ I h=>ld_glob I hg hm ⟨v,H,I,r,h⟩ hd
theorem pe_bltn {x:Str} {v:V} {u:Value} {pos:Pos} (hg:Gl X x) (hm:X.mg x=none) (hv:bootBuiltins x=some u) (r:RelV v u) (hn:x≠"__name__":=by decide) (hd:(x == ("__debug__":Str))=false:=by decide):PE X (.Name x pos) (tC v) :=
 fun _ _ _ H _ I h=>ld_blt I hg hm hv ⟨v,H,I,r,h⟩ hn hd
variable {a b:Expr} {ta tb:TE} {pos:Pos}
noncomputable def tB (t:TE):TT:=fun σ H Q=>t σ H fun x H1=>∃ c,x=.bl c∧Q c H1
theorem pt_val {e:Expr} {t:TE} (h:PE X e t) (he:∀ whole,isTrue e X.env whole=(do let v ← whole; standAt e.pos; holding [v] (truthy v)):=by intro _; rfl):PT X e (tB t):=by
 intro pins s σ H Q I hw
 refine isTrue_plain (thn (h pins s σ H _ I hw) fun v s1 ⟨x,H1,I1,r1,q1⟩=>?_) (he _)
 obtain ⟨d,rfl,q⟩:=q1
 cases r1
 exact wpAny_truthy_bool ⟨H1,I1,q⟩
variable {tA tB':TT} {rest:List Expr}
noncomputable def tAnd (t u:TT):TT:=fun σ H Q=>t σ H fun c H1=>if c=true then u σ H1 Q else Q false H1
noncomputable def tOr (t u:TT):TT:=fun σ H Q=>t σ H fun c H1=>if c=true then Q true H1 else u σ H1 Q
theorem pw_and1 (ha:PT X a tA):PW X (.BoolOp .And [a] pos) tA:=by
 intro wh pins s σ H Q I h
 refine isTrue_and (thn (ha pins s σ H Q I h) fun c s1 e=>?_)
 cases c with
 | true=>exact isTrue_and_nil e
 | false=>exact e
theorem pw_or1 (ha:PT X a tA):PW X (.BoolOp .Or [a] pos) tA:=by
 intro wh pins s σ H Q I h
 refine isTrue_or (thn (ha pins s σ H Q I h) fun c s1 e=>?_)
 cases c with
 | false=>exact isTrue_or_nil e
 | true=>exact e
theorem pw_and (ha:PT X a tA) (hb:PW X (.BoolOp .And (b :: rest) pos) tB'):PW X (.BoolOp .And (a :: b :: rest) pos) (tAnd tA tB'):=by
 intro wh pins s σ H Q I h
 refine isTrue_and (thn (ha pins s σ H _ I h) fun c s1 ⟨H1,I1,q1⟩=>?_)
 cases c with
 | true=>exact hb wh pins s1 σ H1 Q I1 q1
 | false=>exact ⟨H1,I1,q1⟩
theorem pw_or (ha:PT X a tA) (hb:PW X (.BoolOp .Or (b :: rest) pos) tB'):PW X (.BoolOp .Or (a :: b :: rest) pos) (tOr tA tB'):=by
 intro wh pins s σ H Q I h
 refine isTrue_or (thn (ha pins s σ H _ I h) fun c s1 ⟨H1,I1,q1⟩=>?_)
 cases c with
 | true=>exact ⟨H1,I1,q1⟩
 | false=>exact hb wh pins s1 σ H1 Q I1 q1
noncomputable def tIf (t:TT) (ta tb:TE):TE:=fun σ H Q=>t σ H fun c H1=>if c=true then ta σ H1 Q else tb σ H1 Q
theorem pe_ifExp {c:Expr} (hc:PT X c tA) (ha:PE X a ta) (hb:PE X b tb):PE X (.IfExp c a b pos) (tIf tA ta tb):=by
 intro pins s σ H Q I h
 refine wpAny_IfExp (thn (hc pins s σ H _ I h) fun d s1 ⟨H1,I1,q1⟩=>?_)
 cases d with
 | true=>exact ha pins s1 σ H1 Q I1 q1
 | false=>exact hb pins s1 σ H1 Q I1 q1
end
end L2
namespace L2
open PySem PySem.Spec PyProof.Rows
noncomputable def SqL (K:PySem.W.Frag) (H:Hp) (a:Addr) (xs:List V):Prop :=
 Rd H a (.lst xs) ∨
  ∃ (o:Obj) (its:Array Value) (n:Nat),K.lookup a=some o∧o.cls=.type "list"∧o.dict=none∧o.data=.seq its n∧its.size≤sizeLine∧Vals xs its.toList
noncomputable def SqT (K:PySem.W.Frag) (H:Hp) (a:Addr) (xs:List V):Prop :=
 Rd H a (.tup xs) ∨
  ∃ (o:Obj) (its:Array Value) (n:Nat),K.lookup a=some o∧o.cls=.type "tuple"∧o.data=.seq its n∧its.size≤sizeLine∧Vals xs its.toList
noncomputable def absV:Value→Option V
 | .none=>some .non
 | .bool b=>some (.bl b)
 | .int i _=>some (.int i)
 | .str x _=>some (.str x)
 | .bytes b _=>some (.byt b)
 | .float b _=>some (.flt b)
 | .ref a=>some (.ref a)
 | .type n=>some (.ty n)
 | _=>none
theorem RelV.abs {x:V} {u:Value} (r:RelV x u):absV u=some x:=by
 cases x with
 | non=>cases r; rfl
 | bl _=>cases r; rfl
 | int _=>obtain ⟨t,rfl⟩:=r; rfl
 | str _=>obtain ⟨t,rfl⟩:=r; rfl
 | byt _=>obtain ⟨t,rfl⟩:=r; rfl
 | flt _=>obtain ⟨t,rfl⟩:=r; rfl
 | ref _=>cases r; rfl
 | ty _=>cases r; rfl
theorem RelV.inj {x y:V} {u:Value} (r:RelV x u) (q:RelV y u):x=y:=Option.some.inj (r.abs.symm.trans q.abs)
theorem Vals.inj:∀ {xs ys:List V} {us:List Value},Vals xs us→Vals ys us→xs=ys
 | _,_,_,.nil,.nil=>rfl
 | _,_,_,.cons r t,.cons r' t'=>by rw [r.inj r',Vals.inj t t']
section
variable {X:Cx} {pins:List (Addr×Obj)} {σ:St} {H:Hp} {s:Shared} {a:Addr} {xs ys:List V}
theorem SqL.of {K:PySem.W.Frag} (h:H a=some (.lst xs)):SqL K H a xs:=.inl (.inl h)
theorem SqT.of {K:PySem.W.Frag} (h:H a=some (.tup xs)):SqT K H a xs:=.inl (.inl h)
theorem Inv.list (I:Inv X pins σ H s) (h:SqL X.K H a xs):∃ its:List Value,Vals xs its∧PlainL s.heap a its.toArray∧xs.length≤sizeLine:=by
 rcases h with h | ⟨o,its,n,hk,hc,hd,hs,hz,r⟩
 ·obtain ⟨z,its,n,r,e⟩:=h.ok I.hok
  exact ⟨its,r,⟨_,n,e,rfl,rfl,rfl⟩,z⟩
 ·refine ⟨its.toList,r,⟨o,n,I.kIn a o hk,hc,hd,by simpa using hs⟩,?_⟩
  have e:=r.length
  simp only [Array.length_toList] at e
  lia
theorem Inv.tuple (I:Inv X pins σ H s) (h:SqT X.K H a xs):∃ its:List Value,Vals xs its∧IsTup s.heap a its.toArray∧xs.length≤sizeLine:=by
 rcases h with h | ⟨o,its,n,hk,hc,hs,hz,r⟩
 ·obtain ⟨z,its,r,p⟩:=h.ok I.hok
  exact ⟨its,r,p,z⟩
 ·refine ⟨its.toList,r,⟨o,I.kIn a o hk,hc,n,by simpa using hs⟩,?_⟩
  have e:=r.length
  simp only [Array.length_toList] at e
  lia
theorem Inv.list_inj (I:Inv X pins σ H s) (h:SqL X.K H a xs) (h':SqL X.K H a ys):xs=ys:=by
 obtain ⟨its,r,⟨o,n,e,_,_,d⟩,_⟩:=I.list h
 obtain ⟨its',r',⟨o',n',e',_,_,d'⟩,_⟩:=I.list h'
 rw [e] at e'; cases e'
 rw [d] at d'
 injection d' with d1 _
 have:its=its':=by simpa using congrArg Array.toList d1
 subst this
 exact r.inj r'
theorem Inv.tuple_inj (I:Inv X pins σ H s) (h:SqT X.K H a xs) (h':SqT X.K H a ys):xs=ys:=by
 obtain ⟨its,r,⟨o,e,_,n,d⟩,_⟩:=I.tuple h
 obtain ⟨its',r',⟨o',e',_,n',d'⟩,_⟩:=I.tuple h'
 rw [e] at e'; cases e'
 rw [d] at d'
 injection d' with d1 _
 have:its=its':=by simpa using congrArg Array.toList d1
 subst this
 exact r.inj r'
end
noncomputable abbrev Cx.wish (X:Cx) (E:Value→Shared→Prop):Cx:={ X with xe:=E }
noncomputable abbrev Cx.nox (X:Cx):Cx:=X.wish fun _ _=>False
theorem Cx.Ok.wish {X:Cx} (ok:X.Ok) (E:Value→Shared→Prop):(X.wish E).Ok :=
 ⟨ok.mod,ok.kind,ok.glob,ok.blt,ok.above,ok.inj,ok.has,ok.cab,ok.hd,ok.frames,ok.stk,ok.exf,ok.bs,ok.bsz,ok.noex,ok.exfs,ok.funs,ok.frf⟩
theorem Cx.Ok.unwish {X:Cx} {E:Value→Shared→Prop} (ok:(X.wish E).Ok):X.Ok :=
 ⟨ok.mod,ok.kind,ok.glob,ok.blt,ok.above,ok.inj,ok.has,ok.cab,ok.hd,ok.frames,ok.stk,ok.exf,ok.bs,ok.bsz,ok.noex,ok.exfs,ok.funs,ok.frf⟩
section
variable {X:Cx} {pins:List (Addr×Obj)} {σ:St} {H:Hp} {s:Shared} {E:Value→Shared→Prop}
theorem Inv.wish (I:Inv X pins σ H s) (E:Value→Shared→Prop):Inv (X.wish E) pins σ H s:=⟨I.ok.wish E,I.os,I.bare,I.base,I.loc,I.cell,I.free,I.freeC,I.pin,I.hok,I.len⟩
theorem Inv.unwish (I:Inv (X.wish E) pins σ H s):Inv X pins σ H s:=⟨I.ok.unwish,I.os,I.bare,I.base,I.loc,I.cell,I.free,I.freeC,I.pin,I.hok,I.len⟩
theorem SP.unwish {D:Ends} {f:Flow} {s':Shared} (h:SP (X.wish E) pins D f s'):SP X pins D f s':=by
 cases f with
 | next=>obtain ⟨σ',H',I,q⟩:=h; exact ⟨σ',H',I.unwish,q⟩
 | brk=>obtain ⟨σ',H',I,q⟩:=h; exact ⟨σ',H',I.unwish,q⟩
 | cont=>obtain ⟨σ',H',I,q⟩:=h; exact ⟨σ',H',I.unwish,q⟩
 | ret u=>obtain ⟨v,σ',H',I,r,q⟩:=h; exact ⟨v,σ',H',I.unwish,r,q⟩
theorem PSs.nox {st:List Stmt} {t:TS} (h:PSs X.nox st t):PSs X st t:=fun pins s σ H D I hw =>
 wpAny_mono (h pins s σ H D (I.wish _) hw) (fun _ _ q=>q.unwish) fun _ _ z=>False.elim z
end
section
variable {X:Cx} {st:Stmt} {rest:List Stmt} {t u:TS} {e:Expr} {te:TE} {pos:Pos}
noncomputable def tNext:TS:=fun D σ H=>D.nx σ H
noncomputable def tSeq (t u:TS):TS:=fun D σ H=>t { D with nx:=u D } σ H
theorem pss_nil:PSs X [] tNext:=fun _ _ σ H _ I h=>wpAny_execs_nil ⟨σ,H,I,h⟩
theorem pss_cons (h1:PS X st t) (h2:PSs X rest u):PSs X (st :: rest) (tSeq t u):=by
 intro pins s σ H D I h
 refine wpAny_execs_cons (thn (h1 pins s σ H { D with nx:=u D } I h) fun f s1 q=>?_)
 cases f with
 | next =>
  obtain ⟨σ',H',I',q⟩:=q
  exact h2 pins s1 σ' H' D I' q
 | ret v=>exact q
 | brk=>exact q
 | cont=>exact q
theorem pss_one (h1:PS X st t):PSs X [st] t:=by
 intro pins s σ H D I h
 refine wpAny_execs_cons (thn (h1 pins s σ H D I h) fun f s1 q=>?_)
 cases f with
 | next=>exact wpAny_execs_nil q
 | ret v=>exact q
 | brk=>exact q
 | cont=>exact q
noncomputable def tCont:TS:=fun D σ H=>D.ct σ H
theorem ps_continue:PS X (.Continue pos) tCont:=fun _ _ σ H _ I h=>wpAny_Continue ⟨σ,H,I,h⟩
theorem Inv.quiet {pins:List (Addr×Obj)} {σ:St} {H:Hp} {s:Shared} (I:Inv X pins σ H s):interactive X.env=false:=by simp [interactive,I.ok.kind]
noncomputable def tDrop (te:TE):TS:=fun D σ H=>te σ H fun _ H1=>D.nx σ H1
theorem ps_expr (he:PE X e te) (hs:swapsWith e none pos.line X.env=pure false:=by rfl):PS X (.Expr e pos) (tDrop te):=by
 intro pins s σ H D I h
 exact wpAny_Expr_any (thn (he pins s σ H _ I h) fun v s1 ⟨x,H1,I1,r1,q1⟩=>⟨σ,H1,I1,q1⟩) I.quiet hs
noncomputable def tRet (te:TE):TS:=fun D σ H=>te σ H D.rt
theorem ps_ret (he:PE X e te):PS X (.Return (some e) pos) (tRet te):=by
 intro pins s σ H D I h
 exact wpAny_Return_some (thn (he pins s σ H _ I h) fun v s1 ⟨x,H1,I1,r1,q1⟩=>⟨x,σ,H1,I1,r1,q1⟩)
noncomputable def tIfS (c:TT) (t u:TS):TS:=fun D σ H=>c σ H fun b H1=>if b=true then t D σ H1 else u D σ H1
theorem ps_if {c:Expr} {a b:List Stmt} {tc:TT} (hc:PT X c tc) (ha:PSs X a t) (hb:PSs X b u):PS X (.If c a b pos) (tIfS tc t u):=by
 intro pins s σ H D I h
 refine wpAny_If (thn (hc pins s σ H _ I h) fun d s1 ⟨H1,I1,q1⟩=>?_)
 cases d with
 | true=>exact ha pins s1 σ H1 D I1 q1
 | false=>exact hb pins s1 σ H1 D I1 q1
noncomputable def tNever:TS:=fun _ _ _=>False
theorem ps_never:PS X st tNever:=fun _ _ _ _ _ _ h=>h.elim
end
noncomputable abbrev TG:=V→St→Hp→(St→Hp→Prop)→Prop
noncomputable abbrev TGs:=List V→St→Hp→(St→Hp→Prop)→Prop
noncomputable def PG (X:Cx) (target:Expr) (t:TG):Prop :=
 ∀ (pins:List (Addr×Obj)) (s:Shared) (σ:St) (H:Hp) (v:V) (u:Value) (Q:St→Hp→Prop),Inv X pins σ H s→RelV v u→t v σ H Q →
  wpAny (model X.prog X.w) X.A (assign target X.env u) (fun _ s'=>∃ σ' H',Inv X pins σ' H' s'∧Q σ' H') X.xe s
noncomputable def PGs (X:Cx) (ts:List Expr) (t:TGs):Prop :=
 ∀ (pins:List (Addr×Obj)) (s:Shared) (σ:St) (H:Hp) (vs:List V) (us:List Value) (Q:St→Hp→Prop),Inv X pins σ H s→Vals vs us→t vs σ H Q →
  wpAny (model X.prog X.w) X.A (assignInOrder ((assignEach ts X.env).map (·.2)) us) (fun _ s'=>∃ σ' H',Inv X pins σ' H' s'∧Q σ' H') X.xe s
section
variable {X:Cx} {pos:Pos}
noncomputable def gName (i:Nat):TG:=fun v σ H Q=>Q (σ.set i (some v)) H
theorem pg_name {i:Nat} {x:Str} (hN:X.N.Nodup) (hi:X.N[i]?=some x) (hx:Loc X.env.scope x) (hf:X.fn x=true∨X.env.scope.names.lookup x=some .local:=by first | exact .inl rfl | exact .inr rfl | assumption):PG X (.Name x pos) (gName i):=by
 intro pins s σ H v u Q I r h
 exact wpAny_assign_Name (store_ok I hN hi hx r (fun s' I'=>⟨_,H,I',h⟩) hf)
noncomputable def gNil:TGs:=fun vs σ H Q=>vs=[]∧Q σ H
noncomputable def gCons (t:TG) (u:TGs):TGs:=fun vs σ H Q=>∃ v r,vs=v :: r∧t v σ H fun σ' H'=>u r σ' H' Q
theorem pgs_nil:PGs X [] gNil:=by
 intro pins s σ H vs us Q I r h
 obtain ⟨e,h⟩:=h
 subst e
 cases r
 exact assignInOrder_nil ⟨σ,H,I,h⟩
theorem pgs_cons {e:Expr} {es:List Expr} {t:TG} {u:TGs} (h1:PG X e t) (h2:PGs X es u)
  (hs:(assignEach (e :: es) X.env).map (·.2)=assign e X.env :: (assignEach es X.env).map (·.2):=by rfl):PGs X (e :: es) (gCons t u):=by
 intro pins s σ H vs us Q I r h
 obtain ⟨v,vr,e1,h⟩:=h
 subst e1
 cases r with
 | cons r rr =>
  rw [hs]
  refine assignInOrder_cons (thn (h1 pins s σ H _ _ _ I r h) fun _ s1 ⟨σ1,H1,I1,q1⟩=>?_)
  exact h2 pins s1 σ1 H1 _ _ Q I1 rr q1
noncomputable def gTup (K:PySem.W.Frag) (n:Nat) (t:TGs):TG:=fun v σ H Q=>∃ a xs,v=.ref a∧SqT K H a xs∧xs.length=n∧t xs σ H Q
theorem pg_tup {es:List Expr} {k:Nat} {t:TGs} {n:Nat} (hc:X.calm=true) (h:PGs X es t)
  (hn:(assignEach es X.env).length=n:=by rfl) (hst:(assignEach es X.env).findIdx? (·.1)=none:=by rfl):PG X (.Tuple es k pos) (gTup X.K n t):=by
 intro pins s σ H v u Q I r hw
 obtain ⟨a,xs,e1,hq,hl,hw⟩:=hw
 subst e1
 cases r
 obtain ⟨its,rv,ht,hz⟩:=I.tuple hq
 refine assign_Tuple_tuple (I.ok.hd hc) ht (by simp [hn,← hl,rv.length]) hst fun h' hx=>?_
 have I1:Inv X pins σ H { s with heap:=h' }:=I.kept (t':=s.toks) fun b o e=>hx b o (Nat.ne_of_lt (Heap.lt_size e)) e
 exact h pins _ σ H xs _ Q I1 (by simpa using rv) hw
noncomputable def tAsg (te:TE) (g:TG):TS:=fun D σ H=>te σ H fun x H1=>g x σ H1 D.nx
theorem ps_set {i:Nat} {x:Str} {e:Expr} {te:TE} {pos':Pos} (hN:X.N.Nodup) (hi:X.N[i]?=some x) (hx:Loc X.env.scope x) (he:PE X e te) (hs:swapsWith e (some (.Name x pos')) pos.line X.env=pure false:=by rfl) (hf:X.fn x=true∨X.env.scope.names.lookup x=some .local:=by first | exact .inl rfl | exact .inr rfl | assumption) :
  PS X (.Assign [.Name x pos'] e pos) (tAsg te (gName i)):=by
 intro pins s σ H D I h
 refine wpAny_Assign_Name (thn (he pins s σ H _ I h) fun v s1 ⟨y,H1,I1,r1,q1⟩=>?_) hs
 exact store_ok I1 hN hi hx r1 (fun s2 I2=>⟨_,H1,I2,q1⟩) hf
end
section
variable {X:Cx} {pos:Pos}
noncomputable def tWhile (c:TT) (tb:TS):TS:=fun D σ H=>∃ W:Nat→St→Hp→Prop,(∃ m,W m σ H)∧∀ m σ H,W m σ H →
 c σ H fun b H1=>if b=true then ∃ N:St→Hp→Prop,(∀ σ' H',N σ' H'→∃ m',m' < m∧W m' σ' H')∧tb { D with nx:=N,ct:=N,bk:=D.nx } σ H1 else D.nx σ H1
theorem ps_while {c:Expr} {body:List Stmt} {tc:TT} {tb:TS} (hp:PassesOwn (model X.prog X.w) X.A X.env X.xe) (hc:PT X c tc) (hb:PSs X body tb):PS X (.While c body [] pos) (tWhile tc tb):=by
 intro pins s σ H D I h
 obtain ⟨W,⟨m0,w0⟩,turn⟩:=h
 refine wpAny_While (codeAny_whileLoop (fun n s'=>∃ σ' H',Inv X pins σ' H' s'∧W n σ' H') ?_ m0 ⟨σ,H,I,w0⟩)
 rintro n s1 ⟨σ1,H1,I1,w1⟩
 refine wpAny_passesOwn hp (thn (hc pins s1 σ1 H1 _ I1 (turn n σ1 H1 w1)) fun b s2 ⟨H2,I2,q2⟩=>?_)
 cases b with
 | true =>
  obtain ⟨N,hN,q2⟩:=q2
  rw [if_pos rfl]
  refine wpAny_passesOwn hp (thn (hb pins s2 σ1 H2 _ I2 q2) fun f s3 q3=>?_)
  cases f with
  | next =>
   obtain ⟨σ3,H3,I3,n3⟩:=q3
   obtain ⟨m',hm,w3⟩:=hN σ3 H3 n3
   exact ⟨m',hm,σ3,H3,I3,w3⟩
  | cont =>
   obtain ⟨σ3,H3,I3,n3⟩:=q3
   obtain ⟨m',hm,w3⟩:=hN σ3 H3 n3
   exact ⟨m',hm,σ3,H3,I3,w3⟩
  | brk=>exact q3
  | ret v=>exact q3
 | false =>
  rw [if_neg Bool.false_ne_true]
  exact wpAny_execs_nil ⟨σ1,H2,I2,q2⟩
end
structure It where
 go:Nat→Hp→Prop
 yld:Nat→Hp→V→Hp→Prop
 stop:Nat→Hp→Prop
noncomputable def FpOk (X:Cx) (pins:List (Addr×Obj)) (H:Hp) (b:Addr):Prop :=
 H b=none∧b≠X.env.locals∧b ∉ X.fs∧(b∈X.ex∨X.s₀.heap.objs.size≤b)∧(∀ x c,X.env.cells.lookup x=some c→c≠b)∧∀ p∈X.pn++pins,p.1≠b
theorem Inv.fpOk {X:Cx} {pins:List (Addr×Obj)} {σ:St} {H H':Hp} {s:Shared} {b:Addr} (I:Inv X pins σ H s) (hb:s.heap.objs.size≤b) (hn:H' b=none):FpOk X pins H' b:=by
 refine ⟨hn,Nat.ne_of_gt (Nat.lt_of_lt_of_le I.lt hb),I.nofs hb,.inr (Nat.le_trans I.sz hb),fun x c e z=>?_,fun p hp z=>?_⟩
 ·obtain ⟨v,q⟩:=I.cell x c e
  exact absurd (Nat.lt_of_lt_of_le q.lt (by rw [z]; exact hb)) (Nat.lt_irrefl _)
 ·exact absurd (Nat.lt_of_lt_of_le (Heap.lt_size (I.pin p hp).1) (by rw [z]; exact hb)) (Nat.lt_irrefl _)
structure Turn (P:Program) (w:World) (K:PySem.W.Frag) (tg:Expr) (J:It) (fp:List Addr) (it:Addr) (tn:Nat→Heap→Prop):Prop where
 mem:it∈fp
 obj:∀ i h,tn i h→∀ b∈fp,∃ o,h.get? b=some o∧∀ v,o.data≠.cell v
 keep:∀ i h h',tn i h→(∀ b∈fp,∀ o,h.get? b=some o→h'.get? b=some o)→tn i h'
 item:∀ (X:Cx),X.prog=P→X.w=w→X.K=K→X.calm=true→∀ (i:Nat) (pins:List (Addr×Obj)) (s:Shared) (σ:St) (H:Hp) (E:Value→Shared→Prop),Inv X pins σ H s→(∀ b∈fp,FpOk X pins H b)→tn i s.heap→J.go i H →
  wpAny (model P w) X.A (pyNext (.ref it)) (fun r s1=>∃ u,r=some u ∧
   wpAny (model P w) X.A (letOwnedTupleGo tg (.ref it) u) (fun _ s2=>∃ x H',Inv X pins σ H' s2∧RelV x u∧J.yld i H x H'∧tn (i + 1) s2.heap∧∀ b∈fp,H' b=none) E s1) E s
 done:∀ (X:Cx),X.prog=P→X.w=w→X.K=K→X.calm=true→∀ (i:Nat) (pins:List (Addr×Obj)) (s:Shared) (σ:St) (H:Hp) (E:Value→Shared→Prop),Inv X pins σ H s→(∀ b∈fp,FpOk X pins H b)→tn i s.heap→J.stop i H →
  wpAny (model P w) X.A (pyNext (.ref it)) (fun r s1=>r=none∧Inv X pins σ H s1) E s
 self:∀ (A:Around) (i:Nat) (s:Shared) (Q:Value→Shared→Prop) (E:Value→Shared→Prop),tn i s.heap→Q (.ref it) s→wpAny (model P w) A (pyIter (.ref it)) Q E s
noncomputable abbrev TI:=St→Hp→(It→Hp→Prop)→Prop
noncomputable def PIE (X:Cx) (pins:List (Addr×Obj)) (σ:St) (tg:Expr) (R:It→Hp→Prop) (itv:Value) (s2:Shared):Prop :=
 ∃ (it:Addr) (fp:List Addr) (tn:Nat→Heap→Prop) (J:It) (H':Hp),itv=.ref it∧Inv X pins σ H' s2∧Turn X.prog X.w X.K tg J fp it tn∧tn 0 s2.heap∧(∀ b∈fp,FpOk X pins H' b)∧R J H'
noncomputable def PI (X:Cx) (tg iter:Expr) (wi:TI):Prop :=
 ∀ (pins:List (Addr×Obj)) (s:Shared) (σ:St) (H:Hp) (R:It→Hp→Prop),Inv X pins σ H s→wi σ H R →
  wpAny (model X.prog X.w) X.A (eval iter X.env) (fun v s1=>wpAny (model X.prog X.w) X.A (pyIter v) (PIE X pins σ tg R) X.xe s1) X.xe s
theorem go_of {M:Model} {A:Around} {E:Value→Shared→Prop} {s:Shared} {tg:Expr} {it:Addr} {u:Value} {o:Obj} {n:String} {vs:Array Value} {Q:Unit→Shared→Prop} (ho:s.heap.get? it=some o) (hc:o.cls=.type n) (hd:o.data=.fields vs)
    (hn:["enumerate","zip","dict_itemiterator","dict_reverseitemiterator","odict_iterator","itertools.zip_longest","itertools.pairwise"].contains n=false) (hQ:Q () s):wpAny M A (letOwnedTupleGo tg (.ref it) u) Q E s:=by
  unfold letOwnedTupleGo
  cases tg <;> first
    | exact wpAny_pure hQ
    | (cases u <;> first
        | exact wpAny_pure hQ
        | (refine wpAny_bind (wpAny_load ho ?_)
           rw [hc,hd]
           show wpAny M A (if (["enumerate","zip","dict_itemiterator","dict_reverseitemiterator","odict_iterator","itertools.zip_longest","itertools.pairwise"].contains n && vs[0]? == some (rawInt _))=true then _ else _) Q E s
           rw [if_neg (by intro h; rw [hn,Bool.false_and] at h; cases h)]
           exact wpAny_pure hQ))
noncomputable def Itl (K:PySem.W.Frag) (a:Addr):It :=
 ⟨fun i H=>∃ xs x,SqL K H a xs∧xs[i]?=some x,fun i H x H'=>H'=H∧∀ xs,SqL K H a xs→xs[i]?=some x,fun i H=>∃ xs,SqL K H a xs∧xs.length≤i⟩
noncomputable def Itt (K:PySem.W.Frag) (a:Addr):It :=
 ⟨fun i H=>∃ xs x,SqT K H a xs∧xs[i]?=some x,fun i H x H'=>H'=H∧∀ xs,SqT K H a xs→xs[i]?=some x,fun i H=>∃ xs,SqT K H a xs∧xs.length≤i⟩
noncomputable def Itr (lo:Int) (n:Nat):It:=⟨fun i _=>i < n,fun i H x H'=>H'=H∧x=.int (lo + i),fun i _=>n≤i⟩
theorem turn_list {P:Program} {w:World} {K:PySem.W.Frag} {tg:Expr} (a it:Addr):Turn P w K tg (Itl K a) [it] it (fun i h=>h.IsListIter it a i) where
 mem:=by simp
 obj:=fun i h st b hb=>by
  have e:b=it:=by simpa using hb
  subst e
  obtain ⟨o,e,c,d⟩:=st
  exact ⟨o,e,fun v z=>by rw [d] at z; cases z⟩
 keep:=fun i h h' st k=>st.at fun o e=>k it (by simp) o e
 item:=by
  intro X hP hw hK hc i pins s σ H E I hf st hg
  subst hP hw hK
  obtain ⟨xs,x,hq,hx⟩:=hg
  obtain ⟨its,rv,p,hz⟩:=I.list hq
  obtain ⟨u,hu,ru⟩:=rv.get hx
  obtain ⟨f0,f1,f2,f3,f4,f5⟩:=hf it (by simp)
  refine wpAny_pyNext_list_item st p.isList (x:=u) (by simpa using hu) fun h' st' sb=>?_
  have I1:Inv X pins σ H { s with heap:=h' }:=I.turned (t':=s.toks) (fun b o hb e=>(sb.2 b hb).trans e) f0 f1 f3 f4 f5
  obtain ⟨o,e,c,d⟩:=id st'
  exact ⟨u,rfl,go_of (s:={ s with heap:=h' }) e c d (by decide) ⟨x,H,I1,ru,⟨rfl,fun ys hy=>by rw [I.list_inj hy hq]; exact hx⟩,st',fun b hb=>(hf b hb).1⟩⟩
 done:=by
  intro X hP hw hK hc i pins s σ H E I hf st hg
  subst hP hw hK
  obtain ⟨xs,hq,hx⟩:=hg
  obtain ⟨its,rv,p,hz⟩:=I.list hq
  obtain ⟨f0,f1,f2,f3,f4,f5⟩:=hf it (by simp)
  have hl:=rv.length
  exact wpAny_pyNext_list_end (I.ok.hd hc) st p.isList (by simp; lia) fun h' eb=>⟨rfl,I.turned (t':=s.toks) (fun b o hb e=>eb b o hb e) f0 f1 f3 f4 f5⟩
 self:=fun _ _ _ _ _ st h=>wpAny_pyIter_listiter st h
theorem turn_tuple {P:Program} {w:World} {K:PySem.W.Frag} {tg:Expr} (a it:Addr):Turn P w K tg (Itt K a) [it] it (fun i h=>h.IsTupleIter it a i) where
 mem:=by simp
 obj:=fun i h st b hb=>by
  have e:b=it:=by simpa using hb
  subst e
  obtain ⟨o,e,c,d⟩:=st
  exact ⟨o,e,fun v z=>by rw [d] at z; cases z⟩
 keep:=fun i h h' st k=>st.at fun o e=>k it (by simp) o e
 item:=by
  intro X hP hw hK hc i pins s σ H E I hf st hg
  subst hP hw hK
  obtain ⟨xs,x,hq,hx⟩:=hg
  obtain ⟨its,rv,p,hz⟩:=I.tuple hq
  obtain ⟨u,hu,ru⟩:=rv.get hx
  obtain ⟨f0,f1,f2,f3,f4,f5⟩:=hf it (by simp)
  refine wpAny_pyNext_tuple_item st (show s.heap.IsTuple a its.toArray from p) (x:=u) (by simpa using hu) fun h' st' sb=>?_
  have I1:Inv X pins σ H { s with heap:=h' }:=I.turned (t':=s.toks) (fun b o hb e=>(sb.2 b hb).trans e) f0 f1 f3 f4 f5
  obtain ⟨o,e,c,d⟩:=id st'
  exact ⟨u,rfl,go_of (s:={ s with heap:=h' }) e c d (by decide) ⟨x,H,I1,ru,⟨rfl,fun ys hy=>by rw [I.tuple_inj hy hq]; exact hx⟩,st',fun b hb=>(hf b hb).1⟩⟩
 done:=by
  intro X hP hw hK hc i pins s σ H E I hf st hg
  subst hP hw hK
  obtain ⟨xs,hq,hx⟩:=hg
  obtain ⟨its,rv,p,hz⟩:=I.tuple hq
  obtain ⟨f0,f1,f2,f3,f4,f5⟩:=hf it (by simp)
  have hl:=rv.length
  exact wpAny_pyNext_tuple_end (I.ok.hd hc) st (show s.heap.IsTuple a its.toArray from p) (by simp; lia) fun h' eb=>⟨rfl,I.turned (t':=s.toks) (fun b o hb e=>eb b o hb e) f0 f1 f3 f4 f5⟩
 self:=fun _ _ _ _ _ st h=>wpAny_pyIter_tupleiter st h
theorem turn_range {P:Program} {w:World} {K:PySem.W.Frag} {tg:Expr} (it:Addr) (lo:Int) (n:Nat):Turn P w K tg (Itr lo n) [it] it (fun i h=>IsRangeIter h it (lo + (i:Nat) * 1) ((n:Int) - (i:Nat)) 1) where
 mem:=by simp
 obj:=fun i h st b hb=>by
  have e:b=it:=by simpa using hb
  subst e
  exact ⟨_,st,fun v z=>by
   have z':Data.fields _=Data.cell v:=z
   cases z'⟩
 keep:=fun i h h' st k=>k it (by simp) _ st
 item:=by
  intro X hP hw hK hc i pins s σ H E I hf st hg
  subst hP hw hK
  obtain ⟨f0,f1,f2,f3,f4,f5⟩:=hf it (by simp)
  have W:=Walks.range (prog:=X.prog) (w:=X.w) (I.ok.hd hc) it lo 1 n
  refine W.item i s _ _ hg st fun v h' tk hv st' kk=>?_
  obtain ⟨t,rfl⟩:=hv
  have I1:Inv X pins σ H { s with heap:=h',toks:=tk }:=I.turned (fun b o hb e=>kk b o (by simpa using hb) e) f0 f1 f3 f4 f5
  refine ⟨_,rfl,go_of (s:={ s with heap:=h',toks:=tk }) (n:="range_iterator") st' rfl rfl (by decide) ⟨.int (lo + i),H,I1,⟨t,?_⟩,⟨rfl,rfl⟩,st',fun b hb=>(hf b hb).1⟩⟩
  rw [Int.mul_one]
 done:=by
  intro X hP hw hK hc i pins s σ H E I hf st hg
  subst hP hw hK
  obtain ⟨f0,f1,f2,f3,f4,f5⟩:=hf it (by simp)
  exact wpAny_pyNext_range_end (I.ok.hd hc) st (by have:n≤i:=hg; lia) fun h' eb=>⟨rfl,I.turned (t':=s.toks) (fun b o hb e=>eb b o hb e) f0 f1 f3 f4 f5⟩
 self:=fun _ _ _ _ _ st h=>wpAny_pyIter_rangeiter st h
end L2
namespace L2
open PySem PySem.Spec PyProof.Rows
section
variable {X:Cx} {tg:Expr}
noncomputable def iList (K:PySem.W.Frag) (tl:TE):TI:=fun σ H R=>tl σ H fun x H1=>∃ a,x=.ref a∧(∃ xs,SqL K H1 a xs)∧R (Itl K a) H1
noncomputable def iTup (K:PySem.W.Frag) (tl:TE):TI:=fun σ H R=>tl σ H fun x H1=>∃ a,x=.ref a∧(∃ xs,SqT K H1 a xs)∧R (Itt K a) H1
theorem pi_list {l:Expr} {tl:TE} (hl:PE X l tl):PI X tg l (iList X.K tl):=by
 intro pins s σ H R I h
 refine thn (hl pins s σ H _ I h) fun v s1 ⟨x,H1,I1,r1,q1⟩=>?_
 obtain ⟨a,e,⟨xs,hq⟩,q⟩:=q1
 subst e
 cases r1
 obtain ⟨its,rv,p,hz⟩:=I1.list hq
 refine wpAny_pyIter_list p.isList ?_
 refine ⟨s1.heap.objs.size,[s1.heap.objs.size],_,_,H1,rfl,I1.kept (t':=s1.toks) fun b o e=>Heap.get?_push_of_some _ e,turn_list a _,⟨_,Heap.get?_push_size _ rfl,rfl,rfl⟩,fun b hb=>?_,q⟩
 have e:b=s1.heap.objs.size:=by simpa using hb
 subst e
 exact I1.fpOk (Nat.le_refl _) (I1.hok.fresh (Nat.le_refl _))
theorem pi_tup {l:Expr} {tl:TE} (hl:PE X l tl):PI X tg l (iTup X.K tl):=by
 intro pins s σ H R I h
 refine thn (hl pins s σ H _ I h) fun v s1 ⟨x,H1,I1,r1,q1⟩=>?_
 obtain ⟨a,e,⟨xs,hq⟩,q⟩:=q1
 subst e
 cases r1
 obtain ⟨its,rv,p,hz⟩:=I1.tuple hq
 refine wpAny_pyIter_tuple (show s1.heap.IsTuple a its.toArray from p) ?_
 refine ⟨s1.heap.objs.size,[s1.heap.objs.size],_,_,H1,rfl,I1.kept (t':=s1.toks) fun b o e=>Heap.get?_push_of_some _ e,turn_tuple a _,⟨_,Heap.get?_push_size _ rfl,rfl,rfl⟩,fun b hb=>?_,q⟩
 have e:b=s1.heap.objs.size:=by simpa using hb
 subst e
 exact I1.fpOk (Nat.le_refl _) (I1.hok.fresh (Nat.le_refl _))
theorem range_it {pins:List (Addr×Obj)} {σ:St} {H:Hp} {s:Shared} {R:It→Hp→Prop} {E:Value→Shared→Prop} {lo hi:Int} {t u v:Tok} {tk:Nat} (I:Inv X pins σ H s) (h1:-(2 ^ 62)≤lo) (h2:lo < 2 ^ 62) (h3:-(2 ^ 62)≤hi) (h4:hi < 2 ^ 62)
  (q:R (Itr lo (hi - lo).toNat) H):wpAny (model X.prog X.w) X.A (pyIter (.ref s.heap.objs.size)) (PIE X pins σ tg R) E { s with heap:=s.heap.push { cls:=.type "range",data:=.fields #[.int lo t,.int hi u,.int 1 v] },toks:=tk }:=by
 refine wpAny_pyIter_range (IsRange.new ..) (small_one h1 h2 h3 h4) ?_
 have I1:Inv X pins σ H { s with heap:=s.heap.push { cls:=.type "range",data:=.fields #[.int lo t,.int hi u,.int 1 v] },toks:=tk }:=I.kept fun b o e=>Heap.get?_push_of_some _ e
 refine ⟨(s.heap.push { cls:=.type "range",data:=.fields #[.int lo t,.int hi u,.int 1 v] }).objs.size,[(s.heap.push { cls:=.type "range",data:=.fields #[.int lo t,.int hi u,.int 1 v] }).objs.size],_,_,H,rfl,
  I1.kept (t':=tk) fun b o e=>Heap.get?_push_of_some _ e,turn_range _ lo (hi - lo).toNat,?_,fun b hb=>?_,q⟩
 ·have e1:lo + ((0:Nat):Int) * 1=lo:=by simp
  have e2:(((hi - lo).toNat:Nat):Int) - ((0:Nat):Int)=Builtin.Range.rangeSize lo hi 1:=by rw [rangeSize_one]; split <;> lia
  show IsRangeIter _ _ (lo + ((0:Nat):Int) * 1) ((((hi - lo).toNat:Nat):Int) - ((0:Nat):Int)) 1
  rw [e1,e2]
  exact Heap.get?_push_size _ rfl
 ·have e:b=(s.heap.push { cls:=.type "range",data:=.fields #[.int lo t,.int hi u,.int 1 v] }).objs.size:=by simpa using hb
  subst e
  exact I1.fpOk (Nat.le_refl _) (I1.hok.fresh (Nat.le_refl _))
noncomputable def iRng1 (ta:TA):TI:=fun σ H R=>ta σ H fun vs H1=>∃ j:Int,vs=[.int j]∧-(2 ^ 62)≤j∧j < 2 ^ 62∧R (Itr 0 j.toNat) H1
noncomputable def iRng2 (ta:TA):TI:=fun σ H R=>ta σ H fun vs H1=>∃ i j:Int,vs=[.int i,.int j]∧(-(2 ^ 62)≤i∧i < 2 ^ 62∧-(2 ^ 62)≤j∧j < 2 ^ 62)∧R (Itr i (j - i).toNat) H1
theorem pi_range1 {a:Expr} {ta:TA} {p pos:Pos} (hg:Gl X "range") (hm:X.mg "range"=none) (ha:PA X [a] ta) (hs:starEach [a] X.env=[(false,eval a X.env)]:=by rfl):PI X tg (.Call (.Name "range" p) [a] [] pos) (iRng1 ta):=by
 intro pins s σ H R I h
 refine Call_ (ld_blt I hg hm boot_range (PyProof.Rows.callWith_type1 (thn (ha pos pins s σ H _ I h) fun us s1 ⟨vs,H1,I1,r1,q1⟩=>?_) hs rfl))
 obtain ⟨j,e,q1,q2,q⟩:=q1
 subst e
 cases r1 with
 | cons r rr =>
  cases rr
  obtain ⟨t,rfl⟩:=r
  exact call_range_1 (range_it I1 (by lia) (by lia) q1 q2 (by simpa using q))
theorem pi_range2 {a b:Expr} {ta:TA} {p pos:Pos} (hg:Gl X "range") (hm:X.mg "range"=none) (ha:PA X [a,b] ta) (hs:starEach [a,b] X.env=[(false,eval a X.env),(false,eval b X.env)]:=by rfl) (hs2:starEach [b] X.env=[(false,eval b X.env)]:=by rfl) :
  PI X tg (.Call (.Name "range" p) [a,b] [] pos) (iRng2 ta):=by
 intro pins s σ H R I h
 refine Call_ (ld_blt I hg hm boot_range (PyProof.Rows.callWith_type1 (thn (ha pos pins s σ H _ I h) fun us s1 ⟨vs,H1,I1,r1,q1⟩=>?_) (by rw [hs,hs2]) (by rw [hs2]; rfl)))
 obtain ⟨i,j,e,⟨q1,q2,q3,q4⟩,q⟩:=q1
 subst e
 cases r1 with
 | cons r rr =>
  cases rr with
  | cons r' rr =>
   cases rr
   obtain ⟨t,rfl⟩:=r
   obtain ⟨t',rfl⟩:=r'
   exact call_range_2 (range_it I1 q1 q2 q3 q4 q)
noncomputable def tFor (wi:TI) (g:TG) (tb:TS):TS:=fun D σ H=>wi σ H fun J H1=>∃ W:Nat→Nat→St→Hp→Prop,(∃ m,W 0 m σ H1)∧∀ i m σ H,W i m σ H →
 (J.stop i H∧D.nx σ H)∨(J.go i H∧∃ N:St→Hp→Prop,(∀ σ' H',N σ' H'→∃ m',m' < m∧W (i + 1) m' σ' H')∧∀ x H',J.yld i H x H'→g x σ H' fun σ2 H2=>tb { D with nx:=N,ct:=N,bk:=D.nx } σ2 H2)
noncomputable def pinsAt (fp:List Addr) (h:Heap):List (Addr×Obj):=fp.filterMap fun b=>(h.get? b).map fun o=>(b,o)
theorem mem_pinsAt {fp:List Addr} {h:Heap} {b:Addr} {o:Obj} (hb:b∈fp) (e:h.get? b=some o):(b,o)∈pinsAt fp h:=List.mem_filterMap.mpr ⟨b,hb,by rw [e]; rfl⟩
theorem of_pinsAt {fp:List Addr} {h:Heap} {p:Addr×Obj} (hp:p∈pinsAt fp h):p.1∈fp∧h.get? p.1=some p.2:=by
 obtain ⟨b,hb,e⟩:=List.mem_filterMap.mp hp
 cases q:h.get? b with
 | none=>rw [q] at e; cases e
 | some o =>
  rw [q] at e
  have e':(b,o)=p:=Option.some.inj e
  subst e'
  exact ⟨hb,q⟩
theorem Inv.pinned {pins:List (Addr×Obj)} {σ:St} {H:Hp} {s:Shared} {fp:List Addr} (I:Inv X pins σ H s) (hf:∀ b∈fp,FpOk X pins H b) (ho:∀ b∈fp,∃ o,s.heap.get? b=some o∧∀ v,o.data≠.cell v):Inv X (pins++pinsAt fp s.heap) σ H s :=
 I.pins_of fun p hp=>(List.mem_append.mp hp).elim (fun z=>I.pin p (List.mem_append_right _ z)) fun z=>by
  obtain ⟨hb,e⟩:=of_pinsAt z
  obtain ⟨f0,f1,f2,_⟩:=hf p.1 hb
  obtain ⟨o,e',d⟩:=ho p.1 hb
  rw [e] at e'; cases e'
  exact ⟨e,f0,f1,f2,d⟩
theorem Inv.unpinned {pins pl:List (Addr×Obj)} {σ:St} {H:Hp} {s:Shared} (I:Inv X (pins++pl) σ H s):Inv X pins σ H s:=I.pins_of fun p hp=>I.pin p (List.mem_append_right _ (List.mem_append_left _ hp))
theorem ps_for {iter:Expr} {body:List Stmt} {wi:TI} {g:TG} {tb:TS} {pos:Pos} (hp:PassesOwn (model X.prog X.w) X.A X.env X.xe) (hc:X.calm=true) (hi:PI X tg iter wi) (hg:PG X tg g) (hb:PSs X body tb)
  (hs:∀ x,foldedSetIterable iter X.env x=pure x:=by intro _; rfl):PS X (.For tg iter body [] pos) (tFor wi g tb):=by
 intro pins s σ H D I h
 refine wpAny_For (thn (hi pins s σ H _ I h) fun v s1 h1=>thn h1 fun itv s2 h2=>?_) hs
 obtain ⟨it,fp,tn,J,H2,e,I2,T,st2,f2,W,⟨m0,w0⟩,turn⟩:=h2
 subst e
 have stat:∀ {H':Hp},(∀ b∈fp,H' b=none)→∀ b∈fp,FpOk X pins H' b:=fun hn b hb=>⟨hn b hb,(f2 b hb).2⟩
 refine codeAny_forLoop_any (fun n s'=>∃ i σ' H',Inv X pins σ' H' s'∧tn i s'.heap∧(∀ b∈fp,H' b=none)∧W i n σ' H') ?_ m0 ⟨0,σ,H2,I2,st2,fun b hb=>(f2 b hb).1,w0⟩
 rintro n s3 ⟨i,σ3,H3,I3,st3,fr3,w3⟩
 rcases turn i n σ3 H3 w3 with ⟨stop,qn⟩ | ⟨go,N,hN,step⟩
 ·refine wpAny_passesOwn hp (thn (T.done X rfl rfl rfl hc i pins s3 σ3 H3 X.xe I3 (stat fr3) st3 stop) fun r s4 ⟨hr,I4⟩=>?_)
  subst hr
  exact wpAny_execs_nil ⟨σ3,H3,I4,qn⟩
 ·refine wpAny_passesOwn hp (thn (T.item X rfl rfl rfl hc i pins s3 σ3 H3 X.xe I3 (stat fr3) st3 go) fun r s4 ⟨u,hr,h4⟩=>?_)
  subst hr
  refine wpAny_passesOwn hp (thn h4 fun _ s5 ⟨x,H5,I5,r5,y5,st5,fr5⟩=>?_)
  have I5':=I5.pinned (stat fr5) (T.obj _ _ st5)
  refine wpAny_passesOwn hp (thn (hg _ s5 σ3 H5 x u _ I5' r5 (step x H5 y5)) fun _ s6 ⟨σ6,H6,I6,q6⟩=>?_)
  refine wpAny_passesOwn hp (thn (hb _ s6 σ6 H6 _ I6 q6) fun f s7 q7=>?_)
  have again:∀ {σ7:St} {H7:Hp},Inv X (pins++pinsAt fp s5.heap) σ7 H7 s7→N σ7 H7→∃ m,m < n∧∃ i σ' H',Inv X pins σ' H' s7∧tn i s7.heap∧(∀ b∈fp,H' b=none)∧W i m σ' H':=fun {σ7 H7} I7 n7=>by
   obtain ⟨m',hm,w7⟩:=hN σ7 H7 n7
   refine ⟨m',hm,i + 1,σ7,H7,I7.unpinned,T.keep _ _ _ st5 fun b hb o e=>(I7.pin (b,o) (List.mem_append_right _ (List.mem_append_right _ (mem_pinsAt hb e)))).1,fun b hb=>?_,w7⟩
   obtain ⟨o,e,d⟩:=T.obj _ _ st5 b hb
   exact (I7.pin (b,o) (List.mem_append_right _ (List.mem_append_right _ (mem_pinsAt hb e)))).2.1
  cases f with
  | next=>obtain ⟨σ7,H7,I7,n7⟩:=q7; exact again I7 n7
  | cont=>obtain ⟨σ7,H7,I7,n7⟩:=q7; exact again I7 n7
  | brk=>obtain ⟨σ7,H7,I7,q7⟩:=q7; exact ⟨σ7,H7,I7.unpinned,q7⟩
  | ret v=>obtain ⟨x7,σ7,H7,I7,r7,q7⟩:=q7; exact ⟨x7,σ7,H7,I7.unpinned,r7,q7⟩
end
theorem for_list {K:PySem.W.Frag} {a:Addr} {xs:List V} {g:TG} {tb:TS} {D:Ends} {σ:St} {H:Hp} (Pv:Nat→St→Hp→Prop) (h0:Pv 0 σ H) (hl:∀ i σ H,i≤xs.length→Pv i σ H→SqL K H a xs)
  (hs:∀ i x σ H,xs[i]?=some x→Pv i σ H→g x σ H fun σ2 H2=>tb { D with nx:=Pv (i + 1),ct:=Pv (i + 1),bk:=D.nx } σ2 H2) (hd:∀ σ H,Pv xs.length σ H→D.nx σ H) :
  ∃ W:Nat→Nat→St→Hp→Prop,(∃ m,W 0 m σ H)∧∀ i m σ H,W i m σ H →
   ((Itl K a).stop i H∧D.nx σ H)∨((Itl K a).go i H∧∃ N:St→Hp→Prop,(∀ σ' H',N σ' H'→∃ m',m' < m∧W (i + 1) m' σ' H')∧∀ x H',(Itl K a).yld i H x H'→g x σ H' fun σ2 H2=>tb { D with nx:=N,ct:=N,bk:=D.nx } σ2 H2):=by
 refine ⟨fun i m σ H=>m=xs.length - i∧i≤xs.length∧Pv i σ H,⟨xs.length,by simp,Nat.zero_le _,h0⟩,?_⟩
 rintro i m σ H ⟨rfl,hi,p⟩
 have q:=hl i σ H hi p
 by_cases hlt:i < xs.length
 ·refine .inr ⟨⟨xs,xs[i],q,by simp [hlt]⟩,Pv (i + 1),fun σ' H' p'=>⟨xs.length - (i + 1),by lia,rfl,hlt,p'⟩,fun x H' y=>?_⟩
  obtain ⟨e,y⟩:=y
  subst e
  exact hs i x σ _ (y xs q) p
 ·have e:i=xs.length:=by lia
  subst e
  exact .inl ⟨⟨xs,q,Nat.le_refl _⟩,hd σ H p⟩
theorem for_tup {K:PySem.W.Frag} {a:Addr} {xs:List V} {g:TG} {tb:TS} {D:Ends} {σ:St} {H:Hp} (Pv:Nat→St→Hp→Prop) (h0:Pv 0 σ H) (hl:∀ i σ H,i≤xs.length→Pv i σ H→SqT K H a xs)
  (hs:∀ i x σ H,xs[i]?=some x→Pv i σ H→g x σ H fun σ2 H2=>tb { D with nx:=Pv (i + 1),ct:=Pv (i + 1),bk:=D.nx } σ2 H2) (hd:∀ σ H,Pv xs.length σ H→D.nx σ H) :
  ∃ W:Nat→Nat→St→Hp→Prop,(∃ m,W 0 m σ H)∧∀ i m σ H,W i m σ H →
   ((Itt K a).stop i H∧D.nx σ H)∨((Itt K a).go i H∧∃ N:St→Hp→Prop,(∀ σ' H',N σ' H'→∃ m',m' < m∧W (i + 1) m' σ' H')∧∀ x H',(Itt K a).yld i H x H'→g x σ H' fun σ2 H2=>tb { D with nx:=N,ct:=N,bk:=D.nx } σ2 H2):=by
 refine ⟨fun i m σ H=>m=xs.length - i∧i≤xs.length∧Pv i σ H,⟨xs.length,by simp,Nat.zero_le _,h0⟩,?_⟩
 rintro i m σ H ⟨rfl,hi,p⟩
 have q:=hl i σ H hi p
 by_cases hlt:i < xs.length
 ·refine .inr ⟨⟨xs,xs[i],q,by simp [hlt]⟩,Pv (i + 1),fun σ' H' p'=>⟨xs.length - (i + 1),by lia,rfl,hlt,p'⟩,fun x H' y=>?_⟩
  obtain ⟨e,y⟩:=y
  subst e
  exact hs i x σ _ (y xs q) p
 ·have e:i=xs.length:=by lia
  subst e
  exact .inl ⟨⟨xs,q,Nat.le_refl _⟩,hd σ H p⟩
theorem for_range {lo:Int} {n:Nat} {g:TG} {tb:TS} {D:Ends} {σ:St} {H:Hp} (Pv:Nat→St→Hp→Prop) (h0:Pv 0 σ H)
  (hs:∀ i σ H,i < n→Pv i σ H→g (.int (lo + i)) σ H fun σ2 H2=>tb { D with nx:=Pv (i + 1),ct:=Pv (i + 1),bk:=D.nx } σ2 H2) (hd:∀ σ H,Pv n σ H→D.nx σ H) :
  ∃ W:Nat→Nat→St→Hp→Prop,(∃ m,W 0 m σ H)∧∀ i m σ H,W i m σ H →
   ((Itr lo n).stop i H∧D.nx σ H)∨((Itr lo n).go i H∧∃ N:St→Hp→Prop,(∀ σ' H',N σ' H'→∃ m',m' < m∧W (i + 1) m' σ' H')∧∀ x H',(Itr lo n).yld i H x H'→g x σ H' fun σ2 H2=>tb { D with nx:=N,ct:=N,bk:=D.nx } σ2 H2):=by
 refine ⟨fun i m σ H=>m=n - i∧i≤n∧Pv i σ H,⟨n,by simp,Nat.zero_le _,h0⟩,?_⟩
 rintro i m σ H ⟨rfl,hi,p⟩
 by_cases hlt:i < n
 ·refine .inr ⟨hlt,Pv (i + 1),fun σ' H' p'=>⟨n - (i + 1),by lia,rfl,hlt,p'⟩,fun x H' y=>?_⟩
  obtain ⟨e,y⟩:=y
  subst e y
  exact hs i σ _ hlt p
 ·have e:i=n:=by lia
  subst e
  exact .inl ⟨Nat.le_refl _,hd σ H p⟩
end L2
namespace L2
open PySem PySem.Spec PyProof.Rows
noncomputable abbrev R2:=V→V→Hp→VK→Prop
noncomputable def OpR (X:Cx) (f:Value→Value→Sem Value) (r:R2):Prop :=
 ∀ (pins:List (Addr×Obj)) (s:Shared) (σ:St) (H:Hp) (x y:V) (v u:Value) (Q:VK),Inv X pins σ H s→RelV x v→RelV y u→r x y H Q →
  wpAny (model X.prog X.w) X.A (f v u) (EP X pins σ Q) X.xe s
noncomputable def CallR (X:Cx) (f:Value) (r:List V→Hp→VK→Prop):Prop :=
 ∀ (pins:List (Addr×Obj)) (s:Shared) (σ:St) (H:Hp) (xs:List V) (us:List Value) (Q:VK),Inv X pins σ H s→Vals xs us→r xs H Q →
  wpAny (model X.prog X.w) X.A (call f us) (EP X pins σ Q) X.xe s
noncomputable def TruR (X:Cx) (r:V→Hp→(Bool→Hp→Prop)→Prop):Prop :=
 ∀ (pins:List (Addr×Obj)) (s:Shared) (σ:St) (H:Hp) (x:V) (v:Value) (Q:Bool→Hp→Prop),Inv X pins σ H s→RelV x v→r x H Q →
  wpAny (model X.prog X.w) X.A (truthy v) (TP X pins σ Q) X.xe s
noncomputable def tOp (r:R2) (ta tb:TE):TE:=fun σ H Q=>ta σ H fun x H1=>tb σ H1 fun y H2=>r x y H2 Q
noncomputable def rI (C:Int→Int→Prop) (g:Int→Int→V):R2:=fun x y H Q=>∃ i j,x=.int i∧y=.int j∧C i j∧Q (g i j) H
noncomputable def rI0 (g:Int→Int→V):R2:=fun x y H Q=>∃ i j,x=.int i∧y=.int j∧Q (g i j) H
section
variable {X:Cx} {a b c:Expr} {ta tb tc:TE} {pos:Pos}
theorem binT (ha:PE X a ta) (hb:PE X b tb) {pins:List (Addr×Obj)} {s:Shared} {σ:St} {H:Hp} {R:V→V→Hp→Prop} (I:Inv X pins σ H s)
  (h:ta σ H fun x H1=>tb σ H1 fun y H2=>R x y H2) {Q:Value→Shared→Prop} {f:Value→Value→Sem Value}
  (hf:∀ v u s2 x y H2,Inv X pins σ H2 s2→RelV x v→RelV y u→R x y H2→wpAny (model X.prog X.w) X.A (f v u) Q X.xe s2) :
  wpAny (model X.prog X.w) X.A (eval a X.env) (fun v s₁=>wpAny (model X.prog X.w) X.A (eval b X.env) (fun u s₂=>wpAny (model X.prog X.w) X.A (f v u) Q X.xe s₂) X.xe s₁) X.xe s:=by
 refine thn (ha pins s σ H _ I h) fun v s1 ⟨x,H1,I1,r1,q1⟩=>?_
 refine thn (hb pins s1 σ H1 _ I1 q1) fun u s2 ⟨y,H2,I2,r2,q2⟩=>?_
 exact hf v u s2 x y H2 I2 r1 r2 q2
theorem pe_op {op:Operator} {r:R2} (ho:OpR X (binaryOp op) r) (ha:PE X a ta) (hb:PE X b tb):PE X (.BinOp a op b pos) (tOp r ta tb):=by
 intro pins s σ H Q I h
 exact wpAny_BinOp (binT ha hb I h fun v u s2 x y H2 I2 rx ry q=>ho pins s2 σ H2 x y v u Q I2 rx ry q)
theorem opI {f:Value→Value→Sem Value} {C:Int→Int→Prop} {g:Int→Int→Int}
  (rule:∀ (i j:Int) (t u:Tok) (s:Shared) (Q:Value→Shared→Prop) (E:Value→Shared→Prop),C i j→Q (.int (g i j) s.toks) { s with toks:=s.toks + 1 }→wpAny (model X.prog X.w) X.A (f (.int i t) (.int j u)) Q E s) :
  OpR X f (rI C fun i j=>.int (g i j)):=by
 intro pins s σ H x y v u Q I rx ry h
 obtain ⟨i,j,rfl,rfl,hc,q⟩:=h
 obtain ⟨t,rfl⟩:=rx
 obtain ⟨t',rfl⟩:=ry
 exact rule i j t t' s _ _ hc ⟨.int (g i j),H,I.tok _,⟨_,rfl⟩,q⟩
theorem opI0 {f:Value→Value→Sem Value} {g:Int→Int→Int}
  (rule:∀ (i j:Int) (t u:Tok) (s:Shared) (Q:Value→Shared→Prop) (E:Value→Shared→Prop),Q (.int (g i j) s.toks) { s with toks:=s.toks + 1 }→wpAny (model X.prog X.w) X.A (f (.int i t) (.int j u)) Q E s) :
  OpR X f (rI0 fun i j=>.int (g i j)):=by
 intro pins s σ H x y v u Q I rx ry h
 obtain ⟨i,j,rfl,rfl,q⟩:=h
 obtain ⟨t,rfl⟩:=rx
 obtain ⟨t',rfl⟩:=ry
 exact rule i j t t' s _ _ ⟨.int (g i j),H,I.tok _,⟨_,rfl⟩,q⟩
theorem opB0 {f:Value→Value→Sem Value} {g:Int→Int→Bool}
  (rule:∀ (i j:Int) (t u:Tok) (s:Shared) (Q:Value→Shared→Prop) (E:Value→Shared→Prop),Q (.bool (g i j)) s→wpAny (model X.prog X.w) X.A (f (.int i t) (.int j u)) Q E s) :
  OpR X f (rI0 fun i j=>.bl (g i j)):=by
 intro pins s σ H x y v u Q I rx ry h
 obtain ⟨i,j,rfl,rfl,q⟩:=h
 obtain ⟨t,rfl⟩:=rx
 obtain ⟨t',rfl⟩:=ry
 exact rule i j t t' s _ _ ⟨.bl (g i j),H,I,rfl,q⟩
noncomputable def CDiv (i j:Int):Prop:=0 < j∧j < 1073741824
noncomputable def CPow (i j:Int):Prop:=0≤j∧j≤1000000∧i.natAbs < 2 ^ 64
noncomputable def CMul (i j:Int):Prop:=(-(2 ^ 64) < i∧i < 2 ^ 64)∨(-(2 ^ 64) < j∧j < 2 ^ 64)
theorem CMul.ok {i j:Int} (h:CMul i j):IntMulOk i j:=by
 rcases h with ⟨h1,h2⟩ | ⟨h1,h2⟩
 ·exact .of_left (intBits_le_64 h1 h2)
 ·exact .of_right (intBits_le_64 h1 h2)
theorem op_add:OpR X (binaryOp .Add) (rI0 fun i j=>.int (i + j)):=opI0 fun _ _ _ _ _ _ _ q=>add_int q
theorem op_sub:OpR X (binaryOp .Sub) (rI0 fun i j=>.int (i - j)):=opI0 fun _ _ _ _ _ _ _ q=>sub_int q
theorem op_mul:OpR X (binaryOp .Mult) (rI CMul fun i j=>.int (i * j)):=opI fun _ _ _ _ _ _ _ hc q=>mul_int q hc.ok
theorem op_fdiv:OpR X (binaryOp .FloorDiv) (rI CDiv fun i j=>.int (i / j)):=opI fun i j _ _ _ _ _ hc q=>by
 have h1:(0:Int) < j:=hc.1
 have h2:j < 1073741824:=hc.2
 exact floordiv_int (by lia) (by rw [Int.fdiv_eq_ediv_of_nonneg i (by lia)]; exact q) (.inl (PyProof.noPylong_small (by lia)))
theorem op_mod:OpR X (binaryOp .Mod) (rI (fun _ j=>0 < j) fun i j=>.int (i % j)):=opI fun i j _ _ _ _ _ hc q=>by
 have h1:(0:Int) < j:=hc
 exact mod_int' (by lia) (by rw [Int.fmod_eq_emod_of_nonneg i (by lia)]; exact q)
theorem op_pow:OpR X (binaryOp .Pow) (rI CPow fun i j=>.int (i ^ j.toNat)):=opI fun _ _ _ _ _ _ _ hc q=>pow_int_small hc.1 hc.2.1 hc.2.2 q
end
noncomputable def scal:V→V→Bool
 | .non,.non=>true | .non,.int _=>true | .int _,.non=>true | .non,.bl _=>true | .bl _,.non=>true | .non,.str _=>true | .str _,.non=>true
 | .int _,.int _=>true | .bl _,.bl _=>true | .str _,.str _=>true | .byt _,.byt _=>true
 | .int _,.str _=>true | .str _,.int _=>true | .bl _,.str _=>true | .str _,.bl _=>true
 | _,_=>false
noncomputable def rEq:R2:=fun x y H Q=>scal x y=true∧Q (.bl (decide (x=y))) H
noncomputable def rNe:R2:=fun x y H Q=>scal x y=true∧Q (.bl (!decide (x=y))) H
theorem dec_int {i j:Int}:decide (V.int i=V.int j)=(i == j):=by
 rw [Bool.eq_iff_iff]
 simp
theorem dec_bl {i j:Bool}:decide (V.bl i=V.bl j)=(i == j):=by
 rw [Bool.eq_iff_iff]
 simp
theorem dec_str {i j:Str}:decide (V.str i=V.str j)=(i == j):=by
 rw [Bool.eq_iff_iff]
 simp
theorem dec_byt {i j:Array UInt8}:decide (V.byt i=V.byt j)=(i.toList == j.toList):=by
 rw [Bool.eq_iff_iff]
 cases i
 cases j
 simp
section
variable {X:Cx} {a b c:Expr} {ta tb tc:TE} {pos:Pos}
theorem fin_bl {pins:List (Addr×Obj)} {σ:St} {H:Hp} {s:Shared} {Q:VK} {k k':Bool} (I:Inv X pins σ H s) (q:Q (.bl k) H) (e:k=k'):EP X pins σ Q (.bool k') s:=by
 subst e
 exact ⟨.bl k,H,I,rfl,q⟩
theorem op_eq:OpR X (compareOp .Eq) rEq:=by
 intro pins s σ H x y v u Q I rx ry h
 obtain ⟨hs,q⟩:=h
 cases x with
 | non =>
  cases rx
  cases y with
  | non=>cases ry; exact PySem.EqNone.eq_none_none (fin_bl I q (by simp))
  | bl j=>cases ry; exact PySem.EqNone.eq_none_bool (fin_bl I q (by simp))
  | int j=>obtain ⟨t',rfl⟩:=ry; exact PySem.EqNone.eq_none_int (fin_bl I q (by simp))
  | str j=>obtain ⟨t',rfl⟩:=ry; exact PySem.EqNone.eq_none_str (fin_bl I q (by simp))
  | _=>exact absurd (show false=true from hs) Bool.false_ne_true
 | bl i =>
  cases rx
  cases y with
  | non=>cases ry; exact PySem.EqNone.eq_bool_none (fin_bl I q (by simp))
  | bl j=>cases ry; exact eq_bool (fin_bl I q dec_bl)
  | str j=>obtain ⟨t',rfl⟩:=ry; exact PySem.EqMixed.eq_bool_str (fin_bl I q (by simp))
  | _=>exact absurd (show false=true from hs) Bool.false_ne_true
 | int i =>
  obtain ⟨t,rfl⟩:=rx
  cases y with
  | non=>cases ry; exact PySem.EqNone.eq_int_none (fin_bl I q (by simp))
  | int j=>obtain ⟨t',rfl⟩:=ry; exact eq_int (fin_bl I q dec_int)
  | str j=>obtain ⟨t',rfl⟩:=ry; exact PySem.EqMixed.eq_int_str (fin_bl I q (by simp))
  | _=>exact absurd (show false=true from hs) Bool.false_ne_true
 | str i =>
  obtain ⟨t,rfl⟩:=rx
  cases y with
  | non=>cases ry; exact PySem.EqNone.eq_str_none (fin_bl I q (by simp))
  | bl j=>cases ry; exact PySem.EqMixed.eq_str_bool (fin_bl I q (by simp))
  | int j=>obtain ⟨t',rfl⟩:=ry; exact PySem.EqMixed.eq_str_int (fin_bl I q (by simp))
  | str j=>obtain ⟨t',rfl⟩:=ry; exact eq_str (fin_bl I q dec_str)
  | _=>exact absurd (show false=true from hs) Bool.false_ne_true
 | byt i =>
  obtain ⟨t,rfl⟩:=rx
  cases y with
  | byt j=>obtain ⟨t',rfl⟩:=ry; exact PySem.W.eq_bytes (fin_bl I q dec_byt)
  | _=>exact absurd (show false=true from hs) Bool.false_ne_true
 | _=>cases y <;> exact absurd (show false=true from hs) Bool.false_ne_true
theorem op_ne:OpR X (compareOp .NotEq) rNe:=by
 intro pins s σ H x y v u Q I rx ry h
 obtain ⟨hs,q⟩:=h
 cases x with
 | non =>
  cases rx
  cases y with
  | non=>cases ry; exact PySem.EqNone.ne_none_none (fin_bl I q (by simp))
  | bl j=>cases ry; exact PySem.EqNone.ne_none_bool (fin_bl I q (by simp))
  | int j=>obtain ⟨t',rfl⟩:=ry; exact PySem.EqNone.ne_none_int (fin_bl I q (by simp))
  | str j=>obtain ⟨t',rfl⟩:=ry; exact PySem.EqNone.ne_none_str (fin_bl I q (by simp))
  | _=>exact absurd (show false=true from hs) Bool.false_ne_true
 | bl i =>
  cases rx
  cases y with
  | non=>cases ry; exact PySem.EqNone.ne_bool_none (fin_bl I q (by simp))
  | bl j=>cases ry; exact ne_bool (fin_bl I q (congrArg not dec_bl))
  | str j=>obtain ⟨t',rfl⟩:=ry; exact PySem.EqMixed.ne_bool_str (fin_bl I q (by simp))
  | _=>exact absurd (show false=true from hs) Bool.false_ne_true
 | int i =>
  obtain ⟨t,rfl⟩:=rx
  cases y with
  | non=>cases ry; exact PySem.EqNone.ne_int_none (fin_bl I q (by simp))
  | int j=>obtain ⟨t',rfl⟩:=ry; exact ne_int (fin_bl I q (congrArg not dec_int))
  | str j=>obtain ⟨t',rfl⟩:=ry; exact PySem.EqMixed.ne_int_str (fin_bl I q (by simp))
  | _=>exact absurd (show false=true from hs) Bool.false_ne_true
 | str i =>
  obtain ⟨t,rfl⟩:=rx
  cases y with
  | non=>cases ry; exact PySem.EqNone.ne_str_none (fin_bl I q (by simp))
  | bl j=>cases ry; exact PySem.EqMixed.ne_str_bool (fin_bl I q (by simp))
  | int j=>obtain ⟨t',rfl⟩:=ry; exact PySem.EqMixed.ne_str_int (fin_bl I q (by simp))
  | str j=>obtain ⟨t',rfl⟩:=ry; exact ne_str (fin_bl I q (congrArg not dec_str))
  | _=>exact absurd (show false=true from hs) Bool.false_ne_true
 | byt i =>
  obtain ⟨t,rfl⟩:=rx
  cases y with
  | byt j=>obtain ⟨t',rfl⟩:=ry; exact PySem.W.ne_bytes (fin_bl I q (congrArg not dec_byt))
  | _=>exact absurd (show false=true from hs) Bool.false_ne_true
 | _=>cases y <;> exact absurd (show false=true from hs) Bool.false_ne_true
theorem op_lt:OpR X (compareOp .Lt) (rI0 fun i j=>.bl (decide (i < j))):=opB0 fun _ _ _ _ _ _ _ q=>lt_int q
theorem op_le:OpR X (compareOp .LtE) (rI0 fun i j=>.bl (decide (i≤j))):=opB0 fun _ _ _ _ _ _ _ q=>le_int q
theorem op_gt:OpR X (compareOp .Gt) (rI0 fun i j=>.bl (decide (j < i))):=opB0 fun _ _ _ _ _ _ _ q=>gt_int q
theorem op_ge:OpR X (compareOp .GtE) (rI0 fun i j=>.bl (decide (j≤i))):=opB0 fun _ _ _ _ _ _ _ q=>ge_int q
theorem op_isN:OpR X (compareOp .Is) (fun x y H Q=>y=.non∧Q (.bl (decide (x=.non))) H):=by
  intro pins s σ H x y v u Q I rx ry h
  obtain ⟨rfl,q⟩:=h
  cases ry
  refine is_none_gen (fin_bl I q ?_)
  cases x <;> first
    | (cases rx; rfl)
    | (obtain ⟨t,rfl⟩:=rx; rfl)
theorem nomark (b:Expr) {op:CmpOp} (h:op≠.In:=by decide) (h2:op≠.NotIn:=by decide):behindInMarks op b=false:=by
 have e1:(op == CmpOp.In)=false:=by cases op <;> first | rfl | exact absurd rfl h
 have e2:(op == CmpOp.NotIn)=false:=by cases op <;> first | rfl | exact absurd rfl h2
 cases b <;> simp [behindInMarks,e1,e2]
theorem pe_cmpR {op:CmpOp} {r:R2} (ho:OpR X (compareOp op) r) (ha:PE X a ta) (hb:PE X b tb) (hm:behindInMarks op b=false):PE X (.Compare a [op] [b] pos) (tOp r ta tb):=by
 intro pins s σ H Q I h
 exact wpAny_Compare1 (binT ha hb I h fun v u s2 x y H2 I2 rx ry q=>ho pins s2 σ H2 x y v u Q I2 rx ry q) hm
noncomputable def tTest (t:TE):TT:=fun σ H Q=>t σ H fun x H'=>∃ k,x=.bl k∧Q k H'
theorem pt_cmpR {op:CmpOp} {r:R2} (ho:OpR X (compareOp op) r) (ha:PE X a ta) (hb:PE X b tb) (hm:behindInMarks op b=false):PT X (.Compare a [op] [b] pos) (tTest (tOp r ta tb)):=by
 intro pins s σ H Q I h
 refine wpAny_isTrue_Compare1 (thn (ha pins s σ H _ I h) fun v s1 ⟨x,H1,I1,r1,q1⟩=>thn (hb pins s1 σ H1 _ I1 q1) fun u s2 ⟨y,H2,I2,r2,q2⟩ =>
  thn (ho pins s2 σ H2 x y v u _ I2 r1 r2 q2) fun c s3 ⟨z,H3,I3,r3,k,e,q3⟩=>?_) hm
 subst e
 cases r3
 exact wpAny_truthy_bool ⟨H3,I3,q3⟩
noncomputable def TruV (K:PySem.W.Frag) (x:V) (H:Hp) (k:Bool):Prop :=
 match x with
 | .non=>k=false
 | .bl b=>k=b
 | .int i=>k=(i != 0)
 | .str y=>y.length≤sizeLine∧k=((y.length:Int) != 0)
 | .byt y=>y.size≤sizeLine∧k=((y.size:Int) != 0)
 | .ref p=>(∃ xs,SqL K H p xs∧k=!xs.isEmpty)∨(∃ xs,SqT K H p xs∧k=!xs.isEmpty)∨∃ kvs,H p=some (.dK kvs)∧k=!kvs.isEmpty
 | _=>False
theorem isEmpty_kv {κ:Type} {kvs:List (κ×V)} {vs:List (κ×Value)} (r:KV kvs vs):(!vs.isEmpty)=!kvs.isEmpty:=by
 cases r <;> rfl
theorem isEmpty_of {xs:List V} {its:List Value} (r:Vals xs its):(!its.toArray.isEmpty)=!xs.isEmpty:=by
 cases r <;> simp
theorem line63:(sizeLine:Nat) < 2 ^ 63:=by rw [sizeLine_eq]; decide
theorem tru_ok:TruR X (fun x H Q=>∃ k,TruV X.K x H k∧Q k H):=by
 intro pins s σ H x v Q I rx h
 obtain ⟨k,e,q⟩:=h
 have hl:=line63
 have hs:sizeLine=16777216:=sizeLine_eq
 cases x with
 | non =>
  cases rx
  have e':k=false:=e
  subst e'
  exact truthy_none ⟨H,I,q⟩
 | bl b =>
  cases rx
  have e':k=b:=e
  subst e'
  exact wpAny_truthy_bool ⟨H,I,q⟩
 | int i =>
  obtain ⟨t,rfl⟩:=rx
  have e':k=(i != 0):=e
  subst e'
  exact PySem.P.truthy_int ⟨H,I,q⟩
 | str y =>
  obtain ⟨t,rfl⟩:=rx
  obtain ⟨hy,e'⟩:y.length≤sizeLine∧k=((y.length:Int) != 0):=e
  subst e'
  exact PySem.P.truthy_str (by lia) ⟨H,I.tok _,q⟩
 | byt y =>
  obtain ⟨t,rfl⟩:=rx
  obtain ⟨hy,e'⟩:y.size≤sizeLine∧k=((y.size:Int) != 0):=e
  subst e'
  exact PySem.W.truthy_bytes (by lia) ⟨H,I.tok _,q⟩
 | ref p =>
  cases rx
  have e':(∃ xs,SqL X.K H p xs∧k=!xs.isEmpty)∨(∃ xs,SqT X.K H p xs∧k=!xs.isEmpty)∨∃ kvs,H p=some (.dK kvs)∧k=!kvs.isEmpty:=e
  rcases e' with ⟨xs,hx,e'⟩ | ⟨xs,hx,e'⟩ | ⟨kvs,hx,e'⟩
  ·subst e'
   obtain ⟨its,r,pl,hz⟩:=I.list hx
   have hlen:=r.length
   exact wpAny_truthy_list pl.isList (by simp only [List.size_toArray]; lia) ⟨H,I.tok _,by rw [isEmpty_of r]; exact q⟩
  ·subst e'
   obtain ⟨its,r,pl,hz⟩:=I.tuple hx
   have hlen:=r.length
   exact truthy_tuple pl (by simp only [List.size_toArray]; lia) ⟨H,I.tok _,by rw [isEmpty_of r]; exact q⟩
  ·subst e'
   obtain ⟨hz,hS,vs,r,m⟩:kvs.length≤sizeLine∧(p == sysModules)=false∧∃ vs,KV kvs vs∧s.heap.DictOf (mixKind X.prog X.w) p vs:=I.hok p _ hx
   have hlen:kvs.length=vs.length:=Paired.length r
   exact wpAny_truthy_dict hS m (by lia) ⟨H,I.tok _,by rw [isEmpty_kv r]; exact q⟩
 | _=>exact (show False from e).elim
theorem pt_truth (ha:PE X a ta) (he:∀ whole,isTrue a X.env whole=(do let v ← whole; standAt a.pos; holding [v] (truthy v))) :
  PT X a (fun σ H Q=>ta σ H fun x H'=>∃ k,TruV X.K x H' k∧Q k H'):=by
 intro pins s σ H Q I h
 exact isTrue_plain (thn (ha pins s σ H _ I h) fun v s1 ⟨x,H1,I1,r1,q1⟩=>tru_ok pins s1 σ H1 x v Q I1 r1 q1) (he _)
theorem vals1 {x:V} {us:List Value} (r:Vals [x] us):∃ u,us=[u]∧RelV x u:=by
 cases r with
 | cons r1 r2=>cases r2; exact ⟨_,rfl,r1⟩
theorem vals2 {x y:V} {us:List Value} (r:Vals [x,y] us):∃ u w',us=[u,w']∧RelV x u∧RelV y w':=by
 cases r with
 | cons r1 r2 =>
  cases r2 with
  | cons r3 r4=>cases r4; exact ⟨_,_,rfl,r1,r3⟩
theorem call_max2 (hc:X.calm=true):CallR X (.builtin "max") (fun xs H Q=>∃ i j,xs=[.int i,.int j]∧Q (.int (if j > i then j else i)) H):=by
 intro pins s σ H xs us Q I r h
 obtain ⟨i,j,rfl,q⟩:=h
 obtain ⟨u,w',rfl,⟨t,rfl⟩,⟨t',rfl⟩⟩:=vals2 r
 refine max_two_ints (I.ok.hd hc) fun h' tk k=>⟨_,H,I.kept k,?_,q⟩
 by_cases hj:j > i
 ·rw [if_pos hj,if_pos hj]; exact ⟨_,rfl⟩
 ·rw [if_neg hj,if_neg hj]; exact ⟨_,rfl⟩
theorem call_min2 (hc:X.calm=true):CallR X (.builtin "min") (fun xs H Q=>∃ i j,xs=[.int i,.int j]∧Q (.int (if j < i then j else i)) H):=by
 intro pins s σ H xs us Q I r h
 obtain ⟨i,j,rfl,q⟩:=h
 obtain ⟨u,w',rfl,⟨t,rfl⟩,⟨t',rfl⟩⟩:=vals2 r
 refine min_two_ints (I.ok.hd hc) fun h' tk k=>⟨_,H,I.kept k,?_,q⟩
 by_cases hj:j < i
 ·rw [if_pos hj,if_pos hj]; exact ⟨_,rfl⟩
 ·rw [if_neg hj,if_neg hj]; exact ⟨_,rfl⟩
theorem call_int1:CallR X (.type "int") (fun xs H Q=>(∃ i,xs=[.int i]∧Q (.int i) H)∨∃ k,xs=[.bl k]∧Q (.int (if k then 1 else 0)) H):=by
 intro pins s σ H xs us Q I r h
 rcases h with ⟨i,rfl,q⟩ | ⟨k,rfl,q⟩
 ·obtain ⟨u,rfl,t,rfl⟩:=vals1 r
  exact call_int_int ⟨.int i,H,I,⟨_,rfl⟩,q⟩
 ·obtain ⟨u,rfl,r1⟩:=vals1 r
  cases r1
  exact call_int_bool ⟨.int (if k then 1 else 0),H,I.tok _,⟨_,rfl⟩,q⟩
end
end L2
namespace L2
open PySem PySem.Spec PyProof.Rows
structure ObjM (h:Heap) (x dx C:Addr) (mA:Str→Option Value):Prop where
 obj:h.get? x=some (PySem.W.instObj C dx)
 ns:h.Ns1 dx mA
 ne:dx≠x
theorem lookIn_ns {h:Heap} {dx:Addr} {mA:Str→Option Value} (n:h.Ns1 dx mA):∃ od,h.get? dx=some od∧∀ name,PySem.W.lookIn name od=some (mA name):=by
 obtain ⟨o,es,ep,ho,hd,hk,_,hm⟩:=n
 refine ⟨o,ho,fun name=>?_⟩
 have e:=hm name
 unfold nsFind findBy at e
 rw [← Array.find?_toList] at e
 unfold PySem.W.lookIn
 rw [hd]
 dsimp only
 split
 ·rename_i y q
  rw [q] at e
  exact congrArg some e
 ·rename_i q
  rw [q] at e
  have a:es.toList.any (·.refKey)=false:=by
   rw [List.any_eq_false]
   intro y hy
   obtain ⟨z,t,hkey⟩:=hk y (Array.mem_toList_iff.mp hy)
   simp [DictEntry.refKey,hkey]
  have a':¬ es.toList.any (·.refKey)=true:=by rw [a]; exact Bool.false_ne_true
  rw [if_neg a']
  exact congrArg some e
theorem ObjM.look {h:Heap} {x dx C:Addr} {mA:Str→Option Value} (I:ObjM h x dx C mA):∃ od,PySem.W.InstAt h x (PySem.W.instObj C dx) C (some od)∧∀ name,PySem.W.lookIn name od=some (mA name) :=
 let ⟨od,ho,hl⟩:=lookIn_ns I.ns
 ⟨od,⟨I.obj,rfl,rfl,ho⟩,hl⟩
section
variable {prog:Program} {w:World} {A:Around} {E:Value→Shared→Prop} {s:Shared} {K:PySem.W.Frag} {x dx C f:Addr} {mA:Str→Option Value} {name:Str} {v:Value}
end
theorem RelO.some_of {v:V} {o:Option Value} (r:RelO (some v) o):∃ u,o=some u∧RelV v u:=by
 cases o with
 | none=>exact (show False from r).elim
 | some u=>exact ⟨u,rfl,r⟩
section
variable {P:Program} {w:World} {H H':Hp} {h h':Heap} {a C dx:Addr} {fs fs':List (Str×V)}
theorem ins_get (hok:HOk P w H h) (e:H a=some (.ins C dx fs)):∃ mA,ObjM h a dx C mA∧(∀ f,RelO (fs.lookup f) (mA f))∧PySem.Within mA (fs.map (·.1))∧fs.length≤1000∧H dx=some (.own a):=by
 obtain ⟨d,z,ne,ob,mA,n,r,q⟩:=(show ObjOk P w H h a (.ins C dx fs) from hok a _ e)
 exact ⟨mA,⟨ob,n,ne⟩,r,q,z,d⟩
end
structure Cls (K:PySem.W.Frag) (C:Addr):Prop where
 pg:PySem.W.plainGet K C Str.empty=true
 hd:PySem.W.hasDictIn K C=true
 po:PySem.W.plainOver K C=true
 sa:PySem.W.findIn K (.ref C) "__setattr__"=some (some (.builtin "object.__setattr__"))
theorem Cls.get {K:PySem.W.Frag} {C:Addr} (c:Cls K C) (f:Str):PySem.W.plainGet K C f=true:=c.pg
noncomputable def NoAttr (K:PySem.W.Frag) (C:Addr) (f:Str):Prop:=PySem.W.findIn K (.ref C) f=some none
section
variable {X:Cx} {pins:List (Addr×Obj)} {σ:St} {H:Hp} {s:Shared} {a C dx:Addr} {fs:List (Str×V)} {f:Str} {v:V} {A:Around} {E:Value→Shared→Prop}
end
section
variable {X:Cx} {o e value:Expr} {f:Str} {pos pos' tpos:Pos} {ta tv:TE}
end
section
variable {X:Cx} {pins:List (Addr×Obj)} {σ:St} {H:Hp} {s:Shared} {A:Around} {E:Value→Shared→Prop} {Q:Value→Shared→Prop} {c:Value} {b:Bool}
inductive TyOf (K:PySem.W.Frag) (H:Hp):V→Value→Prop where
 | non:TyOf K H .non (.type "NoneType")
 | bl (x:Bool):TyOf K H (.bl x) (.type "bool")
 | int (i:Int):TyOf K H (.int i) (.type "int")
 | str (x:Str):TyOf K H (.str x) (.type "str")
 | flt (x:UInt64):TyOf K H (.flt x) (.type "float")
 | lst {a:Addr} {xs:List V} (e:H a=some (.lst xs)):TyOf K H (.ref a) (.type "list")
 | frz {a:Addr} {o:Obj} {xs:List V} (e:H a=some (.frz o (.lst xs))):TyOf K H (.ref a) (.type "list")
 | tup {a:Addr} {xs:List V} (e:H a=some (.tup xs)):TyOf K H (.ref a) (.type "tuple")
 | dK {a:Addr} {kvs:List (Key×V)} (e:H a=some (.dK kvs)):TyOf K H (.ref a) (.type "dict")
 | dT {a:Addr} {kvs:List (List Key×V)} (e:H a=some (.dT kvs)):TyOf K H (.ref a) (.type "dict")
 | ins {a C dx:Addr} {fs:List (Str×V)} (e:H a=some (.ins C dx fs)) (cl:Cls K C) (ha:PySem.W.findIn K (.ref C) "__class__"=some (some (.builtin "object.__class__")))
   (hn:PySem.W.specialIn K (.builtin "object.__class__") "__get__"=some (some (.builtin "getset_descriptor.__get__"))) (htk:PySem.W.takesIn K (.builtin "object.__class__")=some true)
   (hm:PySem.W.mroIn K C (.type "object")=some true):TyOf K H (.ref a) (.ref C)
theorem isinst_ok {x:V} {u t:Value} (I:Inv X pins σ H s) (rx:RelV x u) (ty:TyOf X.K H x t) (e:PySem.W.kitOne X.K t c=some b) (h:∀ tk,Q (.bool b) { s with toks:=tk }) :
  wpAny (model X.prog X.w) A (call (.builtin "isinstance") [u,c]) Q E s:=by
 cases ty with
 | non=>cases (show u=Value.none from rx); exact PySem.W.kia_one PySem.W.kitx_none I.kIn True.intro e (fun z=>nomatch z) h
 | bl y=>cases (show u=Value.bool y from rx); exact PySem.W.kia_one PySem.W.kitx_bool I.kIn True.intro e (fun z=>nomatch z) h
 | int i=>obtain ⟨t,q⟩:=(show ∃ t,u=Value.int i t from rx); cases q; exact PySem.W.kia_one PySem.W.kitx_int I.kIn True.intro e (fun z=>nomatch z) h
 | str y=>obtain ⟨t,q⟩:=(show ∃ t,u=Value.str y t from rx); cases q; exact PySem.W.kia_one PySem.W.kitx_str I.kIn True.intro e (fun z=>nomatch z) h
 | flt y=>obtain ⟨t,q⟩:=(show ∃ t,u=Value.float y t from rx); cases q; exact PySem.W.kia_one PySem.W.kitx_float I.kIn True.intro e (fun z=>nomatch z) h
 | @lst a xs ea =>
  cases (show u=Value.ref a from rx)
  obtain ⟨_,_,n,_,h1⟩:=(show ObjOk X.prog X.w H s.heap a (.lst xs) from I.hok a _ ea)
  exact PySem.W.kia_one PySem.W.kitx_list I.kIn ⟨_,h1,rfl⟩ e (fun z=>nomatch z) h
 | @frz a ob xs ea =>
  cases (show u=Value.ref a from rx)
  obtain ⟨_,_,_,n,_,h1⟩:=(show ObjOk X.prog X.w H s.heap a (.frz ob (.lst xs)) from I.hok a _ ea)
  exact PySem.W.kia_one PySem.W.kitx_list I.kIn ⟨_,h1,rfl⟩ e (fun z=>nomatch z) h
 | @tup a xs ea =>
  cases (show u=Value.ref a from rx)
  obtain ⟨_,_,_,p⟩:=(show ObjOk X.prog X.w H s.heap a (.tup xs) from I.hok a _ ea)
  obtain ⟨o,h1,h2,_⟩:=p
  exact PySem.W.kia_one PySem.W.kitx_tuple I.kIn ⟨o,h1,h2⟩ e (fun z=>nomatch z) h
 | @dK a kvs ea =>
  cases (show u=Value.ref a from rx)
  obtain ⟨_,_,vs,_,p⟩:=(show ObjOk X.prog X.w H s.heap a (.dK kvs) from I.hok a _ ea)
  obtain ⟨o,es,ep,h1,h2,_⟩:=p
  exact PySem.W.kia_one PySem.W.kitx_dict I.kIn ⟨o,h1,h2.1⟩ e (fun z=>nomatch z) h
 | @dT a kvs ea =>
  cases (show u=Value.ref a from rx)
  obtain ⟨_,_,xs,_,o,es,ep,h1,h2,_⟩:=(show ObjOk X.prog X.w H s.heap a (.dT kvs) from I.hok a _ ea)
  exact PySem.W.kia_one PySem.W.kitx_dict I.kIn ⟨o,h1,h2.1⟩ e (fun z=>nomatch z) h
 | @ins a C dx fs ea cl ha hn htk hm =>
  cases (show u=Value.ref a from rx)
  obtain ⟨mA,O,_⟩:=ins_get I.hok ea
  obtain ⟨od,J,_⟩:=O.look
  exact PySem.W.kia_one (PySem.W.kitx_own (cl.get _) cl.hd ha hn htk hm) I.kIn J e (fun z=>nomatch z) h
end
end L2
namespace L2
open PySem PySem.Spec PyProof.Rows
structure Room (k:Nat) (A:Around):Prop where
 hd:A.handled=none
 dp:A.depth + 3 * k + 5 < recursionLimit
 un:A.units + 16 * k + 200 < cLine
theorem Room.mono {j k:Nat} {A:Around} (r:Room k A) (h:j≤k):Room j A:=⟨r.hd,by have:=r.dp; lia,by have:=r.un; lia⟩
theorem Room.deeper {k:Nat} {A:Around} (r:Room (k + 1) A) (env:Env):Room k (A.deeper env) :=
 ⟨r.hd,by have:=r.dp; show A.depth + 1 + 3 * k + 5 < _; lia,by have:=r.un; show A.units + 3 + 16 * k + 200 < _; lia⟩
theorem make_depth {A:Around} {C:Addr} {us:List Value} {kw:List (Str×Value)}:(A.under (.builtin "type.__call__" ⟨.ref C :: us,kw⟩)).depth=A.depth + 1:=by
 first | rfl | simp [Around.under,Code.weight,Code.isCreation,Code.isGuard,Code.isCaller,Code.frames,Code.isFrame,guardIds]
theorem make_units {A:Around} {C:Addr} {us:List Value} {kw:List (Str×Value)}:(A.under (.builtin "type.__call__" ⟨.ref C :: us,kw⟩)).units=A.units + 1:=by
 first | rfl | simp [Around.under,Code.cUnits,Code.frames,Code.isFrame]
theorem Room.make {k:Nat} {A:Around} (r:Room (k + 1) A) (C:Addr) (us:List Value) (kw:List (Str×Value)):Room k (A.under (.builtin "type.__call__" ⟨.ref C :: us,kw⟩)) :=
 ⟨r.hd,by have:=r.dp; rw [make_depth]; lia,by have:=r.un; rw [make_units]; lia⟩
theorem Room.depth {k:Nat} {A:Around} (r:Room k A):A.depth < recursionLimit:=by have:=r.dp; lia
theorem Room.units {k:Nat} {A:Around} (r:Room k A):A.units + 64 < cLine:=by have:=r.un; lia
noncomputable def tNil:TA:=fun _ H Q=>Q [] H
noncomputable def tCons (ta:TE) (tr:TA):TA:=fun σ H Q=>ta σ H fun x H1=>tr σ H1 fun xs H2=>Q (x :: xs) H2
section
variable {X:Cx} {e:Expr} {es:List Expr} {te:TE} {t:TA} {pos:Pos}
theorem pa_nil:PA X [] tNil:=fun _ _ _ _ H Q I h=>Calls.spliced_nil ⟨[],H,I,.nil,h⟩
theorem pa_cons (ha:PE X e te) (hr:PA X es t) (hs:starEach (e :: es) X.env=(false,eval e X.env) :: starEach es X.env:=by rfl):PA X (e :: es) (tCons te t):=by
 intro pos pins s σ H Q I h
 rw [hs]
 show wpAny _ _ (spliced ((false,eval e X.env) :: backTo pos (starEach es X.env))) _ _ s
 refine Calls.spliced_cons (thn (ha pins s σ H _ I h) fun u s1 ⟨x,H1,I1,r1,q1⟩=>?_)
 exact thn (hr pos pins s1 σ H1 _ I1 q1) fun us s2 ⟨xs,H2,I2,r2,q2⟩=>⟨x :: xs,H2,I2,.cons r1 r2,q2⟩
noncomputable def tTup (t:TA):TE:=fun σ H Q=>t σ H fun xs H1=>xs.length≤sizeLine∧∀ p,H1 p=none→Q (.ref p) (upd H1 p (.tup xs))
noncomputable def tLst (t:TA):TE:=fun σ H Q=>t σ H fun xs H1=>xs.length≤sizeLine∧∀ p,H1 p=none→Q (.ref p) (upd H1 p (.lst xs))
theorem pe_tup {x1} (h:PA X es t):PE X (.Tuple es x1 pos) (tTup t):=by
 intro pins s σ H Q I hq
 refine wpAny_Tuple_spliced (thn (h pos pins s σ H _ I hq) fun us s1 ⟨xs,H1,I1,r,z,q⟩=>⟨by rw [← r.length]; exact z,?_⟩)
 have hf:H1 s1.heap.objs.size=none:=I1.hok.fresh (Nat.le_refl _)
 refine ⟨.ref s1.heap.objs.size,upd H1 s1.heap.objs.size (.tup xs),I1.laid (t':=s1.toks) (fun b u e=>Heap.get?_push_of_some _ e) (Nat.le_refl _) ?_,rfl,q _ hf⟩
 exact ⟨z,us,r,⟨_,Heap.get?_push_size _ rfl,rfl,_,rfl⟩⟩
theorem pe_lst (h:PA X es t):PE X (.List es pos) (tLst t):=by
 intro pins s σ H Q I hq
 refine wpAny_List_spliced (thn (h pos pins s σ H _ I hq) fun us s1 ⟨xs,H1,I1,r,z,q⟩=>⟨by rw [← r.length]; exact z,?_⟩)
 have hf:H1 s1.heap.objs.size=none:=I1.hok.fresh (Nat.le_refl _)
 refine ⟨.ref s1.heap.objs.size,upd H1 s1.heap.objs.size (.lst xs),I1.laid (t':=s1.toks) (fun b u e=>Heap.get?_push_of_some _ e) (Nat.le_refl _) ?_,rfl,q _ hf⟩
 exact ⟨z,us,0,r,Heap.get?_push_size _ rfl⟩
end
noncomputable abbrev Sp:=List V→Hp→VK→XK→Prop
noncomputable abbrev CXT:=List Env→Hp→Shared→XK→Value→Shared→Prop
structure Env0 (P:Program) (w:World) (K:PySem.W.Frag) (mg:Str→Option Value) (base:Heap) (A:Around) (outer:List Env) (s:Shared) (H:Hp):Prop where
 frames:A.frames=some outer
 mod:Mod K mg base
 bs:∀ b o,base.get? b=some o→s.heap.get? b=some o∧H b=none
 bsz:base.objs.size≤s.heap.objs.size
 funs:s.heap.FunFrames base outer
 frf:∀ b∈frs outer,H b=none
 hok:HOk P w H s.heap
 bare:AllBare s.gens
noncomputable def CE (outer:List Env) (P:Program) (w:World) (H:Hp) (s:Shared) (Q:VK) (u:Value) (s':Shared):Prop :=
 ∃ v H',s'.os=s.os∧AllBare s'.gens∧Un (frs outer) [] H H' s.heap s'.heap∧HOk P w H' s'.heap∧RelV v u∧Q v H'
noncomputable def CR (CX:CXT) (outer:List Env) (P:Program) (w:World) (H:Hp) (s:Shared) (Q:VK) (E:XK) (r:Result) (s':Shared):Prop :=
 match r with
 | .ok (.ret u)=>CE outer P w H s Q u s'
 | .ok _=>False
 | .error e=>CX outer H s E e s'
structure FnOk (P:Program) (w:World) (K:PySem.W.Frag) (mg:Str→Option Value) (base:Heap) (CX:CXT) (k:Nat) (f:Addr) (fd:FuncData) (ps:List Str) (sp:Sp):Prop where
 len:∀ vs H Q E,sp vs H Q E→vs.length=ps.length
 run:∀ (A:Around) (outer:List Env) (s:Shared) (H:Hp) (args:Args) (us:List Value) (vs:List V) (Q:VK) (E:XK),Room k A→Env0 P w K mg base A outer s H→BindsTo s fd args (ps.zip us)→Vals vs us→sp vs H Q E →
  codeAny (model P w) A (.call (.ref f) args) (CR CX outer P w H s Q E) s
theorem Env0.make {P:Program} {w:World} {K:PySem.W.Frag} {mg:Str→Option Value} {base:Heap} {A:Around} {outer:List Env} {s:Shared} {H:Hp} (e:Env0 P w K mg base A outer s H) (C:Addr) (us:List Value) (kw:List (Str×Value)) :
  Env0 P w K mg base (A.under (.builtin "type.__call__" ⟨.ref C :: us,kw⟩)) outer s H:=⟨by first | exact e.frames | (simpa [Around.under,Code.envs,Code.isFrame,pushEnvs] using e.frames),e.mod,e.bs,e.bsz,e.funs,e.frf,e.hok,e.bare⟩
section
variable {X:Cx} {pins:List (Addr×Obj)} {σ:St} {H:Hp} {s s':Shared}
theorem Inv.env0 (I:Inv X pins σ H s):Env0 X.prog X.w X.K X.mg X.base X.A X.stack s H :=
 ⟨I.ok.frames,I.ok.mod,I.bs,Nat.le_trans I.ok.bsz I.sz,I.stack,I.stkFree,I.hok,I.bare⟩
theorem Inv.after {Q:VK} {u:Value} (I:Inv X pins σ H s) (h:CE X.stack X.prog X.w H s Q u s'):EP X pins σ Q u s':=by
 obtain ⟨v,H',os,bare,un,hok,r,q⟩:=h
 obtain ⟨hh,g,d,t,os'⟩:=s'
 obtain rfl:os'=s.os:=os
 exact ⟨v,H',I.call (h':=hh) (g':=g) (d':=d) (t':=t) (ch:=[]) un hok bare (fun b z=>absurd z (by simp)),r,q⟩
end
noncomputable def tCall (sp:Sp) (dvs:List V) (E:XK) (t:TA):TE:=fun σ H Q=>t σ H fun vs H1=>sp (vs++dvs) H1 Q E
noncomputable def Binds (K:PySem.W.Frag) (fd:FuncData) (ps:List Str) (ds:List Value):Prop :=
 ∀ (s:Shared) (us:List Value),K.In s.heap→(us++ds).length=ps.length→BindsTo s fd ⟨us,[]⟩ (ps.zip (us++ds))
theorem Binds.all {K:PySem.W.Frag} {fd:FuncData} {ps:List Str} (h:∀ us:List Value,us.length=ps.length→bindArgs fd ⟨us,[]⟩=pure (ps.zip us)):Binds K fd ps []:=fun s us _ hl=>by
 rw [List.append_nil] at hl ⊢
 exact .of_eq (h us hl)
noncomputable def Passes (CX:CXT) (X:Cx) (E:XK):Prop:=∀ (pins:List (Addr×Obj)) (σ:St) (H:Hp) (s:Shared) (e:Value) (s':Shared),Inv X pins σ H s→CX X.stack H s E e s'→X.xe e s'
section
variable {X:Cx} {CX:CXT} {k:Nat} {f C:Addr} {fd:FuncData} {ps:List Str} {sp:Sp} {dvs:List V} {ds:List Value} {E:XK} {x m:Str} {p pos apos:Pos} {e o:Expr} {es:List Expr} {ta:TE} {t:TA}
theorem run_fn {pins:List (Addr×Obj)} {σ:St} {H:Hp} {s:Shared} {Q:VK} {us:List Value} {vs:List V} (F:FnOk X.prog X.w X.K X.mg X.base CX k f fd ps sp) (hr:Room k X.A) (hb:Binds X.K fd ps ds) (hd:Vals dvs ds) (hx:Passes CX X E)
  (I:Inv X pins σ H s) (r:Vals vs us) (h:sp (vs++dvs) H Q E):wpAny (model X.prog X.w) X.A (call (.ref f) us) (EP X pins σ Q) X.xe s:=by
 have r2:Vals (vs++dvs) (us++ds):=r.append hd
 have hl:(us++ds).length=ps.length:=by rw [← r2.length]; exact F.len _ _ _ _ h
 refine wpAny_call (codeAny_mono (F.run X.A X.stack s H ⟨us,[]⟩ (us++ds) (vs++dvs) Q E hr I.env0 (hb s us I.kIn hl) r2 h) fun r s' hq=>?_)
 cases r with
 | error e=>exact hx pins σ H s e s' I hq
 | ok fl =>
  cases fl with
  | ret u=>exact I.after hq
  | next=>exact False.elim hq
  | brk=>exact False.elim hq
  | cont=>exact False.elim hq
theorem pe_call (F:FnOk X.prog X.w X.K X.mg X.base CX k f fd ps sp) (hr:Room k X.A) (hg:Gl X x) (hm:X.mg x=some (.ref f)) (hk:PySem.W.keepIn X.K (.ref f)=true) (hb:Binds X.K fd ps ds) (hd:Vals dvs ds) (hx:Passes CX X E)
  (ha:PA X (e :: es) t) (hdb:(x == ("__debug__":Str))=false:=by decide) (he:starEach (e :: es) X.env=(false,eval e X.env) :: starEach es X.env:=by rfl) (hpl:(backTo pos (starEach es X.env)).any (·.1)=false:=by rfl) :
  PE X (.Call (.Name x p) (e :: es) [] pos) (tCall sp dvs E t):=by
 intro pins s σ H Q I h
 refine wpAny_Call_Name_kw (ld_glob I hg hm ?_ hdb)
 refine PySem.W.callWith_K (h₀:=X.base) I.ok.mod.kin hk (thn (ha pos pins s σ H _ I h) fun us s1 ⟨vs,H1,I1,r,q⟩=>⟨I1.kIn,?_⟩) he hpl
 exact run_fn F hr hb hd hx I1 r q
end
section
variable {X:Cx} {CX:CXT} {k:Nat} {f C:Addr} {fd:FuncData} {ps ks:List Str} {sp:Sp} {E:XK} {x m:Str} {p pos apos kpos:Pos} {e o:Expr} {es:List Expr} {kws:List Keyword} {te ta:TE} {t tk:TA} {nm:Option Str}
variable {g:List Value→List Value→List Value} {gV:List V→List V→List V}
end
structure FnScope (N P:List Str) (sc:Scope):Prop where
 kind:sc.kind=.function
 co:sc.isCoroutine=false
 gen:sc.isGenerator=false
 nd:N.Nodup
 pre:N.take P.length=P
 par:∀ x∈P,sc.names.lookup x=some .local∨sc.names.lookup x=some .cell
 nofree:∀ y∈sc.names,y.2≠.free
theorem bindL_out {kindOf:Str→Option NameKind} {x:Str}:∀ {binds:List (Str×Value)} {m:Str→Option Value},(∀ v,(x,v) ∉ binds)→bindL kindOf binds m x=m x
 | [],_,_=>rfl
 | (n,v) :: r,m,h=>by
  unfold bindL
  rw [bindL_out fun w hw=>h w (List.mem_cons_of_mem _ hw)]
  split
  ·have:x≠n:=by rintro rfl; exact h v List.mem_cons_self
   simp [this]
  ·rfl
theorem bindC_out {kindOf:Str→Option NameKind} {x:Str}:∀ {binds:List (Str×Value)} {m:Str→Option Value},(∀ v,(x,v) ∉ binds)→bindC kindOf binds m x=m x
 | [],_,_=>rfl
 | (n,v) :: r,m,h=>by
  unfold bindC
  rw [bindC_out fun w hw=>h w (List.mem_cons_of_mem _ hw)]
  split
  ·rfl
  ·have:x≠n:=by rintro rfl; exact h v List.mem_cons_self
   simp [this]
theorem bindL_get {kindOf:Str→Option NameKind} {x:Str} {v:Value}:∀ {P:List Str} {vs:List Value} {i:Nat} {m:Str→Option Value},P.Nodup→P[i]?=some x→vs[i]?=some v→kindOf x=some .local →
  bindL kindOf (P.zip vs) m x=some v
 | [],_,_,_,_,h,_,_=>by simp at h
 | _ :: _,[],_,_,_,_,h,_=>by simp at h
 | p :: P,w :: vs,0,m,nd,h1,h2,hk=>by
  simp at h1 h2; subst h1; subst h2
  show bindL kindOf ((p,w) :: P.zip vs) m p=_
  unfold bindL
  rw [bindL_out fun v hv=>(List.nodup_cons.mp nd).1 (List.of_mem_zip hv).1,if_pos hk]
  simp
 | p :: P,w :: vs,i + 1,m,nd,h1,h2,hk=>by
  show bindL kindOf ((p,w) :: P.zip vs) m x=_
  unfold bindL
  exact bindL_get (i:=i) (List.nodup_cons.mp nd).2 (by simpa using h1) (by simpa using h2) hk
theorem bindC_get {kindOf:Str→Option NameKind} {x:Str} {v:Value}:∀ {P:List Str} {vs:List Value} {i:Nat} {m:Str→Option Value},P.Nodup→P[i]?=some x→vs[i]?=some v→kindOf x≠some .local →
  bindC kindOf (P.zip vs) m x=some v
 | [],_,_,_,_,h,_,_=>by simp at h
 | _ :: _,[],_,_,_,_,h,_=>by simp at h
 | p :: P,w :: vs,0,m,nd,h1,h2,hk=>by
  simp at h1 h2; subst h1; subst h2
  show bindC kindOf ((p,w) :: P.zip vs) m p=_
  unfold bindC
  rw [bindC_out fun v hv=>(List.nodup_cons.mp nd).1 (List.of_mem_zip hv).1,if_neg hk]
  simp
 | p :: P,w :: vs,i + 1,m,nd,h1,h2,hk=>by
  show bindC kindOf ((p,w) :: P.zip vs) m x=_
  unfold bindC
  exact bindC_get (i:=i) (List.nodup_cons.mp nd).2 (by simpa using h1) (by simpa using h2) hk
noncomputable def start (N:List Str) (vs:List V):St:=vs.map some++List.replicate (N.length - vs.length) none
noncomputable def cxOf (CX:CXT) (P:Program) (w:World) (K:PySem.W.Frag) (mg:Str→Option Value) (base:Heap) (N:List Str) (qual:Str) (scope:Scope) (f:Addr) (cd:Value) (A:Around) (outer:List Env) (s:Shared) (H:Hp) (E:XK):Cx where
 prog:=P
 w:=w
 K:=K
 mg:=mg
 base:=base
 A:=A.deeper (envOfC qual scope s.heap.objs.size f cd)
 N:=N
 s₀:=s
 H₀:=H
 env:=envOfC qual scope s.heap.objs.size f cd
 outer:=outer
 stack:=envOfC qual scope s.heap.objs.size f cd :: outer
 ex:=[]
 calm:=true
 fn:=fun _=>true
 pn:=[]
 xe:=fun e s'=>wpAny (model P w) (A.deeper (envOfC qual scope s.heap.objs.size f cd)) (leaving (envOfC qual scope s.heap.objs.size f cd) e) (fun _ s''=>CX outer H s E e s'') (fun e' s''=>CX outer H s E e' s'') s'
theorem cell_has {sc:Scope} {n:Nat} {x:Str} (h:sc.names.lookup x=some .cell):∃ c,(cellsFrom n sc.names []).lookup x=some c:=by
 have q:=PySem.W.cellsFrom_some sc.names n [] (.inl h)
 exact Option.isSome_iff_exists.mp q
theorem inv_start {CX:CXT} {P:Program} {w:World} {K:PySem.W.Frag} {mg:Str→Option Value} {base:Heap} {N ps:List Str} {qual:Str} {scope:Scope} {f:Addr} {cd:Value} {A:Around} {outer:List Env} {s s1:Shared} {H:Hp} {E:XK} {us:List Value} {vs:List V}
  (S:FnScope N ps scope) (hd:A.handled=none) (e0:Env0 P w K mg base A outer s H) (hl:vs.length=ps.length) (r:Vals vs us)
  (x:InCallC s s.heap.objs.size (bindL (envOfC qual scope s.heap.objs.size f cd).kindOf (ps.zip us) fun _=>none) (cellsFrom (s.heap.objs.size + 1) scope.names []) (bindC (envOfC qual scope s.heap.objs.size f cd).kindOf (ps.zip us) fun _=>none) s1) :
  Inv (cxOf CX P w K mg base N qual scope f cd A outer s H E) [] (start N vs) H s1:=by
 have hpl:ps.length≤N.length:=by have:=congrArg List.length S.pre; rw [List.length_take] at this; lia
 obtain ⟨h1,tk,rfl,hk⟩:=x.done
 have noA:∀ b:Addr,b ∉ (cxOf CX P w K mg base N qual scope f cd A outer s H E).ex:=fun b z=>absurd (show b∈([]:List Addr) from z) (by simp)
 refine ⟨⟨e0.mod,S.kind,rfl,rfl,Nat.le_refl _,fun y z c h1 h2=>?_,fun y hy=>?_,fun y c _ h=>?_,fun _=>hd,Around.frames_deeper e0.frames,.inr ⟨rfl,rfl⟩,fun b z=>absurd z (noA b),e0.bs,e0.bsz,fun b _ _=>noA b,fun b z=>absurd z (noA b),e0.funs,e0.frf⟩,
  rfl,e0.bare,Un.kept hk,⟨_,x.toInCall.ns,fun i y v h1 h2 h3=>?_⟩,fun y c h=>⟨_,x.cell y c h⟩,e0.hok.fresh (Nat.le_refl _),fun y c h=>?_,fun p hp=>absurd (show p∈([]:List (Addr×Obj)) from hp) (by simp),e0.hok.kept hk,?_⟩
 ·exact name_of_addr x.apart (PySem.mem_of_lookup h1) (PySem.mem_of_lookup h2)
 ·have hy:scope.names.lookup y=some .cell∨scope.names.lookup y=some .free:=hy
  rcases hy with hy | hy
  ·exact cell_has hy
  ·exact absurd rfl (S.nofree _ (PySem.mem_of_lookup hy))
 ·exact Nat.le_of_lt (x.above y c (PySem.mem_of_lookup h))
 ·have hi:i < vs.length:=by
   unfold start at h2
   by_cases hi:i < vs.length
   ·exact hi
   ·rw [List.getElem?_append_right (by simpa using hi)] at h2
    rw [List.getElem?_replicate] at h2
    split at h2 <;> cases h2
  have ha:vs[i]?=some v:=by
   unfold start at h2
   rw [List.getElem?_append_left (by simpa using hi),List.getElem?_map] at h2
   cases e:vs[i]? with
   | none=>rw [e] at h2; cases h2
   | some a=>rw [e] at h2; cases h2; rfl
  obtain ⟨u,hu,rv⟩:=r.get ha
  have hp:ps[i]?=some y:=by
   rw [← S.pre,List.getElem?_take_of_lt (by lia)]; exact h1
  have ndP:ps.Nodup:=by rw [← S.pre]; exact S.nd.sublist (List.take_sublist _ _)
  refine ⟨u,rv,?_⟩
  rcases S.par y (List.mem_of_getElem? hp) with k | k
  ·exact .inl ⟨k,bindL_get ndP hp hu k⟩
  ·obtain ⟨c,e⟩:=cell_has (n:=s.heap.objs.size + 1) k
   refine .inr ⟨.inl k,c,e,?_⟩
   have q:=x.cell y c e
   rw [bindC_get ndP hp hu (by show scope.names.lookup y≠_; rw [k]; decide)] at q
   exact q
 ·exact e0.hok.fresh (Nat.le_of_lt (x.above y c (PySem.mem_of_lookup h)))
 ·unfold start
  show _=N.length
  rw [List.length_append,List.length_map,List.length_replicate]
  lia
theorem fn_of {CX:CXT} {P:Program} {w:World} {K:PySem.W.Frag} {mg:Str→Option Value} {base:Heap} {k:Nat} {f:Addr} {name qual:Str} {params:Arguments} {body:List Stmt} {scope:Scope} {dV kV doc pm cdv ct oc:Value} {an od:Option Addr}
  {osl:Array (Option Value)} {N ps:List Str} {sp:Sp} (lk:K.lookup f=some ⟨oc,od,.func (PySem.W.fnOf name qual params body scope dV kV doc pm an cdv ct),osl⟩) (hcd:PySem.W.codeIn K cdv qual=true) (S:FnScope N ps scope)
  (len:∀ vs H Q E,sp vs H Q E→vs.length=ps.length)
  (hbody:∀ (A:Around) (outer:List Env) (s:Shared) (H:Hp) (vs:List V) (Q:VK) (E:XK),Room k (A.deeper (envOfC qual scope s.heap.objs.size f cdv))→sp vs H Q E →
   ∃ t,PSs (cxOf CX P w K mg base N qual scope f cdv A outer s H E) body t∧t { nx:=fun _ H'=>Q .non H',rt:=Q } (start N vs) H) :
  FnOk P w K mg base CX (k + 1) f (PySem.W.fnOf name qual params body scope dV kV doc pm an cdv ct) ps sp:=by
 refine ⟨len,fun A outer s H args us vs Q E hr e0 hb r hsp=>?_⟩
 have hl:=len _ _ _ _ hsp
 have KX:K.In s.heap:=e0.mod.kin.keeps fun b o e=>(e0.bs b o e).1
 have lim:s.heap.NoLimit:=e0.mod.nolimit.keeps fun b o e=>(e0.bs b o e).1
 have hkind:∀ y∈ps.zip us,scope.names.lookup y.1=some .local∨(scope.names.lookup y.1=some .cell∧((cellsFrom (s.heap.objs.size + 1) scope.names []).lookup y.1).isSome=true):=fun ⟨n,v⟩ hy=>by
  rcases S.par n (List.of_mem_zip hy).1 with q | q
  ·exact .inl q
  ·exact .inr ⟨q,PySem.W.cellsFrom_some _ _ _ (.inl q)⟩
 refine codeAny_call_function hr.depth (KX _ _ lk) rfl S.co S.gen rfl (PySem.W.codeRec_of KX hcd) (hb _ _ _ _ ?_)
 refine wpAny_newFunctionEnv_cells S.kind hkind fun env he s1 x=>?_
 subst he
 refine ⟨lim.keeps x.toInCall.keep,codeAny_func ?_⟩
 obtain ⟨t,ht,hq⟩:=hbody A outer s H vs Q E (hr.deeper _) hsp
 have I:Inv (cxOf CX P w K mg base N qual scope f cdv A outer s H E) [] (start N vs) H s1:=inv_start S hr.hd e0 hl r x
 refine wpAny_mono (ht [] s1 (start N vs) H _ I hq) (fun fl s' hs=>?_) fun e s' hs=>hs
 have fin:∀ {σ':St} {H':Hp} {v:V} {u:Value},Inv (cxOf CX P w K mg base N qual scope f cdv A outer s H E) [] σ' H' s'→RelV v u→Q v H'→CE outer P w H s Q u s' :=
  fun {σ' H' v u} J rv q=>⟨v,H',J.os,J.bare,J.base,J.hok,rv,q⟩
 cases fl with
 | ret u =>
  obtain ⟨v,σ',H',J,rv,q⟩:=hs
  exact fin J rv q
 | next =>
  obtain ⟨σ',H',J,q⟩:=hs
  exact fin (v:=V.non) (u:=Value.none) J rfl q
 | brk =>
  obtain ⟨_,_,_,q⟩:=hs
  exact False.elim q
 | cont =>
  obtain ⟨_,_,_,q⟩:=hs
  exact False.elim q
end L2
namespace L2
open PySem PySem.Spec PyProof.Rows
section
variable {X:Cx} {x:Str} {p pos:Pos} {e:Expr} {es:List Expr} {t:TA} {id T:String} {r:List V→Hp→VK→Prop}
noncomputable def tCB (r:List V→Hp→VK→Prop) (t:TA):TE:=fun σ H Q=>t σ H fun vs H1=>r vs H1 Q
theorem pe_callB (hc:CallR X (.builtin id) r) (hg:Gl X x) (hm:X.mg x=none) (hv:bootBuiltins x=some (.builtin id)) (ha:PA X (e :: es) t) (hn:x≠"__name__":=by decide) (hdb:(x == ("__debug__":Str))=false:=by decide)
  (he:starEach (e :: es) X.env=(false,eval e X.env) :: starEach es X.env:=by rfl) (hpl:(backTo pos (starEach es X.env)).any (·.1)=false:=by rfl):PE X (.Call (.Name x p) (e :: es) [] pos) (tCB r t):=by
 intro pins s σ H Q I h
 refine wpAny_Call_Name_kw (ld_blt I hg hm hv ?_ hn hdb)
 exact PyProof.Rows.callWith_builtin1 (thn (ha pos pins s σ H _ I h) fun us s1 ⟨vs,H1,I1,r1,q1⟩=>hc pins s1 σ H1 vs us Q I1 r1 q1) he hpl
theorem pe_callTy (hc:CallR X (.type T) r) (hg:Gl X x) (hm:X.mg x=none) (hv:bootBuiltins x=some (.type T)) (ha:PA X (e :: es) t) (hn:x≠"__name__":=by decide) (hdb:(x == ("__debug__":Str))=false:=by decide)
  (he:starEach (e :: es) X.env=(false,eval e X.env) :: starEach es X.env:=by rfl) (hpl:(backTo pos (starEach es X.env)).any (·.1)=false:=by rfl):PE X (.Call (.Name x p) (e :: es) [] pos) (tCB r t):=by
 intro pins s σ H Q I h
 refine wpAny_Call_Name_kw (ld_blt I hg hm hv ?_ hn hdb)
 exact PyProof.Rows.callWith_type1 (thn (ha pos pins s σ H _ I h) fun us s1 ⟨vs,H1,I1,r1,q1⟩=>hc pins s1 σ H1 vs us Q I1 r1 q1) he hpl
theorem pe_callTy0 (hc:CallR X (.type T) r) (hg:Gl X x) (hm:X.mg x=none) (hv:bootBuiltins x=some (.type T)) (hn:x≠"__name__":=by decide) (hdb:(x == ("__debug__":Str))=false:=by decide) :
  PE X (.Call (.Name x p) [] [] pos) (tCB r tNil):=by
 intro pins s σ H Q I h
 refine wpAny_Call_Name_kw (ld_blt I hg hm hv ?_ hn hdb)
 exact PyProof.Rows.callWith_type0 (hc pins s σ H [] [] Q I .nil h)
end
end L2
namespace HT
open PySem PyProof.Rows
theorem rcLt_int (A:Around) (s:Shared) (a:Int) (t:Tok) (c:Int) (u:Tok) (prog:Program) (w:World) (E:Value→Shared→Prop) (Q:Value→Shared→Prop) (h:Q (.bool (decide (a < c))) s) :
  wpAny (model prog w) A (richCompare .Lt (.int a t) (.int c u)) Q E s :=
 (PyProof.Rows.lt_int h:wpAny (model prog w) A (compareOp .Lt (.int a t) (.int c u)) Q E s)
section
open PySem.SeqAt
open PySem.AutoSeq1 (wpAny_loadPart')
open PySem.MeetsSeq PySem.MeetsSeq2 PySem.MeetsSeq3
end
section
variable {prog:Program} {w:World} {A:Around} {E:Value→Shared→Prop} {s:Shared}
theorem cat_tup {t b:Addr} {vs ws:List Value} {Q:Value→Shared→Prop} (ht:IsTup s.heap t vs.toArray) (hb:IsTup s.heap b ws.toArray) (hv:vs≠[])
  (h1:ws=[]→Q (.ref t) s) (h2:ws≠[]→Q (.ref s.heap.objs.size) { s with heap:=s.heap.push { cls:=.type "tuple",data:=.seq (vs++ws).toArray } })
  (hsz:vs.length + ws.length≤sizeLine):wpAny (model prog w) A (binaryOp .Add (.ref t) (.ref b)) Q E s:=by
 obtain ⟨⟨cls,dd,data,sl⟩,ho,hc,n,hd⟩:=id ht
 obtain ⟨⟨cls2,dd2,data2,sl2⟩,ho2,hc2,n2,hd2⟩:=id hb
 simp only at hc hd hc2 hd2
 subst hc hd hc2 hd2
 have e:vs.toArray++ws.toArray=(vs++ws).toArray:=by simp
 by_cases hw:ws=[]
 ·exact concat_meets ⟨_,ho,rfl⟩ ⟨_,ho2,rfl⟩ noFill_tuple_add seq_tuple_add PySem.F.slot_tuple_add PySem.F.entry_tuple_add (PySem.F.args_tuple_add_2 _ _)
   (tuple_addW1 t b vs.toArray ws.toArray n n2 dd dd2 sl sl2 (by simpa using hv) (by simp [hw])) ⟨ho,ho2,h1 hw⟩
 ·refine concat_meets ⟨_,ho,rfl⟩ ⟨_,ho2,rfl⟩ noFill_tuple_add seq_tuple_add PySem.F.slot_tuple_add PySem.F.entry_tuple_add (PySem.F.args_tuple_add_2 _ _)
   (tuple_addW2 t b vs.toArray ws.toArray n n2 dd dd2 sl sl2 (by simpa using hv) (by simpa using hw) (by rw [List.size_toArray,List.size_toArray]; exact hsz)) ⟨ho,ho2,?_⟩
  rw [e]
  exact h2 hw
end
end HT
namespace L2
open PySem PySem.Spec PyProof.Rows
theorem intsAre_of {ns:List Int}:∀ {us:List Value},Vals (ns.map V.int) us→IntsAre us ns:=by
 induction ns with
 | nil=>intro us r; rw [List.map_nil] at r; cases r; exact .nil
 | cons n ns ih =>
  intro us r
  rw [List.map_cons] at r
  cases r with
  | cons r1 r2 =>
   obtain ⟨t,e⟩:=r1
   subst e
   exact .cons n t (ih r2)
section
variable {X:Cx} {e:Expr} {te:TE} {lo hi:Option Expr} {tl th:TO} {pos p2:Pos}
noncomputable def rCatT (K:PySem.W.Frag):R2:=fun x y H Q=>∃ a b xs ys,x=.ref a∧y=.ref b∧SqT K H a xs∧SqT K H b ys∧xs≠[]∧xs.length + ys.length≤sizeLine ∧
 (ys=[]→Q (.ref a) H)∧(ys≠[]→∀ p,H p=none→Q (.ref p) (upd H p (.tup (xs++ys))))
theorem Vals.nil_iff {xs:List V} {us:List Value} (r:Vals xs us):us=[]↔xs=[]:=by
 cases r with
 | nil=>simp
 | cons _ _=>simp
theorem op_catT:OpR X (binaryOp .Add) (rCatT X.K):=by
 intro pins s σ H x y v u Q I rx ry h
 obtain ⟨a,b,xs,ys,rfl,rfl,ha,hb,hx,hz,q1,q2⟩:=h
 cases rx
 cases ry
 obtain ⟨its,r1,p1,_⟩:=I.tuple ha
 obtain ⟨its2,r2,p2,_⟩:=I.tuple hb
 refine HT.cat_tup p1 p2 (fun z=>hx (r1.nil_iff.mp z)) (fun z=>⟨.ref a,H,I,rfl,q1 (r2.nil_iff.mp z)⟩) (fun z=>?_) (by rw [← r1.length,← r2.length]; exact hz)
 refine ⟨.ref s.heap.objs.size,_,I.laid (t':=s.toks) (o:=.tup (xs++ys)) (fun b ob q=>Heap.get?_push_of_some _ q) (Nat.le_refl _) ?_,rfl,q2 (fun w=>z (r2.nil_iff.mpr w)) _ (I.hok.fresh (Nat.le_refl _))⟩
 exact ⟨by rw [List.length_append]; exact hz,_,r1.append r2,IsTup.new _ _⟩
end
end L2
namespace L2
open PySem PySem.Spec PyProof.Rows
noncomputable def ixN (n:Nat) (i:Int):Option Nat:=if 0≤i then (if i < n then some i.toNat else none) else if -(n:Int)≤i then some (i + n).toNat else none
noncomputable def atI {α:Type} (xs:List α) (i:Int):Option α:=(ixN xs.length i).bind fun j=>xs[j]?
theorem ixN_seq {n:Nat} {i:Int} {j:Nat} (h:ixN n i=some j):seqIndex? i n=some j∧j < n∧-(n:Int)≤i∧i < n:=by
 unfold ixN at h
 by_cases h0:0≤i
 ·rw [if_pos h0] at h
  by_cases h1:i < n
  ·rw [if_pos h1] at h
   have e:i.toNat=j:=Option.some.inj h
   exact ⟨by rw [seqIndex_of h0 h1,e],by lia,by lia,h1⟩
  ·rw [if_neg h1] at h; cases h
 ·rw [if_neg h0] at h
  by_cases h1:-(n:Int)≤i
  ·rw [if_pos h1] at h
   have e:(i + n).toNat=j:=Option.some.inj h
   exact ⟨by rw [seqIndex_neg (by lia) h1,e],by lia,h1,by lia⟩
  ·rw [if_neg h1] at h; cases h
theorem atI_get {α:Type} {xs:List α} {i:Int} {v:α} (h:atI xs i=some v):∃ j,seqIndex? i xs.length=some j∧xs[j]?=some v∧j < xs.length∧-(xs.length:Int)≤i∧i < xs.length:=by
 unfold atI at h
 cases e:ixN xs.length i with
 | none=>rw [e] at h; cases h
 | some j =>
  rw [e] at h
  obtain ⟨h1,h2,h3,h4⟩:=ixN_seq e
  exact ⟨j,h1,h,h2,h3,h4⟩
theorem atI_nat {α:Type} {xs:List α} {j:Nat} {v:α} (h:xs[j]?=some v):atI xs (j:Int)=some v:=by
 have hj:j < xs.length:=(List.getElem?_eq_some_iff.mp h).1
 have e:ixN xs.length (j:Int)=some j:=by
  unfold ixN
  rw [if_pos (by lia),if_pos (by lia)]; simp
 unfold atI; rw [e]; exact h
noncomputable def PlainIx (b:Expr):Prop:=∀ o i,subscripted b false o i=operate [o,i] (getItem o i)
noncomputable def IxR (X:Cx) (r:R2):Prop :=
 ∀ (value slice:Expr) (pins:List (Addr×Obj)) (s:Shared) (σ:St) (H:Hp) (x y:V) (v u:Value) (Q:VK),Inv X pins σ H s→RelV x v→RelV y u→r x y H Q →
  subscripted slice false v u=operate [v,u] (getItem v u)→wpAny (model X.prog X.w) X.A (subscriptTail value slice v u) (EP X pins σ Q) X.xe s
noncomputable def MtR (X:Cx) (id:String) (r:V→List V→Hp→VK→Prop):Prop :=
 ∀ (pins:List (Addr×Obj)) (s:Shared) (σ:St) (H:Hp) (x:V) (xs:List V) (v:Value) (us:List Value) (Q:VK),Inv X pins σ H s→RelV x v→Vals xs us→r x xs H Q →
  wpAny (model X.prog X.w) X.A (call (.builtin id) (v :: us)) (EP X pins σ Q) X.xe s
section
variable {X:Cx} {a b:Expr} {ta tb:TE} {pos:Pos}
theorem pe_ix {r:R2} (hr:IxR X r) (ha:PE X a ta) (hb:PE X b tb) (hs:PlainIx b):PE X (.Subscript a b pos) (tOp r ta tb):=by
 intro pins s σ H Q I h
 exact Subscript_ (binT ha hb I h fun v u s2 x y H2 I2 rx ry q=>hr a b pins s2 σ H2 x y v u Q I2 rx ry q (hs _ _))
noncomputable def rIxL (K:PySem.W.Frag):R2:=fun x y H Q=>∃ p xs i v,x=.ref p∧y=.int i∧SqL K H p xs∧atI xs i=some v∧Q v H
noncomputable def rIxT (K:PySem.W.Frag):R2:=fun x y H Q=>∃ p xs i v,x=.ref p∧y=.int i∧SqT K H p xs∧atI xs i=some v∧Q v H
theorem ix_list:IxR X (rIxL X.K):=by
 intro value slice pins s σ H x y v u Q I rx ry h hs
 obtain ⟨p,xs,i,z,rfl,rfl,hq,he,q⟩:=h
 cases rx
 obtain ⟨t,rfl⟩:=ry
 obtain ⟨its,r,pl,hz⟩:=I.list hq
 obtain ⟨j,h1,h2,h3,h4,h5⟩:=atI_get he
 obtain ⟨w,ew,rw'⟩:=r.get h2
 have hl:=r.length
 have hn:=line63
 have fin:EP X pins σ Q w s:=⟨z,H,I,rw',q⟩
 by_cases h0:0≤i
 ·have hj:i.toNat=j:=by
   rw [seqIndex_of h0 h5] at h1
   exact Option.some.inj h1
  exact item_listR pl.isList h0 (by lia) (by rw [hj]; simpa using ew) fin hs
 ·have hj:(i + (its.toArray.size:Int)).toNat=j:=by
   rw [seqIndex_neg (by lia) h4] at h1
   rw [List.size_toArray,← hl]
   exact Option.some.inj h1
  exact subscriptTail_builtinR (x:=w) pl.isList.typeIs slot_list_getitem.lookup
   (wpAny_getItem_list_neg (Q:=fun r s'=>r=w∧EP X pins σ Q r s') pl.isList (by lia) (by rw [List.size_toArray] <;> lia) (by lia) (by rw [hj]; simpa using ew) ⟨rfl,fin⟩) hs
theorem ix_tup:IxR X (rIxT X.K):=by
 intro value slice pins s σ H x y v u Q I rx ry h hs
 obtain ⟨p,xs,i,z,rfl,rfl,hq,he,q⟩:=h
 cases rx
 obtain ⟨t,rfl⟩:=ry
 obtain ⟨its,r,pl,hz⟩:=I.tuple hq
 obtain ⟨j,h1,h2,h3,h4,h5⟩:=atI_get he
 obtain ⟨w,ew,rw'⟩:=r.get h2
 have hl:=r.length
 have hn:=line63
 have fin:EP X pins σ Q w s:=⟨z,H,I,rw',q⟩
 exact subscriptTail_builtinR (x:=w) pl.typeIs slot_tuple_getitem.lookup
  (getItem_tuple (j:=j) (Q:=fun r s'=>r=w∧EP X pins σ Q r s') pl (by lia) (by lia) (by rw [List.size_toArray,← hl]; exact h1) (by simpa using ew) ⟨rfl,fin⟩) hs
noncomputable def flatV:V→Bool
 | .non=>true
 | .bl _=>true
 | .int _=>true
 | .str _=>true
 | _=>false
noncomputable def eqV:V→V→Bool
 | .non,.non=>true
 | .bl a,.bl b=>a == b
 | .bl a,.int b=>(if a then 1 else 0) == b
 | .int a,.bl b=>a == (if b then 1 else 0)
 | .int a,.int b=>a == b
 | .str a,.str b=>a == b
 | _,_=>false
theorem eqAt_V {A:Around} {s:Shared} {y x:V} {u v:Value} (ry:RelV y u) (rx:RelV x v) (fy:flatV y=true) (fx:flatV x=true):SeqAt.EqAt A s u v (eqV y x):=by
 cases y with
 | non =>
  cases ry
  cases x with
  | non=>cases rx; exact SeqAt.EqAt.same _
  | bl b=>cases rx; exact SeqAt.EqAt.none_bool b
  | int b=>obtain ⟨t,rfl⟩:=rx; exact SeqAt.EqAt.none_int b t
  | str b=>obtain ⟨t,rfl⟩:=rx; exact SeqAt.EqAt.none_str b t
  | _=>exact absurd (show false=true from fx) Bool.false_ne_true
 | bl a =>
  cases ry
  cases x with
  | non=>cases rx; exact SeqAt.EqAt.bool_none a
  | bl b=>cases rx; exact SeqAt.EqAt.bool_bool a b
  | int b=>obtain ⟨t,rfl⟩:=rx; exact SeqAt.EqAt.bool_int a b t
  | str b=>obtain ⟨t,rfl⟩:=rx; exact SeqAt.EqAt.bool_str a b t
  | _=>exact absurd (show false=true from fx) Bool.false_ne_true
 | int a =>
  obtain ⟨t',rfl⟩:=ry
  cases x with
  | non=>cases rx; exact SeqAt.EqAt.int_none a t'
  | bl b=>cases rx; exact SeqAt.EqAt.int_bool a t' b
  | int b=>obtain ⟨t,rfl⟩:=rx; exact SeqAt.EqAt.int_int a t' b t
  | str b=>obtain ⟨t,rfl⟩:=rx; exact SeqAt.EqAt.int_str a t' b t
  | _=>exact absurd (show false=true from fx) Bool.false_ne_true
 | str a =>
  obtain ⟨t',rfl⟩:=ry
  cases x with
  | non=>cases rx; exact SeqAt.EqAt.str_none a t'
  | bl b=>cases rx; exact SeqAt.EqAt.str_bool a t' b
  | int b=>obtain ⟨t,rfl⟩:=rx; exact SeqAt.EqAt.str_int a t' b t
  | str b=>obtain ⟨t,rfl⟩:=rx; exact SeqAt.EqAt.str_str a t' b t
  | _=>exact absurd (show false=true from fx) Bool.false_ne_true
 | _=>exact absurd (show false=true from fy) Bool.false_ne_true
noncomputable def eqU (x:V) (u:Value):Bool:=match u with
 | .none=>eqV .non x
 | .bool b=>eqV (.bl b) x
 | .int i _=>eqV (.int i) x
 | .str z _=>eqV (.str z) x
 | _=>false
theorem eqU_of {x y:V} {u:Value} (r:RelV y u) (f:flatV y=true):eqU x u=eqV y x:=by
 cases y with
 | non=>cases r; rfl
 | bl b=>cases r; rfl
 | int i=>obtain ⟨t,rfl⟩:=r; rfl
 | str z=>obtain ⟨t,rfl⟩:=r; rfl
 | _=>exact absurd (show false=true from f) Bool.false_ne_true
theorem any_eqU {x:V}:∀ {xs:List V} {us:List Value},Vals xs us→xs.all flatV=true→us.any (eqU x)=xs.any fun y=>eqV y x
 | _,_,.nil,_=>rfl
 | y :: xs,u :: us,.cons r t,f=>by
  rw [List.all_cons,Bool.and_eq_true] at f
  rw [List.any_cons,List.any_cons,eqU_of r f.1,any_eqU t f.2]
theorem mem_eqAt {A:Around} {s:Shared} {x:V} {v:Value} (rx:RelV x v) (fx:flatV x=true):∀ {xs:List V} {us:List Value},Vals xs us→xs.all flatV=true→∀ u∈us,SeqAt.EqAt A s u v (eqU x u)
 | _,_,.nil,_=>fun u hu=>by cases hu
 | y :: xs,u :: us,.cons r t,f=>fun u' hu=>by
  rw [List.all_cons,Bool.and_eq_true] at f
  rcases List.mem_cons.mp hu with rfl | hu
  ·rw [eqU_of r f.1]; exact eqAt_V r rx f.1 fx
  ·exact mem_eqAt rx fx t f.2 u' hu
noncomputable def inV (x:V) (xs:List V):Bool:=xs.any fun y=>eqV y x
noncomputable def rIn (K:PySem.W.Frag) (neg:Bool):R2:=fun x y H Q=>∃ p xs,y=.ref p∧(SqL K H p xs∨SqT K H p xs)∧flatV x=true∧xs.all flatV=true∧Q (.bl (if neg then !inV x xs else inV x xs)) H
theorem op_in_seq:OpR X (compareOp .In) (rIn X.K false):=by
 intro pins s σ H x y v u Q I rx ry h
 obtain ⟨p,xs,rfl,hq,fx,fs,q⟩:=h
 cases ry
 rcases hq with hq | hq
 ·obtain ⟨its,r,pl,hz⟩:=I.list hq
  refine SeqAt.in_listAt (eqU x) pl.isList (fun w hw=>mem_eqAt rx fx r fs w (by simpa using hw)) ⟨.bl _,H,I,rfl,?_⟩
  rw [show its.toArray.any (eqU x)=its.any (eqU x) by simp,any_eqU r fs]
  exact q
 ·obtain ⟨its,r,pl,hz⟩:=I.tuple hq
  refine SeqAt.in_tupleAt (eqU x) pl (fun w hw=>mem_eqAt rx fx r fs w (by simpa using hw)) ⟨.bl _,H,I,rfl,?_⟩
  rw [show its.toArray.any (eqU x)=its.any (eqU x) by simp,any_eqU r fs]
  exact q
theorem op_notIn_seq:OpR X (compareOp .NotIn) (rIn X.K true):=by
 intro pins s σ H x y v u Q I rx ry h
 obtain ⟨p,xs,rfl,hq,fx,fs,q⟩:=h
 cases ry
 rcases hq with hq | hq
 ·obtain ⟨its,r,pl,hz⟩:=I.list hq
  refine SeqAt.notIn_listAt (eqU x) pl.isList (fun w hw=>mem_eqAt rx fx r fs w (by simpa using hw)) ⟨.bl _,H,I,rfl,?_⟩
  rw [show its.toArray.any (eqU x)=its.any (eqU x) by simp,any_eqU r fs]
  exact q
 ·obtain ⟨its,r,pl,hz⟩:=I.tuple hq
  refine SeqAt.notIn_tupleAt (eqU x) pl (fun w hw=>mem_eqAt rx fx r fs w (by simpa using hw)) ⟨.bl _,H,I,rfl,?_⟩
  rw [show its.toArray.any (eqU x)=its.any (eqU x) by simp,any_eqU r fs]
  exact q
theorem call_len_seq:CallR X (.builtin "len") (fun xs H Q=>∃ p ys,xs=[.ref p]∧(SqL X.K H p ys∨SqT X.K H p ys)∧Q (.int ys.length) H):=by
 intro pins s σ H xs us Q I r h
 obtain ⟨p,ys,rfl,hq,q⟩:=h
 obtain ⟨u,rfl,rx⟩:=vals1 r
 cases rx
 have hn:=line63
 rcases hq with hq | hq
 ·obtain ⟨its,r',pl,hz⟩:=I.list hq
  have hlen:=r'.length
  exact Calls.call_len_list pl.isList (by simp only [List.size_toArray] <;> lia) ⟨.int ys.length,H,I.tok _,⟨s.toks + 1,by rw [List.size_toArray,hlen]⟩,q⟩
 ·obtain ⟨its,r',pl,hz⟩:=I.tuple hq
  have hlen:=r'.length
  exact len_tuple pl (by simp only [List.size_toArray] <;> lia) ⟨.int ys.length,H,I.tok _,⟨s.toks + 1,by rw [List.size_toArray,hlen]⟩,q⟩
theorem call_list_of:CallR X (.type "list") (fun xs H Q=>∃ p ys,xs=[.ref p]∧(SqL X.K H p ys∨SqT X.K H p ys)∧∀ l,H l=none→Q (.ref l) (upd H l (.lst ys))):=by
 intro pins s σ H xs us Q I r h
 obtain ⟨p,ys,rfl,hq,q⟩:=h
 obtain ⟨u,rfl,rx⟩:=vals1 r
 cases rx
 have fin:∀ (its:List Value),Vals ys its→ys.length≤sizeLine→∀ (h':Heap) (c':Nat),(∀ b o',s.heap.get? b=some o'→h'.get? b=some o') →
   h'.get? s.heap.objs.size=some { cls:=.type "list",dict:=none,data:=.seq its.toArray c',slots:=#[] }→EP X pins σ Q (.ref s.heap.objs.size) { s with heap:=h' }:=fun its r' hz h' c' kp e =>
  ⟨.ref s.heap.objs.size,_,I.laid (t':=s.toks) kp (Nat.le_refl _) (show ObjOk X.prog X.w _ h' _ (.lst ys) from ⟨hz,its,c',r',e⟩),rfl,q _ (I.hok.fresh (Nat.le_refl _))⟩
 rcases hq with hq | hq
 ·obtain ⟨its,r',pl,hz⟩:=I.list hq
  have hlen:=r'.length
  obtain ⟨o,ho,hc,n,hd⟩:=pl.isList
  exact call_list_seq p (.inl rfl) ho hc hd (fun h' c' kp e=>fin its r' hz h' c' kp e) (by simp only [List.size_toArray] <;> lia)
 ·obtain ⟨its,r',pl,hz⟩:=I.tuple hq
  have hlen:=r'.length
  obtain ⟨o,ho,hc,n,hd⟩:=pl
  exact call_list_seq p (.inr rfl) ho hc hd (fun h' c' kp e=>fin its r' hz h' c' kp e) (by simp only [List.size_toArray] <;> lia)
theorem call_tuple_of:CallR X (.type "tuple") (fun xs H Q=>∃ p ys,xs=[.ref p]∧((SqL X.K H p ys∧∀ l,H l=none→Q (.ref l) (upd H l (.tup ys)))∨(SqT X.K H p ys∧Q (.ref p) H))):=by
 intro pins s σ H xs us Q I r h
 obtain ⟨p,ys,rfl,h⟩:=h
 obtain ⟨u,rfl,rx⟩:=vals1 r
 cases rx
 rcases h with ⟨hq,q⟩ | ⟨hq,q⟩
 ·obtain ⟨its,r',pl,hz⟩:=I.list hq
  have hlen:=r'.length
  refine call_tuple_list pl.isList (fun h' kp=>?_) (by simp only [List.size_toArray] <;> lia)
  have I1:Inv X pins σ H { s with heap:=h' }:=I.kept (t':=s.toks) kp
  have I2:Inv X pins σ (upd H h'.objs.size (.tup ys)) { s with heap:=h'.push { cls:=.type "tuple",data:=.seq its.toArray } } :=
   I1.laid (t':=s.toks) (fun b o e=>Heap.get?_push_of_some _ e) (Nat.le_refl _) (show ObjOk X.prog X.w _ _ _ (.tup ys) from ⟨hz,its,r',IsTup.new _ _⟩)
  exact ⟨.ref h'.objs.size,_,I2,rfl,q _ (I1.hok.fresh (Nat.le_refl _))⟩
 ·obtain ⟨its,r',pl,hz⟩:=I.tuple hq
  exact call_tuple_same pl ⟨.ref p,H,I,rfl,q⟩
noncomputable def tyV (K:PySem.W.Frag) (T:String) (x:V) (H:Hp):Prop:=match x with
 | .str _=>T="str"
 | .int _=>T="int"
 | .ref p=>(T="list"∧∃ xs,SqL K H p xs)∨(T="tuple"∧∃ o,K.lookup p=some o∧o.cls=.type "tuple"∧o.dict=none) ∨
   (T="dict"∧((∃ kvs,H p=some (.dK kvs))∨∃ kvs,H p=some (.dT kvs)))∨(T="set"∧∃ S n,H p=some (.set S n))
 | _=>False
theorem tyV_is {pins:List (Addr×Obj)} {σ:St} {H:Hp} {s:Shared} {T:String} {x:V} {v:Value} (I:Inv X pins σ H s) (r:RelV x v) (ty:tyV X.K T x H) :
  s.TypeIs v T∧∀ a,v=.ref a→∃ ob,s.heap.get? a=some ob∧ob.dict=none:=by
 cases x with
 | str z =>
  obtain ⟨t,rfl⟩:=r
  cases (show T="str" from ty)
  exact ⟨typeIs_str s z t,fun _ e=>nomatch e⟩
 | int i =>
  obtain ⟨t,rfl⟩:=r
  cases (show T="int" from ty)
  exact ⟨typeIs_int s i t,fun _ e=>nomatch e⟩
 | ref p =>
  cases r
  rcases ty with ⟨rfl,xs,hq⟩ | ⟨rfl,o,hk,hc,hd⟩ | ⟨rfl,hk⟩ | ⟨rfl,S,n,hk⟩
  ·obtain ⟨its,_,pl,_⟩:=I.list hq
   refine ⟨pl.isList.typeIs,fun a e=>?_⟩
   cases e
   obtain ⟨o,n,e,c,hd,_⟩:=pl
   exact ⟨o,e,hd⟩
  ·refine ⟨⟨o,I.kIn p o hk,hc⟩,fun a e=>?_⟩
   cases e
   exact ⟨o,I.kIn _ o hk,hd⟩
  ·have z:∃ o,s.heap.get? p=some o∧o.ExactDict:=by
    rcases hk with ⟨kvs,hk⟩ | ⟨kvs,hk⟩
    ·obtain ⟨_,_,_,_,o,_,_,e,ex,_⟩:=I.hok p _ hk
     exact ⟨o,e,ex⟩
    ·obtain ⟨_,_,_,_,o,_,_,e,ex,_⟩:=I.hok p _ hk
     exact ⟨o,e,ex⟩
   obtain ⟨o,e,ex⟩:=z
   refine ⟨⟨o,e,ex.1⟩,fun a e2=>?_⟩
   cases e2
   exact ⟨o,e,ex.2.1⟩
  ·obtain ⟨o,_,_,_,e,ex,_⟩:=I.hok p _ hk
   refine ⟨⟨o,e,ex.1⟩,fun a e2=>?_⟩
   cases e2
   exact ⟨o,e,ex.2.1⟩
 | _=>exact False.elim ty
noncomputable def tBM0 (K:PySem.W.Frag) (T:String) (r:V→List V→Hp→VK→Prop) (to:TE):TE:=fun σ H Q=>to σ H fun x H1=>tyV K T x H1∧r x [] H1 Q
noncomputable def tBM (K:PySem.W.Frag) (T:String) (r:V→List V→Hp→VK→Prop) (to:TE) (t:TA):TE:=fun σ H Q=>to σ H fun x H1=>tyV K T x H1∧t σ H1 fun xs H2=>r x xs H2 Q
variable {o e:Expr} {es:List Expr} {to:TE} {t:TA} {name:Str} {apos cpos:Pos} {T id:String} {r:V→List V→Hp→VK→Prop}
theorem pe_bm0 (pa:PlainAttrs T) (slot:Slot T name id) (hty:typeOf (.builtin id)=pure (.type "method_descriptor")) (hm:MtR X id r) (ho:PE X o to)
  (hbase:attributeBase o name X.env (eval o X.env)=eval o X.env:=by rfl) (hline:(apos.endLine == cpos.line)=true:=by rfl):PE X (.Call (.Attribute o name apos) [] [] cpos) (tBM0 X.K T r to):=by
 intro pins s σ H Q I h
 refine wpAny_Call_method0_late hbase hline (thn (ho pins s σ H _ I h) fun v s1 ⟨x,H1,I1,r1,ty,q1⟩=>?_)
 obtain ⟨h1,h2⟩:=tyV_is I1 r1 ty
 exact ⟨T,id,pa,slot,hty,h1,h2,Calls.callWith_builtin rfl (PySem.evalArgs_none (hm pins s1 σ H1 x [] v [] Q I1 r1 .nil q1))⟩
theorem pe_bm (pa:PlainAttrs T) (slot:Slot T name id) (hty:typeOf (.builtin id)=pure (.type "method_descriptor")) (hm:MtR X id r) (ho:PE X o to) (ha:PA X (e :: es) t)
  (hbase:attributeBase o name X.env (eval o X.env)=eval o X.env:=by rfl)
  (hfew:((backTo cpos (starEach (e :: es) X.env)).all (fun x=>!x.1) && (backToKw cpos (keywordEach [] X.env)).all (fun x=>x.1.isSome)
   && decide ((e :: es).length + ([]:List Keyword).length + (if ([]:List Keyword).isEmpty then 0 else 1) < 30))=true:=by rfl)
  (hline:(apos.endLine == cpos.line)=true:=by rfl) (hs:starEach (e :: es) X.env=(false,eval e X.env) :: starEach es X.env:=by rfl) (hplain:(backTo cpos (starEach es X.env)).any (·.1)=false:=by rfl) :
  PE X (.Call (.Attribute o name apos) (e :: es) [] cpos) (tBM X.K T r to t):=by
 intro pins s σ H Q I h
 refine wpAny_Call_method_late hbase hfew hline rfl (thn (ho pins s σ H _ I h) fun v s1 ⟨x,H1,I1,r1,ty,q1⟩=>?_)
 obtain ⟨h1,h2⟩:=tyV_is I1 r1 ty
 refine ⟨T,id,pa,slot,hty,h1,h2,?_⟩
 have hA:=ha cpos pins s1 σ H1 _ I1 q1
 rw [hs] at hA ⊢
 refine Calls.callWith_builtin (by show (false || (backTo cpos (starEach es X.env)).any (·.1))=false; rw [hplain] <;> rfl) (Calls.evalArgs_plain ?_)
 exact thn hA fun us s2 ⟨vs,H2,I2,r2,q2⟩=>hm pins s2 σ H2 x vs v us Q I2 r1 r2 q2
end
end L2
namespace L2
open PySem PySem.Spec PyProof.Rows
noncomputable def MtM (X:Cx) (id:String) (r:V→List V→Hp→VK→Prop):Prop :=
 ∀ (pins:List (Addr×Obj)) (s:Shared) (σ:St) (H:Hp) (x:V) (xs:List V) (v:Value) (us:List Value) (Q:VK),Inv X pins σ H s→RelV x v→Vals xs us→r x xs H Q →
  wpAny (model X.prog X.w) X.A (call (.builtin id) (v :: us)) (EP X pins σ Q) X.xe s
theorem Vals.one:∀ {x:V} {us:List Value},Vals [x] us→∃ u,us=[u]∧RelV x u
 | _,_,.cons r .nil=>⟨_,rfl,r⟩
theorem Vals.zero:∀ {us:List Value},Vals [] us→us=[]
 | _,.nil=>rfl
theorem Vals.dropLast {xs:List V} {us:List Value} (h:Vals xs us):Vals xs.dropLast us.dropLast:=by
 induction h with
 | nil=>exact .nil
 | cons r t ih =>
  cases t with
  | nil=>exact .nil
  | cons q t'=>exact .cons r ih
theorem erase_last {α:Type} (l:List α):l.eraseIdx (l.length - 1)=l.dropLast:=by
 induction l with
 | nil=>rfl
 | cons a r ih =>
  cases r with
  | nil=>rfl
  | cons b r =>
   have e:(a :: b :: r).length - 1=((b :: r).length - 1) + 1:=by
    have h1:(a :: b :: r).length=r.length + 2:=rfl
    have h2:(b :: r).length=r.length + 1:=rfl
    lia
   rw [e,List.eraseIdx_cons_succ,ih]
   all_goals rfl
section
variable {X:Cx} {pins:List (Addr×Obj)} {σ:St} {H:Hp} {s:Shared} {l b:Addr} {xs ys zs:List V}
theorem Inv.lset {its its':List Value} {n:Nat} {f:Array Value→Array Value} {t':Nat} (I:Inv X pins σ H s) (hH:H l=some (.lst xs))
  (e:s.heap.get? l=some { cls:=.type "list",data:=.seq its.toArray n }) (hf:f its.toArray=its'.toArray) (hv:Vals ys its') (hz:ys.length≤sizeLine) :
  Inv X pins σ (upd H l (.lst ys)) { s with heap:=s.heap.update l (Obj.mapSeq f),toks:=t' }:=by
 have q:=PySem.IsL.update e f
 rw [hf] at q
 refine I.write (x:=l) (e:=l) (by rw [hH]; exact trivial) (.inl rfl) (fun b' u hb hu=>(Heap.get?_update_other s.heap (Obj.mapSeq f) (Ne.symm hb)).trans hu) ⟨_,q⟩ ?_
 exact ⟨hz,its',_,hv,q⟩
theorem Inv.lnew {its:List Value} {t':Nat} (I:Inv X pins σ H s) (hv:Vals ys its) (hz:ys.length≤sizeLine) :
  Inv X pins σ (upd H s.heap.objs.size (.lst ys)) { s with heap:=s.heap.push { cls:=.type "list",data:=.seq its.toArray },toks:=t' } :=
 I.laid (fun _ _ q=>Heap.get?_push_of_some _ q) (Nat.le_refl _) ⟨hz,its,0,hv,Heap.get?_push_size _ rfl⟩
theorem Inv.fresh (I:Inv X pins σ H s):H s.heap.objs.size=none:=I.hok.fresh (Nat.le_refl _)
theorem Inv.lstM (I:Inv X pins σ H s) (hH:H l=some (.lst xs)):xs.length≤sizeLine∧∃ (its:List Value) (n:Nat),Vals xs its∧xs.length=its.length∧s.heap.get? l=some { cls:=.type "list",data:=.seq its.toArray n }:=by
 obtain ⟨z,its,n,r,e⟩:=I.hok l _ hH
 exact ⟨z,its,n,r,r.length,e⟩
end
section
variable {X:Cx}
noncomputable def rAppend:V→List V→Hp→VK→Prop:=fun x vs H Q=>∃ l xs y,x=.ref l∧vs=[y]∧H l=some (.lst xs)∧xs.length < sizeLine∧Q .non (upd H l (.lst (xs++[y])))
theorem mt_append:MtM X "list.append" rAppend:=by
 intro pins s σ H x vs v us Q I rx rv h
 obtain ⟨l,xs,y,rfl,rfl,hH,hz,q⟩:=h
 cases rx
 obtain ⟨u,rfl,ru⟩:=rv.one
 obtain ⟨z,its,n,r,hl,e⟩:=I.lstM hH
 refine call_meets F.slot_list_append ⟨_,e,rfl⟩ F.entry_list_append (F.args_list_append_2 _ _) (PySem.list_append l its.toArray n u (by rw [List.size_toArray]; lia)) ⟨e,?_⟩
 refine ⟨.non,_,I.lset (its':=its++[u]) hH e (by simp) (r.append (.cons ru .nil)) ?_,rfl,q⟩
 rw [List.length_append,List.length_singleton]
 lia
noncomputable def rPop:V→List V→Hp→VK→Prop:=fun x vs H Q=>∃ l xs y,x=.ref l∧vs=[]∧H l=some (.lst xs)∧xs[xs.length - 1]?=some y∧Q y (upd H l (.lst xs.dropLast))
theorem mt_pop:MtM X "list.pop" rPop:=by
 intro pins s σ H x vs v us Q I rx rv h
 obtain ⟨l,xs,y,rfl,rfl,hH,hy,q⟩:=h
 cases rx
 have hus:=rv.zero
 subst hus
 obtain ⟨z,its,n,r,hl,e⟩:=I.lstM hH
 obtain ⟨u,hu,ru⟩:=r.get hy
 have hy':its.toArray[its.toArray.size - 1]?=some u:=by
  show its.toArray[its.length - 1]?=some u
  rw [← Array.getElem?_toList,← hl]
  exact hu
 refine call_meets F.slot_list_pop ⟨_,e,rfl⟩ F.entry_list_pop (F.args_list_pop_1 _) (MeetsSeq.list_pop_last l its.toArray n u hy' (by rw [List.size_toArray]; lia)) ⟨e,?_⟩
 refine ⟨y,_,I.lset (its':=its.dropLast) hH e ?_ r.dropLast ?_,ru,q⟩
 ·show its.toArray.eraseIdxIfInBounds (its.toArray.size - 1)=its.dropLast.toArray
  rw [List.size_toArray,List.eraseIdxIfInBounds_toArray,erase_last]
 ·rw [List.length_dropLast]
  lia
noncomputable def rCat:R2:=fun x y H Q=>∃ l b xs zs,x=.ref l∧y=.ref b∧H l=some (.lst xs)∧H b=some (.lst zs)∧xs.length + zs.length≤sizeLine∧∀ p,H p=none→Q (.ref p) (upd H p (.lst (xs++zs)))
theorem op_cat:OpR X (binaryOp .Add) rCat:=by
 intro pins s σ H x y v u Q I rx ry h
 obtain ⟨l,b,xs,zs,rfl,rfl,hH,hB,hz,q⟩:=h
 cases rx
 cases ry
 obtain ⟨z,its,n,r,hl,e⟩:=I.lstM hH
 obtain ⟨z2,its2,n2,r2,hl2,e2⟩:=I.lstM hB
 refine PySem.P.add_list e e2 ?_ (by rw [List.size_toArray,List.size_toArray]; lia)
 have ea:its.toArray++its2.toArray=(its++its2).toArray:=by simp
 rw [ea]
 exact ⟨.ref _,_,I.lnew (t':=s.toks) (r.append r2) (by rw [List.length_append]; lia),rfl,q _ I.fresh⟩
end
section
variable {prog:Program} {w:World} {A:Around} {E:Value→Shared→Prop} {s:Shared}
set_option maxRecDepth 100000 in
end
section
variable {X:Cx}
end
end L2
namespace Att
open PySem PySem.W PySem.Calls PyProof.Rows
theorem ints_of_wellAll {P:Params} {h:Heap}:∀ (ns:List Int) (vs:List Value),WellAll P h vs (ns.map WData.int)→IntsAre vs ns:=by
 intro ns
 induction ns with
 | nil =>
  intro vs w
  rw [List.map_nil] at w
  cases w
  exact .nil
 | cons n ns ih =>
  intro vs w
  rw [List.map_cons] at w
  cases w with
  | cons a b =>
   cases a
   exact .cons _ _ (ih _ b)
theorem script_of {l:OpenLaw} {n:Nat} (hn:l.most=some n) {P:Params} {h:Heap} {args:List WData} {vals:List Value}
    (hpre:l.row.toRowW.claim.pre args=true) (hwl:WellAll P h vals args) :
    ∃ a vs ns,vals=[Value.ref a]∧args=[WData.list (ns.map WData.int)]∧h.get? a=some { cls:=.type "list",data:=.seq vs.toArray }∧IntsAre vs ns∧ns.length≤n:=by
  have hsh:WShape.hasAll [] args [.list .int]=true:=(pre_splitW hpre).1
  have hc:l.pre.holds [] { args:=args }=true:=(pre_splitW hpre).2
  obtain ⟨d,r,rfl,h1,h2⟩:=hasAllW_cons hsh
  obtain rfl:=hasAllW_nil h2
  obtain ⟨xs,rfl,h3⟩:=hasW_list h1
  obtain ⟨ns,rfl⟩:=items_int h3
  have hlen:ns.length≤n:=by
    unfold OpenLaw.pre at hc
    have h4:(WTm.not (.lt (.lit (.int (n:Int))) (.len (.arg 0)))).holds [] { args:=[.list (ns.map .int)] }=true:=by
      have h4:=(holds_andW hc).1
      rw [hn] at h4
      exact h4
    have h5:=condW_of h4 (w_not (w_lt w_lit (w_len_list (w_arg rfl))))
    rw [List.length_map] at h5
    refine Nat.le_of_not_lt fun q=>?_
    have q':(n:Int) < ((ns.length:Nat):Int):=by lia
    first
      | (rw [decide_eq_true q'] at h5; exact absurd h5 (by decide))
      | (simp at h5; lia)
  cases hwl with
  | cons w1 w2 =>
    cases w2
    cases w1 with
    | list ho hall=>exact ⟨_,_,ns,rfl,rfl,ho,ints_of_wellAll ns _ hall,hlen⟩
theorem post_true (l:OpenLaw) (args:List WData):l.row.toRowW.claim.post args (.bool true) args=true :=
 postW_of (r:=l.row.toRowW) (X:=(true == true))
  (show WShape.has [] (.bool true) .bool=true by first | rfl | decide | simp [WShape.has,WShape.arms,WShape.armsAll])
  (show (WTm.eq .res (.lit (.bool true))).value [] { args:=args,res:=some (.bool true),after:=args }=some (.bool (true == true)) from w_eq_bool (w_res rfl) w_lit) rfl
theorem attach_call {l:OpenLaw} {n:Nat} {q:Program} {loose:List Str} {XP:(Str→Option Value)→Heap→Prop} {YP:World→Heap→Prop} {d:DefRec}
  (hn:l.most=some n) (hdf:d.params.defaults=[])
  (call:∀ (w:World) (s₀ s₁:Shared) (mg mb:Str→Option Value) (fa:Addr) (o:Obj) (pm cd doc:Value) (a:Addr) (vs:List Value) (ns:List Int),
   Ground q loose [] XP w s₀ mg mb s₁.heap→YP w s₁.heap →
   s₁.heap.get? fa=some o→o.data=.func (docDef d.name d.params d.body d.scope pm cd doc)→s₁.heap.CodeRec cd d.name→mg d.name=some (.ref fa) →
   s₁.heap.get? a=some { cls:=.type "list",data:=.seq vs.toArray }→IntsAre vs ns→ns.length≤n→s₁.gens=#[] →
   codeAny (model l.prog w) callerA (.call (.ref fa) ⟨[.ref a],[]⟩) (fun r s'=>r=.ok (.ret (.bool true))∧OldK s₁.heap s'.heap∧s'.os=s₁.os∧AllBare s'.gens) s₁) :
  WalkO q loose XP YP l.row.toRowW d [] (fun f vs=>PySem.call f vs):=by
 intro w s₀ s₁ mg mb G Y fa o pm cd doc dV kV ho hd hcd hD hmg hg args vals as hpre hlay hrd hwl hlo
 obtain rfl:dV=.none:=Dflts.none hD hdf
 obtain rfl:kV=.none:=Dflts.noKw hD
 obtain ⟨a,vs,ns,rfl,rfl,hobj,hints,hlen⟩:=script_of hn hpre hwl
 refine enter_call (codeAny_mono (call w s₀ s₁ mg mb fa o pm cd doc a vs ns G Y ho (fd_plain hd) hcd hmg hobj hints hlen hg) fun r s' hq=>?_)
 obtain ⟨rfl,h2,h3,h4⟩:=hq
 exact ⟨.inl ⟨.bool true,.bool true,[],rfl,fun _=>rfl,.bool true,post_true l _,fun _=>⟨List.Pairwise.nil,fun _ hm=>(nomatch hm)⟩⟩,h2,h3,h4⟩
section
variable {prog:Program} {w:World} {A:Around} {E:Value→Shared→Prop} {s:Shared} {K:Frag}
end
end Att
namespace L2
open PySem PySem.Spec PyProof.Rows
theorem vals_ints:∀ {vs:List Value} {ns:List Int},IntsAre vs ns→Vals (ns.map V.int) vs
 | _,_,.nil=>.nil
 | _,_,.cons n t h=>.cons ⟨t,rfl⟩ (vals_ints h)
noncomputable def Only (H:Hp):Prop:=∀ b,H b=none∨∃ o xs,H b=some (.frz o (.lst xs))
theorem law_call {P:Program} {w:World} {K:PySem.W.Frag} {mg mb:Str→Option Value} {CX:CXT} {k:Nat} {fa a:Addr} {fd:FuncData} {x:Str} {sp:Sp} {s₁:Shared} {vs:List Value} {ns:List Int}
  (KX:K.In s₁.heap) (hns:s₁.heap.Ns mainGlobals mg) (hb:s₁.heap.Ns builtinsNs mb) (hbb:∀ x:Str,x≠"__name__"→mb x=bootBuiltins x) (hlim:s₁.heap.NoLimit) (hg:s₁.gens=#[])
  (ha:s₁.heap.get? a=some { cls:=.type "list",data:=.seq vs.toArray }) (hi:IntsAre vs ns) (hl:ns.length≤sizeLine) (hr:Room k callerA)
  (F:∀ base:Heap,K.In base→base.Ns mainGlobals mg→FnOk P w K mg base CX k fa fd [x] sp) (hbind:∀ (s:Shared) (u:Value),BindsTo s fd ⟨[u],[]⟩ [(x,u)])
  (hsp:∀ H:Hp,Only H→SqL K H a (ns.map V.int)→sp [.ref a] H (fun v _=>v=.bl true) fun _ _ _=>False)
  (hCX:∀ H e s',CX [] H s₁ (fun _ _ _=>False) e s'→False) :
  codeAny (model P w) callerA (.call (.ref fa) ⟨[.ref a],[]⟩) (fun r s'=>r=.ok (.ret (.bool true))∧OldK s₁.heap s'.heap∧s'.os=s₁.os∧AllBare s'.gens) s₁:=by
 have rv:=vals_ints hi
 have lenV:=hi.length
 have core:∀ H:Hp,Only H→SqL K H a (ns.map V.int)→HOk P w H s₁.heap→(∀ b,H b≠none→b=a)→(H a≠none→K.lookup a=none) →
   codeAny (model P w) callerA (.call (.ref fa) ⟨[.ref a],[]⟩) (fun r s'=>r=.ok (.ret (.bool true))∧OldK s₁.heap s'.heap∧s'.os=s₁.os∧AllBare s'.gens) s₁:=by
  intro H hO hS hok hA hK
  have base_of:∀ {b:Addr} {o:Obj},s₁.heap.get? b=some o→H b=none→(hidT s₁.heap H).get? b=some o:=fun e n=>hidT_get e n
  have noA:∀ {b:Addr} {o:Obj} {es:Array DictEntry} {ep:Nat},s₁.heap.get? b=some o→o.data=.dict es ep→H b=none:=fun {b o es ep} e d=>by
   cases q:H b with
   | none=>rfl
   | some u =>
    have e':b=a:=hA b (by rw [q]; simp)
    subst e'
    rw [ha] at e; cases e
    have d':Data.seq vs.toArray _=Data.dict es ep:=d
    cases d'
  have nsK:∀ {b:Addr} {m:Str→Option Value},s₁.heap.Ns b m→(hidT s₁.heap H).Ns b m:=fun {b m} ⟨o,es,ep,e,d,r⟩=>⟨o,es,ep,base_of e (noA e d),d,r⟩
  have hKb:K.In (hidT s₁.heap H):=fun b o e=>base_of (KX b o e) (by
   cases q:H b with
   | none=>rfl
   | some u =>
    have e':b=a:=hA b (by rw [q]; simp)
    subst e'
    rw [hK (by rw [q]; simp)] at e; cases e)
  have hM:Mod K mg (hidT s₁.heap H):=⟨hKb,nsK hns,⟨mb,nsK hb,hbb⟩,let ⟨mc,h1,h2⟩:=hlim; ⟨mc,nsK h1,h2⟩⟩
  have e0:Env0 P w K mg (hidT s₁.heap H) callerA [] s₁ H:=⟨rfl,hM,fun b o e=>of_hidT e,Nat.le_of_eq (hidT_size _ _),trivial,fun b hb=>absurd (show b∈([]:List Addr) from hb) (by simp),hok,.of_eq hg⟩
  refine codeAny_mono ((F _ hKb (nsK hns)).run callerA [] s₁ H ⟨[.ref a],[]⟩ [.ref a] [.ref a] _ _ hr e0 (hbind s₁ (.ref a)) (.cons rfl .nil) (hsp H hO hS)) fun r s' h=>?_
  cases r with
  | error e=>exact (hCX H e s' h).elim
  | ok fl =>
   cases fl with
   | next=>exact False.elim h
   | brk=>exact False.elim h
   | cont=>exact False.elim h
   | ret u =>
    obtain ⟨v,H',os,bare,un,hok',r',q⟩:=h
    have q':v=.bl true:=q
    subst q'
    obtain rfl:u=Value.bool true:=r'
    refine ⟨rfl,OldK.of_keep fun b o e=>?_,os,bare⟩
    cases q:H b with
    | none=>exact un.keep b o e q (by intro z; exact absurd (show b∈([]:List Addr) from z) (by simp)) (by simp)
    | some u =>
     rcases hO b with z | ⟨ob,xs,z⟩
     ·rw [q] at z; cases z
     ·have z2:=un.frzs b ob _ z
      obtain ⟨e1,_⟩:=hok b _ z
      obtain ⟨e2,_⟩:=hok' b _ z2
      rw [e] at e1; cases e1
      exact e2
 cases hk:K.lookup a with
 | some o =>
  have e:=KX a o hk
  rw [ha] at e
  cases e
  refine core (fun _=>none) (fun _=>.inl rfl) (.inr ⟨_,vs.toArray,_,hk,rfl,rfl,rfl,by rw [List.size_toArray,lenV]; exact hl,by simpa using rv⟩) (fun b u z=>by have z':(none:Option HO)=some u:=z; cases z') (fun b z=>absurd rfl z) fun z=>absurd rfl z
 | none =>
  refine core (fun b=>if b=a then some (.frz { cls:=.type "list",data:=.seq vs.toArray } (.lst (ns.map V.int))) else none) (fun b=>?_) (.inl (.inr ⟨{ cls:=.type "list",data:=.seq vs.toArray },if_pos rfl⟩)) (fun b u z=>?_) (fun b z=>?_) fun _=>hk
  ·by_cases hb:b=a
   ·exact .inr ⟨_,_,if_pos hb⟩
   ·exact .inl (if_neg hb)
  ·by_cases hb:b=a
   ·have z':=(if_pos hb).symm.trans z
    cases z'
    subst hb
    exact ⟨ha,by rw [List.length_map]; exact hl,vs,_,rv,ha⟩
   ·have z':=(if_neg hb).symm.trans z
    cases z'
  ·by_cases hb:b=a
   ·exact hb
   ·exact absurd (if_neg hb) z
end L2
namespace L2
open PySem PySem.Spec PyProof.Rows
theorem walk_of {l:PySem.W.OpenLaw} {n k:Nat} {q:Program} {loose:List Str} {XP:(Str→Option Value)→Heap→Prop} {YP:World→Heap→Prop} {d:DefRec} {K:Params→PySem.W.Frag} {CX:World→CXT} {sp:World→Sp} {x:Str}
  (hn:l.most=some n) (hn2:n≤sizeLine) (hdf:d.params.defaults=[]) (hr:Room k callerA)
  (hY:∀ (w:World) (h:Heap),YP w h→(K w.params).In h)
  (F:∀ (w:World) (mg:Str→Option Value) (fa:Addr) (h:Heap),(K w.params).In h→h.Ns mainGlobals mg→mg d.name=some (.ref fa) →
   ∃ fd:FuncData,(∀ (s:Shared) (u:Value),BindsTo s fd ⟨[u],[]⟩ [(x,u)]) ∧
    ∀ base:Heap,(K w.params).In base→base.Ns mainGlobals mg→FnOk l.prog w (K w.params) mg base (CX w) k fa fd [x] (sp w))
  (hsp:∀ (w:World) (H:Hp) (a:Addr) (ns:List Int),ns.length≤n→Only H→SqL (K w.params) H a (ns.map V.int)→sp w [.ref a] H (fun v _=>v=.bl true) fun _ _ _=>False)
  (hCX:∀ (w:World) (H:Hp) (s:Shared) (e:Value) (s':Shared),CX w [] H s (fun _ _ _=>False) e s'→False) :
  PySem.W.WalkO q loose XP YP l.row.toRowW d [] (fun f vs=>PySem.call f vs):=by
 refine Att.attach_call hn hdf fun w s₀ s₁ mg mb fa o pm cd doc a vs ns G Y ho hd hcd hmg hobj hints hlen hg=>?_
 have KX:=hY w _ Y
 obtain ⟨fd,hb,hF⟩:=F w mg fa _ KX G.T.g hmg
 exact law_call KX G.T.g G.T.b G.T.builtins G.T.nolimit hg hobj hints (Nat.le_trans hlen hn2) hr hF hb (fun H hO hS=>hsp w H a ns hlen hO hS) fun H e s'=>hCX w H s₁ e s'
end L2
namespace L2
open PySem PySem.Spec PyProof.Rows
noncomputable def inClass (s:Stmt) (j:Nat):Stmt:=match s with
 | .ClassDef _ _ _ body _ _ _ _ _ _ _=>body.getD j (.Pass ⟨0,0,0,0⟩)
 | _=>.Pass ⟨0,0,0,0⟩
noncomputable def defArgs (s:Stmt):Arguments:=match s with
 | .FunctionDef _ a _ _ _ _ _ _ _ _=>a
 | _=>{ posonlyargs:=[],args:=[],vararg:=none,kwonlyargs:=[],kw_defaults:=[],kwarg:=none,defaults:=[] }
noncomputable def defBody (s:Stmt):List Stmt:=match s with
 | .FunctionDef _ _ b _ _ _ _ _ _ _=>b
 | _=>[]
noncomputable def defScope (s:Stmt):Scope:=match s with
 | .FunctionDef _ _ _ _ _ _ sc _ _ _=>sc
 | _=>{ kind:=.function,names:=[],isGenerator:=false,isCoroutine:=false }
noncomputable abbrev CX0:CXT:=fun _ _ _ _ _ _=>False
noncomputable abbrev E0:XK:=fun _ _ _=>False
theorem pass0 {X:Cx}:Passes CX0 X E0:=fun _ _ _ _ _ _ _ h=>h.elim
structure Fun (K:PySem.W.Frag) (x qual:Str) (st:Stmt) (f:Addr) (fd:FuncData):Prop where
 ex:∃ (oc:Value) (od:Option Addr) (kV doc pm:Value) (an:Option Addr) (cdv ct:Value) (osl:Array (Option Value)),
  fd=PySem.W.fnOf x qual (defArgs st) (defBody st) (defScope st) .none kV doc pm an cdv ct∧K.lookup f=some ⟨oc,od,.func fd,osl⟩∧PySem.W.codeIn K cdv qual=true
 kp:PySem.W.keepIn K (.ref f)=true
section
variable {P:Program} {w:World} {K:PySem.W.Frag} {mg:Str→Option Value} {base:Heap}
theorem Fun.ok {x qual:Str} {st:Stmt} {f:Addr} {fd:FuncData} {N ps:List Str} {k:Nat} {sp:Sp} (F:Fun K x qual st f fd) (S:FnScope N ps (defScope st)) (len:∀ vs H Q E,sp vs H Q E→vs.length=ps.length)
  (hbody:∀ (cdv:Value) (A:Around) (outer:List Env) (s:Shared) (H:Hp) (vs:List V) (Q:VK) (E:XK),Room k (A.deeper (envOfC qual (defScope st) s.heap.objs.size f cdv))→sp vs H Q E →
   ∃ t,PSs (cxOf CX0 P w K mg base N qual (defScope st) f cdv A outer s H E).nox (defBody st) t∧t { nx:=fun _ H'=>Q .non H',rt:=Q } (start N vs) H):FnOk P w K mg base CX0 (k + 1) f fd ps sp:=by
 obtain ⟨oc,od,kV,doc,pm,an,cdv,ct,osl,rfl,lk,hcd⟩:=F.ex
 refine fn_of lk hcd S len fun A outer s H vs Q E hr hsp=>?_
 obtain ⟨t,h,q⟩:=hbody cdv A outer s H vs Q E hr hsp
 exact ⟨t,h.nox,q⟩
theorem Fun.binds {x qual:Str} {st:Stmt} {f:Addr} {fd:FuncData} {ps:List Str} (F:Fun K x qual st f fd)
  (h:∀ (kV doc pm:Value) (an:Option Addr) (cdv ct:Value) (us:List Value),us.length=ps.length→bindArgs (PySem.W.fnOf x qual (defArgs st) (defBody st) (defScope st) .none kV doc pm an cdv ct) ⟨us,[]⟩=pure (ps.zip us)):Binds K fd ps []:=by
 obtain ⟨oc,od,kV,doc,pm,an,cdv,ct,osl,rfl,lk,hcd⟩:=F.ex
 exact .all (h kV doc pm an cdv ct)
theorem fun_mk {x qual:Str} {st:Stmt} {f:Addr} {oc:Value} {od an:Option Addr} {osl:Array (Option Value)} {kV doc pm cdv ct:Value} (l:K.lookup f=some ⟨oc,od,.func (PySem.W.fnOf x qual (defArgs st) (defBody st) (defScope st) .none kV doc pm an cdv ct),osl⟩)
  (c:PySem.W.codeIn K cdv qual=true) (k:PySem.W.keepIn K (.ref f)=true):Fun K x qual st f (PySem.W.fnOf x qual (defArgs st) (defBody st) (defScope st) .none kV doc pm an cdv ct):=⟨⟨oc,od,kV,doc,pm,an,cdv,ct,osl,rfl,l,c⟩,k⟩
end
theorem hu_of {A:Around} {k:Nat} (hr:Room k A):A.units + 1 < cLine:=Nat.lt_of_le_of_lt (Nat.add_le_add_left (by decide:1≤64) _) hr.units
section
variable {X:Cx}
theorem pv (i:Nat) {x:Str} {pos:Pos} (hN:X.N[i]?=some x:=by rfl) (hv:Vis X.env.scope x:=by first | exact Or.inl rfl | exact Or.inr (Or.inl rfl) | exact Or.inr (Or.inr rfl)) (hd:(x == ("__debug__":Str))=false:=by decide)
  (hcd:(x == ("__classdict__":Str))=false:=by decide):PE X (.Name x pos) (tVar i):=pe_var hN hv hd hcd
end
theorem iteF {A B:Prop} (h:B):if false=true then A else B:=by
 rw [if_neg Bool.false_ne_true]
 exact h
theorem iteT {A B:Prop} (h:A):if true=true then A else B:=by
 rw [if_pos rfl]
 exact h
theorem ite2 {c A B:Prop} [Decidable c] (h1:c→A) (h2:¬ c→B):if c then A else B:=by
 by_cases h:c
 ·rw [if_pos h]
  exact h1 h
 ·rw [if_neg h]
  exact h2 h
theorem iteNS {c A B:Prop} [Decidable c] (hc:c) (h:B):if (!decide c)=true then A else B:=by
 rw [decide_eq_true hc]
 exact iteF h
noncomputable def Same (H H':Hp):Prop:=∀ b o,H b=some o→H' b=some o
theorem Same.refl (H:Hp):Same H H:=fun _ _ h=>h
theorem Same.trans {H H1 H2:Hp} (a:Same H H1) (b:Same H1 H2):Same H H2:=fun c o h=>b c o (a c o h)
end L2
namespace L2
open PySem PySem.Spec PyProof.Rows
section
variable {X:Cx}
theorem op_mulB:OpR X (binaryOp .Mult) (rI IntMulOk fun i j=>.int (i * j)):=opI fun _ _ _ _ _ _ _ hc q=>mul_int q hc
theorem log2_lt_of {n k:Nat} (hk:0 < k) (h:n < 2 ^ k):n.log2 < k:=by
 rcases Nat.eq_zero_or_pos n with h0 | hp
 ·rw [h0]; simpa using hk
 ·exact (Nat.log2_lt (Nat.ne_of_gt hp)).mpr h
theorem mulOk_of {a b:Int} (ha:a.natAbs < 2 ^ 4000) (hb:b.natAbs < 2 ^ 4000):IntMulOk a b:=by
 have l:∀ {z:Int},z.natAbs < 2 ^ 4000→Builtin.Int.intBits z≤4000:=by
  intro z hz
  unfold Builtin.Int.intBits
  split
  ·exact Nat.zero_le _
  ·have:=log2_lt_of (by decide:0 < 4000) hz
   lia
 have h1:=l ha
 have h2:=l hb
 unfold IntMulOk
 have:Builtin.Int.intTooBig ((Builtin.Int.intBits a:Int) + (Builtin.Int.intBits b:Int))=false:=by
  unfold Builtin.Int.intTooBig bitsLine
  exact decide_eq_false (by lia)
 rw [this]; simp
noncomputable def CDivB (i j:Int):Prop:=0 < j∧j.natAbs < 2 ^ 4000
theorem op_fdivB:OpR X (binaryOp .FloorDiv) (rI CDivB fun i j=>.int (i / j)):=opI fun i j _ _ _ _ _ hc q=>by
 have h1:(0:Int) < j:=hc.1
 have h2:=log2_lt_of (by decide:0 < 4000) hc.2
 exact floordiv_int (by lia) (by rw [Int.fdiv_eq_ediv_of_nonneg i (by lia)]; exact q) (.inl (PyProof.noPylong_of_log2 (by lia)))
theorem call_isinst:CallR X (.builtin "isinstance") (fun xs H Q=>∃ x T t b,xs=[x,.ty T]∧TyOf X.K H x t∧PySem.W.kitOne X.K t (.type T)=some b∧Q (.bl b) H):=by
 intro pins s σ H xs us Q I r h
 obtain ⟨x,T,t,b,rfl,ty,e,q⟩:=h
 obtain ⟨u,u2,rfl,rx,r2⟩:=vals2 r
 obtain rfl:u2=Value.type T:=r2
 exact isinst_ok I rx ty e fun tk=>⟨.bl b,H,I.tok tk,rfl,q⟩
theorem kit_int_tuple (K:PySem.W.Frag):PySem.W.kitOne K (.type "int") (.type "tuple")=some false:=by with_unfolding_all rfl
noncomputable def TopDict (w:World) (K:PySem.W.Frag) (a:Addr):Prop:=∃ es n,K.lookup a=some ⟨.type "dict",none,.dict es n,#[]⟩∧PySem.W.KeysLit w.params es.toList
noncomputable def rIxD (w:World) (K:PySem.W.Frag):R2:=fun x y H Q=>∃ a z v u,x=.ref a∧y=.str z∧TopDict w K a∧PySem.W.nsIn K a z=some (some u)∧RelV v u∧Q v H
theorem ix_top:IxR X (rIxD X.w X.K):=by
 intro value slice pins s σ H x y v u Q I rx ry h hs
 obtain ⟨a,z,v',u',rfl,rfl,⟨es,n,hl,hk⟩,e,r,q⟩:=h
 obtain rfl:v=Value.ref a:=rx
 obtain ⟨t,rfl⟩:=ry
 obtain ⟨m,F⟩:=I.fr
 exact PySem.W.topItem_K F I.mod.kin hl hk e ⟨v',H,I.tok _,r,q⟩ hs
structure Callee (P:Program) (w:World) (K:PySem.W.Frag) (mg:Str→Option Value) (base:Heap) (CX:CXT) (k:Nat) (f:Addr) (sp:Sp):Prop where
 ok:∃ fd ps,FnOk P w K mg base CX k f fd ps sp∧Binds K fd ps []
 kp:PySem.W.keepIn K (.ref f)=true
end
end L2
namespace L2
open PySem PySem.Spec PyProof.Rows
theorem bt_len:bootBuiltins "len"=some (.builtin "len"):=by decide +kernel
theorem bt_isinstance:bootBuiltins "isinstance"=some (.builtin "isinstance"):=by decide +kernel
theorem bt_int:bootBuiltins "int"=some (.type "int"):=by decide +kernel
theorem bt_tuple:bootBuiltins "tuple"=some (.type "tuple"):=by decide +kernel
theorem bt_list:bootBuiltins "list"=some (.type "list"):=by decide +kernel
structure Def (P:Program) (w:World) (K:PySem.W.Frag) (mg:Str→Option Value) (base:Heap) (CX:CXT) (k:Nat) (x:Str) (sp:Sp):Prop where
 ex:∃ f fd ps,FnOk P w K mg base CX k f fd ps sp∧Binds K fd ps []∧mg x=some (.ref f)∧PySem.W.keepIn K (.ref f)=true
section
variable {X:Cx} {CX:CXT} {k:Nat} {sp:Sp} {x:Str} {p pos:Pos} {e:Expr} {es:List Expr} {t:TA}
theorem pe_def (G:Def X.prog X.w X.K X.mg X.base CX0 k x sp) (hr:Room k X.A) (ha:PA X (e :: es) t) (hg:Gl X x:=by rfl) (hdb:(x == ("__debug__":Str))=false:=by decide)
  (he:starEach (e :: es) X.env=(false,eval e X.env) :: starEach es X.env:=by rfl) (hpl:(backTo pos (starEach es X.env)).any (·.1)=false:=by rfl) :
  PE X (.Call (.Name x p) (e :: es) [] pos) (tCall sp [] E0 t):=by
 obtain ⟨f,fd,ps,a,b,c,d⟩:=G.ex
 exact pe_call a hr hg c d b .nil pass0 ha hdb he hpl
noncomputable def rIsin (K:PySem.W.Frag):List V→Hp→VK→Prop:=fun xs H Q=>match xs with
 | [x,.ty T]=>∃ t b,TyOf K H x t∧PySem.W.kitOne K t (.type T)=some b∧Q (.bl b) H
 | _=>False
theorem call_isin:CallR X (.builtin "isinstance") (rIsin X.K):=by
 intro pins s σ H xs us Q I r h
 unfold rIsin at h
 split at h
 ·obtain ⟨t,b,ty,e,q⟩:=h
  exact call_isinst pins s σ H _ us Q I r ⟨_,_,t,b,rfl,ty,e,q⟩
 ·exact h.elim
theorem pe_isin {T:Str} {TT:String} {a:Expr} {ta:TE} {p2:Pos} (hm:X.mg "isinstance"=none) (hT:X.mg T=none) (hv:bootBuiltins T=some (.type TT)) (ha:PE X a ta) (hg:Gl X "isinstance":=by rfl) (hg2:Gl X T:=by rfl) (hn:T≠"__name__":=by decide) (hd:(T == ("__debug__":Str))=false:=by decide)
  (he:starEach [a,.Name T p2] X.env=(false,eval a X.env) :: starEach [.Name T p2] X.env:=by rfl) (hpl:(backTo pos (starEach [.Name T p2] X.env)).any (·.1)=false:=by rfl) (he2:starEach [.Name T p2] X.env=[(false,eval (.Name T p2) X.env)]:=by rfl) :
  PE X (.Call (.Name "isinstance" p) [a,.Name T p2] [] pos) (fun σ H Q=>ta σ H fun x H1=>∃ t b,TyOf X.K H1 x t∧PySem.W.kitOne X.K t (.type TT)=some b∧Q (.bl b) H1) :=
 pe_callB call_isin hg hm bt_isinstance (pa_cons ha (pa_cons (pe_bltn (v:=.ty TT) hg2 hT hv rfl hn hd) pa_nil he2) he) (by decide) (by decide) he hpl
end
end L2
set_option maxHeartbeats 4000000
namespace L2
open PySem PySem.Spec PyProof.Rows
noncomputable def closes (cells:List (Str×Addr)):List (Str×NameKind)→List (Str×Addr)→Option (List (Str×Addr))
 | [],acc=>some acc
 | (n,k) :: r,acc=>if (k == .free)=true then (match cells.lookup n with
  | some a=>closes cells r ((n,a) :: acc)
  | none=>none) else closes cells r acc
theorem closureFor_of {scope:Scope} {env:Env} {cl:List (Str×Addr)} (h:closes env.cells scope.names []=some cl):closureFor scope env=pure cl:=by
 have gen:∀ (l:List (Str×NameKind)) (acc cl:List (Str×Addr)),closes env.cells l acc=some cl →
   (forIn (m:=Sem) l acc fun (x:Str×NameKind) (cs:List (Str×Addr))=>if (x.2 == .free)=true then (do let c ← cellOf env x.1; pure (ForInStep.yield ((x.1,c) :: cs))) else pure (ForInStep.yield cs))=pure cl:=by
  intro l
  induction l with
  | nil=>intro acc cl h; cases h; rfl
  | cons y r ih =>
   intro acc cl h
   obtain ⟨n,k⟩:=y
   unfold closes at h
   rw [List.forIn_cons]
   by_cases hk:(k == .free)=true
   ·rw [if_pos hk] at h
    dsimp only
    rw [if_pos hk]
    cases e:env.cells.lookup n with
    | none=>rw [e] at h; cases h
    | some a =>
     rw [e] at h
     have ec:cellOf env n=pure a:=by unfold cellOf; rw [e]
     rw [ec,pure_bind,pure_bind]
     exact ih _ _ h
   ·rw [if_neg hk] at h
    dsimp only
    rw [if_neg hk,pure_bind]
    exact ih _ _ h
 unfold closureFor
 exact (bind_pure _).trans (gen scope.names [] cl h)
theorem closes_mem {cells:List (Str×Addr)}:∀ {l:List (Str×NameKind)} {acc cl:List (Str×Addr)},closes cells l acc=some cl→(∀ p∈acc,cells.lookup p.1=some p.2)→∀ p∈cl,cells.lookup p.1=some p.2
 | [],acc,cl,h,ha=>by cases h; exact ha
 | (n,k) :: r,acc,cl,h,ha=>by
  unfold closes at h
  split at h
  ·cases e:cells.lookup n with
   | none=>rw [e] at h; cases h
   | some a =>
    rw [e] at h
    refine closes_mem h fun p hp=>?_
    rcases List.mem_cons.mp hp with q | q
    ·subst q; exact e
    ·exact ha p q
  ·exact closes_mem h ha
theorem closes_has {cells:List (Str×Addr)} {x:Str}:∀ {l:List (Str×NameKind)} {acc cl:List (Str×Addr)},closes cells l acc=some cl→((x,NameKind.free)∈l∨∃ c,(x,c)∈acc)→∃ c,(x,c)∈cl
 | [],acc,cl,h,hx=>by
  cases h
  rcases hx with q | q
  ·cases q
  ·exact q
 | (n,k) :: r,acc,cl,h,hx=>by
  unfold closes at h
  split at h
  ·cases e:cells.lookup n with
   | none=>rw [e] at h; cases h
   | some a =>
    rw [e] at h
    refine closes_has h ?_
    rcases hx with q | ⟨c,q⟩
    ·rcases List.mem_cons.mp q with z | z
     ·cases z; exact .inr ⟨a,List.mem_cons_self⟩
     ·exact .inl z
    ·exact .inr ⟨c,List.mem_cons_of_mem _ q⟩
  ·rename_i hk
   refine closes_has h ?_
   rcases hx with q | q
   ·rcases List.mem_cons.mp q with z | z
    ·cases z; exact absurd rfl hk
    ·exact .inl z
   ·exact .inr q
theorem lookup_of_mem {α:Type} {x:Str} {c:α}:∀ {l:List (Str×α)},(x,c)∈l→∃ d,l.lookup x=some d∧(x,d)∈l
 | (n,a) :: r,h=>by
  rw [List.lookup_cons]
  by_cases e:(x == n)=true
  ·rw [e]
   have e':x=n:=by simpa using e
   exact ⟨a,rfl,by rw [e']; exact List.mem_cons_self⟩
  ·have e2:(x == n)=false:=by simpa using e
   rw [e2]
   rcases List.mem_cons.mp h with z | z
   ·cases z; simp at e
   ·obtain ⟨d,h1,h2⟩:=lookup_of_mem z
    exact ⟨d,h1,List.mem_cons_of_mem _ h2⟩
noncomputable def cxC (X:Cx) (N:List Str) (scope:Scope) (cl:List (Str×Addr)) (C:Addr) (s2:Shared) (H2:Hp) (fp:List Addr):Cx where
 prog:=X.prog
 w:=X.w
 K:=X.K
 mg:=X.mg
 base:=X.base
 A:=X.A
 N:=N
 s₀:=s2
 H₀:=H2
 env:=compEnvC scope cl C X.env
 outer:=X.stack
 stack:=X.stack
 ex:=fp
 fn:=fun _=>false
 calm:=X.calm
 pn:=[]
 xe:=fun _ _=>False
noncomputable def compStart0 (mp:List (Option Nat)) (σ:St):St:=mp.map fun o=>match o with
 | some j=>(σ[j]?).bind id
 | none=>none
noncomputable def PTL (X:Cx) (ifs:List Expr) (t:TT):Prop :=
 ∀ (pins:List (Addr×Obj)) (s:Shared) (σ:St) (H:Hp) (Q:Bool→Hp→Prop),Inv X pins σ H s→t σ H Q →
  wpAny (model X.prog X.w) X.A (forIn ifs true fun c r=>if r=true then do let ok ← isTrue c X.env (eval c X.env); pure (ForInStep.yield ok) else pure (ForInStep.yield r)) (TP X pins σ Q) X.xe s
section
variable {prog:Program} {w:World} {A:Around} {R:Result→Shared→Prop} {s:Shared}
theorem compLoop_go {elt target iter:Expr} {ifs:List Expr} {scope:Scope} {pos:Pos} {it acc:Value} {env:Env} (I:Nat→Shared→Prop)
  (turn:∀ n s,I n s→wpAny (model prog w) A (pyNext it) (fun r s₁=>match r with
   | none=>R (.ok .next) s₁
   | some v=>wpAny (model prog w) A (letOwnedTupleGo target it v) (fun _ s1=>wpAny (model prog w) A (assign target env v) (fun _ s₂ =>
     wpAny (model prog w) A (forIn ifs true fun c r=>if r=true then do let ok ← isTrue c env (eval c env); pure (ForInStep.yield ok) else pure (ForInStep.yield r)) (fun ok s₃ =>
      if ok=true then wpAny (model prog w) A (eval elt env) (fun x s₄ =>
       wpAny (model prog w) A (call (.builtin "list.append") [acc,x]) (fun _ s₅=>∃ m,m < n∧I m s₅) (fun _ _=>False) s₄) (fun _ _=>False) s₃
      else ∃ m,m < n∧I m s₃) (fun _ _=>False) s₂) (fun _ _=>False) s1) (fun _ _=>False) s₁) (fun _ _=>False) s)
  (n:Nat) (h:I n s) :
  codeAny (model prog w) A (.compLoop (.ListComp elt [⟨target,iter,ifs,0⟩] scope pos) 0 it acc env) R s:=by
 refine codeAny_loop rfl I (fun n s hI=>?_) n h
 show wpAny _ A ((compTurn (.ListComp elt [⟨target,iter,ifs,0⟩] scope pos) 0 it acc env).onRaise (fun x=>do noteFrame x env; theTreesLotGoes x)) _ _ s
 refine wpAny_noted ?_
 rw [compTurn_list]
 refine wpAny_bind (wpAny_standAt (wpAny_bind (wpAny_mono (turn n s hI) (fun r s₁ h₁=>?_) fun _ _ h'=>h'.elim)))
 cases r with
 | none=>exact wpAny_pure h₁
 | some v =>
  refine wpAny_bind (wpAny_mono h₁ (fun _ s1 h1=>wpAny_bind (wpAny_mono h1 (fun _ s₂ h₂=>wpAny_bind (wpAny_mono h₂ (fun ok s₃ h₃=>?_) fun _ _ h'=>h'.elim)) fun _ _ h'=>h'.elim)) fun _ _ h'=>h'.elim)
  cases ok with
  | false=>exact wpAny_pure ⟨rfl,h₃⟩
  | true =>
   exact wpAny_bind (wpAny_bind (wpAny_mono h₃ (fun x s₄ h₄=>wpAny_bind (wpAny_mono h₄ (fun _ s₅ h₅=>wpAny_pure (wpAny_pure ⟨rfl,h₅⟩)) fun _ _ h'=>h'.elim)) fun _ _ h'=>h'.elim))
end
section
variable {X:Cx}
theorem ptl_nil:PTL X [] (fun _ H Q=>Q true H):=fun pins s σ H Q I h=>wpAny_tests_nil ⟨H,I,h⟩
theorem ptl_one {c:Expr} {t:TT} (h:PT X c t):PTL X [c] t:=fun pins s σ H Q I hq=>wpAny_tests_one (h pins s σ H Q I hq)
noncomputable def tComp (mp:List (Option Nat)) (wi:TI) (g:Addr→Shared→Hp→List Addr→TG) (tt:Addr→Shared→Hp→List Addr→TT) (te:Addr→Shared→Hp→List Addr→TE):TE:=fun σ H Q=>wi σ H fun J H1=>∀ (D:Addr),H1 D=none→∀ (C:Addr) (s2:Shared) (fp:List Addr),
 ∃ W:Nat→Nat→St→Hp→Prop,(∃ m,W 0 m (compStart0 mp σ) (upd H1 D (.lst [])))∧∀ i m σ2 H2,W i m σ2 H2 →
  (J.stop i H2∧Q (.ref D) H2)∨(J.go i H2∧∃ N:St→Hp→Prop,(∀ σ' H',N σ' H'→∃ m',m' < m∧W (i + 1) m' σ' H')∧∀ x H',J.yld i H2 x H'→g C s2 H1 fp x σ2 H' fun σ3 H3=>tt C s2 H1 fp σ3 H3 fun b H4 =>
   if b=true then te C s2 H1 fp σ3 H4 fun y H5=>∃ xs,H5 D=some (.lst xs)∧xs.length < sizeLine∧N σ3 (upd H5 D (.lst (xs++[y]))) else N σ3 H4)
end
end L2
namespace L2
open PySem PySem.Spec PyProof.Rows
inductive D where
 | non
 | bl (b:Bool)
 | int (i:Int)
 | str (x:Str)
 | tup (l:List D)
 | lst (l:List D)
mutual
noncomputable def Rep (K:PySem.W.Frag) (H:Hp):D→V→Prop
 | .non,v=>v=.non
 | .bl b,v=>v=.bl b
 | .int i,v=>v=.int i
 | .str x,v=>v=.str x
 | .tup ds,v=>∃ p xs,v=.ref p∧SqT K H p xs∧Reps K H ds xs
 | .lst ds,v=>∃ p xs,v=.ref p∧SqL K H p xs∧Reps K H ds xs
noncomputable def Reps (K:PySem.W.Frag) (H:Hp):List D→List V→Prop
 | [],xs=>xs=[]
 | d :: ds,xs=>∃ x r,xs=x :: r∧Rep K H d x∧Reps K H ds r
end
mutual
noncomputable def eqD:D→D→Bool
 | .non,.non=>true
 | .bl a,.bl b=>a == b
 | .bl a,.int b=>(if a then 1 else 0) == b
 | .int a,.bl b=>a == (if b then 1 else 0)
 | .int a,.int b=>a == b
 | .str a,.str b=>a == b
 | .tup a,.tup b=>eqDs a b
 | .lst a,.lst b=>eqDs a b
 | _,_=>false
noncomputable def eqDs:List D→List D→Bool
 | [],[]=>true
 | a :: r,b :: t=>eqD a b && eqDs r t
 | _,_=>false
end
mutual
noncomputable def D.dep:D→Nat
 | .tup l=>deps l + 1
 | .lst l=>deps l + 1
 | _=>0
noncomputable def deps:List D→Nat
 | []=>0
 | d :: r=>max d.dep (deps r)
end
theorem Reps.len {K:PySem.W.Frag} {H:Hp}:∀ {ds:List D} {xs:List V},Reps K H ds xs→ds.length=xs.length
 | [],xs,h=>by
  unfold Reps at h; subst h; rfl
 | d :: ds,xs,h=>by
  unfold Reps at h
  obtain ⟨x,r,rfl,_,h⟩:=h
  rw [List.length_cons,List.length_cons,Reps.len h]
theorem Reps.get {K:PySem.W.Frag} {H:Hp}:∀ {ds:List D} {xs:List V} {j:Nat} {d:D},Reps K H ds xs→ds[j]?=some d→∃ x,xs[j]?=some x∧Rep K H d x
 | [],xs,j,d,h,e=>by cases e
 | a :: ds,xs,j,d,h,e=>by
  unfold Reps at h
  obtain ⟨x,r,rfl,h1,h2⟩:=h
  match j,e with
  | 0,e=>cases e; exact ⟨x,rfl,h1⟩
  | j + 1,e=>exact Reps.get (ds:=ds) (j:=j) h2 (by simpa using e)
mutual
theorem eqD_refl:∀ d:D,eqD d d=true
 | .non=>rfl
 | .bl b=>by unfold eqD; simp
 | .int i=>by unfold eqD; simp
 | .str x=>by unfold eqD; simp
 | .tup l=>by unfold eqD; exact eqDs_refl l
 | .lst l=>by unfold eqD; exact eqDs_refl l
theorem eqDs_refl:∀ l:List D,eqDs l l=true
 | []=>by unfold eqDs; rfl
 | d :: r=>by unfold eqDs; rw [eqD_refl d,eqDs_refl r]; rfl
end
section
variable {X:Cx} {pins:List (Addr×Obj)} {σ:St} {H:Hp} {s:Shared}
theorem Inv.list_tup (I:Inv X pins σ H s) {a:Addr} {xs ys:List V} (h1:SqL X.K H a xs) (h2:SqT X.K H a ys):False:=by
 obtain ⟨its,_,⟨o,n,e1,c1,_⟩,_⟩:=I.list h1
 obtain ⟨its2,_,⟨o2,e2,c2,_⟩,_⟩:=I.tuple h2
 rw [e1] at e2; cases e2
 rw [c1] at c2
 injection c2 with c3
 exact absurd c3 (by decide)
mutual
theorem rep_inj (I:Inv X pins σ H s):∀ (d e:D) (v:V),Rep X.K H d v→Rep X.K H e v→d=e
  | .non,e,v,h1,h2=>by
    unfold Rep at h1; subst h1
    cases e <;> (unfold Rep at h2; first | rfl | (obtain ⟨_,_,z,_⟩:=h2; cases z; done) | cases h2)
  | .bl b,e,v,h1,h2=>by
    unfold Rep at h1; subst h1
    cases e <;> (unfold Rep at h2; first | (obtain ⟨_,_,z,_⟩:=h2; cases z; done) | (cases h2; rfl) | cases h2)
  | .int b,e,v,h1,h2=>by
    unfold Rep at h1; subst h1
    cases e <;> (unfold Rep at h2; first | (obtain ⟨_,_,z,_⟩:=h2; cases z; done) | (cases h2; rfl) | cases h2)
  | .str b,e,v,h1,h2=>by
    unfold Rep at h1; subst h1
    cases e <;> (unfold Rep at h2; first | (obtain ⟨_,_,z,_⟩:=h2; cases z; done) | (cases h2; rfl) | cases h2)
  | .tup l,e,v,h1,h2=>by
    unfold Rep at h1
    obtain ⟨p,xs,rfl,q,r⟩:=h1
    cases e with
    | tup l2 =>
      unfold Rep at h2
      obtain ⟨p2,xs2,z,q2,r2⟩:=h2
      cases z
      rw [I.tuple_inj q2 q] at r2
      rw [reps_inj I l l2 xs r r2]
    | lst l2 =>
      unfold Rep at h2
      obtain ⟨p2,xs2,z,q2,r2⟩:=h2
      cases z
      exact (I.list_tup q2 q).elim
    | _=>unfold Rep at h2; cases h2
  | .lst l,e,v,h1,h2=>by
    unfold Rep at h1
    obtain ⟨p,xs,rfl,q,r⟩:=h1
    cases e with
    | lst l2 =>
      unfold Rep at h2
      obtain ⟨p2,xs2,z,q2,r2⟩:=h2
      cases z
      rw [I.list_inj q2 q] at r2
      rw [reps_inj I l l2 xs r r2]
    | tup l2 =>
      unfold Rep at h2
      obtain ⟨p2,xs2,z,q2,r2⟩:=h2
      cases z
      exact (I.list_tup q q2).elim
    | _=>unfold Rep at h2; cases h2
theorem reps_inj (I:Inv X pins σ H s):∀ (ds es:List D) (xs:List V),Reps X.K H ds xs→Reps X.K H es xs→ds=es
 | [],es,xs,h1,h2=>by
  unfold Reps at h1; subst h1
  cases es with
  | nil=>rfl
  | cons e es=>unfold Reps at h2; obtain ⟨_,_,z,_⟩:=h2; cases z
 | d :: ds,es,xs,h1,h2=>by
  unfold Reps at h1
  obtain ⟨x,r,rfl,a,b⟩:=h1
  cases es with
  | nil=>unfold Reps at h2; cases h2
  | cons e es =>
   unfold Reps at h2
   obtain ⟨x2,r2,z,a2,b2⟩:=h2
   cases z
   rw [rep_inj I d e x a a2,reps_inj I ds es r b b2]
end
theorem eqDs_all:∀ (ds es:List D),ds.length=es.length→(List.range ds.length).all (fun j=>match ds[j]?,es[j]? with
  | some d,some e=>eqD d e
  | _,_=>false)=eqDs ds es
 | [],[],_=>by unfold eqDs; rfl
 | d :: ds,e :: es,h=>by
  rw [List.length_cons,List.range_succ_eq_map,List.all_cons,List.all_map]
  unfold eqDs
  rw [← eqDs_all ds es (by simpa using h)]
  rfl
theorem eqDs_len:∀ (ds es:List D),ds.length≠es.length→eqDs ds es=false
 | [],[],h=>absurd rfl h
 | [],_ :: _,_=>by unfold eqDs; rfl
 | _ :: _,[],_=>by unfold eqDs; rfl
 | d :: ds,e :: es,h=>by
  unfold eqDs
  rw [eqDs_len ds es (by simpa using h),Bool.and_false]
noncomputable def eAt (ds es:List D) (j:Nat):Bool:=match ds[j]?,es[j]? with
  | some d,some e=>eqD d e
  | _,_=>false
theorem items_eq {A:Around} {ds es:List D} {xs ys:List V} {us vs:List Value} (r1:Reps X.K H ds xs) (r2:Reps X.K H es ys) (v1:Vals xs us) (v2:Vals ys vs)
  (ih:∀ (j:Nat) (d e:D) (x y:V) (u v:Value),ds[j]?=some d→es[j]?=some e→Rep X.K H d x→Rep X.K H e y→RelV x u→RelV y v→SeqAt.EqAt A s u v (eqD d e)) :
  ∀ j (h1:j < us.toArray.size) (h2:j < vs.toArray.size),SeqAt.EqAt A s us.toArray[j] vs.toArray[j] (eAt ds es j):=by
 intro j h1 h2
 rw [List.size_toArray] at h1 h2
 have l1:=r1.len
 have l2:=r2.len
 have l3:=v1.length
 have l4:=v2.length
 have e1:ds[j]?=some (ds[j]'(by lia)):=List.getElem?_eq_getElem _
 have e2:es[j]?=some (es[j]'(by lia)):=List.getElem?_eq_getElem _
 obtain ⟨x,hx,px⟩:=r1.get e1
 obtain ⟨y,hy,py⟩:=r2.get e2
 obtain ⟨u,hu,ru⟩:=v1.get hx
 obtain ⟨v,hv,rv⟩:=v2.get hy
 have q:=ih j _ _ x y u v e1 e2 px py ru rv
 have hu':us.toArray[j]'(by simpa using h1)=u:=by
  have:=List.getElem?_eq_getElem h1
  rw [hu] at this
  simpa using (Option.some.inj this).symm
 have hv':vs.toArray[j]'(by simpa using h2)=v:=by
  have:=List.getElem?_eq_getElem h2
  rw [hv] at this
  simpa using (Option.some.inj this).symm
 rw [hu',hv']
 unfold eAt
 rw [e1,e2]
 exact q
theorem range_lst {ds es:List D} {n:Nat} (h:ds.length=n) (h2:es.length=n):(List.range n).all (eAt ds es)=eqDs ds es:=by
 rw [← h,← eqDs_all ds es (h.trans h2.symm)]
 rfl
theorem range_tup {ds es:List D} {n m:Nat} (h:ds.length=n) (h2:es.length=m):((List.range (min n m)).all (eAt ds es) && (n == m))=eqDs ds es:=by
 by_cases e:n=m
 ·subst e
  rw [Nat.min_self,range_lst h h2]
  simp
 ·have e2:(n == m)=false:=by simpa using e
  rw [e2,Bool.and_false,eqDs_len ds es (by rw [h,h2]; exact e)]
theorem rc_lists {A:Around} {l b:Addr} {ds es:List D} {xs ys:List V} (I:Inv X pins σ H s) (h1:SqL X.K H l xs) (h2:SqL X.K H b ys) (r1:Reps X.K H ds xs) (r2:Reps X.K H es ys) (hu:A.units < cLine)
  (ih:∀ (j:Nat) (d e:D) (x y:V) (u v:Value),ds[j]?=some d→es[j]?=some e→Rep X.K H d x→Rep X.K H e y→RelV x u→RelV y v→SeqAt.EqAt A.in1 s u v (eqD d e)) :
  SeqAt.RcAt A s (.ref l) (.ref b) (eqDs ds es)∧SeqAt.RcNeAt A s (.ref l) (.ref b) (!eqDs ds es):=by
 obtain ⟨us,v1,p1,z1⟩:=I.list h1
 obtain ⟨vs,v2,p2,z2⟩:=I.list h2
 have l1:=r1.len
 have l2:=r2.len
 have l3:=v1.length
 have l4:=v2.length
 by_cases e:us.length=vs.length
 ·have it:=items_eq r1 r2 v1 v2 ih
  have a1:=SeqAt.RcAt.lists (A:=A) p1.isList p2.isList (by simpa using e) hu it
  have a2:=SeqAt.RcNeAt.lists (A:=A) p1.isList p2.isList (by simpa using e) hu it
  rw [range_lst (ds:=ds) (es:=es) (by simp; lia) (by simp; lia)] at a1 a2
  exact ⟨a1,a2⟩
 ·have ne:(us.toArray.size != vs.toArray.size)=true:=by simpa using e
  rw [eqDs_len ds es (by lia)]
  exact ⟨SeqAt.RcAt.lists_lengths p1.isList p2.isList ne hu,SeqAt.RcNeAt.lists_lengths p1.isList p2.isList ne hu⟩
theorem rc_tups {A:Around} {l b:Addr} {ds es:List D} {xs ys:List V} (I:Inv X pins σ H s) (h1:SqT X.K H l xs) (h2:SqT X.K H b ys) (r1:Reps X.K H ds xs) (r2:Reps X.K H es ys) (hu:A.units < cLine)
  (ih:∀ (j:Nat) (d e:D) (x y:V) (u v:Value),ds[j]?=some d→es[j]?=some e→Rep X.K H d x→Rep X.K H e y→RelV x u→RelV y v→SeqAt.EqAt A.in1 s u v (eqD d e)) :
  SeqAt.RcAt A s (.ref l) (.ref b) (eqDs ds es)∧SeqAt.RcNeAt A s (.ref l) (.ref b) (!eqDs ds es):=by
 obtain ⟨us,v1,p1,z1⟩:=I.tuple h1
 obtain ⟨vs,v2,p2,z2⟩:=I.tuple h2
 have l1:=r1.len
 have l2:=r2.len
 have l3:=v1.length
 have l4:=v2.length
 have it:=items_eq r1 r2 v1 v2 ih
 have a1:=SeqAt.RcAt.tuples (A:=A) (show s.heap.IsTuple l us.toArray from p1) (show s.heap.IsTuple b vs.toArray from p2) hu it
 have a2:=SeqAt.RcNeAt.tuples (A:=A) (show s.heap.IsTuple l us.toArray from p1) (show s.heap.IsTuple b vs.toArray from p2) hu it
 rw [range_tup (ds:=ds) (es:=es) (by simp; lia) (by simp; lia)] at a1 a2
 exact ⟨a1,a2⟩
theorem deps_get:∀ {l:List D} {j:Nat} {d:D},l[j]?=some d→d.dep≤deps l
 | a :: l,0,d,e=>by cases e; unfold deps; lia
 | a :: l,j + 1,d,e=>by
  have:=deps_get (l:=l) (j:=j) (d:=d) (by simpa using e)
  unfold deps; lia
theorem rep_eq (I:Inv X pins σ H s):∀ (n:Nat) (A:Around) (d e:D) (x y:V) (u v:Value),d.dep≤n→A.units + n < cLine→Rep X.K H d x→Rep X.K H e y→RelV x u→RelV y v→SeqAt.EqAt A s u v (eqD d e):=by
 intro n
 induction n with
 | zero =>
  intro A d e x y u v hd hu r1 r2 ru rv
  have hu0:A.units < cLine:=by lia
  cases d with
  | tup l=>unfold D.dep at hd; lia
  | lst l=>unfold D.dep at hd; lia
  | non =>
   unfold Rep at r1; subst r1; cases ru
   cases e with
   | non=>unfold Rep at r2; subst r2; cases rv; exact SeqAt.EqAt.same _
   | bl b=>unfold Rep at r2; subst r2; cases rv; exact SeqAt.EqAt.none_bool b
   | int b=>unfold Rep at r2; subst r2; obtain ⟨t,rfl⟩:=rv; exact SeqAt.EqAt.none_int b t
   | str b=>unfold Rep at r2; subst r2; obtain ⟨t,rfl⟩:=rv; exact SeqAt.EqAt.none_str b t
   | tup l=>unfold Rep at r2; obtain ⟨p,xs,rfl,q,_⟩:=r2; cases rv; obtain ⟨us,_,pt,_⟩:=I.tuple q; exact SeqAt.EqAt.none_tuple (show s.heap.IsTuple p us.toArray from pt) hu0
   | lst l=>unfold Rep at r2; obtain ⟨p,xs,rfl,q,_⟩:=r2; cases rv; obtain ⟨us,_,pt,_⟩:=I.list q; exact SeqAt.EqAt.none_list pt.isList hu0
  | bl a =>
   unfold Rep at r1; subst r1; cases ru
   cases e with
   | non=>unfold Rep at r2; subst r2; cases rv; exact SeqAt.EqAt.bool_none a
   | bl b=>unfold Rep at r2; subst r2; cases rv; exact SeqAt.EqAt.bool_bool a b
   | int b=>unfold Rep at r2; subst r2; obtain ⟨t,rfl⟩:=rv; exact SeqAt.EqAt.bool_int a b t
   | str b=>unfold Rep at r2; subst r2; obtain ⟨t,rfl⟩:=rv; exact SeqAt.EqAt.bool_str a b t
   | tup l=>unfold Rep at r2; obtain ⟨p,xs,rfl,q,_⟩:=r2; cases rv; obtain ⟨us,_,pt,_⟩:=I.tuple q; exact SeqAt.EqAt.bool_tuple a (show s.heap.IsTuple p us.toArray from pt) hu0
   | lst l=>unfold Rep at r2; obtain ⟨p,xs,rfl,q,_⟩:=r2; cases rv; obtain ⟨us,_,pt,_⟩:=I.list q; exact SeqAt.EqAt.bool_list a pt.isList hu0
  | int a =>
   unfold Rep at r1; subst r1; obtain ⟨t1,rfl⟩:=ru
   cases e with
   | non=>unfold Rep at r2; subst r2; cases rv; exact SeqAt.EqAt.int_none a t1
   | bl b=>unfold Rep at r2; subst r2; cases rv; exact SeqAt.EqAt.int_bool a t1 b
   | int b=>unfold Rep at r2; subst r2; obtain ⟨t,rfl⟩:=rv; exact SeqAt.EqAt.int_int a t1 b t
   | str b=>unfold Rep at r2; subst r2; obtain ⟨t,rfl⟩:=rv; exact SeqAt.EqAt.int_str a t1 b t
   | tup l=>unfold Rep at r2; obtain ⟨p,xs,rfl,q,_⟩:=r2; cases rv; obtain ⟨us,_,pt,_⟩:=I.tuple q; exact SeqAt.EqAt.int_tuple a t1 (show s.heap.IsTuple p us.toArray from pt) hu0
   | lst l=>unfold Rep at r2; obtain ⟨p,xs,rfl,q,_⟩:=r2; cases rv; obtain ⟨us,_,pt,_⟩:=I.list q; exact SeqAt.EqAt.int_list a t1 pt.isList hu0
  | str a =>
   unfold Rep at r1; subst r1; obtain ⟨t1,rfl⟩:=ru
   cases e with
   | non=>unfold Rep at r2; subst r2; cases rv; exact SeqAt.EqAt.str_none a t1
   | bl b=>unfold Rep at r2; subst r2; cases rv; exact SeqAt.EqAt.str_bool a t1 b
   | int b=>unfold Rep at r2; subst r2; obtain ⟨t,rfl⟩:=rv; exact SeqAt.EqAt.str_int a t1 b t
   | str b=>unfold Rep at r2; subst r2; obtain ⟨t,rfl⟩:=rv; exact SeqAt.EqAt.str_str a t1 b t
   | tup l=>unfold Rep at r2; obtain ⟨p,xs,rfl,q,_⟩:=r2; cases rv; obtain ⟨us,_,pt,_⟩:=I.tuple q; exact SeqAt.EqAt.str_tuple a t1 (show s.heap.IsTuple p us.toArray from pt) hu0
   | lst l=>unfold Rep at r2; obtain ⟨p,xs,rfl,q,_⟩:=r2; cases rv; obtain ⟨us,_,pt,_⟩:=I.list q; exact SeqAt.EqAt.str_list a t1 pt.isList hu0
 | succ n ihn =>
  intro A d e x y u v hd hu r1 r2 ru rv
  have hu0:A.units < cLine:=by lia
  have hu1:A.in1.units + n < cLine:=by show A.units + 1 + n < cLine; lia
  cases d with
  | tup l =>
   have r1':=r1
   unfold Rep at r1
   obtain ⟨p,xs,rfl,q,rs⟩:=r1
   cases ru
   have hd':deps l≤n:=by unfold D.dep at hd; lia
   obtain ⟨us,_,pt,_⟩:=id (I.tuple q)
   cases e with
   | non=>unfold Rep at r2; subst r2; cases rv; exact SeqAt.EqAt.tuple_none (show s.heap.IsTuple p us.toArray from pt) hu0
   | bl b=>unfold Rep at r2; subst r2; cases rv; exact SeqAt.EqAt.tuple_bool b (show s.heap.IsTuple p us.toArray from pt) hu0
   | int b=>unfold Rep at r2; subst r2; obtain ⟨t,rfl⟩:=rv; exact SeqAt.EqAt.tuple_int b t (show s.heap.IsTuple p us.toArray from pt) hu0
   | str b=>unfold Rep at r2; subst r2; obtain ⟨t,rfl⟩:=rv; exact SeqAt.EqAt.tuple_str b t (show s.heap.IsTuple p us.toArray from pt) hu0
   | tup l2 =>
    have r2':=r2
    unfold Rep at r2
    obtain ⟨p2,xs2,rfl,q2,rs2⟩:=r2
    cases rv
    by_cases hp:p=p2
    ·subst hp
     rw [rep_inj I _ _ _ r1' r2',eqD_refl]
     exact SeqAt.EqAt.same _
    ·unfold eqD
     exact SeqAt.EqAt.of_refs hp (rc_tups I q q2 rs rs2 hu0 fun j d e x y u v e1 e2 a b c f=>ihn A.in1 d e x y u v (Nat.le_trans (deps_get e1) hd') hu1 a b c f).1
   | lst l2 =>
    unfold Rep at r2
    obtain ⟨p2,xs2,rfl,q2,rs2⟩:=r2
    cases rv
    obtain ⟨us2,_,pt2,_⟩:=I.list q2
    exact SeqAt.EqAt.tuple_list (show s.heap.IsTuple p us.toArray from pt) pt2.isList hu0
  | lst l =>
   have r1':=r1
   unfold Rep at r1
   obtain ⟨p,xs,rfl,q,rs⟩:=r1
   cases ru
   have hd':deps l≤n:=by unfold D.dep at hd; lia
   obtain ⟨us,_,pt,_⟩:=id (I.list q)
   cases e with
   | non=>unfold Rep at r2; subst r2; cases rv; exact SeqAt.EqAt.list_none pt.isList hu0
   | bl b=>unfold Rep at r2; subst r2; cases rv; exact SeqAt.EqAt.list_bool b pt.isList hu0
   | int b=>unfold Rep at r2; subst r2; obtain ⟨t,rfl⟩:=rv; exact SeqAt.EqAt.list_int b t pt.isList hu0
   | str b=>unfold Rep at r2; subst r2; obtain ⟨t,rfl⟩:=rv; exact SeqAt.EqAt.list_str b t pt.isList hu0
   | lst l2 =>
    have r2':=r2
    unfold Rep at r2
    obtain ⟨p2,xs2,rfl,q2,rs2⟩:=r2
    cases rv
    by_cases hp:p=p2
    ·subst hp
     rw [rep_inj I _ _ _ r1' r2',eqD_refl]
     exact SeqAt.EqAt.same _
    ·unfold eqD
     exact SeqAt.EqAt.of_refs hp (rc_lists I q q2 rs rs2 hu0 fun j d e x y u v e1 e2 a b c f=>ihn A.in1 d e x y u v (Nat.le_trans (deps_get e1) hd') hu1 a b c f).1
   | tup l2 =>
    unfold Rep at r2
    obtain ⟨p2,xs2,rfl,q2,rs2⟩:=r2
    cases rv
    obtain ⟨us2,_,pt2,_⟩:=I.tuple q2
    exact SeqAt.EqAt.list_tuple pt.isList (show s.heap.IsTuple p2 us2.toArray from pt2) hu0
  | _=>exact ihn A _ e x y u v (by unfold D.dep; exact Nat.zero_le _) (by lia) r1 r2 ru rv
noncomputable def rEqS (K:PySem.W.Frag) (neg:Bool):R2:=fun x y H Q=>∃ ds es,((Rep K H (.lst ds) x∧Rep K H (.lst es) y)∨(Rep K H (.tup ds) x∧Rep K H (.tup es) y))∧deps ds≤50∧Q (.bl (if neg then !eqDs ds es else eqDs ds es)) H
theorem rc_both (I:Inv X pins σ H s) {x y:V} {u v:Value} {ds es:List D} (hA:X.A.units + 60 < cLine) (ru:RelV x u) (rv:RelV y v) (h:(Rep X.K H (.lst ds) x∧Rep X.K H (.lst es) y)∨(Rep X.K H (.tup ds) x∧Rep X.K H (.tup es) y)) (hd:deps ds≤50) :
  SeqAt.RcAt X.A s u v (eqDs ds es)∧SeqAt.RcNeAt X.A s u v (!eqDs ds es):=by
 have ih:∀ (j:Nat) (d e:D) (x y:V) (u v:Value),ds[j]?=some d→es[j]?=some e→Rep X.K H d x→Rep X.K H e y→RelV x u→RelV y v→SeqAt.EqAt X.A.in1 s u v (eqD d e) :=
  fun j d e x y u v e1 e2 a b c f=>rep_eq I 50 X.A.in1 d e x y u v (Nat.le_trans (deps_get e1) hd) (by show X.A.units + 1 + 50 < cLine; lia) a b c f
 rcases h with ⟨h1,h2⟩ | ⟨h1,h2⟩
 ·unfold Rep at h1 h2
  obtain ⟨p,xs,rfl,q,rs⟩:=h1
  obtain ⟨p2,xs2,rfl,q2,rs2⟩:=h2
  cases ru; cases rv
  exact rc_lists I q q2 rs rs2 (by lia) ih
 ·unfold Rep at h1 h2
  obtain ⟨p,xs,rfl,q,rs⟩:=h1
  obtain ⟨p2,xs2,rfl,q2,rs2⟩:=h2
  cases ru; cases rv
  exact rc_tups I q q2 rs rs2 (by lia) ih
theorem op_eqS (hA:X.A.units + 60 < cLine):OpR X (compareOp .Eq) (rEqS X.K false):=by
 intro pins s σ H x y u v Q I ru rv h
 obtain ⟨ds,es,h,hd,q⟩:=h
 exact (rc_both I hA ru rv h hd).1 X.prog X.w X.xe _ ⟨.bl (eqDs ds es),H,I,rfl,q⟩
theorem op_neS (hA:X.A.units + 60 < cLine):OpR X (compareOp .NotEq) (rEqS X.K true):=by
 intro pins s σ H x y u v Q I ru rv h
 obtain ⟨ds,es,h,hd,q⟩:=h
 exact (rc_both I hA ru rv h hd).2 X.prog X.w X.xe _ ⟨.bl (!eqDs ds es),H,I,rfl,q⟩
theorem op_neNil (hA:X.A.units + 60 < cLine):OpR X (compareOp .NotEq) (fun x y H Q=>∃ p b xs,x=.ref p∧y=.ref b∧SqL X.K H p xs∧SqL X.K H b []∧Q (.bl (!xs.isEmpty)) H):=by
 intro pins s σ H x y u v Q I ru rv h
 obtain ⟨p,b,xs,rfl,rfl,q1,q2,q⟩:=h
 cases ru; cases rv
 obtain ⟨us,v1,p1,_⟩:=I.list q1
 obtain ⟨vs,v2,p2,_⟩:=I.list q2
 cases v2
 cases v1 with
 | nil =>
  have a:=SeqAt.RcNeAt.lists (A:=X.A) (e:=fun _=>true) p1.isList p2.isList rfl (by lia) (fun j h1 _=>absurd h1 (by simp))
  exact a X.prog X.w X.xe _ ⟨.bl false,H,I,rfl,q⟩
 | cons r1 r2 =>
  exact SeqAt.RcNeAt.lists_lengths (A:=X.A) p1.isList p2.isList (by simp) (by lia) X.prog X.w X.xe _ ⟨.bl true,H,I,rfl,q⟩
theorem reps_ints {K:PySem.W.Frag} {H:Hp}:∀ ns:List Int,Reps K H (ns.map D.int) (ns.map V.int)
 | []=>by show Reps K H [] []; unfold Reps; rfl
 | n :: r=>by show Reps K H (D.int n :: r.map D.int) (V.int n :: r.map V.int); unfold Reps; exact ⟨_,_,rfl,(by unfold Rep; rfl),reps_ints r⟩
theorem deps_ints:∀ ns:List Int,deps (ns.map D.int)=0
 | []=>by rw [List.map_nil]; unfold deps; rfl
 | n :: r=>by rw [List.map_cons]; unfold deps; rw [deps_ints r]; unfold D.dep; rfl
end
end L2
namespace L2
open PySem PySem.Spec PyProof.Rows
section
variable {X:Cx} {pos:Pos}
theorem hu60 {k:Nat} {A:Around} (hr:Room k A):A.units + 60 < cLine:=by have:=hr.units; lia
noncomputable def outChk (XN:List Str) (xn:List (Str×NameKind)) (N:List Str) (cn:List (Str×NameKind)):List (Option Nat)→Nat→Bool
 | [],_=>true
 | none :: r,i=>outChk XN xn N cn r (i + 1)
 | some j :: r,i=>(match N[i]? with
  | some x=>XN[j]? == some x && (xn.lookup x == some .cell || xn.lookup x == some .free) && cn.lookup x == some .free
  | none=>false) && outChk XN xn N cn r (i + 1)
theorem outChk_ok {XN:List Str} {xn:List (Str×NameKind)} {N:List Str} {cn:List (Str×NameKind)}:∀ {mp:List (Option Nat)} {k:Nat},outChk XN xn N cn mp k=true→∀ (i j:Nat),mp[i]?=some (some j)→∃ x,N[k + i]?=some x∧XN[j]?=some x∧(xn.lookup x=some .cell∨xn.lookup x=some .free)∧cn.lookup x=some .free
 | [],k,h,i,j,e=>by cases e
 | none :: r,k,h,0,j,e=>by cases e
 | none :: r,k,h,i + 1,j,e=>by
  have:=outChk_ok (mp:=r) (k:=k + 1) h i j (by simpa using e)
  rw [show k + (i + 1)=k + 1 + i by lia]; exact this
 | some m :: r,k,h,0,j,e=>by
  cases e
  unfold outChk at h
  rw [Bool.and_eq_true] at h
  have h1:=h.1
  cases en:N[k]? with
  | none=>rw [en] at h1; cases h1
  | some x =>
   rw [en] at h1
   simp only [Bool.and_eq_true,Bool.or_eq_true,beq_iff_eq] at h1
   exact ⟨x,rfl,h1.1.1,h1.1.2,h1.2⟩
 | some m :: r,k,h,i + 1,j,e=>by
  unfold outChk at h
  rw [Bool.and_eq_true] at h
  have:=outChk_ok (mp:=r) (k:=k + 1) h.2 i j (by simpa using e)
  rw [show k + (i + 1)=k + 1 + i by lia]; exact this
noncomputable def NextC (Pv:Nat→List V→St→Hp→Prop) (D:Addr) (i:Nat):St→Hp→Prop:=fun σ' H'=>∃ ys,ys.length≤i + 1∧Pv (i + 1) ys σ' H'∧H' D=some (.lst ys)
theorem comp_list {K:PySem.W.Frag} {a:Addr} {xs:List V} {H1:Hp} {D:Addr} {σ0:St} {g:TG} {tt:TT} {te:TE} {R:Hp→Prop}
  (Pv:Nat→List V→St→Hp→Prop) (hl:∀ i ys σ H2,Pv i ys σ H2→SqL K H2 a xs) (h0:Pv 0 [] σ0 (upd H1 D (.lst [])))
  (hs:∀ i x ys σ H2,xs[i]?=some x→ys.length≤i→Pv i ys σ H2→H2 D=some (.lst ys)→g x σ H2 fun σ3 H3=>tt σ3 H3 fun b H4=>if b=true then te σ3 H4 fun y H5=>∃ zs,H5 D=some (.lst zs)∧zs.length < sizeLine∧NextC Pv D i σ3 (upd H5 D (.lst (zs++[y]))) else NextC Pv D i σ3 H4)
  (hd:∀ ys σ H2,Pv xs.length ys σ H2→H2 D=some (.lst ys)→R H2) :
  ∃ W:Nat→Nat→St→Hp→Prop,(∃ m,W 0 m σ0 (upd H1 D (.lst [])))∧∀ i m σ2 H2,W i m σ2 H2 →
  ((Itl K a).stop i H2∧R H2)∨((Itl K a).go i H2∧∃ N:St→Hp→Prop,(∀ σ' H',N σ' H'→∃ m',m' < m∧W (i + 1) m' σ' H')∧∀ x H',(Itl K a).yld i H2 x H'→g x σ2 H' fun σ3 H3=>tt σ3 H3 fun b H4 =>
   if b=true then te σ3 H4 fun y H5=>∃ xs,H5 D=some (.lst xs)∧xs.length < sizeLine∧N σ3 (upd H5 D (.lst (xs++[y]))) else N σ3 H4):=by
 refine ⟨fun i m σ H'=>m=xs.length - i∧i≤xs.length∧∃ ys,ys.length≤i∧Pv i ys σ H'∧H' D=some (.lst ys),⟨xs.length,by simp,Nat.zero_le _,[],Nat.le_refl _,h0,upd_same⟩,?_⟩
 rintro i m σ2 H2 ⟨rfl,hi,ys,hy,p,e⟩
 have q:=hl i ys σ2 H2 p
 by_cases hlt:i < xs.length
 ·refine .inr ⟨⟨xs,xs[i],q,by simp [hlt]⟩,NextC Pv D i,fun σ' H' ⟨ys',l',p',e'⟩=>⟨xs.length - (i + 1),by lia,rfl,hlt,ys',l',p',e'⟩,fun x' H' y=>?_⟩
  obtain ⟨e1,y⟩:=y
  subst e1
  exact hs i x' ys σ2 _ (y xs q) hy p e
 ·have ei:i=xs.length:=by lia
  subst ei
  exact .inl ⟨⟨xs,q,Nat.le_refl _⟩,hd ys σ2 H2 p e⟩
theorem comp_tup {K:PySem.W.Frag} {a:Addr} {xs:List V} {H1:Hp} {D:Addr} {σ0:St} {g:TG} {tt:TT} {te:TE} {R:Hp→Prop}
  (Pv:Nat→List V→St→Hp→Prop) (hl:∀ i ys σ H2,Pv i ys σ H2→SqT K H2 a xs) (h0:Pv 0 [] σ0 (upd H1 D (.lst [])))
  (hs:∀ i x ys σ H2,xs[i]?=some x→ys.length≤i→Pv i ys σ H2→H2 D=some (.lst ys)→g x σ H2 fun σ3 H3=>tt σ3 H3 fun b H4=>if b=true then te σ3 H4 fun y H5=>∃ zs,H5 D=some (.lst zs)∧zs.length < sizeLine∧NextC Pv D i σ3 (upd H5 D (.lst (zs++[y]))) else NextC Pv D i σ3 H4)
  (hd:∀ ys σ H2,Pv xs.length ys σ H2→H2 D=some (.lst ys)→R H2) :
  ∃ W:Nat→Nat→St→Hp→Prop,(∃ m,W 0 m σ0 (upd H1 D (.lst [])))∧∀ i m σ2 H2,W i m σ2 H2 →
  ((Itt K a).stop i H2∧R H2)∨((Itt K a).go i H2∧∃ N:St→Hp→Prop,(∀ σ' H',N σ' H'→∃ m',m' < m∧W (i + 1) m' σ' H')∧∀ x H',(Itt K a).yld i H2 x H'→g x σ2 H' fun σ3 H3=>tt σ3 H3 fun b H4 =>
   if b=true then te σ3 H4 fun y H5=>∃ xs,H5 D=some (.lst xs)∧xs.length < sizeLine∧N σ3 (upd H5 D (.lst (xs++[y]))) else N σ3 H4):=by
 refine ⟨fun i m σ H'=>m=xs.length - i∧i≤xs.length∧∃ ys,ys.length≤i∧Pv i ys σ H'∧H' D=some (.lst ys),⟨xs.length,by simp,Nat.zero_le _,[],Nat.le_refl _,h0,upd_same⟩,?_⟩
 rintro i m σ2 H2 ⟨rfl,hi,ys,hy,p,e⟩
 have q:=hl i ys σ2 H2 p
 by_cases hlt:i < xs.length
 ·refine .inr ⟨⟨xs,xs[i],q,by simp [hlt]⟩,NextC Pv D i,fun σ' H' ⟨ys',l',p',e'⟩=>⟨xs.length - (i + 1),by lia,rfl,hlt,ys',l',p',e'⟩,fun x' H' y=>?_⟩
  obtain ⟨e1,y⟩:=y
  subst e1
  exact hs i x' ys σ2 _ (y xs q) hy p e
 ·have ei:i=xs.length:=by lia
  subst ei
  exact .inl ⟨⟨xs,q,Nat.le_refl _⟩,hd ys σ2 H2 p e⟩
theorem comp_range {lo:Int} {n:Nat} {H1:Hp} {D:Addr} {σ0:St} {g:TG} {tt:TT} {te:TE} {R:Hp→Prop}
  (Pv:Nat→List V→St→Hp→Prop) (h0:Pv 0 [] σ0 (upd H1 D (.lst [])))
  (hs:∀ i ys σ H2,i < n→ys.length≤i→Pv i ys σ H2→H2 D=some (.lst ys)→g (.int (lo + i)) σ H2 fun σ3 H3=>tt σ3 H3 fun b H4=>if b=true then te σ3 H4 fun y H5=>∃ zs,H5 D=some (.lst zs)∧zs.length < sizeLine∧NextC Pv D i σ3 (upd H5 D (.lst (zs++[y]))) else NextC Pv D i σ3 H4)
  (hd:∀ ys σ H2,Pv n ys σ H2→H2 D=some (.lst ys)→R H2) :
  ∃ W:Nat→Nat→St→Hp→Prop,(∃ m,W 0 m σ0 (upd H1 D (.lst [])))∧∀ i m σ2 H2,W i m σ2 H2 →
  ((Itr lo n).stop i H2∧R H2)∨((Itr lo n).go i H2∧∃ N:St→Hp→Prop,(∀ σ' H',N σ' H'→∃ m',m' < m∧W (i + 1) m' σ' H')∧∀ x H',(Itr lo n).yld i H2 x H'→g x σ2 H' fun σ3 H3=>tt σ3 H3 fun b H4 =>
   if b=true then te σ3 H4 fun y H5=>∃ xs,H5 D=some (.lst xs)∧xs.length < sizeLine∧N σ3 (upd H5 D (.lst (xs++[y]))) else N σ3 H4):=by
 refine ⟨fun i m σ H'=>m=n - i∧i≤n∧∃ ys,ys.length≤i∧Pv i ys σ H'∧H' D=some (.lst ys),⟨n,by simp,Nat.zero_le _,[],Nat.le_refl _,h0,upd_same⟩,?_⟩
 rintro i m σ2 H2 ⟨rfl,hi,ys,hy,p,e⟩
 by_cases hlt:i < n
 ·refine .inr ⟨hlt,NextC Pv D i,fun σ' H' ⟨ys',l',p',e'⟩=>⟨n - (i + 1),by lia,rfl,hlt,ys',l',p',e'⟩,fun x' H' y=>?_⟩
  obtain ⟨e1,y⟩:=y
  subst e1 y
  exact hs i ys σ2 _ hlt hy p e
 ·have ei:i=n:=by lia
  subst ei
  exact .inl ⟨Nat.le_refl _,hd ys σ2 H2 p e⟩
end
end L2
namespace L2
open PySem PySem.Spec PyProof.Rows
section
variable {prog:Program} {w:World} {A:Around} {E:Value→Shared→Prop} {s:Shared}
theorem nextT_item {ti tt:Addr} {k:Nat} {vs:Array Value} {v:Value} {Q:Value→Shared→Prop} (hp:s.heap.IsTupleIter ti tt k) (hc:s.heap.IsTuple tt vs) (hv:vs[k]?=some v)
  (hq:∀ g,g.IsTupleIter ti tt (k + 1)→Heap.SameBut ti s.heap g→Q v { s with heap:=g }):wpAny (model prog w) A (Builtin.SmallTypes.nextOf (.ref ti)) Q E s:=by
 obtain ⟨ob,e0,e1,e2⟩:=id hp
 obtain ⟨oc,c0,_,nc,c2⟩:=hc
 unfold Builtin.SmallTypes.nextOf
 refine wpAny_bind (wpAny_callSpecial?_slot (name:=Str.ofString "__next__") hp.typeIs F.slot_tuple_iterator_next (wpAny_call_entry F.slot_tuple_iterator_next hp.typeIs F.entry_tuple_iterator_next ?_ (F.args_tuple_iterator_next_1 _)))
 show wpAny _ _ (field (.ref ti) 0 >>= _) _ _ s
 refine wpAny_bind (wpAny_field e0 e2 (x:=.ref tt) rfl ?_)
 show wpAny _ _ (if (Value.ref tt == Value.none)=true then _ else _) _ _ s
 rw [if_neg (show ¬ ((Value.ref tt == Value.none)=true) from Bool.false_ne_true)]
 show wpAny _ _ (field (.ref ti) 1 >>= _) _ _ s
 refine wpAny_bind (wpAny_field e0 e2 (x:=.int k 0) rfl ?_)
 show wpAny _ _ (seqItems? (.ref tt) >>= _) _ _ s
 refine wpAny_bind (wpAny_seqItems c0 c2 ?_)
 simp only [Int.toNat_natCast,hv]
 refine wpAny_bind (wpAny_setField e0 e2 (by simp) (wpAny_pure ⟨v,rfl,wpAny_pure (hq _ ?_ (Heap.SameBut.update ..))⟩))
 exact ⟨_,Heap.get?_update_self _ e0 (Obj.isFreed_of_fields (Obj.data_mapFields e2 _)),(Obj.cls_mapFields ..).trans e1,by rw [Obj.data_mapFields e2]; simp [rawInt]⟩
theorem nextT_stop {ti tt:Addr} {k:Nat} {vs:Array Value} {Q:Value→Shared→Prop} (hh:A.handled=none) (hp:s.heap.IsTupleIter ti tt k) (hc:s.heap.IsTuple tt vs) (hv:vs[k]?=none)
  (hE:∀ g e,Heap.ExtBut ti s.heap g→(∃ o,g.get? e=some o∧o.cls=.type "StopIteration")→E (.ref e) { s with heap:=g }):wpAny (model prog w) A (Builtin.SmallTypes.nextOf (.ref ti)) Q E s:=by
 obtain ⟨ob,e0,e1,e2⟩:=id hp
 obtain ⟨oc,c0,_,nc,c2⟩:=hc
 unfold Builtin.SmallTypes.nextOf
 refine wpAny_bind (wpAny_callSpecial?_slot (name:=Str.ofString "__next__") hp.typeIs F.slot_tuple_iterator_next (wpAny_call_entry F.slot_tuple_iterator_next hp.typeIs F.entry_tuple_iterator_next ?_ (F.args_tuple_iterator_next_1 _)))
 show wpAny _ _ (field (.ref ti) 0 >>= _) _ _ s
 refine wpAny_bind (wpAny_field e0 e2 (x:=.ref tt) rfl ?_)
 show wpAny _ _ (if (Value.ref tt == Value.none)=true then _ else _) _ _ s
 rw [if_neg (show ¬ ((Value.ref tt == Value.none)=true) from Bool.false_ne_true)]
 show wpAny _ _ (field (.ref ti) 1 >>= _) _ _ s
 refine wpAny_bind (wpAny_field e0 e2 (x:=.int k 0) rfl ?_)
 show wpAny _ _ (seqItems? (.ref tt) >>= _) _ _ s
 refine wpAny_bind (wpAny_seqItems c0 c2 ?_)
 simp only [Int.toNat_natCast,hv]
 refine wpAny_bind (wpAny_rule (wpAny_bind (wpAny_setField e0 e2 (by simp) ?_)))
 show wpAny _ _ (newExc (.type "StopIteration") [] >>= _) _ _ _
 refine wpAny_bind ?_
 simp only [newExc,newTuple]
 refine wpAny_bind (wpAny_newObj_type ?_ (by size_fits))
 refine wpAny_bind (m:=firstArgMember _ _) (wpAny_of_eq (a:=Value.none) (by first | rfl | (simp only [firstArgMember]; done)) ?_)
 refine wpAny_newObj_type ?_ (by size_fits)
 simp only [raiseNew]
 refine wpAny_bind (wpAny_handled ?_)
 first | rw [show A.in1.handled=none from hh] | rw [hh]
 refine wpAny_bind (wpAny_pure (wpAny_throw ?_))
 exact hE _ _ (((Heap.SameBut.update ..).extBut.push _).push _) ⟨_,Heap.get?_push_size _ rfl,rfl⟩
structure ZT (h:Heap) (z ti to i j a b:Addr) (f0:Value) (k:Nat):Prop where
 zz:IsZip h z ti to f0
 pi:IsPair h ti (.ref i) (.ref j)
 po:∃ x y,IsPair h to x y
 ia:h.IsTupleIter i a k
 jb:h.IsTupleIter j b k
theorem zipT_item {z ti to i j a b:Addr} {k:Nat} {xs ys:Array Value} {x y:Value} {Q:Value→Shared→Prop} (D:ZipApart z ti to i j a b) (Z:ZT s.heap z ti to i j a b .none k)
  (ha:s.heap.IsTuple a xs) (hb:s.heap.IsTuple b ys) (hx:xs[k]?=some x) (hy:ys[k]?=some y)
  (hq:∀ g,ZT g z ti to i j a b (rawInt s.heap.objs.size) (k + 1)→IsPair g s.heap.objs.size x y→g.objs.size=s.heap.objs.size + 1 →
   (∀ c o,c≠z→c≠to→c≠i→c≠j→s.heap.get? c=some o→g.get? c=some o)→Q (.ref s.heap.objs.size) { s with heap:=g }) :
  wpAny (model prog w) A (Builtin.«zip.__next__» ⟨[.ref z],[]⟩) (fun fin s'=>∃ v,fin=.done (.ret v)∧Q v s') E s:=by
 obtain ⟨Zz,Zi,⟨u,v,Zo⟩,Za,Zb⟩:=Z
 show wpAny _ _ (field (.ref z) 2 >>= _) _ _ _
 refine wpAny_bind (wpAny_field Zz rfl (x:=.bool false) rfl ?_)
 show wpAny _ _ (field (.ref z) 3 >>= _) _ _ _
 refine wpAny_bind (wpAny_field Zz rfl (x:=.ref ti) rfl (wpAny_bind (wpAny_seqItems Zi rfl ?_)))
 show wpAny _ _ (Builtin.SmallTypes.ownedTupleIsFree (.ref z) >>= _) _ _ _
 refine wpAny_bind ?_
 unfold Builtin.SmallTypes.ownedTupleIsFree
 refine wpAny_bind (wpAny_field Zz rfl (x:=.none) rfl (wpAny_pure ?_))
 simp only [if_true]
 refine wpAny_bind (wpAny_rule (wpAny_bind (wpAny_field Zz rfl (x:=.ref to) rfl (wpAny_bind (wpAny_setField_rec Zz (by simp) fun g1 z1 b1=>?_)))))
 replace z1:IsZip g1 z ti to .ellipsis:=z1
 refine wpAny_bind ?_
 simp only [List.zipIdx_cons,List.zipIdx_nil,List.forIn_cons,List.forIn_nil]
 refine wpAny_bind (wpAny_bind (wpAny_onRaise ?_))
 show wpAny _ _ (Builtin.SmallTypes.nextOf (.ref i) >>= _) _ _ _
 refine wpAny_bind (nextT_item (Za.extBut b1.extBut D.i1z) (ha.extBut b1.extBut D.l1z) hx fun g2 p2 b2=>wpAny_pure ?_)
 have o2:IsPair g2 to u v:=b2.extBut _ _ D.TOi1 (b1.extBut _ _ D.TOz Zo)
 refine wpAny_bind (wpAny_seqItems o2 rfl (wpAny_bind (wpAny_updateSeq_pair o2 fun g3 o3 b3=>?_)))
 replace o3:IsPair g3 to x v:=o3
 refine wpAny_bind (wpAny_letGo (wpAny_pure (wpAny_bind (wpAny_bind (wpAny_onRaise ?_)))))
 show wpAny _ _ (Builtin.SmallTypes.nextOf (.ref j) >>= _) _ _ _
 refine wpAny_bind (nextT_item (((Zb.extBut b1.extBut D.i2z).extBut b2.extBut D.i12.symm).extBut b3.extBut D.TOi2.symm) (((hb.extBut b1.extBut D.l2z).extBut b2.extBut D.l2i1).extBut b3.extBut D.l2TO) hy fun g4 p4 b4=>wpAny_pure ?_)
 have o4:IsPair g4 to x v:=b4.extBut _ _ D.TOi2 o3
 refine wpAny_bind (wpAny_seqItems o4 rfl (wpAny_bind (wpAny_updateSeq_pair o4 fun g5 o5 b5=>?_)))
 replace o5:IsPair g5 to x y:=o5
 refine wpAny_bind (wpAny_letGo (wpAny_pure (wpAny_pure (wpAny_bind (wpAny_seqItems o5 rfl (wpAny_bind (wpAny_newTuple ?_)))))))
 have sz:g5.objs.size=s.heap.objs.size:=by rw [b5.1,b4.1,b3.1,b2.1,b1.1]
 have z5:IsZip g5 z ti to .ellipsis:=b5.extBut _ _ D.TOz.symm (b4.extBut _ _ D.i2z.symm (b3.extBut _ _ D.TOz.symm (b2.extBut _ _ D.i1z.symm z1)))
 have keep5:∀ c o,c≠z→c≠to→c≠i→c≠j→s.heap.get? c=some o→g5.get? c=some o:=fun c o n1 n2 n3 n4 e=>b5.extBut _ _ n2 (b4.extBut _ _ n4 (b3.extBut _ _ n2 (b2.extBut _ _ n3 (b1.extBut _ _ n1 e))))
 have pa5:g5.IsTupleIter i a (k + 1):=((p2.extBut b3.extBut D.TOi1.symm).extBut b4.extBut D.i12).extBut b5.extBut D.TOi1.symm
 have pb5:g5.IsTupleIter j b (k + 1):=p4.extBut b5.extBut D.TOi2.symm
 have zlt:z < g5.objs.size:=Heap.lt_size z5
 show wpAny _ _ (Builtin.SmallTypes.ownedTupleHandOut (.ref z) (.ref g5.objs.size) >>= _) _ _ _
 refine wpAny_bind ?_
 unfold Builtin.SmallTypes.ownedTupleHandOut
 have z6:IsZip (g5.push { cls:=.type "tuple",data:=.seq #[x,y] }) z ti to .ellipsis:=Heap.get?_push_of_some _ z5
 refine wpAny_bind (wpAny_setField_rec z6 (by simp) fun g7 z7 b7=>?_)
 replace z7:IsZip g7 z ti to (rawInt g5.objs.size):=z7
 refine wpAny_setField_rec z7 (by simp) fun g8 z8 b8=>?_
 replace z8:IsZip g8 z ti to (rawInt g5.objs.size):=z8
 have keep8:∀ c o,c≠z→g5.get? c=some o→g8.get? c=some o:=fun c o n e=>b8.extBut _ _ n (b7.extBut _ _ n (Heap.get?_push_of_some _ e))
 have new8:IsPair g8 g5.objs.size x y:=b8.extBut _ _ (Nat.ne_of_gt zlt) (b7.extBut _ _ (Nat.ne_of_gt zlt) (Heap.get?_push_size _ rfl))
 have sz8:g8.objs.size=g5.objs.size + 1:=by rw [b8.1,b7.1,Heap.size_push]
 rw [sz] at z8 new8 sz8
 refine wpAny_pure ⟨_,rfl,?_⟩
 show Q (.ref g5.objs.size) _
 rw [sz]
 exact hq g8 ⟨z8,keep8 _ _ D.TIz (keep5 _ _ D.TIz D.TITO D.TIi1 D.TIi2 Zi),⟨x,y,keep8 _ _ D.TOz o5⟩,pa5.at fun o e=>keep8 _ o D.i1z e,pb5.at fun o e=>keep8 _ o D.i2z e⟩ new8 sz8 fun c o n1 n2 n3 n4 e=>keep8 c o n1 (keep5 c o n1 n2 n3 n4 e)
theorem zipT_stop {z ti to i j a b:Addr} {k:Nat} {xs ys:Array Value} {Q:PySem.Fin→Shared→Prop} (hh:A.handled=none) (D:ZipApart z ti to i j a b) (Z:ZT s.heap z ti to i j a b .none k)
  (ha:s.heap.IsTuple a xs) (hb:s.heap.IsTuple b ys) (hend:xs[k]?=none∨ys[k]?=none)
  (hE:∀ g e,(∀ c o,c≠z→c≠to→c≠i→c≠j→s.heap.get? c=some o→g.get? c=some o)→(∃ o,g.get? e=some o∧o.cls=.type "StopIteration")→E (.ref e) { s with heap:=g }) :
  wpAny (model prog w) A (Builtin.«zip.__next__» ⟨[.ref z],[]⟩) Q E s:=by
 obtain ⟨Zz,Zi,⟨u,v,Zo⟩,Za,Zb⟩:=Z
 show wpAny _ _ (field (.ref z) 2 >>= _) _ _ _
 refine wpAny_bind (wpAny_field Zz rfl (x:=.bool false) rfl ?_)
 show wpAny _ _ (field (.ref z) 3 >>= _) _ _ _
 refine wpAny_bind (wpAny_field Zz rfl (x:=.ref ti) rfl (wpAny_bind (wpAny_seqItems Zi rfl ?_)))
 show wpAny _ _ (Builtin.SmallTypes.ownedTupleIsFree (.ref z) >>= _) _ _ _
 refine wpAny_bind ?_
 unfold Builtin.SmallTypes.ownedTupleIsFree
 refine wpAny_bind (wpAny_field Zz rfl (x:=.none) rfl (wpAny_pure ?_))
 simp only [if_true]
 refine wpAny_bind (wpAny_rule (wpAny_bind (wpAny_field Zz rfl (x:=.ref to) rfl (wpAny_bind (wpAny_setField_rec Zz (by simp) fun g1 z1 b1=>?_)))))
 replace z1:IsZip g1 z ti to .ellipsis:=z1
 refine wpAny_bind ?_
 simp only [List.zipIdx_cons,List.zipIdx_nil,List.forIn_cons,List.forIn_nil]
 refine wpAny_bind (wpAny_bind (wpAny_onRaise ?_))
 show wpAny _ _ (Builtin.SmallTypes.nextOf (.ref i) >>= _) _ _ _
 cases hx:xs[k]? with
 | none =>
  refine wpAny_bind (nextT_stop hh (Za.extBut b1.extBut D.i1z) (ha.extBut b1.extBut D.l1z) hx fun g2 e b2 ⟨oe,q1,q2⟩=>?_)
  have z2:IsZip g2 z ti to .ellipsis:=b2 _ _ D.i1z.symm z1
  have ez:e≠z:=fun x=>by
   subst x
   rw [z2] at q1
   cases q1
   simp at q2
  exact wpAny_setField_rec z2 (by simp) fun g3 _ b3=>hE g3 e (fun c o n1 _ n3 _ x=>b3.extBut _ _ n1 (b2 _ _ n3 (b1.extBut _ _ n1 x))) ⟨oe,b3.extBut _ _ ez q1,q2⟩
 | some x =>
  have hy:ys[k]?=none:=hend.elim (fun h=>by rw [hx] at h; cases h) id
  refine wpAny_bind (nextT_item (Za.extBut b1.extBut D.i1z) (ha.extBut b1.extBut D.l1z) hx fun g2 p2 b2=>wpAny_pure ?_)
  have o2:IsPair g2 to u v:=b2.extBut _ _ D.TOi1 (b1.extBut _ _ D.TOz Zo)
  refine wpAny_bind (wpAny_seqItems o2 rfl (wpAny_bind (wpAny_updateSeq_pair o2 fun g3 o3 b3=>wpAny_bind (wpAny_letGo (wpAny_pure (wpAny_bind (wpAny_bind (wpAny_onRaise ?_))))))))
  show wpAny _ _ (Builtin.SmallTypes.nextOf (.ref j) >>= _) _ _ _
  refine wpAny_bind (nextT_stop hh (((Zb.extBut b1.extBut D.i2z).extBut b2.extBut D.i12.symm).extBut b3.extBut D.TOi2.symm) (((hb.extBut b1.extBut D.l2z).extBut b2.extBut D.l2i1).extBut b3.extBut D.l2TO) hy fun g4 e b4 ⟨oe,q1,q2⟩=>?_)
  have z4:IsZip g4 z ti to .ellipsis:=b4 _ _ D.i2z.symm (b3.extBut _ _ D.TOz.symm (b2.extBut _ _ D.i1z.symm z1))
  have ez:e≠z:=fun x=>by
   subst x
   rw [z4] at q1
   cases q1
   simp at q2
  exact wpAny_setField_rec z4 (by simp) fun g5 _ b5=>hE g5 e (fun c o n1 n2 n3 n4 x=>b5.extBut _ _ n1 (b4 _ _ n4 (b3.extBut _ _ n2 (b2.extBut _ _ n3 (b1.extBut _ _ n1 x))))) ⟨oe,b5.extBut _ _ ez q1,q2⟩
end
section
variable {prog:Program} {w:World} {A:Around} {E:Value→Shared→Prop} {s:Shared}
noncomputable abbrev zt1 (h:Heap) (a:Addr):Heap:=h.push { cls:=.type "tuple_iterator",data:=.fields #[.ref a,.int 0 0] }
noncomputable abbrev zt2 (h:Heap) (a b:Addr):Heap:=(zt1 h a).push { cls:=.type "tuple_iterator",data:=.fields #[.ref b,.int 0 0] }
noncomputable abbrev zt3 (h:Heap) (a b:Addr):Heap:=(zt2 h a b).push { cls:=.type "tuple",data:=.seq #[.ref h.objs.size,.ref (zt1 h a).objs.size] }
noncomputable abbrev zt4 (h:Heap) (a b:Addr):Heap:=(zt3 h a b).push { cls:=.type "tuple",data:=.seq #[.none,.none] }
noncomputable abbrev zt5 (h:Heap) (a b:Addr):Heap:=(zt4 h a b).push { cls:=.type "zip",data:=.fields #[.none,.bool false,.bool false,.ref (zt2 h a b).objs.size,.ref (zt3 h a b).objs.size] }
theorem meets_zipT (a b:Addr) (xs ys:Array Value):Meets (Builtin.«zip.__new__» ⟨[.type "zip",.ref a,.ref b],[]⟩)
  (fun _ R s=>s.heap.IsTuple a xs∧s.heap.IsTuple b ys∧R (.ok (.ret (.ref (zt4 s.heap a b).objs.size))) { s with heap:=zt5 s.heap a b }) :=
 .of_wp fun prog w A R s h=>by
  obtain ⟨hp,g,d,tk,os⟩:=s
  obtain ⟨h1,h2,h⟩:=h
  have hsub:=sub_zip
  have t1:Heap.IsTuple (Shared.heap ⟨hp,g,d,tk,os⟩) a xs:=h1
  have t2:Heap.IsTuple (Shared.heap ⟨hp.push { cls:=.type "tuple_iterator",data:=.fields #[.ref a,.int 0 0] },g,d,tk,os⟩) b ys:=Heap.IsTuple.push h2 _
  wp_walk using wpAny_pyIter_tuple t1,wpAny_pyIter_tuple t2
  exact ⟨_,rfl,h⟩
theorem call_zipT {a b:Addr} {xs ys:Array Value} {Q:Value→Shared→Prop} (ha:s.heap.IsTuple a xs) (hb:s.heap.IsTuple b ys)
  (h:∀ g,ZT g (s.heap.objs.size + 4) (s.heap.objs.size + 2) (s.heap.objs.size + 3) s.heap.objs.size (s.heap.objs.size + 1) a b .none 0→g.objs.size=s.heap.objs.size + 5→(∀ c o,s.heap.get? c=some o→g.get? c=some o) →
   Q (.ref (s.heap.objs.size + 4)) { s with heap:=g }):wpAny (model prog w) A (call (.type "zip") [.ref a,.ref b]) Q E s:=by
 refine callType_new F.called_zip (by decide) (F.typeCall_zip_2 _ _) (F.newCall_zip_2 _ _) (fun obj=>F.args_object_init_3 obj _ _) F.entry_zip_new (meets_zipT a b xs ys) ⟨ha,hb,?_⟩
 have z1:(zt1 s.heap a).objs.size=s.heap.objs.size + 1:=Heap.size_push ..
 have z2:(zt2 s.heap a b).objs.size=s.heap.objs.size + 2:=by rw [Heap.size_push,z1]
 have z3:(zt3 s.heap a b).objs.size=s.heap.objs.size + 3:=by rw [Heap.size_push,z2]
 have z4:(zt4 s.heap a b).objs.size=s.heap.objs.size + 4:=by rw [Heap.size_push,z3]
 have z5:(zt5 s.heap a b).objs.size=s.heap.objs.size + 5:=by rw [Heap.size_push,z4]
 have g5:(zt5 s.heap a b).get? (zt4 s.heap a b).objs.size=some _:=Heap.get?_push_size _ rfl
 have g4:(zt5 s.heap a b).get? (zt3 s.heap a b).objs.size=some _:=Heap.get?_push_of_some _ (Heap.get?_push_size _ rfl)
 have g3:(zt5 s.heap a b).get? (zt2 s.heap a b).objs.size=some _:=Heap.get?_push_of_some _ (Heap.get?_push_of_some _ (Heap.get?_push_size _ rfl))
 have g2:(zt5 s.heap a b).get? (zt1 s.heap a).objs.size=some _:=Heap.get?_push_of_some _ (Heap.get?_push_of_some _ (Heap.get?_push_of_some _ (Heap.get?_push_size _ rfl)))
 have g1:(zt5 s.heap a b).get? s.heap.objs.size=some _:=Heap.get?_push_of_some _ (Heap.get?_push_of_some _ (Heap.get?_push_of_some _ (Heap.get?_push_of_some _ (Heap.get?_push_size _ rfl))))
 show _∧_
 rw [z2,z3,z4] at g5
 rw [z1,z2] at g3
 rw [z3] at g4
 rw [z1] at g2
 rw [z4]
 exact ⟨⟨_,g5,rfl⟩,h _ ⟨g5,g3,⟨_,_,g4⟩,⟨_,g1,rfl,rfl⟩,⟨_,g2,rfl,rfl⟩⟩ z5 fun c o x=>Heap.get?_push_of_some _ (Heap.get?_push_of_some _ (Heap.get?_push_of_some _ (Heap.get?_push_of_some _ (Heap.get?_push_of_some _ x))))⟩
end
noncomputable def Itz (K:PySem.W.Frag) (p q:Addr):It :=
  ⟨fun i H=>∃ xs ys x y,SqT K H p xs∧SqT K H q ys∧xs[i]?=some x∧ys[i]?=some y,
   fun i H v H'=>∃ T x y,v=.ref T∧H T=none∧H'=upd H T (.tup [x,y])∧∀ xs ys,SqT K H p xs→SqT K H q ys→xs[i]?=some x∧ys[i]?=some y,
   fun i H=>∃ xs ys,SqT K H p xs∧SqT K H q ys∧(xs.length≤i∨ys.length≤i)⟩
theorem turn_zip {P:Program} {w:World} {K:PySem.W.Frag} {es:List Expr} {kk:Nat} {pos:Pos} (p q z ti to i j:Addr) (D:ZipApart z ti to i j p q) :
  Turn P w K (.Tuple es kk pos) (Itz K p q) [z,ti,to,i,j] z (fun k h=>ZT h z ti to i j p q .none k) where
 mem:=by simp
 obj:=fun k h st b hb=>by
  obtain ⟨a1,a2,⟨u,v,a3⟩,⟨o4,a4,c4,d4⟩,⟨o5,a5,c5,d5⟩⟩:=st
  simp only [List.mem_cons,List.not_mem_nil,or_false] at hb
  rcases hb with rfl | rfl | rfl | rfl | rfl
  ·exact ⟨_,a1,fun v e=>by cases e⟩
  ·exact ⟨_,a2,fun v e=>by cases e⟩
  ·exact ⟨_,a3,fun v e=>by cases e⟩
  ·exact ⟨_,a4,fun v e=>by rw [d4] at e; cases e⟩
  ·exact ⟨_,a5,fun v e=>by rw [d5] at e; cases e⟩
 keep:=fun k h h' st kp=>by
  obtain ⟨a1,a2,⟨u,v,a3⟩,a4,a5⟩:=st
  exact ⟨kp z (by simp) _ a1,kp ti (by simp) _ a2,⟨u,v,kp to (by simp) _ a3⟩,a4.at fun o e=>kp i (by simp) o e,a5.at fun o e=>kp j (by simp) o e⟩
 item:=by
  intro X hP hw hK hc k pins s σ H E I hf st hg
  subst hP hw hK
  obtain ⟨xs,ys,x,y,hp,hq,hx,hy⟩:=hg
  obtain ⟨us,ru,pu,_⟩:=I.tuple hp
  obtain ⟨vs,rv,pv,_⟩:=I.tuple hq
  obtain ⟨u,eu,r1⟩:=ru.get hx
  obtain ⟨v,ev,r2⟩:=rv.get hy
  have hT:s.TypeIs (.ref z) "zip":=⟨_,st.zz,rfl⟩
  unfold pyNext
  refine wpAny_bind (wpAny_attempt (wpAny_callSpecial?_slot (name:=Str.ofString "__next__") hT F.slot_zip_next (wpAny_call_entry F.slot_zip_next hT F.entry_zip_next (zipT_item D st (show s.heap.IsTuple p us.toArray from pu) (show s.heap.IsTuple q vs.toArray from pv) (by simpa using eu) (by simpa using ev) fun g Zg new sz kp=>wpAny_pure ?_) (F.args_zip_next_1 _))))
  refine ⟨_,rfl,?_⟩
  refine wpAny_letOwnedTupleGo_zip Zg.zz fun g' z' b'=>?_
  have fz:=hf z (by simp)
  have fo:=hf to (by simp)
  have fi:=hf i (by simp)
  have fj:=hf j (by simp)
  have nT:H s.heap.objs.size=none:=I.hok.fresh (Nat.le_refl _)
  have kp':∀ c o,c≠z→c≠to→c≠i→c≠j→s.heap.get? c=some o→g'.get? c=some o:=fun c o n1 n2 n3 n4 e=>b'.extBut _ _ n1 (kp c o n1 n2 n3 n4 e)
  have zne:s.heap.objs.size≠z:=Nat.ne_of_gt (Heap.lt_size st.zz)
  have new':IsPair g' s.heap.objs.size u v:=b'.extBut _ _ zne new
  have notch:∀ b,b ∉ [z,to,i,j]→b≠z∧b≠to∧b≠i∧b≠j:=fun b hb=>by simpa using hb
  have trk:∀ b o,H b=some o→b≠z∧b≠to∧b≠i∧b≠j:=fun b o e=>⟨ne_of_none e fz.1,ne_of_none e fo.1,ne_of_none e fi.1,ne_of_none e fj.1⟩
  have I1:Inv X pins σ (upd H s.heap.objs.size (.tup [x,y])) { s with heap:=g' }:=by
   refine I.step (g':=s.gens) (d':=s.drawn) (t':=s.toks) (ch:=[z,to,i,j]) (fun b hb=>?_) (fun b o _ _ hc e _=>?_) (fun b o _ _ hc e _=>?_) (fun b o hc e n=>?_) (fun b o hc e=>?_) (fun b xs e=>?_) (fun b o u e=>?_) (fun b ps e=>⟨#[],?_⟩) (fun m hm=>?_) (fun b o e=>?_) I.bare
   ·simp only [List.mem_cons,List.not_mem_nil,or_false] at hb
    rcases hb with rfl | rfl | rfl | rfl
    ·exact ⟨fz.2.2.2.1,fz.2.1,fz.2.2.2.2.1,fz.2.2.2.2.2⟩
    ·exact ⟨fo.2.2.2.1,fo.2.1,fo.2.2.2.2.1,fo.2.2.2.2.2⟩
    ·exact ⟨fi.2.2.2.1,fi.2.1,fi.2.2.2.2.1,fi.2.2.2.2.2⟩
    ·exact ⟨fj.2.2.2.1,fj.2.1,fj.2.2.2.2.1,fj.2.2.2.2.2⟩
   ·obtain ⟨n1,n2,n3,n4⟩:=notch b hc
    exact kp' b o n1 n2 n3 n4 e
   ·obtain ⟨n1,n2,n3,n4⟩:=notch b hc
    exact ⟨o.slots,kp' b o n1 n2 n3 n4 e⟩
   ·rw [upd_ne (Nat.ne_of_lt (Heap.lt_size e))]; exact n
   ·obtain ⟨n1,n2,n3,n4⟩:=notch b hc
    exact ⟨o,kp' b o n1 n2 n3 n4 e⟩
   ·rw [upd_ne (ne_of_none e nT)]; exact e
   ·rw [upd_ne (ne_of_none e nT)]; exact e
   ·rw [upd_ne (ne_of_none e nT),e]; simp
   ·obtain ⟨o,es,ep,ho,r⟩:=hm
    exact ⟨o,es,ep,kp' _ o (Ne.symm fz.2.1) (Ne.symm fo.2.1) (Ne.symm fi.2.1) (Ne.symm fj.2.1) ho,r⟩
   ·by_cases hb:b=s.heap.objs.size
    ·subst hb
     rw [upd_same] at e
     cases e
     exact ⟨by show 2≤sizeLine; rw [sizeLine_eq]; decide,[u,v],.cons r1 (.cons r2 .nil),⟨_,new',rfl,0,rfl⟩⟩
    ·rw [upd_ne hb] at e
     refine (I.hok b o e).stay (fun c v' hcc r=>?_) (fun c r=>by rw [upd_ne (ne_of_none r nT)]; exact r) fun c xs r=>by rw [upd_ne (ne_of_none r nT)]; exact r
     rcases hcc with rfl | hcc
     ·obtain ⟨n1,n2,n3,n4⟩:=trk c o e
      exact kp' c v' n1 n2 n3 n4 r
     ·obtain ⟨n1,n2,n3,n4⟩:=trk c _ hcc
      exact kp' c v' n1 n2 n3 n4 r
  refine ⟨.ref s.heap.objs.size,_,I1,rfl,⟨_,x,y,rfl,nT,rfl,fun xs' ys' h1 h2=>?_⟩,?_,fun b hb=>?_⟩
  ·rw [I.tuple_inj h1 hp,I.tuple_inj h2 hq]
   exact ⟨hx,hy⟩
  ·obtain ⟨a1,a2,⟨c1,c2,a3⟩,a4,a5⟩:=Zg
   exact ⟨z',b'.extBut _ _ D.TIz a2,⟨c1,c2,b'.extBut _ _ D.TOz a3⟩,a4.extBut b'.extBut D.i1z,a5.extBut b'.extBut D.i2z⟩
  ·have hb':∃ o,s.heap.get? b=some o:=by
    obtain ⟨a1,a2,⟨c1,c2,a3⟩,⟨o4,a4,_⟩,⟨o5,a5,_⟩⟩:=st
    simp only [List.mem_cons,List.not_mem_nil,or_false] at hb
    rcases hb with rfl | rfl | rfl | rfl | rfl
    ·exact ⟨_,a1⟩
    ·exact ⟨_,a2⟩
    ·exact ⟨_,a3⟩
    ·exact ⟨_,a4⟩
    ·exact ⟨_,a5⟩
   obtain ⟨o,e⟩:=hb'
   rw [upd_ne (Nat.ne_of_lt (Heap.lt_size e))]
   exact (hf b hb).1
 done:=by
  intro X hP hw hK hc k pins s σ H E I hf st hg
  subst hP hw hK
  obtain ⟨xs,ys,hp,hq,hend⟩:=hg
  obtain ⟨us,ru,pu,_⟩:=I.tuple hp
  obtain ⟨vs,rv,pv,_⟩:=I.tuple hq
  have l1:=ru.length
  have l2:=rv.length
  have hT:s.TypeIs (.ref z) "zip":=⟨_,st.zz,rfl⟩
  unfold pyNext
  refine wpAny_bind (wpAny_attempt (wpAny_callSpecial?_slot (name:=Str.ofString "__next__") hT F.slot_zip_next (wpAny_call_entry F.slot_zip_next hT F.entry_zip_next (zipT_stop (I.ok.hd hc) D st (show s.heap.IsTuple p us.toArray from pu) (show s.heap.IsTuple q vs.toArray from pv) ?_ fun g e kp ⟨o,ho,hcl⟩=>?_) (F.args_zip_next_1 _))))
  ·rcases hend with h | h
   ·exact .inl (by simp; lia)
   ·exact .inr (by simp; lia)
  ·refine wpAny_bind (wpAny_isInstance (T:="StopIteration") (b:=true) ⟨o,ho,hcl⟩ isSubtype_stop ?_)
   refine wpAny_pure ⟨rfl,?_⟩
   have fz:=hf z (by simp)
   have fo:=hf to (by simp)
   have fi:=hf i (by simp)
   have fj:=hf j (by simp)
   have notch:∀ b,b ∉ [z,to,i,j]→b≠z∧b≠to∧b≠i∧b≠j:=fun b hb=>by simpa using hb
   have trk:∀ b o,H b=some o→b≠z∧b≠to∧b≠i∧b≠j:=fun b o e=>⟨ne_of_none e fz.1,ne_of_none e fo.1,ne_of_none e fi.1,ne_of_none e fj.1⟩
   refine I.step (g':=s.gens) (d':=s.drawn) (t':=s.toks) (ch:=[z,to,i,j]) (fun b hb=>?_) (fun b o _ _ hc e _=>?_) (fun b o _ _ hc e _=>?_) (fun b o hc e n=>n) (fun b o hc e=>?_) (fun b xs e=>e) (fun b o u e=>e) (fun b ps e=>⟨#[],by rw [e]; simp⟩) (fun m hm=>?_) (fun b o e=>?_) I.bare
   ·simp only [List.mem_cons,List.not_mem_nil,or_false] at hb
    rcases hb with rfl | rfl | rfl | rfl
    ·exact ⟨fz.2.2.2.1,fz.2.1,fz.2.2.2.2.1,fz.2.2.2.2.2⟩
    ·exact ⟨fo.2.2.2.1,fo.2.1,fo.2.2.2.2.1,fo.2.2.2.2.2⟩
    ·exact ⟨fi.2.2.2.1,fi.2.1,fi.2.2.2.2.1,fi.2.2.2.2.2⟩
    ·exact ⟨fj.2.2.2.1,fj.2.1,fj.2.2.2.2.1,fj.2.2.2.2.2⟩
   ·obtain ⟨n1,n2,n3,n4⟩:=notch b hc
    exact kp b o n1 n2 n3 n4 e
   ·obtain ⟨n1,n2,n3,n4⟩:=notch b hc
    exact ⟨o.slots,kp b o n1 n2 n3 n4 e⟩
   ·obtain ⟨n1,n2,n3,n4⟩:=notch b hc
    exact ⟨o,kp b o n1 n2 n3 n4 e⟩
   ·obtain ⟨o,es,ep,ho,r⟩:=hm
    exact ⟨o,es,ep,kp _ o (Ne.symm fz.2.1) (Ne.symm fo.2.1) (Ne.symm fi.2.1) (Ne.symm fj.2.1) ho,r⟩
   ·refine (I.hok b o e).stay (fun c v' hcc r=>?_) (fun _ r=>r) fun _ _ r=>r
    rcases hcc with rfl | hcc
    ·obtain ⟨n1,n2,n3,n4⟩:=trk c o e
     exact kp c v' n1 n2 n3 n4 r
    ·obtain ⟨n1,n2,n3,n4⟩:=trk c _ hcc
     exact kp c v' n1 n2 n3 n4 r
 self:=fun _ _ _ _ _ st h=>wpAny_pyIter_zip st.zz h
theorem bt_zip:bootBuiltins "zip"=some (.type "zip"):=by decide +kernel
section
variable {X:Cx} {es:List Expr} {kk:Nat} {tpos:Pos}
noncomputable def iZip (K:PySem.W.Frag) (ta:TA):TI:=fun σ H R=>ta σ H fun vs H1=>∃ p q,vs=[.ref p,.ref q]∧(∃ xs,SqT K H1 p xs)∧(∃ ys,SqT K H1 q ys)∧R (Itz K p q) H1
theorem pi_zip {a b:Expr} {ta:TA} {p pos:Pos} (hm:X.mg "zip"=none) (ha:PA X [a,b] ta) (hg:Gl X "zip":=by rfl) (hs:starEach [a,b] X.env=[(false,eval a X.env),(false,eval b X.env)]:=by rfl) (hs2:starEach [b] X.env=[(false,eval b X.env)]:=by rfl) :
  PI X (.Tuple es kk tpos) (.Call (.Name "zip" p) [a,b] [] pos) (iZip X.K ta):=by
 intro pins s σ H R I h
 refine Call_ (ld_blt I hg hm bt_zip (PyProof.Rows.callWith_type1 (thn (ha pos pins s σ H _ I h) fun us s1 ⟨vs,H1,I1,r1,q1⟩=>?_) (by rw [hs,hs2]) (by rw [hs2]; rfl)))
 obtain ⟨x,y,e,⟨xs,hx⟩,⟨ys,hy⟩,q⟩:=q1
 subst e
 obtain ⟨u,v,rfl,ru,rv⟩:=vals2 r1
 cases ru; cases rv
 obtain ⟨us,_,px,_⟩:=I1.tuple hx
 obtain ⟨vs,_,py,_⟩:=I1.tuple hy
 have lx:x < s1.heap.objs.size:=px.lt
 have ly:y < s1.heap.objs.size:=py.lt
 refine call_zipT (show s1.heap.IsTuple x us.toArray from px) (show s1.heap.IsTuple y vs.toArray from py) fun g Zg sz kp=>?_
 refine wpAny_pyIter_zip Zg.zz ?_
 refine ⟨_,_,_,_,H1,rfl,I1.kept (t':=s1.toks) kp,turn_zip x y _ _ _ _ _ (zipApart_new lx ly),Zg,fun b hb=>?_,q⟩
 have hge:s1.heap.objs.size≤b:=by
  simp only [List.mem_cons,List.not_mem_nil,or_false] at hb
  rcases hb with rfl | rfl | rfl | rfl | rfl <;> lia
 exact I1.fpOk hge (I1.hok.fresh hge)
theorem comp_zip {K:PySem.W.Frag} {p q:Addr} {xs ys:List V} {H1:Hp} {D:Addr} {σ0:St} {g:TG} {tt:TT} {te:TE} {R:Hp→Prop}
  (Pv:Nat→List V→St→Hp→Prop) (hl:∀ i zs σ H2,Pv i zs σ H2→SqT K H2 p xs∧SqT K H2 q ys) (hlen:xs.length=ys.length) (h0:Pv 0 [] σ0 (upd H1 D (.lst [])))
  (hs:∀ i T x y zs σ H2,xs[i]?=some x→ys[i]?=some y→zs.length≤i→Pv i zs σ H2→H2 D=some (.lst zs)→H2 T=none→g (.ref T) σ (upd H2 T (.tup [x,y])) fun σ3 H3=>tt σ3 H3 fun b H4=>if b=true then te σ3 H4 fun y H5=>∃ zs,H5 D=some (.lst zs)∧zs.length < sizeLine∧NextC Pv D i σ3 (upd H5 D (.lst (zs++[y]))) else NextC Pv D i σ3 H4)
  (hd:∀ zs σ H2,Pv xs.length zs σ H2→H2 D=some (.lst zs)→R H2) :
  ∃ W:Nat→Nat→St→Hp→Prop,(∃ m,W 0 m σ0 (upd H1 D (.lst [])))∧∀ i m σ2 H2,W i m σ2 H2 →
  ((Itz K p q).stop i H2∧R H2)∨((Itz K p q).go i H2∧∃ N:St→Hp→Prop,(∀ σ' H',N σ' H'→∃ m',m' < m∧W (i + 1) m' σ' H')∧∀ x H',(Itz K p q).yld i H2 x H'→g x σ2 H' fun σ3 H3=>tt σ3 H3 fun b H4 =>
   if b=true then te σ3 H4 fun y H5=>∃ xs,H5 D=some (.lst xs)∧xs.length < sizeLine∧N σ3 (upd H5 D (.lst (xs++[y]))) else N σ3 H4):=by
 refine ⟨fun i m σ H'=>m=xs.length - i∧i≤xs.length∧∃ zs,zs.length≤i∧Pv i zs σ H'∧H' D=some (.lst zs),⟨xs.length,by simp,Nat.zero_le _,[],Nat.le_refl _,h0,upd_same⟩,?_⟩
 rintro i m σ2 H2 ⟨rfl,hi,zs,hy,pv,e⟩
 obtain ⟨q1,q2⟩:=hl i zs σ2 H2 pv
 by_cases hlt:i < xs.length
 ·refine .inr ⟨⟨xs,ys,xs[i],ys[i],q1,q2,by simp [hlt],by simp [hlen ▸ hlt]⟩,NextC Pv D i,fun σ' H' ⟨zs',l',p',e'⟩=>⟨xs.length - (i + 1),by lia,rfl,hlt,zs',l',p',e'⟩,fun v H' y=>?_⟩
  obtain ⟨T,x,y,rfl,hT,rfl,hxy⟩:=y
  obtain ⟨e1,e2⟩:=hxy xs ys q1 q2
  exact hs i T x y zs σ2 H2 e1 e2 hy pv e hT
 ·have ei:i=xs.length:=by lia
  subst ei
  exact .inl ⟨⟨xs,ys,q1,q2,.inl (Nat.le_refl _)⟩,hd zs σ2 H2 pv e⟩
end
end L2
namespace L2
open PySem PySem.Spec PyProof.Rows PySem.Builtin.Str
section
variable {X:Cx}
end
end L2
namespace L2
open PySem PySem.Spec PyProof.Rows PySem.Builtin.Str
section
variable {prog:Program} {w:World} {A:Around} {E:Value→Shared→Prop} {s:Shared}
end
section
variable {X:Cx} {pos p2:Pos}
end
end L2
namespace L2
open PySem PySem.Spec PyProof.Rows
section
variable {X:Cx}
end
section
variable {prog:Program} {w:World} {A:Around} {E:Value→Shared→Prop} {s:Shared}
end
section
variable {X:Cx} {es:List Expr} {kk:Nat} {tpos:Pos}
end
end L2
namespace HT
open PySem PySem.Spec PyProof.Rows
section
variable {prog:Program} {w:World} {A:Around} {E:Value→Shared→Prop} {s:Shared}
end
end HT
namespace L2
open PySem PySem.Spec PyProof.Rows
variable {X:Cx}
end L2
namespace L2
open PySem PySem.Spec PyProof.Rows
section
variable {O:KeyOrd}
noncomputable def Up (f:Nat→O.α) (n:Nat):Prop:=∀ i j,i≤j→j < n→O.kle (f i) (f j)
noncomputable def Dn (f:Nat→O.α) (n:Nat):Prop:=∀ i j,i≤j→j < n→O.kle (f j) (f i)
theorem Up.one (f:Nat→O.α):Up f 1:=fun i j a b=>by
 have e:i=j:=by lia
 rw [e]; exact KeyOrd.kle_refl _
theorem Dn.one (f:Nat→O.α):Dn f 1:=fun i j a b=>by
 have e:i=j:=by lia
 rw [e]; exact KeyOrd.kle_refl _
theorem Up.snoc {f:Nat→O.α} {n:Nat} (u:Up f n) (h:O.kle (f (n - 1)) (f n)):Up f (n + 1):=fun i j a b=>by
 rcases Nat.lt_or_ge j n with c | c
 ·exact u i j a c
 have ej:j=n:=by lia
 rw [ej]
 rcases Nat.lt_or_ge i n with c2 | c2
 ·exact KeyOrd.kle_trans (u i (n - 1) (by lia) (by lia)) h
 ·have ei:i=n:=by lia
  rw [ei]; exact KeyOrd.kle_refl _
theorem Dn.snoc {f:Nat→O.α} {n:Nat} (u:Dn f n) (h:O.kle (f n) (f (n - 1))):Dn f (n + 1):=fun i j a b=>by
 rcases Nat.lt_or_ge j n with c | c
 ·exact u i j a c
 have ej:j=n:=by lia
 rw [ej]
 rcases Nat.lt_or_ge i n with c2 | c2
 ·exact KeyOrd.kle_trans h (u i (n - 1) (by lia) (by lia))
 ·have ei:i=n:=by lia
  rw [ei]; exact KeyOrd.kle_refl _
theorem Dn.congr {f g:Nat→O.α} {n:Nat} (u:Dn f n) (h:∀ i,g i=f i):Dn g n:=fun i j a b=>by rw [h,h]; exact u i j a b
end
section
variable {O:KeyOrd} (κ:Keyed→O.α) (d:O.α)
noncomputable def fk (xs:Array Keyed) (i:Nat):O.α:=match xs[i]? with
 | some p=>κ p
 | none=>d
theorem fk_eq {xs ys:Array Keyed} {i j:Nat} (h:xs[i]?=ys[j]?):fk κ d xs i=fk κ d ys j:=by unfold fk; rw [h]
theorem fk_turn {xs:Array Keyed} {i j:Nat} (hj:j≤xs.size) (k:Nat):fk κ d (mirror xs i j ((j - i) / 2)) k=if i≤k∧k < j then fk κ d xs (i + j - 1 - k) else fk κ d xs k:=by
 have e:=getElem?_mirror_all (i:=i) hj k
 split at e
 ·rename_i c; rw [if_pos c]; exact fk_eq κ d e
 ·rename_i c; rw [if_neg c]; exact fk_eq κ d e
theorem fk_flat {xs:Array Keyed} {i j:Nat} (hj:j≤xs.size) (h:∀ k,i≤k→k < j→fk κ d xs k=fk κ d xs (j - 1)) (k:Nat):fk κ d (mirror xs i j ((j - i) / 2)) k=fk κ d xs k:=by
 rw [fk_turn κ d hj]
 split
 ·rename_i c
  rw [h _ (by lia) (by lia),← h k c.1 c.2]
 ·rfl
theorem fk_down {xs:Array Keyed} {a b:Nat} (ha:a < xs.size) (hb:b≤a) (k:Nat):fk κ d (bubble xs a b) k=if k=a - b then fk κ d xs a else if a - b < k∧k≤a then fk κ d xs (k - 1) else fk κ d xs k:=by
 have e:=getElem?_bubble ha b hb k
 split at e
 ·rename_i c; rw [if_pos c]; exact fk_eq κ d e
 ·rename_i c
  rw [if_neg c]
  split at e
  ·rename_i c2; rw [if_pos c2]; exact fk_eq κ d e
  ·rename_i c2; rw [if_neg c2]; exact fk_eq κ d e
end
structure Srt (M:Model) (A:Around) (E:Value→Shared→Prop) (s:Shared) {O:KeyOrd} (κ:Keyed→O.α) (d:O.α) (n:Nat) (Bs:SortSt→Prop):Prop where
 lt:∀ {st:SortSt} {i j:Nat} {Q:Option Bool→SortSt→Prop},Bs st→i < n→j < n→Q (some (O.blt (fk κ d (arrOf st) i) (fk κ d (arrOf st) j))) st→wpS M A E s (ltAt' i j) Q st
 put:∀ {st:SortSt} {xs:Array Keyed},Bs st→xs.Perm (arrOf st)→Bs (setArr st xs)
 sz:∀ {st:SortSt},Bs st→(arrOf st).size=n
section
variable {prog:Program} {w:World} {A:Around} {E:Value→Shared→Prop} {s:Shared} {O:KeyOrd} {κ:Keyed→O.α} {d:O.α} {n:Nat} {Bs:SortSt→Prop}
theorem srt_asc (S:Srt (model prog w) A E s κ d n Bs) {st:SortSt} (hb:Bs st) {a m:Nat} (h1:1≤a) (ham:a≤m) (hmn:m≤n) (up:Up (fk κ d (arrOf st)) a) {Q:AscSt→SortSt→Prop}
  (q:∀ k,a≤k→k≤m→Up (fk κ d (arrOf st)) k→(k=m∨O.klt (fk κ d (arrOf st) k) (fk κ d (arrOf st) (k - 1)))→Q (none,k) st):wpS (model prog w) A E s (ascLoop a m) Q st:=by
 unfold ascLoop
 refine wpS_forRange (fun x c st'=>st'=st∧c=(none,x)∧Up (fk κ d (arrOf st)) x) (fun x c st' hx hm hI=>?_) (fun c st' hI=>?_) ⟨rfl,rfl,up⟩
 ·obtain ⟨e1,e2,u⟩:=hI
  subst e1 e2
  refine wpS_bind (S.lt hb (show x < n by lia) (show x - 1 < n by lia) ?_)
  dsimp only
  cases e:O.blt (fk κ d (arrOf st') x) (fk κ d (arrOf st') (x - 1)) with
  | true=>rw [if_pos rfl]; exact wpS_pure (q x hx (by lia) u (.inr e))
  | false=>rw [if_neg Bool.false_ne_true]; exact wpS_pure ⟨rfl,rfl,u.snoc e⟩
 ·obtain ⟨e1,e2,u⟩:=hI
  subst e1 e2
  rw [Nat.max_eq_right ham] at u ⊢
  exact q m ham (Nat.le_refl m) u (.inl rfl)
theorem srt_tail (S:Srt (model prog w) A E s κ d n Bs) {st:SortSt} (hb:Bs st) {a m:Nat} (h1:1≤a) (ham:a≤m) (hmn:m≤n) (dn:Dn (fk κ d (arrOf st)) a) {Q:Option Nat→SortSt→Prop}
  (q:∀ k st',Bs st'→1≤k→k≤m→Up (fk κ d (arrOf st')) k→Q (some k) st'):wpS (model prog w) A E s (tail3 a m) Q st:=by
 have z:a≤(arrOf st).size:=by rw [S.sz hb]; lia
 unfold tail3
 refine wpS_bind (wpS_reverse ?_)
 have hb2:=S.put hb (mirror_perm (arrOf st) 0 a ((a - 0) / 2))
 have u2:Up (fk κ d (mirror (arrOf st) 0 a ((a - 0) / 2))) a:=fun i j c1 c2=>by
  rw [fk_turn κ d z,fk_turn κ d z,if_pos ⟨Nat.zero_le _,by lia⟩,if_pos ⟨Nat.zero_le _,c2⟩]
  exact dn _ _ (by lia) (by lia)
 exact wpS_bind (srt_asc S hb2 h1 ham hmn u2 fun k k1 k2 u _=>wpS_pure (q k _ hb2 (by lia) k2 u))
theorem srt_desc (S:Srt (model prog w) A E s κ d n Bs) {st:SortSt} (hb:Bs st) {a m:Nat} (h1:1≤a) (ham:a≤m) (hmn:m≤n) (dn:Dn (fk κ d (arrOf st)) a) {Q:DescSt→SortSt→Prop}
  (q:∀ k e st',Bs st'→a≤k→k≤m→Dn (fk κ d (arrOf st')) k→e + 1≤k→(∀ i,k - (e + 1)≤i→i < k→fk κ d (arrOf st') i=fk κ d (arrOf st') (k - 1))→Q (none,k,e) st'):wpS (model prog w) A E s (descLoop a m) Q st:=by
 unfold descLoop
 have one:∀ (xs:Array Keyed) (x:Nat),1≤x→∀ i,x - (0 + 1)≤i→i < x→fk κ d xs i=fk κ d xs (x - 1):=fun xs x hx i c1 c2=>by rw [show i=x - 1 by lia]
 refine wpS_forRange (fun x c st'=>∃ e,c=(none,x,e)∧Bs st'∧Dn (fk κ d (arrOf st')) x∧e + 1≤x∧∀ i,x - (e + 1)≤i→i < x→fk κ d (arrOf st') i=fk κ d (arrOf st') (x - 1)) (fun x c st' hx hm hI=>?_) (fun c st' hI=>?_) ⟨0,rfl,hb,dn,h1,one _ a h1⟩
 ·obtain ⟨e,rfl,b,u,le,fl⟩:=hI
  have z:x≤(arrOf st').size:=by rw [S.sz b]; lia
  refine wpS_bind (S.lt b (show x < n by lia) (show x - 1 < n by lia) ?_)
  dsimp only
  cases e1:O.blt (fk κ d (arrOf st') x) (fk κ d (arrOf st') (x - 1)) with
  | true =>
   rw [if_pos rfl]
   have u1:Dn (fk κ d (arrOf st')) (x + 1):=u.snoc (KeyOrd.kle_of_klt e1)
   by_cases c:e > 0
   ·rw [if_pos c]
    exact wpS_bind (wpS_reverse (wpS_pure ⟨0,rfl,S.put b (mirror_perm _ _ _ _),u1.congr (fk_flat κ d z fl),by lia,one _ (x + 1) (by lia)⟩))
   ·rw [if_neg c]
    exact wpS_pure ⟨0,rfl,b,u1,by lia,one _ (x + 1) (by lia)⟩
  | false =>
   rw [if_neg Bool.false_ne_true]
   refine wpS_bind (S.lt b (show x - 1 < n by lia) (show x < n by lia) ?_)
   dsimp only
   cases e2:O.blt (fk κ d (arrOf st') (x - 1)) (fk κ d (arrOf st') x) with
   | true=>rw [if_pos rfl]; exact wpS_pure (q x e st' b hx (by lia) u le fl)
   | false =>
    rw [if_neg Bool.false_ne_true]
    have same:fk κ d (arrOf st') x=fk κ d (arrOf st') (x - 1):=KeyOrd.kle_antisymm e2 e1
    refine wpS_pure ⟨e + 1,rfl,b,u.snoc (by rw [same]; exact KeyOrd.kle_refl _),by lia,fun i c1 c2=>?_⟩
    rw [Nat.add_sub_cancel]
    rcases Nat.lt_or_ge i x with c3 | c3
    ·rw [same]; exact fl i (by lia) c3
    ·rw [show i=x by lia]
 ·obtain ⟨e,rfl,b,u,le,fl⟩:=hI
  rw [Nat.max_eq_right ham] at u le fl ⊢
  exact q m e st' b ham (Nat.le_refl m) u le fl
theorem srt_descPart (S:Srt (model prog w) A E s κ d n Bs) {st:SortSt} (hb:Bs st) {a m:Nat} (ham:a + 1≤m) (hmn:m≤n) (dn:Dn (fk κ d (arrOf st)) (a + 1)) {Q:Option Nat→SortSt→Prop}
  (q:∀ k st',Bs st'→1≤k→k≤m→Up (fk κ d (arrOf st')) k→Q (some k) st'):wpS (model prog w) A E s (descPart a m) Q st:=by
 unfold descPart
 refine wpS_bind (wpS_lift (wpAny_rule ⟨rfl,?_⟩))
 refine wpS_bind (srt_desc S hb (by lia) ham hmn dn fun k e st' b k1 k2 u le fl=>?_)
 have z:k≤(arrOf st').size:=by rw [S.sz b]; lia
 dsimp only
 by_cases c:e > 0
 ·rw [if_pos c]
  exact wpS_bind (wpS_reverse (srt_tail S (S.put b (mirror_perm _ _ _ _)) (by lia) k2 hmn (u.congr (fk_flat κ d z fl)) q))
 ·rw [if_neg c]
  exact srt_tail S b (by lia) k2 hmn u q
theorem srt_count (S:Srt (model prog w) A E s κ d n Bs) {st:SortSt} (hb:Bs st) {m:Nat} (h1:1≤m) (hmn:m≤n) {Q:Option Nat→SortSt→Prop}
  (q:∀ k st',Bs st'→1≤k→k≤m→Up (fk κ d (arrOf st')) k→Q (some k) st'):wpS (model prog w) A E s (countRun' 0 m) Q st:=by
 rw [countRun0_eq]
 refine wpS_bind (srt_asc S hb (Nat.le_refl 1) h1 hmn (Up.one _) fun k k1 k2 u ends=>?_)
 have z:k≤(arrOf st).size:=by rw [S.sz hb]; lia
 dsimp only
 by_cases c:k=m
 ·rw [if_pos (beq_iff_eq.mpr c)]
  exact wpS_pure (q k st hb k1 k2 u)
 rw [if_neg (fun z=>c (beq_iff_eq.mp z))]
 have fall:=ends.resolve_left c
 by_cases c1:k > 1
 ·rw [if_pos c1]
  refine wpS_bind (S.lt hb (show 0 < n by lia) (show k - 1 < n by lia) ?_)
  dsimp only
  cases e:O.blt (fk κ d (arrOf st) 0) (fk κ d (arrOf st) (k - 1)) with
  | true=>rw [if_pos rfl]; exact wpS_pure (q k st hb k1 k2 u)
  | false =>
   rw [if_neg Bool.false_ne_true]
   have flat:∀ i,0≤i→i < k→fk κ d (arrOf st) i=fk κ d (arrOf st) (k - 1):=fun i _ ci =>
    KeyOrd.kle_antisymm (u i (k - 1) (by lia) (by lia)) (KeyOrd.kle_trans e (u 0 i (Nat.zero_le _) ci))
   have dn:Dn (fk κ d (arrOf st)) (k + 1):=by
    refine Dn.snoc (fun i j a b=>?_) (KeyOrd.kle_of_klt fall)
    rw [flat i (Nat.zero_le _) (by lia),flat j (Nat.zero_le _) b]
    exact KeyOrd.kle_refl _
   exact wpS_bind (wpS_reverse (srt_descPart S (S.put hb (mirror_perm _ _ _ _)) (by lia) hmn (dn.congr (fk_flat κ d z flat)) q))
 ·rw [if_neg c1]
  have e1:k=1:=by lia
  subst e1
  exact srt_descPart S hb (by lia) hmn (Dn.snoc (Dn.one _) (KeyOrd.kle_of_klt fall)) q
theorem srt_binary (S:Srt (model prog w) A E s κ d n Bs) {st:SortSt} (hb:Bs st) {a:Nat} (han:a≤n) (up:Up (fk κ d (arrOf st)) a) {Q:Bool→SortSt→Prop}
  (q:∀ st',Bs st'→Up (fk κ d (arrOf st')) n→Q true st'):wpS (model prog w) A E s (binarySort' 0 n a) Q st:=by
 rw [binarySort'_eq]
 simp only [Nat.zero_add]
 refine wpS_bind (wpS_mono (wpS_forRange (fun x c st'=>c=(none,())∧Bs st'∧Up (fk κ d (arrOf st')) (min x n)) (Q:=fun c st'=>c=(none,())∧Bs st'∧Up (fk κ d (arrOf st')) n) (fun x c st' hx hxn hI=>?_) (fun c st' hI=>?_) ⟨rfl,hb,?_⟩) ?_)
 ·obtain ⟨rfl,b,u⟩:=hI
  rw [Nat.min_eq_left (by lia)] at u
  refine wpS_bind (wpS_mono (wpS_forRange (fun y c st2=>st2=st'∧∃ l r,c=(none,l,r)∧l≤r∧r≤x∧r - l≤x - y∧(∀ i,i < l→O.kle (fk κ d (arrOf st') i) (fk κ d (arrOf st') x))∧∀ i,r≤i→i < x→O.klt (fk κ d (arrOf st') x) (fk κ d (arrOf st') i))
   (Q:=fun c st2=>st2=st'∧∃ l r,c=(none,l,r)∧l≤x∧(∀ i,i < l→O.kle (fk κ d (arrOf st') i) (fk κ d (arrOf st') x))∧∀ i,l≤i→i < x→O.klt (fk κ d (arrOf st') x) (fk κ d (arrOf st') i))
   (fun y c st2 _ hy hJ=>?_) (fun c st2 hJ=>?_) ⟨rfl,0,x,rfl,Nat.zero_le _,Nat.le_refl _,Nat.le_refl _,(fun i hi=>absurd hi (Nat.not_lt_zero i)),fun i c1 c2=>absurd c2 (Nat.not_lt.mpr c1)⟩) ?_)
  ·obtain ⟨rfl,l,r,rfl,lr,rx,dist,lo,hi⟩:=hJ
   dsimp only
   by_cases c:l ≥ r
   ·rw [if_pos c]
    exact wpS_pure ⟨rfl,l,r,rfl,by lia,lo,fun i c1 c2=>hi i (by lia) c2⟩
   rw [if_neg c]
   refine wpS_bind (S.lt b (show x < n by lia) (show (l + r) / 2 < n by lia) ?_)
   dsimp only
   cases e:O.blt (fk κ d (arrOf st2) x) (fk κ d (arrOf st2) ((l + r) / 2)) with
   | true =>
    rw [if_pos rfl]
    exact wpS_pure ⟨rfl,l,(l + r) / 2,rfl,by lia,by lia,by lia,lo,fun i c1 c2=>KeyOrd.klt_of_klt_of_kle e (u _ _ c1 c2)⟩
   | false =>
    rw [if_neg Bool.false_ne_true]
    exact wpS_pure ⟨rfl,(l + r) / 2 + 1,r,rfl,by lia,rx,by lia,fun i ci=>KeyOrd.kle_trans (u i ((l + r) / 2) (by lia) (by lia)) e,hi⟩
  ·obtain ⟨rfl,l,r,rfl,lr,rx,dist,lo,hi⟩:=hJ
   exact ⟨rfl,l,r,rfl,by lia,lo,fun i c1 c2=>hi i (by lia) c2⟩
  ·rintro c st2 ⟨rfl,l,r,rfl,lx,lo,hi⟩
   have z:x < (arrOf st2).size:=by rw [S.sz b]; exact hxn
   show wpS _ _ _ _ (moveDown' x l >>= fun _=>pure (ForInStep.yield (none,()))) _ _
   rw [moveDown'_eq]
   refine wpS_bind (wpS_modify (wpS_pure ⟨rfl,S.put b (bubble_perm _ _ _),?_⟩))
   rw [Nat.min_eq_left (by lia)]
   intro i j c1 c2
   show O.kle (fk κ d (bubble (arrOf st2) x (x - l)) i) (fk κ d (bubble (arrOf st2) x (x - l)) j)
   rw [fk_down κ d z (Nat.sub_le _ _),fk_down κ d z (Nat.sub_le _ _),show x - (x - l)=l by lia]
   by_cases a1:i=l
   ·rw [if_pos a1]
    by_cases a2:j=l
    ·rw [if_pos a2]; exact KeyOrd.kle_refl _
    ·rw [if_neg a2,if_pos ⟨by lia,by lia⟩]; exact KeyOrd.kle_of_klt (hi _ (by lia) (by lia))
   ·rw [if_neg a1]
    by_cases a3:l < i∧i≤x
    ·rw [if_pos a3,if_neg (by lia),if_pos ⟨by lia,by lia⟩]
     exact u _ _ (by lia) (by lia)
    ·rw [if_neg a3]
     by_cases a2:j=l
     ·rw [if_pos a2]; exact lo i (by lia)
     ·rw [if_neg a2]
      by_cases a4:l < j∧j≤x
      ·rw [if_pos a4]; exact u _ _ (by lia) (by lia)
      ·rw [if_neg a4]; exact u _ _ c1 (by lia)
 ·obtain ⟨rfl,b,u⟩:=hI
  rw [show min (max (max a 1) n) n=n by lia] at u
  exact ⟨rfl,b,u⟩
 ·intro i j c1 c2
  rcases Nat.lt_or_ge j a with c | c
  ·exact up i j c1 c
  ·have e:i=j:=by lia
   rw [e]; exact KeyOrd.kle_refl _
 ·rintro c st' ⟨rfl,b,u⟩
  exact wpS_pure (q st' b u)
end
end L2
namespace L2
open PySem PySem.Spec PyProof.Rows
structure TB (kd:SortKind) (a0:Array Keyed) (st:SortSt):Prop where
 kind:kindOf st=kd
 perm:(arrOf st).Perm a0
 pend:pendingOf st=#[]
 fail:failedOf st=none
section
variable {prog:Program} {w:World} {A:Around} {E:Value→Shared→Prop} {s:Shared} {O:KeyOrd} {κ:Keyed→O.α} {d:O.α} {kd:SortKind} {a0:Array Keyed}
theorem srt_runs (S:Srt (model prog w) A E s κ d a0.size (TB kd a0)) (h2:2≤a0.size) (h64:a0.size < 64) {st:SortSt} (hb:TB kd a0 st) {Q:Unit→SortSt→Prop}
  (q:∀ st',(arrOf st').Perm a0→failedOf st'=none→Up (fk κ d (arrOf st')) a0.size→Q () st'):wpS (model prog w) A E s sortRuns' Q st:=by
 have zst:=S.sz hb
 have mr:minRun' a0.size a0.size 0=a0.size:=by
  cases e:a0.size with
  | zero=>lia
  | succ k =>
   rw [minRun'_succ,if_pos (by lia)]
 rw [sortRuns'_eq]
 refine wpS_bind (wpS_get ?_)
 dsimp only
 rw [zst,mr]
 have laid:∀ st':SortSt,TB kd a0 st'→Up (fk κ d (arrOf st')) a0.size→(arrOf (setPending st' ((pendingOf st').push (0,a0.size,0)))).Perm a0∧failedOf (setPending st' ((pendingOf st').push (0,a0.size,0)))=none∧pendingOf (setPending st' ((pendingOf st').push (0,a0.size,0)))=#[(0,a0.size,0)]∧Up (fk κ d (arrOf (setPending st' ((pendingOf st').push (0,a0.size,0))))) a0.size:=fun st' b u =>
  ⟨b.perm,b.fail,(by show (pendingOf st').push (0,a0.size,0)=_; rw [b.pend]; rfl),u⟩
 refine wpS_bind (wpS_mono (wpS_forRange (fun x c st'=>(x=0∧c=(none,0)∧TB kd a0 st')∨(c=(none,a0.size)∧(arrOf st').Perm a0∧failedOf st'=none∧pendingOf st'=#[(0,a0.size,0)]∧Up (fk κ d (arrOf st')) a0.size))
  (Q:=fun c st'=>c=(none,a0.size)∧(arrOf st').Perm a0∧failedOf st'=none∧pendingOf st'=#[(0,a0.size,0)]∧Up (fk κ d (arrOf st')) a0.size) (fun x c st' _ hx hI=>?_) (fun c st' hI=>?_) (.inl ⟨rfl,rfl,hb⟩)) ?_)
 ·rcases hI with ⟨rfl,rfl,b⟩ | ⟨rfl,r⟩
  ·dsimp only
   rw [if_neg (by lia)]
   simp only [Nat.sub_zero,Nat.min_self,Nat.zero_add]
   refine wpS_bind (srt_count S b (by lia) (Nat.le_refl _) fun k st2 b2 k1 k2 u=>?_)
   dsimp only
   by_cases c:k < a0.size
   ·rw [if_pos c]
    refine wpS_bind (wpS_lift (wpAny_rule ⟨rfl,?_⟩))
    refine wpS_bind (srt_binary S b2 k2 u fun st3 b3 u3=>?_)
    simp only [Bool.not_true,Bool.false_eq_true,if_false]
    refine wpS_bind (wpS_get ?_)
    rw [show (pendingOf st3).back?=none by rw [b3.pend]; rfl]
    dsimp only
    exact wpS_bind (wpS_modify (wpS_pure (.inr ⟨rfl,laid st3 b3 u3⟩)))
   ·rw [if_neg c]
    have ek:k=a0.size:=by lia
    subst ek
    refine wpS_bind (wpS_get ?_)
    rw [show (pendingOf st2).back?=none by rw [b2.pend]; rfl]
    dsimp only
    exact wpS_bind (wpS_modify (wpS_pure (.inr ⟨rfl,laid st2 b2 u⟩)))
  ·dsimp only
   rw [if_pos (Nat.le_refl _)]
   exact wpS_pure ⟨rfl,r⟩
 ·rcases hI with ⟨h,_⟩ | h
  ·exact absurd h (by lia)
  ·exact h
 ·rintro c st' ⟨rfl,r1,r2,r3,r4⟩
  dsimp only
  refine wpS_bind (wpS_mono (wpS_forRange (fun _ c st2=>st2=st'∧c=(none,())) (Q:=fun c st2=>st2=st'∧c=(none,())) (fun x c st2 _ _ hJ=>?_) (fun c st2 hJ=>hJ) ⟨rfl,rfl⟩) ?_)
  ·obtain ⟨rfl,rfl⟩:=hJ
   refine wpS_bind (wpS_get ?_)
   rw [if_pos (by rw [r3]; exact Nat.le_refl 1)]
   exact wpS_pure ⟨rfl,rfl⟩
  ·rintro c st2 ⟨rfl,rfl⟩
   exact wpS_pure (q _ r1 r2 r4)
end
noncomputable def lx:List Int→List Int→Bool
 | [],[]=>false
 | [],_ :: _=>true
 | _ :: _,[]=>false
 | a :: x,b :: y=>if a=b then lx x y else decide (a < b)
theorem lx_cons (a b:Int) (x y:List Int):lx (a :: x) (b :: y)=if a=b then lx x y else decide (a < b):=by rw [lx]
theorem lx_irrefl:∀ x,lx x x=false
 | []=>rfl
 | a :: x=>by rw [lx_cons,if_pos rfl]; exact lx_irrefl x
theorem lx_total:∀ x y,lx x y=false→lx y x=false→x=y
 | [],[],_,_=>rfl
 | [],_ :: _,h,_=>by cases h
 | _ :: _,[],_,h=>by cases h
 | a :: x,b :: y,h1,h2=>by
  rw [lx_cons] at h1 h2
  by_cases e:a=b
  ·subst e
   rw [if_pos rfl] at h1 h2
   rw [lx_total x y h1 h2]
  ·rw [if_neg e] at h1
   rw [if_neg (Ne.symm e)] at h2
   have:=of_decide_eq_false h1
   have:=of_decide_eq_false h2
   lia
theorem lx_trans:∀ x y z,lx x y=true→lx y z=true→lx x z=true
 | [],[],_,h,_=>by cases h
 | [],_ :: _,[],_,h=>by cases h
 | [],_ :: _,_ :: _,_,_=>rfl
 | _ :: _,[],_,h,_=>by cases h
 | _ :: _,_ :: _,[],_,h=>by cases h
 | a :: x,b :: y,c :: z,h1,h2=>by
  rw [lx_cons] at h1 h2 ⊢
  by_cases e1:a=b
  ·subst e1
   rw [if_pos rfl] at h1
   by_cases e2:a=c
   ·subst e2
    rw [if_pos rfl] at h2 ⊢
    exact lx_trans x y z h1 h2
   ·rw [if_neg e2] at h2 ⊢; exact h2
  ·rw [if_neg e1] at h1
   have k1:=of_decide_eq_true h1
   by_cases e2:b=c
   ·subst e2
    rw [if_neg e1]; exact h1
   ·rw [if_neg e2] at h2
    have k2:=of_decide_eq_true h2
    rw [if_neg (by lia)]
    exact decide_eq_true (by lia)
theorem lx_neg:∀ x y z,lx x z=true→lx x y=true∨lx y z=true
 | [],[],_,h=>.inr h
 | [],_ :: _,_,_=>.inl rfl
 | _ :: _,_,[],h=>by cases h
 | _ :: _,[],_ :: _,_=>.inr rfl
 | a :: x,b :: y,c :: z,h=>by
  rw [lx_cons] at h ⊢
  rw [lx_cons]
  by_cases e1:a=b
  ·subst e1
   rw [if_pos rfl]
   by_cases e2:a=c
   ·subst e2
    rw [if_pos rfl] at h ⊢
    exact lx_neg x y z h
   ·rw [if_neg e2] at h ⊢; exact .inr h
  ·rw [if_neg e1]
   by_cases e2:b=c
   ·subst e2
    rw [if_neg e1] at h; exact .inl h
   ·rw [if_neg e2]
    by_cases e3:a < b
    ·exact .inl (decide_eq_true e3)
    ·refine .inr (decide_eq_true ?_)
     by_cases e4:a=c
     ·subst e4; lia
     ·rw [if_neg e4] at h
      have:=of_decide_eq_true h
      lia
noncomputable def lxO:KeyOrd:=⟨List Int,lx,lx_irrefl,lx_trans,fun a b c h=>lx_neg a b c h,lx_total⟩
noncomputable abbrev tupKind (b:Bool):SortKind:=(sortPriv% PySem.Builtin.KeyKind.tuples) b
noncomputable def TupI (h:Heap) (v:Value) (ns:List Int):Prop:=∃ (a:Addr) (us:List Value),v=.ref a∧h.IsTuple a us.toArray∧IntsAre us ns
theorem keyLt_tup (b:Bool) (x y:Value):keyLt' (tupKind b) x y=(do
  let xs ← Builtin.List.listItems x
  let ys ← Builtin.List.listItems y
  for ((p,q),i) in (xs.toList.zip ys.toList).zipIdx do
   if !(← eqBool p q) then return ← oneLt' (b && i == 0) p q
  return xs.size < ys.size):=rfl
section
variable {prog:Program} {w:World} {A:Around} {E:Value→Shared→Prop} {s:Shared}
theorem one_int (b:Bool) {m n:Int} {t u:Tok} {Q:Bool→Shared→Prop} (h:Q (decide (m < n)) s):wpAny (model prog w) A (oneLt' b (.int m t) (.int n u)) Q E s:=by
 cases b with
 | true=>exact oneLt_int h
 | false =>
  rw [oneLt'_eq]
  simp only [Bool.false_eq_true,if_false]
  exact wpAny_bind (HT.rcLt_int A s m t n u prog w E _ (wpAny_truthy_bool h))
noncomputable def lexO:List Int→List Int→Option Bool
 | a :: x,b :: y=>if a=b then lexO x y else some (decide (a < b))
 | _,_=>none
theorem lexO_cons (a b:Int) (x y:List Int):lexO (a :: x) (b :: y)=if a=b then lexO x y else some (decide (a < b)):=by rw [lexO]
theorem lx_lexO:∀ x y,lx x y=(lexO x y).getD (decide (x.length < y.length))
 | [],[]=>rfl
 | [],b :: y=>by
  have e:lexO [] (b :: y)=none:=by unfold lexO; rfl
  rw [e]
  exact (decide_eq_true (Nat.succ_pos y.length)).symm
 | _ :: _,[]=>rfl
 | a :: x,b :: y=>by
  rw [lx_cons,lexO_cons]
  by_cases e:a=b
  ·rw [if_pos e,if_pos e,lx_lexO x y,List.length_cons,List.length_cons]
   simp
  ·rw [if_neg e,if_neg e]; rfl
theorem lex_loop (b:Bool):∀ (us vs:List Value) (ns ms:List Int) (k:Nat) {Q:Option Bool×Unit→Shared→Prop},IntsAre us ns→IntsAre vs ms→Q (lexO ns ms,()) s →
  wpAny (model prog w) A (forIn ((us.zip vs).zipIdx k) ((none,()):Option Bool×Unit) fun x __s=>match x with
     | ((p,q),i)=>do
      let __do_lift ← eqBool p q
      if (!__do_lift)=true then do
        let __do_lift ← oneLt' (b && i == 0) p q
        pure (ForInStep.done (some __do_lift,()))
       else pure (ForInStep.yield (none,()))) Q E s
 | _,_,_,_,k,Q,.nil,_,h=>by
  rw [List.zip_nil_left,List.zipIdx_nil]
  exact wpAny_pure (by cases ‹IntsAre _ _› <;> exact h)
 | _,_,_,_,k,Q,.cons m t r,.nil,h=>by
  rw [List.zip_nil_right,List.zipIdx_nil]
  exact wpAny_pure h
 | _,_,_,_,k,Q,.cons m t (vs:=us) (ns:=ns) r,.cons n u (vs:=vs) (ns:=ms) r2,h=>by
  rw [List.zip_cons_cons,List.zipIdx_cons,List.forIn_cons]
  rw [lexO_cons] at h
  refine wpAny_bind (wpAny_bind (wpAny_eqBool_int ?_))
  by_cases e:m=n
  ·rw [if_pos e] at h
   rw [show (m == n)=true from beq_iff_eq.mpr e]
   exact wpAny_pure (lex_loop b us vs ns ms (k + 1) r r2 h)
  ·rw [if_neg e] at h
   rw [show (m == n)=false from beq_false_of_ne e]
   exact wpAny_bind (one_int _ (wpAny_pure (wpAny_pure h)))
theorem ints_len:∀ {us:List Value} {ns:List Int},IntsAre us ns→us.length=ns.length
 | _,_,.nil=>rfl
 | _,_,.cons _ _ r=>by rw [List.length_cons,List.length_cons,ints_len r]
theorem lt_tup (b:Bool) {x y:Value} {ns ms:List Int} {Q:Bool→Shared→Prop} (hx:TupI s.heap x ns) (hy:TupI s.heap y ms) (h:Q (lx ns ms) s):wpAny (model prog w) A (keyLt' (tupKind b) x y) Q E s:=by
 obtain ⟨a,us,rfl,⟨oa,ha,_,na,da⟩,iu⟩:=hx
 obtain ⟨c,vs,rfl,⟨oc,hc,_,nc,dc⟩,iv⟩:=hy
 have l1:=ints_len iu
 have l2:=ints_len iv
 rw [keyLt_tup]
 refine wpAny_bind (listItems_at ha da (wpAny_bind (listItems_at hc dc (wpAny_bind (lex_loop b us vs ns ms 0 iu iv ?_)))))
 rw [lx_lexO] at h
 cases e:lexO ns ms with
 | some r=>rw [e] at h; exact wpAny_pure h
 | none =>
  rw [e] at h
  refine wpAny_pure ?_
  rw [List.size_toArray,List.size_toArray,l1,l2]
  exact h
end
end L2
namespace L2
open PySem PySem.Spec PyProof.Rows
section
variable {prog:Program} {w:World} {A:Around} {E:Value→Shared→Prop} {s:Shared}
theorem collect_tup {l:Addr} {us:List Value} {Q:List Value→Shared→Prop} (hl:s.heap.IsTuple l us.toArray) (hz:us.length≤sizeLine)
  (q:∀ g,(∀ b o,s.heap.get? b=some o→g.get? b=some o)→g.objs.size=s.heap.objs.size + 1→Q us { s with heap:=g }):wpAny (model prog w) A (collect (.ref l)) Q E s:=by
 obtain ⟨o,ho,hc,n,hd⟩:=id hl
 have new:(s.heap.push (seqObj "list" #[] 0)).get? s.heap.objs.size=some (seqObj "list" #[] 0):=Heap.get?_push_size _ rfl
 have old:(s.heap.push (seqObj "list" #[] 0)).get? l=some o:=Heap.get?_push_of_some _ ho
 unfold collect
 refine wpAny_bind (wpAny_runValue (codeAny_builtin entry_proto_collect' ?_))
 refine wpAny_bind (m:=newList []) (wpAny_newList (wpAny_pure ⟨Code.quiet_builtin _ (by decide +kernel),codeAny_builtin entry_list_iadd' ?_⟩))
 show wpAny _ _ (Builtin.List.listExtendWith (.ref s.heap.objs.size) (.ref l) (.ref s.heap.objs.size)) _ _ _
 unfold Builtin.List.listExtendWith
 refine wpAny_bind (wpAny_typeOf (T:="tuple") ⟨o,old,hc⟩ ?_)
 rw [if_pos (by rw [show (Value.type "tuple" == Value.type "tuple")=true from rfl]; simp)]
 refine wpAny_bind (listItems_at old hd (wpAny_bind (listItems_at new rfl ?_)))
 rw [if_neg (by simp)]
 refine wpAny_bind (listUpdate_at new rfl ?_ (Nat.zero_le _) (by show (#[]++us.toArray).size≤_; rw [Array.size_append]; show 0 + us.toArray.size≤_; rw [List.size_toArray]; lia))
 refine wpAny_pure ?_
 show wpAny (model prog w) A (load s.heap.objs.size >>= fun o=>match o.data with
   | .seq xs _=>pure xs.toList
   | _=>unsupported "internal:collect") Q E { s with heap:=(s.heap.push (seqObj "list" #[] 0)).update s.heap.objs.size (Obj.mapSeq (·++us.toArray)) }
 refine wpAny_bind (wpAny_load (get?_update_seq new _) ?_)
 show wpAny _ _ (pure ((#[]:Array Value)++us.toArray).toList) Q E _
 rw [show ((#[]:Array Value)++us.toArray).toList=us by simp]
 refine wpAny_pure (q _ (fun b o' e=>?_) (by rw [Heap.size_update,Heap.size_push]))
 have ne:b≠s.heap.objs.size:=Nat.ne_of_lt (Heap.lt_size e)
 exact (Heap.get?_update_other _ _ (Ne.symm ne)).trans (Heap.get?_push_of_some _ e)
theorem mapM_wp {α β:Type} {f:α→Sem β} {r:α→β}:∀ (l:List α),(∀ x∈l,∀ {Q:β→Shared→Prop},Q (r x) s→wpAny (model prog w) A (f x) Q E s)→∀ {Q:List β→Shared→Prop},Q (l.map r) s→wpAny (model prog w) A (l.mapM f) Q E s
 | [],_,Q,h=>by rw [List.mapM_nil]; exact wpAny_pure h
 | x :: t,hf,Q,h=>by
  rw [List.mapM_cons]
  exact wpAny_bind (hf x (List.mem_cons_self ..) (wpAny_bind (mapM_wp t (fun y hy=>hf y (List.mem_cons_of_mem _ hy)) (wpAny_pure h))))
theorem kind_tup {ks:List Value} {f:Value→List Int} (hk:∀ v∈ks,TupI s.heap v (f v)∧f v≠[]) {Q:SortKind→Shared→Prop} (q:∀ b,Q (tupKind b) s):wpAny (model prog w) A (keyKind' ks.toArray) Q E s:=by
  have hf:∀ v∈ks,∃ m t,∀ {Q:Option Value→Shared→Prop},Q (some (.int m t)) s→wpAny (model prog w) A (firstOfTuple' v) Q E s:=fun v hv=>by
    obtain ⟨ht,ne⟩:=hk v hv
    cases e:f v with
    | nil=>exact absurd e ne
    | cons m r =>
      rw [e] at ht
      obtain ⟨a,us,rfl,hT,iu⟩:=ht
      cases iu with
      | cons m t r2 =>
        refine ⟨m,t,fun {Q} h=>?_⟩
        obtain ⟨o,ho,hc,n,hd⟩:=hT
        show wpAny _ _ (do if (← typeOf (.ref a)) != .type "tuple" then return none
                           return (← Builtin.List.listItems (.ref a))[0]?) _ _ s
        refine wpAny_bind (wpAny_typeOf (T:="tuple") ⟨o,ho,hc⟩ ?_)
        rw [if_neg (by decide)]
        exact wpAny_bind (listItems_at ho hd (wpAny_pure h))
  obtain ⟨g,hg⟩:∃ g:Value→Int×Tok,∀ v∈ks,∀ {Q:Option Value→Shared→Prop},Q (some (.int (g v).1 (g v).2)) s→wpAny (model prog w) A (firstOfTuple' v) Q E s:=by
    classical
    refine ⟨fun v=>if h:v∈ks then ((hf v h).choose,(hf v h).choose_spec.choose) else (0,0),fun v hv Q h=>?_⟩
    dsimp only at h
    rw [dif_pos hv] at h
    exact (hf v hv).choose_spec.choose_spec h
  rw [keyKind'_eq,List.mapM_toArray]
  rw [map_eq_pure_bind,bind_assoc]
  refine wpAny_bind (mapM_wp (r:=fun v=>some (.int (g v).1 (g v).2)) ks hg ?_)
  rw [pure_bind]
  rw [if_pos (by simp)]
  refine wpAny_bind (wpAny_rule ?_)
  have iz:∃ ns,IntsAre (ks.map fun v=>Value.int (g v).1 (g v).2) ns:=by
    clear hk hf hg q
    induction ks with
    | nil=>exact ⟨[],.nil⟩
    | cons v r ih =>
      obtain ⟨ns,h⟩:=ih
      exact ⟨_,.cons _ _ h⟩
  obtain ⟨ns,iz⟩:=iz
  have ef:(ks.map fun v=>some (Value.int (g v).1 (g v).2)).toArray.filterMap id=(ks.map fun v=>Value.int (g v).1 (g v).2).toArray:=by
    apply Array.toList_inj.mp
    rw [Array.toList_filterMap]
    show List.filterMap id (ks.map fun v=>some (Value.int (g v).1 (g v).2))=ks.map fun v=>Value.int (g v).1 (g v).2
    rw [List.filterMap_map]
    show List.filterMap (fun v=>some (Value.int (g v).1 (g v).2)) ks=_
    rw [List.filterMap_eq_map']
  rw [ef,oneTypeOnly'_eq,List.mapM_toArray,mapM_typeOf_ints iz,map_pure,pure_bind]
  cases hts:(List.map (fun x=>Value.type "int") (List.map (fun v=>Value.int (g v).fst (g v).snd) ks)).toArray[0]? with
  | none=>exact wpAny_bind (wpAny_pure (wpAny_pure (q _)))
  | some t=>exact wpAny_bind (wpAny_pure (wpAny_pure (q _)))
end
end L2
namespace L2
open PySem PySem.Spec PyProof.Rows
end L2
namespace L2
open PySem PySem.Spec PyProof.Rows
section
variable {X:Cx} {k:Nat} {f:Addr} {fd:FuncData} {ps:List Str} {sp:Sp}
end
section
variable {prog:Program} {w:World} {A:Around} {E:Value→Shared→Prop} {s:Shared}
open Classical in
noncomputable def keyAt (h:Heap) (v:Value):List Int:=if c:∃ ns,TupI h v ns then c.choose else []
theorem ints_one {us:List Value} {ns ms:List Int} (a:IntsAre us ns) (b:IntsAre us ms):ns=ms:=by
 induction a generalizing ms with
 | nil=>cases b; rfl
 | cons n t r ih=>cases b with | cons _ _ r2=>rw [ih r2]
theorem TupI.one {h:Heap} {v:Value} {ns ms:List Int} (a:TupI h v ns) (b:TupI h v ms):ns=ms:=by
 obtain ⟨p,us,rfl,⟨o,ho,_,n,hd⟩,iu⟩:=a
 obtain ⟨p2,vs,e,⟨o2,ho2,_,n2,hd2⟩,iv⟩:=b
 cases e
 rw [ho] at ho2
 cases ho2
 rw [hd] at hd2
 have e2:us.toArray=vs.toArray:=by injection hd2
 have e3:us=vs:=by simpa using e2
 subst e3
 exact ints_one iu iv
theorem keyAt_eq {h:Heap} {v:Value} {ns:List Int} (a:TupI h v ns):keyAt h v=ns:=by
 have c:∃ ns,TupI h v ns:=⟨ns,a⟩
 unfold keyAt
 rw [dif_pos c]
 exact c.choose_spec.one a
theorem srt_tup (b:Bool) {a0:Array Keyed} (hk:∀ p∈a0.toList,∃ ns,TupI s.heap p.1 ns):Srt (O:=lxO) (model prog w) A E s (fun p=>keyAt s.heap p.1) ([]:List Int) a0.size (TB (tupKind b) a0) where
 lt:=fun {st i j Q} hb hi hj q=>by
  have z:(arrOf st).size=a0.size:=hb.perm.size_eq
  have gi:(arrOf st)[i]?=some (arrOf st)[i]:=getElem?_pos _ i (by lia)
  have gj:(arrOf st)[j]?=some (arrOf st)[j]:=getElem?_pos _ j (by lia)
  have inn:∀ p,p∈(arrOf st).toList→∃ ns,TupI s.heap p.1 ns:=fun p hp=>hk p ((Array.perm_iff_toList_perm.mp hb.perm).mem_iff.mp hp)
  obtain ⟨ni,ti⟩:=inn (arrOf st)[i] (by simp)
  obtain ⟨nj,tj⟩:=inn (arrOf st)[j] (by simp)
  have q2:Q (some (lx ni nj)) st:=by
   have e1:fk (O:=lxO) (fun p=>keyAt s.heap p.1) ([]:List Int) (arrOf st) i=ni:=by unfold fk; rw [gi]; exact keyAt_eq ti
   have e2:fk (O:=lxO) (fun p=>keyAt s.heap p.1) ([]:List Int) (arrOf st) j=nj:=by unfold fk; rw [gj]; exact keyAt_eq tj
   rw [e1,e2] at q
   exact q
  rw [ltAt'_eq]
  refine wpS_bind (wpS_get ?_)
  show wpS _ _ _ _ (elem' (arrOf st) i >>= fun x=>elem' (arrOf st) j >>= fun y=>lt' x y) Q st
  rw [elem'_eq,elem'_eq,gi,gj]
  refine wpS_bind (wpS_pure (wpS_bind (wpS_pure ?_)))
  rw [lt'_eq]
  refine wpS_bind (wpS_get ?_)
  rw [hb.kind]
  exact wpS_bind (wpS_lift (wpAny_attempt (lt_tup b ti tj ⟨rfl,wpS_pure q2⟩)))
 put:=fun {st xs} hb hp=>⟨hb.kind,hp.trans hb.perm,hb.pend,hb.fail⟩
 sz:=fun {st} hb=>hb.perm.size_eq
end
end L2
namespace L2
open PySem PySem.Spec PyProof.Rows
section
variable {X:Cx} {k:Nat} {f:Addr} {fd:FuncData} {ps:List Str} {sp:Sp}
end
end L2
namespace L2
open PySem PySem.Spec PyProof.Rows
theorem bt_sorted:bootBuiltins "sorted"=some (.builtin "sorted"):=by decide +kernel
section
variable {X:Cx} {k:Nat} {f:Addr} {fd:FuncData} {ps:List Str} {sp:Sp}
end
end L2
namespace L2
open PySem PySem.Spec PyProof.Rows
noncomputable def XAt (h:Heap) (e:Addr) (cls:Value) (dx:Option Addr) (tb:Value):Prop:=∃ oe vs,h.get? e=some oe∧oe.cls=cls∧oe.dict=dx∧oe.data=.fields vs∧vs[1]?=some tb
noncomputable def TbAt (h:Heap) (T:Addr) (fl:Value):Prop:=∃ oT ts,h.get? T=some oT∧oT.data=.fields ts∧ts[3]?=some fl
section
variable {M:Model} {A:Around} {E:Value→Shared→Prop} {s:Shared}
theorem frame_not_rec {h base:Heap} {l:List Env} (hl:h.FunFrames base l) {b:Addr} (hb:b∈frs l) {o:Obj} (ho:h.get? b=some o) (vs:Array Value):o.data≠.fields vs:=by
 obtain ⟨_,o2,h2,hn⟩:=hl.mem hb
 rw [ho] at h2
 cases h2
 exact hn vs
theorem entry_new {base:Heap} {env:Env} {outer:List Env} {L e:Addr} {oe:Obj} {vs:Array Value} {hd:Value} {hn:Bool} {Q:Unit→Shared→Prop} (hfr:A.frames=some (env :: outer)) (hl:s.heap.FunFrames base (env :: outer)) (hf:env.frame=some L)
  (he:s.heap.get? e=some oe) (hdat:oe.data=.fields vs) (hsz:1 < vs.size)
  (h:∀ h' T,(∀ b o,s.heap.get? b=some o→b ∉ frs (env :: outer)→b≠e→h'.get? b=some o)→(∀ b o,s.heap.get? b=some o→b≠e→∃ sl,h'.get? b=some { o with slots:=sl })→s.heap.objs.size≤T→T≠e→XAt h' e oe.cls oe.dict (.ref T)→TbAt h' T (rawInt L) →
   Q () { s with heap:=h' }) :
  wpAny M A (frameOf env >>= fun a=>entryPlaceOf L hn >>= fun pl=>EntryCells.newEntry hd a .none (rawInt L) .none pl >>= fun b=>setField (.ref e) 1 b) Q E s:=by
 have ne:e ∉ frs (env :: outer):=fun z=>frame_not_rec hl z he vs hdat
 refine wpAny_bind (wpAny_frameOf_fun hfr hl hf fun h1 so=>wpAny_bind (wpAny_entryPlaceOf fun pl isP=>?_))
 unfold EntryCells.newEntry newFields
 refine wpAny_bind (wpAny_newObj_type ?_ (isP.sizeOk5 _ _ _ _ _))
 generalize hts:([hd,.ref L,.none,rawInt L,.none]++(if pl.isEmpty then List.replicate 6 Value.none else pl)).toArray=ts
 have h3:ts[3]?=some (rawInt L):=by rw [← hts]; simp
 have ge:h1.get? e=some oe:=(so.2.1 e ne).trans he
 have lt:e < h1.objs.size:=Heap.lt_size ge
 refine wpAny_setField (Heap.get?_push_of_some _ ge) hdat hsz ?_
 refine h _ h1.objs.size (fun b o hb nb nbe=>?_) (fun b o hb nbe=>?_) (Nat.le_of_eq so.1.symm) (Nat.ne_of_gt lt) ?_ ?_
 ·rw [Heap.get?_update_other _ _ (Ne.symm nbe)]
  exact Heap.get?_push_of_some _ ((so.2.1 b nb).trans hb)
 ·obtain ⟨sl,q⟩:=so.2.2 b o hb
  exact ⟨sl,by rw [Heap.get?_update_other _ _ (Ne.symm nbe)]; exact Heap.get?_push_of_some _ q⟩
 ·have dm:=Obj.data_mapFields hdat (·.setIfInBounds 1 (Value.ref h1.objs.size))
  refine ⟨_,_,Heap.get?_update_self _ (Heap.get?_push_of_some _ ge) (Obj.isFreed_of_fields dm),Obj.cls_mapFields _ _,?_,dm,by simp [hsz]⟩
  obtain ⟨c,d,dt,sl⟩:=oe
  cases dt <;> first | rfl | cases hdat
 ·exact ⟨_,ts,by rw [Heap.get?_update_other _ _ (Nat.ne_of_lt lt)]; exact Heap.get?_push_size _ rfl,rfl,h3⟩
end
structure Chg (fs ch:List Addr) (h h':Heap):Prop where
 keep:∀ b o,h.get? b=some o→b ∉ fs→b ∉ ch→h'.get? b=some o
 slot:∀ b o,h.get? b=some o→b ∉ ch→∃ sl,h'.get? b=some { o with slots:=sl }
structure Own (X:Cx) (H:Hp) (b:Addr):Prop where
 free:H b=none
 new:X.s₀.heap.objs.size≤b
 loc:b≠X.env.locals
 cel:∀ x c,X.env.cells.lookup x=some c→c≠b
 pin:∀ p∈X.pn,p.1≠b
section
variable {X:Cx} {σ:St} {H:Hp} {s:Shared}
theorem Inv.chg {ch:List Addr} {h':Heap} (I:Inv X [] σ H s) (c:Chg (frs X.stack) ch s.heap h') (hc:∀ b∈ch,Own X H b):Inv X [] σ H { s with heap:=h' }:=by
 refine I.call (g':=s.gens) (t':=s.toks) (d':=s.drawn) (ch:=ch) (H':=H) ⟨fun b o e _ nf nc=>c.keep b o e nf nc,fun b o e _ _ nc=>c.slot b o e nc,fun _ _ _ n _=>n,fun b o e nc=>let ⟨sl,q⟩:=c.slot b o e nc; ⟨_,q⟩,fun _ _ e=>e,fun _ _ _ e=>e,fun b ps e=>⟨#[],by rw [e]; simp⟩⟩ (fun b u e=>?_) I.bare fun b hb=>⟨.inr (hc b hb).new,(hc b hb).loc,(hc b hb).cel,fun p hp=>(hc b hb).pin p (by simpa using hp)⟩
 refine (I.hok b u e).stay (fun c' v hh q=>c.keep c' v q (fun z=>?_) fun z=>?_) (fun _ q=>q) fun _ _ q=>q
 ·have:=I.stkFree c' z
  rcases hh with rfl | hh
  ·rw [this] at e; cases e
  ·rw [this] at hh; cases hh
 ·have:=(hc c' z).free
  rcases hh with rfl | hh
  ·rw [this] at e; cases e
  ·rw [this] at hh; cases hh
theorem Inv.own_new (I:Inv X [] σ H s) {b:Addr} (hb:s.heap.objs.size≤b):Own X H b where
 free:=I.hok.fresh hb
 new:=Nat.le_trans I.sz hb
 loc:=Nat.ne_of_gt (Nat.lt_of_lt_of_le I.lt hb)
 cel:=fun x c e z=>by
  obtain ⟨v,q⟩:=I.cell x c e
  exact absurd (Nat.lt_of_lt_of_le q.lt (by rw [z]; exact hb)) (Nat.lt_irrefl _)
 pin:=fun p hp z=>absurd (Nat.lt_of_lt_of_le (Heap.lt_size (I.pin p (by simpa using hp)).1) (by rw [z]; exact hb)) (Nat.lt_irrefl _)
end
noncomputable abbrev XS:=Value→Option Addr→St→Hp→Prop
noncomputable def FlOk (mk:Option Bool) (fl:Value) (L:Addr):Prop:=match mk with
 | none=>fl=.none∨fl=rawInt L
 | some true=>fl=rawInt L
 | some false=>fl=.none
theorem FlOk.any {mk:Option Bool} {fl:Value} {L:Addr} (h:FlOk mk fl L):fl=.none∨fl=rawInt L:=by
 match mk,h with
 | none,h=>exact h
 | some true,h=>exact .inr h
 | some false,h=>exact .inl h
noncomputable def XBe (X:Cx) (E:XS) (tb:Bool) (mk:Option Bool) (ev:Value) (s:Shared):Prop:=∃ e cls dx σ H,ev=.ref e∧Inv X [] σ H s∧Own X H e ∧
 ((tb=false∧XAt s.heap e cls dx .none)∨∃ T fl,XAt s.heap e cls dx (.ref T)∧Own X H T∧T≠e∧TbAt s.heap T fl∧FlOk mk fl X.env.locals)∧E cls dx σ H
noncomputable abbrev XIn (X:Cx) (E:XS):Value→Shared→Prop:=XBe X E false none
section
variable {X:Cx} {E:XS} {M:Model} {A:Around} {F:Value→Shared→Prop} {s:Shared} {ev:Value} {tb:Bool} {mk:Option Bool}
theorem x_note {Q:Unit→Shared→Prop} (hA:A.frames=some X.stack) (hst:X.stack=X.env :: X.outer) (hf:X.env.frame=some X.env.locals) (h:XBe X E tb mk ev s) (hQ:∀ s',XBe X E true (some true) ev s'→Q () s'):wpAny M A (noteFrame ev X.env) Q F s:=by
 obtain ⟨e,cls,dx,σ,H,rfl,I,oe,ht,hE⟩:=h
 have fin:∀ {s1:Shared} {hd:Value} {ob:Obj} {vs:Array Value},Inv X [] σ H s1→s1.heap.get? e=some ob→ob.cls=cls→ob.dict=dx→ob.data=.fields vs→1 < vs.size →
   wpAny M A (frameOf X.env >>= fun a=>entryPlaceOf X.env.locals (hd != .none) >>= fun pl=>EntryCells.newEntry hd a .none (rawInt X.env.locals) .none pl >>= fun b=>setField (.ref e) 1 b) Q F s1:=by
  intro s1 hd ob vs I1 ge hcls hdx hdat hsz
  have fr:=I1.stack
  rw [hst] at fr
  refine entry_new (hA.trans (by rw [hst])) fr hf ge hdat hsz fun h' T k1 k2 hT ne xa ta=>?_
  rw [hcls,hdx] at xa
  have J:=I1.chg (ch:=[e]) (h':=h') ⟨fun b o q nf nc=>k1 b o q (by rw [← hst]; exact nf) (by simpa using nc),fun b o q nc=>k2 b o q (by simpa using nc)⟩ fun b hb=>by
   have:b=e:=by simpa using hb
   subst this; exact oe
  exact hQ _ ⟨e,cls,dx,σ,H,rfl,J,oe,.inr ⟨T,_,xa,I1.own_new hT,ne,ta,rfl⟩,hE⟩
 unfold noteFrame
 simp only [hf]
 rcases ht with ⟨_,ob,vs,ge,hcls,hdx,hdat,h1⟩ | ⟨T,fl,⟨ob,vs,ge,hcls,hdx,hdat,h1⟩,oT,ne,⟨ot,ts,gT,dT,h3⟩,hfl⟩
 ·refine wpAny_bind (wpAny_field ge hdat h1 ?_)
  rw [if_neg (by decide)]
  exact fin I ge hcls hdx hdat (Array.getElem?_eq_some_iff.mp h1).1
 ·refine wpAny_bind (wpAny_field ge hdat h1 ?_)
  rw [if_pos (show (Value.ref T != Value.none)=true by simp)]
  refine wpAny_bind (wpAny_field gT dT h3 ?_)
  rcases hfl.any with rfl | rfl
  ·rw [if_neg (show ¬ ((Value.none == rawInt X.env.locals)=true) by simp [rawInt])]
   refine wpAny_bind (wpAny_setField gT dT (Array.getElem?_eq_some_iff.mp h3).1 ?_)
   have J:=I.chg (ch:=[T]) (h':=s.heap.update T (Obj.mapFields (·.setIfInBounds 3 Value.none))) ⟨fun b o q _ nc=>(Heap.get?_update_other _ _ (fun z=>nc (by simp [z]))).trans q,fun b o q nc=>⟨o.slots,(Heap.get?_update_other _ _ (fun z=>nc (by simp [z]))).trans q⟩⟩ fun b hb=>by
    have:b=T:=by simpa using hb
    subst this; exact oT
   exact fin J ((Heap.get?_update_other _ _ ne).trans ge) hcls hdx hdat (Array.getElem?_eq_some_iff.mp h1).1
  ·rw [if_pos (show (rawInt X.env.locals == rawInt X.env.locals)=true by first | exact beq_self_eq_true _ | simp)]
   exact wpAny_pure (hQ s ⟨e,cls,dx,σ,H,rfl,I,oe,.inr ⟨T,_,⟨ob,vs,ge,hcls,hdx,hdat,h1⟩,oT,ne,⟨ot,ts,gT,dT,h3⟩,rfl⟩,hE⟩)
theorem x_flight {Q:Unit→Shared→Prop} {fr:Option Addr} (hfr:fr=none∨fr=some X.env.locals) (h:XBe X E true mk ev s) (hQ:∀ s',XBe X E true (some fr.isSome) ev s'→Q () s'):wpAny M A (setFlight ev fr) Q F s:=by
 obtain ⟨e,cls,dx,σ,H,rfl,I,oe,ht,hE⟩:=h
 rcases ht with ⟨z,_⟩ | ⟨T,fl,⟨ob,vs,ge,hcls,hdx,hdat,h1⟩,oT,ne,⟨ot,ts,gT,dT,h3⟩,hfl⟩
 ·cases z
 ·have h3s:=(Array.getElem?_eq_some_iff.mp h3).1
  unfold setFlight
  refine wpAny_bind (wpAny_field ge hdat h1 ?_)
  rw [if_pos (show (Value.ref T != Value.none)=true by simp)]
  refine wpAny_setField gT dT h3s (hQ _ ?_)
  generalize hx:(fr.elim Value.none fun f=>rawInt f)=x
  have J:=I.chg (ch:=[T]) (h':=s.heap.update T (Obj.mapFields (·.setIfInBounds 3 x))) ⟨fun b o q _ nc=>(Heap.get?_update_other _ _ (fun z=>nc (by simp [z]))).trans q,fun b o q nc=>⟨o.slots,(Heap.get?_update_other _ _ (fun z=>nc (by simp [z]))).trans q⟩⟩ fun b hb=>by
   have:b=T:=by simpa using hb
   subst this; exact oT
  have dm:=Obj.data_mapFields dT (·.setIfInBounds 3 x)
  refine ⟨e,cls,dx,σ,H,rfl,J,oe,.inr ⟨T,x,⟨ob,vs,(Heap.get?_update_other _ _ ne).trans ge,hcls,hdx,hdat,h1⟩,oT,ne,⟨_,_,Heap.get?_update_self _ gT (Obj.isFreed_of_fields dm),dm,by simp [h3s]⟩,?_⟩,hE⟩
  rcases hfr with rfl | rfl
  ·exact hx.symm
  ·exact hx.symm
theorem XBe.frames (h:XBe X E tb mk ev s):X.A.frames=some X.stack:=by
 obtain ⟨_,_,_,_,_,_,I,_⟩:=h
 exact I.ok.frames
end
noncomputable def CXF (P:Program) (w:World):CXT:=fun l H s E ev s'=>∃ e cls dx H' T,ev=.ref e∧s'.os=s.os∧AllBare s'.gens∧Un (frs l) [] H H' s.heap s'.heap∧HOk P w H' s'.heap∧H' e=none∧s.heap.objs.size≤e ∧
 XAt s'.heap e cls dx (.ref T)∧T≠e∧H' T=none∧s.heap.objs.size≤T∧TbAt s'.heap T .none∧E cls dx H'
section
variable {X:Cx} {E:XS}
theorem x_leave {EK:XK} {M:Model} {A:Around} {F:Value→Shared→Prop} {s:Shared} {ev:Value} {tb:Bool} {mk:Option Bool} (hA:A.frames=some X.stack) (hst:X.stack=X.env :: X.outer) (hf:X.env.frame=some X.env.locals) (hex:X.ex=[])
  (h:XBe X (fun cls dx _ H=>EK cls dx H) tb mk ev s):wpAny M A (leaving X.env ev) (fun _ s''=>CXF X.prog X.w X.outer X.H₀ X.s₀ EK ev s'') F s:=by
 unfold leaving
 refine wpAny_bind (x_note hA hst hf h fun s1 q=>x_flight (.inl rfl) q fun s2 q2=>?_)
 obtain ⟨e,cls,dx,σ,H,rfl,I,oe,ht,hE⟩:=q2
 rcases ht with ⟨z,_⟩ | ⟨T,fl,xa,oT,ne,ta,hfl⟩
 ·cases z
 ·have e1:fl=.none:=hfl
  subst e1
  have b:=I.base
  rw [hex] at b
  exact ⟨e,cls,dx,H,T,rfl,I.os,I.bare,b,I.hok,oe.free,oe.new,xa,ne,oT.free,oT.new,ta,hE⟩
theorem x_come {EK:XK} {pins:List (Addr×Obj)} {σ:St} {H:Hp} {s s':Shared} {ev:Value} (I:Inv X pins σ H s) (h:CXF X.prog X.w X.stack H s EK ev s') (hE:∀ cls dx H',EK cls dx H'→E cls dx σ H'):XIn X E ev s':=by
 obtain ⟨e,cls,dx,H',T,rfl,os,ba,un,hok,he,le,xa,ne,hT,lT,ta,q⟩:=h
 have J:=I.call' os un hok ba (fun b z=>absurd z (by simp))
 have J0:Inv X [] σ H' s':=J.pins_of fun p hp=>absurd hp (by simp)
 have own:∀ b,H' b=none→s.heap.objs.size≤b→Own X H' b:=fun b hb lb=>⟨hb,Nat.le_trans I.sz lb,Nat.ne_of_gt (Nat.lt_of_lt_of_le I.lt lb),fun x c e z=>by
  obtain ⟨v,q⟩:=I.cell x c e
  exact absurd (Nat.lt_of_lt_of_le q.lt (by rw [z]; exact lb)) (Nat.lt_irrefl _),fun p hp z=>absurd (Nat.lt_of_lt_of_le (Heap.lt_size (I.pin p (List.mem_append_left _ hp)).1) (by rw [z]; exact lb)) (Nat.lt_irrefl _)⟩
 exact ⟨e,cls,dx,σ,H',rfl,J0,own e he le,.inr ⟨T,.none,xa,own T hT lT,ne,ta,.inl rfl⟩,hE _ _ _ q⟩
end
noncomputable abbrev Cx.raises (X:Cx) (E:XS):Cx:=X.wish (XIn X E)
theorem PSs.wish {X:Cx} {f:Value→Shared→Prop} {st:List Stmt} {t:TS} (h:PSs (X.wish f) st t) (hf:∀ e s,f e s→X.xe e s):PSs X st t:=fun pins s σ H D I hw =>
 wpAny_mono (h pins s σ H D (I.wish _) hw) (fun _ _ q=>q.unwish) hf
section
variable {X:Cx} {E:XS} {k:Nat} {sp:Sp} {x:Str} {p pos:Pos} {e:Expr} {es:List Expr} {t:TA}
noncomputable def tCallX (sp:Sp) (E:XS) (t:TA):TE:=fun σ H Q=>t σ H fun vs H1=>sp vs H1 Q fun cls dx H'=>E cls dx σ H'
theorem pe_defX (G:Def X.prog X.w X.K X.mg X.base (CXF X.prog X.w) k x sp) (hr:Room k X.A) (ha:PA (X.raises E) (e :: es) t) (hg:Gl (X.raises E) x:=by rfl) (hdb:(x == ("__debug__":Str))=false:=by decide)
  (he:starEach (e :: es) X.env=(false,eval e X.env) :: starEach es X.env:=by rfl) (hpl:(backTo pos (starEach es X.env)).any (·.1)=false:=by rfl) :
  PE (X.raises E) (.Call (.Name x p) (e :: es) [] pos) (tCallX sp E t):=by
 obtain ⟨f,fd,ps,F,b,c,d⟩:=G.ex
 intro pins s σ H Q I h
 refine wpAny_Call_Name_kw (ld_glob I hg c (PySem.W.callWith_K (h₀:=X.base) I.ok.mod.kin d
  (thn (ha pos pins s σ H _ I h) fun us s1 ⟨vs,H1,I1,r,q⟩=>⟨I1.kIn,?_⟩) he hpl) hdb)
 have hl:us.length=ps.length:=by rw [← r.length]; exact F.len _ _ _ _ q
 have bd:=b s1 us I1.kIn (by simpa using hl)
 rw [List.append_nil] at bd
 refine wpAny_call (codeAny_mono (F.run X.A X.stack s1 H1 ⟨us,[]⟩ us vs Q (fun cls dx H'=>E cls dx σ H') hr I1.unwish.env0 bd r q) fun r s' hq=>?_)
 cases r with
 | error ev=>exact x_come I1.unwish hq fun _ _ _ z=>z
 | ok fl =>
  cases fl with
  | ret u=>exact (I1.after hq:EP (X.raises E) pins σ Q u s')
  | _=>exact False.elim hq
end
section
variable {P:Program} {w:World} {K:PySem.W.Frag} {mg:Str→Option Value} {base:Heap}
theorem Fun.okX {x qual:Str} {st:Stmt} {f:Addr} {fd:FuncData} {N ps:List Str} {k:Nat} {sp:Sp} (F:Fun K x qual st f fd) (S:FnScope N ps (defScope st)) (len:∀ vs H Q E,sp vs H Q E→vs.length=ps.length)
  (hbody:∀ (cdv:Value) (A:Around) (outer:List Env) (s:Shared) (H:Hp) (vs:List V) (Q:VK) (E:XK),Room k (A.deeper (envOfC qual (defScope st) s.heap.objs.size f cdv))→sp vs H Q E →
   ∃ t,PSs ((cxOf (CXF P w) P w K mg base N qual (defScope st) f cdv A outer s H E).raises fun cls dx _ H'=>E cls dx H') (defBody st) t∧t { nx:=fun _ H'=>Q .non H',rt:=Q } (start N vs) H):FnOk P w K mg base (CXF P w) (k + 1) f fd ps sp:=by
 obtain ⟨oc,od,kV,doc,pm,an,cdv,ct,osl,rfl,lk,hcd⟩:=F.ex
 refine fn_of lk hcd S len fun A outer s H vs Q E hr hsp=>?_
 obtain ⟨t,ht,q⟩:=hbody cdv A outer s H vs Q E hr hsp
 exact ⟨t,ht.wish fun ev s' z=>x_leave z.frames rfl rfl rfl z,q⟩
end
section
variable {X:Cx} {pins:List (Addr×Obj)} {σ:St} {H:Hp} {s:Shared}
noncomputable abbrev Cx.pinTo (X:Cx) (ps:List (Addr×Obj)):Cx:={ X with pn:=X.pn++ps }
noncomputable abbrev Cx.suite (X:Cx) (ev:Value) (ps:List (Addr×Obj)):Cx:={ X with pn:=X.pn++ps,A:=X.A.mark (some ev),calm:=false,xe:=fun _ _=>False }
theorem Inv.pinTo (I:Inv X pins σ H s):Inv (X.pinTo pins) [] σ H s:=by
 obtain ⟨ok,a1,a2,a3,a4,a5,a6,a7,a8,a9,a10⟩:=I
 exact ⟨⟨ok.mod,ok.kind,ok.glob,ok.blt,ok.above,ok.inj,ok.has,ok.cab,ok.hd,ok.frames,ok.stk,ok.exf,ok.bs,ok.bsz,ok.noex,ok.exfs,ok.funs,ok.frf⟩,a1,a2,a3,a4,a5,a6,a7,fun p hp=>a8 p (by simpa using hp),a9,a10⟩
theorem Inv.unpinTo (I:Inv (X.pinTo pins) [] σ H s):Inv X pins σ H s:=by
 obtain ⟨ok,a1,a2,a3,a4,a5,a6,a7,a8,a9,a10⟩:=I
 exact ⟨⟨ok.mod,ok.kind,ok.glob,ok.blt,ok.above,ok.inj,ok.has,ok.cab,ok.hd,ok.frames,ok.stk,ok.exf,ok.bs,ok.bsz,ok.noex,ok.exfs,ok.funs,ok.frf⟩,a1,a2,a3,a4,a5,a6,a7,fun p hp=>a8 p (by simpa using hp),a9,a10⟩
theorem Inv.insuite {ev:Value} {ps:List (Addr×Obj)} (I:Inv (X.pinTo pins) ps σ H s):Inv (X.suite ev pins) ps σ H s:=by
 obtain ⟨ok,a1,a2,a3,a4,a5,a6,a7,a8,a9,a10⟩:=I
 exact ⟨⟨ok.mod,ok.kind,ok.glob,ok.blt,ok.above,ok.inj,ok.has,ok.cab,(fun z=>by cases z),ok.frames,ok.stk,ok.exf,ok.bs,ok.bsz,ok.noex,ok.exfs,ok.funs,ok.frf⟩,a1,a2,a3,a4,a5,a6,a7,a8,a9,a10⟩
theorem Inv.outsuite {ev:Value} {ps:List (Addr×Obj)} (I:Inv (X.suite ev pins) ps σ H s) (h0:X.Ok):Inv (X.pinTo pins) ps σ H s:=by
 obtain ⟨ok,a1,a2,a3,a4,a5,a6,a7,a8,a9,a10⟩:=I
 exact ⟨⟨ok.mod,ok.kind,ok.glob,ok.blt,ok.above,ok.inj,ok.has,ok.cab,h0.hd,ok.frames,ok.stk,ok.exf,ok.bs,ok.bsz,ok.noex,ok.exfs,ok.funs,ok.frf⟩,a1,a2,a3,a4,a5,a6,a7,a8,a9,a10⟩
end
end L2
namespace L2
open PySem PySem.Spec PyProof.Rows
noncomputable def xO (fr:Bool) (cls:Value) (dx:Option Addr) (e:Addr):HO:=.ext fun h=>∃ oe vs,h.get? e=some oe∧oe.cls=cls∧oe.dict=dx∧oe.data=.fields vs∧(fr=true→∃ a0,vs=#[a0,.none,.none,.none,.bool false,.none])
theorem xO_ok {P:Program} {w:World} {H:Hp} {h:Heap} {fr:Bool} {cls:Value} {dx:Option Addr} {e:Addr} {oe:Obj} {vs:Array Value} (h1:h.get? e=some oe) (h2:oe.cls=cls) (h3:oe.dict=dx) (h4:oe.data=.fields vs)
  (h5:fr=true→∃ a0,vs=#[a0,.none,.none,.none,.bool false,.none]):ObjOk P w H h e (xO fr cls dx e):=⟨⟨oe,vs,h1,h2,h3,h4,h5⟩,⟨oe,h1⟩,fun _ _ ⟨o,vs,y1,y2⟩ k=>⟨o,vs,k o y1,y2⟩⟩
noncomputable def XCls (K:PySem.W.Frag) (C:Addr) (bm:List Value):Prop:=bm.contains (.type "BaseException")=true∧∃ nm q N bs hdct sn sub ab col dd k0 k1 k2 k3 k5 newId,K.lookup C=some (excClassObj nm q C N bs bm hdct sn sub ab col dd k0 k1 k2 k3 k5 newId)
section
variable {X:Cx} {pins:List (Addr×Obj)} {σ:St} {H:Hp} {s:Shared}
end
section
variable {M:Model} {A:Around} {E:Value→Shared→Prop}
theorem exc_matches {h:Heap} {g:Array GenState} {d:Drawn} {t:Nat} {os:OsState} {e C W:Addr} {oe:Obj} {bm bw:List Value} {Q:Bool→Shared→Prop} {nm q nm' q':Str} {N N':Addr} {bs bs':List Value} {hdct hdct':Bool} {sn sn':List Str} {sub sub':List Value} {ab ab':Bool} {col col':Option Bool} {dd dd':Option Addr} {k0 k1 k2 k3 k5 l0 l1 l2 l3 l5:Option Value} {newId newId':String}
    (hC:h.get? C=some (excClassObj nm q C N bs bm hdct sn sub ab col dd k0 k1 k2 k3 k5 newId)) (hW:h.get? W=some (excClassObj nm' q' W N' bs' bw hdct' sn' sub' ab' col' dd' l0 l1 l2 l3 l5 newId'))
    (he:h.get? e=some oe) (hcls:oe.cls=.ref C) (hb:bw.contains (.type "BaseException")=true) (hm:(Value.ref C :: bm).contains (.ref W)=true) (hq:Q true ⟨h,g,d,t,os⟩):wpAny M A (excMatches (.ref e) (.ref W)) Q E ⟨h,g,d,t,os⟩:=by
  have hwB:(Value.ref W :: bw).contains (.type "BaseException")=true:=by rw [List.contains_cons,hb,Bool.or_true]
  have nt:=tc_notTuple
  unfold excMatches
  repeat (first | (with_reducible refine wpAny_loadPart_at he ?_; rw [hcls]) | with_reducible refine wpAny_loadPart_at hW ?_
                | (with_reducible refine wpAny_isSubtype_exc hW ?_; rw [hwB]) | (with_reducible refine wpAny_isSubtype_exc hC ?_; rw [hm]) | wp_step)
  exact hq
end
section
variable {X:Cx} {i:Nat} {n x:Str} {C:Addr} {bw:List Value} {body suite:List Stmt} {b0:Stmt} {np hp pos:Pos} {tb:XS→TS} {ts:TS}
theorem SP.unpin {E:XS} {pins:List (Addr×Obj)} {D:Ends} {f:Flow} {s:Shared} (h:SP ((X.pinTo pins).raises E) [] D f s):SP X pins D f s:=by
 match f,h with
 | .next,⟨σ,H,I,q⟩=>exact ⟨σ,H,I.unwish.unpinTo,q⟩
 | .brk,⟨σ,H,I,q⟩=>exact ⟨σ,H,I.unwish.unpinTo,q⟩
 | .cont,⟨σ,H,I,q⟩=>exact ⟨σ,H,I.unwish.unpinTo,q⟩
 | .ret u,⟨v,σ,H,I,r,q⟩=>exact ⟨v,σ,H,I.unwish.unpinTo,r,q⟩
end
end L2
namespace L2
open PySem PySem.Spec PyProof.Rows
noncomputable abbrev vMro:List Value:=[.type "ValueError",.type "Exception",.type "BaseException",.type "object"]
theorem tail_has {K:PySem.W.Frag} {bB:List Value} {v:Value} (hv:bB.contains v=true):∀ {l:List Value},PySem.W.tailIn K bB l=true→l.contains v=true
 | [],e=>by
  have z:bB=[]:=beq_iff_eq.mp e
  rw [z] at hv
  exact hv
 | u :: r,e=>by
  unfold PySem.W.tailIn at e
  rcases Bool.or_eq_true_iff.mp e with q | q
  ·rw [beq_iff_eq.mp q]; exact hv
  ·split at q
   ·split at q
    ·simp only [Bool.and_eq_true] at q
     rw [List.contains_cons,tail_has hv q.2,Bool.or_true]
    ·cases q
   ·cases q
theorem tail_lets {K:PySem.W.Frag} (self:Value):∀ {l:List Value},PySem.W.tailIn K vMro l=true→refuseLoop self "__setattr__" l=pure ()
 | [],e=>by cases beq_iff_eq.mp e
 | u :: r,e=>by
  unfold PySem.W.tailIn at e
  rcases Bool.or_eq_true_iff.mp e with q | q
  ·rw [beq_iff_eq.mp q]; exact PySem.F.store_ValueError.passes self
  ·split at q
   ·split at q
    ·simp only [Bool.and_eq_true] at q
     rw [refuseLoop_ref]
     exact tail_lets self q.2
    ·cases q
   ·cases q
structure XC (K:PySem.W.Frag) (C:Addr) (bm:List Value):Prop where
 lk:∃ nm q N bs sn sub ab col dd k0 k1 k2 k3 k5,K.lookup C=some (excClassObj nm q C N bs bm true sn sub ab col dd k0 k1 k2 k3 k5 "ValueError.__new__")
 tl:PySem.W.tailIn K vMro bm=true
 kp:PySem.W.keepIn K (.ref C)=true
 ga:PySem.W.findIn K (.ref C) "__getattribute__"=some (some (.builtin "BaseException.__getattribute__"))
 gh:PySem.W.findIn K (.ref C) "__getattr__"=some none
 gc:PySem.W.findIn K (.ref C) "__class__"=some (some (.builtin "object.__class__"))
 sa:PySem.W.findIn K (.ref C) "__setattr__"=some (some (.builtin "object.__setattr__"))
section
variable {K:PySem.W.Frag} {C W:Addr} {bm bw:List Value}
theorem XC.cls (c:XC K C bm):∃ cd,PySem.W.clsIn K C=some cd∧cd.mro=.ref C :: bm∧cd.hasDict=true:=by
 obtain ⟨nm,q,N,bs,sn,sub,ab,col,dd,k0,k1,k2,k3,k5,lk⟩:=c.lk
 exact ⟨_,by unfold PySem.W.clsIn; rw [lk],rfl,rfl⟩
theorem XC.mro (c:XC K C bm) (v:Value):PySem.W.mroIn K C v=some ((Value.ref C :: bm).contains v):=by
 obtain ⟨cd,h1,h2,_⟩:=c.cls
 unfold PySem.W.mroIn
 rw [h1,Option.bind_some,h2,if_neg (by simp)]
theorem XC.has (c:XC K C bm) {v:Value} (hv:vMro.contains v=true):(Value.ref C :: bm).contains v=true:=by rw [List.contains_cons,tail_has hv c.tl,Bool.or_true]
theorem XC.xcls (c:XC K C bm):XCls K C bm:=by
 obtain ⟨nm,q,N,bs,sn,sub,ab,col,dd,k0,k1,k2,k3,k5,lk⟩:=c.lk
 exact ⟨tail_has (by decide) c.tl,_,_,_,_,_,_,_,_,_,_,_,_,_,_,_,_,lk⟩
theorem XC.tail (c:XC K C bm) {h:Heap} (X:K.In h):OwnTail h vMro bm:=PySem.W.tail_of_in X c.tl
end
noncomputable abbrev xTup (us:List Value):Obj:={ cls:=.type "tuple",data:=.seq us.toArray }
noncomputable abbrev xNew (C t:Addr):Obj:={ cls:=.ref C,data:=.fields #[.ref t,.none,.none,.none,.bool false,.none] }
noncomputable abbrev xHp (h:Heap) (C:Addr) (us:List Value):Heap:=(h.push (xTup us)).push (xNew C h.objs.size)
section
variable {prog:Program} {w:World} {A:Around} {E:Value→Shared→Prop} {h:Heap} {g:Array GenState} {d:Drawn} {t:Nat} {os:OsState} {K:PySem.W.Frag} {C:Addr} {bm us:List Value}
theorem xHp_keep {b:Addr} {o:Obj} (e:h.get? b=some o):(xHp h C us).get? b=some o:=Heap.get?_push_of_some _ (Heap.get?_push_of_some _ e)
theorem xHp_new:(xHp h C us).get? (h.objs.size + 1)=some (xNew C h.objs.size):=by
 have:=Heap.get?_push_size (h.push (xTup us)) (o:=xNew C h.objs.size) rfl
 rwa [Heap.size_push] at this
theorem x_born {init:Value} {Q:Fin→Shared→Prop} (X:K.In h) (c:XC K C bm) (hu:us.length≤sizeLine) (hi:PySem.W.Looks (model prog w) h (typeLookup (.ref C) "__init__") (some init))
    (hb:∀ self,PySem.W.Looks (model prog w) h (bindSpecial init self) (init,[self]))
    (go:wpAny (model prog w) A (call init (.ref (h.objs.size + 1) :: us)) (fun r s'=>r=.none∧Q (.done (.ret (.ref (h.objs.size + 1)))) s') E ⟨xHp h C us,g,d,t,os⟩) :
    wpAny (model prog w) A (Builtin.«type.__call__» ⟨.ref C :: us,[]⟩) Q E ⟨h,g,d,t,os⟩:=by
  have F:=PySem.F.excBase_ValueError
  have T:=c.tail X
  obtain ⟨nm,qn,N,bs,sn,sub,ab,col,dd,k0,k1,k2,k3,k5,lk⟩:=c.lk
  have cC:=X _ _ lk
  repeat (first
    | with_reducible refine wpAny_loadPart_at cC ?_
    | with_reducible refine wpAny_madeBy_exc cC ?_
    | wp_step)
  refine codeAny_call_builtin_code (Code.quiet_builtin _ F.quiet) (wpAny_check_new_subT F T cC ?_)
  refine codeAny_exc_new_subT F T cC ?_ hu
  show wpAny _ _ _ _ _ _
  have c2:=xHp_keep (C:=C) (us:=us) cC
  have n2:(xHp h C us).get? (h.objs.size + 1)=some (xNew C h.objs.size):=xHp_new
  have self:(Value.ref C :: bm).contains (.ref C)=true:=by simp
  unfold isInstance
  repeat (first
    | with_reducible refine wpAny_loadPart_at n2 ?_
    | (with_reducible refine wpAny_isSubtype_exc c2 ?_; rw [self])
    | wp_step)
  show wpAny _ _ (typeLookup (.ref C) _) _ _ _
  refine (hi.keeps fun _ _=>xHp_keep).at ?_
  refine wpAny_holding (wpAny_bind (((hb _).keeps fun _ _=>xHp_keep).at ?_))
  refine wpAny_bind (wpAny_mono go (fun r s' z=>?_) fun _ _ z=>z)
  obtain ⟨rfl,z⟩:=z
  wp_walk
  exact z
theorem x_call {init:Value} {Q:Value→Shared→Prop} (X:K.In h) (c:XC K C bm) (hu:us.length≤sizeLine) (hi:PySem.W.Looks (model prog w) h (typeLookup (.ref C) "__init__") (some init))
    (hb:∀ self,PySem.W.Looks (model prog w) h (bindSpecial init self) (init,[self]))
    (go:wpAny (model prog w) (A.under (.builtin "type.__call__" ⟨.ref C :: us,[]⟩)) (call init (.ref (h.objs.size + 1) :: us)) (fun r s'=>r=.none∧Q (.ref (h.objs.size + 1)) s') E ⟨xHp h C us,g,d,t,os⟩) :
    wpAny (model prog w) A (call (.ref C) us) Q E ⟨h,g,d,t,os⟩:=by
  obtain ⟨nm,qn,N,bs,sn,sub,ab,col,dd,k0,k1,k2,k3,k5,lk⟩:=c.lk
  have cC:=X _ _ lk
  have l1:=tc_lookup
  have l2:=tc_bind (.ref C)
  have ty:(⟨h,g,d,t,os⟩:Shared).TypeIs (.ref C) "type":=⟨_,cC,rfl⟩
  refine wpAny_call (codeAny_of_tree ?_)
  show wpAny _ _ (callAny (.ref C) _) _ _ _
  repeat (any_goals (first
    | assumption
    | with_reducible refine wpAny_loadPart_at cC ?_
    | wp_step))
  refine ⟨rfl,?_⟩
  exact codeAny_call_builtin_at (Code.quiet_builtin _ (by decide +kernel)) entry_typeCall (wpAny_check_type_call_sub cC (x_born X c hu hi hb go))
end
end L2
namespace L2
open PySem PySem.Spec PyProof.Rows
section
variable {prog:Program} {w:World} {A:Around} {E:Value→Shared→Prop} {s:Shared} {K:PySem.W.Frag} {C x:Addr} {bm:List Value} {ox:Obj} {od:Option Obj} {name:Str}
theorem x_set {v:Value} {vs:Array Value} {o:Obj} {Q:Unit→Shared→Prop} (X:K.In s.heap) (c:XC K C bm) (ha:PySem.W.findIn K (.ref C) name=some none) (hx:s.heap.get? x=some o) (hc:o.cls=.ref C) (hd:o.dict=none) (hv:o.data=.fields vs)
  (go:∀ h' tk,h'.get? x=some { o with dict:=some s.heap.objs.size }→h'.Ns1 s.heap.objs.size (fun y=>if y=name then some v else none)→(∀ b ob,b≠x→s.heap.get? b=some ob→h'.get? b=some ob)→Q () { s with heap:=h',toks:=tk }) :
  wpAny (model prog w) A (setAttr (.ref x) name v) Q E s:=by
 have I:PySem.W.InstAt s.heap x o C none:=⟨hx,hc,by unfold PySem.W.notCls; rw [hv],by rw [hd]; trivial⟩
 have SF:=PySem.F.store_object
 obtain ⟨cd,h1,h2,h3⟩:=c.cls
 have l0:=I.type (M:=model prog w)
 have l1:=PySem.W.looks_findIn (M:=model prog w) X ha
 have l2:PySem.W.Looks (model prog w) s.heap (mroOf (.ref C)) cd.mro:=(PySem.W.looks_clsIn X h1).andThen .now
 have l3:=PySem.W.looks_clsIn (M:=model prog w) X h1
 have lb:PySem.W.Looks (model prog w) s.heap (isInstance (.ref x) (.type "object")) true:=l0.andThen (PySem.W.looks_mroIn X (by rw [c.mro,c.has (by decide)]))
 refine PySem.W.set_plain X I c.sa ?_
 refine codeAny_call_builtin SF.slot.plain SF.entry (@PySem.W.check_slot (model prog w) _ _ { s with toks:=s.toks + 1 } "object.__setattr__" "object" "__setattr__" (.ref x) [.str name s.toks,v] [] _ SF.kind SF.split lb (SF.args (.ref x) (.str name s.toks) v) ?_)
 rw [PySem.W.osa_eq,refuse_eq]
 obtain ⟨hh,g,d,t,os⟩:=s
 refine wpAny_bind (wpAny_bind (l0.at (wpAny_bind (l2.at ?_))))
 rw [h2,refuseLoop_ref,tail_lets _ c.tl]
 refine wpAny_pure (wpAny_bind (l0.at (wpAny_bind (l1.at (wpAny_bind (wpAny_pure ?_))))))
 obtain ⟨oc,odi,oda,osl⟩:=o
 dsimp only at hc hd hv hx go
 subst hc hd hv
 show wpAny _ _ (Builtin.ObjectAttr.storeInOwnDict _ _ _ _ _ _) _ _ _
 unfold Builtin.ObjectAttr.storeInOwnDict
 refine wpAny_bind (wpAny_pure (wpAny_bind ?_))
 show wpAny _ _ (instanceDict x true) _ _ _
 unfold instanceDict
 refine wpAny_bind (wpAny_loadPart hx ?_)
 dsimp only
 refine wpAny_bind (l3.at ?_)
 rw [h3]
 have nsz:x≠hh.objs.size:=Nat.ne_of_lt (Heap.lt_size hx)
 have x1:=Heap.get?_push_of_some PySem.W.emptyDict hx
 refine wpAny_bind (wpAny_alloc' (wpAny_bind (wpAny_update' x1 ?_)))
 refine wpAny_pure ?_
 generalize hg:((hh.push PySem.W.emptyDict).update x fun o=>{ o with dict:=some hh.objs.size })=h2
 have xd:h2.get? x=some ⟨.ref C,some hh.objs.size,.fields vs,osl⟩:=by rw [← hg]; exact Heap.get?_update_self _ x1 rfl
 have dd:h2.get? hh.objs.size=some PySem.W.emptyDict:=by rw [← hg]; exact (Heap.get?_update_ne _ _ _ _ nsz.symm).trans (Heap.get?_push_at rfl rfl)
 have kp:∀ b ob,b≠x→hh.get? b=some ob→h2.get? b=some ob:=fun b ob nb q=>by rw [← hg]; exact (Heap.get?_update_ne _ _ _ _ nb).trans (Heap.get?_push_of_some _ q)
 have nd:h2.Ns hh.objs.size (fun _=>none):=⟨_,#[],_,dd,rfl,fun e he=>absurd he (by simp),fun _=>rfl⟩
 show wpAny _ _ (Builtin.ObjectAttr.storeInDict hh.objs.size _ name v) _ _ _
 unfold Builtin.ObjectAttr.storeInDict Builtin.ObjectAttr.newKeyGuard
 refine wpAny_bind (wpAny_pure (wpAny_bind (wpAny_nsSet1 (Heap.Ns1.of_empty nd) fun h' hn sb=>?_)))
 obtain ⟨oD,es,ep,g1,g2,g3⟩:=hn.count (Within.cons name v Within.nil)
 refine wpAny_bind (wpAny_lookBehind g1 (by rw [g2]; exact pastItsLine_dict (Nat.le_trans g3 (by rw [List.length_cons,List.length_nil,sizeLine_eq]; lia))) ?_)
 refine wpAny_pure ?_
 exact go h' _ ((sb.2 x nsz).trans xd) hn fun b ob nb q=>(sb.2 b (Nat.ne_of_lt (Heap.lt_size q))).trans (kp b ob nb q)
end
end L2
namespace L2
open PySem PySem.Spec PyProof.Rows
section
variable {X:Cx} {a c o e value:Expr} {ta tc tv:TE} {p pos pos':Pos} {f:Str}
noncomputable def sXFld (K:PySem.W.Frag) (ta tv:TE) (f:Str):TS:=fun D σ H=>tv σ H fun y H1=>ta σ H1 fun x H2=>∃ a C bm fr,x=.ref a∧XC K C bm∧H2 a=some (xO fr (.ref C) none a)∧NoAttr K C f ∧
 ∀ dx,H2 dx=none→dx≠a→D.nx σ (upd (upd H2 a (xO fr (.ref C) (some dx) a)) dx (.xd [(f,y)]))
theorem ps_xfld (ha:PE X o ta) (hv:PE X value tv) (hs:swapsWith value (some (.Attribute o f pos')) pos.line X.env=pure false):PS X (.Assign [.Attribute o f pos'] value pos) (sXFld X.K ta tv f):=by
 intro pins s σ H D I h
 refine plainObj_wpAny_Assign_Attribute (thn (hv pins s σ H _ I h) fun u s1 ⟨y,H1,I1,ry,q⟩=>thn (ha pins s1 σ H1 _ I1 q) fun ov s2 ⟨x,H2,I2,rx,a,C,bm,fr,ex,c,hA,n,q2⟩=>?_) hs
 subst ex
 obtain rfl:ov=Value.ref a:=rx
 obtain ⟨⟨oe,vs,g1,g2,g3,g4,g5⟩,_⟩:=(show ObjOk X.prog X.w H2 s2.heap a (xO fr (.ref C) none a) from I2.hok a _ hA)
 have fr0:H2 s2.heap.objs.size=none:=I2.hok.fresh (Nat.le_refl _)
 have na:s2.heap.objs.size≠a:=Ne.symm (Nat.ne_of_lt (Heap.lt_size g1))
 refine x_set I2.kIn c n g1 g2 g3 g4 fun h' tk k1 k2 k3=>⟨σ,_,?_,q2 _ fr0 na⟩
 have old:∀ b ob,H2 b=none→s2.heap.get? b=some ob→h'.get? b=some ob:=fun b ob hb e=>k3 b ob (fun z=>by rw [z,hA] at hb; cases hb) e
 have up:∀ b,b≠a→b≠s2.heap.objs.size→upd (upd H2 a (xO fr (.ref C) (some s2.heap.objs.size) a)) s2.heap.objs.size (.xd [(f,y)]) b=H2 b:=fun b n1 n2=>by rw [upd_ne n2,upd_ne n1]
 have lt:∀ b ob,s2.heap.get? b=some ob→b≠s2.heap.objs.size:=fun b ob e=>Nat.ne_of_lt (Heap.lt_size e)
 refine I2.un (t':=tk) ⟨fun b ob e n _ _=>old b ob n e,fun b ob e n _ _=>⟨ob.slots,old b ob n e⟩,fun b ob e n _=>?_,fun b ob e _=>?_,fun b xs e=>?_,fun b ob u e=>?_,fun b ps e=>⟨#[],?_⟩⟩ fun b u e=>?_
 ·rw [up b (fun z=>by rw [z,hA] at n; cases n) (lt b ob e)]; exact n
 ·by_cases hb:b=a
  ·subst hb; exact ⟨_,k1⟩
  ·exact ⟨ob,k3 b ob hb e⟩
 ·rw [up b (fun z=>by rw [z,hA] at e; cases e) (fun z=>by rw [z,fr0] at e; cases e)]; exact e
 ·rw [up b (fun z=>by rw [z,hA] at e; cases e) (fun z=>by rw [z,fr0] at e; cases e)]; exact e
 ·rw [up b (fun z=>by rw [z,hA] at e; cases e) (fun z=>by rw [z,fr0] at e; cases e),e]; simp
 ·by_cases hd:b=s2.heap.objs.size
  ·subst hd
   rw [upd_same] at e
   cases e
   refine ⟨_,k2,fun g=>?_⟩
   by_cases z:g=f
   ·subst z; simp [List.lookup,RelO]; exact ry
   ·have z2:(g == f)=false:=beq_eq_false_iff_ne.mpr z
    simp [List.lookup,z,z2,RelO]
  ·by_cases hb:b=a
   ·subst hb
    rw [upd_ne hd,upd_same] at e
    cases e
    exact xO_ok k1 g2 rfl g4 g5
   ·rw [up b hb hd] at e
    refine (I2.hok b u e).stay (fun x ox hh r=>k3 x ox (fun z=>?_) r) (fun x r=>?_) fun x xs r=>?_
    ·subst z
     rcases hh with hh | hh
     ·exact hb hh.symm
     ·rw [hA] at hh; cases hh
    ·rw [up x (fun z=>by rw [z,hA] at r; cases r) (fun z=>by rw [z,fr0] at r; cases r)]; exact r
    ·rw [up x (fun z=>by rw [z,hA] at r; cases r) (fun z=>by rw [z,fr0] at r; cases r)]; exact r
end
noncomputable def del (H:Hp) (e:Addr):Hp:=fun b=>if b=e then none else H b
theorem del_ne {H:Hp} {e b:Addr} (h:b≠e):del H e b=H b:=if_neg h
theorem del_same {H:Hp} {e:Addr}:del H e e=none:=if_pos rfl
theorem del_upd {H:Hp} {e:Addr} {o:HO} (h:H e=none):del (upd H e o) e=H:=by
 funext b
 by_cases q:b=e
 ·subst q; rw [del_same,h]
 ·rw [del_ne q,upd_ne q]
theorem del_upd_ne {H:Hp} {e d:Addr} {o:HO} (h:d≠e):del (upd H d o) e=upd (del H e) d o:=by
 funext b
 by_cases q:b=e
 ·subst q; rw [del_same,upd_ne (Ne.symm h),del_same]
 ·rw [del_ne q]
  by_cases z:b=d
  ·subst z; rw [upd_same,upd_same]
  ·rw [upd_ne z,upd_ne z,del_ne q]
section
variable {X:Cx} {pins:List (Addr×Obj)} {σ:St} {H:Hp} {s:Shared}
theorem Inv.untrack {e:Addr} {φ:Heap→Prop} (I:Inv X pins σ H s) (hx:H e=some (.ext φ)):Inv X pins σ (del H e) s:=by
 have nn:∀ b,H b=none→del H e b=none:=fun b n=>by
  by_cases q:b=e
  ·rw [q]; exact del_same
  ·rw [del_ne q]; exact n
 have ne:∀ {b:Addr} {o:HO},H b=some o→(∀ ψ,o≠.ext ψ)→del H e b=some o:=fun {b o} q n=>by
  rw [del_ne (fun z=>by rw [z,hx] at q; exact n φ (Option.some.inj q).symm)]; exact q
 refine ⟨I.ok,I.os,I.bare,⟨I.base.keep,I.base.slot,fun b o q n m=>nn b (I.base.free b o q n m),I.base.there,fun b xs q=>ne (I.base.tups b xs q) fun _ z=>(by cases z),fun b o u q=>ne (I.base.frzs b o u q) fun _ z=>(by cases z),fun b ps q=>?_⟩,I.loc,I.cell,nn _ I.free,fun y c q=>nn _ (I.freeC y c q),fun p hp=>?_,fun b u q=>?_,I.len⟩
 ·obtain ⟨more,z⟩:=I.base.tbls b ps q
  exact ⟨more,ne z fun _ z=>by cases z⟩
 ·obtain ⟨a,b,c⟩:=I.pin p hp
  exact ⟨a,nn _ b,c⟩
 ·by_cases z:b=e
  ·rw [z,del_same] at q; cases q
  ·rw [del_ne z] at q
   exact (I.hok b u q).stay (fun _ _ _ r=>r) (fun c r=>ne r fun _ z=>by cases z) fun c xs r=>ne r fun _ z=>by cases z
end
section
variable {X:Cx} {C f:Addr} {bm:List Value} {k:Nat} {fd:FuncData} {ps:List Str} {sp:Sp} {x:Str} {p pos rpos:Pos} {e:Expr} {es:List Expr} {t:TA}
structure XMk (P:Program) (w:World) (K:PySem.W.Frag) (mg:Str→Option Value) (base:Heap) (C:Addr) (k:Nat) (sp:Sp):Prop where
 ok:∃ f fd ps,PySem.W.findIn K (.ref C) "__init__"=some (some (.ref f))∧PySem.W.typeIn K (.ref f)=some (.type "function")∧FnOk P w K mg base CX0 k f fd ps sp∧Binds K fd ps []
theorem Inv.xborn {pins:List (Addr×Obj)} {σ:St} {H:Hp} {s:Shared} {us:List Value} (I:Inv X pins σ H s):Inv X pins σ (upd H (s.heap.objs.size + 1) (xO true (.ref C) none (s.heap.objs.size + 1))) { s with heap:=xHp s.heap C us } :=
 I.laid (a:=s.heap.objs.size + 1) (o:=xO true (.ref C) none (s.heap.objs.size + 1)) (t':=s.toks) (fun _ _=>xHp_keep) (Nat.le_succ _) (xO_ok xHp_new rfl rfl rfl fun _=>⟨_,rfl⟩)
theorem run_x {pins:List (Addr×Obj)} {σ:St} {H:Hp} {s:Shared} {Q:Addr→Hp→Prop} {us:List Value} {vs:List V} (c:XC X.K C bm) (M:XMk X.prog X.w X.K X.mg X.base C k sp) (hr:Room (k + 1) X.A) (I:Inv X pins σ H s) (r:Vals vs us) (hu:vs.length≤sizeLine)
  (h:∀ e,H e=none→sp (.ref e :: vs) (upd H e (xO true (.ref C) none e)) (fun v H2=>v=.non∧Q e H2) E0) :
  wpAny (model X.prog X.w) X.A (call (.ref C) us) (fun u s'=>∃ e H2,u=.ref e∧s.heap.objs.size≤e∧Inv X pins σ H2 s'∧Q e H2) X.xe s:=by
 obtain ⟨f,fd,ps,hi,hf,F,hb⟩:=M.ok
 have hq:=h (s.heap.objs.size + 1) (I.hok.fresh (Nat.le_succ _))
 have I2:=Inv.xborn (C:=C) (us:=us) I
 have r2:Vals (V.ref (s.heap.objs.size + 1) :: vs) (Value.ref (s.heap.objs.size + 1) :: us):=.cons rfl r
 have hl:(Value.ref (s.heap.objs.size + 1) :: us++[]).length=ps.length:=by
  rw [List.append_nil,← r2.length]
  exact F.len _ _ _ _ hq
 have bd:=hb _ (Value.ref (s.heap.objs.size + 1) :: us) I2.kIn hl
 rw [List.append_nil] at bd
 have run:=F.run _ X.stack _ _ ⟨Value.ref (s.heap.objs.size + 1) :: us,[]⟩ (Value.ref (s.heap.objs.size + 1) :: us) _ _ E0 (hr.make C us []) (I2.env0.make C us []) bd r2 hq
 have K0:=I.kIn
 have sz:s.heap.objs.size≤s.heap.objs.size + 1:=Nat.le_succ _
 obtain ⟨hh,g,d,tk,os⟩:=s
 refine x_call K0 c (by rw [← r.length]; exact hu) (PySem.W.looks_findIn K0 hi) (fun self=>PySem.W.bind_fn K0 self hf) ?_
 refine wpAny_call (codeAny_mono run fun rr s' z=>?_)
 cases rr with
 | error ev=>exact z.elim
 | ok fl =>
  cases fl with
  | ret u =>
   obtain ⟨v,H',I3,rv,ev,q3⟩:=I2.after z
   subst ev
   exact ⟨rv,_,H',rfl,sz,I3,q3⟩
  | _=>exact z.elim
theorem ev_exc {pins:List (Addr×Obj)} {σ:St} {H:Hp} {s:Shared} {R:List V→Hp→Prop} {Q:Value→Shared→Prop} (c:XC X.K C bm) (hg:Gl X x) (hm:X.mg x=some (.ref C)) (ha:PA X (e :: es) t) (I:Inv X pins σ H s) (h:t σ H R)
  (go:∀ us vs s1 H1,Inv X pins σ H1 s1→Vals vs us→R vs H1→X.s₀.heap.objs.size≤s1.heap.objs.size→wpAny (model X.prog X.w) X.A (call (.ref C) us) Q X.xe s1)
  (hdb:(x == ("__debug__":Str))=false:=by decide) (he:starEach (e :: es) X.env=(false,eval e X.env) :: starEach es X.env:=by rfl) (hpl:(backTo pos (starEach es X.env)).any (·.1)=false:=by rfl) :
  wpAny (model X.prog X.w) X.A (eval (.Call (.Name x p) (e :: es) [] pos) X.env) Q X.xe s:=by
 refine wpAny_Call_Name_kw (ld_glob I hg hm ?_ hdb)
 exact PySem.W.callWith_K (h₀:=X.base) I.ok.mod.kin c.kp (thn (ha pos pins s σ H _ I h) fun us s1 ⟨vs,H1,I1,r,q⟩=>⟨I1.kIn,go us vs s1 H1 I1 r q I1.sz⟩) he hpl
theorem x_raise {M:Model} {A:Around} {E:Value→Shared→Prop} {s:Shared} {env:Env} {v:Sem Value} {Q:Flow→Shared→Prop} {K:PySem.W.Frag} (hh:A.handled=none) (c:XC K C bm)
    (h:wpAny M A v (fun u s1=>∃ e oe a0,u=.ref e∧K.In s1.heap∧s1.heap.get? e=some oe∧oe.cls=.ref C∧oe.data=.fields #[a0,.none,.none,.none,.bool false,.none]∧E u s1) E s):wpAny M A (raiseStmt env (some v) none) Q E s:=by
  have hB:=c.has (v:=.type "BaseException") (by decide)
  obtain ⟨nm,qn,N,bs,sn,sub,ab,col,dd,k0,k1,k2,k3,k5,lk⟩:=c.lk
  unfold raiseStmt
  refine wpAny_bind (wpAny_mono h (fun u s1 z=>?_) fun _ _ z=>z)
  obtain ⟨e,oe,a0,rfl,X,he,hc,hd,hE⟩:=z
  have cC:=X _ _ lk
  obtain ⟨hp,g,d,tk,os⟩:=s1
  obtain ⟨oc,odi,oda,osl⟩:=oe
  dsimp only at hc hd
  subst hc hd
  repeat (first
    | with_reducible refine wpAny_loadPart_at he ?_
    | with_reducible refine wpAny_loadPart_at cC ?_
    | (with_reducible refine wpAny_isSubtype_exc cC ?_; rw [hB])
    | wp_step)
  exact wpAny_raiseNew_none hh hE
theorem XIn.fresh {E:XS} {σ:St} {H1 H2:Hp} {s1 s2:Shared} {pins:List (Addr×Obj)} {e:Addr} {dx:Option Addr} (I1:Inv X pins σ H1 s1) (I2:Inv X pins σ H2 s2) (le:s1.heap.objs.size≤e) (hx:H2 e=some (xO true (.ref C) dx e)) (hE:E (.ref C) dx σ (del H2 e)):XIn X E (.ref e) s2:=by
 obtain ⟨⟨oe,vs,g1,g2,g3,g4,g5⟩,_⟩:=(show ObjOk X.prog X.w H2 s2.heap e (xO true (.ref C) dx e) from I2.hok e _ hx)
 obtain ⟨a0,rfl⟩:=g5 rfl
 refine ⟨e,.ref C,dx,σ,del H2 e,rfl,(I2.untrack hx).pins_of fun p hp=>absurd hp (by simp),⟨del_same,Nat.le_trans I1.sz le,Nat.ne_of_gt (Nat.lt_of_lt_of_le I1.lt le),fun y c q z=>?_,fun p hp z=>?_⟩,.inl ⟨rfl,oe,_,g1,g2,g3,g4,rfl⟩,hE⟩
 ·obtain ⟨v,q⟩:=I1.cell y c q
  exact absurd (Nat.lt_of_lt_of_le q.lt (by rw [z]; exact le)) (Nat.lt_irrefl _)
 ·exact absurd (Nat.lt_of_lt_of_le (Heap.lt_size (I1.pin p (List.mem_append_left _ hp)).1) (by rw [z]; exact le)) (Nat.lt_irrefl _)
noncomputable def tRaise (C:Addr) (sp:Sp) (E:XS) (t:TA):TS:=fun _ σ H=>t σ H fun vs H1=>vs.length≤sizeLine∧∀ e,H1 e=none→sp (.ref e :: vs) (upd H1 e (xO true (.ref C) none e)) (fun v H2=>v=.non∧∃ dx,H2 e=some (xO true (.ref C) dx e)∧E (.ref C) dx σ (del H2 e)) E0
theorem ps_raise {E:XS} (hc:X.calm=true) (c:XC X.K C bm) (M:XMk X.prog X.w X.K X.mg X.base C k sp) (hr:Room (k + 1) X.A) (hm:X.mg x=some (.ref C)) (ha:PA (X.raises E) (e :: es) t) (hg:Gl X x:=by rfl)
  (hdb:(x == ("__debug__":Str))=false:=by decide) (he:starEach (e :: es) X.env=(false,eval e X.env) :: starEach es X.env:=by rfl) (hpl:(backTo pos (starEach es X.env)).any (·.1)=false:=by rfl) :
  PS (X.raises E) (.Raise (some (.Call (.Name x p) (e :: es) [] pos)) none rpos) (tRaise C sp E t):=by
 intro pins s σ H D I h
 rw [arm_exec_Raise]
 refine wpAny_bind (wpAny_standAt ?_)
 refine x_raise (K:=X.K) (I.ok.hd hc) c (wpAny_bind (ev_exc (X:=X.raises E) c hg hm ha I h (fun us vs s1 H1 I1 r ⟨z,q⟩ _=>thn (run_x (X:=X.raises E) (Q:=fun e H2=>∃ dx,H2 e=some (xO true (.ref C) dx e)∧E (.ref C) dx σ (del H2 e)) c M hr I1 r z q) fun u s2 ⟨e2,H2,eu,le,I2,dx,hx,hE⟩=>?_) hdb he hpl))
 subst eu
 obtain ⟨⟨oe,vs',g1,g2,g3,g4,g5⟩,_⟩:=(show ObjOk X.prog X.w H2 s2.heap e2 (xO true (.ref C) dx e2) from I2.hok e2 _ hx)
 obtain ⟨a0,rfl⟩:=g5 rfl
 exact wpAny_bind (wpAny_standAt (wpAny_pure ⟨e2,oe,a0,rfl,I2.kIn,g1,g2,g4,XIn.fresh I1.unwish I2.unwish le hx hE⟩))
end
section
variable {X:Cx} {E:XS} {k:Nat} {Fam:Addr→Sp→Prop} {x:Str} {p pos:Pos} {e:Expr} {es:List Expr} {tf:TE} {t:TA}
noncomputable def tCallVX (Fam:Addr→Sp→Prop) (E:XS) (tf:TE) (t:TA):TE:=fun σ H Q=>tf σ H fun x H1=>∃ f sp,x=.ref f∧Fam f sp∧t σ H1 fun vs H2=>sp vs H2 Q fun cls dx H'=>E cls dx σ H'
theorem pe_callVX (hF:∀ f sp,Fam f sp→Callee X.prog X.w X.K X.mg X.base (CXF X.prog X.w) k f sp) (hr:Room k X.A) (hf:PE (X.raises E) (.Name x p) tf) (ha:PA (X.raises E) (e :: es) t)
  (he:starEach (e :: es) X.env=(false,eval e X.env) :: starEach es X.env:=by rfl) (hpl:(backTo pos (starEach es X.env)).any (·.1)=false:=by rfl) :
  PE (X.raises E) (.Call (.Name x p) (e :: es) [] pos) (tCallVX Fam E tf t):=by
 intro pins s σ H Q I h
 refine wpAny_Call_Name_kw (thn (hf pins s σ H _ I h) fun u s1 ⟨y,H1,I1,r1,f,sp,ey,fam,q⟩=>?_)
 subst ey
 obtain rfl:u=Value.ref f:=r1
 obtain ⟨⟨fd,ps,F,hb⟩,hk⟩:=hF f sp fam
 refine PySem.W.callWith_K (h₀:=X.base) I.ok.mod.kin hk (thn (ha pos pins s1 σ H1 _ I1 q) fun us s2 ⟨vs,H2,I2,r,q2⟩=>⟨I2.kIn,?_⟩) he hpl
 have hl:us.length=ps.length:=by rw [← r.length]; exact F.len _ _ _ _ q2
 have bd:=hb s2 us I2.kIn (by simpa using hl)
 rw [List.append_nil] at bd
 refine wpAny_call (codeAny_mono (F.run X.A X.stack s2 H2 ⟨us,[]⟩ us vs Q (fun cls dx H'=>E cls dx σ H') hr I2.unwish.env0 bd r q2) fun rr s' z=>?_)
 cases rr with
 | error ev=>exact x_come I2.unwish z fun _ _ _ z=>z
 | ok fl =>
  cases fl with
  | ret u=>exact (I2.after z:EP (X.raises E) pins σ Q u s')
  | _=>exact z.elim
end
end L2
namespace L2
open PySem PySem.Spec PyProof.Rows
theorem cells_app:∀ (l:List (Str×NameKind)) (n:Nat) (acc:List (Str×Addr)),cellsFrom n l acc=cellsFrom n l []++acc
 | [],_,_=>rfl
 | (y,k) :: r,n,acc=>by
  unfold cellsFrom
  split
  ·rw [cells_app r (n + 1) ((y,n) :: acc),cells_app r (n + 1) [(y,n)],List.append_assoc]; rfl
  ·exact cells_app r n acc
theorem own_mem {x:Str} {c:Addr}:∀ {l:List (Str×NameKind)} {n:Nat} {acc:List (Str×Addr)},(x,c)∈cellsFrom n l acc→(x,NameKind.cell)∈l∨(x,c)∈acc
 | [],_,_,h=>.inr h
 | (y,k) :: r,n,acc,h=>by
  unfold cellsFrom at h
  split at h
  ·rename_i hk
   have hk':k=.cell:=by simpa using hk
   rcases own_mem h with q | q
   ·exact .inl (List.mem_cons_of_mem _ q)
   ·rcases List.mem_cons.mp q with z | z
    ·cases z; subst hk'; exact .inl List.mem_cons_self
    ·exact .inr z
  ·rcases own_mem h with q | q
   ·exact .inl (List.mem_cons_of_mem _ q)
   ·exact .inr q
theorem own_has {x:Str}:∀ {l:List (Str×NameKind)} {n:Nat} {acc:List (Str×Addr)},((x,NameKind.cell)∈l∨∃ c,(x,c)∈acc)→∃ c,(x,c)∈cellsFrom n l acc
 | [],_,_,h=>by
  rcases h with h | h
  ·cases h
  ·exact h
 | (y,k) :: r,n,acc,h=>by
  unfold cellsFrom
  split
  ·rename_i hk
   refine own_has ?_
   rcases h with h | ⟨c,h⟩
   ·rcases List.mem_cons.mp h with z | z
    ·cases z; exact .inr ⟨n,List.mem_cons_self⟩
    ·exact .inl z
   ·exact .inr ⟨c,List.mem_cons_of_mem _ h⟩
  ·rename_i hk
   refine own_has ?_
   rcases h with h | h
   ·rcases List.mem_cons.mp h with z | z
    ·cases z; exact absurd rfl hk
    ·exact .inl z
   ·exact .inr h
noncomputable abbrev ownCs (scope:Scope) (C:Addr):List (Str×Addr):=cellsFrom (C + 1) scope.names []
noncomputable def cxCC (X:Cx) (N:List Str) (scope:Scope) (cl:List (Str×Addr)) (C:Addr) (s2:Shared) (H2:Hp) (fp:List Addr):Cx:={ cxC X N scope (cellsFrom (C + 1) scope.names cl) C s2 H2 fp with fn:=fun x=>scope.names.lookup x == some .cell }
structure CompScopeC (X:Cx) (N:List Str) (mp:List (Option Nat)) (scope:Scope):Prop where
 kind:scope.kind=.function
 cells:∀ y∈scope.names,y.2=.cell→scope.names.lookup y.1=some .cell
 names:∀ y∈scope.names,y.2=.local→scope.names.lookup y.1=some .local
 len:mp.length=N.length
 out:∀ (i j:Nat),mp[i]?=some (some j)→∃ x,N[i]?=some x∧X.N[j]?=some x∧(X.env.scope.names.lookup x=some .cell∨X.env.scope.names.lookup x=some .free)∧scope.names.lookup x=some .free
section
variable {M:Model} {A:Around} {E:Value→Shared→Prop} {s:Shared}
theorem newEnv_cells {scope:Scope} {globals builtins:Addr} {cl:List (Str×Addr)} {qual:Str} {env:Env} {Q:Env→Shared→Prop}
  (h:Q (newEnv scope s.heap.objs.size globals (cellsFrom (s.heap.objs.size + 1) scope.names cl) qual none .none (some env) builtins) { s with heap:=pushCells (s.heap.push PySem.W.emptyDict) scope.names }) :
  wpAny M A (newFunctionEnv scope globals cl [] qual none .none (some env) builtins) Q E s:=by
 simp only [newFunctionEnv,Option.isSome_some,if_true]
 refine wpAny_bind (wpAny_alloc ?_)
 refine wpAny_bind (wpAny_layCells _ (fun name kind cells=>by cases hkc:kind == NameKind.cell <;> simp [hkc]) _ _ _ _ ?_)
 rw [show ({ s with heap:=s.heap.push { cls:=.type "dict",data:=.dict #[] } }:Shared).heap.objs.size=s.heap.objs.size + 1 from Heap.size_push ..]
 refine wpAny_bind (wpAny_pure ?_)
 exact wpAny_pure h
end
section
variable {X:Cx}
theorem comp_invO {pins:List (Addr×Obj)} {σ:St} {H:Hp} {s2:Shared} {N:List Str} {mp:List (Option Nat)} {scope:Scope} {cl:List (Str×Addr)} {fp:List Addr} {h1:Heap} {tk:Nat} (I:Inv X pins σ H s2) (S:CompScopeC X N mp scope)
  (hcl:closes X.env.cells scope.names []=some cl) (hfp:∀ b∈fp,FpOk X pins H b) (hfo:∀ b∈fp,∃ o,s2.heap.get? b=some o)
  (old:∀ b o,s2.heap.get? b=some o→h1.get? b=some o) {oo:HO} (hD:ObjOk X.prog X.w (upd H s2.heap.objs.size oo) h1 s2.heap.objs.size oo) {m:Str→Option Value} (hC:h1.Ns (s2.heap.objs.size + 1) m) (cok:CellsOk h1 (s2.heap.objs.size + 2) (ownCs scope (s2.heap.objs.size + 1))) :
  Inv (cxCC X N scope cl (s2.heap.objs.size + 1) s2 H fp) [] (compStart0 mp σ) (upd H s2.heap.objs.size oo) { s2 with heap:=h1,toks:=tk }:=by
 have clm:∀ {x:Str} {c:Addr},cl.lookup x=some c→X.env.cells.lookup x=some c:=fun {x c} e=>closes_mem hcl (fun p z=>absurd z (by simp)) (x,c) (PySem.mem_of_lookup e)
 have hn:H s2.heap.objs.size=none:=I.hok.fresh (Nat.le_refl _)
 have hnC:H (s2.heap.objs.size + 1)=none:=I.hok.fresh (Nat.le_succ _)
 have cellLt:∀ {x:Str} {c:Addr},X.env.cells.lookup x=some c→c < s2.heap.objs.size:=fun {x c} e=>by
  obtain ⟨v,q⟩:=I.cell x c e
  exact q.lt
 have freeOf:∀ x,((relabel scope X.env).names.lookup x=some .cell∨(relabel scope X.env).names.lookup x=some .free)→(x,NameKind.free)∈scope.names∨(x,NameKind.cell)∈scope.names:=fun x hx=>by
  have hm:(x,NameKind.cell)∈(relabel scope X.env).names∨(x,NameKind.free)∈(relabel scope X.env).names:=hx.elim (fun z=>.inl (PySem.mem_of_lookup z)) fun z=>.inr (PySem.mem_of_lookup z)
  have conv:∀ k,(x,k)∈(relabel scope X.env).names→(k=.cell∨k=.free)→(x,NameKind.free)∈scope.names∨(x,NameKind.cell)∈scope.names:=fun k hm hk=>by
   obtain ⟨⟨n,k'⟩,hy,e⟩:=List.mem_map.mp hm
   dsimp only at e
   split at e
   ·rename_i hc
    simp only [Bool.and_eq_true,beq_iff_eq] at hc
    cases e
    rw [hc.1.1] at hy
    exact .inl hy
   ·cases e
    rcases hk with z | z
    ·subst z; exact .inr hy
    ·subst z; exact .inl hy
  exact hm.elim (fun z=>conv _ z (.inl rfl)) fun z=>conv _ z (.inr rfl)
 have app:∀ x,(cellsFrom (s2.heap.objs.size + 1 + 1) scope.names cl).lookup x=((ownCs scope (s2.heap.objs.size + 1)).lookup x).or (cl.lookup x):=fun x=>by rw [cells_app,List.lookup_append]
 have two:∀ {x:Str} {c:Addr},(cellsFrom (s2.heap.objs.size + 1 + 1) scope.names cl).lookup x=some c→((ownCs scope (s2.heap.objs.size + 1)).lookup x=some c∧(h1.IsCell c none∧s2.heap.objs.size + 2≤c))∨X.env.cells.lookup x=some c:=fun {x c} e=>by
  rw [app] at e
  cases eo:(ownCs scope (s2.heap.objs.size + 1)).lookup x with
  | some d =>
   rw [eo] at e
   cases e
   exact .inl ⟨rfl,cok.empty _ _ (PySem.mem_of_lookup eo)⟩
  | none =>
   rw [eo] at e
   exact .inr (clm e)
 have ownHas:∀ {x:Str},(x,NameKind.cell)∈scope.names→∃ c,(ownCs scope (s2.heap.objs.size + 1)).lookup x=some c:=fun {x} hx=>by
  obtain ⟨c,hc⟩:=own_has (n:=s2.heap.objs.size + 1 + 1) (acc:=[]) (.inl hx)
  obtain ⟨d,hd,_⟩:=lookup_of_mem hc
  exact ⟨d,hd⟩
 have ok:(cxCC X N scope cl (s2.heap.objs.size + 1) s2 H fp).Ok:=by
  refine ⟨I.ok.mod,S.kind,I.ok.glob,I.ok.blt,Nat.le_succ _,fun x y c e1 e2=>?_,fun x hx=>?_,fun x c z e=>?_,I.ok.hd,I.ok.frames,.inl rfl,fun b hb=>⟨?_,fun x c e=>?_⟩,I.bs,Nat.le_trans I.ok.bsz I.sz,fun b o e hb=>?_,fun b hb z=>?_,I.stack,I.stkFree⟩
  ·rcases two e1 with ⟨o1,_,l1⟩ | o1 <;> rcases two e2 with ⟨o2,_,l2⟩ | o2
   ·exact name_of_addr cok.apart (PySem.mem_of_lookup o1) (PySem.mem_of_lookup o2)
   ·exact absurd (Nat.lt_of_lt_of_le (cellLt o2) (Nat.le_trans (Nat.le_add_right _ 2) l1)) (Nat.lt_irrefl _)
   ·exact absurd (Nat.lt_of_lt_of_le (cellLt o1) (Nat.le_trans (Nat.le_add_right _ 2) l2)) (Nat.lt_irrefl _)
   ·exact I.ok.inj x y c o1 o2
  ·show ∃ c,(cellsFrom (s2.heap.objs.size + 1 + 1) scope.names cl).lookup x=some c
   rcases freeOf x hx with q | q
   ·obtain ⟨c,hc⟩:=closes_has hcl (.inl q)
    obtain ⟨d,hd,_⟩:=lookup_of_mem hc
    rw [app,hd]
    cases (ownCs scope (s2.heap.objs.size + 1)).lookup x with
    | none=>exact ⟨d,rfl⟩
    | some c'=>exact ⟨c',rfl⟩
   ·obtain ⟨c,hc⟩:=ownHas q
    exact ⟨c,by rw [app,hc]; rfl⟩
  ·have z':scope.names.lookup x=some .cell:=beq_iff_eq.mp z
   obtain ⟨c',hc'⟩:=ownHas (PySem.mem_of_lookup z')
   have e':(cellsFrom (s2.heap.objs.size + 1 + 1) scope.names cl).lookup x=some c:=e
   rw [app,hc'] at e'
   cases e'
   exact Nat.le_trans (Nat.le_add_right _ 2) (cok.empty _ _ (PySem.mem_of_lookup hc')).2
  ·obtain ⟨o,e⟩:=hfo b hb
   exact Nat.ne_of_lt (Nat.lt_succ_of_lt (Heap.lt_size e))
  ·rcases two e with ⟨_,_,l⟩ | o
   ·obtain ⟨ob,eb⟩:=hfo b hb
    exact Ne.symm (Nat.ne_of_lt (Nat.lt_of_lt_of_le (Heap.lt_size eb) (Nat.le_trans (Nat.le_add_right _ 2) l)))
   ·exact (hfp b hb).2.2.2.2.1 x c o
  ·rcases (hfp b hb).2.2.2.1 with z | z
   ·exact I.ok.noex b o e z
   ·exact absurd (Nat.lt_of_lt_of_le (Heap.lt_size e) (Nat.le_trans I.ok.bsz z)) (Nat.lt_irrefl _)
  ·rcases List.mem_cons.mp (I.stkSub b z) with q | q
   ·exact (hfp b hb).2.1 q
   ·exact (hfp b hb).2.2.1 q
 refine ⟨ok,rfl,I.bare,Un.laid old (Nat.le_refl _) hn,⟨m,hC,fun i x v e1 e2 e3=>?_⟩,fun x c e=>?_,?_,fun x c e=>?_,(fun p hp=>nomatch hp),?_,?_⟩
 ·
  unfold compStart0 at e2
  rw [List.getElem?_map] at e2
  cases em:mp[i]? with
  | none=>rw [em] at e2; cases e2
  | some o =>
   rw [em] at e2
   cases o with
   | none=>cases e2
   | some j =>
    have e2':(σ[j]?).bind id=some v:=Option.some.inj e2
    obtain ⟨x',n1,n2,n3,n4⟩:=S.out i j em
    rw [show (cxCC X N scope cl (s2.heap.objs.size + 1) s2 H fp).N[i]?=N[i]? from rfl,n1] at e1
    cases e1
    have sj:σ[j]?=some (some v):=by
     cases ej:σ[j]? with
     | none=>rw [ej] at e2'; cases e2'
     | some o=>rw [ej] at e2'; exact congrArg some e2'
    obtain ⟨m0,hm0,hl⟩:=I.loc
    obtain ⟨u,ru,lk⟩:=hl j x v n2 sj (.inr n3)
    refine ⟨u,ru,.inr ⟨?_,?_⟩⟩
    ·have hf:(x,NameKind.free)∈scope.names:=PySem.mem_of_lookup n4
     have key:∀ l:List (Str×NameKind),l.lookup x=some .free→((l.map fun (n,k)=>if (k == NameKind.free && X.env.scope.kind == .function && X.env.kindOf n == some .cell) then (n,NameKind.cell) else (n,k)).lookup x=some .cell ∨
       (l.map fun (n,k)=>if (k == NameKind.free && X.env.scope.kind == .function && X.env.kindOf n == some .cell) then (n,NameKind.cell) else (n,k)).lookup x=some .free):=by
      intro l
      induction l with
      | nil=>intro z; cases z
      | cons y r ih =>
       obtain ⟨n,k⟩:=y
       intro z
       rw [List.lookup_cons] at z
       rw [List.map_cons]
       dsimp only
       by_cases en:(x == n)=true
       ·rw [en] at z
        dsimp only at z
        cases z
        split
        ·exact .inl (by rw [List.lookup_cons,en])
        ·exact .inr (by rw [List.lookup_cons,en])
       ·have en2:(x == n)=false:=by simpa using en
        rw [en2] at z
        dsimp only at z
        split
        ·rw [List.lookup_cons,en2]; exact ih z
        ·rw [List.lookup_cons,en2]; exact ih z
     exact key scope.names n4
    ·have hf:(x,NameKind.free)∈scope.names:=PySem.mem_of_lookup n4
     obtain ⟨c,hc⟩:=closes_has hcl (.inl hf)
     obtain ⟨d,hd,_⟩:=lookup_of_mem hc
     rcases lk with ⟨k1,_⟩ | ⟨_,c',hc',z⟩
     ·have k1':X.env.scope.names.lookup x=some .local:=k1
      rcases n3 with z | z <;> (rw [k1'] at z; cases z)
     ·have e:=clm hd
      rw [hc'] at e
      have e3:c'=d:=Option.some.inj e
      obtain ⟨o,ho,hdt⟩:=z
      rw [e3] at ho
      have no:(ownCs scope (s2.heap.objs.size + 1)).lookup x=none:=by
       cases eo:(ownCs scope (s2.heap.objs.size + 1)).lookup x with
       | none=>rfl
       | some c0 =>
        rcases own_mem (PySem.mem_of_lookup eo) with q | q
        ·have:=S.cells _ q rfl
         rw [n4] at this
         cases this
        ·cases q
      exact ⟨d,by show (cellsFrom (s2.heap.objs.size + 1 + 1) scope.names cl).lookup x=some d; rw [app,no]; exact hd,o,old _ _ ho,hdt⟩
 ·rcases two e with ⟨_,ic,_⟩ | q
  ·exact ⟨_,ic⟩
  ·obtain ⟨v,o,ho,hdt⟩:=I.cell x c q
   exact ⟨v,o,old _ _ ho,hdt⟩
 ·show upd H s2.heap.objs.size oo (s2.heap.objs.size + 1)=none
  rw [upd_ne (Nat.ne_of_gt (Nat.lt_succ_self _))]; exact hnC
 ·show upd H s2.heap.objs.size oo c=none
  rcases two e with ⟨_,_,l⟩ | q
  ·rw [upd_ne (Nat.ne_of_gt (Nat.lt_of_lt_of_le (Nat.lt_add_of_pos_right (by decide)) l))]
   exact I.hok.fresh (Nat.le_trans (Nat.le_add_right _ 2) l)
  ·rw [upd_ne (Nat.ne_of_lt (cellLt q))]
   exact I.freeC x c q
 ·exact I.hok.laid old (Nat.le_refl _) hD
 ·show (compStart0 mp σ).length=N.length
  unfold compStart0
  rw [List.length_map]; exact S.len
theorem comp_invC {pins:List (Addr×Obj)} {σ:St} {H:Hp} {s2:Shared} {N:List Str} {mp:List (Option Nat)} {scope:Scope} {cl:List (Str×Addr)} {fp:List Addr} {h1:Heap} {tk:Nat} (I:Inv X pins σ H s2) (S:CompScopeC X N mp scope)
  (hcl:closes X.env.cells scope.names []=some cl) (hfp:∀ b∈fp,FpOk X pins H b) (hfo:∀ b∈fp,∃ o,s2.heap.get? b=some o)
  (old:∀ b o,s2.heap.get? b=some o→h1.get? b=some o) (hD:h1.get? s2.heap.objs.size=some { cls:=.type "list",data:=.seq ([]:List Value).toArray }) {m:Str→Option Value} (hC:h1.Ns (s2.heap.objs.size + 1) m) (cok:CellsOk h1 (s2.heap.objs.size + 2) (ownCs scope (s2.heap.objs.size + 1))) :
  Inv (cxCC X N scope cl (s2.heap.objs.size + 1) s2 H fp) [] (compStart0 mp σ) (upd H s2.heap.objs.size (.lst [])) { s2 with heap:=h1,toks:=tk } :=
 comp_invO I S hcl hfp hfo old ⟨by show 0≤sizeLine; exact Nat.zero_le _,[],0,.nil,hD⟩ hC cok
theorem comp_run {elt iter tg:Expr} {ifs:List Expr} {scope:Scope} {pos:Pos} {N:List Str} {mp:List (Option Nat)} {cl:List (Str×Addr)} {wi:TI} {g:Addr→Shared→Hp→List Addr→TG} {tt:Addr→Shared→Hp→List Addr→TT} {te:Addr→Shared→Hp→List Addr→TE}
  (hc:X.calm=true) (S:CompScopeC X N mp scope) (hcl:closes X.env.cells scope.names []=some cl) (hi:PI X tg iter wi)
  (hg:∀ C s2 H2 fp,PG (cxCC X N scope cl C s2 H2 fp) tg (g C s2 H2 fp)) (ht:∀ C s2 H2 fp,PTL (cxCC X N scope cl C s2 H2 fp) ifs (tt C s2 H2 fp)) (he:∀ C s2 H2 fp,PE (cxCC X N scope cl C s2 H2 fp) elt (te C s2 H2 fp))
  (hs:∀ x,foldedSetIterable iter X.env x=pure x)
  {use:Option (Value→Sem Unit)} {PQ:Value→Shared→Prop} {pins:List (Addr×Obj)} {s:Shared} {σ:St} {H:Hp} {Q:VK} (I:Inv X pins σ H s) (h:tComp mp wi g tt te σ H Q)
  (fin:∀ (H2:Hp) (s2:Shared) (fp:List Addr) (σ':St) (H':Hp) (s':Shared),Inv X pins σ H2 s2→(∀ b∈fp,FpOk X pins H2 b)→Inv (cxCC X N scope cl (s2.heap.objs.size + 1) s2 H2 fp) [] σ' H' s'→Q (.ref s2.heap.objs.size) H' →
   compPost (model X.prog X.w) X.A X.xe use PQ (.ref s2.heap.objs.size) (s2.heap.objs.size + 1) (.ok .next) s') :
  wpAny (model X.prog X.w) X.A (comprehension (.ListComp elt [⟨tg,iter,ifs,0⟩] scope pos) scope X.env (firstIterPos [⟨tg,iter,ifs,0⟩] pos) (newList []) (firstAsync [⟨tg,iter,ifs,0⟩]) (firstIter [⟨tg,iter,ifs,0⟩] X.env) use) PQ X.xe s:=by
 refine wpAny_comprehension_free (use:=use) rfl hs (closureFor_of hcl) S.kind S.names (thn (hi pins s σ H _ I h) fun v s1 h1=>thn h1 fun itv s2 h2=>?_)
 obtain ⟨it,fp,tn,J,H2,e,I2,T,st2,f2,h3⟩:=h2
 subst e
 refine wpAny_newObj_type (newEnv_cells ?_)
 dsimp only
 have hn2:H2 s2.heap.objs.size=none:=I2.hok.fresh (Nat.le_refl _)
 generalize hH2:s2.heap.push { cls:=.type "list",dict:=none,data:=.seq ([]:List Value).toArray }=G2
 have hC:G2.objs.size=s2.heap.objs.size + 1:=by rw [← hH2,Heap.size_push]
 generalize hh1:pushCells (G2.push PySem.W.emptyDict) scope.names=h₁
 have old1:∀ b o,G2.get? b=some o→h₁.get? b=some o:=fun b o e=>by rw [← hh1]; exact pushCells_keeps _ _ b o (Heap.get?_push_of_some _ e)
 have old:∀ b o,s2.heap.get? b=some o→h₁.get? b=some o:=fun b o e=>old1 b o (hH2 ▸ Heap.get?_push_of_some _ e)
 have hD1:h₁.get? s2.heap.objs.size=some { cls:=.type "list",data:=.seq ([]:List Value).toArray }:=old1 _ _ (hH2 ▸ Heap.get?_push_size _ rfl)
 have hns₁:h₁.Ns (s2.heap.objs.size + 1) (fun _=>none):=by
  have e1:h₁.get? G2.objs.size=some PySem.W.emptyDict:=by rw [← hh1]; exact pushCells_keeps _ _ _ _ (Heap.get?_push_size _ rfl)
  rw [hC] at e1
  exact ⟨_,#[],_,e1,rfl,fun e he=>absurd he (by simp),fun _=>rfl⟩
 have cok:CellsOk h₁ (s2.heap.objs.size + 2) (ownCs scope (s2.heap.objs.size + 1)):=by
  have:=cellsFrom_ok scope.names (G2.push PySem.W.emptyDict) (s2.heap.objs.size + 2) [] ⟨fun _ _ hm=>(nomatch hm),List.Pairwise.nil⟩ (by rw [Heap.size_push,hC]; exact Nat.le_refl _)
  rw [Heap.size_push,hC,hh1] at this
  exact this
 obtain ⟨W,⟨m0,w0⟩,turn⟩:=h3 s2.heap.objs.size hn2 (s2.heap.objs.size + 1) s2 fp
 have I4:=comp_invC (tk:=s2.toks) I2 S hcl f2 (fun b hb=>let ⟨o,e,_⟩:=T.obj _ _ st2 b hb; ⟨o,e⟩) old hD1 hns₁ cok
 have st4:tn 0 h₁:=T.keep _ _ _ st2 fun b hb o e=>old b o e
 have stat:∀ {pl:List (Addr×Obj)} {H':Hp},(∀ b∈fp,H' b=none)→(∀ p∈pl,p.1 ∉ fp)→∀ b∈fp,FpOk (cxCC X N scope cl (s2.heap.objs.size + 1) s2 H2 fp) pl H' b:=fun {pl H'} hn hp b hb =>
  ⟨hn b hb,(I4.ok.exf b hb).1,I4.ok.exfs b hb,.inl hb,(I4.ok.exf b hb).2,fun p z q=>hp p (by simpa [cxC,cxCC] using z) (by rw [q]; exact hb)⟩
 have fr0:∀ b∈fp,(upd H2 s2.heap.objs.size (.lst [])) b=none:=fun b hb=>by
  obtain ⟨o,e,_⟩:=T.obj _ _ st2 b hb
  rw [upd_ne (Nat.ne_of_lt (Heap.lt_size e))]
  exact (f2 b hb).1
 have loop:codeAny (model X.prog X.w) X.A (.compLoop (.ListComp elt [⟨tg,iter,ifs,0⟩] scope pos) 0 (.ref it) (.ref s2.heap.objs.size) (compEnvC scope (cellsFrom (s2.heap.objs.size + 1 + 1) scope.names cl) (s2.heap.objs.size + 1) X.env))
   (compPost (model X.prog X.w) X.A X.xe use PQ (.ref s2.heap.objs.size) (s2.heap.objs.size + 1)) { s2 with heap:=h₁,toks:=s2.toks }:=by
  refine compLoop_go (fun n s'=>∃ i σ' H',Inv (cxCC X N scope cl (s2.heap.objs.size + 1) s2 H2 fp) [] σ' H' s'∧tn i s'.heap∧(∀ b∈fp,H' b=none)∧W i n σ' H') ?_ m0 ⟨0,_,_,I4,st4,fr0,w0⟩
  rintro n s3 ⟨i,σ3,H3,I3,st3,fr3,w3⟩
  rcases turn i n σ3 H3 w3 with ⟨stop,qn⟩ | ⟨go,N',hN,step⟩
  ·refine (thn (T.done (cxCC X N scope cl (s2.heap.objs.size + 1) s2 H2 fp) rfl rfl rfl hc i [] s3 σ3 H3 (fun _ _=>False) I3 (stat fr3 (fun _ z=>nomatch z)) st3 stop) fun r s4 ⟨hr,I4'⟩=>?_)
   subst hr
   exact fin H2 s2 fp _ _ _ I2 f2 I4' qn
  ·refine (thn (T.item (cxCC X N scope cl (s2.heap.objs.size + 1) s2 H2 fp) rfl rfl rfl hc i [] s3 σ3 H3 (fun _ _=>False) I3 (stat fr3 (fun _ z=>nomatch z)) st3 go) fun r s4 ⟨u,hr,h4⟩=>?_)
   subst hr
   refine thn h4 fun _ s5 ⟨x,H5,I5,r5,y5,st5,fr5⟩=>?_
   have I5':=I5.pinned (pins:=[]) (stat fr5 (fun _ z=>nomatch z)) (T.obj _ _ st5)
   refine (thn (hg (s2.heap.objs.size + 1) s2 H2 fp _ s5 σ3 H5 x u _ I5' r5 (step x H5 y5)) fun _ s6 ⟨σ6,H6,I6,q6⟩=>?_)
   refine (thn (ht (s2.heap.objs.size + 1) s2 H2 fp _ s6 σ6 H6 _ I6 q6) fun b s7 ⟨H7,I7,q7⟩=>?_)
   have again:∀ {σ7:St} {H7:Hp} {s7:Shared},Inv (cxCC X N scope cl (s2.heap.objs.size + 1) s2 H2 fp) ([]++pinsAt fp s5.heap) σ7 H7 s7→N' σ7 H7→∃ m,m < n∧∃ i σ' H',Inv (cxCC X N scope cl (s2.heap.objs.size + 1) s2 H2 fp) [] σ' H' s7∧tn i s7.heap∧(∀ b∈fp,H' b=none)∧W i m σ' H':=fun {σ7 H7 s7} I7 n7=>by
    obtain ⟨m',hm,w7⟩:=hN σ7 H7 n7
    refine ⟨m',hm,i + 1,σ7,H7,I7.unpinned,T.keep _ _ _ st5 fun b hb o e=>(I7.pin (b,o) (List.mem_append_right _ (List.mem_append_right _ (mem_pinsAt hb e)))).1,fun b hb=>?_,w7⟩
    obtain ⟨o,e,d⟩:=T.obj _ _ st5 b hb
    exact (I7.pin (b,o) (List.mem_append_right _ (List.mem_append_right _ (mem_pinsAt hb e)))).2.1
   cases b with
   | false =>
    rw [if_neg Bool.false_ne_true] at q7 ⊢
    exact again I7 q7
   | true =>
    rw [if_pos rfl] at q7 ⊢
    refine (thn (he (s2.heap.objs.size + 1) s2 H2 fp _ s7 σ6 H7 _ I7 q7) fun y s8 ⟨yv,H8,I8,ry,xs,hx,hz,n8⟩=>?_)
    refine (thn (mt_append (X:=cxCC X N scope cl (s2.heap.objs.size + 1) s2 H2 fp) _ s8 σ6 H8 (.ref s2.heap.objs.size) [yv] (.ref s2.heap.objs.size) [y] (fun _ H'=>N' σ6 H') I8 rfl (.cons ry .nil) ⟨_,xs,yv,rfl,rfl,hx,hz,n8⟩) fun _ s9 ⟨_,H9,I9,_,n9⟩=>?_)
    exact again I9 n9
 have goal:=codeAny_compStart_list loop (T.self X.A 0 { s2 with heap:=h₁,toks:=s2.toks } _ _ st4 loop)
 rw [hC]
 exact goal
theorem comp_back {N:List Str} {scope:Scope} {cl:List (Str×Addr)} {pins:List (Addr×Obj)} {σ σ':St} {H2 H':Hp} {s2 s':Shared} {fp:List Addr} {h'':Heap} (I2:Inv X pins σ H2 s2) (f2:∀ b∈fp,FpOk X pins H2 b) (J':Inv (cxCC X N scope cl (s2.heap.objs.size + 1) s2 H2 fp) [] σ' H' s')
  (keepC:∀ b o,b≠s2.heap.objs.size + 1→s'.heap.get? b=some o→h''.get? b=some o):Inv X pins σ H' { s' with heap:=h'' }:=by
 have u0:=J'.base
 have neC:∀ b o,s2.heap.get? b=some o→b≠s2.heap.objs.size + 1:=fun b o e=>Nat.ne_of_lt (Nat.lt_succ_of_lt (Heap.lt_size e))
 have u:Un (frs X.stack) fp H2 H' s2.heap h'':=⟨fun b o e n hb hx=>keepC b o (neC b o e) (u0.keep b o e n hb hx),fun b o e n hb hx=>by
   obtain ⟨sl,e1⟩:=u0.slot b o e n hb hx
   exact ⟨sl,keepC b _ (neC b o e) e1⟩,u0.free,fun b o e hx=>by
   obtain ⟨o',e1⟩:=u0.there b o e hx
   exact ⟨o',keepC b o' (neC b o e) e1⟩,u0.tups,u0.frzs,u0.tbls⟩
 have freeC:H' (s2.heap.objs.size + 1)=none:=J'.free
 have hok:HOk X.prog X.w H' h'':=fun b o e=>(J'.hok b o e).stay (fun c v hcc r=>keepC c v (by
   intro z
   rcases hcc with q1 | q1
   ·rw [← q1,z,freeC] at e; cases e
   ·rw [z,freeC] at q1; cases q1) r) (fun _ z=>z) fun _ _ z=>z
 exact I2.call' (s':={ s' with heap:=h'' }) J'.os u hok J'.bare fun b hb=>⟨(f2 b hb).2.2.2.1,(f2 b hb).2.1,(f2 b hb).2.2.2.2.1,(f2 b hb).2.2.2.2.2⟩
theorem pe_compC {elt iter tg:Expr} {ifs:List Expr} {scope:Scope} {pos:Pos} {N:List Str} {mp:List (Option Nat)} {cl:List (Str×Addr)} {wi:TI} {g:Addr→Shared→Hp→List Addr→TG} {tt:Addr→Shared→Hp→List Addr→TT} {te:Addr→Shared→Hp→List Addr→TE}
  (hc:X.calm=true) (S:CompScopeC X N mp scope) (hcl:closes X.env.cells scope.names []=some cl) (hi:PI X tg iter wi)
  (hg:∀ C s2 H2 fp,PG (cxCC X N scope cl C s2 H2 fp) tg (g C s2 H2 fp)) (ht:∀ C s2 H2 fp,PTL (cxCC X N scope cl C s2 H2 fp) ifs (tt C s2 H2 fp)) (he:∀ C s2 H2 fp,PE (cxCC X N scope cl C s2 H2 fp) elt (te C s2 H2 fp))
  (hs:∀ x,foldedSetIterable iter X.env x=pure x:=by intro _; rfl) :
  PE X (.ListComp elt [⟨tg,iter,ifs,0⟩] scope pos) (tComp mp wi g tt te):=by
 intro pins s σ H Q I h
 rw [eval_ListComp]
 refine comp_run hc S hcl hi hg ht he hs I h fun H2 s2 fp σ' H' s' I2 f2 J' q=>?_
 obtain ⟨m,hm,_⟩:=id J'.loc
 exact ⟨m,hm,fun h'' sb=>⟨.ref s2.heap.objs.size,H',comp_back I2 f2 J' fun b o hb e=>sb.extBut b o hb e,rfl,q⟩⟩
theorem ps_setC {i:Nat} {x:Str} {pos' spos:Pos} {elt iter tg:Expr} {ifs:List Expr} {scope:Scope} {pos:Pos} {N:List Str} {mp:List (Option Nat)} {cl:List (Str×Addr)} {wi:TI} {g:Addr→Shared→Hp→List Addr→TG} {tt:Addr→Shared→Hp→List Addr→TT} {te:Addr→Shared→Hp→List Addr→TE}
  (hN:X.N.Nodup) (hx:X.N[i]?=some x) (hl:Loc X.env.scope x) (hc:X.calm=true) (S:CompScopeC X N mp scope) (hcl:closes X.env.cells scope.names []=some cl) (hi:PI X tg iter wi)
  (hg:∀ C s2 H2 fp,PG (cxCC X N scope cl C s2 H2 fp) tg (g C s2 H2 fp)) (ht:∀ C s2 H2 fp,PTL (cxCC X N scope cl C s2 H2 fp) ifs (tt C s2 H2 fp)) (he:∀ C s2 H2 fp,PE (cxCC X N scope cl C s2 H2 fp) elt (te C s2 H2 fp))
  (hs:∀ x,foldedSetIterable iter X.env x=pure x:=by intro _; rfl)
  (hsw:swapsWith (.ListComp elt [⟨tg,iter,ifs,0⟩] scope pos) (some (.Name x pos')) spos.line X.env=pure true:=by rfl)
  (hf:X.fn x=true∨X.env.scope.names.lookup x=some .local:=by first | exact .inl rfl | exact .inr rfl | assumption) :
  PS X (.Assign [.Name x pos'] (.ListComp elt [⟨tg,iter,ifs,0⟩] scope pos) spos) (fun D σ H=>tComp mp wi g tt te σ H fun v H1=>D.nx (σ.set i (some v)) H1):=by
 intro pins s σ H D I h
 rw [exec_Assign_Name_used _ _ _ _ hsw]
 refine wpAny_bind (wpAny_standAt ?_)
 rw [arm_evalThenUse_ListComp]
 refine wpAny_bind (wpAny_bind (thn (comp_run hc S hcl hi hg ht he hs (PQ:=fun _ s'=>SP X pins D .next s') I h fun H2 s2 fp σ' H' s' I2 f2 J' q=>?_) fun _ _ z=>wpAny_pure (wpAny_pure z)))
 ·obtain ⟨m,⟨oC,es,ep,ho,r⟩,_⟩:=id J'.loc
  have I3:Inv X pins σ H' s':=comp_back (h'':=s'.heap) I2 f2 J' fun b o _ e=>e
  have nL:s2.heap.objs.size + 1≠X.env.locals:=Nat.ne_of_gt (Nat.lt_of_lt_of_le I2.lt (Nat.le_succ _))
  have nf:s2.heap.objs.size + 1 ∉ X.fs:=I2.nofs (Nat.le_succ _)
  have fp:=Inv.fpOk (H':=H') I2 (Nat.le_succ _) (b:=s2.heap.objs.size + 1) J'.free
  have I4:Inv X (pins++[(s2.heap.objs.size + 1,oC)]) σ H' s':=I3.pins_of fun p hp=>by
   rcases List.mem_append.mp hp with z | z
   ·exact I3.pin p (List.mem_append_right _ z)
   ·have e:p=(s2.heap.objs.size + 1,oC):=by simpa using z
    subst e
    exact ⟨ho,J'.free,nL,nf,fun v z=>by rw [r.1] at z; cases z⟩
  show wpAny _ _ (assign (.Name x pos') X.env _) _ _ _
  refine wpAny_bind (wpAny_standAt (wpAny_bindName (store_ok I4 hN hx hl (show RelV (.ref s2.heap.objs.size) (.ref s2.heap.objs.size) from rfl) (fun s5 I5=>?_) hf)))
  obtain ⟨hC,_⟩:=I5.pin (s2.heap.objs.size + 1,oC) (List.mem_append_right _ (List.mem_append_right _ (by simp)))
  refine ⟨m,⟨oC,es,ep,hC,r⟩,fun h' sb=>⟨_,H',?_,q⟩⟩
  have I6:Inv X pins (σ.set i (some (.ref s2.heap.objs.size))) H' s5:=I5.pins_of fun p hp=>I5.pin p (List.mem_append_right _ (List.mem_append_left _ hp))
  exact I6.turned (t':=s5.toks) (it:=s2.heap.objs.size + 1) (fun b o hb e=>sb.extBut b o hb e) fp.1 fp.2.1 fp.2.2.2.1 fp.2.2.2.2.1 fp.2.2.2.2.2
theorem csC_of {N:List Str} {scope:Scope} (mp:List (Option Nat)) (h1:scope.kind=.function) (h2:∀ y∈scope.names,y.2=.cell→scope.names.lookup y.1=some .cell) (h3:∀ y∈scope.names,y.2=.local→scope.names.lookup y.1=some .local) (h4:mp.length=N.length)
  (h5:outChk X.N X.env.scope.names N scope.names mp 0=true):CompScopeC X N mp scope :=
 ⟨h1,h2,h3,h4,fun i j e=>by
  obtain ⟨x,a,b,c,d⟩:=outChk_ok h5 i j e
  exact ⟨x,by simpa using a,b,c,d⟩⟩
end
end L2
namespace L2
open PySem PySem.Spec PyProof.Rows
theorem compTurn_two0 (elt t1 i1 t2 i2:Expr) (scope:Scope) (pos:Pos) (it acc:Value) (env:Env) :
  compTurn (.ListComp elt [⟨t1,i1,[],0⟩,⟨t2,i2,[],0⟩] scope pos) 0 it acc env=(do
   standAt i1.pos
   match ← pyNext it with
   | none=>pure (.done .next)
   | some v =>
    letOwnedTupleGo t1 it v
    assign t1 env v
    let x ← eval i2 env
    standAt i2.pos
    let x ← foldedSetIterable i2 env x
    let _ ← runOwn (.compStart (.ListComp elt [⟨t1,i1,[],0⟩,⟨t2,i2,[],0⟩] scope pos) 1 (← holding [x] (pyIter x)) acc env) env
    again (.compLoop (.ListComp elt [⟨t1,i1,[],0⟩,⟨t2,i2,[],0⟩] scope pos) 0 it acc env)):=by rfl
theorem compTurn_two1 (elt t1 i1 t2 i2:Expr) (scope:Scope) (pos:Pos) (it acc:Value) (env:Env) :
  compTurn (.ListComp elt [⟨t1,i1,[],0⟩,⟨t2,i2,[],0⟩] scope pos) 1 it acc env=(do
   standAt i2.pos
   match ← pyNext it with
   | none=>pure (.done .next)
   | some v =>
    letOwnedTupleGo t2 it v
    assign t2 env v
    (do let _ ← call (.builtin "list.append") [acc,← eval elt env])
    again (.compLoop (.ListComp elt [⟨t1,i1,[],0⟩,⟨t2,i2,[],0⟩] scope pos) 1 it acc env)):=by rfl
section
variable {prog:Program} {w:World} {A:Around} {R:Result→Shared→Prop} {s:Shared}
theorem compStart_two1 {elt t1 i1 t2 i2 scope pos it acc env}
    (h0:codeAny (model prog w) A (.compLoop (.ListComp elt [⟨t1,i1,[],0⟩,⟨t2,i2,[],0⟩] scope pos) 1 it acc env) R s)
    (h:wpAny (model prog w) A (pyIter it) (fun it' s'=>codeAny (model prog w) A (.compLoop (.ListComp elt [⟨t1,i1,[],0⟩,⟨t2,i2,[],0⟩] scope pos) 1 it' acc env) R s')
      (notedBy (model prog w) A env fun x s'=>R (.error x) s') s) :
    codeAny (model prog w) A (.compStart (.ListComp elt [⟨t1,i1,[],0⟩,⟨t2,i2,[],0⟩] scope pos) 1 it acc env) R s:=by
  refine codeAny_of_tree ?_
  show wpAny _ _ ((compStart (.ListComp elt [⟨t1,i1,[],0⟩,⟨t2,i2,[],0⟩] scope pos) 1 it acc env).onRaise (fun x=>do noteFrame x env; standAt theWindowsPlace)) _ _ s
  refine wpAny_notedAt ?_
  unfold compStart
  show wpAny _ _ (ask >>= _) _ _ s
  refine wpAny_bind (wpAny_askSetting (wpAny_ite ?_))
  split
  · first
      | exact wpAny_bind (wpAny_pure (wpAny_pure (And.intro rfl h0)))
      | exact wpAny_pure (And.intro rfl h0)
  · first
      | exact wpAny_bind (wpAny_rule (wpAny_bind (wpAny_standAt (wpAny_bind (wpAny_mono h (fun it' s' h'=>wpAny_pure (And.intro rfl h')) fun _ _ x=>x)))))
      | (refine wpAny_bind (wpAny_rule ?_); show wpAny _ _ (standAt i2.pos >>= _) _ _ s; exact wpAny_bind (wpAny_standAt (wpAny_bind (wpAny_mono h (fun it' s' h'=>wpAny_pure (And.intro rfl h')) fun _ _ x=>x))))
theorem compLoop_two0 {elt t1 i1 t2 i2:Expr} {scope:Scope} {pos:Pos} {it acc:Value} {env:Env} (I:Nat→Shared→Prop) (hs:∀ x,foldedSetIterable i2 env x=pure x)
  (turn:∀ n s,I n s→wpAny (model prog w) A (pyNext it) (fun r s₁=>match r with
   | none=>R (.ok .next) s₁
   | some v=>wpAny (model prog w) A (letOwnedTupleGo t1 it v) (fun _ s1=>wpAny (model prog w) A (assign t1 env v) (fun _ s₂ =>
     wpAny (model prog w) A (eval i2 env) (fun x s₃=>wpAny (model prog w) A (pyIter x) (fun it2 s₄ =>
      codeAny (model prog w) A (.compStart (.ListComp elt [⟨t1,i1,[],0⟩,⟨t2,i2,[],0⟩] scope pos) 1 it2 acc env) (fun r s₅=>r=.ok .next∧∃ m,m < n∧I m s₅) s₄) (fun _ _=>False) s₃) (fun _ _=>False) s₂) (fun _ _=>False) s1) (fun _ _=>False) s₁) (fun _ _=>False) s)
  (n:Nat) (h:I n s) :
  codeAny (model prog w) A (.compLoop (.ListComp elt [⟨t1,i1,[],0⟩,⟨t2,i2,[],0⟩] scope pos) 0 it acc env) R s:=by
 refine codeAny_loop rfl I (fun n s hI=>?_) n h
 show wpAny _ A ((compTurn (.ListComp elt [⟨t1,i1,[],0⟩,⟨t2,i2,[],0⟩] scope pos) 0 it acc env).onRaise (fun x=>do noteFrame x env; theTreesLotGoes x)) _ _ s
 refine wpAny_noted ?_
 rw [compTurn_two0]
 refine wpAny_bind (wpAny_standAt (wpAny_bind (wpAny_mono (turn n s hI) (fun r s₁ h₁=>?_) fun _ _ h'=>h'.elim)))
 cases r with
 | none=>exact wpAny_pure h₁
 | some v =>
  refine wpAny_bind (wpAny_mono h₁ (fun _ s1 h1=>wpAny_bind (wpAny_mono h1 (fun _ s₂ h₂=>wpAny_bind (wpAny_mono h₂ (fun x s₃ h₃=>?_) fun _ _ h'=>h'.elim)) fun _ _ h'=>h'.elim)) fun _ _ h'=>h'.elim)
  refine wpAny_bind (wpAny_standAt (wpAny_bind (wpAny_of_eq (hs x) (wpAny_bind (wpAny_holding (wpAny_mono h₃ (fun it2 s₄ h₄=>?_) fun _ _ h'=>h'.elim))))))
  refine wpAny_bind (wpAny_runOwn (codeAny_mono h₄ fun r s₅ hr=>?_))
  obtain ⟨rfl,hm⟩:=hr
  exact wpAny_pure ⟨rfl,hm⟩
theorem compLoop_two1 {elt t1 i1 t2 i2:Expr} {scope:Scope} {pos:Pos} {it acc:Value} {env:Env} (I:Nat→Shared→Prop)
  (turn:∀ n s,I n s→wpAny (model prog w) A (pyNext it) (fun r s₁=>match r with
   | none=>R (.ok .next) s₁
   | some v=>wpAny (model prog w) A (letOwnedTupleGo t2 it v) (fun _ s1=>wpAny (model prog w) A (assign t2 env v) (fun _ s₂ =>
     wpAny (model prog w) A (eval elt env) (fun x s₄ =>
       wpAny (model prog w) A (call (.builtin "list.append") [acc,x]) (fun _ s₅=>∃ m,m < n∧I m s₅) (fun _ _=>False) s₄) (fun _ _=>False) s₂) (fun _ _=>False) s1) (fun _ _=>False) s₁) (fun _ _=>False) s)
  (n:Nat) (h:I n s) :
  codeAny (model prog w) A (.compLoop (.ListComp elt [⟨t1,i1,[],0⟩,⟨t2,i2,[],0⟩] scope pos) 1 it acc env) R s:=by
 refine codeAny_loop rfl I (fun n s hI=>?_) n h
 show wpAny _ A ((compTurn (.ListComp elt [⟨t1,i1,[],0⟩,⟨t2,i2,[],0⟩] scope pos) 1 it acc env).onRaise (fun x=>do noteFrame x env; theTreesLotGoes x)) _ _ s
 refine wpAny_noted ?_
 rw [compTurn_two1]
 refine wpAny_bind (wpAny_standAt (wpAny_bind (wpAny_mono (turn n s hI) (fun r s₁ h₁=>?_) fun _ _ h'=>h'.elim)))
 cases r with
 | none=>exact wpAny_pure h₁
 | some v =>
  refine wpAny_bind (wpAny_mono h₁ (fun _ s1 h1=>wpAny_bind (wpAny_mono h1 (fun _ s₂ h₂=>?_) fun _ _ h'=>h'.elim)) fun _ _ h'=>h'.elim)
  exact wpAny_bind (wpAny_bind (wpAny_mono h₂ (fun x s₄ h₄=>wpAny_bind (wpAny_mono h₄ (fun _ s₅ h₅=>wpAny_pure (wpAny_pure ⟨rfl,h₅⟩)) fun _ _ h'=>h'.elim)) fun _ _ h'=>h'.elim))
end
noncomputable def tIn (D:Addr) (wi:TI) (g:TG) (te:TE) (NX:St→Hp→Prop) (σ:St) (H:Hp):Prop:=wi σ H fun J H1=>∃ W:Nat→Nat→St→Hp→Prop,(∃ m,W 0 m σ H1)∧∀ i m σ H,W i m σ H →
 (J.stop i H∧NX σ H)∨(J.go i H∧∃ N:St→Hp→Prop,(∀ σ' H',N σ' H'→∃ m',m' < m∧W (i + 1) m' σ' H')∧∀ x H',J.yld i H x H'→g x σ H' fun σ2 H2=>te σ2 H2 fun y H5=>∃ xs,H5 D=some (.lst xs)∧xs.length < sizeLine∧N σ2 (upd H5 D (.lst (xs++[y]))))
noncomputable def tComp2 (mp:List (Option Nat)) (wi:TI) (g:Addr→Shared→Hp→List Addr→TG) (wi2:Addr→Shared→Hp→List Addr→TI) (g2:Addr→Shared→Hp→List Addr→TG) (te:Addr→Shared→Hp→List Addr→TE):TE:=fun σ H Q=>wi σ H fun J H1=>∀ (D:Addr),H1 D=none→∀ (C:Addr) (s2:Shared) (fp:List Addr),
 ∃ W:Nat→Nat→St→Hp→Prop,(∃ m,W 0 m (compStart0 mp σ) (upd H1 D (.lst [])))∧∀ i m σ2 H2,W i m σ2 H2 →
  (J.stop i H2∧Q (.ref D) H2)∨(J.go i H2∧∃ N:St→Hp→Prop,(∀ σ' H',N σ' H'→∃ m',m' < m∧W (i + 1) m' σ' H')∧∀ x H',J.yld i H2 x H'→g C s2 H1 fp x σ2 H' fun σ3 H3=>tIn D (wi2 C s2 H1 fp) (g2 C s2 H1 fp) (te C s2 H1 fp) N σ3 H3)
noncomputable def tSet2 (i:Nat) (t:TE):TS:=fun D σ H=>t σ H fun v H1=>D.nx (σ.set i (some v)) H1
section
variable {X:Cx}
theorem in_run {elt t1 i1 t2 i2:Expr} {scope:Scope} {pos:Pos} {wi:TI} {g:TG} {te:TE} {D:Addr} {NX:St→Hp→Prop} (hc:X.calm=true) (hx:X.xe=fun _ _=>False) (hi:PI X t2 i2 wi) (hg:PG X t2 g) (he:PE X elt te)
  {pins:List (Addr×Obj)} {s:Shared} {σ:St} {H:Hp} {R:Shared→Prop} (I:Inv X pins σ H s) (h:tIn D wi g te NX σ H) (fin:∀ σ' H' s',Inv X pins σ' H' s'→NX σ' H'→R s') :
  wpAny (model X.prog X.w) X.A (eval i2 X.env) (fun x s₃=>wpAny (model X.prog X.w) X.A (pyIter x) (fun it2 s₄ =>
   codeAny (model X.prog X.w) X.A (.compStart (.ListComp elt [⟨t1,i1,[],0⟩,⟨t2,i2,[],0⟩] scope pos) 1 it2 (.ref D) X.env) (fun r s₅=>r=.ok .next∧R s₅) s₄) (fun _ _=>False) s₃) (fun _ _=>False) s:=by
 have h0:=hi pins s σ H _ I h
 rw [hx] at h0
 refine thn h0 fun v s1 h1=>thn h1 fun itv s2 h2=>?_
 obtain ⟨it,fp,tn,J,H2,e,I2,T,st2,f2,W,⟨m0,w0⟩,turn⟩:=h2
 subst e
 have stat:∀ {H':Hp},(∀ b∈fp,H' b=none)→∀ b∈fp,FpOk X pins H' b:=fun hn b hb=>⟨hn b hb,(f2 b hb).2⟩
 have loop:codeAny (model X.prog X.w) X.A (.compLoop (.ListComp elt [⟨t1,i1,[],0⟩,⟨t2,i2,[],0⟩] scope pos) 1 (.ref it) (.ref D) X.env) (fun r s₅=>r=.ok .next∧R s₅) s2:=by
  refine compLoop_two1 (fun n s'=>∃ i σ' H',Inv X pins σ' H' s'∧tn i s'.heap∧(∀ b∈fp,H' b=none)∧W i n σ' H') ?_ m0 ⟨0,σ,H2,I2,st2,fun b hb=>(f2 b hb).1,w0⟩
  rintro n s3 ⟨i,σ3,H3,I3,st3,fr3,w3⟩
  rcases turn i n σ3 H3 w3 with ⟨stop,qn⟩ | ⟨go,N',hN,step⟩
  ·refine (thn (T.done X rfl rfl rfl hc i pins s3 σ3 H3 (fun _ _=>False) I3 (stat fr3) st3 stop) fun r s4 ⟨hr,I4'⟩=>?_)
   subst hr
   exact ⟨rfl,fin _ _ _ I4' qn⟩
  ·refine (thn (T.item X rfl rfl rfl hc i pins s3 σ3 H3 (fun _ _=>False) I3 (stat fr3) st3 go) fun r s4 ⟨u,hr,h4⟩=>?_)
   subst hr
   refine thn h4 fun _ s5 ⟨x,H5,I5,r5,y5,st5,fr5⟩=>?_
   have I5':=I5.pinned (stat fr5) (T.obj _ _ st5)
   have hg':=hg _ s5 σ3 H5 x u _ I5' r5 (step x H5 y5)
   rw [hx] at hg'
   refine (thn hg' fun _ s6 ⟨σ6,H6,I6,q6⟩=>?_)
   have again:∀ {σ7:St} {H7:Hp} {s7:Shared},Inv X (pins++pinsAt fp s5.heap) σ7 H7 s7→N' σ7 H7→∃ m,m < n∧∃ i σ' H',Inv X pins σ' H' s7∧tn i s7.heap∧(∀ b∈fp,H' b=none)∧W i m σ' H':=fun {σ7 H7 s7} I7 n7=>by
    obtain ⟨m',hm,w7⟩:=hN σ7 H7 n7
    refine ⟨m',hm,i + 1,σ7,H7,I7.unpinned,T.keep _ _ _ st5 fun b hb o e=>(I7.pin (b,o) (List.mem_append_right _ (List.mem_append_right _ (mem_pinsAt hb e)))).1,fun b hb=>?_,w7⟩
    obtain ⟨o,e,d⟩:=T.obj _ _ st5 b hb
    exact (I7.pin (b,o) (List.mem_append_right _ (List.mem_append_right _ (mem_pinsAt hb e)))).2.1
   have he':=he _ s6 σ6 H6 _ I6 q6
   rw [hx] at he'
   refine (thn he' fun y s8 ⟨yv,H8,I8,ry,xs,hx8,hz,n8⟩=>?_)
   have ha:=mt_append (X:=X) _ s8 σ6 H8 (.ref D) [yv] (.ref D) [y] (fun _ H'=>N' σ6 H') I8 rfl (.cons ry .nil) ⟨_,xs,yv,rfl,rfl,hx8,hz,n8⟩
   rw [hx] at ha
   refine (thn ha fun _ s9 ⟨_,H9,I9,_,n9⟩=>?_)
   exact again I9 n9
 exact compStart_two1 loop (T.self X.A 0 s2 _ _ st2 loop)
theorem comp2_run {elt t1 i1 t2 i2:Expr} {scope:Scope} {pos:Pos} {N:List Str} {mp:List (Option Nat)} {cl:List (Str×Addr)} {wi:TI} {g:Addr→Shared→Hp→List Addr→TG} {wi2:Addr→Shared→Hp→List Addr→TI} {g2:Addr→Shared→Hp→List Addr→TG} {te:Addr→Shared→Hp→List Addr→TE}
  (hc:X.calm=true) (S:CompScopeC X N mp scope) (hcl:closes X.env.cells scope.names []=some cl) (hi:PI X t1 i1 wi)
  (hg:∀ C s2 H2 fp,PG (cxCC X N scope cl C s2 H2 fp) t1 (g C s2 H2 fp)) (hi2:∀ C s2 H2 fp,PI (cxCC X N scope cl C s2 H2 fp) t2 i2 (wi2 C s2 H2 fp)) (hg2:∀ C s2 H2 fp,PG (cxCC X N scope cl C s2 H2 fp) t2 (g2 C s2 H2 fp)) (he:∀ C s2 H2 fp,PE (cxCC X N scope cl C s2 H2 fp) elt (te C s2 H2 fp))
  (hs:∀ x,foldedSetIterable i1 X.env x=pure x) (hs2:∀ C x,foldedSetIterable i2 (compEnvC scope (cellsFrom (C + 1) scope.names cl) C X.env) x=pure x)
  {use:Option (Value→Sem Unit)} {PQ:Value→Shared→Prop} {pins:List (Addr×Obj)} {s:Shared} {σ:St} {H:Hp} {Q:VK} (I:Inv X pins σ H s) (h:tComp2 mp wi g wi2 g2 te σ H Q)
  (fin:∀ (H2:Hp) (s2:Shared) (fp:List Addr) (σ':St) (H':Hp) (s':Shared),Inv X pins σ H2 s2→(∀ b∈fp,FpOk X pins H2 b)→Inv (cxCC X N scope cl (s2.heap.objs.size + 1) s2 H2 fp) [] σ' H' s'→Q (.ref s2.heap.objs.size) H' →
   compPost (model X.prog X.w) X.A X.xe use PQ (.ref s2.heap.objs.size) (s2.heap.objs.size + 1) (.ok .next) s') :
  wpAny (model X.prog X.w) X.A (comprehension (.ListComp elt [⟨t1,i1,[],0⟩,⟨t2,i2,[],0⟩] scope pos) scope X.env (firstIterPos [⟨t1,i1,[],0⟩,⟨t2,i2,[],0⟩] pos) (newList []) (firstAsync [⟨t1,i1,[],0⟩,⟨t2,i2,[],0⟩]) (firstIter [⟨t1,i1,[],0⟩,⟨t2,i2,[],0⟩] X.env) use) PQ X.xe s:=by
 refine wpAny_comprehension_free (use:=use) rfl hs (closureFor_of hcl) S.kind S.names (thn (hi pins s σ H _ I h) fun v s1 h1=>thn h1 fun itv s2 h2=>?_)
 obtain ⟨it,fp,tn,J,H2,e,I2,T,st2,f2,h3⟩:=h2
 subst e
 refine wpAny_newObj_type (newEnv_cells ?_)
 dsimp only
 have hn2:H2 s2.heap.objs.size=none:=I2.hok.fresh (Nat.le_refl _)
 generalize hH2:s2.heap.push { cls:=.type "list",dict:=none,data:=.seq ([]:List Value).toArray }=G2
 have hC:G2.objs.size=s2.heap.objs.size + 1:=by rw [← hH2,Heap.size_push]
 generalize hh1:pushCells (G2.push PySem.W.emptyDict) scope.names=h₁
 have old1:∀ b o,G2.get? b=some o→h₁.get? b=some o:=fun b o e=>by rw [← hh1]; exact pushCells_keeps _ _ b o (Heap.get?_push_of_some _ e)
 have old:∀ b o,s2.heap.get? b=some o→h₁.get? b=some o:=fun b o e=>old1 b o (hH2 ▸ Heap.get?_push_of_some _ e)
 have hD1:h₁.get? s2.heap.objs.size=some { cls:=.type "list",data:=.seq ([]:List Value).toArray }:=old1 _ _ (hH2 ▸ Heap.get?_push_size _ rfl)
 have hns₁:h₁.Ns (s2.heap.objs.size + 1) (fun _=>none):=by
  have e1:h₁.get? G2.objs.size=some PySem.W.emptyDict:=by rw [← hh1]; exact pushCells_keeps _ _ _ _ (Heap.get?_push_size _ rfl)
  rw [hC] at e1
  exact ⟨_,#[],_,e1,rfl,fun e he=>absurd he (by simp),fun _=>rfl⟩
 have cok:CellsOk h₁ (s2.heap.objs.size + 2) (ownCs scope (s2.heap.objs.size + 1)):=by
  have:=cellsFrom_ok scope.names (G2.push PySem.W.emptyDict) (s2.heap.objs.size + 2) [] ⟨fun _ _ hm=>(nomatch hm),List.Pairwise.nil⟩ (by rw [Heap.size_push,hC]; exact Nat.le_refl _)
  rw [Heap.size_push,hC,hh1] at this
  exact this
 obtain ⟨W,⟨m0,w0⟩,turn⟩:=h3 s2.heap.objs.size hn2 (s2.heap.objs.size + 1) s2 fp
 have I4:=comp_invC (tk:=s2.toks) I2 S hcl f2 (fun b hb=>let ⟨o,e,_⟩:=T.obj _ _ st2 b hb; ⟨o,e⟩) old hD1 hns₁ cok
 have st4:tn 0 h₁:=T.keep _ _ _ st2 fun b hb o e=>old b o e
 have stat:∀ {pl:List (Addr×Obj)} {H':Hp},(∀ b∈fp,H' b=none)→(∀ p∈pl,p.1 ∉ fp)→∀ b∈fp,FpOk (cxCC X N scope cl (s2.heap.objs.size + 1) s2 H2 fp) pl H' b:=fun {pl H'} hn hp b hb =>
  ⟨hn b hb,(I4.ok.exf b hb).1,I4.ok.exfs b hb,.inl hb,(I4.ok.exf b hb).2,fun p z q=>hp p (by simpa [cxC,cxCC] using z) (by rw [q]; exact hb)⟩
 have fr0:∀ b∈fp,(upd H2 s2.heap.objs.size (.lst [])) b=none:=fun b hb=>by
  obtain ⟨o,e,_⟩:=T.obj _ _ st2 b hb
  rw [upd_ne (Nat.ne_of_lt (Heap.lt_size e))]
  exact (f2 b hb).1
 have loop:codeAny (model X.prog X.w) X.A (.compLoop (.ListComp elt [⟨t1,i1,[],0⟩,⟨t2,i2,[],0⟩] scope pos) 0 (.ref it) (.ref s2.heap.objs.size) (compEnvC scope (cellsFrom (s2.heap.objs.size + 1 + 1) scope.names cl) (s2.heap.objs.size + 1) X.env))
   (compPost (model X.prog X.w) X.A X.xe use PQ (.ref s2.heap.objs.size) (s2.heap.objs.size + 1)) { s2 with heap:=h₁,toks:=s2.toks }:=by
  refine compLoop_two0 (fun n s'=>∃ i σ' H',Inv (cxCC X N scope cl (s2.heap.objs.size + 1) s2 H2 fp) [] σ' H' s'∧tn i s'.heap∧(∀ b∈fp,H' b=none)∧W i n σ' H') (hs2 _) ?_ m0 ⟨0,_,_,I4,st4,fr0,w0⟩
  rintro n s3 ⟨i,σ3,H3,I3,st3,fr3,w3⟩
  rcases turn i n σ3 H3 w3 with ⟨stop,qn⟩ | ⟨go,N',hN,step⟩
  ·refine (thn (T.done (cxCC X N scope cl (s2.heap.objs.size + 1) s2 H2 fp) rfl rfl rfl hc i [] s3 σ3 H3 (fun _ _=>False) I3 (stat fr3 (fun _ z=>nomatch z)) st3 stop) fun r s4 ⟨hr,I4'⟩=>?_)
   subst hr
   exact fin H2 s2 fp _ _ _ I2 f2 I4' qn
  ·refine (thn (T.item (cxCC X N scope cl (s2.heap.objs.size + 1) s2 H2 fp) rfl rfl rfl hc i [] s3 σ3 H3 (fun _ _=>False) I3 (stat fr3 (fun _ z=>nomatch z)) st3 go) fun r s4 ⟨u,hr,h4⟩=>?_)
   subst hr
   refine thn h4 fun _ s5 ⟨x,H5,I5,r5,y5,st5,fr5⟩=>?_
   have I5':=I5.pinned (pins:=[]) (stat fr5 (fun _ z=>nomatch z)) (T.obj _ _ st5)
   refine (thn (hg (s2.heap.objs.size + 1) s2 H2 fp _ s5 σ3 H5 x u _ I5' r5 (step x H5 y5)) fun _ s6 ⟨σ6,H6,I6,q6⟩=>?_)
   exact in_run (X:=cxCC X N scope cl (s2.heap.objs.size + 1) s2 H2 fp) hc rfl (hi2 (s2.heap.objs.size + 1) s2 H2 fp) (hg2 (s2.heap.objs.size + 1) s2 H2 fp) (he (s2.heap.objs.size + 1) s2 H2 fp) I6 q6 fun σ7 H7 s7 I7 n7=>by
    obtain ⟨m',hm,w7⟩:=hN σ7 H7 n7
    refine ⟨m',hm,i + 1,σ7,H7,I7.unpinned,T.keep _ _ _ st5 fun b hb o e=>(I7.pin (b,o) (List.mem_append_right _ (List.mem_append_right _ (mem_pinsAt hb e)))).1,fun b hb=>?_,w7⟩
    obtain ⟨o,e,d⟩:=T.obj _ _ st5 b hb
    exact (I7.pin (b,o) (List.mem_append_right _ (List.mem_append_right _ (mem_pinsAt hb e)))).2.1
 have goal:=codeAny_compStart_list loop (T.self X.A 0 { s2 with heap:=h₁,toks:=s2.toks } _ _ st4 loop)
 rw [hC]
 exact goal
theorem ps_set2 {i:Nat} {x:Str} {pos' spos:Pos} {elt t1 i1 t2 i2:Expr} {scope:Scope} {pos:Pos} {N:List Str} {mp:List (Option Nat)} {cl:List (Str×Addr)} {wi:TI} {g:Addr→Shared→Hp→List Addr→TG} {wi2:Addr→Shared→Hp→List Addr→TI} {g2:Addr→Shared→Hp→List Addr→TG} {te:Addr→Shared→Hp→List Addr→TE}
  (hN:X.N.Nodup) (hx:X.N[i]?=some x) (hl:Loc X.env.scope x) (hc:X.calm=true) (S:CompScopeC X N mp scope) (hcl:closes X.env.cells scope.names []=some cl) (hi:PI X t1 i1 wi)
  (hg:∀ C s2 H2 fp,PG (cxCC X N scope cl C s2 H2 fp) t1 (g C s2 H2 fp)) (hi2:∀ C s2 H2 fp,PI (cxCC X N scope cl C s2 H2 fp) t2 i2 (wi2 C s2 H2 fp)) (hg2:∀ C s2 H2 fp,PG (cxCC X N scope cl C s2 H2 fp) t2 (g2 C s2 H2 fp)) (he:∀ C s2 H2 fp,PE (cxCC X N scope cl C s2 H2 fp) elt (te C s2 H2 fp))
  (hs:∀ x,foldedSetIterable i1 X.env x=pure x:=by intro _; rfl) (hs2:∀ C x,foldedSetIterable i2 (compEnvC scope (cellsFrom (C + 1) scope.names cl) C X.env) x=pure x:=by intro _ _; rfl)
  (hsw:swapsWith (.ListComp elt [⟨t1,i1,[],0⟩,⟨t2,i2,[],0⟩] scope pos) (some (.Name x pos')) spos.line X.env=pure true:=by rfl)
  (hf:X.fn x=true∨X.env.scope.names.lookup x=some .local:=by first | exact .inl rfl | exact .inr rfl | assumption) :
  PS X (.Assign [.Name x pos'] (.ListComp elt [⟨t1,i1,[],0⟩,⟨t2,i2,[],0⟩] scope pos) spos) (tSet2 i (tComp2 mp wi g wi2 g2 te)):=by
 intro pins s σ H D I h
 rw [exec_Assign_Name_used _ _ _ _ hsw]
 refine wpAny_bind (wpAny_standAt ?_)
 rw [arm_evalThenUse_ListComp]
 refine wpAny_bind (wpAny_bind (thn (comp2_run hc S hcl hi hg hi2 hg2 he hs hs2 (PQ:=fun _ s'=>SP X pins D .next s') I h fun H2 s2 fp σ' H' s' I2 f2 J' q=>?_) fun _ _ z=>wpAny_pure (wpAny_pure z)))
 ·obtain ⟨m,⟨oC,es,ep,ho,r⟩,_⟩:=id J'.loc
  have I3:Inv X pins σ H' s':=comp_back (h'':=s'.heap) I2 f2 J' fun b o _ e=>e
  have nL:s2.heap.objs.size + 1≠X.env.locals:=Nat.ne_of_gt (Nat.lt_of_lt_of_le I2.lt (Nat.le_succ _))
  have nf:s2.heap.objs.size + 1 ∉ X.fs:=I2.nofs (Nat.le_succ _)
  have fp:=Inv.fpOk (H':=H') I2 (Nat.le_succ _) (b:=s2.heap.objs.size + 1) J'.free
  have I4:Inv X (pins++[(s2.heap.objs.size + 1,oC)]) σ H' s':=I3.pins_of fun p hp=>by
   rcases List.mem_append.mp hp with z | z
   ·exact I3.pin p (List.mem_append_right _ z)
   ·have e:p=(s2.heap.objs.size + 1,oC):=by simpa using z
    subst e
    exact ⟨ho,J'.free,nL,nf,fun v z=>by rw [r.1] at z; cases z⟩
  show wpAny _ _ (assign (.Name x pos') X.env _) _ _ _
  refine wpAny_bind (wpAny_standAt (wpAny_bindName (store_ok I4 hN hx hl (show RelV (.ref s2.heap.objs.size) (.ref s2.heap.objs.size) from rfl) (fun s5 I5=>?_) hf)))
  obtain ⟨hC,_⟩:=I5.pin (s2.heap.objs.size + 1,oC) (List.mem_append_right _ (List.mem_append_right _ (by simp)))
  refine ⟨m,⟨oC,es,ep,hC,r⟩,fun h' sb=>⟨_,H',?_,q⟩⟩
  have I6:Inv X pins (σ.set i (some (.ref s2.heap.objs.size))) H' s5:=I5.pins_of fun p hp=>I5.pin p (List.mem_append_right _ (List.mem_append_left _ hp))
  exact I6.turned (t':=s5.toks) (it:=s2.heap.objs.size + 1) (fun b o hb e=>sb.extBut b o hb e) fp.1 fp.2.1 fp.2.2.2.1 fp.2.2.2.2.1 fp.2.2.2.2.2
end
theorem in_tup {K:PySem.W.Frag} {a D:Addr} {zs:List V} {g:TG} {te:TE} {NX:St→Hp→Prop} {σ:St} {H:Hp} (Pv:Nat→St→Hp→Prop) (h0:Pv 0 σ H) (hl:∀ i σ H,Pv i σ H→SqT K H a zs)
  (hs:∀ i x σ H,zs[i]?=some x→Pv i σ H→g x σ H fun σ2 H2=>te σ2 H2 fun y H5=>∃ xs,H5 D=some (.lst xs)∧xs.length < sizeLine∧Pv (i + 1) σ2 (upd H5 D (.lst (xs++[y])))) (hd:∀ σ H,Pv zs.length σ H→NX σ H) :
  ∃ W:Nat→Nat→St→Hp→Prop,(∃ m,W 0 m σ H)∧∀ i m σ H,W i m σ H →
   ((Itt K a).stop i H∧NX σ H)∨((Itt K a).go i H∧∃ N:St→Hp→Prop,(∀ σ' H',N σ' H'→∃ m',m' < m∧W (i + 1) m' σ' H')∧∀ x H',(Itt K a).yld i H x H'→g x σ H' fun σ2 H2=>te σ2 H2 fun y H5=>∃ xs,H5 D=some (.lst xs)∧xs.length < sizeLine∧N σ2 (upd H5 D (.lst (xs++[y])))):=by
 refine ⟨fun i m σ H=>m=zs.length - i∧i≤zs.length∧Pv i σ H,⟨zs.length,by simp,Nat.zero_le _,h0⟩,?_⟩
 rintro i m σ H ⟨rfl,hi,p⟩
 have q:=hl i σ H p
 by_cases hlt:i < zs.length
 ·refine .inr ⟨⟨zs,zs[i],q,by simp [hlt]⟩,Pv (i + 1),fun σ' H' p'=>⟨zs.length - (i + 1),by lia,rfl,hlt,p'⟩,fun x H' y=>?_⟩
  obtain ⟨e,y⟩:=y
  subst e
  exact hs i x σ _ (y zs q) p
 ·have e:i=zs.length:=by lia
  subst e
  exact .inl ⟨⟨zs,q,Nat.le_refl _⟩,hd σ H p⟩
theorem out_list {K:PySem.W.Frag} {a D:Addr} {xs:List V} {g:TG} {wi:TI} {g2:TG} {te:TE} {R:Hp→Prop} {σ:St} {H:Hp} (Pv:Nat→St→Hp→Prop) (h0:Pv 0 σ H) (hl:∀ i σ H,Pv i σ H→SqL K H a xs)
  (hs:∀ i x σ H,xs[i]?=some x→Pv i σ H→g x σ H fun σ3 H3=>tIn D wi g2 te (Pv (i + 1)) σ3 H3) (hd:∀ σ H,Pv xs.length σ H→R H) :
  ∃ W:Nat→Nat→St→Hp→Prop,(∃ m,W 0 m σ H)∧∀ i m σ2 H2,W i m σ2 H2 →
   ((Itl K a).stop i H2∧R H2)∨((Itl K a).go i H2∧∃ N:St→Hp→Prop,(∀ σ' H',N σ' H'→∃ m',m' < m∧W (i + 1) m' σ' H')∧∀ x H',(Itl K a).yld i H2 x H'→g x σ2 H' fun σ3 H3=>tIn D wi g2 te N σ3 H3):=by
 refine ⟨fun i m σ H=>m=xs.length - i∧i≤xs.length∧Pv i σ H,⟨xs.length,by simp,Nat.zero_le _,h0⟩,?_⟩
 rintro i m σ H ⟨rfl,hi,p⟩
 have q:=hl i σ H p
 by_cases hlt:i < xs.length
 ·refine .inr ⟨⟨xs,xs[i],q,by simp [hlt]⟩,Pv (i + 1),fun σ' H' p'=>⟨xs.length - (i + 1),by lia,rfl,hlt,p'⟩,fun x H' y=>?_⟩
  obtain ⟨e,y⟩:=y
  subst e
  exact hs i x σ _ (y xs q) p
 ·have e:i=xs.length:=by lia
  subst e
  exact .inl ⟨⟨xs,q,Nat.le_refl _⟩,hd σ H p⟩
end L2
namespace L2
open PySem PySem.Spec PyProof.Rows
section
variable {P:Program} {w:World} {K:PySem.W.Frag} {mg:Str→Option Value} {base:Heap}
end
end L2
namespace L2
open PySem PySem.Spec PyProof.Rows
section
variable {X:Cx} {tg:Expr}
end
end L2
namespace L2
open PySem PySem.Spec PyProof.Rows PySem.Builtin.Str
variable {X:Cx}
theorem bt_max:bootBuiltins "max"=some (.builtin "max"):=by decide +kernel
theorem bt_min:bootBuiltins "min"=some (.builtin "min"):=by decide +kernel
end L2
namespace L2
open PySem PySem.Spec PyProof.Rows PySem.Builtin.Str
variable {X:Cx}
end L2
namespace L2
open PySem PySem.Spec PyProof.Rows PySem.Builtin.Str
variable {X:Cx}
end L2
namespace L2
open PySem PySem.Spec PyProof.Rows
structure Wr (p:Prop):Prop where
 un:p
section
variable {X:Cx} {e:Expr} {es:List Expr} {te:TE} {t:TA} {pos:Pos} {a b:Expr} {ta tb:TE}
theorem w_nil:Wr (PA X [] tNil):=⟨pa_nil⟩
theorem w_cons (ha:Wr (PE X e te)) (hr:Wr (PA X es t)) (hs:starEach (e :: es) X.env=(false,eval e X.env) :: starEach es X.env:=by rfl):Wr (PA X (e :: es) (tCons te t)):=⟨pa_cons ha.un hr.un hs⟩
theorem w_lst (h:Wr (PA X es t)):Wr (PE X (.List es pos) (tLst t)):=⟨pe_lst h.un⟩
theorem w_set {i:Nat} {x:Str} {pos':Pos} (hN:X.N.Nodup) (hi:X.N[i]?=some x) (hx:Loc X.env.scope x) (he:Wr (PE X e te)) (hs:swapsWith e (some (.Name x pos')) pos.line X.env=pure false:=by rfl) (hf:X.fn x=true∨X.env.scope.names.lookup x=some .local:=by first | exact .inl rfl | exact .inr rfl | assumption) :
  Wr (PS X (.Assign [.Name x pos'] e pos) (tAsg te (gName i))):=⟨ps_set hN hi hx he.un hs hf⟩
theorem wss_cons {st:Stmt} {rest:List Stmt} {t u:TS} (h1:Wr (PS X st t)) (h2:Wr (PSs X rest u)):Wr (PSs X (st :: rest) (tSeq t u)):=⟨pss_cons h1.un h2.un⟩
theorem wss_one {st:Stmt} {t:TS} (h1:Wr (PS X st t)):Wr (PSs X [st] t):=⟨pss_one h1.un⟩
end
section
variable {P:Program} {w:World} {K:PySem.W.Frag} {mg:Str→Option Value} {base:Heap}
theorem Fun.okW {x qual:Str} {st:Stmt} {f:Addr} {fd:FuncData} {N ps:List Str} {k:Nat} {sp:Sp} (F:Fun K x qual st f fd) (S:FnScope N ps (defScope st)) (len:∀ vs H Q E,sp vs H Q E→vs.length=ps.length)
  (hb:∀ (cdv:Value) (A:Around) (outer:List Env) (s:Shared) (H:Hp) (vs:List V) (Q:VK) (E:XK),Room k (A.deeper (envOfC qual (defScope st) s.heap.objs.size f cdv))→sp vs H Q E →
   ∃ t,Wr (PSs (cxOf CX0 P w K mg base N qual (defScope st) f cdv A outer s H E).nox (defBody st) t)∧t { nx:=fun _ H'=>Q .non H',rt:=Q } (start N vs) H):FnOk P w K mg base CX0 (k + 1) f fd ps sp :=
 F.ok S len fun cdv A outer s H vs Q E hr h=>by
  obtain ⟨t,h1,q⟩:=hb cdv A outer s H vs Q E hr h
  exact ⟨t,h1.un,q⟩
end
end L2
namespace HT
open PySem PySem.Spec PyProof.Rows
section
variable {prog:Program} {w:World} {A:Around} {E:Value→Shared→Prop} {s:Shared}
end
end HT
namespace L2
open PySem PySem.Spec PyProof.Rows
variable {X:Cx}
theorem op_catG:OpR X (binaryOp .Add) (fun x y H Q=>∃ a b xs ys,x=.ref a∧y=.ref b∧H a=some (.tup xs)∧H b=some (.tup ys)∧xs.length + ys.length≤1000000∧∀ p H',Same H H'→H' p=some (.tup (xs++ys))→Q (.ref p) H'):=by
 intro pins s σ H x y v u Q I rx ry h
 obtain ⟨a,b,xs,ys,rfl,rfl,ha,hb,hz,q⟩:=h
 have szl:=sizeLine_eq
 by_cases hx:xs=[]
 ·subst hx
  cases rx
  cases ry
  obtain ⟨its,r1,⟨⟨cls,dd,data,sl⟩,ho,hc,n,hd⟩,_⟩:=I.tuple (SqT.of ha)
  obtain ⟨its2,r2,⟨⟨cls2,dd2,data2,sl2⟩,ho2,hc2,n2,hd2⟩,_⟩:=I.tuple (SqT.of hb)
  simp only at hc hd hc2 hd2
  subst hc hd hc2 hd2
  have e0:its=[]:=r1.nil_iff.mpr rfl
  exact concat_meets ⟨_,ho,rfl⟩ ⟨_,ho2,rfl⟩ noFill_tuple_add seq_tuple_add PySem.F.slot_tuple_add PySem.F.entry_tuple_add (PySem.F.args_tuple_add_2 _ _)
   (tuple_addW0 a b its.toArray its2.toArray n n2 dd dd2 sl sl2 (by simp [e0])) ⟨ho,ho2,⟨.ref b,H,I,rfl,q b H (Same.refl H) hb⟩⟩
 ·exact op_catT pins s σ H _ _ v u Q I rx ry ⟨a,b,xs,ys,rfl,rfl,SqT.of ha,SqT.of hb,hx,by lia,(fun e=>q a H (Same.refl H) (by rw [e,List.append_nil]; exact ha)),fun _ p hp=>q p _ (fun c o e=>by rw [upd_ne (ne_of_none e hp)]; exact e) upd_same⟩
end L2
namespace L2
open PySem PySem.Spec PyProof.Rows
variable {X:Cx}
end L2
namespace HT
open PySem PySem.Spec PyProof.Rows
section
variable {prog:Program} {w:World} {A:Around} {E:Value→Shared→Prop} {s:Shared}
end
end HT
namespace L2
open PySem PySem.Spec PyProof.Rows
variable {X:Cx}
end L2
namespace L2
open PySem PySem.Spec PyProof.Rows
theorem star_tup {es:List Expr} {k:Nat} {pos:Pos} {r:List Expr} {env:Env}:starEach (.Tuple es k pos :: r) env=(false,eval (.Tuple es k pos) env) :: starEach r env:=rfl
theorem w_tup {X:Cx} {es:List Expr} {t:TA} {k:Nat} {pos:Pos} (h:Wr (PA X es t)):Wr (PE X (.Tuple es k pos) (tTup t)):=⟨pe_tup h.un⟩
end L2
namespace L2
open PySem PySem.Spec PyProof.Rows
section
variable {X:Cx} {pos:Pos}
end
theorem foldA (a:Array Value):∀ (n:Nat) (b:Array Value),((List.replicate n a).foldl (fun x1 x2=>x1++x2) b).toList=b.toList++(List.replicate n a.toList).flatten
 | 0,b=>by simp
 | n + 1,b=>by
  rw [List.replicate_succ,List.foldl_cons,foldA a n (b++a),List.replicate_succ,List.flatten_cons,Array.toList_append,List.append_assoc]
theorem vals_rep {xs:List V} {us:List Value} (r:Vals xs us):∀ n:Nat,Vals (List.replicate n xs).flatten (List.replicate n us).flatten
 | 0=>.nil
 | n + 1=>by
  rw [List.replicate_succ,List.replicate_succ,List.flatten_cons,List.flatten_cons]
  exact r.append (vals_rep r n)
theorem mul_any {prog:Program} {w:World} {A:Around} {E:Value→Shared→Prop} {s:Shared} {l:Addr} {items:Array Value} {k:Nat} {x:Int} {u:Tok} {Q:Value→Shared→Prop}
  (hl:s.heap.get? l=some { cls:=.type "list",dict:=none,data:=.seq items k,slots:=#[] }) (hlo:-(2 ^ 63:Int)≤x) (hhi:x < 2 ^ 63) (hsz:items.size * x.toNat≤2 ^ 24)
  (h:Q (.ref s.heap.objs.size) { s with heap:=s.heap.push { cls:=.type "list",data:=.seq (List.foldl (fun x1 x2=>x1++x2) #[] (List.replicate (if items.isEmpty=true then 0 else x.toNat) items)) },toks:=s.toks }) :
  wpAny (model prog w) A (binaryOp .Mult (.ref l) (.int x u)) Q E s :=
 wpAny_binaryOp_repeat_ref (T:="list") (U:="int") (by decide) ⟨_,hl,rfl⟩ (fun s'=>typeIs_int s' x u) noFill_list_mul F.fills_int_mul F.slot_int_rmul repeat_list F.slot_int_index.lookup
  (call_meets F.slot_int_rmul (typeIs_int s x u) F.entry_int_rmul (F.args_int_rmul_2 _ _) (int___rmul___int_list x u l items k)
   ⟨hl,rfl,⟨_,hl,rfl⟩,call_meets F.slot_list_mul ⟨_,hl,rfl⟩ F.entry_list_mul (F.args_list_mul_2 _ _)
    (AutoListH.list___mul___list_int_3 l items k x u (by simp [Builtin.List.listFitsIndex]; lia) (by lia) (by simp [Builtin.List.listTooLong,sizeLine]; lia))
    ⟨hl,h⟩⟩)
theorem op_repL {X:Cx}:OpR X (binaryOp .Mult) (fun x y H Q=>∃ (l:Addr) (xs:List V) (n:Nat),x=.ref l∧y=.int (n:Int)∧H l=some (.lst xs)∧xs≠[]∧n < 1000∧xs.length≤1000∧∀ p,H p=none→Q (.ref p) (upd H p (.lst (List.replicate n xs).flatten))):=by
  intro pins s σ H x y v u Q I rx ry h
  obtain ⟨l,xs,n,rfl,rfl,hl,hne,hn,hxl,q⟩:=h
  cases rx
  obtain ⟨t2,rfl⟩:=ry
  have szl:=sizeLine_eq
  obtain ⟨_,its,k,r,ho⟩:=I.hok _ _ hl
  have hlen:=r.length
  have hm:its.toArray.size * ((n:Int)).toNat≤1000000:=by
    rw [Int.toNat_natCast,List.size_toArray,← hlen]
    calc xs.length * n≤1000 * n:=Nat.mul_le_mul_right _ hxl
      _≤1000 * 1000:=Nat.mul_le_mul_left _ (by lia)
  have hc0:¬ (!Builtin.List.listFitsIndex (n:Int))=true:=by simp [Builtin.List.listFitsIndex]; lia
  have hc1:¬ its.toArray.size * ((n:Int)).toNat > (2 ^ 63 - 1) / 8:=by lia
  have hc2:¬ Builtin.List.listTooLong (its.toArray.size * ((n:Int)).toNat)=true:=by
    unfold Builtin.List.listTooLong
    intro h
    have:=of_decide_eq_true h
    lia
  have hf:H s.heap.objs.size=none:=I.hok.fresh (Nat.le_refl _)
  have hne':its.toArray.isEmpty=false:=by
    cases its with
    | nil=>exact absurd (List.length_eq_zero_iff.mp hlen) hne
    | cons a b=>rfl
  have fin:EP X pins σ Q (.ref s.heap.objs.size) { s with heap:=s.heap.push { cls:=Value.type "list",data:=Data.seq (List.foldl (fun x1 x2=>x1++x2) #[] (List.replicate (if its.toArray.isEmpty=true then 0 else ((n:Int)).toNat) its.toArray)) },toks:=s.toks }:=by
   rw [hne',if_neg (by decide),Int.toNat_natCast]
   refine ⟨.ref s.heap.objs.size,_,I.laid (t':=s.toks) (fun b o e=>Heap.get?_push_of_some _ e) (Nat.le_refl _) ?_,rfl,q _ hf⟩
   have ea:(List.replicate n its.toArray).foldl (fun x1 x2=>x1++x2) #[]=((List.replicate n its).flatten).toArray:=by
     apply Array.toList_inj.mp
     rw [foldA]; simp
   rw [ea]
   refine ⟨?_,_,_,vals_rep r n,Heap.get?_push_size _ rfl⟩
   rw [Int.toNat_natCast,List.size_toArray,← hlen] at hm
   rw [List.length_flatten,List.map_replicate,List.sum_replicate_nat,szl,Nat.mul_comm]
   lia
  exact mul_any ho (by lia) (by lia) (Nat.le_trans hm (by decide)) fin
end L2
namespace L2
open PySem PySem.Spec PyProof.Rows
noncomputable def tEx0 (K:PySem.W.Frag) (C:Addr) (ts:TS) (D:Ends):XS:=fun cls dx σ H=>(∃ Ce bm,cls=.ref Ce∧XCls K Ce bm∧(Value.ref Ce :: bm).contains (.ref C)=true)∧ts D σ H
noncomputable def tTry0 (K:PySem.W.Frag) (C:Addr) (tb:XS→TS) (ts:TS):TS:=fun D σ H=>tb (tEx0 K C ts D) D σ H
section
variable {X:Cx} {x:Str} {C:Addr} {bw:List Value} {body suite:List Stmt} {b0:Stmt} {np hp pos:Pos} {tb:XS→TS} {ts:TS}
theorem ps_try0 (hg:Gl X x) (hm:X.mg x=some (.ref C)) (hC:XCls X.K C bw) (hst:X.stack=X.env :: X.outer) (hf:X.env.frame=some X.env.locals)
  (hb:∀ EX pins,PSs ((X.pinTo pins).raises EX) body (tb EX)) (hs:∀ e pins,PSs (X.suite (.ref e) pins) (b0 :: suite) ts) (hd:(x == ("__debug__":Str))=false:=by decide) :
  PS X (.Try body [.ExceptHandler (some (.Name x np)) none (b0 :: suite) hp] [] [] pos) (tTry0 X.K C tb ts):=by
 intro pins s σ H D I h
 have ok:=I.ok
 refine wpAny_Try_except (wpAny_mono (hb (tEx0 X.K C ts D) pins [] s σ H D (I.pinTo.wish _) h) (fun f s1 q=>?_) fun ev s1 q=>?_)
 ·have q':=SP.unpin q
  cases f with
  | next =>
   show wpAny _ _ (execs [] _) _ _ _
   exact (wpAny_execs_nil q':_)
  | _=>exact q'
 ·have q0:XIn (X.pinTo pins) (tEx0 X.K C ts D) ev s1:=q
  refine x_note (X:=X.pinTo pins) q0.frames hst hf q0 fun s2 q2=>x_flight (X:=X.pinTo pins) (.inl rfl) q2 fun s3 q3=>?_
  obtain ⟨e,cls,dx,σ1,H1,rfl,I1,oe,ht,hE⟩:=id q3
  obtain ⟨⟨Ce,bm,rfl,hCe,hmro⟩,hgo⟩:=hE
  obtain ⟨hbB,nm',q',N',bs',hdct',sn',sub',ab',col',dd',l0,l1,l2,l3,l5,newId',lkW⟩:=hC
  obtain ⟨hbC,nm,qn,N,bs,hdct,sn,sub,ab,col,dd,k0,k1,k2,k3,k5,newId,lkC⟩:=hCe
  have ge:∃ oe,s3.heap.get? e=some oe∧oe.cls=.ref Ce:=by
   rcases ht with ⟨_,ob,vs,g1,g2,_⟩ | ⟨T,fl,⟨ob,vs,g1,g2,_⟩,_⟩
   ·exact ⟨ob,g1,g2⟩
   ·exact ⟨ob,g1,g2⟩
  obtain ⟨ob,ge,gc⟩:=ge
  have gW:=I1.kIn C _ lkW
  have gC:=I1.kIn Ce _ lkC
  refine wpAny_handleBy_cons (codeAny_handlers_test (ld_glob (X:=X.suite (.ref e) pins) (I1.insuite (X:=X) (ev:=.ref e)) hg hm ?_ hd)) (by intro z; cases z)
  obtain ⟨h3,g3,d3,t3,os3⟩:=s3
  refine exc_matches gC gW ge gc hbB hmro ?_
  refine codeAny_handlers_suite (x_flight (X:=X.pinTo pins) (.inl rfl) q3 fun s4 q4=>?_)
  obtain ⟨e',cls4,dx4,σ4,H4,ee,I4,oe4,ht4,hE4⟩:=q4
  cases ee
  obtain ⟨_,hgo4⟩:=hE4
  refine wpAny_mono (hs e pins [] s4 _ _ _ (I4.insuite (X:=X) (ev:=.ref e)) hgo4) (fun f s6 q6=>?_) fun _ _ z=>z.elim
  match f,q6 with
  | .next,⟨σ6,H6,I6,z⟩=>exact ⟨_,H6,(I6.outsuite ok).unpinTo,z⟩
  | .brk,⟨σ6,H6,I6,z⟩=>exact ⟨_,H6,(I6.outsuite ok).unpinTo,z⟩
  | .cont,⟨σ6,H6,I6,z⟩=>exact ⟨_,H6,(I6.outsuite ok).unpinTo,z⟩
  | .ret u,⟨v,σ6,H6,I6,r,z⟩=>exact ⟨v,_,H6,(I6.outsuite ok).unpinTo,r,z⟩
end
end L2
namespace L2
open PySem PySem.Spec PyProof.Rows
section
variable {prog:Program} {w:World} {A:Around} {E:Value→Shared→Prop} {s:Shared}
theorem TupI.keep {h h':Heap} {v:Value} {ns:List Int} {a:Addr} {n:Nat} {us:Array Value} (t:TupI h v ns) (ho:h.get? a=some (seqObj "list" us n)) (k:∀ b o,b≠a→h.get? b=some o→h'.get? b=some o):TupI h' v ns:=by
 obtain ⟨b,ws,e,⟨o,e1,e2,e3⟩,i⟩:=t
 refine ⟨b,ws,e,⟨o,k b o (fun z=>?_) e1,e2,e3⟩,i⟩
 subst z
 rw [ho] at e1
 cases e1
 have e4:Value.type "list"=Value.type "tuple":=e2
 injection e4 with e5
 exact absurd e5 (by decide)
theorem list_sort_tup {a:Addr} {vs:List Value} {f:Value→List Int} {n:Nat} {P:PySem.Fin→Shared→Prop} (ho:s.heap.get? a=some (seqObj "list" vs.toArray n))
  (hk:∀ v∈vs,TupI s.heap v (f v)∧f v≠[]) (h64:vs.length < 64)
  (h:∀ (arr:Array Keyed),arr.toList.Perm (vs.zip vs)→Up (O:=lxO) (fk (O:=lxO) (fun p=>keyAt s.heap p.1) ([]:List Int) arr) arr.size→P (.done (.ret .none)) { s with heap:=sortedHeap s.heap a vs (arr.map (·.2)) }) :
  wpAny (model prog w) A (Builtin.«list.sort» ⟨[.ref a],[]⟩) P E s:=by
 rw [list_sort_plain]
 have ha:a < s.heap.objs.size:=Heap.lt_size ho
 refine wpAny_bind (listItems_at ho rfl ?_)
 refine wpAny_bind (listUpdate_at ho rfl ?_)
 obtain ⟨e1,ho1⟩:∃ e1,(s.heap.update a (Obj.mapSeq fun _=>#[])).get? a=some (seqObj "list" #[] e1):=⟨_,get?_update_seq ho (fun _=>#[])⟩
 refine wpAny_bind (seqEpoch_at ho1 rfl ?_)
 refine wpAny_bind (wpAny_newTuple ?_)
 refine wpAny_bind (wpAny_newList ?_)
 refine wpAny_holding ?_
 have ho6:(((s.heap.update a (Obj.mapSeq fun _=>#[])).push (seqObj "tuple" vs.toArray 0)).push (seqObj "list" #[] 0)).get? a=some (seqObj "list" #[] e1):=by
  rw [Heap.get?_push_ne _ _ _ (by rw [size_push',Heap.size_update]; exact Nat.ne_of_lt (Nat.lt_succ_of_lt ha)),Heap.get?_push_ne _ _ _ (by rw [Heap.size_update]; exact Nat.ne_of_lt ha)]
  exact ho1
 have kp:∀ b o,b≠a→s.heap.get? b=some o→(((s.heap.update a (Obj.mapSeq fun _=>#[])).push (seqObj "tuple" vs.toArray 0)).push (seqObj "list" #[] 0)).get? b=some o:=fun b o hb e =>
  Heap.get?_push_of_some _ (Heap.get?_push_of_some _ ((Heap.get?_update_other _ _ (Ne.symm hb)).trans e))
 show wpAny (model prog w) A _ P E { s with heap:=((s.heap.update a (Obj.mapSeq fun _=>#[])).push (seqObj "tuple" vs.toArray 0)).push (seqObj "list" #[] 0) }
 dsimp only
 have hsz:vs.toArray.size=vs.length:=by simp
 have a0:(vs.toArray.zip vs.toArray).toList=vs.zip vs:=by simp
 have z0:(vs.toArray.zip vs.toArray).size=vs.length:=by simp
 generalize hg6:((s.heap.update a (Obj.mapSeq fun _=>#[])).push (seqObj "tuple" vs.toArray 0)).push (seqObj "list" #[] 0)=g6 at ho6 kp ⊢
 have hk6:∀ v∈vs,TupI g6 v (f v)∧f v≠[]:=fun v hv=>⟨(hk v hv).1.keep ho kp,(hk v hv).2⟩
 have same:∀ (arr:Array Keyed),arr.toList.Perm (vs.zip vs)→fk (O:=lxO) (fun p=>keyAt g6 p.1) ([]:List Int) arr=fk (O:=lxO) (fun p=>keyAt s.heap p.1) ([]:List Int) arr:=fun arr hp=>by
  funext i
  unfold fk
  cases e:arr[i]? with
  | none=>rfl
  | some p =>
   have hm:p∈vs.zip vs:=hp.mem_iff.mp (by
    have:p∈arr:=Array.mem_of_getElem? e
    exact Array.mem_toList_iff.mpr this)
   have hm1:p.1∈vs:=(List.of_mem_zip (show (p.1,p.2)∈vs.zip vs from hm)).1
   show keyAt g6 p.1=keyAt s.heap p.1
   rw [keyAt_eq (hk6 _ hm1).1,keyAt_eq (hk _ hm1).1]
 by_cases h2:vs.toArray.size < 2
 ·rw [if_pos h2,if_pos h2]
  refine wpAny_bind (wpAny_pure ?_)
  rw [StateT.run_pure]
  refine wpAny_bind (wpAny_pure ?_)
  dsimp only
  refine wpAny_bind (seqEpoch_at ho6 rfl ?_)
  refine wpAny_bind (listUpdate_at ho6 rfl ?_ (hsz2:=by rw [Array.size_map]; show (vs.toArray.zip vs.toArray).size≤_; rw [z0,sizeLine_eq]; lia))
  simp only [bne_self_eq_false,Bool.false_eq_true,if_false]
  refine wpAny_pure ?_
  have:=h (vs.toArray.zip vs.toArray) (by rw [a0]) (fun i j hij hj=>by
   have:i=j:=by rw [z0] at hj; lia
   subst this; exact KeyOrd.kle_refl _)
  unfold sortedHeap at this
  rw [hg6] at this
  exact this
 ·rw [if_neg h2,if_neg h2]
  refine wpAny_bind (kind_tup (s:={ s with heap:=g6 }) (f:=f) (fun v hv=>hk6 v (by simpa using hv)) fun b=>?_)
  have hk0:∀ p∈(vs.toArray.zip vs.toArray).toList,∃ ns,TupI ({ s with heap:=g6 }:Shared).heap p.1 ns:=fun p hp=>by
   rw [a0] at hp
   exact ⟨_,(hk6 p.1 (List.of_mem_zip (show (p.1,p.2)∈vs.zip vs from hp)).1).1⟩
  refine wpAny_bind (wpAny_mono (srt_runs (srt_tup (s:={ s with heap:=g6 }) b hk0) (by rw [z0]; rw [hsz] at h2; lia) (by rw [z0]; exact h64) (st:=SortSt.mk' (tupKind b) (vs.toArray.zip vs.toArray) #[] 7 none) ⟨rfl,Array.Perm.refl _,rfl,rfl⟩ (Q:=fun _ st=>(arrOf st).Perm (vs.toArray.zip vs.toArray)∧failedOf st=none∧Up (O:=lxO) (fk (O:=lxO) (fun p=>keyAt g6 p.1) ([]:List Int) (arrOf st)) (vs.toArray.zip vs.toArray).size) fun st' a b c=>⟨a,b,c⟩) ?_ fun _ _ e=>e)
  rintro ⟨⟨⟩,st⟩ s' ⟨es,hp,hf,up⟩
  have es2:=es.symm
  subst es2
  dsimp only
  have hp':(arrOf st).toList.Perm (vs.zip vs):=by rw [← a0]; exact Array.perm_iff_toList_perm.mp hp
  refine wpAny_bind (seqEpoch_at ho6 rfl ?_)
  refine wpAny_bind (listUpdate_at ho6 rfl ?_ (hsz2:=by rw [Array.size_map,hp.size_eq,z0,sizeLine_eq]; lia))
  rw [hf]
  simp only [bne_self_eq_false,Bool.false_eq_true,if_false]
  refine wpAny_pure ?_
  rw [same _ hp',← hp.size_eq] at up
  have:=h (arrOf st) hp' up
  unfold sortedHeap at this
  rw [hg6] at this
  exact this
end
section
variable {X:Cx}
theorem range_get (bs:List Bool):(List.range bs.length).map (fun i=>bs.getD i false)=bs:=by
 apply List.ext_getElem?
 intro i
 rw [List.getElem?_map]
 by_cases h:i < bs.length
 ·rw [List.getElem?_range h,List.getElem?_eq_getElem h]
  show some (bs.getD i false)=_
  rw [List.getD_eq_getElem?_getD,List.getElem?_eq_getElem h]; rfl
 ·rw [List.getElem?_eq_none (by simpa using h),List.getElem?_eq_none (by lia)]; rfl
theorem range_any (bs:List Bool):(List.range bs.length).any (fun i=>bs.getD i false)=bs.any id:=by
 have:=congrArg (fun l=>List.any l id) (range_get bs)
 rw [List.any_map] at this
 exact this
theorem bt_any:bootBuiltins "any"=some (.builtin "any"):=by decide +kernel
end
end L2
namespace L2
open PySem PySem.Spec PyProof.Rows
section
variable {X:Cx} {es:List Expr} {kk:Nat} {tpos:Pos}
end
end L2
namespace L2
open PySem PySem.Spec PyProof.Rows
end L2
namespace L2
open PySem PySem.Spec PyProof.Rows
section
variable {prog:Program} {w:World} {A:Around} {E:Value→Shared→Prop} {s:Shared}
theorem sorted_tupI {l:Addr} {us:List Value} {ns:List Int} {Q:Value→Shared→Prop} (hl:s.heap.IsTuple l us.toArray) (hI:IntsAre us ns) (h64:us.length < 64)
  (h:∀ (out:Array Value) (ns':List Int) (g:Heap) (e:Nat),IntsAre out.toList ns'→ns'.Perm ns→ns'.Pairwise (·≤·)→(∀ b o,s.heap.get? b=some o→g.get? b=some o)→g.get? (s.heap.objs.size + 1)=some (seqObj "list" out e)→Q (.ref (s.heap.objs.size + 1)) { s with heap:=g }) :
  wpAny (model prog w) A (call (.builtin "sorted") [.ref l]) Q E s:=by
 have szl:=sizeLine_eq
 refine Calls.call_function_entry kind_sorted plain_sorted entry_sorted (args_sorted1 _) ?_
 unfold Builtin.«sorted»
 refine wpAny_bind (m:=checkCount "sorted" 1 1 _) (wpAny_pure ?_)
 refine wpAny_bind (collect_tup hl (by lia) fun g1 k1 z1=>?_)
 refine wpAny_bind (wpAny_newList ?_)
 have gL:(g1.push (seqObj "list" us.toArray 0)).get? g1.objs.size=some (seqObj "list" us.toArray 0):=Heap.get?_push_size _ rfl
 refine wpAny_bind (wpAny_holding (wpAny_call_entry slot_list_sort ⟨_,gL,rfl⟩ entry_list_sort (list_sort_tree gL hI h64 fun out ns' a1 a2 a3=>⟨_,rfl,?_⟩) (args_list_sort _)))
 obtain ⟨e,at1⟩:=sortedHeap_at (out:=out) gL
 have old:∀ b o,s.heap.get? b=some o→(sortedHeap (g1.push (seqObj "list" us.toArray 0)) g1.objs.size us out).get? b=some o:=fun b o hb=>by
  have hlt:b < g1.objs.size:=Heap.lt_size (k1 b o hb)
  rw [sortedHeap_old (Nat.ne_of_lt hlt) (by rw [size_push']; exact Nat.lt_succ_of_lt hlt),Heap.get?_push_ne _ _ _ (Nat.ne_of_lt hlt)]
  exact k1 b o hb
 have:=h out ns' _ e a1 a2 a3 old (by rw [← z1]; exact at1)
 rw [← z1] at this
 exact wpAny_pure ⟨_,rfl,this⟩
end
section
variable {X:Cx}
theorem call_sortIT:CallR X (.builtin "sorted") (fun vs H Q=>∃ (l:Addr) (ns:List Int),vs=[.ref l]∧SqT X.K H l (ns.map V.int)∧ns.length < 64 ∧
  ∀ (p:Addr) (ns':List Int) (H':Hp),Same H H'→H' p=some (.lst (ns'.map V.int))→ns'.Perm ns→ns'.Pairwise (·≤·)→Q (.ref p) H'):=by
 intro pins s σ H vs us Q I r h
 obtain ⟨l,ns,rfl,hl,h64,q⟩:=h
 obtain ⟨u,rfl,rx⟩:=vals1 r
 cases rx
 obtain ⟨its,rv,pl,hz⟩:=I.tuple hl
 have len:=rv.length
 rw [List.length_map] at len
 refine sorted_tupI (show s.heap.IsTuple l its.toArray from pl) (intsAre_of rv) (by lia) fun out ns' g ep a1 a2 a3 k1 at1=>?_
 have hf:H (s.heap.objs.size + 1)=none:=I.hok.fresh (Nat.le_succ _)
 have l1:ns'.length=ns.length:=a2.length_eq
 refine ⟨.ref (s.heap.objs.size + 1),upd H (s.heap.objs.size + 1) (.lst (ns'.map V.int)),I.laid (t':=s.toks) k1 (Nat.le_succ _) ⟨by rw [List.length_map,sizeLine_eq]; lia,out.toList,ep,vals_ints a1,?_⟩,rfl,q _ ns' _ (fun b o e=>by rw [upd_ne (ne_of_none e hf)]; exact e) upd_same a2 a3⟩
 exact at1
end
end L2
namespace L2
open PySem PySem.Spec PyProof.Rows
noncomputable def Rising (xs:Array Nat):Prop:=∀ i j,i < j→j < xs.size→xs.getD i 0 < xs.getD j 0
theorem getD_any {xs:Array Nat} {i d e:Nat} (h:i < xs.size):xs.getD i d=xs.getD i e:=by
 rw [Array.getD_eq_getD_getElem?,Array.getD_eq_getD_getElem?,Array.getElem?_eq_getElem h]
 rfl
theorem below_go {xs:Array Nat} {j:Nat} (hr:Rising xs):∀ (fuel lo hi:Nat),lo≤hi→hi≤xs.size→hi - lo≤fuel→(∀ i,i < lo→xs.getD i 0 < j)→(∀ i,hi≤i→i < xs.size→j≤xs.getD i 0) →
  SetTable.below.go xs j fuel lo hi≤xs.size∧(∀ i,i < SetTable.below.go xs j fuel lo hi→xs.getD i 0 < j)∧∀ i,SetTable.below.go xs j fuel lo hi≤i→i < xs.size→j≤xs.getD i 0
 | 0,lo,hi,h1,h2,h3,a,b=>by
  have e:SetTable.below.go xs j 0 lo hi=lo:=by unfold SetTable.below.go; rfl
  rw [e]
  exact ⟨by lia,a,fun i hi'=>b i (by lia)⟩
 | fuel + 1,lo,hi,h1,h2,h3,a,b=>by
  unfold SetTable.below.go
  by_cases hlt:lo < hi
  ·rw [if_pos hlt]
   have m1:(lo + hi) / 2 < hi:=by lia
   have m0:lo≤(lo + hi) / 2:=by lia
   have ms:(lo + hi) / 2 < xs.size:=by lia
   dsimp only
   rw [getD_any (e:=0) ms]
   by_cases hc:xs.getD ((lo + hi) / 2) 0 < j
   ·rw [if_pos hc]
    refine below_go hr fuel _ _ (by lia) h2 (by lia) (fun i hi'=>?_) b
    rcases Nat.lt_or_eq_of_le (Nat.lt_succ_iff.mp hi') with h | h
    ·exact Nat.lt_trans (hr _ _ h ms) hc
    ·rw [h]; exact hc
   ·rw [if_neg hc]
    refine below_go hr fuel _ _ m0 (by lia) (by lia) a (fun i hi' his=>?_)
    rcases Nat.lt_or_eq_of_le hi' with h | h
    ·exact Nat.le_trans (Nat.le_of_not_lt hc) (Nat.le_of_lt (hr _ _ h his))
    ·rw [← h]; exact Nat.le_of_not_lt hc
  ·rw [if_neg hlt]
   exact ⟨by lia,a,fun i hi'=>b i (by lia)⟩
theorem below_spec {xs:Array Nat} (hr:Rising xs) (j:Nat):SetTable.below xs j≤xs.size∧(∀ i,i < SetTable.below xs j→xs.getD i 0 < j)∧∀ i,SetTable.below xs j≤i→i < xs.size→j≤xs.getD i 0 :=
 below_go hr xs.size 0 xs.size (Nat.zero_le _) (Nat.le_refl _) (by lia) (fun i h=>absurd h (Nat.not_lt_zero _)) fun i h h'=>absurd h' (by lia)
theorem below_zero {xs:Array Nat} (hr:Rising xs):SetTable.below xs 0=0:=by
 obtain ⟨_,a,_⟩:=below_spec hr 0
 cases e:SetTable.below xs 0 with
 | zero=>rfl
 | succ n=>rw [e] at a; exact absurd (a 0 (Nat.succ_pos _)) (Nat.not_lt_zero _)
theorem below_next {xs:Array Nat} (hr:Rising xs) {i:Nat} (hi:i < xs.size):SetTable.below xs (xs.getD i 0 + 1)=i + 1:=by
 obtain ⟨p,a,b⟩:=below_spec hr (xs.getD i 0 + 1)
 rcases Nat.lt_trichotomy (SetTable.below xs (xs.getD i 0 + 1)) (i + 1) with h | h | h
 ·have:=b i (by lia) hi; lia
 ·exact h
 ·have h1:=a (i + 1) h
  have h2:=hr i (i + 1) (Nat.lt_succ_self _) (by lia)
  lia
theorem rising_put {xs:Array Nat} (hr:Rising xs) {j:Nat} (hj:∀ i,i < xs.size→xs.getD i 0≠j):Rising (SetTable.insertAt xs (SetTable.below xs j) j):=by
 obtain ⟨p,a,b⟩:=below_spec hr j
 generalize SetTable.below xs j=q at p a b ⊢
 have sz:(SetTable.insertAt xs q j).size=xs.size + 1:=by unfold SetTable.insertAt; simp; lia
 have at_:∀ i,i < xs.size + 1→(SetTable.insertAt xs q j).getD i 0=if i < q then xs.getD i 0 else if i=q then j else xs.getD (i - 1) 0:=by
  intro i hi
  unfold SetTable.insertAt
  simp only [Array.getD_eq_getD_getElem?,Array.getElem?_append,Array.getElem?_push,Array.getElem?_extract,Array.size_push,Array.size_extract]
  have m:min q xs.size=q:=Nat.min_eq_left p
  simp only [m,Nat.sub_zero,Nat.min_self,Nat.zero_add]
  rcases Nat.lt_trichotomy i q with h | h | h
  ·rw [if_pos (show i < q + 1 by lia),if_neg (show ¬ i=q by lia),if_pos h,if_pos h]
  ·subst h
   rw [if_pos (Nat.lt_succ_self _),if_pos rfl,if_neg (Nat.lt_irrefl _),if_pos rfl]
   rfl
  ·rw [if_neg (show ¬ i < q + 1 by lia),if_pos (show i - (q + 1) < xs.size - q by lia),if_neg (show ¬ i < q by lia),if_neg (show ¬ i=q by lia),show q + (i - (q + 1))=i - 1 by lia]
 intro i k hik hk
 rw [sz] at hk
 rw [at_ i (by lia),at_ k hk]
 by_cases h1:i < q
 ·rw [if_pos h1]
  by_cases h2:k < q
  ·rw [if_pos h2]; exact hr i k hik (by lia)
  ·rw [if_neg h2]
   by_cases h3:k=q
   ·rw [if_pos h3]; exact a i h1
   ·rw [if_neg h3]; exact Nat.lt_of_lt_of_le (a i h1) (b (k - 1) (by lia) (by lia))
 ·rw [if_neg h1,if_neg (show ¬ k < q by lia),if_neg (show ¬ k=q by lia)]
  by_cases h3:i=q
  ·rw [if_pos h3]
   have:=b (k - 1) (by lia) (by lia)
   have:=hj (k - 1) (by lia)
   lia
  ·rw [if_neg h3]; exact hr (i - 1) (k - 1) (by lia) (by lia)
theorem rising_range (n:Nat):Rising (Array.range n):=by
 intro i j hij hj
 rw [Array.size_range] at hj
 simp [Array.getD_eq_getD_getElem?,Array.getElem?_range,hj,show i < n by lia]
 lia
end L2
namespace L2
open PySem PySem.Spec PyProof.Rows
structure TabOk (t:SetTable):Prop where
 dum:t.dummies=#[]
 rise:Rising t.place
 mask:7≤t.mask
theorem has_nil (j:Nat):SetTable.has #[] j=false:=by unfold SetTable.has; simp
theorem not_taken {t:SetTable} (o:TabOk t) {j:Nat} (h:t.slot j=.empty):∀ i,i < t.place.size→t.place.getD i 0≠j:=by
 intro i hi e
 have hb:SetTable.below t.place j=i:=by
  obtain ⟨p,a,b⟩:=below_spec o.rise j
  rcases Nat.lt_trichotomy (SetTable.below t.place j) i with h | h | h
  ·have:=b _ (Nat.le_refl _) (by lia)
   have:=o.rise _ _ h hi
   lia
  ·exact h
  ·have:=a i h; lia
 unfold SetTable.slot at h
 dsimp only at h
 rw [hb,if_pos] at h
 ·cases h
 ·rw [Array.getD_eq_getD_getElem?,Array.getElem?_eq_getElem hi] at e
  rw [Array.getElem?_eq_getElem hi,← e]
  simp
theorem adv_dummy (t:SetTable) (p:SetTable.Probe):(t.advance p).dummy=p.dummy:=by
 unfold SetTable.advance
 split <;> rfl
theorem probe_empty {t:SetTable} (hd:t.dummies=#[]) {h:Int} {j:Nat} {d:Option Nat}:∀ (fuel:Nat) (p:SetTable.Probe),p.dummy=none→SetTable.probe.go t (fun _=>h + 1) h fuel p=some (.empty j d)→t.slot j=.empty∧d=none
 | 0,p,_,e=>by unfold SetTable.probe.go at e; cases e
 | fuel + 1,p,hp,e=>by
  unfold SetTable.probe.go at e
  cases es:t.slot p.j with
  | empty =>
   rw [es] at e
   dsimp only at e
   injection e with e
   injection e with e1 e2
   rw [← e1,← e2]
   exact ⟨es,hp⟩
  | dummy =>
   unfold SetTable.slot at es
   dsimp only at es
   rw [hd,has_nil] at es
   split at es
   ·cases es
   ·simp at es
  | live i =>
   rw [es] at e
   dsimp only at e
   rw [if_neg (by simp; lia)] at e
   exact probe_empty hd fuel _ (by rw [adv_dummy]; exact hp) e
theorem free_empty {t:SetTable} (hd:t.dummies=#[]) {h:Int} {slot:Nat} {wd:Bool} (e:t.freeSlot h=some (slot,wd)):t.slot slot=.empty:=by
 unfold SetTable.freeSlot SetTable.probe at e
 split at e
 ·rename_i j d hq
  obtain ⟨a,b⟩:=probe_empty hd _ _ rfl hq
  rw [b] at e
  injection e with e
  injection e with e1 _
  rw [← e1]
  exact a
 ·cases e
theorem standIn_ok {t:SetTable} {n:Nat} (hn:1≤n):TabOk (t.standIn n):=⟨rfl,rising_range n,by show 7≤4 * n + 4; lia⟩
theorem layNew_ok {t:SetTable} (o:TabOk t) (es:Array (Int×Value)) (h:Int) (x:Value):TabOk (layNew t es h x).2.1∧(layNew t es h x).2.1.led=t.led:=by
 unfold layNew
 cases e:t.freeSlot h with
 | none=>exact ⟨standIn_ok (Nat.succ_pos _),rfl⟩
 | some q =>
  obtain ⟨slot,wd⟩:=q
  have hs:=free_empty o.dum e
  have ok':TabOk (t.put slot).1:=by
   refine ⟨?_,rising_put o.rise (not_taken o hs),o.mask⟩
   show (if SetTable.has t.dummies slot then _ else t.dummies)=#[]
   rw [o.dum,has_nil]
   rfl
  dsimp only
  have sz:1≤(SetTable.insertAt es (t.put slot).2 (h,x)).size:=by unfold SetTable.insertAt; simp; lia
  unfold SetTable.orStandIn
  split
  ·exact ⟨ok',rfl⟩
  ·exact ⟨standIn_ok sz,rfl⟩
end L2
namespace L2
open PySem PySem.Spec PyProof.Rows
end L2
namespace L2
open PySem PySem.Spec PyProof.Rows
noncomputable def byT (w:World):Bool:=w.params.followText "set-order"
section
variable {prog:Program} {w:World} {A:Around} {E:Value→Shared→Prop} {s:Shared}
end
end L2
namespace L2
open PySem PySem.Spec PyProof.Rows
section
variable {prog:Program} {w:World} {A:Around} {R:Result→Shared→Prop} {I:Addr} {fp wr:List Addr} {G:Array GenState→Array GenState→Prop} {n:Nat} {P:Nat→Value→Prop} {St:Nat→Shared→Prop}
end
section
variable {prog:Program} {w:World} {A:Around} {E:Value→Shared→Prop} {s:Shared}
noncomputable def newS (w:World):Obj:={ cls:=.type "set",dict:=none,data:=.set #[] 0 (.fresh 0 0 (!byT w)) }
end
end L2
namespace L2
open PySem PySem.Spec PyProof.Rows
section
variable {prog:Program} {w:World} {A:Around} {E:Value→Shared→Prop} {s:Shared}
end
end L2
namespace L2
open PySem PySem.Spec PyProof.Rows
noncomputable def gallop':Bool→Keyed→Array Keyed→Nat→Nat→Nat→StateT SortSt Sem (Option Nat):=sortPriv% PySem.Builtin.gallop
structure Cm (M:Model) (A:Around) (E:Value→Shared→Prop) (s:Shared) {O:KeyOrd} (κ:Keyed→O.α) (ok:Keyed→Prop) (kd:SortKind):Prop where
 lt:∀ {st:SortSt} {x y:Keyed} {Q:Option Bool→SortSt→Prop},kindOf st=kd→failedOf st=none→ok x→ok y→Q (some (O.blt (κ x) (κ y))) st→wpS M A E s (lt' x y) Q st
noncomputable def Sx (kd:SortKind) (st:SortSt):Prop:=kindOf st=kd∧failedOf st=none
section
variable {prog:Program} {w:World} {A:Around} {E:Value→Shared→Prop} {s:Shared} {O:KeyOrd} {κ:Keyed→O.α} {ok:Keyed→Prop} {kd:SortKind}
theorem wpS_elem {M:Model} {arr:Array Keyed} {i:Nat} {x:Keyed} {Q:Keyed→SortSt→Prop} {st:SortSt} (h:arr[i]?=some x) (q:Q x st):wpS M A E s (elem' arr i) Q st:=by
 rw [elem'_eq,h]; exact wpS_pure q
noncomputable def pb (κ:Keyed→O.α) (left:Bool) (key:Keyed) (arr:Array Keyed) (base i:Nat):Bool:=match arr[base + i]? with
 | some x=>if left then O.blt (κ x) (κ key) else !(O.blt (κ key) (κ x))
 | none=>false
theorem go_beyond (C:Cm (model prog w) A E s κ ok kd) {st:SortSt} (hs:Sx kd st) {left:Bool} {key:Keyed} {arr:Array Keyed} {base i:Nat} {Q:Option Bool→SortSt→Prop} (hk:ok key) (ha:∀ x∈arr,ok x) (hi:base + i < arr.size)
  (q:Q (some (pb κ left key arr base i)) st):wpS (model prog w) A E s (do
  let x ← elem' arr (base + i)
  if left then lt' x key else return (← lt' key x).map (!·)) Q st:=by
 have hx:arr[base + i]?=some arr[base + i]:=Array.getElem?_eq_getElem hi
 have hok:ok arr[base + i]:=ha _ (Array.getElem_mem hi)
 refine wpS_bind (wpS_elem hx ?_)
 unfold pb at q
 rw [hx] at q
 cases left with
 | true =>
  simp only [if_true] at q ⊢
  exact C.lt hs.1 hs.2 hok hk q
 | false =>
  simp only [Bool.false_eq_true,if_false] at q ⊢
  exact wpS_bind (C.lt hs.1 hs.2 hk hok (wpS_pure q))
theorem go_gallop (C:Cm (model prog w) A E s κ ok kd) {st:SortSt} (hs:Sx kd st) {left:Bool} {key:Keyed} {arr:Array Keyed} {base n hint:Nat} {Q:Option Nat→SortSt→Prop} (hk:ok key) (ha:∀ x∈arr,ok x) (hsz:base + n≤arr.size) (hh:hint < n)
  (mono:∀ i j,i≤j→j < n→pb κ left key arr base j=true→pb κ left key arr base i=true)
  (q:∀ k,k≤n→(∀ i,i < k→pb κ left key arr base i=true)→(∀ i,k≤i→i < n→pb κ left key arr base i=false)→Q (some k) st):wpS (model prog w) A E s (gallop' left key arr base n hint) Q st:=by
 refine wpS_bind (go_beyond C hs hk ha (by lia) ?_)
 dsimp only
 cases e0:pb κ left key arr base hint with
 | true =>
  rw [if_pos rfl]
  refine wpS_bind (wpS_mono (wpS_forRange (fun x c st'=>st'=st∧∃ l o,c=(none,l,o)∧l < o∧x + 1≤o∧l < n - hint∧pb κ left key arr base (hint + l)=true)
   (Q:=fun c st'=>st'=st∧∃ l o,c=(none,l,o)∧l < o∧l < n - hint∧pb κ left key arr base (hint + l)=true∧(o ≥ n - hint∨pb κ left key arr base (hint + o)=false)) (fun x c st' _ hx hI=>?_) (fun c st' hI=>?_) ⟨rfl,0,1,rfl,by lia,by lia,by lia,e0⟩) ?_)
  ·obtain ⟨rfl,l,o,rfl,a1,a2,a3,a4⟩:=hI
   dsimp only
   by_cases c:o ≥ n - hint
   ·rw [if_pos c]; exact wpS_pure ⟨rfl,l,o,rfl,a1,a3,a4,.inl c⟩
   rw [if_neg c]
   refine wpS_bind (go_beyond C hs hk ha (by lia) ?_)
   dsimp only
   cases e:pb κ left key arr base (hint + o) with
   | false =>
    rw [if_pos (by simp)]
    exact wpS_pure ⟨rfl,l,o,rfl,a1,a3,a4,.inr e⟩
   | true =>
    rw [if_neg (by simp)]
    exact wpS_pure ⟨rfl,o,_,rfl,by lia,by lia,by lia,e⟩
  ·obtain ⟨rfl,l,o,rfl,a1,a2,a3,a4⟩:=hI
   exact ⟨rfl,l,o,rfl,a1,a3,a4,.inl (by lia)⟩
  ·rintro c st' ⟨rfl,l,o,rfl,a1,a3,a4,a5⟩
   dsimp only
   obtain ⟨lo,hlo⟩:∃ lo,lo=hint + l + 1:=⟨_,rfl⟩
   obtain ⟨hi,hhi⟩:∃ hi,hi=hint + min o (n - hint):=⟨_,rfl⟩
   rw [← hlo,← hhi]
   have h1:lo≤hi:=by lia
   have h2:hi≤n:=by lia
   have h3:∀ i,i < lo→pb κ left key arr base i=true:=fun i ci=>mono i (hint + l) (by lia) (by lia) a4
   have h4:∀ i,hi≤i→i < n→pb κ left key arr base i=false:=fun i c1 c2=>by
    rcases a5 with a5 | a5
    ·lia
    ·by_cases co:o ≥ n - hint
     ·lia
     cases e2:pb κ left key arr base i with
     | false=>rfl
     | true=>rw [mono _ i (by lia) c2 e2] at a5; cases a5
   clear hlo hhi a1 a3 a4 a5
   refine wpS_bind (wpS_mono (wpS_forRange (fun x c st2=>st2=st'∧∃ lo hi,c=(none,lo,hi)∧lo≤hi∧hi≤n∧hi - lo≤n - x∧(∀ i,i < lo→pb κ left key arr base i=true)∧∀ i,hi≤i→i < n→pb κ left key arr base i=false)
    (Q:=fun c st2=>st2=st'∧∃ lo hi,c=(none,lo,hi)∧hi≤lo∧hi≤n∧(∀ i,i < lo→pb κ left key arr base i=true)∧∀ i,hi≤i→i < n→pb κ left key arr base i=false) (fun x c st2 _ hx hI=>?_) (fun c st2 hI=>?_) ⟨rfl,lo,hi,rfl,h1,h2,by lia,h3,h4⟩) ?_)
   ·obtain ⟨rfl,lo,hi,rfl,a1,a2,a3,a4,a5⟩:=hI
    dsimp only
    by_cases c:lo ≥ hi
    ·rw [if_pos c]; exact wpS_pure ⟨rfl,lo,hi,rfl,c,a2,a4,a5⟩
    rw [if_neg c]
    refine wpS_bind (go_beyond C hs hk ha (by lia) ?_)
    dsimp only
    cases e:pb κ left key arr base (lo + (hi - lo) / 2) with
    | true =>
     rw [if_pos rfl]
     exact wpS_pure ⟨rfl,_,hi,rfl,by lia,a2,by lia,fun i ci=>mono i (lo + (hi - lo) / 2) (by lia) (by lia) e,a5⟩
    | false =>
     rw [if_neg Bool.false_ne_true]
     refine wpS_pure ⟨rfl,lo,_,rfl,by lia,by lia,by lia,a4,fun i c1 c2=>?_⟩
     cases e2:pb κ left key arr base i with
     | false=>rfl
     | true=>rw [mono _ i c1 c2 e2] at e; cases e
   ·obtain ⟨rfl,lo,hi,rfl,a1,a2,a3,a4,a5⟩:=hI
    exact ⟨rfl,lo,hi,rfl,by lia,a2,a4,a5⟩
   ·rintro c st2 ⟨rfl,lo,hi,rfl,a1,a2,a4,a5⟩
    exact wpS_pure (q hi a2 (fun i ci=>a4 i (by lia)) a5)
 | false =>
  rw [if_neg Bool.false_ne_true]
  refine wpS_bind (wpS_mono (wpS_forRange (fun x c st'=>st'=st∧∃ l o,c=(none,l,o)∧l < o∧x + 1≤o∧l < hint + 1∧pb κ left key arr base (hint - l)=false)
   (Q:=fun c st'=>st'=st∧∃ l o,c=(none,l,o)∧l < o∧l < hint + 1∧pb κ left key arr base (hint - l)=false∧(o ≥ hint + 1∨pb κ left key arr base (hint - o)=true)) (fun x c st' _ hx hI=>?_) (fun c st' hI=>?_) ⟨rfl,0,1,rfl,by lia,by lia,by lia,e0⟩) ?_)
  ·obtain ⟨rfl,l,o,rfl,a1,a2,a3,a4⟩:=hI
   dsimp only
   by_cases c:o ≥ hint + 1
   ·rw [if_pos c]; exact wpS_pure ⟨rfl,l,o,rfl,a1,a3,a4,.inl c⟩
   rw [if_neg c]
   refine wpS_bind (go_beyond C hs hk ha (by lia) ?_)
   dsimp only
   cases e:pb κ left key arr base (hint - o) with
   | true =>
    rw [if_pos rfl]
    exact wpS_pure ⟨rfl,l,o,rfl,a1,a3,a4,.inr e⟩
   | false =>
    rw [if_neg (by simp)]
    exact wpS_pure ⟨rfl,o,_,rfl,by lia,by lia,by lia,e⟩
  ·obtain ⟨rfl,l,o,rfl,a1,a2,a3,a4⟩:=hI
   exact ⟨rfl,l,o,rfl,a1,a3,a4,.inl (by lia)⟩
  ·rintro c st' ⟨rfl,l,o,rfl,a1,a3,a4,a5⟩
   dsimp only
   obtain ⟨lo,hlo⟩:∃ lo,lo=hint + 1 - min o (hint + 1):=⟨_,rfl⟩
   obtain ⟨hi,hhi⟩:∃ hi,hi=hint - l:=⟨_,rfl⟩
   rw [← hlo,← hhi]
   have h1:lo≤hi:=by lia
   have h2:hi≤n:=by lia
   have h3:∀ i,i < lo→pb κ left key arr base i=true:=fun i ci=>by
    rcases a5 with a5 | a5
    ·lia
    ·by_cases co:o ≥ hint + 1
     ·lia
     exact mono i (hint - o) (by lia) (by lia) a5
   have h4:∀ i,hi≤i→i < n→pb κ left key arr base i=false:=fun i c1 c2=>by
    cases e2:pb κ left key arr base i with
    | false=>rfl
    | true=>rw [mono (hint - l) i (by lia) c2 e2] at a4; cases a4
   clear hlo hhi a1 a3 a4 a5
   refine wpS_bind (wpS_mono (wpS_forRange (fun x c st2=>st2=st'∧∃ lo hi,c=(none,lo,hi)∧lo≤hi∧hi≤n∧hi - lo≤n - x∧(∀ i,i < lo→pb κ left key arr base i=true)∧∀ i,hi≤i→i < n→pb κ left key arr base i=false)
    (Q:=fun c st2=>st2=st'∧∃ lo hi,c=(none,lo,hi)∧hi≤lo∧hi≤n∧(∀ i,i < lo→pb κ left key arr base i=true)∧∀ i,hi≤i→i < n→pb κ left key arr base i=false) (fun x c st2 _ hx hI=>?_) (fun c st2 hI=>?_) ⟨rfl,lo,hi,rfl,h1,h2,by lia,h3,h4⟩) ?_)
   ·obtain ⟨rfl,lo,hi,rfl,a1,a2,a3,a4,a5⟩:=hI
    dsimp only
    by_cases c:lo ≥ hi
    ·rw [if_pos c]; exact wpS_pure ⟨rfl,lo,hi,rfl,c,a2,a4,a5⟩
    rw [if_neg c]
    refine wpS_bind (go_beyond C hs hk ha (by lia) ?_)
    dsimp only
    cases e:pb κ left key arr base (lo + (hi - lo) / 2) with
    | true =>
     rw [if_pos rfl]
     exact wpS_pure ⟨rfl,_,hi,rfl,by lia,a2,by lia,fun i ci=>mono i (lo + (hi - lo) / 2) (by lia) (by lia) e,a5⟩
    | false =>
     rw [if_neg Bool.false_ne_true]
     refine wpS_pure ⟨rfl,lo,_,rfl,by lia,by lia,by lia,a4,fun i c1 c2=>?_⟩
     cases e2:pb κ left key arr base i with
     | false=>rfl
     | true=>rw [mono _ i c1 c2 e2] at e; cases e
   ·obtain ⟨rfl,lo,hi,rfl,a1,a2,a3,a4,a5⟩:=hI
    exact ⟨rfl,lo,hi,rfl,by lia,a2,a4,a5⟩
   ·rintro c st2 ⟨rfl,lo,hi,rfl,a1,a2,a4,a5⟩
    exact wpS_pure (q hi a2 (fun i ci=>a4 i (by lia)) a5)
end
end L2
namespace L2
open PySem PySem.Spec PyProof.Rows
noncomputable def mergeLo':Array Keyed→Array Keyed→StateT SortSt Sem (Array Keyed):=sortPriv% PySem.Builtin.mergeLo
noncomputable abbrev setGal (st:SortSt) (g:Nat):SortSt:=SortSt.mk' (kindOf st) (arrOf st) (pendingOf st) g (failedOf st)
section
variable {O:KeyOrd} (κ:Keyed→O.α)
noncomputable def Srd (l:List Keyed):Prop:=l.Pairwise fun x y=>O.kle (κ x) (κ y)
structure MI (L out a b:List Keyed):Prop where
 perm:(out++a++b).Perm L
 so:Srd κ out
 sa:Srd κ a
 sb:Srd κ b
 oa:∀ x∈out,∀ y∈a,O.kle (κ x) (κ y)
 ob:∀ x∈out,∀ y∈b,O.kle (κ x) (κ y)
variable {κ}
theorem Srd.app {l r:List Keyed}:Srd κ (l++r)↔Srd κ l∧Srd κ r∧∀ x∈l,∀ y∈r,O.kle (κ x) (κ y):=List.pairwise_append
theorem MI.takeA {L out c a b:List Keyed} (m:MI κ L out (c++a) b) (h:∀ x∈c,∀ y∈b,O.kle (κ x) (κ y)):MI κ L (out++c) a b:=by
 obtain ⟨s1,s2,s3⟩:=Srd.app.mp m.sa
 refine ⟨by rw [List.append_assoc out c a]; exact m.perm,Srd.app.mpr ⟨m.so,s1,fun x hx y hy=>m.oa x hx y (List.mem_append_left _ hy)⟩,s2,m.sb,fun x hx y hy=>?_,fun x hx y hy=>?_⟩
 ·rcases List.mem_append.mp hx with hx | hx
  ·exact m.oa x hx y (List.mem_append_right _ hy)
  ·exact s3 x hx y hy
 ·rcases List.mem_append.mp hx with hx | hx
  ·exact m.ob x hx y hy
  ·exact h x hx y hy
theorem MI.swap {L out a b:List Keyed} (m:MI κ L out a b):MI κ L out b a :=
 ⟨((List.append_assoc out b a ▸ List.Perm.append_left out List.perm_append_comm:(out++b++a).Perm (out++(a++b))).trans (List.append_assoc out a b ▸ List.Perm.refl _)).trans m.perm,m.so,m.sb,m.sa,m.ob,m.oa⟩
theorem MI.takeB {L out c a b:List Keyed} (m:MI κ L out a (c++b)) (h:∀ x∈c,∀ y∈a,O.kle (κ x) (κ y)):MI κ L (out++c) a b:=(m.swap.takeA h).swap
theorem MI.endA {L out a b:List Keyed} (m:MI κ L out a b) (h:∀ x∈a,∀ y∈b,O.kle (κ x) (κ y)):Srd κ (out++a++b)∧(out++a++b).Perm L :=
 ⟨Srd.app.mpr ⟨Srd.app.mpr ⟨m.so,m.sa,m.oa⟩,m.sb,fun x hx y hy=>by
  rcases List.mem_append.mp hx with hx | hx
  ·exact m.ob x hx y hy
  ·exact h x hx y hy⟩,m.perm⟩
end
section
variable {O:KeyOrd} {κ:Keyed→O.α}
theorem arr_at {a:Array Keyed} {i:Nat} (h:i < a.size):∃ x,a[i]?=some x∧a.toList.drop i=x :: a.toList.drop (i + 1)∧x∈a :=
 ⟨a[i],Array.getElem?_eq_getElem h,by rw [List.drop_eq_getElem_cons (by simpa using h)]; simp,Array.getElem_mem h⟩
theorem arr_at2 {a:Array Keyed} {i:Nat} {P:Prop} (h:i < a.size) (k:∀ x,a[i]?=some x→a.toList.drop i=x :: a.toList.drop (i + 1)→x∈a→P):P:=by
 obtain ⟨x,h1,h2,h3⟩:=arr_at h
 exact k x h1 h2 h3
theorem wpS_ifT {M:Model} {A:Around} {E:Value→Shared→Prop} {s:Shared} {τ α:Type} {c:Prop} [Decidable c] {x y:StateT τ Sem α} {Q:α→τ→Prop} {st:τ} (h:c) (k:wpS M A E s x Q st):wpS M A E s (if c then x else y) Q st:=by
 rw [if_pos h]; exact k
theorem wpS_ifF {M:Model} {A:Around} {E:Value→Shared→Prop} {s:Shared} {τ α:Type} {c:Prop} [Decidable c] {x y:StateT τ Sem α} {Q:α→τ→Prop} {st:τ} (h:¬ c) (k:wpS M A E s y Q st):wpS M A E s (if c then x else y) Q st:=by
 rw [if_neg h]; exact k
theorem wpS_ite {M:Model} {A:Around} {E:Value→Shared→Prop} {s:Shared} {τ α:Type} {c:Prop} [Decidable c] {x y:StateT τ Sem α} {Q:α→τ→Prop} {st:τ} (h1:c→wpS M A E s x Q st) (h2:¬ c→wpS M A E s y Q st):wpS M A E s (if c then x else y) Q st:=by
 by_cases h:c
 ·exact wpS_ifT h (h1 h)
 ·exact wpS_ifF h (h2 h)
theorem ext_toList (a:Array Keyed) (i j:Nat):(a.extract i j).toList=(a.toList.drop i).take (j - i):=by
 rw [Array.toList_extract]
theorem ext_end (a:Array Keyed) (i:Nat):(a.extract i).toList=a.toList.drop i:=by
 rw [ext_toList]; exact List.take_of_length_le (by simp)
theorem ext_drop {a:Array Keyed} {i k:Nat}:a.toList.drop i=(a.extract i (i + k)).toList++a.toList.drop (i + k):=by
 rw [ext_toList,Nat.add_sub_cancel_left,← List.drop_drop,List.take_append_drop]
theorem mem_ext {a:Array Keyed} {i k:Nat} {x:Keyed} (h:x∈(a.extract i (i + k)).toList):∃ j,j < k∧a[i + j]?=some x:=by
 rw [ext_toList,Nat.add_sub_cancel_left] at h
 obtain ⟨j,hj⟩:=List.mem_iff_getElem?.mp h
 rw [List.getElem?_take] at hj
 split at hj
 ·rename_i c
  refine ⟨j,c,?_⟩
  rw [List.getElem?_drop] at hj
  simpa using hj
 ·cases hj
theorem mem_drop {a:Array Keyed} {i:Nat} {x:Keyed} (h:x∈a.toList.drop i):∃ j,i + j < a.size∧a[i + j]?=some x:=by
 obtain ⟨j,hj⟩:=List.mem_iff_getElem?.mp h
 rw [List.getElem?_drop] at hj
 have hl:=(List.getElem?_eq_some_iff.mp hj).1
 exact ⟨j,by simpa using hl,by simpa using hj⟩
theorem Srd.get {a:Array Keyed} (h:Srd κ a.toList) {i j:Nat} {x y:Keyed} (hij:i≤j) (hx:a[i]?=some x) (hy:a[j]?=some y):O.kle (κ x) (κ y):=by
 have hx':a.toList[i]?=some x:=by simpa using hx
 have hy':a.toList[j]?=some y:=by simpa using hy
 rcases Nat.lt_or_ge i j with c | c
 ·obtain ⟨l1,e1⟩:=List.getElem?_eq_some_iff.mp hx'
  obtain ⟨l2,e2⟩:=List.getElem?_eq_some_iff.mp hy'
  have:=List.pairwise_iff_getElem.mp h i j l1 l2 c
  rw [e1,e2] at this
  exact this
 ·have:i=j:=by lia
  subst this
  rw [hx] at hy; cases hy
  exact KeyOrd.kle_refl _
noncomputable def Gd (κ:Keyed→O.α) (L:List Keyed) (r:Array Keyed):Prop:=Srd κ r.toList∧r.toList.Perm L
theorem MI.done {L:List Keyed} {out a b:Array Keyed} {ia ib:Nat} (m:MI κ L out.toList (a.toList.drop ia) (b.toList.drop ib)) (h:ib=b.size∨ia=a.size):Gd κ L (out++a.extract ia++b.extract ib):=by
 unfold Gd
 rw [Array.toList_append,Array.toList_append,ext_end,ext_end]
 refine m.endA fun x hx y hy=>?_
 rcases h with h | h
 ·rw [h,List.drop_of_length_le (by simp)] at hy; cases hy
 ·rw [h,List.drop_of_length_le (by simp)] at hx; cases hx
theorem MI.last {L:List Keyed} {out a b:Array Keyed} {ia ib:Nat} (m:MI κ L out.toList (a.toList.drop ia) (b.toList.drop ib)) (h:ia + 1=a.size) (h2:∀ y∈b,∀ x,a[a.size - 1]?=some x→O.kle (κ y) (κ x)):Gd κ L (out++b.extract ib++a.extract ia):=by
 unfold Gd
 rw [Array.toList_append,Array.toList_append,ext_end,ext_end]
 refine m.swap.endA fun y hy x hx=>?_
 obtain ⟨j,j1,j2⟩:=mem_drop hx
 obtain ⟨k,k1,k2⟩:=mem_drop hy
 exact h2 y (Array.mem_of_getElem? k2) x (by rw [← j2]; congr 1; lia)
theorem MI.pushB {L:List Keyed} {out a b:Array Keyed} {ia ib:Nat} {y:Keyed} (m:MI κ L out.toList (a.toList.drop ia) (b.toList.drop ib)) (hy:b.toList.drop ib=y :: b.toList.drop (ib + 1)) (h:∀ x∈a.toList.drop ia,O.kle (κ y) (κ x)):MI κ L (out.push y).toList (a.toList.drop ia) (b.toList.drop (ib + 1)):=by
 rw [Array.toList_push]
 rw [hy] at m
 exact MI.takeB (c:=[y]) m (fun x hx z hz=>by rw [List.mem_singleton.mp hx]; exact h z hz)
theorem MI.pushA {L:List Keyed} {out a b:Array Keyed} {ia ib:Nat} {y:Keyed} (m:MI κ L out.toList (a.toList.drop ia) (b.toList.drop ib)) (hy:a.toList.drop ia=y :: a.toList.drop (ia + 1)) (h:∀ x∈b.toList.drop ib,O.kle (κ y) (κ x)):MI κ L (out.push y).toList (a.toList.drop (ia + 1)) (b.toList.drop ib):=by
 rw [Array.toList_push]
 rw [hy] at m
 exact MI.takeA (c:=[y]) m (fun x hx z hz=>by rw [List.mem_singleton.mp hx]; exact h z hz)
theorem MI.chunkA {L:List Keyed} {out a b:Array Keyed} {ia ib k:Nat} (m:MI κ L out.toList (a.toList.drop ia) (b.toList.drop ib)) (h:∀ x∈(a.extract ia (ia + k)).toList,∀ y∈b.toList.drop ib,O.kle (κ x) (κ y)):MI κ L (out++a.extract ia (ia + k)).toList (a.toList.drop (ia + k)) (b.toList.drop ib):=by
 rw [Array.toList_append]
 rw [ext_drop (a:=a) (i:=ia) (k:=k)] at m
 exact m.takeA h
theorem MI.chunkB {L:List Keyed} {out a b:Array Keyed} {ia ib k:Nat} (m:MI κ L out.toList (a.toList.drop ia) (b.toList.drop ib)) (h:∀ x∈(b.extract ib (ib + k)).toList,∀ y∈a.toList.drop ia,O.kle (κ x) (κ y)):MI κ L (out++b.extract ib (ib + k)).toList (a.toList.drop ia) (b.toList.drop (ib + k)):=by
 rw [Array.toList_append]
 rw [ext_drop (a:=b) (i:=ib) (k:=k)] at m
 exact m.takeB h
theorem MI.headA {L out b:List Keyed} {a:Array Keyed} {ia:Nat} {x:Keyed} (m:MI κ L out (a.toList.drop ia) b) (hx:a.toList.drop ia=x :: a.toList.drop (ia + 1)):∀ z∈a.toList.drop ia,O.kle (κ x) (κ z):=by
 have:=m.sa
 rw [hx] at this ⊢
 intro z hz
 rcases List.mem_cons.mp hz with rfl | hz
 ·exact KeyOrd.kle_refl _
 ·exact (List.pairwise_cons.mp this).1 z hz
theorem MI.headB {L out a:List Keyed} {b:Array Keyed} {ib:Nat} {x:Keyed} (m:MI κ L out a (b.toList.drop ib)) (hx:b.toList.drop ib=x :: b.toList.drop (ib + 1)):∀ z∈b.toList.drop ib,O.kle (κ x) (κ z):=m.swap.headA hx
theorem MI.size {L:List Keyed} {out a b:Array Keyed} {ia ib:Nat} (m:MI κ L out.toList (a.toList.drop ia) (b.toList.drop ib)):out.size + (a.size - ia) + (b.size - ib)=L.length:=by
 have:=m.perm.length_eq
 simp only [List.length_append,List.length_drop,Array.length_toList] at this
 exact this
end
section
variable {prog:Program} {w:World} {A:Around} {E:Value→Shared→Prop} {s:Shared} {O:KeyOrd} {κ:Keyed→O.α} {ok:Keyed→Prop} {kd:SortKind}
theorem Sx.gal {st:SortSt} {g:Nat} (h:Sx kd st):Sx kd (setGal st g):=h
theorem go_right (C:Cm (model prog w) A E s κ ok kd) {st:SortSt} (hs:Sx kd st) {key:Keyed} {arr:Array Keyed} {base n hint:Nat} {Q:Option Nat→SortSt→Prop} (hk:ok key) (ha:∀ x∈arr,ok x) (hsz:base + n≤arr.size) (hh:hint < n)
  (srt:∀ i j x y,base≤i→i≤j→j < base + n→arr[i]?=some x→arr[j]?=some y→O.kle (κ x) (κ y))
  (q:∀ k,k≤n→(∀ j x,j < k→arr[base + j]?=some x→O.kle (κ x) (κ key))→(∀ j x,k≤j→j < n→arr[base + j]?=some x→O.klt (κ key) (κ x))→Q (some k) st):wpS (model prog w) A E s (gallop' false key arr base n hint) Q st:=by
 refine go_gallop C hs hk ha hsz hh (fun i j hij hj hp=>?_) fun k hk h1 h2=>q k hk (fun j x hj hx=>?_) (fun j x c1 c2 hx=>?_)
 ·have xi:arr[base + i]?=some arr[base + i]:=Array.getElem?_eq_getElem (by lia)
  have xj:arr[base + j]?=some arr[base + j]:=Array.getElem?_eq_getElem (by lia)
  unfold pb at hp ⊢
  rw [xj] at hp
  rw [xi]
  simp only [Bool.false_eq_true,if_false,Bool.not_eq_true'] at hp ⊢
  exact KeyOrd.kle_trans (srt _ _ _ _ (by lia) (by lia) (by lia) xi xj) hp
 ·have:=h1 j hj
  unfold pb at this
  rw [hx] at this
  show O.blt (κ key) (κ x)=false
  simpa using this
 ·have:=h2 j c1 c2
  unfold pb at this
  rw [hx] at this
  show O.blt (κ key) (κ x)=true
  simpa using this
theorem go_left (C:Cm (model prog w) A E s κ ok kd) {st:SortSt} (hs:Sx kd st) {key:Keyed} {arr:Array Keyed} {base n hint:Nat} {Q:Option Nat→SortSt→Prop} (hk:ok key) (ha:∀ x∈arr,ok x) (hsz:base + n≤arr.size) (hh:hint < n)
  (srt:∀ i j x y,base≤i→i≤j→j < base + n→arr[i]?=some x→arr[j]?=some y→O.kle (κ x) (κ y))
  (q:∀ k,k≤n→(∀ j x,j < k→arr[base + j]?=some x→O.klt (κ x) (κ key))→(∀ j x,k≤j→j < n→arr[base + j]?=some x→O.kle (κ key) (κ x))→Q (some k) st):wpS (model prog w) A E s (gallop' true key arr base n hint) Q st:=by
 refine go_gallop C hs hk ha hsz hh (fun i j hij hj hp=>?_) fun k hk h1 h2=>q k hk (fun j x hj hx=>?_) (fun j x c1 c2 hx=>?_)
 ·have xi:arr[base + i]?=some arr[base + i]:=Array.getElem?_eq_getElem (by lia)
  have xj:arr[base + j]?=some arr[base + j]:=Array.getElem?_eq_getElem (by lia)
  unfold pb at hp ⊢
  rw [xj] at hp
  rw [xi]
  simp only [if_true] at hp ⊢
  exact KeyOrd.klt_of_kle_of_klt (srt _ _ _ _ (by lia) (by lia) (by lia) xi xj) hp
 ·have:=h1 j hj
  unfold pb at this
  rw [hx] at this
  show O.blt (κ x) (κ key)=true
  simpa using this
 ·have:=h2 j c1 c2
  unfold pb at this
  rw [hx] at this
  show O.blt (κ x) (κ key)=false
  simpa using this
end
section
variable {prog:Program} {w:World} {A:Around} {E:Value→Shared→Prop} {s:Shared} {O:KeyOrd} {κ:Keyed→O.α} {ok:Keyed→Prop} {kd:SortKind}
theorem go_mergeLo (C:Cm (model prog w) A E s κ ok kd) {st:SortSt} (hs:Sx kd st) {a b:Array Keyed} {Q:Array Keyed→SortSt→Prop} (oka:∀ x∈a,ok x) (okb:∀ x∈b,ok x) (sa:Srd κ a.toList) (sb:Srd κ b.toList) (ha:1≤a.size) (hb:1≤b.size)
  (h1:∀ x∈a,∀ y,b[0]?=some y→O.kle (κ y) (κ x)) (h2:∀ y∈b,∀ x,a[a.size - 1]?=some x→O.kle (κ y) (κ x))
  (q:∀ out g,Gd κ (a.toList++b.toList) out→Q out (setGal st g)):wpS (model prog w) A E s (mergeLo' a b) Q st:=by
 refine wpS_bind (wpS_lift (wpAny_rule ⟨rfl,?_⟩))
 dsimp only
 refine arr_at2 (a:=b) (i:=0) (by lia) fun y0 ey0 dy0 my0=>?_
 refine wpS_bind (wpS_elem ey0 ?_)
 have M0:MI κ (a.toList++b.toList) (#[]:Array Keyed).toList (a.toList.drop 0) (b.toList.drop 0):=⟨by simp,List.Pairwise.nil,by simpa using sa,by simpa using sb,by simp,by simp⟩
 have M1:MI κ (a.toList++b.toList) (#[y0]:Array Keyed).toList (a.toList.drop 0) (b.toList.drop 1):=M0.pushB dy0 (fun x hx=>by
  obtain ⟨j,_,j2⟩:=mem_drop hx
  exact h1 x (Array.mem_of_getElem? j2) y0 ey0)
 by_cases c1:1=b.size
 ·refine wpS_ifT ((beq_iff_eq.mpr c1)) ?_
  exact wpS_pure (q _ (gallopOf st) (M1.done (.inl c1)))
 refine wpS_ifF ((fun z=>c1 (beq_iff_eq.mp z))) ?_
 by_cases c2:0 + 1=a.size
 ·refine wpS_ifT ((beq_iff_eq.mpr c2)) ?_
  exact wpS_pure (q _ (gallopOf st) (M1.last c2 h2))
 refine wpS_ifF ((fun z=>c2 (beq_iff_eq.mp z))) ?_
 refine wpS_bind (wpS_get ?_)
 refine wpS_bind (wpS_mono (wpS_forRange (fun x c st'=>∃ out ia ib mg,c=(none,out,ia,ib,mg)∧(∃ g,st'=setGal st g)∧MI κ (a.toList++b.toList) out.toList (a.toList.drop ia) (b.toList.drop ib)∧ia + 1 < a.size∧ib < b.size∧x + 1≤out.size)
  (Q:=fun c st'=>(∃ g,st'=setGal st g)∧∃ r,c.1=some r∧Gd κ (a.toList++b.toList) r) ?step ?fin ⟨_,_,_,_,rfl,⟨gallopOf st,rfl⟩,M1,by lia,by lia,by simp⟩) ?post)
 case fin =>
  rintro c st' ⟨out,ia,ib,mg,rfl,⟨g,rfl⟩,m,i1,i2,sz⟩
  exfalso
  have:=m.size
  rw [List.length_append,Array.length_toList,Array.length_toList] at this
  lia
 case post =>
  rintro ⟨c1,c2⟩ st' ⟨⟨g,rfl⟩,r,e,gd⟩
  cases e
  exact wpS_pure (q _ g gd)
 case step =>
  rintro x c st' _ hx ⟨out,ia,ib,mg,rfl,⟨g,rfl⟩,m,i1,i2,sz⟩
  dsimp only
  refine wpS_bind (wpS_mono (wpS_forRange (fun y c st'=>∃ out ia ib ac bc,c=(none,out,ia,ib,ac,bc)∧st'=setGal st g∧MI κ (a.toList++b.toList) out.toList (a.toList.drop ia) (b.toList.drop ib)∧ia + 1 < a.size∧ib < b.size∧x + 1 + y≤out.size)
   (Q:=fun c st'=>st'=setGal st g∧((∃ r,c.1=some r∧Gd κ (a.toList++b.toList) r)∨∃ out ia ib ac bc,c=(none,out,ia,ib,ac,bc)∧MI κ (a.toList++b.toList) out.toList (a.toList.drop ia) (b.toList.drop ib)∧ia + 1 < a.size∧ib < b.size∧x + 2≤out.size)) ?step2 ?fin2 ⟨out,ia,ib,0,0,rfl,rfl,m,i1,i2,by lia⟩) ?post2)
  case fin2 =>
   rintro c st' ⟨out,ia,ib,ac,bc,rfl,rfl,m,i1,i2,sz⟩
   exact ⟨rfl,.inr ⟨_,_,_,_,_,rfl,m,i1,i2,by lia⟩⟩
  case step2 =>
   rintro y c st' _ hy ⟨out,ia,ib,ac,bc,rfl,rfl,m,i1,i2,sz⟩
   dsimp only
   refine arr_at2 (a:=b) (i:=ib) i2 fun yb eyb dyb myb=>?_
   refine arr_at2 (a:=a) (i:=ia) (by lia) fun xa exa dxa mxa=>?_
   refine wpS_bind (wpS_elem eyb (wpS_bind (wpS_elem exa (wpS_bind (C.lt hs.1 hs.2 (okb _ myb) (oka _ mxa) ?_)))))
   dsimp only
   cases e:O.blt (κ yb) (κ xa) with
   | true =>
    refine wpS_ifT (rfl) ?_
    refine wpS_bind (wpS_elem eyb ?_)
    have m2:=m.pushB dyb (fun z hz=>KeyOrd.kle_trans (KeyOrd.kle_of_klt e) (m.headA dxa z hz))
    by_cases c:ib + 1=b.size
    ·refine wpS_ifT ((beq_iff_eq.mpr c)) ?_
     exact wpS_pure ⟨rfl,.inl ⟨_,rfl,m2.done (.inl c)⟩⟩
    refine wpS_ifF ((fun z=>c (beq_iff_eq.mp z))) ?_
    refine wpS_ite (fun _=>?_) (fun _=>?_)
    ·exact wpS_pure ⟨rfl,.inr ⟨_,_,_,_,_,rfl,m2,i1,by lia,by rw [Array.size_push]; lia⟩⟩
    ·exact wpS_pure ⟨_,_,_,_,_,rfl,rfl,m2,i1,by lia,by rw [Array.size_push]; lia⟩
   | false =>
    refine wpS_ifF (Bool.false_ne_true) ?_
    refine wpS_bind (wpS_elem exa ?_)
    have m2:=m.pushA dxa (fun z hz=>KeyOrd.kle_trans e (m.headB dyb z hz))
    by_cases c:ia + 1 + 1=a.size
    ·refine wpS_ifT ((beq_iff_eq.mpr c)) ?_
     exact wpS_pure ⟨rfl,.inl ⟨_,rfl,m2.last c h2⟩⟩
    refine wpS_ifF ((fun z=>c (beq_iff_eq.mp z))) ?_
    refine wpS_ite (fun _=>?_) (fun _=>?_)
    ·exact wpS_pure ⟨rfl,.inr ⟨_,_,_,_,_,rfl,m2,by lia,i2,by rw [Array.size_push]; lia⟩⟩
    ·exact wpS_pure ⟨_,_,_,_,_,rfl,rfl,m2,by lia,i2,by rw [Array.size_push]; lia⟩
  case post2 =>
   rintro c st' ⟨rfl,hq⟩
   rcases hq with ⟨r,e,gd⟩ | ⟨out,ia,ib,ac,bc,rfl,m,i1,i2,sz⟩
   ·obtain ⟨c1,c2⟩:=c
    cases e
    exact wpS_pure ⟨⟨g,rfl⟩,r,rfl,gd⟩
   dsimp only
   refine wpS_bind (wpS_lift (wpAny_rule ⟨rfl,?_⟩))
   refine wpS_bind (wpS_mono (wpS_forRange (fun _ c st'=>∃ out ia ib mg ac bc,c=(none,out,ia,ib,mg,ac,bc)∧(∃ g,st'=setGal st g)∧MI κ (a.toList++b.toList) out.toList (a.toList.drop ia) (b.toList.drop ib)∧ia + 1 < a.size∧ib < b.size∧x + 2≤out.size)
    (Q:=fun c st'=>(∃ g,st'=setGal st g)∧((∃ r,c.1=some r∧Gd κ (a.toList++b.toList) r)∨∃ out ia ib mg ac bc,c=(none,out,ia,ib,mg,ac,bc)∧MI κ (a.toList++b.toList) out.toList (a.toList.drop ia) (b.toList.drop ib)∧ia + 1 < a.size∧ib < b.size∧x + 2≤out.size)) ?step3 ?fin3 ⟨_,_,_,_,_,_,rfl,⟨g,rfl⟩,m,i1,i2,sz⟩) ?post3)
   case fin3 =>
    rintro c st' ⟨out,ia,ib,mg,ac,bc,rfl,hg,m,i1,i2,sz⟩
    exact ⟨hg,.inr ⟨_,_,_,_,_,_,rfl,m,i1,i2,sz⟩⟩
   case post3 =>
    rintro c st' ⟨⟨g,rfl⟩,hq⟩
    rcases hq with ⟨r,e,gd⟩ | ⟨out,ia,ib,mg,ac,bc,rfl,m,i1,i2,sz⟩
    ·obtain ⟨c1,c2⟩:=c
     cases e
     exact wpS_pure ⟨⟨g,rfl⟩,r,rfl,gd⟩
    dsimp only
    exact wpS_bind (wpS_modify (wpS_pure ⟨_,_,_,_,rfl,⟨_,rfl⟩,m,i1,i2,by lia⟩))
   case step3 =>
    rintro y c st' _ hy ⟨out,ia,ib,mg,ac,bc,rfl,⟨g,rfl⟩,m,i1,i2,sz⟩
    dsimp only
    by_cases cm:mg > 1
    ·refine wpS_ifT (cm) ?_
     refine wpS_bind (wpS_modify ?_)
     refine arr_at2 (a:=b) (i:=ib) i2 fun yb eyb dyb myb=>?_
     refine wpS_bind (wpS_elem eyb ?_)
     refine wpS_bind (go_right C (arr:=a) (base:=ia) (n:=a.size - ia) (hint:=0) hs.gal.gal (okb _ myb) oka (by lia) (by lia) (fun i j x y _ c2 _ ex ey=>sa.get c2 ex ey) fun k hk le gt=>?_)
     dsimp only
     have m2:=m.chunkA (k:=k) (fun x hx z hz=>by
      obtain ⟨j,j1,j2⟩:=mem_ext hx
      exact KeyOrd.kle_trans (le j x j1 j2) (m.headB dyb z hz))
     have ng:∀ x∈a.toList.drop (ia + k),O.kle (κ yb) (κ x):=fun x hx=>by
      obtain ⟨j,j1,j2⟩:=mem_drop hx
      exact KeyOrd.kle_of_klt (gt (k + j) x (by lia) (by lia) (by rw [← Nat.add_assoc]; exact j2))
     by_cases ck:k > 0
     ·refine wpS_ifT (ck) ?_
      by_cases c1:ia + k + 1=a.size
      ·refine wpS_ifT ((beq_iff_eq.mpr c1)) ?_
       exact wpS_pure ⟨⟨_,rfl⟩,.inl ⟨_,rfl,m2.last c1 h2⟩⟩
      refine wpS_ifF ((fun z=>c1 (beq_iff_eq.mp z))) ?_
      by_cases c2:ia + k=a.size
      ·refine wpS_ifT ((beq_iff_eq.mpr c2)) ?_
       exact wpS_pure ⟨⟨_,rfl⟩,.inl ⟨_,rfl,m2.done (.inr c2)⟩⟩
      refine wpS_ifF ((fun z=>c2 (beq_iff_eq.mp z))) ?_
      refine wpS_bind (wpS_elem eyb ?_)
      have m3:=m2.pushB dyb ng
      by_cases c3:ib + 1=b.size
      ·refine wpS_ifT ((beq_iff_eq.mpr c3)) ?_
       exact wpS_pure ⟨⟨_,rfl⟩,.inl ⟨_,rfl,m3.done (.inl c3)⟩⟩
      refine wpS_ifF ((fun z=>c3 (beq_iff_eq.mp z))) ?_
      refine arr_at2 (a:=a) (i:=ia + k) (by lia) fun xa exa dxa mxa=>?_
      refine wpS_bind (wpS_elem exa ?_)
      refine wpS_bind (go_left C (arr:=b) (base:=ib + 1) (n:=b.size - (ib + 1)) (hint:=0) hs.gal.gal (oka _ mxa) okb (by lia) (by lia) (fun i j x y _ c2 _ ex ey=>sb.get c2 ex ey) fun k2 hk2 lt2 ge2=>?_)
      dsimp only
      by_cases ck2:k2 > 0
      ·refine wpS_ifT (ck2) ?_
       have m4:=m3.chunkB (k:=k2) (fun x hx z hz=>by
        obtain ⟨j,j1,j2⟩:=mem_ext hx
        exact KeyOrd.kle_trans (KeyOrd.kle_of_klt (lt2 j x j1 j2)) (m3.headA dxa z hz))
       by_cases c4:ib + 1 + k2=b.size
       ·refine wpS_ifT ((beq_iff_eq.mpr c4)) ?_
        exact wpS_pure ⟨⟨_,rfl⟩,.inl ⟨_,rfl,m4.done (.inl c4)⟩⟩
       refine wpS_ifF ((fun z=>c4 (beq_iff_eq.mp z))) ?_
       refine wpS_bind (wpS_elem exa ?_)
       have m5:=m4.pushA dxa (fun z hz=>by
        obtain ⟨j,j1,j2⟩:=mem_drop hz
        exact ge2 (k2 + j) z (by lia) (by lia) (by rw [← Nat.add_assoc]; exact j2))
       by_cases c5:ia + k + 1 + 1=a.size
       ·refine wpS_ifT ((beq_iff_eq.mpr c5)) ?_
        exact wpS_pure ⟨⟨_,rfl⟩,.inl ⟨_,rfl,m5.last c5 h2⟩⟩
       refine wpS_ifF ((fun z=>c5 (beq_iff_eq.mp z))) ?_
       refine wpS_ite (fun _=>?_) (fun _=>?_)
       ·exact wpS_pure ⟨⟨_,rfl⟩,.inr ⟨_,_,_,_,_,_,rfl,m5,by lia,by lia,by simp only [Array.size_push,Array.size_append]; lia⟩⟩
       ·exact wpS_pure ⟨_,_,_,_,_,_,rfl,⟨_,rfl⟩,m5,by lia,by lia,by simp only [Array.size_push,Array.size_append]; lia⟩
      ·refine wpS_ifF (ck2) ?_
       refine wpS_bind (wpS_elem exa ?_)
       have m5:=m3.pushA dxa (fun z hz=>by
        obtain ⟨j,j1,j2⟩:=mem_drop hz
        exact ge2 j z (by lia) (by lia) j2)
       by_cases c5:ia + k + 1 + 1=a.size
       ·refine wpS_ifT ((beq_iff_eq.mpr c5)) ?_
        exact wpS_pure ⟨⟨_,rfl⟩,.inl ⟨_,rfl,m5.last c5 h2⟩⟩
       refine wpS_ifF ((fun z=>c5 (beq_iff_eq.mp z))) ?_
       refine wpS_ite (fun _=>?_) (fun _=>?_)
       ·exact wpS_pure ⟨⟨_,rfl⟩,.inr ⟨_,_,_,_,_,_,rfl,m5,by lia,by lia,by simp only [Array.size_push,Array.size_append]; lia⟩⟩
       ·exact wpS_pure ⟨_,_,_,_,_,_,rfl,⟨_,rfl⟩,m5,by lia,by lia,by simp only [Array.size_push,Array.size_append]; lia⟩
     ·refine wpS_ifF (ck) ?_
      have k0:k=0:=by lia
      rw [k0] at ng
      refine wpS_bind (wpS_elem eyb ?_)
      have m3:=m.pushB dyb ng
      by_cases c3:ib + 1=b.size
      ·refine wpS_ifT ((beq_iff_eq.mpr c3)) ?_
       exact wpS_pure ⟨⟨_,rfl⟩,.inl ⟨_,rfl,m3.done (.inl c3)⟩⟩
      refine wpS_ifF ((fun z=>c3 (beq_iff_eq.mp z))) ?_
      refine arr_at2 (a:=a) (i:=ia) (by lia) fun xa exa dxa mxa=>?_
      refine wpS_bind (wpS_elem exa ?_)
      refine wpS_bind (go_left C (arr:=b) (base:=ib + 1) (n:=b.size - (ib + 1)) (hint:=0) hs.gal.gal (oka _ mxa) okb (by lia) (by lia) (fun i j x y _ c2 _ ex ey=>sb.get c2 ex ey) fun k2 hk2 lt2 ge2=>?_)
      dsimp only
      by_cases ck2:k2 > 0
      ·refine wpS_ifT (ck2) ?_
       have m4:=m3.chunkB (k:=k2) (fun x hx z hz=>by
        obtain ⟨j,j1,j2⟩:=mem_ext hx
        exact KeyOrd.kle_trans (KeyOrd.kle_of_klt (lt2 j x j1 j2)) (m3.headA dxa z hz))
       by_cases c4:ib + 1 + k2=b.size
       ·refine wpS_ifT ((beq_iff_eq.mpr c4)) ?_
        exact wpS_pure ⟨⟨_,rfl⟩,.inl ⟨_,rfl,m4.done (.inl c4)⟩⟩
       refine wpS_ifF ((fun z=>c4 (beq_iff_eq.mp z))) ?_
       refine wpS_bind (wpS_elem exa ?_)
       have m5:=m4.pushA dxa (fun z hz=>by
        obtain ⟨j,j1,j2⟩:=mem_drop hz
        exact ge2 (k2 + j) z (by lia) (by lia) (by rw [← Nat.add_assoc]; exact j2))
       by_cases c5:ia + 1 + 1=a.size
       ·refine wpS_ifT ((beq_iff_eq.mpr c5)) ?_
        exact wpS_pure ⟨⟨_,rfl⟩,.inl ⟨_,rfl,m5.last c5 h2⟩⟩
       refine wpS_ifF ((fun z=>c5 (beq_iff_eq.mp z))) ?_
       refine wpS_ite (fun _=>?_) (fun _=>?_)
       ·exact wpS_pure ⟨⟨_,rfl⟩,.inr ⟨_,_,_,_,_,_,rfl,m5,by lia,by lia,by simp only [Array.size_push,Array.size_append]; lia⟩⟩
       ·exact wpS_pure ⟨_,_,_,_,_,_,rfl,⟨_,rfl⟩,m5,by lia,by lia,by simp only [Array.size_push,Array.size_append]; lia⟩
      ·refine wpS_ifF (ck2) ?_
       refine wpS_bind (wpS_elem exa ?_)
       have m5:=m3.pushA dxa (fun z hz=>by
        obtain ⟨j,j1,j2⟩:=mem_drop hz
        exact ge2 j z (by lia) (by lia) j2)
       by_cases c5:ia + 1 + 1=a.size
       ·refine wpS_ifT ((beq_iff_eq.mpr c5)) ?_
        exact wpS_pure ⟨⟨_,rfl⟩,.inl ⟨_,rfl,m5.last c5 h2⟩⟩
       refine wpS_ifF ((fun z=>c5 (beq_iff_eq.mp z))) ?_
       refine wpS_ite (fun _=>?_) (fun _=>?_)
       ·exact wpS_pure ⟨⟨_,rfl⟩,.inr ⟨_,_,_,_,_,_,rfl,m5,by lia,by lia,by simp only [Array.size_push,Array.size_append]; lia⟩⟩
       ·exact wpS_pure ⟨_,_,_,_,_,_,rfl,⟨_,rfl⟩,m5,by lia,by lia,by simp only [Array.size_push,Array.size_append]; lia⟩
    ·refine wpS_ifF (cm) ?_
     refine wpS_bind (wpS_modify ?_)
     refine arr_at2 (a:=b) (i:=ib) i2 fun yb eyb dyb myb=>?_
     refine wpS_bind (wpS_elem eyb ?_)
     refine wpS_bind (go_right C (arr:=a) (base:=ia) (n:=a.size - ia) (hint:=0) hs.gal.gal (okb _ myb) oka (by lia) (by lia) (fun i j x y _ c2 _ ex ey=>sa.get c2 ex ey) fun k hk le gt=>?_)
     dsimp only
     have m2:=m.chunkA (k:=k) (fun x hx z hz=>by
      obtain ⟨j,j1,j2⟩:=mem_ext hx
      exact KeyOrd.kle_trans (le j x j1 j2) (m.headB dyb z hz))
     have ng:∀ x∈a.toList.drop (ia + k),O.kle (κ yb) (κ x):=fun x hx=>by
      obtain ⟨j,j1,j2⟩:=mem_drop hx
      exact KeyOrd.kle_of_klt (gt (k + j) x (by lia) (by lia) (by rw [← Nat.add_assoc]; exact j2))
     by_cases ck:k > 0
     ·refine wpS_ifT (ck) ?_
      by_cases c1:ia + k + 1=a.size
      ·refine wpS_ifT ((beq_iff_eq.mpr c1)) ?_
       exact wpS_pure ⟨⟨_,rfl⟩,.inl ⟨_,rfl,m2.last c1 h2⟩⟩
      refine wpS_ifF ((fun z=>c1 (beq_iff_eq.mp z))) ?_
      by_cases c2:ia + k=a.size
      ·refine wpS_ifT ((beq_iff_eq.mpr c2)) ?_
       exact wpS_pure ⟨⟨_,rfl⟩,.inl ⟨_,rfl,m2.done (.inr c2)⟩⟩
      refine wpS_ifF ((fun z=>c2 (beq_iff_eq.mp z))) ?_
      refine wpS_bind (wpS_elem eyb ?_)
      have m3:=m2.pushB dyb ng
      by_cases c3:ib + 1=b.size
      ·refine wpS_ifT ((beq_iff_eq.mpr c3)) ?_
       exact wpS_pure ⟨⟨_,rfl⟩,.inl ⟨_,rfl,m3.done (.inl c3)⟩⟩
      refine wpS_ifF ((fun z=>c3 (beq_iff_eq.mp z))) ?_
      refine arr_at2 (a:=a) (i:=ia + k) (by lia) fun xa exa dxa mxa=>?_
      refine wpS_bind (wpS_elem exa ?_)
      refine wpS_bind (go_left C (arr:=b) (base:=ib + 1) (n:=b.size - (ib + 1)) (hint:=0) hs.gal.gal (oka _ mxa) okb (by lia) (by lia) (fun i j x y _ c2 _ ex ey=>sb.get c2 ex ey) fun k2 hk2 lt2 ge2=>?_)
      dsimp only
      by_cases ck2:k2 > 0
      ·refine wpS_ifT (ck2) ?_
       have m4:=m3.chunkB (k:=k2) (fun x hx z hz=>by
        obtain ⟨j,j1,j2⟩:=mem_ext hx
        exact KeyOrd.kle_trans (KeyOrd.kle_of_klt (lt2 j x j1 j2)) (m3.headA dxa z hz))
       by_cases c4:ib + 1 + k2=b.size
       ·refine wpS_ifT ((beq_iff_eq.mpr c4)) ?_
        exact wpS_pure ⟨⟨_,rfl⟩,.inl ⟨_,rfl,m4.done (.inl c4)⟩⟩
       refine wpS_ifF ((fun z=>c4 (beq_iff_eq.mp z))) ?_
       refine wpS_bind (wpS_elem exa ?_)
       have m5:=m4.pushA dxa (fun z hz=>by
        obtain ⟨j,j1,j2⟩:=mem_drop hz
        exact ge2 (k2 + j) z (by lia) (by lia) (by rw [← Nat.add_assoc]; exact j2))
       by_cases c5:ia + k + 1 + 1=a.size
       ·refine wpS_ifT ((beq_iff_eq.mpr c5)) ?_
        exact wpS_pure ⟨⟨_,rfl⟩,.inl ⟨_,rfl,m5.last c5 h2⟩⟩
       refine wpS_ifF ((fun z=>c5 (beq_iff_eq.mp z))) ?_
       refine wpS_ite (fun _=>?_) (fun _=>?_)
       ·exact wpS_pure ⟨⟨_,rfl⟩,.inr ⟨_,_,_,_,_,_,rfl,m5,by lia,by lia,by simp only [Array.size_push,Array.size_append]; lia⟩⟩
       ·exact wpS_pure ⟨_,_,_,_,_,_,rfl,⟨_,rfl⟩,m5,by lia,by lia,by simp only [Array.size_push,Array.size_append]; lia⟩
      ·refine wpS_ifF (ck2) ?_
       refine wpS_bind (wpS_elem exa ?_)
       have m5:=m3.pushA dxa (fun z hz=>by
        obtain ⟨j,j1,j2⟩:=mem_drop hz
        exact ge2 j z (by lia) (by lia) j2)
       by_cases c5:ia + k + 1 + 1=a.size
       ·refine wpS_ifT ((beq_iff_eq.mpr c5)) ?_
        exact wpS_pure ⟨⟨_,rfl⟩,.inl ⟨_,rfl,m5.last c5 h2⟩⟩
       refine wpS_ifF ((fun z=>c5 (beq_iff_eq.mp z))) ?_
       refine wpS_ite (fun _=>?_) (fun _=>?_)
       ·exact wpS_pure ⟨⟨_,rfl⟩,.inr ⟨_,_,_,_,_,_,rfl,m5,by lia,by lia,by simp only [Array.size_push,Array.size_append]; lia⟩⟩
       ·exact wpS_pure ⟨_,_,_,_,_,_,rfl,⟨_,rfl⟩,m5,by lia,by lia,by simp only [Array.size_push,Array.size_append]; lia⟩
     ·refine wpS_ifF (ck) ?_
      have k0:k=0:=by lia
      rw [k0] at ng
      refine wpS_bind (wpS_elem eyb ?_)
      have m3:=m.pushB dyb ng
      by_cases c3:ib + 1=b.size
      ·refine wpS_ifT ((beq_iff_eq.mpr c3)) ?_
       exact wpS_pure ⟨⟨_,rfl⟩,.inl ⟨_,rfl,m3.done (.inl c3)⟩⟩
      refine wpS_ifF ((fun z=>c3 (beq_iff_eq.mp z))) ?_
      refine arr_at2 (a:=a) (i:=ia) (by lia) fun xa exa dxa mxa=>?_
      refine wpS_bind (wpS_elem exa ?_)
      refine wpS_bind (go_left C (arr:=b) (base:=ib + 1) (n:=b.size - (ib + 1)) (hint:=0) hs.gal.gal (oka _ mxa) okb (by lia) (by lia) (fun i j x y _ c2 _ ex ey=>sb.get c2 ex ey) fun k2 hk2 lt2 ge2=>?_)
      dsimp only
      by_cases ck2:k2 > 0
      ·refine wpS_ifT (ck2) ?_
       have m4:=m3.chunkB (k:=k2) (fun x hx z hz=>by
        obtain ⟨j,j1,j2⟩:=mem_ext hx
        exact KeyOrd.kle_trans (KeyOrd.kle_of_klt (lt2 j x j1 j2)) (m3.headA dxa z hz))
       by_cases c4:ib + 1 + k2=b.size
       ·refine wpS_ifT ((beq_iff_eq.mpr c4)) ?_
        exact wpS_pure ⟨⟨_,rfl⟩,.inl ⟨_,rfl,m4.done (.inl c4)⟩⟩
       refine wpS_ifF ((fun z=>c4 (beq_iff_eq.mp z))) ?_
       refine wpS_bind (wpS_elem exa ?_)
       have m5:=m4.pushA dxa (fun z hz=>by
        obtain ⟨j,j1,j2⟩:=mem_drop hz
        exact ge2 (k2 + j) z (by lia) (by lia) (by rw [← Nat.add_assoc]; exact j2))
       by_cases c5:ia + 1 + 1=a.size
       ·refine wpS_ifT ((beq_iff_eq.mpr c5)) ?_
        exact wpS_pure ⟨⟨_,rfl⟩,.inl ⟨_,rfl,m5.last c5 h2⟩⟩
       refine wpS_ifF ((fun z=>c5 (beq_iff_eq.mp z))) ?_
       refine wpS_ite (fun _=>?_) (fun _=>?_)
       ·exact wpS_pure ⟨⟨_,rfl⟩,.inr ⟨_,_,_,_,_,_,rfl,m5,by lia,by lia,by simp only [Array.size_push,Array.size_append]; lia⟩⟩
       ·exact wpS_pure ⟨_,_,_,_,_,_,rfl,⟨_,rfl⟩,m5,by lia,by lia,by simp only [Array.size_push,Array.size_append]; lia⟩
      ·refine wpS_ifF (ck2) ?_
       refine wpS_bind (wpS_elem exa ?_)
       have m5:=m3.pushA dxa (fun z hz=>by
        obtain ⟨j,j1,j2⟩:=mem_drop hz
        exact ge2 j z (by lia) (by lia) j2)
       by_cases c5:ia + 1 + 1=a.size
       ·refine wpS_ifT ((beq_iff_eq.mpr c5)) ?_
        exact wpS_pure ⟨⟨_,rfl⟩,.inl ⟨_,rfl,m5.last c5 h2⟩⟩
       refine wpS_ifF ((fun z=>c5 (beq_iff_eq.mp z))) ?_
       refine wpS_ite (fun _=>?_) (fun _=>?_)
       ·exact wpS_pure ⟨⟨_,rfl⟩,.inr ⟨_,_,_,_,_,_,rfl,m5,by lia,by lia,by simp only [Array.size_push,Array.size_append]; lia⟩⟩
       ·exact wpS_pure ⟨_,_,_,_,_,_,rfl,⟨_,rfl⟩,m5,by lia,by lia,by simp only [Array.size_push,Array.size_append]; lia⟩
end
end L2
namespace L2
open PySem PySem.Spec PyProof.Rows
noncomputable def mergeHi':Array Keyed→Array Keyed→StateT SortSt Sem (Array Keyed):=sortPriv% PySem.Builtin.mergeHi
section
variable {O:KeyOrd} (κ:Keyed→O.α)
structure MJ (L ro a b:List Keyed):Prop where
 perm:(a++b++ro).Perm L
 so:Srd κ ro
 sa:Srd κ a
 sb:Srd κ b
 oa:∀ x∈a,∀ y∈ro,O.kle (κ x) (κ y)
 ob:∀ x∈b,∀ y∈ro,O.kle (κ x) (κ y)
variable {κ}
theorem MJ.swap {L out a b:List Keyed} (m:MJ κ L out a b):MJ κ L out b a :=
 ⟨(List.Perm.append_right out List.perm_append_comm).trans m.perm,m.so,m.sb,m.sa,m.ob,m.oa⟩
theorem MJ.takeB {L ro c a b:List Keyed} (m:MJ κ L ro a (b++c)) (h:∀ x∈a,∀ y∈c,O.kle (κ x) (κ y)):MJ κ L (c++ro) a b:=by
 obtain ⟨s1,s2,s3⟩:=Srd.app.mp m.sb
 refine ⟨by have:=m.perm; simpa [List.append_assoc] using this,Srd.app.mpr ⟨s2,m.so,fun x hx y hy=>m.ob x (List.mem_append_right _ hx) y hy⟩,m.sa,s1,fun x hx y hy=>?_,fun x hx y hy=>?_⟩
 ·rcases List.mem_append.mp hy with hy | hy
  ·exact h x hx y hy
  ·exact m.oa x hx y hy
 ·rcases List.mem_append.mp hy with hy | hy
  ·exact s3 x hx y hy
  ·exact m.ob x (List.mem_append_left _ hx) y hy
theorem MJ.takeA {L ro c a b:List Keyed} (m:MJ κ L ro (a++c) b) (h:∀ x∈b,∀ y∈c,O.kle (κ x) (κ y)):MJ κ L (c++ro) a b:=(m.swap.takeB h).swap
theorem MJ.endA {L ro a b:List Keyed} (m:MJ κ L ro a b) (h:∀ x∈a,∀ y∈b,O.kle (κ x) (κ y)):Srd κ (a++b++ro)∧(a++b++ro).Perm L :=
 ⟨Srd.app.mpr ⟨Srd.app.mpr ⟨m.sa,m.sb,h⟩,m.so,fun x hx y hy=>by
  rcases List.mem_append.mp hx with hx | hx
  ·exact m.oa x hx y hy
  ·exact m.ob x hx y hy⟩,m.perm⟩
theorem arr_pre1 {a:Array Keyed} {j:Nat} (h:j + 1≤a.size):∃ x,a[j]?=some x∧a.toList.take (j + 1)=a.toList.take j++[x]∧x∈a :=
 ⟨a[j],Array.getElem?_eq_getElem (by lia),by
  rw [List.take_add_one,List.getElem?_eq_getElem (show j < a.toList.length by simpa using (show j < a.size by lia))]
  simp,Array.getElem_mem (by lia)⟩
theorem arr_pre {a:Array Keyed} {i:Nat} (h1:1≤i) (h:i≤a.size):∃ x,a[i - 1]?=some x∧a.toList.take i=a.toList.take (i - 1)++[x]∧x∈a:=by
 obtain ⟨j,rfl⟩:∃ j,i=j + 1:=⟨i - 1,by lia⟩
 exact arr_pre1 h
theorem arr_pre2 {a:Array Keyed} {i:Nat} {P:Prop} (h1:1≤i) (h:i≤a.size) (k:∀ x,a[i - 1]?=some x→a.toList.take i=a.toList.take (i - 1)++[x]→x∈a→P):P:=by
 obtain ⟨x,g1,g2,g3⟩:=arr_pre h1 h
 exact k x g1 g2 g3
theorem take_all (a:Array Keyed):a.toList.take a.size=a.toList:=List.take_of_length_le (by simp)
theorem ext_beg (a:Array Keyed) (i:Nat):(a.extract 0 i).toList=a.toList.take i:=by
 rw [ext_toList,List.drop_zero,Nat.sub_zero]
theorem ext_take {a:Array Keyed} {i j:Nat} (h:i≤j):a.toList.take j=a.toList.take i++(a.extract i j).toList:=by
 rw [ext_toList,← List.take_add]
 congr 1; lia
theorem mem_ext2 {a:Array Keyed} {i j:Nat} {x:Keyed} (h:x∈(a.extract i j).toList):∃ k,i≤k∧k < j∧a[k]?=some x:=by
 rcases Nat.lt_or_ge i j with c | c
 ·have e:j=i + (j - i):=by lia
  rw [e] at h
  obtain ⟨k,k1,k2⟩:=mem_ext h
  exact ⟨i + k,by lia,by lia,k2⟩
 ·rw [ext_toList,show j - i=0 by lia,List.take_zero] at h
  cases h
theorem mem_take {a:Array Keyed} {i:Nat} {x:Keyed} (h:x∈a.toList.take i):∃ j,j < i∧a[j]?=some x:=by
 obtain ⟨j,hj⟩:=List.mem_iff_getElem?.mp h
 rw [List.getElem?_take] at hj
 split at hj
 ·rename_i c
  exact ⟨j,c,by simpa using hj⟩
 ·cases hj
theorem MJ.done {L:List Keyed} {out a b:Array Keyed} {na nb:Nat} (m:MJ κ L out.toList.reverse (a.toList.take na) (b.toList.take nb)) (h:nb=0∨na=0):Gd κ L (a.extract 0 na++b.extract 0 nb++out.reverse):=by
 unfold Gd
 rw [Array.toList_append,Array.toList_append,ext_beg,ext_beg,Array.toList_reverse]
 refine m.endA fun x hx y hy=>?_
 rcases h with h | h
 ·rw [h,List.take_zero] at hy; cases hy
 ·rw [h,List.take_zero] at hx; cases hx
theorem MJ.first {L:List Keyed} {out a b:Array Keyed} {na nb:Nat} (m:MJ κ L out.toList.reverse (a.toList.take na) (b.toList.take nb)) (h:nb=1) (h1:∀ x∈a,∀ y,b[0]?=some y→O.kle (κ y) (κ x)):Gd κ L (b.extract 0 nb++a.extract 0 na++out.reverse):=by
 unfold Gd
 rw [Array.toList_append,Array.toList_append,ext_beg,ext_beg,Array.toList_reverse]
 refine m.swap.endA fun y hy x hx=>?_
 obtain ⟨j,j1,j2⟩:=mem_take hx
 obtain ⟨k,k1,k2⟩:=mem_take hy
 exact h1 x (Array.mem_of_getElem? j2) y (by rw [← k2]; congr 1; lia)
theorem MJ.pushA {L:List Keyed} {out a b:Array Keyed} {na nb:Nat} {x:Keyed} (m:MJ κ L out.toList.reverse (a.toList.take na) (b.toList.take nb)) (hx:a.toList.take na=a.toList.take (na - 1)++[x]) (h:∀ z∈b.toList.take nb,O.kle (κ z) (κ x)):MJ κ L (out.push x).toList.reverse (a.toList.take (na - 1)) (b.toList.take nb):=by
 rw [Array.toList_push,List.reverse_append]
 rw [hx] at m
 exact m.takeA (c:=[x]) (fun z hz y hy=>by rw [List.mem_singleton.mp hy]; exact h z hz)
theorem MJ.pushB {L:List Keyed} {out a b:Array Keyed} {na nb:Nat} {x:Keyed} (m:MJ κ L out.toList.reverse (a.toList.take na) (b.toList.take nb)) (hx:b.toList.take nb=b.toList.take (nb - 1)++[x]) (h:∀ z∈a.toList.take na,O.kle (κ z) (κ x)):MJ κ L (out.push x).toList.reverse (a.toList.take na) (b.toList.take (nb - 1)):=by
 rw [Array.toList_push,List.reverse_append]
 rw [hx] at m
 exact m.takeB (c:=[x]) (fun z hz y hy=>by rw [List.mem_singleton.mp hy]; exact h z hz)
theorem rev_chunk (out c:Array Keyed):(out++c.reverse).toList.reverse=c.toList++out.toList.reverse:=by
 rw [Array.toList_append,List.reverse_append,Array.toList_reverse,List.reverse_reverse]
theorem MJ.chunkA {L:List Keyed} {out a b:Array Keyed} {na nb k:Nat} (m:MJ κ L out.toList.reverse (a.toList.take na) (b.toList.take nb)) (hk:k≤na) (h:∀ x∈b.toList.take nb,∀ y∈(a.extract k na).toList,O.kle (κ x) (κ y)):MJ κ L (out++(a.extract k na).reverse).toList.reverse (a.toList.take k) (b.toList.take nb):=by
 rw [rev_chunk]
 rw [ext_take (a:=a) hk] at m
 exact m.takeA h
theorem MJ.chunkB {L:List Keyed} {out a b:Array Keyed} {na nb k:Nat} (m:MJ κ L out.toList.reverse (a.toList.take na) (b.toList.take nb)) (hk:k≤nb) (h:∀ x∈a.toList.take na,∀ y∈(b.extract k nb).toList,O.kle (κ x) (κ y)):MJ κ L (out++(b.extract k nb).reverse).toList.reverse (a.toList.take na) (b.toList.take k):=by
 rw [rev_chunk]
 rw [ext_take (a:=b) hk] at m
 exact m.takeB h
theorem MJ.lastA {L ro b:List Keyed} {a:Array Keyed} {na:Nat} {x:Keyed} (m:MJ κ L ro (a.toList.take na) b) (hx:a.toList.take na=a.toList.take (na - 1)++[x]):∀ z∈a.toList.take na,O.kle (κ z) (κ x):=by
 have:=m.sa
 rw [hx] at this ⊢
 intro z hz
 rcases List.mem_append.mp hz with hz | hz
 ·exact (Srd.app.mp this).2.2 z hz x (List.mem_singleton.mpr rfl)
 ·rw [List.mem_singleton.mp hz]; exact KeyOrd.kle_refl _
theorem MJ.lastB {L ro a:List Keyed} {b:Array Keyed} {nb:Nat} {x:Keyed} (m:MJ κ L ro a (b.toList.take nb)) (hx:b.toList.take nb=b.toList.take (nb - 1)++[x]):∀ z∈b.toList.take nb,O.kle (κ z) (κ x):=m.swap.lastA hx
theorem MJ.size {L:List Keyed} {out a b:Array Keyed} {na nb:Nat} (m:MJ κ L out.toList.reverse (a.toList.take na) (b.toList.take nb)):min na a.size + min nb b.size + out.size=L.length:=by
 have:=m.perm.length_eq
 simp only [List.length_append,List.length_take,List.length_reverse,Array.length_toList] at this
 exact this
end
section
variable {prog:Program} {w:World} {A:Around} {E:Value→Shared→Prop} {s:Shared} {O:KeyOrd} {κ:Keyed→O.α} {ok:Keyed→Prop} {kd:SortKind}
theorem go_mergeHi (C:Cm (model prog w) A E s κ ok kd) {st:SortSt} (hs:Sx kd st) {a b:Array Keyed} {Q:Array Keyed→SortSt→Prop} (oka:∀ x∈a,ok x) (okb:∀ x∈b,ok x) (sa:Srd κ a.toList) (sb:Srd κ b.toList) (ha:1≤a.size) (hb:1≤b.size)
  (h1:∀ x∈a,∀ y,b[0]?=some y→O.kle (κ y) (κ x)) (h2:∀ y∈b,∀ x,a[a.size - 1]?=some x→O.kle (κ y) (κ x))
  (q:∀ out g,Gd κ (a.toList++b.toList) out→Q out (setGal st g)):wpS (model prog w) A E s (mergeHi' a b) Q st:=by
 refine wpS_bind (wpS_lift (wpAny_rule ⟨rfl,?_⟩))
 dsimp only
 refine arr_pre2 (a:=a) (i:=a.size) (by lia) (Nat.le_refl _) fun y0 ey0 dy0 my0=>?_
 refine wpS_bind (wpS_elem ey0 ?_)
 have M0:MJ κ (a.toList++b.toList) (#[]:Array Keyed).toList.reverse (a.toList.take a.size) (b.toList.take b.size):=⟨by rw [take_all,take_all]; simp,List.Pairwise.nil,by rw [take_all]; exact sa,by rw [take_all]; exact sb,by simp,by simp⟩
 have M1:MJ κ (a.toList++b.toList) (#[y0]:Array Keyed).toList.reverse (a.toList.take (a.size - 1)) (b.toList.take b.size):=M0.pushA dy0 (fun x hx=>by
  obtain ⟨j,_,j2⟩:=mem_take hx
  exact h2 x (Array.mem_of_getElem? j2) y0 ey0)
 by_cases c1:a.size - 1=0
 ·refine wpS_ifT ((beq_iff_eq.mpr c1)) ?_
  exact wpS_pure (q _ (gallopOf st) (M1.done (.inr c1)))
 refine wpS_ifF ((fun z=>c1 (beq_iff_eq.mp z))) ?_
 by_cases c2:b.size=1
 ·refine wpS_ifT ((beq_iff_eq.mpr c2)) ?_
  exact wpS_pure (q _ (gallopOf st) (M1.first c2 h1))
 refine wpS_ifF ((fun z=>c2 (beq_iff_eq.mp z))) ?_
 refine wpS_bind (wpS_get ?_)
 refine wpS_bind (wpS_mono (wpS_forRange (fun x c st'=>∃ na nb out mg,c=(none,na,nb,out,mg)∧(∃ g,st'=setGal st g)∧MJ κ (a.toList++b.toList) out.toList.reverse (a.toList.take na) (b.toList.take nb)∧(1≤na∧na≤a.size∧2≤nb∧nb≤b.size)∧x + 1≤out.size)
  (Q:=fun c st'=>(∃ g,st'=setGal st g)∧∃ r,c.1=some r∧Gd κ (a.toList++b.toList) r) ?step ?fin ⟨_,_,_,_,rfl,⟨gallopOf st,rfl⟩,M1,⟨by lia,by lia,by lia,by lia⟩,by simp⟩) ?post)
 case fin =>
  rintro c st' ⟨na,nb,out,mg,rfl,⟨g,rfl⟩,m,⟨i1,i2,i3,i4⟩,sz⟩
  exfalso
  have:=m.size
  rw [List.length_append,Array.length_toList,Array.length_toList] at this
  lia
 case post =>
  rintro ⟨c1,c2⟩ st' ⟨⟨g,rfl⟩,r,e,gd⟩
  cases e
  exact wpS_pure (q _ g gd)
 case step =>
  rintro x c st' _ hx ⟨na,nb,out,mg,rfl,⟨g,rfl⟩,m,⟨i1,i2,i3,i4⟩,sz⟩
  dsimp only
  refine wpS_bind (wpS_mono (wpS_forRange (fun y c st'=>∃ na nb out ac bc,c=(none,na,nb,out,ac,bc)∧st'=setGal st g∧MJ κ (a.toList++b.toList) out.toList.reverse (a.toList.take na) (b.toList.take nb)∧(1≤na∧na≤a.size∧2≤nb∧nb≤b.size)∧x + 1 + y≤out.size)
   (Q:=fun c st'=>st'=setGal st g∧((∃ r,c.1=some r∧Gd κ (a.toList++b.toList) r)∨∃ na nb out ac bc,c=(none,na,nb,out,ac,bc)∧MJ κ (a.toList++b.toList) out.toList.reverse (a.toList.take na) (b.toList.take nb)∧(1≤na∧na≤a.size∧2≤nb∧nb≤b.size)∧x + 2≤out.size)) ?step2 ?fin2 ⟨na,nb,out,0,0,rfl,rfl,m,⟨i1,i2,i3,i4⟩,by lia⟩) ?post2)
  case fin2 =>
   rintro c st' ⟨na,nb,out,ac,bc,rfl,rfl,m,i,sz⟩
   exact ⟨rfl,.inr ⟨_,_,_,_,_,rfl,m,i,by lia⟩⟩
  case step2 =>
   rintro y c st' _ hy ⟨na,nb,out,ac,bc,rfl,rfl,m,⟨i1,i2,i3,i4⟩,sz⟩
   dsimp only
   refine arr_pre2 (a:=b) (i:=nb) (by lia) (by lia) fun yb eyb dyb myb=>?_
   refine arr_pre2 (a:=a) (i:=na) (by lia) (by lia) fun xa exa dxa mxa=>?_
   refine wpS_bind (wpS_elem eyb (wpS_bind (wpS_elem exa (wpS_bind (C.lt hs.1 hs.2 (okb _ myb) (oka _ mxa) ?_)))))
   dsimp only
   cases e:O.blt (κ yb) (κ xa) with
   | true =>
    refine wpS_ifT (rfl) ?_
    refine wpS_bind (wpS_elem exa ?_)
    have m2:=m.pushA dxa (fun z hz=>KeyOrd.kle_trans (m.lastB dyb z hz) (KeyOrd.kle_of_klt e))
    by_cases c:na - 1=0
    ·refine wpS_ifT ((beq_iff_eq.mpr c)) ?_
     exact wpS_pure ⟨rfl,.inl ⟨_,rfl,m2.done (.inr c)⟩⟩
    refine wpS_ifF ((fun z=>c (beq_iff_eq.mp z))) ?_
    refine wpS_ite (fun _=>?_) (fun _=>?_)
    ·exact wpS_pure ⟨rfl,.inr ⟨_,_,_,_,_,rfl,m2,⟨by lia,by lia,i3,i4⟩,by rw [Array.size_push]; lia⟩⟩
    ·exact wpS_pure ⟨_,_,_,_,_,rfl,rfl,m2,⟨by lia,by lia,i3,i4⟩,by rw [Array.size_push]; lia⟩
   | false =>
    refine wpS_ifF (Bool.false_ne_true) ?_
    refine wpS_bind (wpS_elem eyb ?_)
    have m2:=m.pushB dyb (fun z hz=>KeyOrd.kle_trans (m.lastA dxa z hz) e)
    by_cases c:nb - 1=1
    ·refine wpS_ifT ((beq_iff_eq.mpr c)) ?_
     exact wpS_pure ⟨rfl,.inl ⟨_,rfl,m2.first c h1⟩⟩
    refine wpS_ifF ((fun z=>c (beq_iff_eq.mp z))) ?_
    refine wpS_ite (fun _=>?_) (fun _=>?_)
    ·exact wpS_pure ⟨rfl,.inr ⟨_,_,_,_,_,rfl,m2,⟨i1,i2,by lia,by lia⟩,by rw [Array.size_push]; lia⟩⟩
    ·exact wpS_pure ⟨_,_,_,_,_,rfl,rfl,m2,⟨i1,i2,by lia,by lia⟩,by rw [Array.size_push]; lia⟩
  case post2 =>
   rintro c st' ⟨rfl,hq⟩
   rcases hq with ⟨r,e,gd⟩ | ⟨na,nb,out,ac,bc,rfl,m,⟨i1,i2,i3,i4⟩,sz⟩
   ·obtain ⟨c1,c2⟩:=c
    cases e
    exact wpS_pure ⟨⟨g,rfl⟩,r,rfl,gd⟩
   dsimp only
   refine wpS_bind (wpS_lift (wpAny_rule ⟨rfl,?_⟩))
   refine wpS_bind (wpS_mono (wpS_forRange (fun _ c st'=>∃ na nb out mg ac bc,c=(none,na,nb,out,mg,ac,bc)∧(∃ g,st'=setGal st g)∧MJ κ (a.toList++b.toList) out.toList.reverse (a.toList.take na) (b.toList.take nb)∧1≤na∧na≤a.size∧2≤nb∧nb≤b.size∧x + 2≤out.size)
    (Q:=fun c st'=>(∃ g,st'=setGal st g)∧((∃ r,c.1=some r∧Gd κ (a.toList++b.toList) r)∨∃ na nb out mg ac bc,c=(none,na,nb,out,mg,ac,bc)∧MJ κ (a.toList++b.toList) out.toList.reverse (a.toList.take na) (b.toList.take nb)∧1≤na∧na≤a.size∧2≤nb∧nb≤b.size∧x + 2≤out.size)) ?step3 ?fin3 ⟨_,_,_,_,_,_,rfl,⟨g,rfl⟩,m,i1,i2,i3,i4,sz⟩) ?post3)
   case fin3 =>
    rintro c st' ⟨na,nb,out,mg,ac,bc,rfl,hg,m,i⟩
    exact ⟨hg,.inr ⟨_,_,_,_,_,_,rfl,m,i⟩⟩
   case post3 =>
    rintro c st' ⟨⟨g,rfl⟩,hq⟩
    rcases hq with ⟨r,e,gd⟩ | ⟨na,nb,out,mg,ac,bc,rfl,m,i1,i2,i3,i4,sz⟩
    ·obtain ⟨c1,c2⟩:=c
     cases e
     exact wpS_pure ⟨⟨g,rfl⟩,r,rfl,gd⟩
    dsimp only
    exact wpS_bind (wpS_modify (wpS_pure ⟨_,_,_,_,rfl,⟨_,rfl⟩,m,⟨i1,i2,i3,i4⟩,by lia⟩))
   case step3 =>
    rintro y c st' _ hy ⟨na,nb,out,mg,ac,bc,rfl,⟨g,rfl⟩,m,i1,i2,i3,i4,sz⟩
    dsimp only
    by_cases cm:mg > 1
    ·refine wpS_ifT (cm) ?_
     refine wpS_bind (wpS_modify ?_)
     refine arr_pre2 (a:=b) (i:=nb) (by lia) (by lia) fun yb eyb dyb myb=>?_
     refine wpS_bind (wpS_elem eyb ?_)
     refine wpS_bind (go_right C (arr:=a) (base:=0) (n:=na) (hint:=na - 1) hs.gal.gal (okb _ myb) oka (by lia) (by lia) (fun i j x y _ c2 _ ex ey=>sa.get c2 ex ey) fun k hk le gt=>?_)
     dsimp only
     have ng:∀ x∈a.toList.take k,O.kle (κ x) (κ yb):=fun x hx=>by
      obtain ⟨j,j1,j2⟩:=mem_take hx
      exact le j x j1 (by rw [Nat.zero_add]; exact j2)
     by_cases ck:na - k > 0
     ·refine wpS_ifT (ck) ?_
      have m2:=m.chunkA (k:=k) hk (fun x hx z hz=>by
       obtain ⟨j,j1,j2,j3⟩:=mem_ext2 hz
       exact KeyOrd.kle_trans (m.lastB dyb x hx) (KeyOrd.kle_of_klt (gt j z j1 j2 (by rw [Nat.zero_add]; exact j3))))
      by_cases c1:k=0
      ·refine wpS_ifT ((beq_iff_eq.mpr c1)) ?_
       exact wpS_pure ⟨⟨_,rfl⟩,.inl ⟨_,rfl,m2.done (.inr c1)⟩⟩
      refine wpS_ifF ((fun z=>c1 (beq_iff_eq.mp z))) ?_
      refine wpS_bind (wpS_elem eyb ?_)
      have m3:=m2.pushB dyb (ng)
      by_cases c3:nb - 1=1
      ·refine wpS_ifT ((beq_iff_eq.mpr c3)) ?_
       exact wpS_pure ⟨⟨_,rfl⟩,.inl ⟨_,rfl,m3.first c3 h1⟩⟩
      refine wpS_ifF ((fun z=>c3 (beq_iff_eq.mp z))) ?_
      refine arr_pre2 (a:=a) (i:=k) (by lia) (by lia) fun xa exa dxa mxa=>?_
      refine wpS_bind (wpS_elem exa ?_)
      refine wpS_bind (go_left C (arr:=b) (base:=0) (n:=nb - 1) (hint:=nb - 1 - 1) hs.gal.gal (oka _ mxa) okb (by lia) (by lia) (fun i j x y _ c2 _ ex ey=>sb.get c2 ex ey) fun k2 hk2 lt2 ge2=>?_)
      dsimp only
      by_cases ck2:nb - 1 - k2 > 0
      ·refine wpS_ifT (ck2) ?_
       have m4:=m3.chunkB (k:=k2) hk2 (fun x hx z hz=>by
        obtain ⟨j,j1,j2,j3⟩:=mem_ext2 hz
        exact KeyOrd.kle_trans (m3.lastA dxa x hx) (ge2 j z j1 j2 (by rw [Nat.zero_add]; exact j3)))
       by_cases c4:k2=1
       ·refine wpS_ifT ((beq_iff_eq.mpr c4)) ?_
        exact wpS_pure ⟨⟨_,rfl⟩,.inl ⟨_,rfl,m4.first c4 h1⟩⟩
       refine wpS_ifF ((fun z=>c4 (beq_iff_eq.mp z))) ?_
       by_cases c6:k2=0
       ·refine wpS_ifT ((beq_iff_eq.mpr c6)) ?_
        exact wpS_pure ⟨⟨_,rfl⟩,.inl ⟨_,rfl,m4.done (.inl c6)⟩⟩
       refine wpS_ifF ((fun z=>c6 (beq_iff_eq.mp z))) ?_
       refine wpS_bind (wpS_elem exa ?_)
       have m5:=m4.pushA dxa (fun z hz=>by
        obtain ⟨j,j1,j2⟩:=mem_take hz
        exact KeyOrd.kle_of_klt (lt2 j z j1 (by rw [Nat.zero_add]; exact j2)))
       by_cases c5:k - 1=0
       ·refine wpS_ifT ((beq_iff_eq.mpr c5)) ?_
        exact wpS_pure ⟨⟨_,rfl⟩,.inl ⟨_,rfl,m5.done (.inr c5)⟩⟩
       refine wpS_ifF ((fun z=>c5 (beq_iff_eq.mp z))) ?_
       refine wpS_ite (fun _=>?_) (fun _=>?_)
       ·exact wpS_pure ⟨⟨_,rfl⟩,.inr ⟨_,_,_,_,_,_,rfl,m5,by lia,by lia,by lia,by lia,by simp only [Array.size_push,Array.size_append]; lia⟩⟩
       ·exact wpS_pure ⟨_,_,_,_,_,_,rfl,⟨_,rfl⟩,m5,by lia,by lia,by lia,by lia,by simp only [Array.size_push,Array.size_append]; lia⟩
      ·refine wpS_ifF (ck2) ?_
       refine wpS_bind (wpS_elem exa ?_)
       have m5:=m3.pushA dxa (fun z hz=>by
        obtain ⟨j,j1,j2⟩:=mem_take hz
        exact KeyOrd.kle_of_klt (lt2 j z (by lia) (by rw [Nat.zero_add]; exact j2)))
       by_cases c5:k - 1=0
       ·refine wpS_ifT ((beq_iff_eq.mpr c5)) ?_
        exact wpS_pure ⟨⟨_,rfl⟩,.inl ⟨_,rfl,m5.done (.inr c5)⟩⟩
       refine wpS_ifF ((fun z=>c5 (beq_iff_eq.mp z))) ?_
       refine wpS_ite (fun _=>?_) (fun _=>?_)
       ·exact wpS_pure ⟨⟨_,rfl⟩,.inr ⟨_,_,_,_,_,_,rfl,m5,by lia,by lia,by lia,by lia,by simp only [Array.size_push,Array.size_append]; lia⟩⟩
       ·exact wpS_pure ⟨_,_,_,_,_,_,rfl,⟨_,rfl⟩,m5,by lia,by lia,by lia,by lia,by simp only [Array.size_push,Array.size_append]; lia⟩
     ·refine wpS_ifF (ck) ?_
      have k0:k=na:=by lia
      rw [k0] at ng
      refine wpS_bind (wpS_elem eyb ?_)
      have m3:=m.pushB dyb (ng)
      by_cases c3:nb - 1=1
      ·refine wpS_ifT ((beq_iff_eq.mpr c3)) ?_
       exact wpS_pure ⟨⟨_,rfl⟩,.inl ⟨_,rfl,m3.first c3 h1⟩⟩
      refine wpS_ifF ((fun z=>c3 (beq_iff_eq.mp z))) ?_
      refine arr_pre2 (a:=a) (i:=na) (by lia) (by lia) fun xa exa dxa mxa=>?_
      refine wpS_bind (wpS_elem exa ?_)
      refine wpS_bind (go_left C (arr:=b) (base:=0) (n:=nb - 1) (hint:=nb - 1 - 1) hs.gal.gal (oka _ mxa) okb (by lia) (by lia) (fun i j x y _ c2 _ ex ey=>sb.get c2 ex ey) fun k2 hk2 lt2 ge2=>?_)
      dsimp only
      by_cases ck2:nb - 1 - k2 > 0
      ·refine wpS_ifT (ck2) ?_
       have m4:=m3.chunkB (k:=k2) hk2 (fun x hx z hz=>by
        obtain ⟨j,j1,j2,j3⟩:=mem_ext2 hz
        exact KeyOrd.kle_trans (m3.lastA dxa x hx) (ge2 j z j1 j2 (by rw [Nat.zero_add]; exact j3)))
       by_cases c4:k2=1
       ·refine wpS_ifT ((beq_iff_eq.mpr c4)) ?_
        exact wpS_pure ⟨⟨_,rfl⟩,.inl ⟨_,rfl,m4.first c4 h1⟩⟩
       refine wpS_ifF ((fun z=>c4 (beq_iff_eq.mp z))) ?_
       by_cases c6:k2=0
       ·refine wpS_ifT ((beq_iff_eq.mpr c6)) ?_
        exact wpS_pure ⟨⟨_,rfl⟩,.inl ⟨_,rfl,m4.done (.inl c6)⟩⟩
       refine wpS_ifF ((fun z=>c6 (beq_iff_eq.mp z))) ?_
       refine wpS_bind (wpS_elem exa ?_)
       have m5:=m4.pushA dxa (fun z hz=>by
        obtain ⟨j,j1,j2⟩:=mem_take hz
        exact KeyOrd.kle_of_klt (lt2 j z j1 (by rw [Nat.zero_add]; exact j2)))
       by_cases c5:na - 1=0
       ·refine wpS_ifT ((beq_iff_eq.mpr c5)) ?_
        exact wpS_pure ⟨⟨_,rfl⟩,.inl ⟨_,rfl,m5.done (.inr c5)⟩⟩
       refine wpS_ifF ((fun z=>c5 (beq_iff_eq.mp z))) ?_
       refine wpS_ite (fun _=>?_) (fun _=>?_)
       ·exact wpS_pure ⟨⟨_,rfl⟩,.inr ⟨_,_,_,_,_,_,rfl,m5,by lia,by lia,by lia,by lia,by simp only [Array.size_push,Array.size_append]; lia⟩⟩
       ·exact wpS_pure ⟨_,_,_,_,_,_,rfl,⟨_,rfl⟩,m5,by lia,by lia,by lia,by lia,by simp only [Array.size_push,Array.size_append]; lia⟩
      ·refine wpS_ifF (ck2) ?_
       refine wpS_bind (wpS_elem exa ?_)
       have m5:=m3.pushA dxa (fun z hz=>by
        obtain ⟨j,j1,j2⟩:=mem_take hz
        exact KeyOrd.kle_of_klt (lt2 j z (by lia) (by rw [Nat.zero_add]; exact j2)))
       by_cases c5:na - 1=0
       ·refine wpS_ifT ((beq_iff_eq.mpr c5)) ?_
        exact wpS_pure ⟨⟨_,rfl⟩,.inl ⟨_,rfl,m5.done (.inr c5)⟩⟩
       refine wpS_ifF ((fun z=>c5 (beq_iff_eq.mp z))) ?_
       refine wpS_ite (fun _=>?_) (fun _=>?_)
       ·exact wpS_pure ⟨⟨_,rfl⟩,.inr ⟨_,_,_,_,_,_,rfl,m5,by lia,by lia,by lia,by lia,by simp only [Array.size_push,Array.size_append]; lia⟩⟩
       ·exact wpS_pure ⟨_,_,_,_,_,_,rfl,⟨_,rfl⟩,m5,by lia,by lia,by lia,by lia,by simp only [Array.size_push,Array.size_append]; lia⟩
    ·refine wpS_ifF (cm) ?_
     refine wpS_bind (wpS_modify ?_)
     refine arr_pre2 (a:=b) (i:=nb) (by lia) (by lia) fun yb eyb dyb myb=>?_
     refine wpS_bind (wpS_elem eyb ?_)
     refine wpS_bind (go_right C (arr:=a) (base:=0) (n:=na) (hint:=na - 1) hs.gal.gal (okb _ myb) oka (by lia) (by lia) (fun i j x y _ c2 _ ex ey=>sa.get c2 ex ey) fun k hk le gt=>?_)
     dsimp only
     have ng:∀ x∈a.toList.take k,O.kle (κ x) (κ yb):=fun x hx=>by
      obtain ⟨j,j1,j2⟩:=mem_take hx
      exact le j x j1 (by rw [Nat.zero_add]; exact j2)
     by_cases ck:na - k > 0
     ·refine wpS_ifT (ck) ?_
      have m2:=m.chunkA (k:=k) hk (fun x hx z hz=>by
       obtain ⟨j,j1,j2,j3⟩:=mem_ext2 hz
       exact KeyOrd.kle_trans (m.lastB dyb x hx) (KeyOrd.kle_of_klt (gt j z j1 j2 (by rw [Nat.zero_add]; exact j3))))
      by_cases c1:k=0
      ·refine wpS_ifT ((beq_iff_eq.mpr c1)) ?_
       exact wpS_pure ⟨⟨_,rfl⟩,.inl ⟨_,rfl,m2.done (.inr c1)⟩⟩
      refine wpS_ifF ((fun z=>c1 (beq_iff_eq.mp z))) ?_
      refine wpS_bind (wpS_elem eyb ?_)
      have m3:=m2.pushB dyb (ng)
      by_cases c3:nb - 1=1
      ·refine wpS_ifT ((beq_iff_eq.mpr c3)) ?_
       exact wpS_pure ⟨⟨_,rfl⟩,.inl ⟨_,rfl,m3.first c3 h1⟩⟩
      refine wpS_ifF ((fun z=>c3 (beq_iff_eq.mp z))) ?_
      refine arr_pre2 (a:=a) (i:=k) (by lia) (by lia) fun xa exa dxa mxa=>?_
      refine wpS_bind (wpS_elem exa ?_)
      refine wpS_bind (go_left C (arr:=b) (base:=0) (n:=nb - 1) (hint:=nb - 1 - 1) hs.gal.gal (oka _ mxa) okb (by lia) (by lia) (fun i j x y _ c2 _ ex ey=>sb.get c2 ex ey) fun k2 hk2 lt2 ge2=>?_)
      dsimp only
      by_cases ck2:nb - 1 - k2 > 0
      ·refine wpS_ifT (ck2) ?_
       have m4:=m3.chunkB (k:=k2) hk2 (fun x hx z hz=>by
        obtain ⟨j,j1,j2,j3⟩:=mem_ext2 hz
        exact KeyOrd.kle_trans (m3.lastA dxa x hx) (ge2 j z j1 j2 (by rw [Nat.zero_add]; exact j3)))
       by_cases c4:k2=1
       ·refine wpS_ifT ((beq_iff_eq.mpr c4)) ?_
        exact wpS_pure ⟨⟨_,rfl⟩,.inl ⟨_,rfl,m4.first c4 h1⟩⟩
       refine wpS_ifF ((fun z=>c4 (beq_iff_eq.mp z))) ?_
       by_cases c6:k2=0
       ·refine wpS_ifT ((beq_iff_eq.mpr c6)) ?_
        exact wpS_pure ⟨⟨_,rfl⟩,.inl ⟨_,rfl,m4.done (.inl c6)⟩⟩
       refine wpS_ifF ((fun z=>c6 (beq_iff_eq.mp z))) ?_
       refine wpS_bind (wpS_elem exa ?_)
       have m5:=m4.pushA dxa (fun z hz=>by
        obtain ⟨j,j1,j2⟩:=mem_take hz
        exact KeyOrd.kle_of_klt (lt2 j z j1 (by rw [Nat.zero_add]; exact j2)))
       by_cases c5:k - 1=0
       ·refine wpS_ifT ((beq_iff_eq.mpr c5)) ?_
        exact wpS_pure ⟨⟨_,rfl⟩,.inl ⟨_,rfl,m5.done (.inr c5)⟩⟩
       refine wpS_ifF ((fun z=>c5 (beq_iff_eq.mp z))) ?_
       refine wpS_ite (fun _=>?_) (fun _=>?_)
       ·exact wpS_pure ⟨⟨_,rfl⟩,.inr ⟨_,_,_,_,_,_,rfl,m5,by lia,by lia,by lia,by lia,by simp only [Array.size_push,Array.size_append]; lia⟩⟩
       ·exact wpS_pure ⟨_,_,_,_,_,_,rfl,⟨_,rfl⟩,m5,by lia,by lia,by lia,by lia,by simp only [Array.size_push,Array.size_append]; lia⟩
      ·refine wpS_ifF (ck2) ?_
       refine wpS_bind (wpS_elem exa ?_)
       have m5:=m3.pushA dxa (fun z hz=>by
        obtain ⟨j,j1,j2⟩:=mem_take hz
        exact KeyOrd.kle_of_klt (lt2 j z (by lia) (by rw [Nat.zero_add]; exact j2)))
       by_cases c5:k - 1=0
       ·refine wpS_ifT ((beq_iff_eq.mpr c5)) ?_
        exact wpS_pure ⟨⟨_,rfl⟩,.inl ⟨_,rfl,m5.done (.inr c5)⟩⟩
       refine wpS_ifF ((fun z=>c5 (beq_iff_eq.mp z))) ?_
       refine wpS_ite (fun _=>?_) (fun _=>?_)
       ·exact wpS_pure ⟨⟨_,rfl⟩,.inr ⟨_,_,_,_,_,_,rfl,m5,by lia,by lia,by lia,by lia,by simp only [Array.size_push,Array.size_append]; lia⟩⟩
       ·exact wpS_pure ⟨_,_,_,_,_,_,rfl,⟨_,rfl⟩,m5,by lia,by lia,by lia,by lia,by simp only [Array.size_push,Array.size_append]; lia⟩
     ·refine wpS_ifF (ck) ?_
      have k0:k=na:=by lia
      rw [k0] at ng
      refine wpS_bind (wpS_elem eyb ?_)
      have m3:=m.pushB dyb (ng)
      by_cases c3:nb - 1=1
      ·refine wpS_ifT ((beq_iff_eq.mpr c3)) ?_
       exact wpS_pure ⟨⟨_,rfl⟩,.inl ⟨_,rfl,m3.first c3 h1⟩⟩
      refine wpS_ifF ((fun z=>c3 (beq_iff_eq.mp z))) ?_
      refine arr_pre2 (a:=a) (i:=na) (by lia) (by lia) fun xa exa dxa mxa=>?_
      refine wpS_bind (wpS_elem exa ?_)
      refine wpS_bind (go_left C (arr:=b) (base:=0) (n:=nb - 1) (hint:=nb - 1 - 1) hs.gal.gal (oka _ mxa) okb (by lia) (by lia) (fun i j x y _ c2 _ ex ey=>sb.get c2 ex ey) fun k2 hk2 lt2 ge2=>?_)
      dsimp only
      by_cases ck2:nb - 1 - k2 > 0
      ·refine wpS_ifT (ck2) ?_
       have m4:=m3.chunkB (k:=k2) hk2 (fun x hx z hz=>by
        obtain ⟨j,j1,j2,j3⟩:=mem_ext2 hz
        exact KeyOrd.kle_trans (m3.lastA dxa x hx) (ge2 j z j1 j2 (by rw [Nat.zero_add]; exact j3)))
       by_cases c4:k2=1
       ·refine wpS_ifT ((beq_iff_eq.mpr c4)) ?_
        exact wpS_pure ⟨⟨_,rfl⟩,.inl ⟨_,rfl,m4.first c4 h1⟩⟩
       refine wpS_ifF ((fun z=>c4 (beq_iff_eq.mp z))) ?_
       by_cases c6:k2=0
       ·refine wpS_ifT ((beq_iff_eq.mpr c6)) ?_
        exact wpS_pure ⟨⟨_,rfl⟩,.inl ⟨_,rfl,m4.done (.inl c6)⟩⟩
       refine wpS_ifF ((fun z=>c6 (beq_iff_eq.mp z))) ?_
       refine wpS_bind (wpS_elem exa ?_)
       have m5:=m4.pushA dxa (fun z hz=>by
        obtain ⟨j,j1,j2⟩:=mem_take hz
        exact KeyOrd.kle_of_klt (lt2 j z j1 (by rw [Nat.zero_add]; exact j2)))
       by_cases c5:na - 1=0
       ·refine wpS_ifT ((beq_iff_eq.mpr c5)) ?_
        exact wpS_pure ⟨⟨_,rfl⟩,.inl ⟨_,rfl,m5.done (.inr c5)⟩⟩
       refine wpS_ifF ((fun z=>c5 (beq_iff_eq.mp z))) ?_
       refine wpS_ite (fun _=>?_) (fun _=>?_)
       ·exact wpS_pure ⟨⟨_,rfl⟩,.inr ⟨_,_,_,_,_,_,rfl,m5,by lia,by lia,by lia,by lia,by simp only [Array.size_push,Array.size_append]; lia⟩⟩
       ·exact wpS_pure ⟨_,_,_,_,_,_,rfl,⟨_,rfl⟩,m5,by lia,by lia,by lia,by lia,by simp only [Array.size_push,Array.size_append]; lia⟩
      ·refine wpS_ifF (ck2) ?_
       refine wpS_bind (wpS_elem exa ?_)
       have m5:=m3.pushA dxa (fun z hz=>by
        obtain ⟨j,j1,j2⟩:=mem_take hz
        exact KeyOrd.kle_of_klt (lt2 j z (by lia) (by rw [Nat.zero_add]; exact j2)))
       by_cases c5:na - 1=0
       ·refine wpS_ifT ((beq_iff_eq.mpr c5)) ?_
        exact wpS_pure ⟨⟨_,rfl⟩,.inl ⟨_,rfl,m5.done (.inr c5)⟩⟩
       refine wpS_ifF ((fun z=>c5 (beq_iff_eq.mp z))) ?_
       refine wpS_ite (fun _=>?_) (fun _=>?_)
       ·exact wpS_pure ⟨⟨_,rfl⟩,.inr ⟨_,_,_,_,_,_,rfl,m5,by lia,by lia,by lia,by lia,by simp only [Array.size_push,Array.size_append]; lia⟩⟩
       ·exact wpS_pure ⟨_,_,_,_,_,_,rfl,⟨_,rfl⟩,m5,by lia,by lia,by lia,by lia,by simp only [Array.size_push,Array.size_append]; lia⟩
end
end L2
namespace L2
open PySem PySem.Spec PyProof.Rows
section
variable {O:KeyOrd} {κ:Keyed→O.α}
noncomputable def SegU (κ:Keyed→O.α) (arr:Array Keyed) (lo hi:Nat):Prop:=∀ i j x y,lo≤i→i≤j→j < hi→arr[i]?=some x→arr[j]?=some y→O.kle (κ x) (κ y)
noncomputable def putAt (arr:Array Keyed) (sa:Nat) (l:List Keyed) (n:Nat):Array Keyed:=(l.zipIdx n).foldl (fun a (p,j)=>a.setIfInBounds (sa + j) p) arr
theorem putAt_get:∀ (l:List Keyed) (arr:Array Keyed) (sa n k:Nat),sa + n + l.length≤arr.size→(putAt arr sa l n)[k]?=if sa + n≤k∧k < sa + n + l.length then l[k - sa - n]? else arr[k]?
 | [],arr,sa,n,k,h=>by
  show arr[k]?=_
  rw [if_neg (by simp)]
 | x :: r,arr,sa,n,k,h=>by
  show (putAt (arr.setIfInBounds (sa + n) x) sa r (n + 1))[k]?=_
  rw [List.length_cons] at h ⊢
  rw [putAt_get r _ sa (n + 1) k (by rw [Array.size_setIfInBounds]; lia),Array.getElem?_setIfInBounds]
  by_cases c:sa + n=k
  ·rw [if_neg (by lia),if_pos c,if_pos (by lia),if_pos (by lia),show k - sa - n=0 by lia]
   rfl
  ·rw [if_neg c]
   by_cases c2:sa + (n + 1)≤k∧k < sa + (n + 1) + r.length
   ·rw [if_pos c2,if_pos (by lia),show k - sa - n=(k - sa - (n + 1)) + 1 by lia,List.getElem?_cons_succ]
   ·rw [if_neg c2,if_neg (by lia)]
theorem putAt_list {l:List Keyed} {arr:Array Keyed} {sa:Nat} (h:sa + l.length≤arr.size):(putAt arr sa l 0).toList=arr.toList.take sa++(l++arr.toList.drop (sa + l.length)):=by
 apply List.ext_getElem?
 intro k
 have e:=putAt_get l arr sa 0 k (by lia)
 have hl:(arr.toList.take sa).length=sa:=by
  rw [List.length_take]
  have:arr.toList.length=arr.size:=Array.length_toList
  lia
 rw [Array.getElem?_toList,e,List.getElem?_append,List.getElem?_append,hl,List.getElem?_take,List.getElem?_drop]
 by_cases c1:k < sa
 ·rw [if_neg (by lia),if_pos c1,if_pos c1,Array.getElem?_toList]
 ·rw [if_neg c1]
  by_cases c2:k - sa < l.length
  ·rw [if_pos (by lia),if_pos c2,show k - sa - 0=k - sa by lia]
  ·rw [if_neg (by lia),if_neg c2,show sa + l.length + (k - sa - l.length)=k by lia,Array.getElem?_toList]
theorem SegU.srd {arr:Array Keyed} {lo hi:Nat} (h:SegU κ arr lo hi) (hs:hi≤arr.size):Srd κ (arr.extract lo hi).toList:=by
 refine List.pairwise_iff_getElem.mpr fun i j l1 l2 hij=>?_
 rw [Array.length_toList,Array.size_extract] at l1 l2
 refine h (lo + i) (lo + j) _ _ (by lia) (by lia) (by lia) ?_ ?_
 ·rw [Array.getElem_toList,Array.getElem_extract]; exact Array.getElem?_eq_getElem _
 ·rw [Array.getElem_toList,Array.getElem_extract]; exact Array.getElem?_eq_getElem _
theorem SegU.mono {arr:Array Keyed} {lo hi lo' hi':Nat} (h:SegU κ arr lo hi) (h1:lo≤lo') (h2:hi'≤hi):SegU κ arr lo' hi':=fun i j x y a b c=>h i j x y (by lia) b (by lia)
theorem SegU.same {arr arr':Array Keyed} {lo hi:Nat} (h:SegU κ arr lo hi) (e:∀ i,lo≤i→i < hi→arr'[i]?=arr[i]?):SegU κ arr' lo hi:=fun i j x y a b c hx hy=>h i j x y a b c (by rw [← e i a (by lia)]; exact hx) (by rw [← e j (by lia) c]; exact hy)
theorem SegU.join {arr:Array Keyed} {lo mid hi:Nat} (h1:SegU κ arr lo mid) (h2:SegU κ arr mid hi) (h:∀ i j x y,lo≤i→i < mid→mid≤j→j < hi→arr[i]?=some x→arr[j]?=some y→O.kle (κ x) (κ y)):SegU κ arr lo hi:=fun i j x y a b c hx hy=>by
 rcases Nat.lt_or_ge j mid with d | d
 ·exact h1 i j x y a b d hx hy
 ·rcases Nat.lt_or_ge i mid with d2 | d2
  ·exact h i j x y a d2 d c hx hy
  ·exact h2 i j x y d2 b c hx hy
end
section
variable {prog:Program} {w:World} {A:Around} {E:Value→Shared→Prop} {s:Shared} {O:KeyOrd} {κ:Keyed→O.α} {ok:Keyed→Prop} {kd:SortKind}
theorem wpS_set {M:Model} {x:SortSt} {Q:PUnit→SortSt→Prop} {st:SortSt} (h:Q ⟨⟩ x):wpS M A E s (set x:StateT SortSt Sem PUnit) Q st:=by
 unfold wpS; rw [StateT.run_set]; exact wpAny_pure ⟨rfl,h⟩
theorem srd_list {l:List Keyed} (h:Srd κ l) {i j:Nat} {x y:Keyed} (hij:i≤j) (hx:l[i]?=some x) (hy:l[j]?=some y):O.kle (κ x) (κ y):=by
 have:=Srd.get (κ:=κ) (a:=l.toArray) h hij (by simpa using hx) (by simpa using hy)
 exact this
structure Mg (κ:Keyed→O.α) (kd:SortKind) (arr:Array Keyed) (lo hi:Nat) (p:Array (Nat×Nat×Nat)) (st':SortSt):Prop where
 sx:Sx kd st'
 perm:(arrOf st').toList.Perm arr.toList
 pend:pendingOf st'=p
 out:∀ k,(k < lo∨hi≤k)→(arrOf st')[k]?=arr[k]?
 seg:SegU κ (arrOf st') lo hi
theorem go_mergeAt (C:Cm (model prog w) A E s κ ok kd) {st:SortSt} (hs:Sx kd st) (hok:∀ x∈arrOf st,ok x) {i sa na pw nb pw2:Nat} {Q:Bool→SortSt→Prop} (e1:(pendingOf st)[i]?=some (sa,na,pw)) (e2:(pendingOf st)[i + 1]?=some (sa + na,nb,pw2))
  (n1:1≤na) (n2:1≤nb) (hz:sa + na + nb≤(arrOf st).size) (s1:SegU κ (arrOf st) sa (sa + na)) (s2:SegU κ (arrOf st) (sa + na) (sa + na + nb))
  (q:∀ st',Mg κ kd (arrOf st) sa (sa + na + nb) (((pendingOf st).setIfInBounds i (sa,na + nb,pw)).eraseIdxIfInBounds (i + 1)) st'→Q true st'):wpS (model prog w) A E s (mergeAt' i) Q st:=by
 refine wpS_bind (wpS_get ?_)
 rw [e1,e2]
 dsimp only
 refine wpS_bind (wpS_set ?_)
 have hs1:Sx kd (setPending st (((pendingOf st).setIfInBounds i (sa,na + nb,pw)).eraseIdxIfInBounds (i + 1))):=hs
 generalize ((pendingOf st).setIfInBounds i (sa,na + nb,pw)).eraseIdxIfInBounds (i + 1)=P at q hs1 ⊢
 have eb:(arrOf st)[sa + na]?=some (arrOf st)[sa + na]:=Array.getElem?_eq_getElem (by lia)
 have okb:ok (arrOf st)[sa + na]:=hok _ (Array.getElem_mem (by lia))
 generalize (arrOf st)[sa + na]=xb at eb okb
 have el:(arrOf st)[sa + na - 1]?=some (arrOf st)[sa + na - 1]:=Array.getElem?_eq_getElem (by lia)
 have okl:ok (arrOf st)[sa + na - 1]:=hok _ (Array.getElem_mem (by lia))
 generalize (arrOf st)[sa + na - 1]=xl at el okl
 refine wpS_bind (wpS_elem eb ?_)
 refine wpS_bind (go_right C (arr:=arrOf st) (base:=sa) (n:=na) (hint:=0) hs1 okb hok (by lia) (by lia) s1 fun k hk le gt=>?_)
 dsimp only
 have leA:∀ i x,sa≤i→i < sa + k→(arrOf st)[i]?=some x→O.kle (κ x) (κ xb):=fun i x a1 a2 ex=>le (i - sa) x (by lia) (by rw [show sa + (i - sa)=i by lia]; exact ex)
 have gtA:∀ i x,sa + k≤i→i < sa + na→(arrOf st)[i]?=some x→O.kle (κ xb) (κ x):=fun i x a1 a2 ex=>KeyOrd.kle_of_klt (gt (i - sa) x (by lia) (by lia) (by rw [show sa + (i - sa)=i by lia]; exact ex))
 by_cases c1:na - k=0
 ·rw [if_pos (beq_iff_eq.mpr c1)]
  refine wpS_pure (q _ ⟨hs1,List.Perm.refl _,rfl,fun _ _=>rfl,s1.join s2 fun i j x y a1 a2 a3 a4 ex ey=>?_⟩)
  exact KeyOrd.kle_trans (leA i x a1 (by lia) ex) (s2 (sa + na) j xb y (by lia) a3 a4 eb ey)
 rw [if_neg (fun z=>c1 (beq_iff_eq.mp z))]
 rw [show sa + k + (na - k) - 1=sa + na - 1 by lia]
 refine wpS_bind (wpS_elem el ?_)
 refine wpS_bind (go_left C (arr:=arrOf st) (base:=sa + na) (n:=nb) (hint:=nb - 1) hs1 okl hok (by lia) (by lia) s2 fun k2 hk2 lt2 ge2=>?_)
 dsimp only
 have ltB:∀ i x,sa + na≤i→i < sa + na + k2→(arrOf st)[i]?=some x→O.kle (κ x) (κ xl):=fun i x a1 a2 ex=>KeyOrd.kle_of_klt (lt2 (i - (sa + na)) x (by lia) (by rw [show sa + na + (i - (sa + na))=i by lia]; exact ex))
 have geB:∀ i x,sa + na + k2≤i→i < sa + na + nb→(arrOf st)[i]?=some x→O.kle (κ xl) (κ x):=fun i x a1 a2 ex=>ge2 (i - (sa + na)) x (by lia) (by lia) (by rw [show sa + na + (i - (sa + na))=i by lia]; exact ex)
 clear le gt lt2 ge2
 by_cases c2:k2=0
 ·rw [if_pos (beq_iff_eq.mpr c2)]
  refine wpS_pure (q _ ⟨hs1,List.Perm.refl _,rfl,fun _ _=>rfl,s1.join s2 fun i j x y a1 a2 a3 a4 ex ey=>?_⟩)
  exact KeyOrd.kle_trans (s1 i (sa + na - 1) x xl a1 (by lia) (by lia) ex el) (geB j y (by lia) a4 ey)
 rw [if_neg (fun z=>c2 (beq_iff_eq.mp z))]
 obtain ⟨X,hX⟩:∃ X,X=(arrOf st).extract (sa + k) (sa + na):=⟨_,rfl⟩
 obtain ⟨Y,hY⟩:∃ Y,Y=(arrOf st).extract (sa + na) (sa + na + k2):=⟨_,rfl⟩
 rw [← hX,← hY]
 have zX:X.size=na - k:=by rw [hX,Array.size_extract]; lia
 have zY:Y.size=k2:=by rw [hY,Array.size_extract]; lia
 have mX:∀ x∈X.toList,∃ j,sa + k≤j∧j < sa + na∧(arrOf st)[j]?=some x:=fun x hx=>mem_ext2 (by rw [← hX]; exact hx)
 have mY:∀ x∈Y.toList,∃ j,sa + na≤j∧j < sa + na + k2∧(arrOf st)[j]?=some x:=fun x hx=>mem_ext2 (by rw [← hY]; exact hx)
 have okX:∀ x∈X,ok x:=fun x hx=>by
  obtain ⟨j,_,_,e⟩:=mX x (by simpa using hx)
  exact hok x (Array.mem_of_getElem? e)
 have okY:∀ x∈Y,ok x:=fun x hx=>by
  obtain ⟨j,_,_,e⟩:=mY x (by simpa using hx)
  exact hok x (Array.mem_of_getElem? e)
 have sX:Srd κ X.toList:=by rw [hX]; exact (s1.mono (by lia) (Nat.le_refl _)).srd (by lia)
 have sY:Srd κ Y.toList:=by rw [hY]; exact (s2.mono (Nat.le_refl _) (by lia)).srd (by lia)
 have b0:Y[0]?=some xb:=by
  rw [hY,Array.getElem?_extract,if_pos (by lia)]
  exact eb
 have al:X[X.size - 1]?=some xl:=by
  rw [zX,hX,Array.getElem?_extract,if_pos (by lia),show sa + k + (na - k - 1)=sa + na - 1 by lia]
  exact el
 have p1:∀ x∈X,∀ y,Y[0]?=some y→O.kle (κ y) (κ x):=fun x hx y hy=>by
  rw [b0] at hy; cases hy
  obtain ⟨j,j1,j2,e⟩:=mX x (by simpa using hx)
  exact gtA j x j1 j2 e
 have p2:∀ y∈Y,∀ x,X[X.size - 1]?=some x→O.kle (κ y) (κ x):=fun y hy x hx=>by
  rw [al] at hx; cases hx
  obtain ⟨j,j1,j2,e⟩:=mY y (by simpa using hy)
  exact ltB j y j1 j2 e
 have fin:∀ out g,Gd κ (X.toList++Y.toList) out→Mg κ kd (arrOf st) sa (sa + na + nb) P (setArr (setGal (setPending st P) g) (putAt (arrOf st) (sa + k) out.toList 0)):=by
  intro out g gd
  have zo:out.toList.length=na - k + k2:=by
   have:=gd.2.length_eq
   have l1:X.toList.length=X.size:=Array.length_toList
   have l2:Y.toList.length=Y.size:=Array.length_toList
   rw [List.length_append] at this
   lia
  have hfit:sa + k + out.toList.length≤(arrOf st).size:=by lia
  have gt':=fun j=>putAt_get out.toList (arrOf st) (sa + k) 0 j (by lia)
  have cls:∀ i x,(putAt (arrOf st) (sa + k) out.toList 0)[i]?=some x→(i < sa + k∧(arrOf st)[i]?=some x)∨(sa + k≤i∧i < sa + na + k2∧out.toList[i - (sa + k) - 0]?=some x)∨(sa + na + k2≤i∧(arrOf st)[i]?=some x):=by
   intro i x e
   rw [gt' i] at e
   split at e
   ·rename_i c; exact .inr (.inl ⟨by lia,by lia,e⟩)
   ·rename_i c
    by_cases d:i < sa + k
    ·exact .inl ⟨d,e⟩
    ·exact .inr (.inr ⟨by lia,e⟩)
  have mO:∀ x∈out.toList,(∃ j,sa + k≤j∧j < sa + na∧(arrOf st)[j]?=some x)∨∃ j,sa + na≤j∧j < sa + na + k2∧(arrOf st)[j]?=some x:=fun x hx=>by
   rcases List.mem_append.mp (gd.2.mem_iff.mp hx) with h | h
   ·exact .inl (mX x h)
   ·exact .inr (mY x h)
  refine ⟨hs1,?_,rfl,fun j hj=>?_,?_⟩
  ·show (putAt (arrOf st) (sa + k) out.toList 0).toList.Perm _
   rw [putAt_list hfit]
   have e3:(arrOf st).toList=(arrOf st).toList.take (sa + k)++(X.toList++Y.toList++(arrOf st).toList.drop (sa + na + k2)):=by
    have d1:=ext_drop (a:=arrOf st) (i:=sa + k) (k:=na - k)
    have d2:=ext_drop (a:=arrOf st) (i:=sa + na) (k:=k2)
    rw [show sa + k + (na - k)=sa + na by lia,← hX] at d1
    rw [← hY] at d2
    rw [List.append_assoc,← d2,← d1,List.take_append_drop]
   rw [show sa + k + out.toList.length=sa + na + k2 by lia]
   have e4:((arrOf st).toList.take (sa + k)++(out.toList++(arrOf st).toList.drop (sa + na + k2))).Perm ((arrOf st).toList.take (sa + k)++(X.toList++Y.toList++(arrOf st).toList.drop (sa + na + k2))):=List.Perm.append_left _ (List.Perm.append_right _ gd.2)
   rw [← e3] at e4
   exact e4
  ·show (putAt (arrOf st) (sa + k) out.toList 0)[j]?=_
   rw [gt' j,if_neg (by lia)]
  ·intro i j x y a1 a2 a3 ex ey
   have ex':(putAt (arrOf st) (sa + k) out.toList 0)[i]?=some x:=ex
   have ey':(putAt (arrOf st) (sa + k) out.toList 0)[j]?=some y:=ey
   rcases cls i x ex' with ⟨q1,q2⟩ | ⟨q1,q2,q3⟩ | ⟨q1,q2⟩
   ·have xl1:=leA i x a1 q1 q2
    rcases cls j y ey' with ⟨r1,r2⟩ | ⟨r1,r2,r3⟩ | ⟨r1,r2⟩
    ·exact s1 i j x y a1 a2 (by lia) q2 r2
    ·rcases mO y (List.mem_of_getElem? r3) with ⟨l,l1,l2,l3⟩ | ⟨l,l1,l2,l3⟩
     ·exact s1 i l x y a1 (by lia) l2 q2 l3
     ·exact KeyOrd.kle_trans xl1 (s2 (sa + na) l xb y (by lia) l1 (by lia) eb l3)
    ·exact KeyOrd.kle_trans xl1 (s2 (sa + na) j xb y (by lia) (by lia) a3 eb r2)
   ·rcases cls j y ey' with ⟨r1,r2⟩ | ⟨r1,r2,r3⟩ | ⟨r1,r2⟩
    ·lia
    ·exact srd_list gd.1 (by lia) q3 r3
    ·rcases mO x (List.mem_of_getElem? q3) with ⟨l,l1,l2,l3⟩ | ⟨l,l1,l2,l3⟩
     ·exact KeyOrd.kle_trans (s1 l (sa + na - 1) x xl (by lia) (by lia) (by lia) l3 el) (geB j y r1 a3 r2)
     ·exact s2 l j x y l1 (by lia) a3 l3 r2
   ·rcases cls j y ey' with ⟨r1,r2⟩ | ⟨r1,r2,r3⟩ | ⟨r1,r2⟩
    ·lia
    ·lia
    ·exact s2 i j x y (by lia) a2 a3 q2 r2
 have fin2:∀ out g,Gd κ (X.toList++Y.toList) out→wpS (model prog w) A E s (do
    modify fun s=>setArr s (List.foldl (fun a x=>a.setIfInBounds (sa + k + x.snd) x.fst) (arrOf s) out.toList.zipIdx)
    let __do_lift ← get
    pure (failedOf __do_lift).isNone) Q (setGal (setPending st P) g):=by
  intro out g gd
  refine wpS_bind (wpS_modify (wpS_bind (wpS_get ?_)))
  have hf:failedOf st=none:=hs.2
  show wpS _ _ _ _ (pure (failedOf st).isNone) _ _
  rw [hf]
  exact wpS_pure (q _ (fin out g gd))
 by_cases c3:na - k≤k2
 ·rw [if_pos c3]
  exact wpS_bind (go_mergeLo C hs1 okX okY sX sY (by lia) (by lia) p1 p2 fin2)
 ·rw [if_neg c3]
  exact wpS_bind (go_mergeHi C hs1 okX okY sX sY (by lia) (by lia) p1 p2 fin2)
end
end L2
namespace L2
open PySem PySem.Spec PyProof.Rows
section
variable {O:KeyOrd} (κ:Keyed→O.α) (d:O.α) (lo:Nat)
noncomputable def fs (xs:Array Keyed) (i:Nat):O.α:=fk κ d xs (lo + i)
theorem fs_turn {xs:Array Keyed} {i j:Nat} (hj:lo + j≤xs.size) (k:Nat):fs κ d lo (mirror xs (lo + i) (lo + j) ((lo + j - (lo + i)) / 2)) k=if i≤k∧k < j then fs κ d lo xs (i + j - 1 - k) else fs κ d lo xs k:=by
 unfold fs
 rw [fk_turn κ d hj]
 by_cases c:i≤k∧k < j
 ·rw [if_pos (by lia),if_pos c,show lo + i + (lo + j) - 1 - (lo + k)=lo + (i + j - 1 - k) by lia]
 ·rw [if_neg (by lia),if_neg c]
theorem fs_flat {xs:Array Keyed} {i j:Nat} (hj:lo + j≤xs.size) (h:∀ k,i≤k→k < j→fs κ d lo xs k=fs κ d lo xs (j - 1)) (k:Nat):fs κ d lo (mirror xs (lo + i) (lo + j) ((lo + j - (lo + i)) / 2)) k=fs κ d lo xs k:=by
 rw [fs_turn κ d lo hj]
 split
 ·rename_i c
  rw [h _ (by lia) (by lia),← h k c.1 c.2]
 ·rfl
theorem fs_down {xs:Array Keyed} {x l:Nat} (ha:lo + x < xs.size) (hb:l≤x) (k:Nat):fs κ d lo (bubble xs (lo + x) (lo + x - (lo + l))) k=if k=l then fs κ d lo xs x else if l < k∧k≤x then fs κ d lo xs (k - 1) else fs κ d lo xs k:=by
 unfold fs
 rw [fk_down κ d ha (by lia),show lo + x - (lo + x - (lo + l))=lo + l by lia]
 by_cases c1:k=l
 ·rw [if_pos (by lia),if_pos c1]
 ·rw [if_neg (by lia),if_neg c1]
  by_cases c2:l < k∧k≤x
  ·rw [if_pos (by lia),if_pos c2,show lo + k - 1=lo + (k - 1) by lia]
  ·rw [if_neg (by lia),if_neg c2]
theorem turn_out {xs:Array Keyed} {i j k:Nat} (hj:lo + j≤xs.size) (h:k < lo):(mirror xs (lo + i) (lo + j) ((lo + j - (lo + i)) / 2))[k]?=xs[k]?:=by
 rw [getElem?_mirror_all hj,if_neg (by lia)]
theorem down_out {xs:Array Keyed} {x l k:Nat} (ha:lo + x < xs.size) (hb:l≤x) (h:k < lo):(bubble xs (lo + x) (lo + x - (lo + l)))[k]?=xs[k]?:=by
 rw [getElem?_bubble ha _ (by lia),if_neg (by lia),if_neg (by lia)]
variable {κ d lo}
theorem up_seg {xs:Array Keyed} {n:Nat} (h:Up (fs κ d lo xs) n):SegU κ xs lo (lo + n):=fun i j x y a b c ex ey=>by
 have:=h (i - lo) (j - lo) (by lia) (by lia)
 unfold fs fk at this
 rw [show lo + (i - lo)=i by lia,show lo + (j - lo)=j by lia,ex,ey] at this
 exact this
end
structure Rl (kd:SortKind) (lo:Nat) (st st':SortSt):Prop where
 sx:Sx kd st'
 perm:(arrOf st').Perm (arrOf st)
 pend:pendingOf st'=pendingOf st
 out:∀ k,k < lo→(arrOf st')[k]?=(arrOf st)[k]?
section
variable {prog:Program} {w:World} {A:Around} {E:Value→Shared→Prop} {s:Shared} {O:KeyOrd} {κ:Keyed→O.α} {ok:Keyed→Prop} {kd:SortKind} {d:O.α} {lo n:Nat} {st0:SortSt}
theorem Rl.refl {st:SortSt} (h:Sx kd st):Rl kd lo st st:=⟨h,Array.Perm.refl _,rfl,fun _ _=>rfl⟩
theorem Rl.put {st:SortSt} (h:Rl kd lo st0 st) {xs:Array Keyed} (p:xs.Perm (arrOf st)) (o:∀ k,k < lo→xs[k]?=(arrOf st)[k]?):Rl kd lo st0 (setArr st xs):=⟨h.sx,p.trans h.perm,h.pend,fun k hk=>(o k hk).trans (h.out k hk)⟩
structure Mkr (M:Model) (A:Around) (E:Value→Shared→Prop) (s:Shared) (κ:Keyed→O.α) (ok:Keyed→Prop) (kd:SortKind) (lo n:Nat) (st0:SortSt):Prop where
 C:Cm M A E s κ ok kd
 ok:∀ x∈arrOf st0,ok x
 sz:lo + n≤(arrOf st0).size
theorem Mkr.size (S:Mkr (model prog w) A E s κ ok kd lo n st0) {st:SortSt} (h:Rl kd lo st0 st):lo + n≤(arrOf st).size:=by rw [h.perm.size_eq]; exact S.sz
theorem Mkr.lt (S:Mkr (model prog w) A E s κ ok kd lo n st0) {st:SortSt} (h:Rl kd lo st0 st) {i j:Nat} {Q:Option Bool→SortSt→Prop} (hi:i < n) (hj:j < n) (q:Q (some (O.blt (fs κ d lo (arrOf st) i) (fs κ d lo (arrOf st) j))) st):wpS (model prog w) A E s (ltAt' (lo + i) (lo + j)) Q st:=by
 have z:=S.size h
 have ei:(arrOf st)[lo + i]?=some (arrOf st)[lo + i]:=Array.getElem?_eq_getElem (by lia)
 have ej:(arrOf st)[lo + j]?=some (arrOf st)[lo + j]:=Array.getElem?_eq_getElem (by lia)
 have oi:ok (arrOf st)[lo + i]:=S.ok _ (h.perm.mem_iff.mp (Array.getElem_mem (by lia)))
 have oj:ok (arrOf st)[lo + j]:=S.ok _ (h.perm.mem_iff.mp (Array.getElem_mem (by lia)))
 rw [ltAt'_eq]
 refine wpS_bind (wpS_get ?_)
 show wpS _ _ _ _ (do let x ← elem' (arrOf st) (lo + i); let y ← elem' (arrOf st) (lo + j); lt' x y) Q st
 refine wpS_bind (wpS_elem ei (wpS_bind (wpS_elem ej (S.C.lt h.sx.1 h.sx.2 oi oj ?_))))
 unfold fs fk at q
 rw [ei,ej] at q
 exact q
end
end L2
namespace L2
open PySem PySem.Spec PyProof.Rows
section
variable {prog:Program} {w:World} {A:Around} {E:Value→Shared→Prop} {s:Shared} {O:KeyOrd} {κ:Keyed→O.α} {ok:Keyed→Prop} {kd:SortKind} {lo n:Nat} {st0:SortSt} (d:O.α)
theorem Rl.turn {st:SortSt} (h:Rl kd lo st0 st) {i j:Nat} (hj:lo + j≤(arrOf st).size):Rl kd lo st0 (setArr st (mirror (arrOf st) (lo + i) (lo + j) ((lo + j - (lo + i)) / 2))):=h.put (mirror_perm _ _ _ _) fun k hk=>turn_out lo hj hk
theorem run_asc (S:Mkr (model prog w) A E s κ ok kd lo n st0) {st:SortSt} (hb:Rl kd lo st0 st) {a m:Nat} (h1:1≤a) (ham:a≤m) (hmn:m≤n) (up:Up (fs κ d lo (arrOf st)) a) {f:Nat→AscSt→StateT SortSt Sem (ForInStep AscSt)}
  (hf:∀ x k b (R:ForInStep AscSt→SortSt→Prop),(∀ T:Option Bool→SortSt→Prop,T (some b) st→wpS (model prog w) A E s (ltAt' (lo + k) (lo + k - 1)) T st)→R (if b then .done (none,k) else .yield (none,k + 1)) st→wpS (model prog w) A E s (f x (none,k)) R st) {Q:AscSt→SortSt→Prop}
  (q:∀ k,a≤k→k≤m→Up (fs κ d lo (arrOf st)) k→(k=m∨O.klt (fs κ d lo (arrOf st) k) (fs κ d lo (arrOf st) (k - 1)))→Q (none,k) st):wpS (model prog w) A E s (forIn [a:m] ((none,a):AscSt) f) Q st:=by
 refine wpS_forRange (fun x c st'=>st'=st∧c=(none,x)∧Up (fs κ d lo (arrOf st)) x) (fun x c st' hx hm hI=>?_) (fun c st' hI=>?_) ⟨rfl,rfl,up⟩
 ·obtain ⟨e1,e2,u⟩:=hI
  subst e1 e2
  refine hf x x (O.blt (fs κ d lo (arrOf st') x) (fs κ d lo (arrOf st') (x - 1))) _ (fun T hT=>?_) ?_
  ·rw [show lo + x - 1=lo + (x - 1) by lia]
   exact S.lt (d:=d) hb (show x < n by lia) (show x - 1 < n by lia) hT
  ·cases e:O.blt (fs κ d lo (arrOf st') x) (fs κ d lo (arrOf st') (x - 1)) with
   | true=>exact q x hx (by lia) u (.inr e)
   | false=>exact ⟨rfl,rfl,u.snoc e⟩
 ·obtain ⟨e1,e2,u⟩:=hI
  subst e1 e2
  rw [Nat.max_eq_right ham] at u ⊢
  exact q m ham (Nat.le_refl m) u (.inl rfl)
theorem run_desc (S:Mkr (model prog w) A E s κ ok kd lo n st0) {st:SortSt} (hb:Rl kd lo st0 st) {a m:Nat} (h1:1≤a) (ham:a≤m) (hmn:m≤n) (dn:Dn (fs κ d lo (arrOf st)) a) {f:Nat→DescSt→StateT SortSt Sem (ForInStep DescSt)}
  (hf:∀ x k e b1 b2 (st:SortSt) (R:ForInStep DescSt→SortSt→Prop),(∀ T:Option Bool→SortSt→Prop,T (some b1) st→wpS (model prog w) A E s (ltAt' (lo + k) (lo + k - 1)) T st)→(∀ T:Option Bool→SortSt→Prop,T (some b2) st→wpS (model prog w) A E s (ltAt' (lo + k - 1) (lo + k)) T st) →
   (b1=true→e > 0→R (.yield (none,k + 1,0)) (setArr st (mirror (arrOf st) (lo + k - (e + 1)) (lo + k) ((lo + k - (lo + k - (e + 1))) / 2))))→(b1=true→¬ e > 0→R (.yield (none,k + 1,0)) st)→(b1=false→b2=true→R (.done (none,k,e)) st)→(b1=false→b2=false→R (.yield (none,k + 1,e + 1)) st)→wpS (model prog w) A E s (f x (none,k,e)) R st) {Q:DescSt→SortSt→Prop}
  (q:∀ k e st',Rl kd lo st0 st'→a≤k→k≤m→Dn (fs κ d lo (arrOf st')) k→e + 1≤k→(∀ i,k - (e + 1)≤i→i < k→fs κ d lo (arrOf st') i=fs κ d lo (arrOf st') (k - 1))→Q (none,k,e) st'):wpS (model prog w) A E s (forIn [a:m] ((none,a,0):DescSt) f) Q st:=by
 have one:∀ (xs:Array Keyed) (x:Nat),1≤x→∀ i,x - (0 + 1)≤i→i < x→fs κ d lo xs i=fs κ d lo xs (x - 1):=fun xs x hx i c1 c2=>by rw [show i=x - 1 by lia]
 refine wpS_forRange (fun x c st'=>∃ e,c=(none,x,e)∧Rl kd lo st0 st'∧Dn (fs κ d lo (arrOf st')) x∧e + 1≤x∧∀ i,x - (e + 1)≤i→i < x→fs κ d lo (arrOf st') i=fs κ d lo (arrOf st') (x - 1)) (fun x c st' hx hm hI=>?_) (fun c st' hI=>?_) ⟨0,rfl,hb,dn,h1,one _ a h1⟩
 ·obtain ⟨e,rfl,b,u,le,fl⟩:=hI
  have z:lo + x≤(arrOf st').size:=by have:=S.size b; lia
  refine hf x x e (O.blt (fs κ d lo (arrOf st') x) (fs κ d lo (arrOf st') (x - 1))) (O.blt (fs κ d lo (arrOf st') (x - 1)) (fs κ d lo (arrOf st') x)) st' _ (fun T hT=>?_) (fun T hT=>?_) (fun e1 c=>?_) (fun e1 c=>?_) (fun e1 e2=>?_) (fun e1 e2=>?_)
  ·rw [show lo + x - 1=lo + (x - 1) by lia]
   exact S.lt (d:=d) b (show x < n by lia) (show x - 1 < n by lia) hT
  ·rw [show lo + x - 1=lo + (x - 1) by lia]
   exact S.lt (d:=d) b (show x - 1 < n by lia) (show x < n by lia) hT
  ·rw [show lo + x - (e + 1)=lo + (x - (e + 1)) by lia]
   exact ⟨0,rfl,b.turn z,(u.snoc (KeyOrd.kle_of_klt e1)).congr (fs_flat κ d lo z fl),by lia,one _ (x + 1) (by lia)⟩
  ·exact ⟨0,rfl,b,u.snoc (KeyOrd.kle_of_klt e1),by lia,one _ (x + 1) (by lia)⟩
  ·exact q x e st' b hx (by lia) u le fl
  ·have same:fs κ d lo (arrOf st') x=fs κ d lo (arrOf st') (x - 1):=KeyOrd.kle_antisymm e2 e1
   refine ⟨e + 1,rfl,b,u.snoc (by rw [same]; exact KeyOrd.kle_refl _),by lia,fun i c1 c2=>?_⟩
   rw [Nat.add_sub_cancel]
   rcases Nat.lt_or_ge i x with c3 | c3
   ·rw [same]; exact fl i (by lia) c3
   ·rw [show i=x by lia]
 ·obtain ⟨e,rfl,b,u,le,fl⟩:=hI
  rw [Nat.max_eq_right ham] at u le fl ⊢
  exact q m e st' b ham (Nat.le_refl m) u le fl
theorem turn_up {st:SortSt} {a:Nat} (z:lo + a≤(arrOf st).size) (dn:Dn (fs κ d lo (arrOf st)) a):Up (fs κ d lo (mirror (arrOf st) lo (lo + a) ((lo + a - lo) / 2))) a:=fun i j c1 c2=>by
 have t:=fs_turn κ d lo (i:=0) z
 rw [Nat.add_zero] at t
 rw [t,t,if_pos ⟨Nat.zero_le _,by lia⟩,if_pos ⟨Nat.zero_le _,c2⟩]
 exact dn _ _ (by lia) (by lia)
theorem run_count (S:Mkr (model prog w) A E s κ ok kd lo n st0) {st:SortSt} (hb:Rl kd lo st0 st) {m:Nat} (h1:1≤m) (hmn:m≤n) {Q:Option Nat→SortSt→Prop}
  (q:∀ k st',Rl kd lo st0 st'→1≤k→k≤m→Up (fs κ d lo (arrOf st')) k→Q (some k) st'):wpS (model prog w) A E s (countRun' lo m) Q st:=by
 rw [countRun'_eq]
 refine wpS_bind (run_asc d S hb (Nat.le_refl 1) h1 hmn (Up.one _) (fun x k b R hl hr=>by refine wpS_bind (hl _ ?_); dsimp only; cases b <;> exact wpS_pure hr) fun k0 k01 k02 u0 ends=>?_)
 have z:lo + k0≤(arrOf st).size:=by have:=S.size hb; lia
 dsimp only
 by_cases c:k0=m
 ·rw [if_pos (beq_iff_eq.mpr c)]
  exact wpS_pure (q k0 st hb k01 k02 u0)
 rw [if_neg (fun z=>c (beq_iff_eq.mp z))]
 have fall:=ends.resolve_left c
 by_cases c1:k0 > 1
 ·rw [if_pos c1,show lo + k0 - 1=lo + (k0 - 1) by lia]
  refine wpS_bind (S.lt (d:=d) (i:=0) hb (show 0 < n by lia) (show k0 - 1 < n by lia) ?_)
  dsimp only
  cases e:O.blt (fs κ d lo (arrOf st) 0) (fs κ d lo (arrOf st) (k0 - 1)) with
  | true=>rw [if_pos rfl]; exact wpS_pure (q k0 st hb k01 k02 u0)
  | false =>
   rw [if_neg Bool.false_ne_true]
   have flat:∀ i,0≤i→i < k0→fs κ d lo (arrOf st) i=fs κ d lo (arrOf st) (k0 - 1):=fun i _ ci =>
    KeyOrd.kle_antisymm (u0 i (k0 - 1) (by lia) (by lia)) (KeyOrd.kle_trans e (u0 0 i (Nat.zero_le _) ci))
   have dn:Dn (fs κ d lo (arrOf st)) (k0 + 1):=by
    refine Dn.snoc (fun i j a b=>?_) (KeyOrd.kle_of_klt fall)
    rw [flat i (Nat.zero_le _) (by lia),flat j (Nat.zero_le _) b]
    exact KeyOrd.kle_refl _
   refine wpS_bind (wpS_reverse ?_)
   refine wpS_bind (wpS_lift (wpAny_rule ⟨rfl,?_⟩))
   refine wpS_bind (run_desc d S (hb.turn (i:=0) z) (a:=k0 + 1) (by lia) (by lia) hmn (dn.congr (fs_flat κ d lo (i:=0) z flat)) (fun x k e b1 b2 st R l1 l2 r1 r2 r3 r4=>by
     refine wpS_bind (l1 _ ?_)
     dsimp only
     cases b1 with
     | true =>
      rw [if_pos rfl]
      by_cases c:e > 0
      ·rw [if_pos c]
       exact wpS_bind (wpS_reverse (wpS_pure (r1 rfl c)))
      ·rw [if_neg c]
       exact wpS_pure (r2 rfl c)
     | false =>
      rw [if_neg Bool.false_ne_true]
      refine wpS_bind (l2 _ ?_)
      dsimp only
      cases b2 with
      | true=>exact wpS_pure (r3 rfl rfl)
      | false=>exact wpS_pure (r4 rfl rfl)) fun k e st' b k1 k2 u le fl=>?_)
   have z:lo + k≤(arrOf st').size:=by have:=S.size b; lia
   dsimp only
   by_cases c:e > 0
   ·rw [if_pos c,show lo + k - (e + 1)=lo + (k - (e + 1)) by lia]
    refine wpS_bind (wpS_reverse ?_)
    have b':=b.turn (i:=k - (e + 1)) z
    have u':Dn (fs κ d lo (mirror (arrOf st') (lo + (k - (e + 1))) (lo + k) ((lo + k - (lo + (k - (e + 1)))) / 2))) k:=u.congr (fs_flat κ d lo z fl)
    have z:lo + k≤(arrOf (setArr st' (mirror (arrOf st') (lo + (k - (e + 1))) (lo + k) ((lo + k - (lo + (k - (e + 1)))) / 2)))).size:=by have:=S.size b'; lia
    refine wpS_bind (wpS_reverse ?_)
    have hb9:=Rl.turn (i:=0) (b') z
    refine wpS_bind (run_asc d S hb9 (by lia) k2 hmn (turn_up d z (u')) (fun x k b R hl hr=>by refine wpS_bind (hl _ ?_); dsimp only; cases b <;> exact wpS_pure hr) fun k9 k91 k92 u9 _=>?_)
    exact wpS_pure (q k9 _ hb9 (by lia) k92 u9)
   ·rw [if_neg c]
    refine wpS_bind (wpS_reverse ?_)
    have hb9:=Rl.turn (i:=0) (b) z
    refine wpS_bind (run_asc d S hb9 (by lia) k2 hmn (turn_up d z (u)) (fun x k b R hl hr=>by refine wpS_bind (hl _ ?_); dsimp only; cases b <;> exact wpS_pure hr) fun k9 k91 k92 u9 _=>?_)
    exact wpS_pure (q k9 _ hb9 (by lia) k92 u9)
 ·rw [if_neg c1]
  have e1:k0=1:=by lia
  subst e1
  refine wpS_bind (wpS_lift (wpAny_rule ⟨rfl,?_⟩))
  refine wpS_bind (run_desc d S (hb) (a:=1 + 1) (by lia) (by lia) hmn (Dn.snoc (Dn.one _) (KeyOrd.kle_of_klt fall)) (fun x k e b1 b2 st R l1 l2 r1 r2 r3 r4=>by
    refine wpS_bind (l1 _ ?_)
    dsimp only
    cases b1 with
    | true =>
     rw [if_pos rfl]
     by_cases c:e > 0
     ·rw [if_pos c]
      exact wpS_bind (wpS_reverse (wpS_pure (r1 rfl c)))
     ·rw [if_neg c]
      exact wpS_pure (r2 rfl c)
    | false =>
     rw [if_neg Bool.false_ne_true]
     refine wpS_bind (l2 _ ?_)
     dsimp only
     cases b2 with
     | true=>exact wpS_pure (r3 rfl rfl)
     | false=>exact wpS_pure (r4 rfl rfl)) fun k e st' b k1 k2 u le fl=>?_)
  have z:lo + k≤(arrOf st').size:=by have:=S.size b; lia
  dsimp only
  by_cases c:e > 0
  ·rw [if_pos c,show lo + k - (e + 1)=lo + (k - (e + 1)) by lia]
   refine wpS_bind (wpS_reverse ?_)
   have b':=b.turn (i:=k - (e + 1)) z
   have u':Dn (fs κ d lo (mirror (arrOf st') (lo + (k - (e + 1))) (lo + k) ((lo + k - (lo + (k - (e + 1)))) / 2))) k:=u.congr (fs_flat κ d lo z fl)
   have z:lo + k≤(arrOf (setArr st' (mirror (arrOf st') (lo + (k - (e + 1))) (lo + k) ((lo + k - (lo + (k - (e + 1)))) / 2)))).size:=by have:=S.size b'; lia
   refine wpS_bind (wpS_reverse ?_)
   have hb9:=Rl.turn (i:=0) (b') z
   refine wpS_bind (run_asc d S hb9 (by lia) k2 hmn (turn_up d z (u')) (fun x k b R hl hr=>by refine wpS_bind (hl _ ?_); dsimp only; cases b <;> exact wpS_pure hr) fun k9 k91 k92 u9 _=>?_)
   exact wpS_pure (q k9 _ hb9 (by lia) k92 u9)
  ·rw [if_neg c]
   refine wpS_bind (wpS_reverse ?_)
   have hb9:=Rl.turn (i:=0) (b) z
   refine wpS_bind (run_asc d S hb9 (by lia) k2 hmn (turn_up d z (u)) (fun x k b R hl hr=>by refine wpS_bind (hl _ ?_); dsimp only; cases b <;> exact wpS_pure hr) fun k9 k91 k92 u9 _=>?_)
   exact wpS_pure (q k9 _ hb9 (by lia) k92 u9)
theorem run_binary (S:Mkr (model prog w) A E s κ ok kd lo n st0) {st:SortSt} (hb:Rl kd lo st0 st) {a m:Nat} (ham:a≤m) (hmn:m≤n) (up:Up (fs κ d lo (arrOf st)) a) {Q:Bool→SortSt→Prop}
  (q:∀ st',Rl kd lo st0 st'→Up (fs κ d lo (arrOf st')) m→Q true st'):wpS (model prog w) A E s (binarySort' lo m a) Q st:=by
 rw [binarySort'_eq]
 refine wpS_bind (wpS_mono (wpS_forRange (fun x c st'=>c=(none,())∧Rl kd lo st0 st'∧Up (fs κ d lo (arrOf st')) (min x m)) (Q:=fun c st'=>c=(none,())∧Rl kd lo st0 st'∧Up (fs κ d lo (arrOf st')) m) (fun x c st' hx hxn hI=>?_) (fun c st' hI=>?_) ⟨rfl,hb,?_⟩) ?_)
 ·obtain ⟨rfl,b,u⟩:=hI
  rw [Nat.min_eq_left (by lia)] at u
  refine wpS_bind (wpS_mono (wpS_forRange (fun y c st2=>st2=st'∧∃ l r,c=(none,l,r)∧l≤r∧r≤x∧r - l≤x - y∧(∀ i,i < l→O.kle (fs κ d lo (arrOf st') i) (fs κ d lo (arrOf st') x))∧∀ i,r≤i→i < x→O.klt (fs κ d lo (arrOf st') x) (fs κ d lo (arrOf st') i))
   (Q:=fun c st2=>st2=st'∧∃ l r,c=(none,l,r)∧l≤x∧(∀ i,i < l→O.kle (fs κ d lo (arrOf st') i) (fs κ d lo (arrOf st') x))∧∀ i,l≤i→i < x→O.klt (fs κ d lo (arrOf st') x) (fs κ d lo (arrOf st') i))
   (fun y c st2 _ hy hJ=>?_) (fun c st2 hJ=>?_) ⟨rfl,0,x,rfl,Nat.zero_le _,Nat.le_refl _,Nat.le_refl _,(fun i hi=>absurd hi (Nat.not_lt_zero i)),fun i c1 c2=>absurd c2 (Nat.not_lt.mpr c1)⟩) ?_)
  ·obtain ⟨rfl,l,r,rfl,lr,rx,dist,lo',hi⟩:=hJ
   dsimp only
   by_cases c:l ≥ r
   ·rw [if_pos c]
    exact wpS_pure ⟨rfl,l,r,rfl,by lia,lo',fun i c1 c2=>hi i (by lia) c2⟩
   rw [if_neg c]
   refine wpS_bind (S.lt (d:=d) b (show x < n by lia) (show (l + r) / 2 < n by lia) ?_)
   dsimp only
   cases e:O.blt (fs κ d lo (arrOf st2) x) (fs κ d lo (arrOf st2) ((l + r) / 2)) with
   | true =>
    rw [if_pos rfl]
    exact wpS_pure ⟨rfl,l,(l + r) / 2,rfl,by lia,by lia,by lia,lo',fun i c1 c2=>KeyOrd.klt_of_klt_of_kle e (u _ _ c1 c2)⟩
   | false =>
    rw [if_neg Bool.false_ne_true]
    exact wpS_pure ⟨rfl,(l + r) / 2 + 1,r,rfl,by lia,rx,by lia,fun i ci=>KeyOrd.kle_trans (u i ((l + r) / 2) (by lia) (by lia)) e,hi⟩
  ·obtain ⟨rfl,l,r,rfl,lr,rx,dist,lo',hi⟩:=hJ
   exact ⟨rfl,l,r,rfl,by lia,lo',fun i c1 c2=>hi i (by lia) c2⟩
  ·rintro c st2 ⟨rfl,l,r,rfl,lx,lo',hi⟩
   have z:lo + x < (arrOf st2).size:=by have:=S.size b; lia
   show wpS _ _ _ _ (moveDown' (lo + x) (lo + l) >>= fun _=>pure (ForInStep.yield (none,()))) _ _
   rw [moveDown'_eq]
   refine wpS_bind (wpS_modify (wpS_pure ⟨rfl,b.put (bubble_perm _ _ _) (fun k hk=>down_out lo z lx hk),?_⟩))
   rw [Nat.min_eq_left (by lia)]
   intro i j c1 c2
   show O.kle (fs κ d lo (bubble (arrOf st2) (lo + x) (lo + x - (lo + l))) i) (fs κ d lo (bubble (arrOf st2) (lo + x) (lo + x - (lo + l))) j)
   rw [fs_down κ d lo z lx,fs_down κ d lo z lx]
   by_cases a1:i=l
   ·rw [if_pos a1]
    by_cases a2:j=l
    ·rw [if_pos a2]; exact KeyOrd.kle_refl _
    ·rw [if_neg a2,if_pos ⟨by lia,by lia⟩]; exact KeyOrd.kle_of_klt (hi _ (by lia) (by lia))
   ·rw [if_neg a1]
    by_cases a3:l < i∧i≤x
    ·rw [if_pos a3,if_neg (by lia),if_pos ⟨by lia,by lia⟩]
     exact u _ _ (by lia) (by lia)
    ·rw [if_neg a3]
     by_cases a2:j=l
     ·rw [if_pos a2]; exact lo' i (by lia)
     ·rw [if_neg a2]
      by_cases a4:l < j∧j≤x
      ·rw [if_pos a4]; exact u _ _ (by lia) (by lia)
      ·rw [if_neg a4]; exact u _ _ c1 (by lia)
 ·obtain ⟨rfl,b,u⟩:=hI
  rcases Nat.lt_or_ge m (max a 1) with c | c
  ·have:m=0:=by lia
   subst this
   exact ⟨rfl,b,fun i j _ h=>absurd h (Nat.not_lt_zero j)⟩
  ·rw [show min (max (max a 1) m) m=m by lia] at u
   exact ⟨rfl,b,u⟩
 ·intro i j c1 c2
  rcases Nat.lt_or_ge j a with c | c
  ·exact up i j c1 c
  ·have e:i=j:=by lia
   rw [e]; exact KeyOrd.kle_refl _
 ·rintro c st' ⟨rfl,b,u⟩
  exact wpS_pure (q st' b u)
end
end L2
namespace L2
open PySem PySem.Spec PyProof.Rows
section
variable {O:KeyOrd} {κ:Keyed→O.α}
noncomputable def Runs (κ:Keyed→O.α) (arr:Array Keyed):List (Nat×Nat×Nat)→Nat→Nat→Prop
 | [],b,e=>b=e
 | (s,n,_) :: r,b,e=>s=b∧1≤n∧SegU κ arr b (b + n)∧Runs κ arr r (b + n) e
theorem Runs.le {arr:Array Keyed}:∀ {l:List (Nat×Nat×Nat)} {b e:Nat},Runs κ arr l b e→b + l.length≤e
 | [],b,e,h=>by have:b=e:=h; simp; lia
 | (s,n,p) :: r,b,e,h=>by
  obtain ⟨_,h1,_,h2⟩:=h
  have:=Runs.le h2
  rw [List.length_cons]; lia
theorem Runs.same {arr arr':Array Keyed}:∀ {l:List (Nat×Nat×Nat)} {b e:Nat},Runs κ arr l b e→(∀ k,b≤k→k < e→arr'[k]?=arr[k]?)→Runs κ arr' l b e
 | [],b,e,h,_=>h
 | (s,n,p) :: r,b,e,h,hk=>by
  obtain ⟨h0,h1,h3,h2⟩:=h
  have:=h2.le
  exact ⟨h0,h1,h3.same fun k a c=>hk k a (by lia),Runs.same h2 fun k a c=>hk k (by lia) c⟩
theorem Runs.snoc {arr:Array Keyed} {n p:Nat}:∀ {l:List (Nat×Nat×Nat)} {b e:Nat},Runs κ arr l b e→1≤n→SegU κ arr e (e + n)→Runs κ arr (l++[(e,n,p)]) b (e + n)
 | [],b,e,h,h1,h2=>by
  have:b=e:=h
  subst this
  exact ⟨rfl,h1,h2,rfl⟩
 | (s,m,p) :: r,b,e,h,h1,h2=>⟨h.1,h.2.1,h.2.2.1,Runs.snoc h.2.2.2 h1 h2⟩
theorem Runs.modify {arr:Array Keyed} {f:Nat×Nat×Nat→Nat×Nat×Nat} (hf:∀ a b c,∃ c',f (a,b,c)=(a,b,c')):∀ {l:List (Nat×Nat×Nat)} {b e:Nat} (i:Nat),Runs κ arr l b e→Runs κ arr (l.modify i f) b e
 | [],b,e,i,h=>by rw [List.modify_nil]; exact h
 | (s,n,p) :: r,b,e,0,h=>by
  obtain ⟨c',e'⟩:=hf s n p
  show Runs κ arr (f (s,n,p) :: r) b e
  rw [e']; exact h
 | (s,n,p) :: r,b,e,i + 1,h=>by
  show Runs κ arr ((s,n,p) :: r.modify i f) b e
  exact ⟨h.1,h.2.1,h.2.2.1,Runs.modify hf i h.2.2.2⟩
theorem Runs.merge {arr:Array Keyed} {sa na pw sb nb pw2:Nat}:∀ {l:List (Nat×Nat×Nat)} {b e:Nat} (i:Nat),Runs κ arr l b e→l[i]?=some (sa,na,pw)→l[i + 1]?=some (sb,nb,pw2) →
  sb=sa + na∧1≤na∧1≤nb∧b≤sa∧sa + na + nb≤e∧SegU κ arr sa (sa + na)∧SegU κ arr (sa + na) (sa + na + nb) ∧
  ∀ arr':Array Keyed,(∀ k,(k < sa∨sa + na + nb≤k)→arr'[k]?=arr[k]?)→SegU κ arr' sa (sa + na + nb)→Runs κ arr' ((l.set i (sa,na + nb,pw)).eraseIdx (i + 1)) b e
 | [],b,e,i,h,e1,_=>by simp at e1
 | [x],b,e,0,h,e1,e2=>by simp at e2
 | (s,n,p) :: (s2,n2,p2) :: r,b,e,0,h,e1,e2=>by
  obtain ⟨rfl,h1,h2,rfl,h3,h4,h5⟩:=h
  simp at e1 e2
  obtain ⟨rfl,rfl,rfl⟩:=e1
  obtain ⟨rfl,rfl,rfl⟩:=e2
  have:=h5.le
  refine ⟨rfl,h1,h3,Nat.le_refl _,by lia,h2,h4,fun arr' ho hs=>?_⟩
  refine ⟨rfl,by lia,by rw [← Nat.add_assoc]; exact hs,?_⟩
  rw [← Nat.add_assoc]
  exact h5.same fun k a _=>ho k (.inr a)
 | (s,n,p) :: r,b,e,i + 1,h,e1,e2=>by
  obtain ⟨rfl,h1,h2,h3⟩:=h
  obtain ⟨q1,q2,q3,q4,q5,q6,q7,q8⟩:=Runs.merge i h3 (by simpa using e1) (by simpa using e2)
  refine ⟨q1,q2,q3,by lia,q5,q6,q7,fun arr' ho hs=>?_⟩
  exact ⟨rfl,h1,h2.same fun k a c=>ho k (.inl (by lia)),q8 arr' ho hs⟩
theorem pend_list (p:Array (Nat×Nat×Nat)) (i:Nat) (x:Nat×Nat×Nat) (h:i + 1 < p.size):((p.setIfInBounds i x).eraseIdxIfInBounds (i + 1)).toList=(p.toList.set i x).eraseIdx (i + 1):=by
 unfold Array.eraseIdxIfInBounds
 rw [dif_pos (by rw [Array.size_setIfInBounds]; exact h),Array.toList_eraseIdx,Array.toList_setIfInBounds]
end
section
variable {prog:Program} {w:World} {A:Around} {E:Value→Shared→Prop} {s:Shared} {O:KeyOrd} {κ:Keyed→O.α} {ok:Keyed→Prop} {kd:SortKind} {a0:Array Keyed}
structure Pnd (κ:Keyed→O.α) (kd:SortKind) (a0:Array Keyed) (lo:Nat) (st:SortSt):Prop where
 sx:Sx kd st
 perm:(arrOf st).Perm a0
 runs:Runs κ (arrOf st) (pendingOf st).toList 0 lo
 le:lo≤a0.size
theorem Pnd.size {lo:Nat} {st:SortSt} (h:Pnd κ kd a0 lo st):(arrOf st).size=a0.size:=h.perm.size_eq
theorem Pnd.oks {lo:Nat} {st:SortSt} (h:Pnd κ kd a0 lo st) (h0:∀ x∈a0,ok x):∀ x∈arrOf st,ok x:=fun x hx=>h0 x (h.perm.mem_iff.mp hx)
theorem go_merge (C:Cm (model prog w) A E s κ ok kd) (h0:∀ x∈a0,ok x) {st:SortSt} {lo i:Nat} (h:Pnd κ kd a0 lo st) (hi:i + 1 < (pendingOf st).size) {Q:Bool→SortSt→Prop} (q:∀ st',Pnd κ kd a0 lo st'→(pendingOf st').size + 1=(pendingOf st).size→(∀ k,lo≤k→(arrOf st')[k]?=(arrOf st)[k]?)→Q true st'):wpS (model prog w) A E s (mergeAt' i) Q st:=by
 obtain ⟨sa,na,pw,e1⟩:∃ a b c,(pendingOf st)[i]?=some (a,b,c):=⟨_,_,_,Array.getElem?_eq_getElem (by lia)⟩
 obtain ⟨sb,nb,pw2,e2⟩:∃ a b c,(pendingOf st)[i + 1]?=some (a,b,c):=⟨_,_,_,Array.getElem?_eq_getElem hi⟩
 obtain ⟨rfl,q2,q3,q4,q5,q6,q7,q8⟩:=h.runs.merge i (by rw [Array.getElem?_toList]; exact e1) (by rw [Array.getElem?_toList]; exact e2)
 refine go_mergeAt C h.sx (h.oks h0) e1 e2 q2 q3 (by have:=h.size; have:=h.le; lia) q6 q7 fun st' m=>q st' ⟨m.sx,(Array.perm_iff_toList_perm.mpr m.perm).trans h.perm,?_,h.le⟩ ?_ (fun k hk=>m.out k (.inr (by lia)))
 ·rw [m.pend,pend_list _ _ _ hi]
  exact q8 _ m.out m.seg
 ·rw [m.pend]
  have l:=congrArg List.length (pend_list (pendingOf st) i (sa,na + nb,pw) hi)
  rw [Array.length_toList,List.length_eraseIdx,List.length_set,Array.length_toList,if_pos hi] at l
  lia
theorem Pnd.push {lo n:Nat} {st:SortSt} (h:Pnd κ kd a0 lo st) (h1:1≤n) (sg:SegU κ (arrOf st) lo (lo + n)) (hz:lo + n≤a0.size):Pnd κ kd a0 (lo + n) (setPending st ((pendingOf st).push (lo,n,0))) :=
 ⟨h.sx,h.perm,by show Runs κ (arrOf st) ((pendingOf st).push (lo,n,0)).toList 0 (lo + n); rw [Array.toList_push]; exact h.runs.snoc h1 sg,hz⟩
theorem Pnd.mod {lo:Nat} {st:SortSt} (h:Pnd κ kd a0 lo st) {f:Nat×Nat×Nat→Nat×Nat×Nat} (i:Nat) (hf:∀ a b c,∃ c',f (a,b,c)=(a,b,c')):Pnd κ kd a0 lo (setPending st ((pendingOf st).modify i f)) :=
 ⟨h.sx,h.perm,by show Runs κ (arrOf st) ((pendingOf st).modify i f).toList 0 lo; rw [Array.toList_modify]; exact h.runs.modify hf i,h.le⟩
theorem Pnd.rl {lo:Nat} {st st':SortSt} (h:Pnd κ kd a0 lo st) (r:Rl kd lo st st'):Pnd κ kd a0 lo st' :=
 ⟨r.sx,r.perm.trans h.perm,by rw [r.pend]; exact h.runs.same fun k _ c=>r.out k c,h.le⟩
theorem go_sortRuns (d:O.α) (C:Cm (model prog w) A E s κ ok kd) (h0:∀ x∈a0,ok x) {st:SortSt} (h:Pnd κ kd a0 0 st) {Q:Unit→SortSt→Prop}
  (q:∀ st',Sx kd st'→(arrOf st').Perm a0→SegU κ (arrOf st') 0 a0.size→Q () st'):wpS (model prog w) A E s sortRuns' Q st:=by
 rw [sortRuns'_eq]
 refine wpS_bind (wpS_get ?_)
 dsimp only
 have hsz:(arrOf st).size=a0.size:=h.size
 rw [hsz]
 generalize minRun' a0.size a0.size 0=mr
 refine wpS_bind (wpS_mono (wpS_forRange (fun x c st'=>∃ lo,c=(none,lo)∧Pnd κ kd a0 lo st'∧(x≤lo∨a0.size≤lo)) (Q:=fun c st'=>c=(none,a0.size)∧Pnd κ kd a0 a0.size st') ?step ?fin ⟨0,rfl,h,.inl (Nat.le_refl _)⟩) ?post)
 case fin =>
  rintro c st' ⟨lo,rfl,P,hp⟩
  have e:lo=a0.size:=by have:=P.le; lia
  subst e
  exact ⟨rfl,P⟩
 case step =>
  rintro x c st' _ hx ⟨lo,rfl,P,hp⟩
  dsimp only
  by_cases c1:lo ≥ a0.size
  ·rw [if_pos c1]
   have e:lo=a0.size:=by have:=P.le; lia
   subst e
   exact wpS_pure ⟨rfl,P⟩
  rw [if_neg c1]
  have S:Mkr (model prog w) A E s κ ok kd lo (a0.size - lo) st':=⟨C,P.oks h0,by rw [P.size]; lia⟩
  refine wpS_bind (run_count d S (Rl.refl P.sx) (by lia) (Nat.le_refl _) fun k st1 R1 k1 k2 u1=>?_)
  dsimp only
  by_cases c2:k < mr
  ·rw [if_pos c2]
   refine wpS_bind (wpS_lift (wpAny_rule ⟨rfl,?_⟩))
   refine wpS_bind (run_binary d S R1 (m:=min (a0.size - lo) mr) (by lia) (by lia) u1 fun st2 R2 u2=>?_)
   rw [if_neg (by simp)]
   have P2:=P.rl R2
   have sg:=up_seg u2
   refine wpS_bind (wpS_get ?_)
   cases eb:(pendingOf st2).back? with
   | none =>
    dsimp only
    exact wpS_bind (wpS_modify (wpS_pure ⟨_,rfl,P2.push (by lia) sg (by lia),by lia⟩))
   | some r =>
    obtain ⟨s1,n1,p1⟩:=r
    dsimp only
    refine wpS_bind (wpS_mono (wpS_forRange (fun _ c st'=>c=(none,())∧Pnd κ kd a0 lo st'∧SegU κ (arrOf st') lo (lo + min (a0.size - lo) mr)) (Q:=fun c st'=>c=(none,())∧Pnd κ kd a0 lo st'∧SegU κ (arrOf st') lo (lo + min (a0.size - lo) mr)) (fun y c st' _ _ hI=>?_) (fun c st' hI=>hI) ⟨rfl,P2,sg⟩) ?_)
    ·obtain ⟨rfl,P3,sg3⟩:=hI
     refine wpS_bind (wpS_get ?_)
     by_cases c5:(pendingOf st').size > 1
     ·obtain ⟨u1,u2,u3,eu⟩:∃ a b c,(pendingOf st')[(pendingOf st').size - 2]?=some (a,b,c):=⟨_,_,_,Array.getElem?_eq_getElem (by lia)⟩
      rw [if_pos c5,eu]
      dsimp only
      split
      ·exact wpS_pure ⟨rfl,P3,sg3⟩
      ·refine wpS_bind (go_merge C h0 P3 (by lia) fun st4 P4 _ o4=>?_)
       rw [if_neg (by simp)]
       exact wpS_pure ⟨rfl,P4,sg3.same fun k a c=>o4 k a⟩
     ·rw [if_neg c5]
      exact wpS_pure ⟨rfl,P3,sg3⟩
    ·rintro c st' ⟨rfl,P3,sg3⟩
     dsimp only
     refine wpS_bind (wpS_modify (wpS_bind (wpS_modify (wpS_pure ⟨_,rfl,(P3.mod (f:=fun x=>(x.fst,x.2.fst,_)) _ (fun a b c=>⟨_,rfl⟩)).push (by lia) sg3 (by lia),by lia⟩))))
  ·rw [if_neg c2]
   have P2:=P.rl R1
   have sg:=up_seg u1
   refine wpS_bind (wpS_get ?_)
   cases eb:(pendingOf st1).back? with
   | none =>
    dsimp only
    exact wpS_bind (wpS_modify (wpS_pure ⟨_,rfl,P2.push (by lia) sg (by lia),by lia⟩))
   | some r =>
    obtain ⟨s1,n1,p1⟩:=r
    dsimp only
    refine wpS_bind (wpS_mono (wpS_forRange (fun _ c st'=>c=(none,())∧Pnd κ kd a0 lo st'∧SegU κ (arrOf st') lo (lo + k)) (Q:=fun c st'=>c=(none,())∧Pnd κ kd a0 lo st'∧SegU κ (arrOf st') lo (lo + k)) (fun y c st' _ _ hI=>?_) (fun c st' hI=>hI) ⟨rfl,P2,sg⟩) ?_)
    ·obtain ⟨rfl,P3,sg3⟩:=hI
     refine wpS_bind (wpS_get ?_)
     by_cases c5:(pendingOf st').size > 1
     ·obtain ⟨u1,u2,u3,eu⟩:∃ a b c,(pendingOf st')[(pendingOf st').size - 2]?=some (a,b,c):=⟨_,_,_,Array.getElem?_eq_getElem (by lia)⟩
      rw [if_pos c5,eu]
      dsimp only
      split
      ·exact wpS_pure ⟨rfl,P3,sg3⟩
      ·refine wpS_bind (go_merge C h0 P3 (by lia) fun st4 P4 _ o4=>?_)
       rw [if_neg (by simp)]
       exact wpS_pure ⟨rfl,P4,sg3.same fun k a c=>o4 k a⟩
     ·rw [if_neg c5]
      exact wpS_pure ⟨rfl,P3,sg3⟩
    ·rintro c st' ⟨rfl,P3,sg3⟩
     dsimp only
     refine wpS_bind (wpS_modify (wpS_bind (wpS_modify (wpS_pure ⟨_,rfl,(P3.mod (f:=fun x=>(x.fst,x.2.fst,_)) _ (fun a b c=>⟨_,rfl⟩)).push (by lia) sg3 (by lia),by lia⟩))))
 case post =>
  rintro c st' ⟨rfl,P⟩
  dsimp only
  refine wpS_bind (wpS_mono (wpS_forRange (fun x c st''=>c=(none,())∧Pnd κ kd a0 a0.size st''∧((pendingOf st'').size≤1∨(pendingOf st'').size + x≤a0.size)) (Q:=fun c st''=>c=(none,())∧Pnd κ kd a0 a0.size st''∧(pendingOf st'').size≤1) ?step2 ?fin2 ⟨rfl,P,.inr (by have:=P.runs.le; rw [Array.length_toList] at this; lia)⟩) ?post2)
  case fin2 =>
   rintro c st'' ⟨rfl,P2,hz⟩
   exact ⟨rfl,P2,by lia⟩
  case step2 =>
   rintro x c st'' _ hx ⟨rfl,P2,hz⟩
   refine wpS_bind (wpS_get ?_)
   by_cases c1:(pendingOf st'').size≤1
   ·rw [if_pos c1]
    exact wpS_pure ⟨rfl,P2,c1⟩
   rw [if_neg c1]
   refine wpS_bind (go_merge C h0 P2 (by split <;> first | lia | (split <;> lia)) fun st4 P4 z4 _=>?_)
   rw [if_neg (by simp)]
   exact wpS_pure ⟨rfl,P4,by lia⟩
  case post2 =>
   rintro c st'' ⟨rfl,P2,hz⟩
   dsimp only
   refine wpS_pure (q st'' P2.sx P2.perm ?_)
   have r:=P2.runs
   have l:(pendingOf st'').toList.length≤1:=by rw [Array.length_toList]; exact hz
   generalize (pendingOf st'').toList=pl at r l
   match pl,r,l with
   | [],r,_ =>
    have e:0=a0.size:=r
    rw [← e]
    exact fun i j x y _ _ c=>absurd c (Nat.not_lt_zero j)
   | [(s1,n1,p1)],r,_ =>
    obtain ⟨_,_,r3,r4⟩:=r
    have e:0 + n1=a0.size:=r4
    rw [← e]; exact r3
   | _ :: _ :: _,_,l=>simp at l
end
end L2
namespace L2
open PySem PySem.Spec PyProof.Rows
noncomputable def intO:KeyOrd where
 α:=Int
 blt a b:=decide (a < b)
 irrefl a:=by simp
 trans a b c h1 h2:=by
  have:=of_decide_eq_true h1
  have:=of_decide_eq_true h2
  exact decide_eq_true (by lia)
 negTrans a b c h:=by
  have:=of_decide_eq_true h
  by_cases c1:a < b
  ·exact .inl (decide_eq_true c1)
  ·exact .inr (decide_eq_true (by lia))
 total a b h1 h2:=by
  have:=of_decide_eq_false h1
  have:=of_decide_eq_false h2
  lia
noncomputable def intK (p:Keyed):intO.α:=numOf p.1
noncomputable def intOk (p:Keyed):Prop:=∃ n t,p.1=Value.int n t
section
variable {prog:Program} {w:World} {A:Around} {E:Value→Shared→Prop} {s:Shared}
theorem int_cm:Cm (model prog w) A E s intK intOk oneType':=⟨fun {st x y Q} hk hf ⟨a,t,hx⟩ ⟨b,u,hy⟩ q=>by
 obtain ⟨x1,x2⟩:=x
 obtain ⟨y1,y2⟩:=y
 simp only at hx hy
 subst hx hy
 rw [lt'_eq]
 refine wpS_bind (wpS_get ?_)
 rw [hk,keyLt'_oneType]
 refine wpS_bind (wpS_lift (wpAny_attempt (oneLt_int ⟨rfl,?_⟩)))
 exact wpS_pure q⟩
theorem seg_sorted {xs:Array Keyed} {n:Nat} (hn:n=xs.size) (h:SegU intK xs 0 n):SortedTo xs n:=fun i j hij hj=>by
 subst hn
 have e1:xs[i]?=some xs[i]:=Array.getElem?_eq_getElem (by lia)
 have e2:xs[j]?=some xs[j]:=Array.getElem?_eq_getElem hj
 have:=h i j _ _ (Nat.zero_le _) hij hj e1 e2
 have h2:¬ (numOf xs[j].1 < numOf xs[i].1):=of_decide_eq_false this
 unfold K
 rw [e1,e2]
 show numOf xs[i].1≤numOf xs[j].1
 lia
theorem sort_ints {a:Addr} {vs:List Value} {ns:List Int} {n:Nat} {P:Fin→Shared→Prop} (ho:s.heap.get? a=some (seqObj "list" vs.toArray n)) (hI:IntsAre vs ns) (hz:vs.length≤1000000)
  (h:∀ (out:Array Value) (ns':List Int),IntsAre out.toList ns'→ns'.Perm ns→ns'.Pairwise (·≤·)→P (.done (.ret .none)) { s with heap:=sortedHeap s.heap a vs out }) :
  wpAny (model prog w) A (Builtin.«list.sort» ⟨[.ref a],[]⟩) P E s:=by
 by_cases h64:vs.length < 64
 ·exact list_sort_tree ho hI h64 h
 have szl:=sizeLine_eq
 have hsz:vs.toArray.size=vs.length:=by simp
 rw [list_sort_plain]
 have ha:a < s.heap.objs.size:=Heap.lt_size ho
 refine wpAny_bind (listItems_at ho rfl (wpAny_bind (listUpdate_at ho rfl ?_ (by rw [hsz]; lia))))
 have ho1:=get?_update_seq ho (fun _=>#[])
 generalize (if (#[]:Array Value).size == vs.toArray.size then n else n + 1)=e1 at ho1
 refine wpAny_bind (seqEpoch_at ho1 rfl (wpAny_bind (wpAny_newTuple (wpAny_bind (wpAny_newList (wpAny_holding ?_))) (by show vs.length≤sizeLine; lia))))
 have ho6:(((s.heap.update a (Obj.mapSeq fun _=>#[])).push (seqObj "tuple" vs.toArray 0)).push (seqObj "list" #[] 0)).get? a=some (seqObj "list" #[] e1):=by
  have z:a < (s.heap.update a (Obj.mapSeq fun _=>#[])).objs.size:=by rw [Heap.size_update]; exact ha
  rw [Heap.get?_push_of_some _ (Heap.get?_push_of_some _ ho1)]
 show wpAny (model prog w) A _ P E { s with heap:=((s.heap.update a (Obj.mapSeq fun _=>#[])).push (seqObj "tuple" vs.toArray 0)).push (seqObj "list" #[] 0) }
 dsimp only
 have h2:¬ vs.toArray.size < 2:=by rw [hsz]; lia
 rw [if_neg h2,if_neg h2]
 obtain ⟨v1,v2,rest,rfl⟩:∃ v1 v2 rest,vs=v1 :: v2 :: rest:=by
  match vs,h64 with
  | [],h=>simp at h
  | [_],h=>simp at h
  | v1 :: v2 :: rest,_=>exact ⟨v1,v2,rest,rfl⟩
 rw [keyKind_ints hI]
 refine wpAny_bind (wpAny_pure ?_)
 refine wpAny_bind (wpAny_mono (go_sortRuns (0:Int) int_cm (a0:=pairsOf (v1 :: v2 :: rest)) (st:=SortSt.mk' oneType' ((v1 :: v2 :: rest).toArray.zip (v1 :: v2 :: rest).toArray) #[] 7 none)
  (Q:=fun _ st'=>Sx oneType' st'∧(arrOf st').Perm (pairsOf (v1 :: v2 :: rest))∧SegU intK (arrOf st') 0 (pairsOf (v1 :: v2 :: rest)).size)
  (fun x hx=>hI.intKeys x (by simpa using hx)) ⟨⟨rfl,rfl⟩,Array.Perm.refl _,rfl,Nat.zero_le _⟩ fun st' a1 a2 a3=>⟨a1,a2,a3⟩) ?_ fun _ _ e=>e)
 rintro ⟨⟨⟩,st'⟩ s' ⟨rfl,hx,hp,hs⟩
 dsimp only
 refine wpAny_bind (seqEpoch_at ho6 rfl (wpAny_bind (listUpdate_at ho6 rfl ?_ (Nat.zero_le _) (by rw [Array.size_map,hp.size_eq,pairsOf_size]; lia))))
 obtain ⟨ns',g1,g2,g3⟩:=sorted_out hI hp (seg_sorted hp.size_eq.symm hs)
 rw [hx.2]
 simp only [bne_self_eq_false,Bool.false_eq_true,if_false]
 exact wpAny_pure (h _ ns' g1 g2 g3)
end
end L2
namespace L2
open PySem PySem.Spec PyProof.Rows
theorem size_go:∀ (fuel size n:Nat),size≤SetTable.sizeAbove.go n fuel size
 | 0,size,n=>by unfold SetTable.sizeAbove.go; exact Nat.le_refl _
 | fuel + 1,size,n=>by
  unfold SetTable.sizeAbove.go
  split
  ·have:=size_go fuel (size * 2) n; lia
  ·exact Nat.le_refl _
theorem size_above (n:Nat):8≤SetTable.sizeAbove n:=size_go 64 8 n
theorem rising_list {l:List Nat} (h:l.Pairwise (· < ·)):Rising l.toArray:=by
 intro i j hij hj
 have hj':j < l.length:=by simpa using hj
 have:=List.pairwise_iff_getElem.mp h i j (by lia) hj' hij
 simp only [Array.getD_eq_getD_getElem?,List.getElem?_toArray]
 rw [List.getElem?_eq_getElem (show i < l.length by lia),List.getElem?_eq_getElem hj']
 exact this
theorem live_rise {α:Type} (f:Nat→Option α):∀ {l:List Nat},l.Pairwise (· < ·)→((l.filterMap fun j=>(f j).map (j,·)).map (·.1)).Pairwise (· < ·)
 | [],_=>List.Pairwise.nil
 | x :: r,h=>by
  obtain ⟨h1,h2⟩:=List.pairwise_cons.mp h
  rw [List.filterMap_cons]
  cases f x with
  | none=>exact live_rise f h2
  | some y =>
   dsimp only [Option.map]
   rw [List.map_cons]
   refine List.pairwise_cons.mpr ⟨fun z hz=>?_,live_rise f h2⟩
   obtain ⟨p,hp,rfl⟩:=List.mem_map.mp hz
   obtain ⟨j,hj,e⟩:=List.mem_filterMap.mp hp
   cases hf:f j with
   | none=>rw [hf] at e; cases e
   | some u=>rw [hf] at e; cases e; exact h1 j hj
theorem relaid_ok {t t':SetTable} {hs:Array Int} {n:Nat} {ord:Array Nat} (e:t.relaid hs n=some (t',ord)):TabOk t'∧t'.led=t.led:=by
 unfold SetTable.relaid SetTable.laid at e
 have h8:=size_above n
 cases c:SetTable.layClean (SetTable.sizeAbove n - 1) hs with
 | none=>rw [c] at e; cases e
 | some owner =>
  rw [c] at e
  cases e
  refine ⟨⟨rfl,rising_list (live_rise _ ?_),by show 7≤SetTable.sizeAbove n - 1; lia⟩,rfl⟩
  exact List.pairwise_lt_range
theorem relayAll_ok {t:SetTable} {es:Array (Int×Value)} (h1:1≤es.size) (n:Nat):TabOk (relayAll t es n).2.1∧(relayAll t es n).2.1.led=t.led:=by
 unfold relayAll
 split
 ·rename_i t' ord e
  dsimp only
  split
  ·exact relaid_ok e
  ·exact ⟨standIn_ok h1,rfl⟩
 ·exact ⟨standIn_ok h1,rfl⟩
noncomputable def SetG (prog:Program) (w:World) (h:Heap) (a:Addr) (ks:List Int):Prop :=
 ∃ o es ep t,h.get? a=some o∧o.ExactSet∧o.data=.set es ep t∧ElemsOf (intKind prog w) es.toList∧(∃ ms:List Int,Vals (ms.map V.int) (es.toList.map (·.2))∧ms.Perm ks)∧ks.Nodup∧es.size < scanBound∧t.fits es.size=true∧TabOk t∧t.led=!byT w
section
variable {prog:Program} {w:World} {A:Around} {E:Value→Shared→Prop} {s:Shared}
theorem vals_in:∀ {ms:List Int} {vs:List Value} {k:Int},Vals (ms.map V.int) vs→(k∈ms↔∃ tk,Value.int k tk∈vs)
 | [],_,k,h=>by cases h; simp
 | m :: r,_,k,h=>by
  cases h with
  | @cons _ u _ us a b =>
   obtain ⟨t,rfl⟩:=a
   rw [List.mem_cons,vals_in b]
   constructor
   ·rintro (rfl | ⟨tk,h⟩)
    ·exact ⟨t,List.mem_cons_self ..⟩
    ·exact ⟨tk,List.mem_cons_of_mem _ h⟩
   ·rintro ⟨tk,h⟩
    rcases List.mem_cons.mp h with h | h
    ·cases h; exact .inl rfl
    ·exact .inr ⟨tk,h⟩
theorem vals_append {a b:List V} {u v:List Value}:Vals a u→Vals b v→Vals (a++b) (u++v)
 | .nil,h=>h
 | .cons x r,h=>.cons x (vals_append r h)
theorem vals_perm {us vs:List Value} (p:us.Perm vs):∀ {ms:List Int},Vals (ms.map V.int) vs→∃ ns:List Int,Vals (ns.map V.int) us∧ns.Perm ms:=by
 induction p with
 | nil=>intro ms h; exact ⟨ms,h,List.Perm.refl _⟩
 | cons x _ ih =>
  intro ms h
  match ms,h with
  | [],h=>cases h
  | m :: r,.cons a b =>
   obtain ⟨ns,h1,h2⟩:=ih b
   exact ⟨m :: ns,.cons a h1,h2.cons m⟩
 | swap x y l =>
  intro ms h
  match ms,h with
  | [],h=>cases h
  | [m],h=>cases h with | cons a b=>cases b
  | m :: m2 :: r,.cons a (.cons b c)=>exact ⟨m2 :: m :: r,.cons b (.cons a c),List.Perm.swap m m2 r⟩
 | trans _ _ ih1 ih2 =>
  intro ms h
  obtain ⟨ns,h1,h2⟩:=ih2 h
  obtain ⟨ns',h3,h4⟩:=ih1 h1
  exact ⟨ns',h3,h4.trans h2⟩
theorem is_int {k:Int} {v:Value}:(intKind prog w).is k v=true↔∃ tk,v=.int k tk:=by
 constructor
 ·intro h
  cases v with
  | int m t =>
   have:=(intKind prog w).inj (.int m t) k m h (intKind_is _ _ _ _)
   exact ⟨t,by rw [this]⟩
  | _=>exact absurd h (by simp [intKind,Value.isInt])
 ·rintro ⟨tk,rfl⟩; exact intKind_is _ _ _ _
end
end L2
namespace L2
open PySem PySem.Spec PyProof.Rows
section
variable {prog:Program} {w:World} {A:Around} {E:Value→Shared→Prop} {s:Shared}
theorem SetG.keep {h h':Heap} {a:Addr} {ks:List Int} (x:SetG prog w h a ks) (k:∀ o,h.get? a=some o→h'.get? a=some o):SetG prog w h' a ks:=by
 obtain ⟨o,es,ep,t,ho,rest⟩:=x
 exact ⟨o,es,ep,t,k o ho,rest⟩
theorem SetG.len {h:Heap} {a:Addr} {ks:List Int} (x:SetG prog w h a ks):ks.length < 4096:=by
 obtain ⟨o,es,ep,t,ho,hex,hd,hel,⟨ms,hv,hp⟩,nd,hb,rest⟩:=x
 have l1:=hv.length
 simp only [List.length_map,Array.length_toList] at l1
 have l2:=hp.length_eq
 have:scanBound=4096:=rfl
 lia
noncomputable def addK (ks:List Int) (k:Int):List Int:=if k∈ks then ks else ks++[k]
theorem addK_nodup {ks:List Int} {k:Int} (h:ks.Nodup):(addK ks k).Nodup:=by
 unfold addK
 split
 ·exact h
 ·rename_i c
  exact List.nodup_append.mpr ⟨h,by simp,fun a ha b hb=>by rw [List.mem_singleton.mp hb]; exact fun z=>c (z ▸ ha)⟩
theorem mem_addK {ks:List Int} {k m:Int}:m∈addK ks k↔m∈ks∨m=k:=by
 unfold addK
 split
 ·rename_i c
  exact ⟨.inl,fun h=>h.elim id fun z=>z ▸ c⟩
 ·rw [List.mem_append,List.mem_singleton]
theorem store_G {g:Bool→Sem Unit} (hg:∀ (b:Bool) (s₁:Shared) (Q':Unit→Shared→Prop),Q' () s₁→wpAny (model prog w) A (g b) Q' E s₁) {a:Addr} {o:Obj} {es:Array (Int×Value)} {ep:Nat} {t:SetTable} (ho:s.heap.get? a=some o) (hd:o.data=.set es ep t) {es1:Array (Int×Value)} {t2:SetTable} (hz:es1.size < scanBound) (h1:1≤es1.size) (hf2:t2.fits es1.size=true) (ok:TabOk t2) {wasDummy:Bool}
  {R:Option Bool→Shared→Prop} (h:∀ (h':Heap) (es3:Array (Int×Value)) (t3:SetTable) (ep3:Nat),Heap.SameBut a s.heap h'→h'.get? a=some { o with data:=.set es3 ep3 t3 }→es3.toList.Perm es1.toList→t3.fits es3.size=true→TabOk t3→t3.led=t2.led→R (some true) { s with heap:=h' }) :
  wpAny (model prog w) A (do
   storeSet a es1 t2
   if (!wasDummy && t2.tooFull)=true then do
    g (relayAll t2 es1 (SetTable.grown es1.size)).2.2
    storeSet a (relayAll t2 es1 (SetTable.grown es1.size)).1 (relayAll t2 es1 (SetTable.grown es1.size)).2.1
    pure (some true)
   else pure (some true)) R E s:=by
 have sl:=sizeLine_eq
 have sb:scanBound=4096:=rfl
 refine wpAny_bind (wpAny_storeSet_of ho hd ?_ (by lia))
 have hg1:(s.heap.update a (Obj.putSet es1 t2)).get? a=some { o with data:=.set es1 (ep + 1) t2 }:=by
  have:=Heap.get?_update_self (Obj.putSet es1 t2) ho (by rw [putSet_of es1 t2 hd]; rfl)
  rw [putSet_of es1 t2 hd] at this
  exact this
 split
 ·have pm:=relayAll_perm t2 es1 (SetTable.grown es1.size)
  have ft:=relayAll_fits t2 es1 (SetTable.grown es1.size)
  obtain ⟨ok2,led2⟩:=relayAll_ok (t:=t2) h1 (SetTable.grown es1.size)
  generalize relayAll t2 es1 (SetTable.grown es1.size)=Rl at pm ft ok2 led2 ⊢
  obtain ⟨es2,t3,gave2⟩:=Rl
  dsimp only at pm ft ok2 led2 ⊢
  have sz:es2.size=es1.size:=by rw [← Array.length_toList,pm.length_eq,Array.length_toList]
  refine wpAny_bind (hg _ _ _ (wpAny_bind (wpAny_storeSet_of hg1 rfl (wpAny_pure ?_) (by lia))))
  refine h _ es2 t3 (ep + 1 + 1) ((Heap.SameBut.update s.heap a (Obj.putSet es1 t2)).trans (Heap.SameBut.update _ a _)) ?_ pm ft ok2 led2
  have:=Heap.get?_update_self (Obj.putSet es2 t3) hg1 (by rw [putSet_of es2 t3 rfl]; rfl)
  rw [putSet_of es2 t3 rfl] at this
  exact this
 ·exact wpAny_pure (h _ es1 t2 (ep + 1) (Heap.SameBut.update s.heap a (Obj.putSet es1 t2)) hg1 (List.Perm.refl _) hf2 ok rfl)
theorem add_G {a:Addr} {ks:List Int} {tk:Nat} {k:Int} {Q:Bool→Shared→Prop} (hS:SetG prog w s.heap a ks) (hn:ks.length + 1 < 4096)
  (h:∀ (h':Heap) (b:Bool),Heap.SameBut a s.heap h'→SetG prog w h' a (addK ks k)→Q b { s with heap:=h' }) :
  wpAny (model prog w) A (setAddHashed a (.int k tk) ((intKind prog w).hash k)) Q E s:=by
 obtain ⟨o,es,ep,t,ho,hex,hd,hel,⟨ms,hv,hp⟩,nd,hb,hf,ok,hled⟩:=hS
 have sb:scanBound=4096:=rfl
 have hsz:es.size=ks.length:=by
  have l1:=hv.length
  simp only [List.length_map,Array.length_toList] at l1
  have l2:=hp.length_eq
  lia
 have hkey:(intKind prog w).is k (.int k tk)=true:=intKind_is _ _ _ _
 have hsc:(Value.int k tk).scannable=true:=rfl
 have mem:k∈ks↔∃ e∈es.toList,(intKind prog w).is k e.2=true:=by
  rw [← hp.mem_iff,vals_in hv]
  constructor
  ·rintro ⟨tk,h⟩
   obtain ⟨e,he,h⟩:=List.mem_map.mp h
   exact ⟨e,he,is_int.mpr ⟨tk,h⟩⟩
  ·rintro ⟨e,he,h⟩
   obtain ⟨tk,h⟩:=is_int.mp h
   exact ⟨tk,List.mem_map.mpr ⟨e,he,h⟩⟩
 unfold setAddHashed setAddHashedIn
 refine wpAny_holding (wpAny_bind (wpAny_setState_of ho hd hf ?_))
 dsimp only
 rw [byScan_of hsc hb hel,if_pos rfl]
 unfold setAddByScan
 refine wpAny_bind (wpAny_bind (wpAny_rule (wpAny_bind (wpAny_setScan_of hkey ho hd hf hel ?_))))
 cases hr:List.findIdx? (fun e=>(intKind prog w).is k e.2) es.toList with
 | some j =>
  dsimp only
  obtain ⟨hj,hpj,_⟩:=List.findIdx?_eq_some_iff_getElem.mp hr
  have hin:k∈ks:=mem.mpr ⟨_,List.getElem_mem hj,hpj⟩
  refine wpAny_pure (wpAny_pure ?_)
  refine h s.heap false (Heap.SameBut.refl a s.heap) ?_
  unfold addK
  rw [if_pos hin]
  exact ⟨o,es,ep,t,ho,hex,hd,hel,⟨ms,hv,hp⟩,nd,hb,hf,ok,hled⟩
 | none =>
  dsimp only
  have hout:k ∉ ks:=fun z=>by
   obtain ⟨e,he,h⟩:=mem.mp z
   have:=List.findIdx?_eq_none_iff.mp hr e he
   rw [h] at this; cases this
  have way:∀ (b:Bool) {s₁:Shared} {Q':Unit→Shared→Prop},Q' () s₁→wpAny (model prog w) A (match b with | true=>rule "set.scan.the-table-gave-way" | false=>pure ()) Q' E s₁:=fun b s₁ Q' hq=>by
   cases b
   ·exact wpAny_pure hq
   ·exact wpAny_rule hq
  have pm:=layNew_perm t es ((intKind prog w).hash k) (.int k tk)
  have ft:=layNew_fits t es ((intKind prog w).hash k) (.int k tk)
  obtain ⟨okL,ledL⟩:=layNew_ok ok es ((intKind prog w).hash k) (.int k tk)
  generalize layNew t es ((intKind prog w).hash k) (.int k tk)=L at pm ft okL ledL ⊢
  obtain ⟨es1,t1,wasDummy,gave⟩:=L
  dsimp only at pm ft okL ledL ⊢
  rw [Array.toList_push] at pm
  have sz1:es1.size=es.size + 1:=by rw [← Array.length_toList,pm.length_eq,List.length_append,Array.length_toList]; rfl
  have fin:∀ (t2:SetTable),t2.led=t.led→∀ (h':Heap) (es3:Array (Int×Value)) (t3:SetTable) (ep3:Nat),Heap.SameBut a s.heap h'→h'.get? a=some { o with data:=.set es3 ep3 t3 }→es3.toList.Perm es1.toList→t3.fits es3.size=true→TabOk t3→t3.led=t2.led→Q true { s with heap:=h' }:=fun t2 l2 h' es3 t3 ep3 hs hg p3 f3 o3 l3=>by
   have p:=p3.trans pm
   refine h h' true hs ⟨_,es3,ep3,t3,hg,hex,rfl,(hel.push hkey hsc).perm p,?_,addK_nodup nd,?_,f3,o3,(l3.trans l2).trans hled⟩
   ·have v2:Vals ((ms++[k]).map V.int) ((es.toList++[((intKind prog w).hash k,Value.int k tk)]).map (·.2)):=by
     rw [List.map_append,List.map_append]
     exact vals_append hv (.cons ⟨tk,rfl⟩ .nil)
    obtain ⟨ns,n1,n2⟩:=vals_perm (p.map (·.2)) v2
    refine ⟨ns,n1,n2.trans ?_⟩
    unfold addK
    rw [if_neg hout]
    exact List.Perm.append_right _ hp
   ·rw [← Array.length_toList,p3.length_eq,Array.length_toList,sz1,sb]; lia
  refine wpAny_bind (way _ ?_)
  have gw:∀ (b:Bool) (s₁:Shared) (Q':Unit→Shared→Prop),Q' () s₁→wpAny (model prog w) A (match b with | true=>rule "set.scan.the-table-gave-way" | false=>pure ()) Q' E s₁:=fun b s₁ Q' hq=>way b hq
  split
  ·refine wpAny_bind ?_
   rw [hashByValue_scannable 8 hsc]
   refine wpAny_pure ?_
   refine store_G gw ho hd (by lia) (by lia) ?_ ?_ fun h' es3 t3 ep3 hs hg p3 f3 o3 l3=>?_
   ·exact ft
   ·exact okL
   ·dsimp only
    exact wpAny_pure (fin _ ledL h' es3 t3 ep3 hs hg p3 f3 o3 l3)
  ·refine wpAny_bind (wpAny_pure ?_)
   simp only [↓reduceIte]
   refine store_G gw ho hd (by lia) (by lia) ft okL fun h' es3 t3 ep3 hs hg p3 f3 o3 l3=>?_
   dsimp only
   exact wpAny_pure (fin _ ledL h' es3 t3 ep3 hs hg p3 f3 o3 l3)
end
end L2
namespace L2
open PySem PySem.Spec PyProof.Rows
noncomputable def ddI (ns:List Int):List Int:=ns.foldl addK []
section
variable {prog:Program} {w:World} {A:Around} {R:Result→Shared→Prop} {I:Addr} {fp wr:List Addr} {G:Array GenState→Array GenState→Prop} {n:Nat} {P:Nat→Value→Prop} {St:Nat→Shared→Prop}
end
end L2
namespace L2
open PySem PySem.Spec PyProof.Rows
section
variable {prog:Program} {w:World} {A:Around} {E:Value→Shared→Prop} {s:Shared}
theorem newS_G {h:Heap} {a:Addr} (e:h.get? a=some (newS w)):SetG prog w h a (ddI []) :=
 ⟨_,#[],0,_,e,⟨rfl,rfl,rfl⟩,rfl,fun x hx=>by simp at hx,⟨[],.nil,List.Perm.refl _⟩,List.nodup_nil,by decide,rfl,⟨rfl,fun i j _ hj=>by simp [SetTable.fresh] at hj,Nat.le_refl _⟩,rfl⟩
end
end L2
namespace L2
open PySem PySem.Spec PyProof.Rows
noncomputable def SIter (h:Heap) (it a:Addr) (first:Value) (i n ep:Nat):Prop:=∃ o,h.get? it=some o∧o.cls=.type "set_iterator"∧o.data=.fields #[first,.int i 0,.ref a,.int n 0,.int ep 0]
theorem SIter.typeIs {s:Shared} {it a:Addr} {first:Value} {i n ep:Nat} (x:SIter s.heap it a first i n ep):s.TypeIs (.ref it) "set_iterator":=by
 obtain ⟨o,h1,h2,_⟩:=x
 exact ⟨o,h1,h2⟩
end L2
namespace L2
open PySem PySem.Spec PyProof.Rows
theorem slot_si_next:Slot "set_iterator" "__next__" "set_iterator.__next__" :=
 .of (owner:="set_iterator") (n:="__next__") (by rw [typeLookup_type,builtinLookup_eq_fast]; kernel_rfl) (by decide +kernel) (by decide +kernel) (by decide +kernel)
  (by first | exact .inl (by decide +kernel) | exact .inr (by decide +kernel)) (by rw [isSubtype_type]; kernel_rfl)
theorem entry_si_next:entryFor table "set_iterator.__next__"=some Builtin.«set_iterator.__next__»:=entryFor_of_fast (by kernel_rfl)
theorem args_si_next (a:Value):argsOk "set_iterator.__next__" ⟨[a],[]⟩:=by unfold argsOk; kernel_rfl
section
variable {prog:Program} {w:World} {A:Around} {E:Value→Shared→Prop} {s:Shared}
theorem next_plain {it a:Addr} {slot i n ep:Nat} {o:Obj} {es:Array (Int×Value)} {t:SetTable} {x:Int×Value} {Q:Option Value→Shared→Prop} (hit:SIter s.heap it a (.int slot 0) i n ep) (ho:s.heap.get? a=some o) (hd:o.data=.set es ep t) (hf:t.fits es.size=true) (hn:es.size=n)
  (hbt:byT w=false) (hdr:(!t.plain && decide (es.size > 1))=false) (hled:t.led=true) (hx:es[i]?=some x) (hb:SetTable.below t.place slot=i)
  (hQ:∀ h',SIter h' it a (.int ((t.place.getD i 0 + 1:Nat):Int) 0) (i + 1) n ep→Heap.SameBut it s.heap h'→Q (some x.2) { s with heap:=h' }):wpAny (model prog w) A (pyNext (.ref it)) Q E s:=by
 obtain ⟨oi,hoi,hci,hdi⟩:=id hit
 have hi:i < es.size:=(Array.getElem?_eq_some_iff.mp hx).1
 have hp:t.place.size=es.size:=by
  simp only [SetTable.fits,Bool.and_eq_true,beq_iff_eq] at hf
  exact hf.1
 unfold pyNext
 refine wpAny_bind (wpAny_attempt (wpAny_callSpecial?_slot (name:=Str.ofString "__next__") hit.typeIs slot_si_next (wpAny_call_entry slot_si_next hit.typeIs entry_si_next ?_ (args_si_next _))))
 show wpAny _ _ (fieldsOf (.ref it) >>= _) _ _ s
 refine wpAny_bind (wpAny_fieldsOf hoi hdi ?_)
 dsimp only
 refine wpAny_bind (wpAny_setEntries_of ho hd hf ?_)
 rw [hn]
 simp only [bne_self_eq_false,Bool.false_eq_true,if_false]
 unfold setNext
 refine wpAny_bind (wpAny_bind (wpAny_setState_of ho hd hf ?_))
 dsimp only
 unfold setsByText
 refine wpAny_bind (wpAny_bind (wpAny_askSetting (wpAny_pure ?_)))
 rw [if_neg (fun e=>by have e2:byT w=true:=e; rw [hbt] at e2; cases e2)]
 rw [if_neg (fun e=>by have e2:(!t.plain && decide (es.size > 1))=true:=e; rw [hdr] at e2; cases e2)]
 refine wpAny_bind ?_
 show wpAny _ _ (if (!t.led && !es.isEmpty)=true then unsupported "set:maker-not-led" else pure ()) _ _ _
 rw [hled,if_neg (by simp)]
 refine wpAny_pure ?_
 have hpi:t.place[i]?=some (t.place.getD i 0):=by
  have:i < t.place.size:=by lia
  rw [Array.getD_eq_getD_getElem?,Array.getElem?_eq_getElem this]
  rfl
 simp only [Int.toNat_natCast,hb,hx,hpi]
 refine wpAny_pure ?_
 dsimp only
 refine wpAny_bind (wpAny_setField hoi hdi (by simp) ?_)
 have ho2:=Heap.get?_update_self (Obj.mapFields fun vs=>vs.setIfInBounds 0 (rawInt ((t.place.getD i 0 + 1:Nat):Int))) hoi (Obj.isFreed_of_fields (Obj.data_mapFields hdi _))
 have hd2:(Obj.mapFields (fun vs=>vs.setIfInBounds 0 (rawInt ((t.place.getD i 0 + 1:Nat):Int))) oi).data=.fields #[.int ((t.place.getD i 0 + 1:Nat):Int) 0,.int i 0,.ref a,.int n 0,.int ep 0]:=by
  rw [Obj.data_mapFields hdi]
  rfl
 refine wpAny_bind (wpAny_setField ho2 hd2 (by simp) (wpAny_pure ⟨_,rfl,wpAny_pure (hQ _ ?_ ((Heap.SameBut.update ..).trans (Heap.SameBut.update ..)))⟩))
 exact ⟨_,Heap.get?_update_self _ ho2 (Obj.isFreed_of_fields (Obj.data_mapFields hd2 _)),(Obj.cls_mapFields ..).trans ((Obj.cls_mapFields ..).trans hci),by rw [Obj.data_mapFields hd2]; rfl⟩
end
end L2
namespace L2
open PySem PySem.Spec PyProof.Rows
theorem pick_go {α:Type} (next:Nat→Nat):∀ (fuel k:Nat) (left:List α) (out:Array α),left.length=fuel→(pickOrder.go next fuel k left out).size=out.size + left.length∧∀ x∈pickOrder.go next fuel k left out,x∈out∨x∈left
 | 0,k,left,out,h=>by
  have e:pickOrder.go next 0 k left out=out:=by unfold pickOrder.go; rfl
  rw [e]
  exact ⟨by lia,fun x hx=>.inl hx⟩
 | fuel + 1,k,left,out,h=>by
  have lt:next k % left.length < left.length:=Nat.mod_lt _ (by lia)
  have e:pickOrder.go next (fuel + 1) k left out=pickOrder.go next fuel (k + 1) (left.eraseIdx (next k % left.length)) (out.push left[next k % left.length]):=by
   rw [pickOrder.go,List.getElem?_eq_getElem lt]
  have le:(left.eraseIdx (next k % left.length)).length=fuel:=by rw [List.length_eraseIdx_of_lt lt]; lia
  obtain ⟨a,b⟩:=pick_go next fuel (k + 1) (left.eraseIdx (next k % left.length)) (out.push left[next k % left.length]) le
  rw [e]
  refine ⟨by rw [a,Array.size_push]; lia,fun x hx=>?_⟩
  rcases b x hx with h | h
  ·rcases Array.mem_push.mp h with h | h
   ·exact .inl h
   ·exact .inr (by rw [h]; exact List.getElem_mem lt)
  ·exact .inr (List.mem_of_mem_eraseIdx h)
theorem pick_spec {α:Type} (next:Nat→Nat) (xs:Array α):(pickOrder next xs).size=xs.size∧∀ x∈pickOrder next xs,x∈xs.toList:=by
 unfold pickOrder
 obtain ⟨a,b⟩:=pick_go next xs.size 0 xs.toList #[] (by simp)
 refine ⟨by rw [a]; simp,fun x hx=>?_⟩
 rcases b x hx with h | h
 ·simp at h
 ·exact h
section
variable {prog:Program} {w:World} {A:Around} {E:Value→Shared→Prop} {s:Shared}
theorem wp_if {M:Model} {α:Type} {c:Prop} [Decidable c] {p q:Sem α} {R:α→Shared→Prop} (h:c) (k:wpAny M A p R E s):wpAny M A (if c then p else q) R E s:=by rw [if_pos h]; exact k
theorem wp_ifn {M:Model} {α:Type} {c:Prop} [Decidable c] {p q:Sem α} {R:α→Shared→Prop} (h:¬ c) (k:wpAny M A q R E s):wpAny M A (if c then p else q) R E s:=by rw [if_neg h]; exact k
end
end L2
namespace L2
open PySem PySem.Spec PyProof.Rows
section
variable {prog:Program} {w:World} {A:Around} {E:Value→Shared→Prop} {s:Shared}
theorem next_drawn {it a tp:Addr} {i n ep p nt:Nat} {o ot:Obj} {es:Array (Int×Value)} {t:SetTable} {x:Int×Value} {places:Array Value} {Q:Option Value→Shared→Prop} (hit:SIter s.heap it a (.ref tp) i n ep) (ho:s.heap.get? a=some o) (hd:o.data=.set es ep t) (hf:t.fits es.size=true) (hn:es.size=n)
  (hot:s.heap.get? tp=some ot) (hdt:ot.data=.seq places nt) (hp:places[i]?=some (.int p 0)) (hx:es[p]?=some x)
  (hQ:∀ h',SIter h' it a (.ref tp) (i + 1) n ep→Heap.SameBut it s.heap h'→Q (some x.2) { s with heap:=h' }):wpAny (model prog w) A (pyNext (.ref it)) Q E s:=by
 obtain ⟨oi,hoi,hci,hdi⟩:=id hit
 unfold pyNext
 refine wpAny_bind (wpAny_attempt (wpAny_callSpecial?_slot (name:=Str.ofString "__next__") hit.typeIs slot_si_next (wpAny_call_entry slot_si_next hit.typeIs entry_si_next ?_ (args_si_next _))))
 show wpAny _ _ (fieldsOf (.ref it) >>= _) _ _ s
 refine wpAny_bind (wpAny_fieldsOf hoi hdi ?_)
 dsimp only
 refine wpAny_bind (wpAny_setEntries_of ho hd hf ?_)
 rw [hn]
 simp only [bne_self_eq_false,Bool.false_eq_true,if_false]
 refine wpAny_bind (wpAny_seqItems hot hdt ?_)
 simp only [Int.toNat_natCast,hp]
 unfold setNextDrawn
 refine wpAny_bind (wpAny_bind (wpAny_setState_of ho hd hf ?_))
 dsimp only
 refine wp_ifn (by simp) ?_
 rw [hx]
 refine wpAny_pure ?_
 refine wpAny_bind (wpAny_setField hoi hdi (by simp) (wpAny_pure ⟨_,rfl,wpAny_pure (hQ _ ?_ (Heap.SameBut.update ..))⟩))
 exact ⟨_,Heap.get?_update_self _ hoi (Obj.isFreed_of_fields (Obj.data_mapFields hdi _)),(Obj.cls_mapFields ..).trans hci,by rw [Obj.data_mapFields hdi]; rfl⟩
theorem stop_L {it a:Addr} {first:Value} {i n ep:Nat} {o:Obj} {es:Array (Int×Value)} {t:SetTable} {Q:Option Value→Shared→Prop} (hh:A.handled=none) (hit:SIter s.heap it a (.int first' 0) i n ep) (ho:s.heap.get? a=some o) (hd:o.data=.set es ep t) (hf:t.fits es.size=true) (hn:es.size=n)
  (hnone:∀ R:Option (Value×Nat)→Shared→Prop,R none s→wpAny (model prog w) A.in1 (setNext a (first':Int).toNat (i:Int).toNat (ep:Int).toNat) R (fun e s'=>wpAny (model prog w) A (do if (← isInstance e (.type "StopIteration")) then pure none else throw e) Q E s') s)
  (hQ:∀ h',Heap.ExtBut it s.heap h'→Q none { s with heap:=h' }):wpAny (model prog w) A (pyNext (.ref it)) Q E s:=by
 obtain ⟨oi,hoi,hci,hdi⟩:=id hit
 unfold pyNext
 refine wpAny_bind (wpAny_attempt (wpAny_callSpecial?_slot (name:=Str.ofString "__next__") hit.typeIs slot_si_next (wpAny_call_entry slot_si_next hit.typeIs entry_si_next ?_ (args_si_next _))))
 show wpAny _ _ (fieldsOf (.ref it) >>= _) _ _ s
 refine wpAny_bind (wpAny_fieldsOf hoi hdi ?_)
 dsimp only
 refine wpAny_bind (wpAny_setEntries_of ho hd hf ?_)
 rw [hn]
 simp only [bne_self_eq_false,Bool.false_eq_true,if_false]
 refine wpAny_bind (hnone _ ?_)
 dsimp only
 refine wpAny_bind (wpAny_setField hoi hdi (by simp) ?_)
 show wpAny _ _ (newExc (.type "StopIteration") [] >>= _) _ _ _
 refine wpAny_bind ?_
 simp only [newExc,newTuple]
 refine wpAny_bind (wpAny_newObj_type ?_ (by size_fits))
 refine wpAny_bind (m:=firstArgMember _ _) (wpAny_of_eq (a:=Value.none) (by first | rfl | (simp only [firstArgMember]; rfl)) ?_)
 refine wpAny_newObj_type ?_ (by size_fits)
 simp only [raiseNew]
 refine wpAny_bind (wpAny_handled ?_)
 rw [show A.in1.handled=none from hh]
 refine wpAny_bind (wpAny_pure (wpAny_throw ?_))
 refine wpAny_bind (wpAny_isInstance (T:="StopIteration") (b:=true) ⟨_,Heap.get?_push_size _ rfl,rfl⟩ isSubtype_stop ?_)
 exact wpAny_pure (hQ _ (((Heap.SameBut.update ..).extBut.push _).push _))
end
end L2
namespace L2
open PySem PySem.Spec PyProof.Rows
theorem slot_si_iter:Slot "set_iterator" "__iter__" "set_iterator.__iter__" :=
 .of (owner:="set_iterator") (n:="__iter__") (by rw [typeLookup_type,builtinLookup_eq_fast]; kernel_rfl) (by decide +kernel) (by decide +kernel) (by decide +kernel)
  (by first | exact .inl (by decide +kernel) | exact .inr (by decide +kernel)) (by rw [isSubtype_type]; kernel_rfl)
theorem entry_si_iter:entryFor table "set_iterator.__iter__"=some Builtin.«dict_keyiterator.__iter__» :=
 entryFor_alias (id':="dict_keyiterator.__iter__") (by kernel_rfl) rfl (by decide +kernel) (by kernel_rfl)
theorem args_si_iter (a:Value):argsOk "set_iterator.__iter__" ⟨[a],[]⟩:=by unfold argsOk; kernel_rfl
theorem entry_set_iter:entryFor table "set.__iter__"=some Builtin.«frozenset.__iter__» :=
 entryFor_alias (id':="frozenset.__iter__") (by kernel_rfl) rfl (by decide +kernel) (by kernel_rfl)
theorem args_set_iter (a:Value):argsOk "set.__iter__" ⟨[a],[]⟩:=by unfold argsOk; kernel_rfl
section
variable {prog:Program} {w:World} {A:Around} {E:Value→Shared→Prop} {s:Shared}
end
end L2
namespace L2
open PySem PySem.Spec PyProof.Rows
section
variable {prog:Program} {w:World} {A:Around} {E:Value→Shared→Prop} {s:Shared}
theorem hint_L {r:Addr} {Q:Bool→Shared→Prop} (hT:s.TypeIs (.ref r) "set") (h:Q false s):wpAny (model prog w) A (Builtin.List.listLengthHint (.ref r)) Q E s:=by
 unfold Builtin.List.listLengthHint
 refine wpAny_bind (wpAny_specialOf hT PySem.F.slot_set_len.lookup ?_)
 generalize hid:("set.__len__":String)=id0
 wp_delta
 rw [show splitId id0=some ("set","__len__") from by subst hid; decide +kernel]
 subst hid
 refine wpAny_bind (wpAny_isInstance (T:="set") (b:=true) hT (by rw [isSubtype_type]; kernel_rfl) ?_)
 refine wpAny_ite_split (fun hab=>absurd hab (by decide)) (fun _=>?_)
 refine wpAny_ite_split (fun _=>?_) (fun hab=>absurd (by decide +kernel) hab)
 refine wpAny_bind (wpAny_typeOf hT ?_)
 exact wpAny_pure h
noncomputable def oIter (a:Addr) (n ep:Nat):Obj:={ cls:=.type "set_iterator",data:=.fields #[.int ((0:Nat):Int) 0,.int ((0:Nat):Int) 0,.ref a,.int n 0,.int ep 0] }
end
end L2
namespace L2
open PySem PySem.Spec PyProof.Rows PySem.W
section
variable {prog:Program} {w:World} {A:Around} {E:Value→Shared→Prop} {s:Shared}
theorem iadd_L {R:Result→Shared→Prop} {T:String} {S r d:Addr} {n:Nat} {P:Nat→Value→Prop} {OK:Heap→Prop} (K:KdlSrc prog w T r d n P OK) (hh:A.handled=none) (hok:OK s.heap) (hSr:S≠r) (hSd:S≠d) (hS:s.heap.get? S=some { cls:=.type "list",data:=.seq #[] 0 }) (hn:n≤sizeLine)
  (hR:∀ h' tk acc' c',(∀ b o,b≠S→s.heap.get? b=some o→h'.get? b=some o)→h'.get? S=some { cls:=.type "list",dict:=none,data:=.seq acc' c',slots:=#[] }→ItemsOf P acc' n→R (.ok (.ret (.ref S))) { s with heap:=h',toks:=tk }) :
  codeAny (model prog w) A (.builtin "list.__iadd__" ⟨[.ref S,.ref r],[]⟩) R s:=by
 refine codeAny_builtin entry_list_iadd' ?_
 rw [Around.under_plainId PySem.F.plain_list_iadd _]
 exact kdl_extend K hh hok S hSr hSd (.ref S) 0 hS hR hn
end
end L2
namespace L2
open PySem PySem.Spec PyProof.Rows PySem.W
theorem erase_perm {α:Type}:∀ (l:List α) (i:Nat) (h:i < l.length),(l[i] :: l.eraseIdx i).Perm l
 | x :: r,0,h=>List.Perm.refl _
 | x :: r,i + 1,h=>(List.Perm.swap x _ _).trans ((erase_perm r i (by simpa using h)).cons x)
theorem pick_goP {α:Type} (next:Nat→Nat):∀ (fuel k:Nat) (left:List α) (out:Array α),left.length=fuel→(pickOrder.go next fuel k left out).toList.Perm (out.toList++left)
 | 0,k,left,out,h=>by
  have e:pickOrder.go next 0 k left out=out:=by unfold pickOrder.go; rfl
  have el:left=[]:=List.eq_nil_of_length_eq_zero h
  rw [e,el,List.append_nil]
 | fuel + 1,k,left,out,h=>by
  have lt:next k % left.length < left.length:=Nat.mod_lt _ (by lia)
  have e:pickOrder.go next (fuel + 1) k left out=pickOrder.go next fuel (k + 1) (left.eraseIdx (next k % left.length)) (out.push left[next k % left.length]):=by
   rw [pickOrder.go,List.getElem?_eq_getElem lt]
  have le:(left.eraseIdx (next k % left.length)).length=fuel:=by rw [List.length_eraseIdx_of_lt lt]; lia
  have p:=pick_goP next fuel (k + 1) (left.eraseIdx (next k % left.length)) (out.push left[next k % left.length]) le
  rw [e]
  refine p.trans ?_
  rw [Array.toList_push,List.append_assoc]
  exact List.Perm.append_left _ (erase_perm _ _ lt)
theorem pick_perm {α:Type} (next:Nat→Nat) (xs:Array α):(pickOrder next xs).toList.Perm xs.toList:=by
 unfold pickOrder
 have:=pick_goP next xs.size 0 xs.toList #[] (by simp)
 simpa using this
section
variable {prog:Program} {w:World} {A:Around} {E:Value→Shared→Prop} {s:Shared}
theorem choose_any {M:Model} {src:Source} {n:Nat} {Q:Nat→Shared→Prop} (hn:n≠0) (h:∀ i d',i < n→Q i { s with drawn:=d' }):wpAny M A (choose src n) Q E s :=
 fun Γ p hΓ=>⟨hn,h _ _ (Nat.mod_lt _ (Nat.pos_of_ne_zero hn))⟩
theorem draw_any {M:Model} {α:Type}:∀ (n:Nat) (xs:List α) {s:Shared} {Q:List α→Shared→Prop},xs.length=n→(∀ ys d',ys.Perm xs→Q ys { s with drawn:=d' })→wpAny M A (drawOrder n xs) Q E s
 | 0,xs,s,Q,hl,h=>by
  have:xs=[]:=List.eq_nil_of_length_eq_zero hl
  subst this
  unfold drawOrder
  exact wpAny_pure (h [] s.drawn (List.Perm.refl _))
 | n + 1,[],s,Q,hl,h=>by simp at hl
 | n + 1,x :: r,s,Q,hl,h=>by
  unfold drawOrder
  refine wpAny_bind (choose_any (by simp) fun i d' hi=>?_)
  rw [List.getElem?_eq_getElem hi]
  dsimp only
  refine wpAny_bind (draw_any n ((x :: r).eraseIdx i) (s:={ s with drawn:=d' }) (by rw [List.length_eraseIdx_of_lt hi]; lia) fun ys d2 p=>?_)
  exact wpAny_pure (h _ d2 ((p.cons _).trans (erase_perm _ _ hi)))
theorem next_textG {it a:Addr} {slot i n ep:Nat} {o:Obj} {es:Array (Int×Value)} {t:SetTable} {x:Int×Value} {Q:Option Value→Shared→Prop} (hit:SIter s.heap it a (.int slot 0) i n ep) (ho:s.heap.get? a=some o) (hd:o.data=.set es ep t) (hf:t.fits es.size=true) (hn:es.size=n)
  (hbt:byT w=true) (hx:(pickOrder (w.params.setOrder a ep) es)[i]?=some x)
  (hQ:∀ h',SIter h' it a (.int slot 0) (i + 1) n ep→Heap.SameBut it s.heap h'→Q (some x.2) { s with heap:=h' }):wpAny (model prog w) A (pyNext (.ref it)) Q E s:=by
 obtain ⟨oi,hoi,hci,hdi⟩:=id hit
 unfold pyNext
 refine wpAny_bind (wpAny_attempt (wpAny_callSpecial?_slot (name:=Str.ofString "__next__") hit.typeIs slot_si_next (wpAny_call_entry slot_si_next hit.typeIs entry_si_next ?_ (args_si_next _))))
 show wpAny _ _ (fieldsOf (.ref it) >>= _) _ _ s
 refine wpAny_bind (wpAny_fieldsOf hoi hdi ?_)
 dsimp only
 refine wpAny_bind (wpAny_setEntries_of ho hd hf ?_)
 rw [hn]
 simp only [bne_self_eq_false,Bool.false_eq_true,if_false]
 unfold setNext setWalk
 refine wpAny_bind (wpAny_bind (wpAny_setState_of ho hd hf ?_))
 dsimp only
 unfold setsByText
 refine wpAny_bind (wpAny_bind (wpAny_askSetting (wpAny_pure ?_)))
 refine wp_if hbt (wp_ifn (by simp) ?_)
 refine wpAny_bind (wpAny_bind (wpAny_setState_of ho hd hf ?_))
 dsimp only
 refine wpAny_bind (wpAny_bind (wpAny_askSetting (wpAny_pure ?_)))
 refine wp_if hbt ?_
 refine wpAny_bind (wpAny_askSetting (wpAny_pure ?_))
 have hx':(pickOrder ((model prog w).w.params.setOrder a ep) es)[i]?=some x:=hx
 simp only [Int.toNat_natCast]
 rw [hx']
 refine wpAny_pure ?_
 dsimp only [Option.map]
 refine wpAny_bind (wpAny_setField hoi hdi (by simp) ?_)
 have ho2:=Heap.get?_update_self (Obj.mapFields fun vs=>vs.setIfInBounds 0 (rawInt (slot:Int))) hoi (Obj.isFreed_of_fields (Obj.data_mapFields hdi _))
 have hd2:(Obj.mapFields (fun vs=>vs.setIfInBounds 0 (rawInt (slot:Int))) oi).data=.fields #[.int slot 0,.int i 0,.ref a,.int n 0,.int ep 0]:=by
  rw [Obj.data_mapFields hdi]
  rfl
 refine wpAny_bind (wpAny_setField ho2 hd2 (by simp) (wpAny_pure ⟨_,rfl,wpAny_pure (hQ _ ?_ ((Heap.SameBut.update ..).trans (Heap.SameBut.update ..)))⟩))
 exact ⟨_,Heap.get?_update_self _ ho2 (Obj.isFreed_of_fields (Obj.data_mapFields hd2 _)),(Obj.cls_mapFields ..).trans ((Obj.cls_mapFields ..).trans hci),by rw [Obj.data_mapFields hd2]; rfl⟩
noncomputable def ordOf (w:World) (a:Addr) (ep:Nat) (es:Array (Int×Value)):Array (Int×Value):=if byT w then pickOrder (w.params.setOrder a ep) es else es
theorem ord_perm (w:World) (a:Addr) (ep:Nat) (es:Array (Int×Value)):(ordOf w a ep es).toList.Perm es.toList:=by
 unfold ordOf
 split
 ·exact pick_perm _ _
 ·exact List.Perm.refl _
theorem walk_G {a I:Addr} (hne:a≠I) {ep n:Nat} {o:Obj} {es:Array (Int×Value)} {t:SetTable} (hh:A.handled=none) (hd:o.data=.set es ep t) (hf:t.fits es.size=true) (hn:es.size=n) (ok:TabOk t) (hdr:byT w=true∨(!t.plain && decide (es.size > 1))=false) (hled:t.led=!byT w) :
  Walks prog w A I [I,a] [I] n (fun i v=>∃ e,(ordOf w a ep es)[i]?=some e∧v=e.2) (fun i h=>(∃ slot:Nat,(byT w=false→SetTable.below t.place slot=i)∧SIter h I a (.int slot 0) i n ep)∧h.get? a=some o) where
 sub:=fun b hb=>by simp at hb; simp [hb]
 frame:=fun i h h' st hk=>by
  obtain ⟨⟨slot,hb,oi,h1,h2⟩,h3⟩:=st
  exact ⟨⟨slot,hb,oi,hk I (by simp) _ h1,h2⟩,hk a (by simp) _ h3⟩
 item:=fun i s Q E hi st hQ=>by
  obtain ⟨⟨slot,hb,hit⟩,ho⟩:=st
  have keep:∀ h',Heap.SameBut I s.heap h'→h'.get? a=some o:=fun h' sb=>by rw [sb.2 a hne]; exact ho
  have kept:∀ h',Heap.SameBut I s.heap h'→∀ b o,b ∉ [I]→s.heap.get? b=some o→h'.get? b=some o:=fun h' sb b o hb e=>by rw [sb.2 b (fun z=>hb (by simp [z]))]; exact e
  have zo:(ordOf w a ep es).size=n:=by rw [← hn,← Array.length_toList,(ord_perm w a ep es).length_eq,Array.length_toList]
  have ex:(ordOf w a ep es)[i]?=some (ordOf w a ep es)[i]:=Array.getElem?_eq_getElem (by lia)
  generalize (ordOf w a ep es)[i]=x at ex
  cases hbt:byT w with
  | true =>
   have ex':(pickOrder (w.params.setOrder a ep) es)[i]?=some x:=by unfold ordOf at ex; rw [hbt] at ex; exact ex
   exact next_textG hit ho hd hf hn hbt ex' fun h' it' sb=>hQ x.2 h' s.toks ⟨x,ex,rfl⟩ ⟨⟨slot,fun z=>absurd (hbt.symm.trans z) (by decide),it'⟩,keep h' sb⟩ (kept h' sb)
  | false =>
   have ex':es[i]?=some x:=by unfold ordOf at ex; rw [hbt] at ex; exact ex
   have hps:t.place.size=es.size:=by
    simp only [SetTable.fits,Bool.and_eq_true,beq_iff_eq] at hf
    exact hf.1
   refine next_plain hit ho hd hf hn hbt (hdr.resolve_left (by rw [hbt]; decide)) (by rw [hled,hbt]; rfl) ex' (hb hbt) fun h' it' sb=>hQ _ h' s.toks ⟨x,ex,rfl⟩ ⟨⟨t.place.getD i 0 + 1,fun _=>below_next ok.rise (by lia),it'⟩,keep h' sb⟩ (kept h' sb)
 done:=fun s Q E st hQ=>by
  obtain ⟨⟨slot,hb,hit⟩,ho⟩:=st
  refine stop_L (first:=.none) hh hit ho hd hf hn (fun R hR=>?_) fun h' eb=>hQ h' s.toks fun b o hb e=>eb b o (fun z=>hb (by simp [z])) e
  unfold setNext
  refine wpAny_bind (wpAny_setState_of ho hd hf ?_)
  dsimp only
  unfold setsByText
  refine wpAny_bind (wpAny_bind (wpAny_askSetting (wpAny_pure ?_)))
  cases hbt:byT w with
  | true =>
   refine wp_if hbt (wp_ifn (by simp) ?_)
   unfold setWalk
   refine wpAny_bind (wpAny_bind (wpAny_setState_of ho hd hf ?_))
   dsimp only
   unfold setsByText
   refine wpAny_bind (wpAny_bind (wpAny_askSetting (wpAny_pure ?_)))
   refine wp_if hbt ?_
   refine wpAny_bind (wpAny_askSetting (wpAny_pure ?_))
   obtain ⟨sz,_⟩:=pick_spec ((model prog w).w.params.setOrder a ep) es
   have hx:(pickOrder ((model prog w).w.params.setOrder a ep) es)[n]?=none:=Array.getElem?_eq_none (by lia)
   simp only [Int.toNat_natCast]
   rw [hx]
   exact wpAny_pure hR
  | false =>
   have hdr':=hdr.resolve_left (by rw [hbt]; decide)
   refine wp_ifn (fun e=>by have e2:byT w=true:=e; rw [hbt] at e2; cases e2) ?_
   refine wp_ifn (fun e=>by have e2:(!t.plain && decide (es.size > 1))=true:=e; rw [hdr'] at e2; cases e2) ?_
   refine wpAny_bind ?_
   show wpAny _ _ (if (!t.led && !es.isEmpty)=true then unsupported "set:maker-not-led" else pure ()) _ _ _
   refine wp_ifn (by rw [hled,hbt]; simp) (wpAny_pure ?_)
   simp only [Int.toNat_natCast,hb hbt]
   rw [Array.getElem?_eq_none (show es.size≤n by lia)]
   exact wpAny_pure hR
 self:=fun i s Q E st hQ=>by
  obtain ⟨⟨slot,hb,hit⟩,ho⟩:=st
  refine wpAny_pyIter_slot hit.typeIs slot_si_iter (wpAny_call_entry slot_si_iter hit.typeIs entry_si_iter ?_ (args_si_iter _))
  show wpAny _ _ (ret (.ref I)) _ _ s
  exact wpAny_pure ⟨_,rfl,"set_iterator",_,hit.typeIs,slot_si_next.lookup,hQ⟩
end
end L2
namespace L2
open PySem PySem.Spec PyProof.Rows PySem.W
section
variable {prog:Program} {w:World} {A:Around} {E:Value→Shared→Prop} {s:Shared}
theorem iter_G {a:Addr} {ep n:Nat} {o:Obj} {es:Array (Int×Value)} {t:SetTable} {Q:Value→Shared→Prop} (ho:s.heap.get? a=some o) (hc:o.cls=.type "set") (hd:o.data=.set es ep t) (hf:t.fits es.size=true) (hn:es.size=n) (hdr:byT w=true∨(!t.plain && decide (es.size > 1))=false)
  (hQ:Q (.ref s.heap.objs.size) { s with heap:=s.heap.push (oIter a n ep) }):wpAny (model prog w) A (pyIter (.ref a)) Q E s:=by
 have hT:s.TypeIs (.ref a) "set":=⟨o,ho,hc⟩
 refine wpAny_pyIter_slot hT PySem.F.slot_set_iter (wpAny_call_entry PySem.F.slot_set_iter hT entry_set_iter ?_ (args_set_iter _))
 show wpAny _ _ (Builtin.Frozenset.sizeOf a >>= _) _ _ s
 unfold Builtin.Frozenset.sizeOf
 refine wpAny_bind (wpAny_bind (wpAny_setEntries_of ho hd hf (wpAny_pure ?_)))
 refine wpAny_bind ?_
 unfold setDrawn
 refine wpAny_bind (wpAny_setState_of ho hd hf ?_)
 dsimp only
 unfold setsByText
 refine wpAny_bind (wpAny_bind (wpAny_askSetting (wpAny_pure (wpAny_pure ?_))))
 refine wp_ifn (fun e=>by
  have e2:(!(byT w) && (!t.plain && decide (es.size > 1)))=true:=e
  rcases hdr with h | h
  ·rw [h] at e2; simp at e2
  ·rw [h] at e2; simp at e2) (wpAny_bind (wpAny_pure ?_))
 unfold setEpoch
 refine wpAny_bind (wpAny_bind (wpAny_setState_of ho hd hf (wpAny_pure ?_)))
 unfold newFields
 refine wpAny_bind (wpAny_newObj_type (wpAny_pure ⟨_,rfl,"set_iterator",_,⟨_,Heap.get?_push_size _ rfl,rfl⟩,slot_si_next.lookup,?_⟩))
 rw [← hn] at hQ
 exact hQ
noncomputable def oIterD (a tp:Addr) (n ep:Nat):Obj:={ cls:=.type "set_iterator",data:=.fields #[.ref tp,.int ((0:Nat):Int) 0,.ref a,.int n 0,.int ep 0] }
theorem iter_D {a:Addr} {ep n:Nat} {o:Obj} {es:Array (Int×Value)} {t:SetTable} {Q:Value→Shared→Prop} (ho:s.heap.get? a=some o) (hc:o.cls=.type "set") (hd:o.data=.set es ep t) (hf:t.fits es.size=true) (hn:es.size=n) (hz:n≤5000) (hbt:byT w=false) (hdr:(!t.plain && decide (es.size > 1))=true)
  (hQ:∀ (ys:List Nat) (d':Drawn),ys.Perm (List.range n)→Q (.ref (s.heap.objs.size + 1)) { s with heap:=(s.heap.push (seqObj "tuple" (ys.map fun (i:Nat)=>rawInt i).toArray 0)).push (oIterD a s.heap.objs.size n ep),drawn:=d' }):wpAny (model prog w) A (pyIter (.ref a)) Q E s:=by
 have hT:s.TypeIs (.ref a) "set":=⟨o,ho,hc⟩
 have szl:=sizeLine_eq
 refine wpAny_pyIter_slot hT PySem.F.slot_set_iter (wpAny_call_entry PySem.F.slot_set_iter hT entry_set_iter ?_ (args_set_iter _))
 show wpAny _ _ (Builtin.Frozenset.sizeOf a >>= _) _ _ s
 unfold Builtin.Frozenset.sizeOf
 refine wpAny_bind (wpAny_bind (wpAny_setEntries_of ho hd hf (wpAny_pure ?_)))
 refine wpAny_bind ?_
 unfold setDrawn
 refine wpAny_bind (wpAny_setState_of ho hd hf ?_)
 dsimp only
 unfold setsByText
 refine wpAny_bind (wpAny_bind (wpAny_askSetting (wpAny_pure (wpAny_pure ?_))))
 refine wp_if (by
  show (!(byT w) && (!t.plain && decide (es.size > 1)))=true
  rw [hbt,hdr]; rfl) ?_
 rw [hn]
 refine wpAny_bind (draw_any n (List.range n) (by simp) fun ys d' hp=>?_)
 have hl:ys.length=n:=by rw [hp.length_eq,List.length_range]
 refine wpAny_bind (wpAny_newTuple ?_ (by rw [List.length_map]; lia))
 have ho1:(s.heap.push (seqObj "tuple" (ys.map fun (i:Nat)=>rawInt i).toArray 0)).get? a=some o:=Heap.get?_push_of_some _ ho
 unfold setEpoch
 refine wpAny_bind (wpAny_bind (wpAny_setState_of (s:={ s with heap:=s.heap.push (seqObj "tuple" (ys.map fun (i:Nat)=>rawInt i).toArray 0),drawn:=d' }) ho1 hd hf (wpAny_pure ?_)))
 unfold newFields
 refine wpAny_bind (wpAny_newObj_type (wpAny_pure ⟨_,rfl,"set_iterator",_,⟨_,Heap.get?_push_size _ rfl,rfl⟩,slot_si_next.lookup,?_⟩))
 have:=hQ ys d' hp
 have z:(s.heap.push (seqObj "tuple" (ys.map fun (i:Nat)=>rawInt i).toArray 0)).objs.size=s.heap.objs.size + 1:=size_push' _ _
 rw [← z] at this
 exact this
theorem stop_D {it a tp:Addr} {i n ep nt:Nat} {o ot:Obj} {es:Array (Int×Value)} {t:SetTable} {places:Array Value} {Q:Option Value→Shared→Prop} (hh:A.handled=none) (hit:SIter s.heap it a (.ref tp) i n ep) (ho:s.heap.get? a=some o) (hd:o.data=.set es ep t) (hf:t.fits es.size=true) (hn:es.size=n)
  (hot:s.heap.get? tp=some ot) (hdt:ot.data=.seq places nt) (hp:places[i]?=none)
  (hQ:∀ h',Heap.ExtBut it s.heap h'→Q none { s with heap:=h' }):wpAny (model prog w) A (pyNext (.ref it)) Q E s:=by
 obtain ⟨oi,hoi,hci,hdi⟩:=id hit
 unfold pyNext
 refine wpAny_bind (wpAny_attempt (wpAny_callSpecial?_slot (name:=Str.ofString "__next__") hit.typeIs slot_si_next (wpAny_call_entry slot_si_next hit.typeIs entry_si_next ?_ (args_si_next _))))
 show wpAny _ _ (fieldsOf (.ref it) >>= _) _ _ s
 refine wpAny_bind (wpAny_fieldsOf hoi hdi ?_)
 dsimp only
 refine wpAny_bind (wpAny_setEntries_of ho hd hf ?_)
 rw [hn]
 simp only [bne_self_eq_false,Bool.false_eq_true,if_false]
 refine wpAny_bind (wpAny_seqItems hot hdt ?_)
 simp only [Int.toNat_natCast,hp]
 refine wpAny_bind (wpAny_setField hoi hdi (by simp) ?_)
 have ho2:=Heap.get?_update_self (Obj.mapFields fun vs=>vs.setIfInBounds 0 (rawInt 0)) hoi (Obj.isFreed_of_fields (Obj.data_mapFields hdi _))
 have hd2:(Obj.mapFields (fun vs=>vs.setIfInBounds 0 (rawInt 0)) oi).data=.fields #[rawInt 0,.int i 0,.ref a,.int n 0,.int ep 0]:=by
  rw [Obj.data_mapFields hdi]
  rfl
 refine wpAny_bind (wpAny_setField ho2 hd2 (by simp) ?_)
 show wpAny _ _ (newExc (.type "StopIteration") [] >>= _) _ _ _
 refine wpAny_bind ?_
 simp only [newExc,newTuple]
 refine wpAny_bind (wpAny_newObj_type ?_ (by size_fits))
 refine wpAny_bind (m:=firstArgMember _ _) (wpAny_of_eq (a:=Value.none) (by first | rfl | (simp only [firstArgMember]; rfl)) ?_)
 refine wpAny_newObj_type ?_ (by size_fits)
 simp only [raiseNew]
 refine wpAny_bind (wpAny_handled ?_)
 rw [show A.in1.handled=none from hh]
 refine wpAny_bind (wpAny_pure (wpAny_throw ?_))
 refine wpAny_bind (wpAny_isInstance (T:="StopIteration") (b:=true) ⟨_,Heap.get?_push_size _ rfl,rfl⟩ isSubtype_stop ?_)
 exact wpAny_pure (hQ _ ((((Heap.SameBut.update ..).trans (Heap.SameBut.update ..)).extBut.push _).push _))
noncomputable def ordD (es:Array (Int×Value)) (ys:List Nat):List (Int×Value):=ys.map fun j=>es[j]?.getD (0,.none)
theorem range_ord (es:Array (Int×Value)):ordD es (List.range es.size)=es.toList:=by
 unfold ordD
 apply List.ext_getElem?
 intro k
 have e2:es.toList[k]?=es[k]?:=Array.getElem?_toList ..
 rw [List.getElem?_map,e2]
 by_cases h:k < es.size
 ·rw [List.getElem?_range h,Array.getElem?_eq_getElem h]; simp [h]
 ·rw [List.getElem?_eq_none (by simpa using h),Array.getElem?_eq_none (by lia)]; rfl
theorem ordD_perm {es:Array (Int×Value)} {ys:List Nat} (h:ys.Perm (List.range es.size)):(ordD es ys).Perm es.toList:=by
 rw [← range_ord es]
 exact h.map _
theorem walk_D {a tp I:Addr} (h1:a≠I) (h2:tp≠I) {ep n nt:Nat} {o ot:Obj} {es:Array (Int×Value)} {t:SetTable} {ys:List Nat} (hh:A.handled=none) (hd:o.data=.set es ep t) (hf:t.fits es.size=true) (hn:es.size=n) (hdt:ot.data=.seq (ys.map fun (i:Nat)=>rawInt i).toArray nt) (hy:ys.Perm (List.range n)) :
  Walks prog w A I [I,a,tp] [I] n (fun i v=>∃ e,(ordD es ys)[i]?=some e∧v=e.2) (fun i h=>SIter h I a (.ref tp) i n ep∧h.get? a=some o∧h.get? tp=some ot) where
 sub:=fun b hb=>by simp at hb; simp [hb]
 frame:=fun i h h' st hk=>by
  obtain ⟨⟨oi,q1,q2⟩,q3,q4⟩:=st
  exact ⟨⟨oi,hk I (by simp) _ q1,q2⟩,hk a (by simp) _ q3,hk tp (by simp) _ q4⟩
 item:=fun i s Q E hi st hQ=>by
  obtain ⟨hit,ho,hot⟩:=st
  have hl:ys.length=n:=by rw [hy.length_eq,List.length_range]
  obtain ⟨p,hp⟩:∃ p,ys[i]?=some p:=⟨ys[i],List.getElem?_eq_getElem (by lia)⟩
  have hpn:p < n:=by simpa using hy.mem_iff.mp (List.mem_of_getElem? hp)
  obtain ⟨x,hx⟩:∃ x,es[p]?=some x:=⟨es[p],Array.getElem?_eq_getElem (by lia)⟩
  refine next_drawn hit ho hd hf hn hot hdt (p:=p) (x:=x) ?_ hx fun h' it' sb=>hQ x.2 h' s.toks ⟨x,?_,rfl⟩ ⟨it',?_,?_⟩ fun b ob hb e=>?_
  ·rw [List.getElem?_toArray,List.getElem?_map,hp]; rfl
  ·unfold ordD; rw [List.getElem?_map,hp]; simp [hx]
  ·rw [sb.2 a h1]; exact ho
  ·rw [sb.2 tp h2]; exact hot
  ·rw [sb.2 b (fun z=>hb (by simp [z]))]; exact e
 done:=fun s Q E st hQ=>by
  obtain ⟨hit,ho,hot⟩:=st
  have hl:ys.length=n:=by rw [hy.length_eq,List.length_range]
  exact stop_D hh hit ho hd hf hn hot hdt (by rw [List.getElem?_toArray]; exact List.getElem?_eq_none (by rw [List.length_map]; lia)) fun h' eb=>hQ h' s.toks fun b o hb e=>eb b o (fun z=>hb (by simp [z])) e
 self:=fun i s Q E st hQ=>by
  obtain ⟨hit,ho⟩:=st
  refine wpAny_pyIter_slot hit.typeIs slot_si_iter (wpAny_call_entry slot_si_iter hit.typeIs entry_si_iter ?_ (args_si_iter _))
  show wpAny _ _ (ret (.ref I)) _ _ s
  exact wpAny_pure ⟨_,rfl,"set_iterator",_,hit.typeIs,slot_si_next.lookup,hQ⟩
end
end L2
namespace L2
open PySem PySem.Spec PyProof.Rows PySem.W
section
variable {prog:Program} {w:World} {A:Around} {E:Value→Shared→Prop} {s:Shared}
theorem ext_G {R:Result→Shared→Prop} {T:String} {S r:Addr} {n:Nat} {OkP:(Nat→Value→Prop)→Prop} (hT:∀ s':Shared,(∀ b o,s.heap.get? b=some o→s'.heap.get? b=some o)→s'.TypeIs (.ref r) T) (nl:(Value.type T == Value.type "list")=false) (nt:(Value.type T == Value.type "tuple")=false)
  (hint:∀ (E:Value→Shared→Prop) (s':Shared) (Q:Bool→Shared→Prop),s'.TypeIs (.ref r) T→Q false s'→wpAny (model prog w) A.in1 (Builtin.List.listLengthHint (.ref r)) Q E s')
  (hS:s.heap.get? S=some { cls:=.type "list",data:=.seq #[] 0 }) (hSr:S≠r) (hn:n≤sizeLine)
  (hit:∀ (E:Value→Shared→Prop) (Q:Value→Shared→Prop),(∀ I h1 d1 fp St P,OkP P→Walks prog w A.in1 I fp [I] n P St→St 0 h1→S ∉ fp→s.heap.objs.size≤I→(∀ b o,s.heap.get? b=some o→h1.get? b=some o)→Q (.ref I) { s with heap:=h1,drawn:=d1 })→wpAny (model prog w) A.in1 (pyIter (.ref r)) Q E s)
  (hR:∀ P h' tk d' acc' c',OkP P→(∀ b o,b≠S→s.heap.get? b=some o→h'.get? b=some o)→h'.get? S=some { cls:=.type "list",dict:=none,data:=.seq acc' c',slots:=#[] }→ItemsOf P acc' n→R (.ok (.ret (.ref S))) { s with heap:=h',toks:=tk,drawn:=d' }) :
  codeAny (model prog w) A (.builtin "list.__iadd__" ⟨[.ref S,.ref r],[]⟩) R s:=by
 refine codeAny_builtin entry_list_iadd' ?_
 rw [Around.under_plainId PySem.F.plain_list_iadd _]
 show wpAny _ _ (Builtin.List.listExtendWith (.ref S) (.ref r) (.ref S)) _ _ s
 unfold Builtin.List.listExtendWith
 refine wpAny_bind (wpAny_typeOf (hT s fun _ _ e=>e) ?_)
 have e1:Builtin.List.listSameRef (.ref S) (.ref r)=false:=by simp [Builtin.List.listSameRef,hSr]
 simp only [e1,nl,nt,Bool.or_false,Bool.false_eq_true,if_false]
 refine wpAny_bind (hit _ _ fun I h1 d1 fp St P okP W st hSf hI k1=>?_)
 have hSI:S≠I:=fun z=>Nat.lt_irrefl _ (Nat.lt_of_lt_of_le (Heap.lt_size hS) (by rw [z]; exact hI))
 have loop:∀ (h:Heap) (c tk:Nat),St 0 h→(∀ b o,b≠S→h1.get? b=some o→h.get? b=some o)→h.get? S=some { cls:=.type "list",data:=.seq #[] c } →
   codeAny (model prog w) A (.builtin "list.extend.loop" ⟨[.ref S,.ref I,.ref S],[]⟩) R { s with heap:=h,toks:=tk,drawn:=d1 }:=fun h c tk hst hk hS1=>by
  refine codeAny_extend_loopS W.toS hn S hSf (.ref S) n 0 _ #[] c rfl (Nat.zero_le _) hst hS1 (ItemsOf.nil _) fun s' acc' c' hm hS' hacc=>?_
  rw [Moved.eq_with hm]
  refine hR P s'.heap s'.toks d1 acc' c' okP (fun b o hb e=>hm.heap b o (fun hmem=>?_) (hk b o hb (k1 b o e))) hS' hacc
  rcases List.mem_cons.mp hmem with z | z
  ·exact hb z
  ·rw [List.mem_singleton.mp z] at e
   exact Nat.lt_irrefl _ (Nat.lt_of_lt_of_le (Heap.lt_size e) hI)
 have hS1:=k1 S _ hS
 refine wpAny_bind (wpAny_holding (hint _ _ _ (hT _ k1) ?_))
 refine wpAny_ite_split (fun _=>?_) (fun _=>wpAny_pure ⟨plainId_quiet PySem.F.plain_extend_loop _,loop h1 0 s.toks st (fun b o _ e=>e) hS1⟩)
 refine wpAny_bind (wpAny_rule (wpAny_bind ?_))
 show wpAny _ _ (updateSeq S (·.push .none) >>= fun _=>updateSeq S (·.pop)) _ _ _
 refine wpAny_bind (wpAny_updateSeq hS1 rfl ?_)
 have hS2:=Heap.get?_update_self (Obj.mapSeq (·.push Value.none)) hS1 rfl
 refine wpAny_updateSeq (hz:=by seq_fits) hS2 rfl ?_
 have hS3:=Heap.get?_update_self (Obj.mapSeq (·.pop)) hS2 rfl
 have oth:∀ b o,b≠S→h1.get? b=some o→((h1.update S (Obj.mapSeq (·.push Value.none))).update S (Obj.mapSeq (·.pop))).get? b=some o:=fun b o hb e=>by
  rw [Heap.get?_update_other _ _ (Ne.symm hb),Heap.get?_update_other _ _ (Ne.symm hb)]; exact e
 exact wpAny_pure ⟨plainId_quiet PySem.F.plain_extend_loop _,loop _ _ _ (W.frame 0 _ _ st fun b hb o e=>oth b o (fun z=>hSf (z ▸ hb)) e) oth hS3⟩
theorem collect_G {a:Addr} {ks:List Int} {Q:List Value→Shared→Prop} (hh:A.handled=none) (hS:SetG prog w s.heap a ks)
  (q:∀ (vs:List Value) (ms:List Int) (g:Heap) (tk:Nat) (d':Drawn),IntsAre vs ms→ms.Perm ks→(∀ b o,s.heap.get? b=some o→g.get? b=some o)→s.heap.objs.size < g.objs.size→Q vs { s with heap:=g,toks:=tk,drawn:=d' }) :
  wpAny (model prog w) A (collect (.ref a)) Q E s:=by
 have hlen:=hS.len
 obtain ⟨o,es,ep,t,ho,hex,hd,hel,⟨ms,hv,hp⟩,nd,hb,hf,ok,hled⟩:=hS
 have szl:=sizeLine_eq
 have sb:scanBound=4096:=rfl
 have hb':es.size < 4096:=by rw [← sb]; exact hb
 unfold collect
 refine wpAny_bind (wpAny_runValue (codeAny_builtin entry_proto_collect' ?_))
 show wpAny _ _ (do again (.builtin "list.__iadd__" ⟨[← newList [],.ref a],[]⟩)) _ _ s
 have hlt:=Heap.lt_size ho
 have ne:s.heap.objs.size≠a:=Nat.ne_of_gt hlt
 have ho1:(s.heap.push (seqObj "list" #[] 0)).get? a=some o:=Heap.get?_push_of_some _ ho
 have z1:(s.heap.push (seqObj "list" #[] 0)).objs.size=s.heap.objs.size + 1:=size_push' _ _
 refine wpAny_bind (wpAny_newList (wpAny_pure ⟨Code.quiet_builtin _ (by decide +kernel),?_⟩))
 have fin:∀ (ord:List (Int×Value)),ord.Perm es.toList→∀ h' tk d' acc' c',(∀ b ob,b≠s.heap.objs.size→(s.heap.push (seqObj "list" #[] 0)).get? b=some ob→h'.get? b=some ob)→h'.get? s.heap.objs.size=some { cls:=.type "list",dict:=none,data:=.seq acc' c',slots:=#[] }→ItemsOf (fun i v=>∃ e,ord[i]?=some e∧v=e.2) acc' es.size→Q acc'.toList { s with heap:=h',toks:=tk,drawn:=d' }:=fun ord po h' tk d' acc' c' k hS' hacc=>by
  obtain ⟨sz,it⟩:=hacc
  have el:acc'.toList=ord.map (·.2):=by
   apply List.ext_getElem?
   intro j
   have ea:acc'.toList[j]?=acc'[j]?:=Array.getElem?_toList ..
   rw [ea,List.getElem?_map]
   have lo:ord.length=es.size:=by rw [po.length_eq,Array.length_toList]
   by_cases hj:j < es.size
   ·have ev:acc'[j]?=some acc'[j]:=Array.getElem?_eq_getElem (by lia)
    obtain ⟨e,h1,h2⟩:=it j _ ev
    rw [ev,h1,h2]; rfl
   ·rw [Array.getElem?_eq_none (by lia),List.getElem?_eq_none (by lia)]; rfl
  obtain ⟨ns,n1,n2⟩:=vals_perm (po.map (·.2)) hv
  rw [← el] at n1
  refine q acc'.toList ns h' tk d' (intsAre_of n1) (n2.trans hp) (fun b ob e=>k b ob (fun z=>?_) (Heap.get?_push_of_some _ e)) (Heap.lt_size hS')
  rw [z] at e
  exact absurd (Heap.lt_size e) (Nat.lt_irrefl _)
 by_cases hmode:byT w=true∨(!t.plain && decide (es.size > 1))=false
 ·refine ext_G (T:="set") (s:={ s with heap:=s.heap.push (seqObj "list" #[] 0) }) (n:=es.size) (OkP:=fun P=>P=fun i v=>∃ e,(ordOf w a ep es)[i]?=some e∧v=e.2) (fun s' k=>⟨o,k a o ho1,hex.1⟩) (by decide) (by decide) (fun E s' Q hT h=>hint_L hT h) (Heap.get?_push_size _ rfl) ne (by lia) (fun E Q hQ=>?_) fun P h' tk d' acc' c' okP k hS' hacc=>?_
  ·refine iter_G ho1 hex.1 hd hf rfl hmode ?_
   refine hQ _ _ s.drawn [_,a] _ _ rfl (walk_G (A:=A.in1) (Nat.ne_of_lt (Heap.lt_size ho1)) hh hd hf rfl ok hmode hled) ⟨⟨0,fun _=>below_zero ok.rise,_,Heap.get?_push_size _ rfl,rfl,rfl⟩,Heap.get?_push_of_some _ ho1⟩ ?_ (Nat.le_refl _) fun b ob e=>Heap.get?_push_of_some _ e
   simp only [List.mem_cons,List.not_mem_nil,or_false,not_or]
   exact ⟨by show s.heap.objs.size≠(s.heap.push (seqObj "list" #[] 0)).objs.size; lia,ne⟩
  ·subst okP
   show wpAny _ _ (load s.heap.objs.size >>= _) Q E _
   refine wpAny_bind (wpAny_load hS' (wpAny_pure ?_))
   exact fin _ (ord_perm w a ep es) h' tk d' acc' c' k hS' ⟨hacc.1,fun j v hj=>by obtain ⟨e,h1,h2⟩:=hacc.2 j v hj; exact ⟨e,by rw [Array.getElem?_toList]; exact h1,h2⟩⟩
 ·have hbt:byT w=false:=by
   cases e:byT w with
   | false=>rfl
   | true=>exact absurd (.inl e) hmode
  have hdr:(!t.plain && decide (es.size > 1))=true:=by
   cases e:(!t.plain && decide (es.size > 1)) with
   | true=>rfl
   | false=>exact absurd (.inr e) hmode
  refine ext_G (T:="set") (s:={ s with heap:=s.heap.push (seqObj "list" #[] 0) }) (n:=es.size) (OkP:=fun P=>∃ ys:List Nat,ys.Perm (List.range es.size)∧P=fun i v=>∃ e,(ordD es ys)[i]?=some e∧v=e.2) (fun s' k=>⟨o,k a o ho1,hex.1⟩) (by decide) (by decide) (fun E s' Q hT h=>hint_L hT h) (Heap.get?_push_size _ rfl) ne (by lia) (fun E Q hQ=>?_) fun P h' tk d' acc' c' okP k hS' hacc=>?_
  ·refine iter_D ho1 hex.1 hd hf rfl (by lia) hbt hdr fun ys d' hy=>?_
   have ho2:=fun ob=>Heap.get?_push_of_some ob (Heap.get?_push_of_some (seqObj "tuple" (ys.map fun (i:Nat)=>rawInt i).toArray 0) ho1)
   have z2:((s.heap.push (seqObj "list" #[] 0)).push (seqObj "tuple" (ys.map fun (i:Nat)=>rawInt i).toArray 0)).objs.size=s.heap.objs.size + 1 + 1:=by rw [size_push',z1]
   have z3:(s.heap.push (seqObj "list" #[] 0)).objs.size + 1=((s.heap.push (seqObj "list" #[] 0)).push (seqObj "tuple" (ys.map fun (i:Nat)=>rawInt i).toArray 0)).objs.size:=by rw [z1,z2]
   have na:a≠(s.heap.push (seqObj "list" #[] 0)).objs.size + 1:=by rw [z1]; exact Nat.ne_of_lt (Nat.lt_trans hlt (Nat.lt_succ_of_lt (Nat.lt_succ_self _)))
   refine hQ _ _ d' [_,a,(s.heap.push (seqObj "list" #[] 0)).objs.size] _ _ ⟨ys,hy,rfl⟩ (walk_D (A:=A.in1) (tp:=(s.heap.push (seqObj "list" #[] 0)).objs.size) (ot:=seqObj "tuple" (ys.map fun (i:Nat)=>rawInt i).toArray 0) na (Nat.ne_of_lt (Nat.lt_succ_self _)) hh hd hf rfl rfl hy) ⟨⟨oIterD a (s.heap.push (seqObj "list" #[] 0)).objs.size es.size ep,?_,rfl,rfl⟩,ho2 _,?_⟩ ?_ (Nat.le_succ _) fun b ob e=>Heap.get?_push_of_some _ (Heap.get?_push_of_some _ e)
   ·show _=some (oIterD a (s.heap.push (seqObj "list" #[] 0)).objs.size es.size ep)
    rw [z3]
    exact Heap.get?_push_size _ rfl
   ·exact Heap.get?_push_of_some _ (Heap.get?_push_size _ rfl)
   ·simp only [List.mem_cons,List.not_mem_nil,or_false,not_or]
    refine ⟨?_,ne,?_⟩
    ·show s.heap.objs.size≠(s.heap.push (seqObj "list" #[] 0)).objs.size + 1
     lia
    ·show s.heap.objs.size≠(s.heap.push (seqObj "list" #[] 0)).objs.size
     lia
  ·obtain ⟨ys,hy,rfl⟩:=okP
   show wpAny _ _ (load s.heap.objs.size >>= _) Q E _
   refine wpAny_bind (wpAny_load hS' (wpAny_pure ?_))
   exact fin _ (ordD_perm hy) h' tk d' acc' c' k hS' hacc
end
end L2
namespace L2
open PySem PySem.Spec PyProof.Rows
section
variable {prog:Program} {w:World} {A:Around} {E:Value→Shared→Prop} {s:Shared}
end
end L2
namespace L2
open PySem PySem.Spec PyProof.Rows
theorem bt_set:bootBuiltins "set"=some (.type "set"):=by decide +kernel
section
variable {X:Cx}
end
end L2
namespace L2
open PySem PySem.Spec PyProof.Rows PySem.W
theorem strict_of {ms:List Int} (h1:ms.Pairwise (·≤·)) (h2:ms.Nodup):ms.Pairwise (· < ·) :=
 List.Pairwise.imp₂ (fun a b hle hne=>by lia) h1 h2
theorem strict_unique:∀ {a b:List Int},a.Pairwise (· < ·)→b.Pairwise (· < ·)→(∀ m,m∈a↔m∈b)→a=b
 | [],[],_,_,_=>rfl
 | [],y :: t,_,_,h=>by have:=(h y).mpr (List.mem_cons_self ..); cases this
 | x :: r,[],_,_,h=>by have:=(h x).mp (List.mem_cons_self ..); cases this
 | x :: r,y :: t,ha,hb,h=>by
  have h1:=List.pairwise_cons.mp ha
  have h2:=List.pairwise_cons.mp hb
  have e:x=y:=by
   rcases List.mem_cons.mp ((h x).mp (List.mem_cons_self ..)) with e | m1
   ·exact e
   ·rcases List.mem_cons.mp ((h y).mpr (List.mem_cons_self ..)) with e | m2
    ·exact e.symm
    ·have:=h1.1 y m2; have:=h2.1 x m1; lia
  subst e
  rw [strict_unique h1.2 h2.2 fun m=>?_]
  constructor
  ·intro hm
   rcases List.mem_cons.mp ((h m).mp (List.mem_cons_of_mem _ hm)) with e | q
   ·have:=h1.1 m hm; lia
   ·exact q
  ·intro hm
   rcases List.mem_cons.mp ((h m).mpr (List.mem_cons_of_mem _ hm)) with e | q
   ·have:=h2.1 m hm; lia
   ·exact q
section
variable {prog:Program} {w:World} {A:Around} {E:Value→Shared→Prop} {s:Shared}
theorem sorted_tail {a:Addr} {C:List Int→Prop} {Q:Value→Shared→Prop} (hc:∀ (Q2:List Value→Shared→Prop) (E2:Value→Shared→Prop),(∀ (vs:List Value) (ms:List Int) (g:Heap) (tk:Nat) (d':Drawn),IntsAre vs ms→C ms→(∀ b o,s.heap.get? b=some o→g.get? b=some o)→s.heap.objs.size < g.objs.size→Q2 vs { s with heap:=g,toks:=tk,drawn:=d' })→wpAny (model prog w) A.in1 (collect (.ref a)) Q2 E2 s) (hz:∀ ms,C ms→ms.length≤900000)
  (h:∀ (out:Array Value) (ms ms':List Int) (g:Heap) (e tk:Nat) (d':Drawn) (p:Addr),C ms→IntsAre out.toList ms'→ms'.Perm ms→ms'.Pairwise (·≤·)→(∀ b o,s.heap.get? b=some o→g.get? b=some o)→s.heap.objs.size≤p→g.get? p=some (seqObj "list" out e)→Q (.ref p) { s with heap:=g,toks:=tk,drawn:=d' }) :
  wpAny (model prog w) A (call (.builtin "sorted") [.ref a]) Q E s:=by
 refine Calls.call_function_entry kind_sorted plain_sorted entry_sorted (args_sorted1 _) ?_
 unfold Builtin.«sorted»
 refine wpAny_bind (m:=checkCount "sorted" 1 1 _) (wpAny_pure ?_)
 refine wpAny_bind (hc _ _ fun vs ms g1 tk d' hI hC k1 z1=>?_)
 have hlen:vs.length=ms.length:=by have:=(vals_ints hI).length; rw [List.length_map] at this; exact this.symm
 have hlz:=hz ms hC
 have szl:=sizeLine_eq
 refine wpAny_bind (wpAny_newList ?_ (by lia))
 have gL:(g1.push (seqObj "list" vs.toArray 0)).get? g1.objs.size=some (seqObj "list" vs.toArray 0):=Heap.get?_push_size _ rfl
 refine wpAny_bind (wpAny_holding (wpAny_call_entry slot_list_sort ⟨_,gL,rfl⟩ entry_list_sort (sort_ints gL hI (by lia) fun out ns' a1 a2 a3=>⟨_,rfl,?_⟩) (args_list_sort _)))
 obtain ⟨e,at1⟩:=sortedHeap_at (out:=out) gL
 have old:∀ b o,s.heap.get? b=some o→(sortedHeap (g1.push (seqObj "list" vs.toArray 0)) g1.objs.size vs out).get? b=some o:=fun b o hb=>by
  have hlt:b < g1.objs.size:=Heap.lt_size (k1 b o hb)
  rw [sortedHeap_old (Nat.ne_of_lt hlt) (by rw [size_push']; exact Nat.lt_succ_of_lt hlt),Heap.get?_push_ne _ _ _ (Nat.ne_of_lt hlt)]
  exact k1 b o hb
 exact wpAny_pure ⟨_,rfl,h out ms ns' _ e tk d' g1.objs.size hC a1 a2 a3 old (Nat.le_of_lt z1) at1⟩
end
section
variable {X:Cx}
theorem Inv.drew {pins:List (Addr×Obj)} {σ:St} {H:Hp} {s:Shared} (I:Inv X pins σ H s) (d':Drawn):Inv X pins σ H { s with drawn:=d' }:=⟨I.ok,I.os,I.bare,I.base,I.loc,I.cell,I.free,I.freeC,I.pin,I.hok,I.len⟩
end
end L2
namespace Law
open PySem L2
inductive Mix:List Int→List Int→List Int→Prop
 | nil:Mix [] [] []
 | l {xs ys zs:List Int} (n:Int):Mix xs ys zs→Mix (n :: xs) ys (n :: zs)
 | r {xs ys zs:List Int} (n:Int):Mix xs ys zs→Mix xs (n :: ys) (n :: zs)
theorem Mix.len {xs ys zs:List Int} (h:Mix xs ys zs):zs.length=xs.length + ys.length:=by
 induction h with
 | nil=>rfl
 | l n _ ih=>simp only [List.length_cons,ih]; lia
 | r n _ ih=>simp only [List.length_cons,ih]; lia
theorem Mix.mem {xs ys zs:List Int} (h:Mix xs ys zs):∀ m,m∈zs↔m∈xs∨m∈ys:=by
 induction h with
 | nil=>simp
 | l n _ ih=>intro m; simp only [List.mem_cons,ih]; exact or_assoc.symm
 | r n _ ih=>intro m; simp only [List.mem_cons,ih]; exact or_left_comm
theorem Mix.swap {xs ys zs:List Int} (h:Mix xs ys zs):Mix ys xs zs:=by
 induction h with
 | nil=>exact .nil
 | l n _ ih=>exact .r n ih
 | r n _ ih=>exact .l n ih
noncomputable def Deed (a b w:Int):Prop:=w=a + b∨(b < a∧w=a - b)∨w=a * b∨(a % b=0∧w=a / b)
inductive MetL:List Int→Int→Prop
 | one {n:Int}:1≤n→MetL [n] n
 | two {xs ys zs:List Int} {a b w:Int}:Mix xs ys zs→xs≠[]→ys≠[]→MetL xs a→MetL ys b→Deed a b w→MetL zs w
theorem Deed.pos {a b w:Int} (h:Deed a b w) (ha:1≤a) (hb:1≤b):1≤w:=by
 rcases h with rfl | ⟨h,rfl⟩ | rfl | ⟨h,rfl⟩
 ·lia
 ·lia
 ·exact Int.le_trans ha (by have:=Int.mul_le_mul_of_nonneg_left hb (show 0≤a by lia); lia)
 ·have e:=Int.ediv_mul_cancel_of_emod_eq_zero h
  have h2:0≤a / b:=Int.ediv_nonneg (by lia) (by lia)
  rcases Int.lt_or_le (a / b) 1 with h3 | h3
  ·have z:a / b=0:=by lia
   rw [z,Int.zero_mul] at e; lia
  ·exact h3
theorem MetL.pos {zs:List Int} {w:Int} (h:MetL zs w):1≤w:=by
 induction h with
 | one h=>exact h
 | two _ _ _ _ _ d ha hb=>exact d.pos ha hb
theorem Deed.le {a b w:Int} (h:Deed a b w) (ha:1≤a) (hb:1≤b):w≤2 * (a * b):=by
 have h1:a≤a * b:=by have:=Int.mul_le_mul_of_nonneg_left hb (show 0≤a by lia); lia
 have h2:b≤a * b:=by have:=Int.mul_le_mul_of_nonneg_right ha (show 0≤b by lia); lia
 rcases h with rfl | ⟨h,rfl⟩ | rfl | ⟨h,rfl⟩
 ·lia
 ·lia
 ·lia
 ·have:=Int.ediv_le_self b (show 0≤a by lia); lia
theorem MetL.big {zs:List Int} {w:Int} (h:MetL zs w) (hz:∀ n∈zs,n≤1000000):2 * w≤2 ^ (21 * zs.length):=by
 induction h with
 | @one n h =>
  have:=hz n (by simp)
  show 2 * n≤2 ^ 21
  have:(2:Int) ^ 21=2097152:=by decide
  lia
 | @two xs ys zs a b w m _ _ h1 h2 d ia ib =>
  have a1:=h1.pos
  have b1:=h2.pos
  have ia:=ia fun n hn=>hz n ((m.mem n).mpr (.inl hn))
  have ib:=ib fun n hn=>hz n ((m.mem n).mpr (.inr hn))
  have l:=d.le a1 b1
  have e:(2:Int) ^ (21 * zs.length)=2 ^ (21 * xs.length) * 2 ^ (21 * ys.length):=by
   rw [m.len,Nat.mul_add,Int.pow_add]
  rw [e]
  have p:=Int.mul_le_mul ia ib (by lia) (by lia)
  have e2:2 * a * (2 * b)=2 * (2 * (a * b)):=by rw [Int.mul_assoc,Int.mul_left_comm a 2 b]
  lia
theorem MetL.small {zs:List Int} {w:Int} (h:MetL zs w) (hl:zs.length≤4) (hz:∀ n∈zs,n≤1000000):w < 2 ^ 90:=by
 have h1:=h.big hz
 have h2:(2:Nat) ^ (21 * zs.length)≤2 ^ 84:=Nat.pow_le_pow_right (by decide) (by lia)
 have h3:(2:Int) ^ (21 * zs.length)≤2 ^ 84:=by exact_mod_cast h2
 have h4:(2:Int) ^ 84 < 2 ^ 90:=by decide
 have h5:=h.pos
 lia
theorem MetL.ne {zs:List Int} {w:Int} (h:MetL zs w):zs≠[]:=by
 intro e
 cases h with
 | one _=>cases e
 | @two xs ys _ _ _ _ m x y _ _ _ =>
  subst e
  have:=m.len
  cases xs with
  | nil=>exact x rfl
  | cons _ _=>simp at this; lia
theorem met_one {n w:Int}:MetL [n] w↔w=n∧1≤n:=by
 constructor
 ·intro h
  cases h with
  | one h=>exact ⟨rfl,h⟩
  | @two xs ys _ _ _ _ m x y _ _ _ =>
   have:=m.len
   cases xs with
   | nil=>exact absurd rfl x
   | cons _ _=>cases ys with
    | nil=>exact absurd rfl y
    | cons _ _=>simp at this; lia
 ·rintro ⟨rfl,h⟩; exact .one h
noncomputable def halves:List Int→List (List Int×List Int)
 | []=>[([],[])]
 | n :: r=>(halves r).flatMap fun p=>[(n :: p.1,p.2),(p.1,n :: p.2)]
theorem mem_halves {xs ys zs:List Int} (h:Mix xs ys zs):(xs,ys)∈halves zs:=by
 induction h with
 | nil=>simp [halves]
 | l n _ ih=>exact List.mem_flatMap.mpr ⟨_,ih,by simp⟩
 | r n _ ih=>exact List.mem_flatMap.mpr ⟨_,ih,by simp⟩
noncomputable def halfs:List Int→List (List Int×List Int)
 | []=>[]
 | n :: r=>((halves r).map fun p=>(n :: p.1,p.2)).filter fun p=>!p.2.isEmpty
theorem mem_halfs {xs ys zs:List Int} (h:Mix xs ys zs) (hx:xs≠[]) (hy:ys≠[]):(xs,ys)∈halfs zs∨(ys,xs)∈halfs zs:=by
 cases h with
 | nil=>exact absurd rfl hx
 | l n h =>
  refine .inl (List.mem_filter.mpr ⟨List.mem_map.mpr ⟨_,mem_halves h,rfl⟩,?_⟩)
  cases ys with
  | nil=>exact absurd rfl hy
  | cons _ _=>rfl
 | r n h =>
  refine .inr (List.mem_filter.mpr ⟨List.mem_map.mpr ⟨_,mem_halves h.swap,rfl⟩,?_⟩)
  cases xs with
  | nil=>exact absurd rfl hx
  | cons _ _=>rfl
noncomputable def words6 (a b:Int):List Int:=[a + b,a - b,b - a,a * b,a / b,b / a]
theorem deed6 {a b w:Int} (h:Deed a b w):w∈words6 a b∧w∈words6 b a:=by
 rcases h with rfl | ⟨_,rfl⟩ | rfl | ⟨_,rfl⟩
 ·exact ⟨by simp [words6],by simp [words6,Int.add_comm]⟩
 ·exact ⟨by simp [words6],by simp [words6]⟩
 ·exact ⟨by simp [words6],by simp [words6,Int.mul_comm]⟩
 ·exact ⟨by simp [words6],by simp [words6]⟩
noncomputable def both (f:List Int→List Int) (p:List Int×List Int):List Int:=(f p.1).flatMap fun x=>(f p.2).flatMap fun y=>words6 x y
noncomputable def cand':Nat→List Int→List Int
 | 0,_=>[]
 | k + 1,zs=>if zs.length=1 then zs else (halfs zs).flatMap (both (cand' k))
theorem mem_cand {zs:List Int} {w:Int} (h:MetL zs w):∀ k,zs.length≤k→w∈cand' k zs:=by
 induction h with
 | one _ =>
  intro k hk
  match k,hk with
  | k + 1,_=>simp [cand']
 | @two xs ys zs a b w m hx hy h1 h2 d ia ib =>
  intro k hk
  have l:=m.len
  have lx:0 < xs.length:=List.length_pos_iff.mpr hx
  have ly:0 < ys.length:=List.length_pos_iff.mpr hy
  match k,hk with
  | 0,hk=>lia
  | k + 1,hk =>
   rw [cand',if_neg (by lia)]
   obtain ⟨d1,d2⟩:=deed6 d
   rcases mem_halfs m hx hy with q | q
   ·exact List.mem_flatMap.mpr ⟨_,q,List.mem_flatMap.mpr ⟨a,ia k (by lia),List.mem_flatMap.mpr ⟨b,ib k (by lia),d1⟩⟩⟩
   ·exact List.mem_flatMap.mpr ⟨_,q,List.mem_flatMap.mpr ⟨b,ib k (by lia),List.mem_flatMap.mpr ⟨a,ia k (by lia),d2⟩⟩⟩
theorem both_len (f:List Int→List Int) (p:List Int×List Int):(both f p).length=(f p.1).length * ((f p.2).length * 6):=by
 unfold both
 have h1:∀ (x:Int) (l:List Int),(l.flatMap fun y=>words6 x y).length=l.length * 6:=by
  intro x l
  induction l with
  | nil=>rfl
  | cons y l ih=>rw [List.flatMap_cons,List.length_append,ih,List.length_cons,Nat.succ_mul]; show 6 + _=_; lia
 generalize f p.1=l
 induction l with
 | nil=>simp
 | cons x l ih=>rw [List.flatMap_cons,List.length_append,ih,h1,List.length_cons,Nat.succ_mul]; lia
theorem cand_len1 (k:Nat) (a:Int):(cand' (k + 1) [a]).length=1:=rfl
theorem cand_len2 (k:Nat) (a b:Int):(cand' (k + 2) [a,b]).length=6:=by
 show ((both (cand' (k + 1)) ([a],[b]))++[]).length=6
 rw [List.append_nil,both_len,cand_len1,cand_len1]
theorem cand_len3 (k:Nat) (a b c:Int):(cand' (k + 3) [a,b,c]).length=108:=by
 rw [cand',if_neg (by simp),show halfs [a,b,c]=[([a,c],[b]),([a,b],[c]),([a],[b,c])] from rfl]
 simp only [List.flatMap_cons,List.flatMap_nil,List.length_append,both_len]
 rw [cand_len1 (k + 1),cand_len1 (k + 1),cand_len1 (k + 1),cand_len2 k,cand_len2 k,cand_len2 k]
 rfl
theorem cand_len4 (k:Nat) (a b c d:Int):(cand' (k + 4) [a,b,c,d]).length=3240:=by
 rw [cand',if_neg (by simp),show halfs [a,b,c,d]=[([a,c,d],[b]),([a,b,d],[c]),([a,d],[b,c]),([a,b,c],[d]),([a,c],[b,d]),([a,b],[c,d]),([a],[b,c,d])] from rfl]
 simp only [List.flatMap_cons,List.flatMap_nil,List.length_append,both_len]
 simp only [cand_len1 (k + 2),cand_len2 (k + 1),cand_len3 k]
 rfl
noncomputable def bnd:Nat→Nat
 | 0=>0
 | 1=>1
 | 2=>6
 | 3=>108
 | _=>3240
theorem cand_len {zs:List Int} (h:zs.length≤4):(cand' 4 zs).length≤bnd zs.length:=by
 match zs,h with
 | [],_=>exact Nat.le_refl _
 | [a],_=>exact Nat.le_refl _
 | [a,b],_=>exact Nat.le_of_eq (cand_len2 2 a b)
 | [a,b,c],_=>exact Nat.le_of_eq (cand_len3 1 a b c)
 | [a,b,c,d],_=>exact Nat.le_of_eq (cand_len4 0 a b c d)
 | _ :: _ :: _ :: _ :: _ :: _,h=>simp at h
theorem nodup_len:∀ {a b:List Int},a.Nodup→(∀ x∈a,x∈b)→a.length≤b.length
 | [],b,_,_=>Nat.zero_le _
 | x :: a,b,nd,h=>by
  have hx:x∈b:=h x (by simp)
  have nd':=List.nodup_cons.mp nd
  have:=nodup_len (a:=a) (b:=b.erase x) nd'.2 fun y hy=>by
   have:y≠x:=fun e=>nd'.1 (e ▸ hy)
   exact (List.mem_erase_of_ne this).mpr (h y (by simp [hy]))
  rw [List.length_erase_of_mem hx] at this
  have hp:0 < b.length:=List.length_pos_of_mem hx
  rw [List.length_cons]; lia
theorem met_len {zs ks:List Int} (hl:zs.length≤4) (nd:ks.Nodup) (h:∀ k∈ks,MetL zs k):ks.length≤bnd zs.length :=
 Nat.le_trans (nodup_len nd fun x hx=>mem_cand (h x hx) 4 hl) (cand_len hl)
theorem strict_nodup {r:List Int} (h:r.Pairwise (· < ·)):r.Nodup:=h.imp fun h=>Int.ne_of_lt h
theorem rising (Pd:Int→Prop):∀ L:List Int,∃ r:List Int,r.Pairwise (· < ·)∧∀ m,m∈r↔m∈L∧Pd m
 | []=>⟨[],.nil,by simp⟩
 | x :: L=>by
  obtain ⟨r,h1,h2⟩:=rising Pd L
  by_cases hp:Pd x
  ·refine ⟨r.filter (· < x)++([x]++r.filter (x < ·)),?_,fun m=>?_⟩
   ·refine List.pairwise_append.mpr ⟨h1.filter _,List.pairwise_append.mpr ⟨List.pairwise_singleton _ _,h1.filter _,?_⟩,?_⟩
    ·intro a ha b hb
     rw [List.mem_singleton.mp ha]
     simpa using (List.mem_filter.mp hb).2
    ·intro a ha b hb
     have ha':a < x:=by simpa using (List.mem_filter.mp ha).2
     rcases List.mem_append.mp hb with hb | hb
     ·rw [List.mem_singleton.mp hb]; exact ha'
     ·have:x < b:=by simpa using (List.mem_filter.mp hb).2
      lia
   ·simp only [List.mem_append,List.mem_filter,List.mem_cons,List.not_mem_nil,or_false,h2,decide_eq_true_eq]
    constructor
    ·rintro (⟨⟨a,b⟩,_⟩ | e | ⟨⟨a,b⟩,_⟩)
     ·exact ⟨.inr a,b⟩
     ·exact ⟨.inl e,e ▸ hp⟩
     ·exact ⟨.inr a,b⟩
    ·rintro ⟨rfl | a,b⟩
     ·exact .inr (.inl rfl)
     ·rcases Int.lt_trichotomy m x with q | q | q
      ·exact .inl ⟨⟨a,b⟩,q⟩
      ·exact .inr (.inl q)
      ·exact .inr (.inr ⟨⟨a,b⟩,q⟩)
  ·refine ⟨r,h1,fun m=>?_⟩
   rw [h2,List.mem_cons]
   constructor
   ·rintro ⟨a,b⟩; exact ⟨.inr a,b⟩
   ·rintro ⟨rfl | a,b⟩
    ·exact absurd b hp
    ·exact ⟨a,b⟩
noncomputable def RowOf (Pd:Int→Prop) (r:List Int):Prop:=r.Pairwise (· < ·)∧∀ m,m∈r↔Pd m
theorem RowOf.one {Pd:Int→Prop} {a b:List Int} (h:RowOf Pd a) (g:RowOf Pd b):a=b:=strict_unique h.1 g.1 fun m=>(h.2 m).trans (g.2 m).symm
theorem row_ex (zs:List Int) (h:zs.length≤4):∃ r,RowOf (MetL zs) r:=by
 obtain ⟨r,h1,h2⟩:=rising (MetL zs) (cand' 4 zs)
 exact ⟨r,h1,fun m=>⟨fun q=>((h2 m).mp q).2,fun q=>(h2 m).mpr ⟨mem_cand q 4 h,q⟩⟩⟩
open Classical in
noncomputable def rowF (zs:List Int):List Int:=if h:∃ r,RowOf (MetL zs) r then h.choose else []
theorem row_of {zs:List Int} (h:zs.length≤4):RowOf (MetL zs) (rowF zs):=by
 have e:=row_ex zs h
 unfold rowF
 rw [dif_pos e]
 exact e.choose_spec
theorem row_len {zs:List Int} (h:zs.length≤4):(rowF zs).length≤bnd zs.length :=
 met_len h (strict_nodup (row_of h).1) fun k hk=>((row_of h).2 k).mp hk
theorem row_one {n:Int} (h:1≤n):rowF [n]=[n]:=(row_of (by simp)).one ⟨List.pairwise_singleton _ _,fun m=>by rw [met_one,List.mem_singleton]; exact ⟨fun e=>⟨e,h⟩,fun e=>e.1⟩⟩
end Law
namespace Law
open PySem L2
noncomputable def chosen:List Int→List Bool→List Int
 | n :: ns,b :: bs=>if b=true then n :: chosen ns bs else chosen ns bs
 | _,_=>[]
theorem chosen_t (n:Int) (ns:List Int) (bs:List Bool):chosen (n :: ns) (true :: bs)=n :: chosen ns bs:=rfl
theorem chosen_f (n:Int) (ns:List Int) (bs:List Bool):chosen (n :: ns) (false :: bs)=chosen ns bs:=rfl
theorem chosen_len:∀ {ns:List Int} {c:List Bool},ns.length=c.length→(chosen ns c).length=c.count true
 | [],[],_=>rfl
 | n :: ns,b :: c,h=>by
  have ih:=chosen_len (ns:=ns) (c:=c) (by simpa using h)
  cases b
  ·rw [chosen_f,ih]; simp
  ·rw [chosen_t,List.length_cons,ih]; simp
theorem chosen_mem:∀ {ns:List Int} {c:List Bool} {m:Int},m∈chosen ns c→m∈ns
 | [],_,_,h=>by unfold chosen at h; simp at h
 | _ :: _,[],_,h=>by unfold chosen at h; simp at h
 | n :: ns,b :: c,m,h=>by
  cases b
  ·exact List.mem_cons_of_mem _ (chosen_mem (c:=c) h)
  ·rcases List.mem_cons.mp h with h | h
   ·rw [h]; exact List.mem_cons_self
   ·exact List.mem_cons_of_mem _ (chosen_mem (c:=c) h)
theorem chosen_le (ns:List Int) (c:List Bool):(chosen ns c).length≤ns.length:=by
 induction ns generalizing c with
 | nil=>cases c <;> exact Nat.le_refl _
 | cons n ns ih =>
  cases c with
  | nil=>exact Nat.zero_le _
  | cons b c =>
   cases b
   ·exact Nat.le_trans (ih c) (by simp)
   ·exact Nat.succ_le_succ (ih c)
theorem any_count (c:List Bool):c.any id=true↔0 < c.count true:=by
 induction c with
 | nil=>simp
 | cons b c ih=>cases b <;> simp_all
theorem chosen_ne {ns:List Int} {c:List Bool} (h:ns.length=c.length):chosen ns c≠[]↔c.any id=true:=by
 rw [any_count,← chosen_len h,List.length_pos_iff]
inductive Spl:List Bool→List Bool→List Bool→Prop
 | nil:Spl [] [] []
 | t1 {a b c:List Bool}:Spl a b c→Spl (true :: a) (false :: b) (true :: c)
 | t2 {a b c:List Bool}:Spl a b c→Spl (false :: a) (true :: b) (true :: c)
 | f {a b c:List Bool}:Spl a b c→Spl (false :: a) (false :: b) (false :: c)
theorem Spl.len {a b c:List Bool} (h:Spl a b c):a.length=c.length∧b.length=c.length:=by
 induction h <;> simp_all
theorem Spl.mix {a b c:List Bool} (h:Spl a b c):∀ ns:List Int,ns.length=c.length→Mix (chosen ns a) (chosen ns b) (chosen ns c):=by
 induction h with
 | nil=>intro ns h; cases ns with
  | nil=>exact .nil
  | cons _ _=>cases h
 | t1 _ ih=>intro ns h; cases ns with
  | nil=>cases h
  | cons n ns=>exact .l n (ih ns (by simpa using h))
 | t2 _ ih=>intro ns h; cases ns with
  | nil=>cases h
  | cons n ns=>exact .r n (ih ns (by simpa using h))
 | f _ ih=>intro ns h; cases ns with
  | nil=>cases h
  | cons n ns=>exact ih ns (by simpa using h)
theorem mix_spl:∀ {c:List Bool} {ns xs ys:List Int},ns.length=c.length→Mix xs ys (chosen ns c)→∃ a b,Spl a b c∧chosen ns a=xs∧chosen ns b=ys
 | [],[],xs,ys,_,m=>by
  unfold chosen at m
  cases m
  exact ⟨[],[],.nil,rfl,rfl⟩
 | true :: c,n :: ns,xs,ys,h,m=>by
  rw [chosen_t] at m
  cases m with
  | l _ m =>
   obtain ⟨a,b,h1,h2,h3⟩:=mix_spl (by simpa using h) m
   exact ⟨true :: a,false :: b,.t1 h1,by rw [chosen_t,h2],by rw [chosen_f,h3]⟩
  | r _ m =>
   obtain ⟨a,b,h1,h2,h3⟩:=mix_spl (by simpa using h) m
   exact ⟨false :: a,true :: b,.t2 h1,by rw [chosen_f,h2],by rw [chosen_t,h3]⟩
 | false :: c,n :: ns,xs,ys,h,m=>by
  rw [chosen_f] at m
  obtain ⟨a,b,h1,h2,h3⟩:=mix_spl (by simpa using h) m
  exact ⟨false :: a,false :: b,.f h1,by rw [chosen_f,h2],by rw [chosen_f,h3]⟩
noncomputable def endsL (t:Bool):List (Bool×Bool):=if t=true then [(true,false),(false,true)] else [(false,false)]
noncomputable def stepSp (acc:List (List Bool×List Bool)) (t:Bool):List (List Bool×List Bool):=acc.flatMap fun p=>(endsL t).map fun e=>(p.1++[e.1],p.2++[e.2])
noncomputable def splS (c:List Bool):List (List Bool×List Bool):=c.foldl stepSp [([],[])]
theorem splS_snoc (c:List Bool) (t:Bool):splS (c++[t])=stepSp (splS c) t:=by unfold splS; rw [List.foldl_append]; rfl
theorem mem_fold:∀ (c:List Bool) (acc:List (List Bool×List Bool)) (p:List Bool×List Bool),p∈c.foldl stepSp acc↔∃ q∈acc,∃ a b,Spl a b c∧p=(q.1++a,q.2++b)
 | [],acc,p=>by
  show p∈acc↔_
  constructor
  ·intro h; exact ⟨p,h,[],[],.nil,by simp⟩
  ·rintro ⟨q,hq,a,b,h,rfl⟩
   cases h
   simpa using hq
 | t :: c,acc,p=>by
  rw [List.foldl_cons,mem_fold c]
  constructor
  ·rintro ⟨q,hq,a,b,h,rfl⟩
   obtain ⟨r,hr,h2⟩:=List.mem_flatMap.mp hq
   obtain ⟨e,he,rfl⟩:=List.mem_map.mp h2
   refine ⟨r,hr,e.1 :: a,e.2 :: b,?_,by simp⟩
   cases t
   ·simp [endsL] at he; subst he; exact .f h
   ·simp [endsL] at he
    rcases he with rfl | rfl
    ·exact .t1 h
    ·exact .t2 h
  ·rintro ⟨q,hq,a,b,h,rfl⟩
   have put:∀ (e:Bool×Bool) (a b:List Bool),e∈endsL t→Spl a b c→∃ q'∈stepSp acc t,∃ a' b',Spl a' b' c∧(q.1++e.1 :: a,q.2++e.2 :: b)=(q'.1++a',q'.2++b'):=fun e a b he h =>
    ⟨(q.1++[e.1],q.2++[e.2]),List.mem_flatMap.mpr ⟨q,hq,List.mem_map.mpr ⟨e,he,rfl⟩⟩,a,b,h,by simp⟩
   cases h with
   | t1 h=>exact put (true,false) _ _ (by simp [endsL]) h
   | t2 h=>exact put (false,true) _ _ (by simp [endsL]) h
   | f h=>exact put (false,false) _ _ (by simp [endsL]) h
theorem mem_splS {c:List Bool} {p:List Bool×List Bool}:p∈splS c↔Spl p.1 p.2 c:=by
 unfold splS
 rw [mem_fold]
 constructor
 ·rintro ⟨q,hq,a,b,h,rfl⟩
  rw [List.mem_singleton.mp hq]
  exact h
 ·intro h
  exact ⟨([],[]),by simp,p.1,p.2,h,rfl⟩
theorem splS_len (c:List Bool):(splS c).length≤2 ^ c.length:=by
 have:∀ (c:List Bool) (acc:List (List Bool×List Bool)),(c.foldl stepSp acc).length≤acc.length * 2 ^ c.length:=by
  intro c
  induction c with
  | nil=>intro acc; simp
  | cons t c ih =>
   intro acc
   rw [List.foldl_cons]
   have h1:(stepSp acc t).length≤acc.length * 2:=by
    unfold stepSp
    induction acc with
    | nil=>simp
    | cons p acc ih2 =>
     rw [List.flatMap_cons,List.length_append,List.length_map,List.length_cons,Nat.succ_mul]
     have:(endsL t).length≤2:=by cases t <;> decide
     lia
   refine Nat.le_trans (ih _) ?_
   rw [List.length_cons,Nat.pow_succ,Nat.mul_comm (2 ^ c.length) 2,← Nat.mul_assoc]
   exact Nat.mul_le_mul_right _ h1
 have h:=this c [([],[])]
 rw [List.length_singleton,Nat.one_mul] at h
 exact h
noncomputable def splits (c:List Bool):List (List Bool×List Bool):=(splS c).filter fun p=>p.1.any id && p.2.any id
theorem mem_splits {c:List Bool} {p:List Bool×List Bool}:p∈splits c↔Spl p.1 p.2 c∧p.1.any id=true∧p.2.any id=true:=by
 unfold splits
 rw [List.mem_filter,mem_splS,Bool.and_eq_true]
theorem met_splits {ns:List Int} {c:List Bool} {m:Int} (h:ns.length=c.length) (h1:(chosen ns c).length≠1) :
  MetL (chosen ns c) m↔∃ p∈splits c,∃ x y,MetL (chosen ns p.1) x∧MetL (chosen ns p.2) y∧Deed x y m:=by
 constructor
 ·intro q
  generalize hz:chosen ns c=zs at q
  cases q with
  | one _=>rw [hz] at h1; exact absurd rfl h1
  | two mx hx hy m1 m2 d =>
   subst hz
   obtain ⟨a,b,hs,rfl,rfl⟩:=mix_spl h mx
   have l:=hs.len
   have la:ns.length=a.length:=by lia
   have lb:ns.length=b.length:=by lia
   exact ⟨(a,b),mem_splits.mpr ⟨hs,(chosen_ne la).mp hx,(chosen_ne lb).mp hy⟩,_,_,m1,m2,d⟩
 ·rintro ⟨p,hp,x,y,m1,m2,d⟩
  obtain ⟨hs,h2,h3⟩:=mem_splits.mp hp
  exact .two (hs.mix ns h) m1.ne m2.ne m1 m2 d
noncomputable def chL:Nat→List (List Bool)
 | 0=>[[]]
 | n + 1=>(chL n).flatMap fun c=>[c++[false],c++[true]]
theorem chL_length:∀ n,(chL n).length=2 ^ n
 | 0=>rfl
 | n + 1=>by
  have:∀ l:List (List Bool),(l.flatMap fun c=>[c++[false],c++[true]]).length=l.length * 2:=by
   intro l
   induction l with
   | nil=>rfl
   | cons x l ih=>rw [List.flatMap_cons,List.length_append,ih]; show 2 + _=(l.length + 1) * 2; lia
  rw [chL,this,chL_length n,Nat.pow_succ]
theorem chL_len:∀ n,∀ c∈chL n,c.length=n
 | 0,c,h=>by rw [List.mem_singleton.mp h]; rfl
 | n + 1,c,h=>by
  obtain ⟨d,hd,h⟩:=List.mem_flatMap.mp h
  have:=chL_len n d hd
  simp only [List.mem_cons,List.not_mem_nil,or_false] at h
  rcases h with rfl | rfl <;> simp [this]
theorem chL_all:∀ (n:Nat) (c:List Bool),c.length=n→c∈chL n
 | 0,c,h=>by rw [List.eq_nil_of_length_eq_zero h]; simp [chL]
 | n + 1,c,h=>by
  have hc:c≠[]:=by intro e; rw [e] at h; cases h
  refine List.mem_flatMap.mpr ⟨c.dropLast,chL_all n _ (by simp [h]),?_⟩
  have e:=(List.dropLast_concat_getLast hc).symm
  cases hb:c.getLast hc
  ·rw [hb] at e; exact List.mem_cons.mpr (.inl e)
  ·rw [hb] at e; exact List.mem_cons.mpr (.inr (List.mem_singleton.mpr e))
noncomputable def aheadB (n:Nat):Bool:=(List.range (2 ^ n)).all fun i=>(splits ((chL n).getD i [])).all fun p=>((chL n).take i).contains p.1 && ((chL n).take i).contains p.2
theorem ahead_all:∀ n,n≤4→aheadB n=true:=by
 intro n h
 have:n=0∨n=1∨n=2∨n=3∨n=4:=by lia
 rcases this with rfl | rfl | rfl | rfl | rfl <;> decide +kernel
theorem ahead {n i:Nat} {c:List Bool} {p:List Bool×List Bool} (hn:n≤4) (hc:(chL n)[i]?=some c) (hp:p∈splits c):p.1∈(chL n).take i∧p.2∈(chL n).take i:=by
 have h:=ahead_all n hn
 have hi:i < 2 ^ n:=by rw [← chL_length]; exact (List.getElem?_eq_some_iff.mp hc).1
 have h2:=List.all_eq_true.mp h i (List.mem_range.mpr hi)
 rw [List.getD_eq_getElem?_getD,hc] at h2
 have h3:=List.all_eq_true.mp h2 p hp
 rw [Bool.and_eq_true] at h3
 exact ⟨List.contains_iff_mem.mp h3.1,List.contains_iff_mem.mp h3.2⟩
theorem chL_nodup:∀ n,n≤4→(chL n).Nodup:=by
 intro n h
 have:n=0∨n=1∨n=2∨n=3∨n=4:=by lia
 rcases this with rfl | rfl | rfl | rfl | rfl <;> decide +kernel
end Law
namespace Law
open PySem L2
noncomputable def Keep (S:List Addr) (H H':Hp):Prop:=∀ b o,H b=some o→b ∉ S→H' b=some o
theorem Keep.refl (S:List Addr) (H:Hp):Keep S H H:=fun _ _ h _=>h
theorem Same.new {H:Hp} {p:Addr} {o:HO} (h:H p=none):Same H (L2.upd H p o):=fun b u q=>by rw [upd_ne (ne_of_none q h)]; exact q
noncomputable def KT (H H':Hp):Prop:=∀ p xs,H p=some (.tup xs)→H' p=some (.tup xs)
theorem KT.trans {H H1 H2:Hp} (a:KT H H1) (b:KT H1 H2):KT H H2:=fun p xs h=>b p xs (a p xs h)
theorem KT.same {H H':Hp} (a:Same H H'):KT H H':=fun p xs h=>a p _ h
theorem KT.upd {H:Hp} {p:Addr} {o:HO} {ys:List V} (h:H p=some (.lst ys)):KT H (L2.upd H p o):=fun b xs q=>by
 rw [upd_ne]; · exact q
 ·intro e; subst e; rw [h] at q; cases q
theorem atI_mem {α:Type} {xs:List α} {r:Int} (h0:0≤r) (h1:r < (xs.length:Int)):∃ v,atI xs r=some v∧v∈xs:=by
 have hl:r.toNat < xs.length:=by lia
 have e:r=((r.toNat:Nat):Int):=by lia
 have h:atI xs ((r.toNat:Nat):Int)=some xs[r.toNat]:=atI_nat (List.getElem?_eq_getElem hl)
 rw [← e] at h
 exact ⟨xs[r.toNat],h,List.getElem_mem hl⟩
structure Blt (mg:Str→Option Value):Prop where
 len:mg "len"=none
 sum:mg "sum"=none
 range:mg "range"=none
 isinstance:mg "isinstance"=none
 int:mg "int"=none
 str:mg "str"=none
 bool:mg "bool"=none
 tuple:mg "tuple"=none
 zip:mg "zip"=none
end Law
namespace Law
open PySem L2
noncomputable def okWord (w:Str):Prop:=w="plus"∨w="less"∨w="times"∨w="share"
noncomputable def byE (w:Str) (a b:Int):Sum Str Int :=
 if w="plus" then .inr (a + b) else if w="times" then .inr (a * b) else if w="less" then (if b < a then .inr (a - b) else .inl w) else (if a % b=0 then .inr (a / b) else .inl w)
noncomputable def spLaw (K:PySem.W.Frag):Sp:=fun vs H Q _=>∃ (a:Addr) (ns:List Int),vs=[.ref a]∧SqL K H a (ns.map V.int)∧ns.length≤63∧∀ H',Q (.bl true) H'
theorem mkDef {P:Program} {w:World} {K:PySem.W.Frag} {mg:Str→Option Value} {base:Heap} {CX:CXT} {k:Nat} {x:Str} {sp:Sp} {f:Addr} {fd:FuncData} {ps:List Str} (a:FnOk P w K mg base CX k f fd ps sp) (b:Binds K fd ps []) (c:mg x=some (.ref f)) (d:PySem.W.keepIn K (.ref f)=true):Def P w K mg base CX k x sp:=⟨f,fd,ps,a,b,c,d⟩
end Law
namespace L2
open PySem PySem.Spec PyProof.Rows
end L2
namespace Law
open PySem L2 PySem.NumText PyProof.Rows
end Law
namespace Law
open PySem L2 PySem.NumText PyProof.Rows
theorem fm_len {α β:Type} (f:α→List β) (m:Nat):∀ l:List α,(∀ x∈l,(f x).length=m)→(l.flatMap f).length=l.length * m
 | [],_=>by simp
 | x :: r,h=>by
  rw [List.flatMap_cons,List.length_append,h x (List.mem_cons_self ..),fm_len f m r (fun y hy=>h y (List.mem_cons_of_mem _ hy)),List.length_cons,Nat.succ_mul,Nat.add_comm]
theorem pr_kt {H H':Hp} {α:Type} {R:Hp→V→α→Prop} (kk:∀ v x,R H v x→R H' v x) {vs:List V} {xs:List α} (h:Paired (R H) vs xs):Paired (R H') vs xs:=Paired.mapP h kk
theorem pr_snoc {α β:Type} {R:α→β→Prop}:∀ {a:List α} {b:List β} {x:α} {y:β},Paired R a b→R x y→Paired R (a++[x]) (b++[y])
 | _,_,_,_,.nil,h=>.cons h .nil
 | _,_,_,_,.cons p r,h=>.cons p (pr_snoc r h)
theorem pr_get {α β:Type} {R:α→β→Prop}:∀ {a:List α} {b:List β} {i:Nat} {x:α},Paired R a b→a[i]?=some x→∃ y,b[i]?=some y∧R x y
 | _,_,_,_,.nil,e=>by simp at e
 | _,_,0,_,.cons p r,e=>by simp at e; subst e; exact ⟨_,rfl,p⟩
 | _,_,i + 1,x,.cons p r,e=>by
  obtain ⟨y,h1,h2⟩:=pr_get (i:=i) (x:=x) r (by simpa using e)
  exact ⟨y,by simpa using h1,h2⟩
theorem take_snoc {α:Type} {l:List α} {i:Nat} {x:α} (h:l[i]?=some x):l.take (i + 1)=l.take i++[x]:=by
 rw [List.take_add_one,h]; rfl
end Law
namespace L2
open PySem PySem.Spec PyProof.Rows
section
variable {κ:Type} [DecidableEq κ]
noncomputable def valV (kvs:List (κ×V)) (k:κ):Option V:=(kvs.find? fun kv=>decide (kv.1=k)).map (·.2)
noncomputable def putK (kvs:List (κ×V)) (k:κ) (v:V):List (κ×V) :=
 if (kvs.any fun kv=>decide (kv.1=k))=true then kvs.map (fun kv=>if kv.1=k then (kv.1,v) else kv) else kvs++[(k,v)]
theorem valV_pos {p:κ×V} {r:List (κ×V)} {k:κ} (e:p.1=k):valV (p :: r) k=some p.2:=by simp [valV,List.find?_cons,e]
theorem valV_neg {p:κ×V} {r:List (κ×V)} {k:κ} (e:¬ p.1=k):valV (p :: r) k=valV r k:=by simp [valV,List.find?_cons,e]
theorem valV_any (k:κ):∀ kvs:List (κ×V),(kvs.any fun kv=>decide (kv.1=k))=(valV kvs k).isSome
 | []=>rfl
 | p :: r=>by
  rw [List.any_cons]
  by_cases e:p.1=k
  ·simp only [valV_pos e,decide_eq_true e,Bool.true_or,Option.isSome_some]
  ·rw [valV_neg e,decide_eq_false e,Bool.false_or]; exact valV_any k r
theorem length_putK (kvs:List (κ×V)) (k:κ) (v:V):(putK kvs k v).length≤kvs.length + 1:=by
 unfold putK
 split
 ·rw [List.length_map]; lia
 ·rw [List.length_append,List.length_cons,List.length_nil]; lia
theorem RelO.isSome_eq {o:Option V} {u:Option Value} (r:RelO o u):o.isSome=u.isSome:=by
 cases o with
 | none=>cases u with
  | none=>rfl
  | some _=>exact (show False from r).elim
 | some _=>cases u with
  | none=>exact (show False from r).elim
  | some _=>rfl
end
section
variable {P:Program} {w:World} {H:Hp} {h:Heap} {a:Addr}
end
section
variable {X:Cx} {pins:List (Addr×Obj)} {σ:St} {H:Hp} {s:Shared} {a:Addr} {y v:V} {u r:Value} {o:Option V} {A:Around} {E:Value→Shared→Prop}
theorem Inv.big (I:Inv X pins σ H s):sysModules < s.heap.objs.size:=by
 have h:mainGlobals < s.heap.objs.size:=(I.mod.glob.keeps I.bk).lt
 exact Nat.lt_trans (by decide) h
end
section
variable {X:Cx} {pins:List (Addr×Obj)} {σ:St} {H:Hp} {s:Shared} {a:Addr} {kvs:List (Key×V)} {k:Key} {u:Value} {A:Around} {E:Value→Shared→Prop}
end
noncomputable def NoSl (i:Expr):Prop:=∀ ov iv,subscripted i false ov iv=operate [ov,iv] (getItem ov iv)
theorem subD_of {prog:Program} {w:World} {A:Around} {E:Value→Shared→Prop} {s:Shared} {env:Env} {value slice:Expr} {pos:Pos} {T id:String} {Q:Value→Shared→Prop}
    (hl:typeLookup (.type T) "__getitem__"=pure (some (.builtin id))) (hs:NoSl slice)
    (h:wpAny (model prog w) A (eval value env) (fun o s₁=>wpAny (model prog w) A (eval slice env) (fun i s₂=>s₂.TypeIs o T∧wpAny (model prog w) A (getItem o i) Q E s₂) E s₁) E s) :
    wpAny (model prog w) A (eval (.Subscript value slice pos) env) Q E s:=by
  refine Subscript_ (wpAny_mono h (fun o s₁ h₁=>wpAny_mono h₁ (fun i s₂ h₂=>?_) fun _ _ x=>x) fun _ _ x=>x)
  obtain ⟨hT,h₂⟩:=h₂
  unfold subscriptTail
  refine wpAny_bind ?_
  rw [getitemInPython_of_ne hT.not_modules]
  refine wpAny_bind (wpAny_specialOf hT hl ?_)
  have fin:wpAny (model prog w) A (subscripted slice false o i) (fun r s₃=>wpAny (model prog w) A (letTemporaryGo value o r >>= fun _=>pure r) Q E s₃) E s₂:=by
    rw [hs o i]
    exact wpAny_operating (wpAny_mono h₂ (fun r s₃ h₃=>wpAny_bind (wpAny_letTemporaryGo (wpAny_pure h₃))) fun _ _ x=>x)
  first
    | exact wpAny_pure (wpAny_bind fin)
    | exact wpAny_bind (wpAny_pure (wpAny_bind fin))
    | exact wpAny_bind fin
section
variable {X:Cx} {o i e value:Expr} {pos pos' tpos:Pos} {td ty tv:TE}
end
section
variable {X:Cx} {pos:Pos}
end
structure M1 (X:Cx) (o:Expr) (m:Str) (apos:Pos) (e:Expr) (cpos:Pos):Prop where
 base:attributeBase o m X.env (eval o X.env)=eval o X.env
 few:((backTo cpos (starEach [e] X.env)).all (fun x=>!x.1) && (backToKw cpos (keywordEach [] X.env)).all (fun x=>x.1.isSome)
  && decide (([e]:List Expr).length + ([]:List Keyword).length + (if ([]:List Keyword).isEmpty then 0 else 1) < 30))=true
 line:(apos.endLine == cpos.line)=true
 trees:backTo cpos (starEach [e] X.env)=[(false,eval e X.env)]
section
variable {X:Cx} {pins:List (Addr×Obj)} {σ:St} {H:Hp} {s:Shared} {a:Addr} {y d:V} {u r:Value} {o:Option V} {A:Around} {E:Value→Shared→Prop}
end
section
variable {X:Cx} {o e f:Expr} {apos cpos:Pos} {td ty tx:TE}
end
section
variable {X:Cx} {pins:List (Addr×Obj)} {σ:St} {H:Hp} {s:Shared} {a:Addr} {kvs:List (Key×V)} {A:Around} {E:Value→Shared→Prop}
end
section
variable {X:Cx} {pins:List (Addr×Obj)} {σ:St} {H:Hp} {s:Shared} {a:Addr} {y:V} {u:Value} {A:Around} {E:Value→Shared→Prop}
end
end L2
namespace L2
open PySem PySem.Spec PyProof.Rows
section
variable {κ:Type} [DecidableEq κ]
end
end L2
namespace L2
open PySem PySem.Spec PyProof.Rows
section
variable {X:Cx} {pins:List (Addr×Obj)} {σ:St} {H:Hp} {s:Shared}
end
section
variable {X:Cx}
end
end L2
namespace L2
open PySem PySem.Spec PyProof.Rows PySem.W
section
variable {prog:Program} {w:World} {A:Around} {E:Value→Shared→Prop} {s:Shared}
end
section
variable {X:Cx}
end
end L2
namespace HT
open PySem PySem.Spec PyProof.Rows
section
variable {prog:Program} {w:World} {A:Around} {E:Value→Shared→Prop} {s:Shared}
end
end HT
namespace L2
open PySem PySem.Spec PyProof.Rows
variable {X:Cx}
end L2
namespace L2
open PySem PySem.Spec PyProof.Rows
theorem pyIter_keyiter {prog:Program} {w:World} {A:Around} {E:Value→Shared→Prop} {s:Shared} {it d:Addr} {i n ep:Nat} {Q:Value→Shared→Prop} (hit:s.heap.IsKeyIter it d i n ep) (h:Q (.ref it) s):wpAny (model prog w) A (pyIter (.ref it)) Q E s:=by
 refine wpAny_pyIter_slot hit.typeIs PySem.F.slot_dict_keyiterator_iter (wpAny_call_entry PySem.F.slot_dict_keyiterator_iter hit.typeIs PySem.F.entry_dict_keyiterator_iter ?_ (PySem.F.args_dict_keyiterator_iter_1 _))
 show wpAny _ _ (ret (.ref it)) _ _ s
 exact wpAny_pure ⟨_,rfl,"dict_keyiterator",_,hit.typeIs,PySem.F.slot_dict_keyiterator_next.lookup,h⟩
section
variable {X:Cx} {tg:Expr}
end
end L2
namespace L2
open PySem PySem.Spec PyProof.Rows
noncomputable def isBl (b:Bool) (v:Value):Bool:=match v with | .bool c=>c == b | _=>false
theorem isBl_shape {b:Bool} {v:Value} (h:isBl b v=true):v=.bool b:=by
 cases v <;> simp_all [isBl]
theorem isBl_of (b:Bool):isBl b (.bool b)=true:=by simp [isBl]
theorem isBl_inj (v:Value) (a b:Bool) (ha:isBl a v=true) (hb:isBl b v=true):a=b:=by
 have h1:=isBl_shape ha
 have h2:=isBl_shape hb
 rw [h1] at h2
 injection h2
section
variable {prog:Program} {w:World} {A:Around} {E:Value→Shared→Prop} {s:Shared}
theorem pyHash_bl {b:Bool} {Q:Int→Shared→Prop} (h:Q (if b=true then 1 else 0) { s with toks:=s.toks + 1 }):wpAny (model prog w) A (pyHash (.bool b)) Q E s:=by
 have hT:s.TypeIs (.bool b) "bool":=rfl
 unfold pyHash
 have hv:[Value.bool b].any Value.onHeap=false:=rfl
 refine wpAny_bind ?_
 rw [cRoomFor,if_neg (by rw [hv]; exact Bool.false_ne_true)]; refine wpAny_pure ?_
 refine wpAny_bind (wpAny_specialOf hT PySem.F.slot_bool_hash.lookup ?_)
 show wpAny _ _ (if (some (Value.builtin "int.__hash__") == some Value.none)=true then _ else _) Q E s
 rw [if_neg (by rw [beq_builtin_none]; exact Bool.false_ne_true)]
 refine wpAny_bind (wpAny_specialOf hT PySem.F.slot_bool_hash.lookup ?_)
 show wpAny _ _ (callSpecialIfBoundUnlessNone? (.bool b) "__hash__" _ >>= _) Q E s
 refine wpAny_bind (wpAny_callSpecialIfBoundUnlessNone?_slot hT PySem.F.slot_bool_hash
  (wpAny_call_entry PySem.F.slot_bool_hash hT entry_int_hash ?_ (args_int_hash _)))
 cases b
 ·exact (show wpAny _ _ (do ret (← mkInt 0)) _ _ s from wpAny_bind (wpAny_mkInt (wpAny_pure ⟨_,rfl,wpAny_pure h⟩)))
 ·exact (show wpAny _ _ (do ret (← mkInt 1)) _ _ s from wpAny_bind (wpAny_mkInt (wpAny_pure ⟨_,rfl,wpAny_pure h⟩)))
theorem eqBool_bl {a b:Bool} {Q:Bool→Shared→Prop} (h:Q (decide (a=b)) s):wpAny (model prog w) A (eqBool (.bool a) (.bool b)) Q E s:=by
 refine SeqAt.EqAt.bool_bool a b _ _ _ _ ?_
 have e:(a == b)=decide (a=b):=by cases a <;> cases b <;> rfl
 rw [e]; exact h
end
noncomputable def boolKind (prog:Program) (w:World):KeyKind prog w Bool where
 is:=isBl
 hash:=fun b=>if b=true then 1 else 0
 inj:=isBl_inj
 byValue:=fun k v h=>by rw [isBl_shape h]; rfl
 pyHash:=fun hv h=>by rw [isBl_shape hv]; exact pyHash_bl h
 eqBool:=fun hu hv h=>by rw [isBl_shape hu,isBl_shape hv]; exact eqBool_bl h
 «strs»:=fun k x t v h=>by simp [isBl] at h
end L2
namespace L2
open PySem PySem.Spec PyProof.Rows
noncomputable def Kb (H:Hp) (q:Addr) (bs:List Bool):Prop:=∃ o:Obj,H q=some (.frz o (.tup (bs.map V.bl)))∧o.dict=none
theorem Kb.rd {H:Hp} {q:Addr} {bs:List Bool} (h:Kb H q bs):Rd H q (.tup (bs.map V.bl)):=let ⟨o,e,_⟩:=h; .inr ⟨o,e⟩
theorem Kb.same {H H':Hp} {q:Addr} {bs:List Bool} (s:Same H H') (h:Kb H q bs):Kb H' q bs:=let ⟨o,e,d⟩:=h; ⟨o,s _ _ e,d⟩
noncomputable abbrev KTB (H:Hp):List (List Bool×V)→List (List Bool×Addr×Value)→Prop:=Paired fun p q=>p.1=q.1∧Kb H q.2.1 p.1∧RelV p.2 q.2.2
theorem KTB.val {H:Hp} {kvs:List (List Bool×V)} {xs:List (List Bool×Addr×Value)} (r:KTB H kvs xs) (k:List Bool):RelO (valV kvs k) ((atKey xs k).map (·.2)):=by
 induction r with
 | nil=>exact True.intro
 | @cons p q ps qs h t ih =>
  obtain ⟨h1,_,h2⟩:=h
  by_cases e:p.1=k
  ·have b:atKey (q :: qs) k=some q.2:=by simp [atKey,List.find?_cons,h1.symm.trans e]
   rw [valV_pos e,b]; exact h2
  ·have b:atKey (q :: qs) k=atKey qs k:=by
    have e':¬ q.1=k:=fun z=>e (h1.trans z)
    simp [atKey,List.find?_cons,e']
   rw [valV_neg e,b]; exact ih
theorem KTB.put {H:Hp} {kvs:List (List Bool×V)} {xs:List (List Bool×Addr×Value)} (r:KTB H kvs xs) (k:List Bool) {b:Addr} {y:V} {u:Value} (hb:Kb H b k) (ry:RelV y u):KTB H (putK kvs k y) (storedH xs k b u):=by
 have e:(kvs.any fun kv=>decide (kv.1=k))=(atKey xs k).isSome:=by
  rw [valV_any,(r.val k).isSome_eq,Option.isSome_map]
 unfold putK storedH
 rw [e]
 by_cases q:(atKey xs k).isSome=true
 ·rw [if_pos q,if_pos q]
  clear e q
  induction r with
  | nil=>exact .nil
  | @cons p q ps qs h t ih =>
   rw [List.map_cons,List.map_cons]
   refine .cons ?_ ih
   obtain ⟨h1,h2,h3⟩:=h
   unfold PySem.putAt
   by_cases e:p.1=k
   ·rw [if_pos e,if_pos (h1.symm.trans e)]; exact ⟨h1,h2,ry⟩
   ·rw [if_neg e,if_neg (fun z=>e (h1.trans z))]; exact ⟨h1,h2,h3⟩
 ·rw [if_neg q,if_neg q]; exact Paired.snoc r ⟨rfl,hb,ry⟩
theorem KTB.keeps {H H':Hp} {kvs:List (List Bool×V)} {xs:List (List Bool×Addr×Value)} (r:KTB H kvs xs) (ht:∀ b o ys,H b=some (.frz o (.tup ys))→H' b=some (.frz o (.tup ys))):KTB H' kvs xs :=
 Paired.mapP r fun _ _ z=>⟨z.1,(let ⟨o,e,d⟩:=z.2.1; ⟨o,ht _ _ _ e,d⟩),z.2.2⟩
theorem items_bl {P:Program} {w:World}:∀ {ks:List Bool} {us:List Value},Vals (ks.map V.bl) us→ItemsAre (boolKind P w) ks us
 | [],_,r=>by rw [List.map_nil] at r; cases r; exact .nil
 | k :: ks,_,r=>by
  rw [List.map_cons] at r
  cases r with
  | cons h t =>
   cases h
   exact .cons (isBl_of k) (items_bl t)
section
variable {P:Program} {w:World} {H:Hp} {h:Heap} {a:Addr}
theorem key_bl {ks:List Bool} (ok:HOk P w H h) (e:Rd H a (.tup (ks.map V.bl))):(tupleKind (boolKind P w)).is h ks a:=by
 obtain ⟨_,its,r,o,h1,h2,n,h3⟩:=(show ObjOk P w H h a (.tup (ks.map V.bl)) from e.ok ok)
 exact ⟨o,its.toArray,n,h1,h2,h3,by simpa using items_bl r⟩
end
noncomputable def DbO (P:Program) (w:World) (a:Addr) (xs:List (List Bool×Addr×Value)):HO :=
 .ext fun h=>∃ o es ep,h.get? a=some o∧o.ExactDict∧o.data=.dict es ep∧es.toList=xs.map (entryOfKey (tupleKind (boolKind P w)))
noncomputable def Tb (P:Program) (w:World) (H:Hp) (a:Addr) (kvs:List (List Bool×V)):Prop :=
 ∃ xs,H a=some (DbO P w a xs)∧kvs.length≤sizeLine∧(a == sysModules)=false∧KTB H kvs xs∧(xs.map (·.1)).Nodup
section
variable {P:Program} {w:World} {H H':Hp} {h:Heap} {a:Addr} {kvs:List (List Bool×V)}
theorem db_ok {xs:List (List Bool×Addr×Value)} (e:∃ o es ep,h.get? a=some o∧o.ExactDict∧o.data=.dict es ep∧es.toList=xs.map (entryOfKey (tupleKind (boolKind P w)))):ObjOk P w H h a (DbO P w a xs):=by
 obtain ⟨o,es,ep,h1,h2,h3,h4⟩:=id e
 exact ⟨e,⟨o,h1⟩,fun g1 g2 ⟨o,es,ep,h1,h2,h3,h4⟩ k=>⟨o,es,ep,k o h1,h2,h3,h4⟩⟩
theorem Tb.same (s:Same H H') (t:Tb P w H a kvs):Tb P w H' a kvs:=by
 obtain ⟨xs,h1,h2,h3,h4,h5⟩:=t
 exact ⟨xs,s _ _ h1,h2,h3,h4.keeps fun b o ys e=>s _ _ e,h5⟩
theorem Tb.new {p:Addr} (hp:(p == sysModules)=false):Tb P w (upd H p (DbO P w p [])) p [] :=
 ⟨[],upd_same,Nat.zero_le _,hp,.nil,List.nodup_nil⟩
end
section
variable {X:Cx} {pins:List (Addr×Obj)} {σ:St} {H:Hp} {s:Shared} {a b:Addr} {kvs:List (List Bool×V)} {k:List Bool} {A:Around} {E:Value→Shared→Prop}
theorem tb_rd (I:Inv X pins σ H s) (t:Tb X.prog X.w H a kvs):(a == sysModules)=false∧kvs.length≤sizeLine∧∃ xs,KTB H kvs xs∧s.heap.DictOfH (tupleKind (boolKind X.prog X.w)) a xs:=by
 obtain ⟨xs,h1,h2,h3,h4,h5⟩:=t
 obtain ⟨⟨o,es,ep,g1,g2,g3,g4⟩,_⟩:=(show ObjOk X.prog X.w H s.heap a (DbO X.prog X.w a xs) from I.hok a _ h1)
 refine ⟨h3,h2,xs,h4,o,es,ep,g1,g2,g3,g4,fun x hx=>?_,h5⟩
 have all:∀ {l:List (List Bool×V)} {m:List (List Bool×Addr×Value)},KTB H l m→∀ x∈m,(tupleKind (boolKind X.prog X.w)).is s.heap x.1 x.2.1:=by
  intro l m q
  induction q with
  | nil=>intro x hx; exact nomatch hx
  | @cons p q ps qs hq t ih =>
   intro x hx
   rcases List.mem_cons.mp hx with e | hx
   ·subst e
    exact key_bl I.hok (by rw [← hq.1]; exact hq.2.1.rd)
   ·exact ih x hx
 exact all h4 x hx
theorem b_getItem {v:V} {Q:Value→Shared→Prop} (hu:A.units + 1 < cLine) (I:Inv X pins σ H s) (t:Tb X.prog X.w H a kvs) (eb:Rd H b (.tup (k.map V.bl))) (l:valV kvs k=some v) (h:∀ w' s',Inv X pins σ H s'→RelV v w'→Q w' s') :
  wpAny (model X.prog X.w) A (getItem (.ref a) (.ref b)) Q E s:=by
 obtain ⟨_,_,xs,rel,dd⟩:=tb_rd I t
 obtain ⟨w',hw,rw'⟩:=RelO.some_of (v:=v) (o:=(atKey xs k).map (·.2)) (by rw [← l]; exact rel.val k)
 obtain ⟨p,hp,hp2⟩:=Option.map_eq_some_iff.mp hw
 refine wpAny_getItem_heap (tupleKind_room_in1 hu) (key_bl I.hok eb) dd hp ?_
 rw [hp2]
 exact h w' _ (I.tok _) rw'
theorem b_setItem {v:V} {r:Value} {Q:Unit→Shared→Prop} (hu:A.units + 1 < cLine) (I:Inv X pins σ H s) (t:Tb X.prog X.w H a kvs) (eb:Kb H b k) (hl:kvs.length < sizeLine) (rv:RelV v r)
  (h:∀ s' H',Inv X pins σ H' s'→(∀ c,c≠a→H' c=H c)→Tb X.prog X.w H' a (putK kvs k v)→Q () s'):wpAny (model X.prog X.w) A (setItem (.ref a) (.ref b) r) Q E s:=by
 obtain ⟨hsys,hz0,xs,rel,dd⟩:=tb_rd I t
 have hz:xs.length≤sizeLine:=by rw [← Paired.length rel]; exact hz0
 have hl2:(putK kvs k v).length≤sizeLine:=by have:=length_putK kvs k v; lia
 refine wpAny_setItem_heap (hsz:=hz) (tupleKind_room_in1 hu) (key_bl I.hok eb.rd) dd fun h' dd' hs=>?_
 obtain ⟨q,es,ep,hq,h2,h3,h4,_,h5⟩:=dd'
 obtain ⟨xs0,e0,_⟩:=t
 have I2:Inv X pins σ (upd H a (DbO X.prog X.w a (storedH xs k b r))) { s with heap:=h',toks:=s.toks + (tupleKind (boolKind X.prog X.w)).draws k } :=
  I.write (x:=a) (e:=a) (by rw [e0]; exact True.intro) (.inl rfl) (fun c q hb z=>(hs.2 c hb).trans z) ⟨q,hq⟩ (db_ok ⟨q,es,ep,hq,h2,h3,h4⟩)
 refine h _ _ I2 (fun c hc=>upd_ne hc) ⟨_,upd_same,hl2,hsys,(rel.put k eb rv).keeps fun c oc ys ec=>?_,h5⟩
 rw [upd_ne (fun z=>by rw [z,e0] at ec; cases ec)]
 exact ec
end
section
variable {X:Cx} {o i value:Expr} {td ty tv tx:TE} {pos pos':Pos}
theorem pe_dnewB:PE X (.Dict [] [] pos) (fun _ H Q=>∀ p,H p=none→(p == sysModules)=false→Q (.ref p) (upd H p (DbO X.prog X.w p []))):=fun pins s σ H Q I h =>
 wpAny_Dict_empty ⟨.ref s.heap.objs.size,_,I.laid (a:=s.heap.objs.size) (o:=DbO X.prog X.w s.heap.objs.size []) (t':=s.toks) (fun _ _ q=>Heap.get?_push_of_some _ q) (Nat.le_refl _) (db_ok ⟨_,#[],0,Heap.get?_push_size _ rfl,⟨rfl,rfl,rfl⟩,rfl,rfl⟩),rfl,
  h _ (I.hok.fresh (Nat.le_refl _)) (beq_eq_false_iff_ne.mpr (Ne.symm (Nat.ne_of_lt I.big)))⟩
noncomputable def tDGetB (P:Program) (w:World) (td ty:TE):TE:=fun σ H Q=>td σ H fun x H1=>ty σ H1 fun y H2=>∃ a b kvs k v,x=.ref a∧y=.ref b∧Tb P w H2 a kvs∧Rd H2 b (.tup (k.map V.bl))∧valV kvs k=some v∧Q v H2
theorem pe_dgetB (hu:X.A.units + 1 < cLine) (ho:PE X o td) (hi:PE X i ty) (hs:NoSl i):PE X (.Subscript o i pos) (tDGetB X.prog X.w td ty):=by
 intro pins s σ H Q I h
 refine subD_of PySem.F.slot_dict_getitem.lookup hs (thn (ho pins s σ H _ I h) fun u s1 ⟨x,H1,I1,rx,q1⟩=>thn (hi pins s1 σ H1 _ I1 q1) fun iv s2 ⟨y,H2,I2,ry,a,b,kvs,k,v,ex,ey,t,eb,l,q2⟩=>?_)
 subst ex ey
 obtain rfl:u=Value.ref a:=rx
 obtain rfl:iv=Value.ref b:=ry
 obtain ⟨_,_,xs,_,dd⟩:=tb_rd I2 t
 exact ⟨dd.typeIs,b_getItem hu I2 t eb l fun w' s3 I3 rw'=>⟨v,H2,I3,rw',q2⟩⟩
noncomputable def sDPutB (P:Program) (w:World) (td ty tv:TE):TS:=fun D σ H=>tv σ H fun v H1=>td σ H1 fun x H2=>ty σ H2 fun y H3=>∃ a b kvs k,x=.ref a∧y=.ref b∧Tb P w H3 a kvs∧Kb H3 b k∧kvs.length < sizeLine ∧
 ∀ H4:Hp,(∀ c,c≠a→H4 c=H3 c)→Tb P w H4 a (putK kvs k v)→D.nx σ H4
theorem ps_dputB (hu:X.A.units + 1 < cLine) (ho:PE X o td) (hi:PE X i ty) (hv:PE X value tv) (hs:swapsWith value (some (.Subscript o i pos')) pos.line X.env=pure false) :
  PS X (.Assign [.Subscript o i pos'] value pos) (sDPutB X.prog X.w td ty tv):=by
 intro pins s σ H D I h
 refine wpAny_Assign_Subscript (thn (hv pins s σ H _ I h) fun r s1 ⟨v,H1,I1,rv,q1⟩=>thn (ho pins s1 σ H1 _ I1 q1) fun u s2 ⟨x,H2,I2,rx,q2⟩=>thn (hi pins s2 σ H2 _ I2 q2) fun iv s3 ⟨y,H3,I3,ry,a,b,kvs,k,ex,ey,t,eb,hl,q3⟩=>?_) hs
 subst ex ey
 obtain rfl:u=Value.ref a:=rx
 obtain rfl:iv=Value.ref b:=ry
 exact b_setItem hu I3 t eb hl rv fun s4 H4 I4 kp t4=>⟨σ,H4,I4,q3 H4 kp t4⟩
end
section
variable {X:Cx} {es:List Expr} {t:TA} {pos:Pos}
noncomputable def tTupF (t:TA):TE:=fun σ H Q=>t σ H fun xs H1=>xs.length≤sizeLine∧∀ (p:Addr) (o:Obj),H1 p=none→o.dict=none→Q (.ref p) (upd H1 p (.frz o (.tup xs)))
theorem pe_tupF {x1} (h:PA X es t):PE X (.Tuple es x1 pos) (tTupF t):=by
 intro pins s σ H Q I hq
 refine wpAny_Tuple_spliced (thn (h pos pins s σ H _ I hq) fun us s1 ⟨xs,H1,I1,r,z,q⟩=>⟨by rw [← r.length]; exact z,?_⟩)
 have hf:H1 s1.heap.objs.size=none:=I1.hok.fresh (Nat.le_refl _)
 have hp:=Heap.get?_push_size s1.heap (o:={ cls:=.type "tuple",data:=.seq us.toArray }) rfl
 exact ⟨.ref s1.heap.objs.size,upd H1 s1.heap.objs.size (.frz _ (.tup xs)),I1.laid (t':=s1.toks) (fun b u e=>Heap.get?_push_of_some _ e) (Nat.le_refl _) ⟨hp,z,us,r,⟨_,hp,rfl,_,rfl⟩⟩,rfl,q _ _ hf rfl⟩
theorem op_catF:OpR X (binaryOp .Add) (fun x y H Q=>∃ (a b:Addr) (oa ob:Obj) (xs ys:List V),x=.ref a∧y=.ref b∧H a=some (.frz oa (.tup xs))∧H b=some (.frz ob (.tup ys))∧ob.dict=none∧ys≠[]∧xs.length + ys.length≤1000000∧∀ (p:Addr) (o:Obj) (H':Hp),Same H H'→H' p=some (.frz o (.tup (xs++ys)))→o.dict=none→Q (.ref p) H'):=by
 intro pins s σ H x y v u Q I rx ry h
 obtain ⟨a,b,oa,ob,xs,ys,rfl,rfl,ha,hb,hob,hy,hz,q⟩:=h
 have szl:=sizeLine_eq
 cases rx
 cases ry
 obtain ⟨its,r1,p1,_⟩:=I.tuple (a:=a) (xs:=xs) (.inl (.inr ⟨oa,ha⟩))
 obtain ⟨its2,r2,p2,_⟩:=I.tuple (a:=b) (xs:=ys) (.inl (.inr ⟨ob,hb⟩))
 by_cases hx:xs=[]
 ·subst hx
  obtain ⟨⟨cls,dd,data,sl⟩,ho,hc,n,hd⟩:=p1
  obtain ⟨⟨cls2,dd2,data2,sl2⟩,ho2,hc2,n2,hd2⟩:=p2
  simp only at hc hd hc2 hd2
  subst hc hd hc2 hd2
  have e0:its=[]:=r1.nil_iff.mpr rfl
  exact concat_meets ⟨_,ho,rfl⟩ ⟨_,ho2,rfl⟩ noFill_tuple_add seq_tuple_add PySem.F.slot_tuple_add PySem.F.entry_tuple_add (PySem.F.args_tuple_add_2 _ _)
   (tuple_addW0 a b its.toArray its2.toArray n n2 dd dd2 sl sl2 (by simp [e0])) ⟨ho,ho2,⟨.ref b,H,I,rfl,q b ob H (fun _ _ e=>e) hb hob⟩⟩
 ·refine HT.cat_tup p1 p2 (fun z=>hx (r1.nil_iff.mp z)) (fun z=>absurd (r2.nil_iff.mp z) hy) (fun z=>?_) (by rw [← r1.length,← r2.length]; lia)
  have hf:H s.heap.objs.size=none:=I.hok.fresh (Nat.le_refl _)
  have hp:=Heap.get?_push_size s.heap (o:={ cls:=.type "tuple",data:=.seq (its++its2).toArray }) rfl
  refine ⟨.ref s.heap.objs.size,upd H s.heap.objs.size (.frz _ (.tup (xs++ys))),I.laid (t':=s.toks) (fun b ob q=>Heap.get?_push_of_some _ q) (Nat.le_refl _) ⟨hp,by rw [List.length_append]; lia,_,r1.append r2,IsTup.new _ _⟩,rfl,q _ _ _ (fun b u e=>by rw [upd_ne (ne_of_none e hf)]; exact e) upd_same rfl⟩
end
end L2
namespace L2
open PySem PySem.Spec PyProof.Rows
section
variable {prog:Program} {w:World} {A:Around} {E:Value→Shared→Prop} {s:Shared}
theorem new_0 {Q₁:Value→Shared→Prop} (h:Q₁ (.ref s.heap.objs.size) { s with heap:=s.heap.push (newS w) }) :
  codeAny (model prog w) A (.call (.builtin "set.__new__") ⟨[.type "set"],[]⟩) (wants Q₁ E) s:=by
 refine codeAny_of_tree ?_
 show wpAny _ A.in1 (do checkBuiltinCall "set.__new__" ⟨[.type "set"],[]⟩; again (.builtin "set.__new__" ⟨[.type "set"],[]⟩)) _ _ s
 refine wpAny_bind (wpAny_of_eq F.newCall_set_0 (wpAny_pure ⟨plainId_quiet F.plain_set_new _,codeAny_builtin F.entry_set_new ?_⟩))
 rw [Around.under_plainId F.plain_set_new _]
 unfold Builtin.«set.__new__» Builtin.Frozenset.newClass
 have hsub:=sub_set_self
 obtain ⟨hp,g,d,tk,os⟩:=s
 dsimp only
 wp_walk
 refine wpAny_askSetting (wpAny_pure ?_)
 dsimp only
 simp only [newObj]
 refine wpAny_bind (wpAny_alloc (wpAny_pure ?_))
 exact wpAny_pure h
theorem set_0 {Q:Value→Shared→Prop} (h:Q (.ref s.heap.objs.size) { s with heap:=s.heap.push (newS w) }):wpAny (model prog w) A (call (.type "set") []) Q E s:=by
  obtain ⟨c,tl,hmro⟩:=F.called_set.mro
  have hmade:=F.called_set.made
  have hsub:=F.called_set.sub
  refine wpAny_call (codeAny_of_tree ?_)
  show wpAny _ _ (callAny (.type "set") _) _ _ _
  refine wpAny_pure ⟨Code.quiet_builtin _ (by decide +kernel),codeAny_builtin F.entry_type_call ?_⟩
  rw [Around.under_plain (weight_type_call_type "set" [] []) rfl]
  have h1:=F.called_set.notType
  have h2:=F.called_set.canCreate
  have hct:=F.typeCall_set_0
  repeat (any_goals (first | assumption | wp_step))
  refine codeAny_mono (new_0 (E:=E) (Q₁:=fun obj s₁=>obj=.ref s.heap.objs.size∧s₁={ s with heap:=s.heap.push (newS w) }) ⟨rfl,rfl⟩) fun r s₁ hr=>?_
  cases r with
  | error e=>exact hr
  | ok fl =>
    cases fl with
    | ret obj =>
      obtain ⟨rfl,rfl⟩:=hr
      have hS:(s.heap.push (newS w)).get? s.heap.objs.size=some (newS w):=Heap.get?_push_size _ rfl
      have hT:Shared.TypeIs { s with heap:=s.heap.push (newS w) } (.ref s.heap.objs.size) "set":=⟨_,hS,rfl⟩
      have hli:=F.called_set.init.lookup
      have hbi:=F.called_set.init.bind (.ref s.heap.objs.size)
      repeat (any_goals (first | assumption | wp_step))
      refine codeAny_mono (codeAny_call_builtin (R:=wants (fun r s₂=>r=.none∧Q (.ref s.heap.objs.size) s₂) E) F.called_set.init.plain F.entry_set_init (check_set_init hT ?_)) fun r₂ s₂ hr₂=>?_
      · unfold Builtin.«set.__init__» noKeywords
        wp_walk
        exact ⟨rfl,h⟩
      · cases r₂ with
        | error e=>exact hr₂
        | ok fl₂ =>
          cases fl₂ with
          | ret r =>
            obtain ⟨rfl,hq⟩:=hr₂
            repeat (any_goals (first | assumption | wp_step))
          | _=>exact hr₂.elim
    | _=>exact hr.elim
theorem SetG.typeIs {a:Addr} {ks:List Int} (hS:SetG prog w s.heap a ks):s.TypeIs (.ref a) "set":=by
 obtain ⟨o,_,_,_,ho,hc,_⟩:=hS
 exact ⟨o,ho,hc.1⟩
theorem set_add_G {a:Addr} {ks:List Int} {k:Int} {tk:Nat} {Q:Value→Shared→Prop} (hS:SetG prog w s.heap a ks) (hn:ks.length + 1 < 4096)
  (h:∀ (h':Heap),Heap.SameBut a s.heap h'→SetG prog w h' a (addK ks k)→Q .none { s with heap:=h',toks:=s.toks + 1 }) :
  wpAny (model prog w) A (call (.builtin "set.add") [.ref a,.int k tk]) Q E s:=by
 refine wpAny_call_entry F.slot_set_add hS.typeIs F.entry_set_add ?_ (F.args_set_add_2 _ _)
 unfold Builtin.«set.add» Builtin.Frozenset.oneOther
 simp only [List.isEmpty_nil,bind_assoc]
 unfold Builtin.Frozenset.addrOf setAdd
 refine wpAny_bind (wpAny_pure ?_)
 try dsimp only
 refine wpAny_bind (wpAny_pure ?_)
 try dsimp only
 refine wpAny_bind ?_
 refine wpAny_holding ?_
 refine wpAny_bind ((intKind prog w).pyHash (k:=k) (intKind_is _ _ _ _) ?_)
 refine add_G (s:={ s with toks:=s.toks + 1 }) hS hn fun h' b hsb hS'=>?_
 show wpAny _ _ (ret Value.none) _ _ _
 exact wpAny_pure ⟨_,rfl,h h' hsb hS'⟩
end
noncomputable def SeO (P:Program) (w:World) (a:Addr) (ks:List Int):HO:=.ext fun h=>SetG P w h a ks
theorem se_ok {P:Program} {w:World} {H:Hp} {h:Heap} {a:Addr} {ks:List Int} (e:SetG P w h a ks):ObjOk P w H h a (SeO P w a ks):=by
 obtain ⟨o,_,_,_,ho,_⟩:=id e
 exact ⟨e,⟨o,ho⟩,fun g1 g2 x k=>x.keep k⟩
section
variable {X:Cx} {pins:List (Addr×Obj)} {σ:St} {H:Hp} {s:Shared}
theorem se_of {a:Addr} {ks:List Int} (I:Inv X pins σ H s) (e:H a=some (SeO X.prog X.w a ks)):SetG X.prog X.w s.heap a ks:=(show ObjOk X.prog X.w H s.heap a (SeO X.prog X.w a ks) from I.hok a _ e).1
theorem call_set0:CallR X (.type "set") (fun xs H Q=>xs=[]∧∀ p,H p=none→Q (.ref p) (upd H p (SeO X.prog X.w p []))):=by
 intro pins s σ H xs us Q I r h
 obtain ⟨rfl,q⟩:=h
 cases r
 refine set_0 ⟨.ref s.heap.objs.size,_,I.laid (a:=s.heap.objs.size) (o:=SeO X.prog X.w s.heap.objs.size []) (t':=s.toks) (fun _ _ q=>Heap.get?_push_of_some _ q) (Nat.le_refl _) (se_ok (newS_G (Heap.get?_push_size _ rfl))),rfl,q _ (I.hok.fresh (Nat.le_refl _))⟩
variable {o e:Expr} {td ty:TE} {apos cpos:Pos}
theorem pe_setAdd (ho:PE X o td) (he:PE X e ty) (m:M1 X o "add" apos e cpos):PE X (.Call (.Attribute o "add" apos) [e] [] cpos) (fun σ H Q=>td σ H fun x H1=>∃ a ks,x=.ref a∧H1 a=some (SeO X.prog X.w a ks)∧ty σ H1 fun y H2=>∃ ks2 k,H2 a=some (SeO X.prog X.w a ks2)∧y=.int k∧ks2.length < 4000∧Q .non (upd H2 a (SeO X.prog X.w a (addK ks2 k)))):=by
 intro pins s σ H Q I h
 refine wpAny_Call_method m.base m.few m.line PySem.F.plainAttrs_set PySem.F.slot_set_add PySem.F.type_set_add (thn (ho pins s σ H _ I h) fun u s1 ⟨x,H1,I1,rx,a,ks,ex,d,q1⟩=>?_)
 subst ex
 obtain rfl:u=Value.ref a:=rx
 have g1:=se_of I1 d
 refine ⟨g1.typeIs,?_,?_⟩
 ·intro b eb
  injection eb with eb; subst eb
  obtain ⟨o,_,_,_,ho,hc,_⟩:=g1
  exact ⟨o,ho,hc.2.1⟩
 rw [m.trees]
 refine Calls.callWith_builtin rfl (Calls.evalArgs_plain (Calls.spliced_cons (thn (he pins s1 σ H1 _ I1 q1) fun iv s2 ⟨y,H2,I2,ry,ks2,k,d2,ey,hl,q2⟩=>Calls.spliced_nil ?_)))
 subst ey
 obtain ⟨tk,rfl⟩:=ry
 refine set_add_G (se_of I2 d2) (by lia) fun h' hs hS=>?_
 obtain ⟨ob,_,_,_,hob,_⟩:=id hS
 exact ⟨.non,_,I2.write (x:=a) (e:=a) (t':=s2.toks + 1) (by rw [d2]; exact True.intro) (.inl rfl) (fun c q hb z=>(hs.2 c hb).trans z) ⟨_,hob⟩ (se_ok hS),rfl,q2⟩
theorem call_sortSe (hc:X.calm=true):CallR X (.builtin "sorted") (fun xs H Q=>∃ (a:Addr) (ks:List Int),xs=[.ref a]∧H a=some (SeO X.prog X.w a ks) ∧
  ∀ (p:Addr) (ms:List Int) (H':Hp),Same H H'→H p=none→H' p=some (.lst (ms.map V.int))→ms.Pairwise (· < ·)→(∀ m,m∈ms↔m∈ks)→Q (.ref p) H'):=by
 intro pins s σ H xs us Q I r h
 obtain ⟨a,ks,rfl,d,q⟩:=h
 obtain ⟨u,rfl,ru⟩:=vals1 r
 obtain rfl:u=Value.ref a:=ru
 have hS:=se_of I d
 have hnd:ks.Nodup:=by
  obtain ⟨_,_,_,_,_,_,_,_,_,nd,_⟩:=hS
  exact nd
 have hl:=hS.len
 refine sorted_tail (C:=fun ms=>ms.Perm ks) (fun Q2 E2 hq=>collect_G (show X.A.in1.handled=none by simp [I.ok.hd hc]) hS hq) (fun ms hp=>by have:=hp.length_eq; lia) fun out ms ms' g e tk2 d' pp hC a1 a2 a3 k1 hp at1=>?_
 have hf:H pp=none:=I.hok.fresh hp
 have hpm:=a2.trans hC
 have l2:=hpm.length_eq
 have I3:Inv X pins σ (upd H pp (.lst (ms'.map V.int))) { s with heap:=g,toks:=tk2 }:=I.laid (t':=tk2) k1 hp ⟨by rw [List.length_map,sizeLine_eq]; lia,out.toList,e,vals_ints a1,at1⟩
 refine ⟨.ref pp,upd H pp (.lst (ms'.map V.int)),I3.drew d',rfl,q _ ms' _ (fun b o e=>by rw [upd_ne (ne_of_none e hf)]; exact e) hf upd_same (strict_of a3 (hpm.nodup_iff.mpr hnd)) fun m=>hpm.mem_iff⟩
end
end L2
namespace L2
open PySem PySem.Spec PyProof.Rows
theorem compTurn_s0 (elt t1 i1 t2 i2:Expr) (scope:Scope) (pos:Pos) (it acc:Value) (env:Env) :
  compTurn (.SetComp elt [⟨t1,i1,[],0⟩,⟨t2,i2,[],0⟩] scope pos) 0 it acc env=(do
   standAt i1.pos
   match ← pyNext it with
   | none=>pure (.done .next)
   | some v =>
    letOwnedTupleGo t1 it v
    assign t1 env v
    let x ← eval i2 env
    standAt i2.pos
    let x ← foldedSetIterable i2 env x
    let _ ← runOwn (.compStart (.SetComp elt [⟨t1,i1,[],0⟩,⟨t2,i2,[],0⟩] scope pos) 1 (← holding [x] (pyIter x)) acc env) env
    again (.compLoop (.SetComp elt [⟨t1,i1,[],0⟩,⟨t2,i2,[],0⟩] scope pos) 0 it acc env)):=by rfl
theorem compTurn_s1 (elt t1 i1 t2 i2:Expr) (scope:Scope) (pos:Pos) (it acc:Value) (env:Env) :
  compTurn (.SetComp elt [⟨t1,i1,[],0⟩,⟨t2,i2,[],0⟩] scope pos) 1 it acc env=(do
   standAt i2.pos
   match ← pyNext it with
   | none=>pure (.done .next)
   | some v =>
    letOwnedTupleGo t2 it v
    assign t2 env v
    (do let v ← eval elt env; standAt elt.pos; let _ ← call (.builtin "set.add") [acc,v])
    again (.compLoop (.SetComp elt [⟨t1,i1,[],0⟩,⟨t2,i2,[],0⟩] scope pos) 1 it acc env)):=by rfl
section
variable {prog:Program} {w:World} {A:Around} {R:Result→Shared→Prop} {s:Shared}
theorem compStart_s1 {elt t1 i1 t2 i2 scope pos it acc env}
    (h0:codeAny (model prog w) A (.compLoop (.SetComp elt [⟨t1,i1,[],0⟩,⟨t2,i2,[],0⟩] scope pos) 1 it acc env) R s)
    (h:wpAny (model prog w) A (pyIter it) (fun it' s'=>codeAny (model prog w) A (.compLoop (.SetComp elt [⟨t1,i1,[],0⟩,⟨t2,i2,[],0⟩] scope pos) 1 it' acc env) R s')
      (notedBy (model prog w) A env fun x s'=>R (.error x) s') s) :
    codeAny (model prog w) A (.compStart (.SetComp elt [⟨t1,i1,[],0⟩,⟨t2,i2,[],0⟩] scope pos) 1 it acc env) R s:=by
  refine codeAny_of_tree ?_
  show wpAny _ _ ((compStart (.SetComp elt [⟨t1,i1,[],0⟩,⟨t2,i2,[],0⟩] scope pos) 1 it acc env).onRaise (fun x=>do noteFrame x env; standAt theWindowsPlace)) _ _ s
  refine wpAny_notedAt ?_
  unfold compStart
  show wpAny _ _ (ask >>= _) _ _ s
  refine wpAny_bind (wpAny_askSetting (wpAny_ite ?_))
  split
  · first
      | exact wpAny_bind (wpAny_pure (wpAny_pure (And.intro rfl h0)))
      | exact wpAny_pure (And.intro rfl h0)
  · first
      | exact wpAny_bind (wpAny_rule (wpAny_bind (wpAny_standAt (wpAny_bind (wpAny_mono h (fun it' s' h'=>wpAny_pure (And.intro rfl h')) fun _ _ x=>x)))))
      | (refine wpAny_bind (wpAny_rule ?_); show wpAny _ _ (standAt i2.pos >>= _) _ _ s; exact wpAny_bind (wpAny_standAt (wpAny_bind (wpAny_mono h (fun it' s' h'=>wpAny_pure (And.intro rfl h')) fun _ _ x=>x))))
theorem compStart_s0 {elt t1 i1 t2 i2 scope pos it acc env}
    (h0:codeAny (model prog w) A (.compLoop (.SetComp elt [⟨t1,i1,[],0⟩,⟨t2,i2,[],0⟩] scope pos) 0 it acc env) R s)
    (h:wpAny (model prog w) A (pyIter it) (fun it' s'=>codeAny (model prog w) A (.compLoop (.SetComp elt [⟨t1,i1,[],0⟩,⟨t2,i2,[],0⟩] scope pos) 0 it' acc env) R s')
      (notedBy (model prog w) A env fun x s'=>R (.error x) s') s) :
    codeAny (model prog w) A (.compStart (.SetComp elt [⟨t1,i1,[],0⟩,⟨t2,i2,[],0⟩] scope pos) 0 it acc env) R s:=by
  refine codeAny_of_tree ?_
  show wpAny _ _ ((compStart (.SetComp elt [⟨t1,i1,[],0⟩,⟨t2,i2,[],0⟩] scope pos) 0 it acc env).onRaise (fun x=>do noteFrame x env; standAt theWindowsPlace)) _ _ s
  refine wpAny_notedAt ?_
  unfold compStart
  show wpAny _ _ (ask >>= _) _ _ s
  refine wpAny_bind (wpAny_askSetting (wpAny_ite ?_))
  split
  · first
      | exact wpAny_bind (wpAny_pure (wpAny_pure (And.intro rfl h0)))
      | exact wpAny_pure (And.intro rfl h0)
  · first
      | exact wpAny_bind (wpAny_rule (wpAny_bind (wpAny_standAt (wpAny_bind (wpAny_mono h (fun it' s' h'=>wpAny_pure (And.intro rfl h')) fun _ _ x=>x)))))
      | (refine wpAny_bind (wpAny_rule ?_); show wpAny _ _ (standAt i1.pos >>= _) _ _ s; exact wpAny_bind (wpAny_standAt (wpAny_bind (wpAny_mono h (fun it' s' h'=>wpAny_pure (And.intro rfl h')) fun _ _ x=>x))))
theorem new_SeO {E:Value→Shared→Prop} {Q:Value→Shared→Prop} (h:Q (.ref s.heap.objs.size) { s with heap:=s.heap.push (newS w) }):wpAny (model prog w) A (newSet (.type "set")) Q E s:=by
 unfold newSet setsByText
 refine wpAny_bind (wpAny_bind (wpAny_askSetting (wpAny_pure ?_)))
 dsimp only
 simp only [newObj]
 exact wpAny_bind (wpAny_alloc (wpAny_pure h))
theorem compLoop_s0 {elt t1 i1 t2 i2:Expr} {scope:Scope} {pos:Pos} {it acc:Value} {env:Env} (I:Nat→Shared→Prop) (hs:∀ x,foldedSetIterable i2 env x=pure x)
  (turn:∀ n s,I n s→wpAny (model prog w) A (pyNext it) (fun r s₁=>match r with
   | none=>R (.ok .next) s₁
   | some v=>wpAny (model prog w) A (letOwnedTupleGo t1 it v) (fun _ s1=>wpAny (model prog w) A (assign t1 env v) (fun _ s₂ =>
     wpAny (model prog w) A (eval i2 env) (fun x s₃=>wpAny (model prog w) A (pyIter x) (fun it2 s₄ =>
      codeAny (model prog w) A (.compStart (.SetComp elt [⟨t1,i1,[],0⟩,⟨t2,i2,[],0⟩] scope pos) 1 it2 acc env) (fun r s₅=>r=.ok .next∧∃ m,m < n∧I m s₅) s₄) (fun _ _=>False) s₃) (fun _ _=>False) s₂) (fun _ _=>False) s1) (fun _ _=>False) s₁) (fun _ _=>False) s)
  (n:Nat) (h:I n s) :
  codeAny (model prog w) A (.compLoop (.SetComp elt [⟨t1,i1,[],0⟩,⟨t2,i2,[],0⟩] scope pos) 0 it acc env) R s:=by
 refine codeAny_loop rfl I (fun n s hI=>?_) n h
 show wpAny _ A ((compTurn (.SetComp elt [⟨t1,i1,[],0⟩,⟨t2,i2,[],0⟩] scope pos) 0 it acc env).onRaise (fun x=>do noteFrame x env; theTreesLotGoes x)) _ _ s
 refine wpAny_noted ?_
 rw [compTurn_s0]
 refine wpAny_bind (wpAny_standAt (wpAny_bind (wpAny_mono (turn n s hI) (fun r s₁ h₁=>?_) fun _ _ h'=>h'.elim)))
 cases r with
 | none=>exact wpAny_pure h₁
 | some v =>
  refine wpAny_bind (wpAny_mono h₁ (fun _ s1 h1=>wpAny_bind (wpAny_mono h1 (fun _ s₂ h₂=>wpAny_bind (wpAny_mono h₂ (fun x s₃ h₃=>?_) fun _ _ h'=>h'.elim)) fun _ _ h'=>h'.elim)) fun _ _ h'=>h'.elim)
  refine wpAny_bind (wpAny_standAt (wpAny_bind (wpAny_of_eq (hs x) (wpAny_bind (wpAny_holding (wpAny_mono h₃ (fun it2 s₄ h₄=>?_) fun _ _ h'=>h'.elim))))))
  refine wpAny_bind (wpAny_runOwn (codeAny_mono h₄ fun r s₅ hr=>?_))
  obtain ⟨rfl,hm⟩:=hr
  exact wpAny_pure ⟨rfl,hm⟩
theorem compLoop_s1 {elt t1 i1 t2 i2:Expr} {scope:Scope} {pos:Pos} {it acc:Value} {env:Env} (I:Nat→Shared→Prop)
  (turn:∀ n s,I n s→wpAny (model prog w) A (pyNext it) (fun r s₁=>match r with
   | none=>R (.ok .next) s₁
   | some v=>wpAny (model prog w) A (letOwnedTupleGo t2 it v) (fun _ s1=>wpAny (model prog w) A (assign t2 env v) (fun _ s₂ =>
     wpAny (model prog w) A (eval elt env) (fun x s₄ =>
       wpAny (model prog w) A (call (.builtin "set.add") [acc,x]) (fun _ s₅=>∃ m,m < n∧I m s₅) (fun _ _=>False) s₄) (fun _ _=>False) s₂) (fun _ _=>False) s1) (fun _ _=>False) s₁) (fun _ _=>False) s)
  (n:Nat) (h:I n s) :
  codeAny (model prog w) A (.compLoop (.SetComp elt [⟨t1,i1,[],0⟩,⟨t2,i2,[],0⟩] scope pos) 1 it acc env) R s:=by
 refine codeAny_loop rfl I (fun n s hI=>?_) n h
 show wpAny _ A ((compTurn (.SetComp elt [⟨t1,i1,[],0⟩,⟨t2,i2,[],0⟩] scope pos) 1 it acc env).onRaise (fun x=>do noteFrame x env; theTreesLotGoes x)) _ _ s
 refine wpAny_noted ?_
 rw [compTurn_s1]
 refine wpAny_bind (wpAny_standAt (wpAny_bind (wpAny_mono (turn n s hI) (fun r s₁ h₁=>?_) fun _ _ h'=>h'.elim)))
 cases r with
 | none=>exact wpAny_pure h₁
 | some v =>
  refine wpAny_bind (wpAny_mono h₁ (fun _ s1 h1=>wpAny_bind (wpAny_mono h1 (fun _ s₂ h₂=>?_) fun _ _ h'=>h'.elim)) fun _ _ h'=>h'.elim)
  exact wpAny_bind (wpAny_bind (wpAny_mono h₂ (fun x s₄ h₄=>wpAny_bind (wpAny_standAt (wpAny_bind (wpAny_mono h₄ (fun _ s₅ h₅=>wpAny_pure (wpAny_pure ⟨rfl,h₅⟩)) fun _ _ h'=>h'.elim)))) fun _ _ h'=>h'.elim))
end
noncomputable def tInS (P:Program) (w:World) (D:Addr) (wi:TI) (g:TG) (te:TE) (NX:St→Hp→Prop) (σ:St) (H:Hp):Prop:=wi σ H fun J H1=>∃ W:Nat→Nat→St→Hp→Prop,(∃ m,W 0 m σ H1)∧∀ i m σ H,W i m σ H →
 (J.stop i H∧NX σ H)∨(J.go i H∧∃ N:St→Hp→Prop,(∀ σ' H',N σ' H'→∃ m',m' < m∧W (i + 1) m' σ' H')∧∀ x H',J.yld i H x H'→g x σ H' fun σ2 H2=>te σ2 H2 fun y H5=>∃ ks k,H5 D=some (SeO P w D ks)∧y=.int k∧ks.length < 4000∧N σ2 (upd H5 D (SeO P w D (addK ks k))))
noncomputable def tCompS (P:Program) (w:World) (mp:List (Option Nat)) (wi:TI) (g:Addr→Shared→Hp→List Addr→TG) (wi2:Addr→Shared→Hp→List Addr→TI) (g2:Addr→Shared→Hp→List Addr→TG) (te:Addr→Shared→Hp→List Addr→TE):TE:=fun σ H Q=>wi σ H fun J H1=>∀ (D:Addr),H1 D=none→∀ (C:Addr) (s2:Shared) (fp:List Addr),
 ∃ W:Nat→Nat→St→Hp→Prop,(∃ m,W 0 m (compStart0 mp σ) (upd H1 D (SeO P w D [])))∧∀ i m σ2 H2,W i m σ2 H2 →
  (J.stop i H2∧Q (.ref D) H2)∨(J.go i H2∧∃ N:St→Hp→Prop,(∀ σ' H',N σ' H'→∃ m',m' < m∧W (i + 1) m' σ' H')∧∀ x H',J.yld i H2 x H'→g C s2 H1 fp x σ2 H' fun σ3 H3=>tInS P w D (wi2 C s2 H1 fp) (g2 C s2 H1 fp) (te C s2 H1 fp) N σ3 H3)
section
variable {X:Cx}
theorem in_runS {elt t1 i1 t2 i2:Expr} {scope:Scope} {pos:Pos} {wi:TI} {g:TG} {te:TE} {D:Addr} {NX:St→Hp→Prop} (hc:X.calm=true) (hx:X.xe=fun _ _=>False) (hi:PI X t2 i2 wi) (hg:PG X t2 g) (he:PE X elt te)
  {pins:List (Addr×Obj)} {s:Shared} {σ:St} {H:Hp} {R:Shared→Prop} (I:Inv X pins σ H s) (h:tInS X.prog X.w D wi g te NX σ H) (fin:∀ σ' H' s',Inv X pins σ' H' s'→NX σ' H'→R s') :
  wpAny (model X.prog X.w) X.A (eval i2 X.env) (fun x s₃=>wpAny (model X.prog X.w) X.A (pyIter x) (fun it2 s₄ =>
   codeAny (model X.prog X.w) X.A (.compStart (.SetComp elt [⟨t1,i1,[],0⟩,⟨t2,i2,[],0⟩] scope pos) 1 it2 (.ref D) X.env) (fun r s₅=>r=.ok .next∧R s₅) s₄) (fun _ _=>False) s₃) (fun _ _=>False) s:=by
 have h0:=hi pins s σ H _ I h
 rw [hx] at h0
 refine thn h0 fun v s1 h1=>thn h1 fun itv s2 h2=>?_
 obtain ⟨it,fp,tn,J,H2,e,I2,T,st2,f2,W,⟨m0,w0⟩,turn⟩:=h2
 subst e
 have stat:∀ {H':Hp},(∀ b∈fp,H' b=none)→∀ b∈fp,FpOk X pins H' b:=fun hn b hb=>⟨hn b hb,(f2 b hb).2⟩
 have loop:codeAny (model X.prog X.w) X.A (.compLoop (.SetComp elt [⟨t1,i1,[],0⟩,⟨t2,i2,[],0⟩] scope pos) 1 (.ref it) (.ref D) X.env) (fun r s₅=>r=.ok .next∧R s₅) s2:=by
  refine compLoop_s1 (fun n s'=>∃ i σ' H',Inv X pins σ' H' s'∧tn i s'.heap∧(∀ b∈fp,H' b=none)∧W i n σ' H') ?_ m0 ⟨0,σ,H2,I2,st2,fun b hb=>(f2 b hb).1,w0⟩
  rintro n s3 ⟨i,σ3,H3,I3,st3,fr3,w3⟩
  rcases turn i n σ3 H3 w3 with ⟨stop,qn⟩ | ⟨go,N',hN,step⟩
  ·refine (thn (T.done X rfl rfl rfl hc i pins s3 σ3 H3 (fun _ _=>False) I3 (stat fr3) st3 stop) fun r s4 ⟨hr,I4'⟩=>?_)
   subst hr
   exact ⟨rfl,fin _ _ _ I4' qn⟩
  ·refine (thn (T.item X rfl rfl rfl hc i pins s3 σ3 H3 (fun _ _=>False) I3 (stat fr3) st3 go) fun r s4 ⟨u,hr,h4⟩=>?_)
   subst hr
   refine thn h4 fun _ s5 ⟨x,H5,I5,r5,y5,st5,fr5⟩=>?_
   have I5':=I5.pinned (stat fr5) (T.obj _ _ st5)
   have hg':=hg _ s5 σ3 H5 x u _ I5' r5 (step x H5 y5)
   rw [hx] at hg'
   refine (thn hg' fun _ s6 ⟨σ6,H6,I6,q6⟩=>?_)
   have again:∀ {σ7:St} {H7:Hp} {s7:Shared},Inv X (pins++pinsAt fp s5.heap) σ7 H7 s7→N' σ7 H7→∃ m,m < n∧∃ i σ' H',Inv X pins σ' H' s7∧tn i s7.heap∧(∀ b∈fp,H' b=none)∧W i m σ' H':=fun {σ7 H7 s7} I7 n7=>by
    obtain ⟨m',hm,w7⟩:=hN σ7 H7 n7
    refine ⟨m',hm,i + 1,σ7,H7,I7.unpinned,T.keep _ _ _ st5 fun b hb o e=>(I7.pin (b,o) (List.mem_append_right _ (List.mem_append_right _ (mem_pinsAt hb e)))).1,fun b hb=>?_,w7⟩
    obtain ⟨o,e,d⟩:=T.obj _ _ st5 b hb
    exact (I7.pin (b,o) (List.mem_append_right _ (List.mem_append_right _ (mem_pinsAt hb e)))).2.1
   have he':=he _ s6 σ6 H6 _ I6 q6
   rw [hx] at he'
   refine (thn he' fun y s8 ⟨yv,H8,I8,ry,ks,k,d8,ey,hz,n8⟩=>?_)
   subst ey
   obtain ⟨tk,rfl⟩:=ry
   refine set_add_G (se_of I8 d8) (by lia) fun h' hs hS=>?_
   obtain ⟨ob,_,_,_,hob,_⟩:=id hS
   exact again (I8.write (x:=D) (e:=D) (t':=s8.toks + 1) (by rw [d8]; exact True.intro) (.inl rfl) (fun c q hb z=>(hs.2 c hb).trans z) ⟨_,hob⟩ (se_ok hS)) n8
 exact compStart_s1 loop (T.self X.A 0 s2 _ _ st2 loop)
theorem compS_run {elt t1 i1 t2 i2:Expr} {scope:Scope} {pos:Pos} {N:List Str} {mp:List (Option Nat)} {cl:List (Str×Addr)} {wi:TI} {g:Addr→Shared→Hp→List Addr→TG} {wi2:Addr→Shared→Hp→List Addr→TI} {g2:Addr→Shared→Hp→List Addr→TG} {te:Addr→Shared→Hp→List Addr→TE}
  (hc:X.calm=true) (S:CompScopeC X N mp scope) (hcl:closes X.env.cells scope.names []=some cl) (hi:PI X t1 i1 wi)
  (hg:∀ C s2 H2 fp,PG (cxCC X N scope cl C s2 H2 fp) t1 (g C s2 H2 fp)) (hi2:∀ C s2 H2 fp,PI (cxCC X N scope cl C s2 H2 fp) t2 i2 (wi2 C s2 H2 fp)) (hg2:∀ C s2 H2 fp,PG (cxCC X N scope cl C s2 H2 fp) t2 (g2 C s2 H2 fp)) (he:∀ C s2 H2 fp,PE (cxCC X N scope cl C s2 H2 fp) elt (te C s2 H2 fp))
  (hs:∀ x,foldedSetIterable i1 X.env x=pure x) (hs2:∀ C x,foldedSetIterable i2 (compEnvC scope (cellsFrom (C + 1) scope.names cl) C X.env) x=pure x)
  {use:Option (Value→Sem Unit)} {PQ:Value→Shared→Prop} {pins:List (Addr×Obj)} {s:Shared} {σ:St} {H:Hp} {Q:VK} (I:Inv X pins σ H s) (h:tCompS X.prog X.w mp wi g wi2 g2 te σ H Q)
  (fin:∀ (H2:Hp) (s2:Shared) (fp:List Addr) (σ':St) (H':Hp) (s':Shared),Inv X pins σ H2 s2→(∀ b∈fp,FpOk X pins H2 b)→Inv (cxCC X N scope cl (s2.heap.objs.size + 1) s2 H2 fp) [] σ' H' s'→Q (.ref s2.heap.objs.size) H' →
   compPost (model X.prog X.w) X.A X.xe use PQ (.ref s2.heap.objs.size) (s2.heap.objs.size + 1) (.ok .next) s') :
  wpAny (model X.prog X.w) X.A (comprehension (.SetComp elt [⟨t1,i1,[],0⟩,⟨t2,i2,[],0⟩] scope pos) scope X.env (firstIterPos [⟨t1,i1,[],0⟩,⟨t2,i2,[],0⟩] pos) (newSet (.type "set")) (firstAsync [⟨t1,i1,[],0⟩,⟨t2,i2,[],0⟩]) (firstIter [⟨t1,i1,[],0⟩,⟨t2,i2,[],0⟩] X.env) use) PQ X.xe s:=by
 refine wpAny_comprehension_free (use:=use) rfl hs (closureFor_of hcl) S.kind S.names (thn (hi pins s σ H _ I h) fun v s1 h1=>thn h1 fun itv s2 h2=>?_)
 obtain ⟨it,fp,tn,J,H2,e,I2,T,st2,f2,h3⟩:=h2
 subst e
 refine new_SeO (newEnv_cells ?_)
 dsimp only
 have hn2:H2 s2.heap.objs.size=none:=I2.hok.fresh (Nat.le_refl _)
 generalize hH2:s2.heap.push (newS X.w)=G2
 have hC:G2.objs.size=s2.heap.objs.size + 1:=by rw [← hH2,Heap.size_push]
 generalize hh1:pushCells (G2.push PySem.W.emptyDict) scope.names=h₁
 have old1:∀ b o,G2.get? b=some o→h₁.get? b=some o:=fun b o e=>by rw [← hh1]; exact pushCells_keeps _ _ b o (Heap.get?_push_of_some _ e)
 have old:∀ b o,s2.heap.get? b=some o→h₁.get? b=some o:=fun b o e=>old1 b o (hH2 ▸ Heap.get?_push_of_some _ e)
 have hD1:h₁.get? s2.heap.objs.size=some (newS X.w):=old1 _ _ (hH2 ▸ Heap.get?_push_size _ rfl)
 have hns₁:h₁.Ns (s2.heap.objs.size + 1) (fun _=>none):=by
  have e1:h₁.get? G2.objs.size=some PySem.W.emptyDict:=by rw [← hh1]; exact pushCells_keeps _ _ _ _ (Heap.get?_push_size _ rfl)
  rw [hC] at e1
  exact ⟨_,#[],_,e1,rfl,fun e he=>absurd he (by simp),fun _=>rfl⟩
 have cok:CellsOk h₁ (s2.heap.objs.size + 2) (ownCs scope (s2.heap.objs.size + 1)):=by
  have:=cellsFrom_ok scope.names (G2.push PySem.W.emptyDict) (s2.heap.objs.size + 2) [] ⟨fun _ _ hm=>(nomatch hm),List.Pairwise.nil⟩ (by rw [Heap.size_push,hC]; exact Nat.le_refl _)
  rw [Heap.size_push,hC,hh1] at this
  exact this
 obtain ⟨W,⟨m0,w0⟩,turn⟩:=h3 s2.heap.objs.size hn2 (s2.heap.objs.size + 1) s2 fp
 have I4:=comp_invO (tk:=s2.toks) I2 S hcl f2 (fun b hb=>let ⟨o,e,_⟩:=T.obj _ _ st2 b hb; ⟨o,e⟩) old (se_ok (newS_G hD1)) hns₁ cok
 have st4:tn 0 h₁:=T.keep _ _ _ st2 fun b hb o e=>old b o e
 have stat:∀ {pl:List (Addr×Obj)} {H':Hp},(∀ b∈fp,H' b=none)→(∀ p∈pl,p.1 ∉ fp)→∀ b∈fp,FpOk (cxCC X N scope cl (s2.heap.objs.size + 1) s2 H2 fp) pl H' b:=fun {pl H'} hn hp b hb =>
  ⟨hn b hb,(I4.ok.exf b hb).1,I4.ok.exfs b hb,.inl hb,(I4.ok.exf b hb).2,fun p z q=>hp p (by simpa [cxC,cxCC] using z) (by rw [q]; exact hb)⟩
 have fr0:∀ b∈fp,(upd H2 s2.heap.objs.size (SeO X.prog X.w s2.heap.objs.size [])) b=none:=fun b hb=>by
  obtain ⟨o,e,_⟩:=T.obj _ _ st2 b hb
  rw [upd_ne (Nat.ne_of_lt (Heap.lt_size e))]
  exact (f2 b hb).1
 have loop:codeAny (model X.prog X.w) X.A (.compLoop (.SetComp elt [⟨t1,i1,[],0⟩,⟨t2,i2,[],0⟩] scope pos) 0 (.ref it) (.ref s2.heap.objs.size) (compEnvC scope (cellsFrom (s2.heap.objs.size + 1 + 1) scope.names cl) (s2.heap.objs.size + 1) X.env))
   (compPost (model X.prog X.w) X.A X.xe use PQ (.ref s2.heap.objs.size) (s2.heap.objs.size + 1)) { s2 with heap:=h₁,toks:=s2.toks }:=by
  refine compLoop_s0 (fun n s'=>∃ i σ' H',Inv (cxCC X N scope cl (s2.heap.objs.size + 1) s2 H2 fp) [] σ' H' s'∧tn i s'.heap∧(∀ b∈fp,H' b=none)∧W i n σ' H') (hs2 _) ?_ m0 ⟨0,_,_,I4,st4,fr0,w0⟩
  rintro n s3 ⟨i,σ3,H3,I3,st3,fr3,w3⟩
  rcases turn i n σ3 H3 w3 with ⟨stop,qn⟩ | ⟨go,N',hN,step⟩
  ·refine (thn (T.done (cxCC X N scope cl (s2.heap.objs.size + 1) s2 H2 fp) rfl rfl rfl hc i [] s3 σ3 H3 (fun _ _=>False) I3 (stat fr3 (fun _ z=>nomatch z)) st3 stop) fun r s4 ⟨hr,I4'⟩=>?_)
   subst hr
   exact fin H2 s2 fp _ _ _ I2 f2 I4' qn
  ·refine (thn (T.item (cxCC X N scope cl (s2.heap.objs.size + 1) s2 H2 fp) rfl rfl rfl hc i [] s3 σ3 H3 (fun _ _=>False) I3 (stat fr3 (fun _ z=>nomatch z)) st3 go) fun r s4 ⟨u,hr,h4⟩=>?_)
   subst hr
   refine thn h4 fun _ s5 ⟨x,H5,I5,r5,y5,st5,fr5⟩=>?_
   have I5':=I5.pinned (pins:=[]) (stat fr5 (fun _ z=>nomatch z)) (T.obj _ _ st5)
   refine (thn (hg (s2.heap.objs.size + 1) s2 H2 fp _ s5 σ3 H5 x u _ I5' r5 (step x H5 y5)) fun _ s6 ⟨σ6,H6,I6,q6⟩=>?_)
   exact in_runS (X:=cxCC X N scope cl (s2.heap.objs.size + 1) s2 H2 fp) hc rfl (hi2 (s2.heap.objs.size + 1) s2 H2 fp) (hg2 (s2.heap.objs.size + 1) s2 H2 fp) (he (s2.heap.objs.size + 1) s2 H2 fp) I6 q6 fun σ7 H7 s7 I7 n7=>by
    obtain ⟨m',hm,w7⟩:=hN σ7 H7 n7
    refine ⟨m',hm,i + 1,σ7,H7,I7.unpinned,T.keep _ _ _ st5 fun b hb o e=>(I7.pin (b,o) (List.mem_append_right _ (List.mem_append_right _ (mem_pinsAt hb e)))).1,fun b hb=>?_,w7⟩
    obtain ⟨o,e,d⟩:=T.obj _ _ st5 b hb
    exact (I7.pin (b,o) (List.mem_append_right _ (List.mem_append_right _ (mem_pinsAt hb e)))).2.1
 have goal:=compStart_s0 loop (T.self X.A 0 { s2 with heap:=h₁,toks:=s2.toks } _ _ st4 loop)
 rw [hC]
 exact goal
theorem pe_compS {elt t1 i1 t2 i2:Expr} {scope:Scope} {pos:Pos} {N:List Str} {mp:List (Option Nat)} {cl:List (Str×Addr)} {wi:TI} {g:Addr→Shared→Hp→List Addr→TG} {wi2:Addr→Shared→Hp→List Addr→TI} {g2:Addr→Shared→Hp→List Addr→TG} {te:Addr→Shared→Hp→List Addr→TE}
  (hc:X.calm=true) (S:CompScopeC X N mp scope) (hcl:closes X.env.cells scope.names []=some cl) (hi:PI X t1 i1 wi)
  (hg:∀ C s2 H2 fp,PG (cxCC X N scope cl C s2 H2 fp) t1 (g C s2 H2 fp)) (hi2:∀ C s2 H2 fp,PI (cxCC X N scope cl C s2 H2 fp) t2 i2 (wi2 C s2 H2 fp)) (hg2:∀ C s2 H2 fp,PG (cxCC X N scope cl C s2 H2 fp) t2 (g2 C s2 H2 fp)) (he:∀ C s2 H2 fp,PE (cxCC X N scope cl C s2 H2 fp) elt (te C s2 H2 fp))
  (hs:∀ x,foldedSetIterable i1 X.env x=pure x:=by intro _; rfl) (hs2:∀ C x,foldedSetIterable i2 (compEnvC scope (cellsFrom (C + 1) scope.names cl) C X.env) x=pure x:=by intro _ _; rfl) :
  PE X (.SetComp elt [⟨t1,i1,[],0⟩,⟨t2,i2,[],0⟩] scope pos) (tCompS X.prog X.w mp wi g wi2 g2 te):=by
 intro pins s σ H Q I h
 show wpAny _ _ (comprehension (.SetComp elt [⟨t1,i1,[],0⟩,⟨t2,i2,[],0⟩] scope pos) scope X.env (firstIterPos [⟨t1,i1,[],0⟩,⟨t2,i2,[],0⟩] pos) (newSet (.type "set")) (firstAsync [⟨t1,i1,[],0⟩,⟨t2,i2,[],0⟩]) (firstIter [⟨t1,i1,[],0⟩,⟨t2,i2,[],0⟩] X.env)) _ _ s
 refine compS_run hc S hcl hi hg hi2 hg2 he hs hs2 I h fun H2 s2 fp σ' H' s' I2 f2 J' q=>?_
 obtain ⟨m,hm,_⟩:=id J'.loc
 exact ⟨m,hm,fun h'' sb=>⟨.ref s2.heap.objs.size,H',comp_back I2 f2 J' fun b o hb e=>sb.extBut b o hb e,rfl,q⟩⟩
end
theorem inS_tup {P:Program} {w:World} {K:PySem.W.Frag} {a D:Addr} {zs:List V} {g:TG} {te:TE} {NX:St→Hp→Prop} {σ:St} {H:Hp} (Pv:Nat→St→Hp→Prop) (h0:Pv 0 σ H) (hl:∀ i σ H,Pv i σ H→SqT K H a zs)
  (hs:∀ i x σ H,zs[i]?=some x→Pv i σ H→g x σ H fun σ2 H2=>te σ2 H2 fun y H5=>∃ ks k,H5 D=some (SeO P w D ks)∧y=.int k∧ks.length < 4000∧Pv (i + 1) σ2 (upd H5 D (SeO P w D (addK ks k)))) (hd:∀ σ H,Pv zs.length σ H→NX σ H) :
  ∃ W:Nat→Nat→St→Hp→Prop,(∃ m,W 0 m σ H)∧∀ i m σ H,W i m σ H →
   ((Itt K a).stop i H∧NX σ H)∨((Itt K a).go i H∧∃ N:St→Hp→Prop,(∀ σ' H',N σ' H'→∃ m',m' < m∧W (i + 1) m' σ' H')∧∀ x H',(Itt K a).yld i H x H'→g x σ H' fun σ2 H2=>te σ2 H2 fun y H5=>∃ ks k,H5 D=some (SeO P w D ks)∧y=.int k∧ks.length < 4000∧N σ2 (upd H5 D (SeO P w D (addK ks k)))):=by
 refine ⟨fun i m σ H=>m=zs.length - i∧i≤zs.length∧Pv i σ H,⟨zs.length,by simp,Nat.zero_le _,h0⟩,?_⟩
 rintro i m σ H ⟨rfl,hi,p⟩
 have q:=hl i σ H p
 by_cases hlt:i < zs.length
 ·refine .inr ⟨⟨zs,zs[i],q,by simp [hlt]⟩,Pv (i + 1),fun σ' H' p'=>⟨zs.length - (i + 1),by lia,rfl,hlt,p'⟩,fun x H' y=>?_⟩
  obtain ⟨e,y⟩:=y
  subst e
  exact hs i x σ _ (y zs q) p
 ·have e:i=zs.length:=by lia
  subst e
  exact .inl ⟨⟨zs,q,Nat.le_refl _⟩,hd σ H p⟩
end L2
namespace L2
open PySem PySem.Spec PyProof.Rows
inductive KeyTs:List DictEntry→List Str→Prop
 | nil:KeyTs [] []
 | cons {e:DictEntry} {x:Str} {t:Tok} {es:List DictEntry} {xs:List Str}:e.key=.str x t→KeyTs es xs→KeyTs (e :: es) (x :: xs)
noncomputable def TopKeys (w:World) (K:PySem.W.Frag) (a:Addr) (ws:List Str):Prop:=(a == sysModules)=false∧ws.Nodup∧∃ es n,K.lookup a=some ⟨.type "dict",none,.dict es n,#[]⟩∧PySem.W.KeysLit w.params es.toList∧KeyTs es.toList ws
theorem keyTs_pairs {P:Program} {w:World}:∀ {es:List DictEntry} {ws:List Str},KeyTs es ws→∃ kvs:List (Str×Value),kvs.map (·.1)=ws∧Pairs (strKind P w) es kvs
 | _,_,.nil=>⟨[],rfl,.nil⟩
 | _,_,.cons (e:=e) (x:=x) (t:=t) h r=>by
  obtain ⟨kvs,h1,h2⟩:=keyTs_pairs (P:=P) (w:=w) r
  exact ⟨(x,e.val) :: kvs,by rw [List.map_cons,h1],.cons (by rw [h]; exact strKind_is P w x t) rfl h2⟩
theorem top_at {P:Program} {w:World} {K:PySem.W.Frag} {h:Heap} {a:Addr} {es:Array DictEntry} {n:Nat} {ws:List Str} (X:K.In h) (hl:K.lookup a=some ⟨.type "dict",none,.dict es n,#[]⟩) (hk:PySem.W.KeysLit w.params es.toList) (ht:KeyTs es.toList ws) (nd:ws.Nodup) :
  ∃ kvs:List (Str×Value),kvs.map (·.1)=ws∧h.DictAt (strKind P w) a kvs n:=by
 obtain ⟨kvs,h1,h2⟩:=keyTs_pairs (P:=P) (w:=w) ht
 refine ⟨kvs,h1,_,es,X _ _ hl,⟨rfl,rfl,rfl⟩,rfl,fun e he=>?_,h2,by rw [h1]; exact nd⟩
 obtain ⟨x,t,e1,e2⟩:=hk.all e (Array.mem_toList_iff.mpr he)
 exact ⟨x,by rw [e1]; exact strKind_is P w x t,e2⟩
noncomputable def Itw (ws:List Str):It :=
 ⟨fun i H=>i < ws.length,fun i H v H'=>H'=H∧∃ x,v=.str x∧ws[i]?=some x,fun i H=>ws.length≤i⟩
theorem turn_top {P:Program} {w:World} {K:PySem.W.Frag} {tg:Expr} {d it:Addr} {ws:List Str} {es:Array DictEntry} {n:Nat} (hl:K.lookup d=some ⟨.type "dict",none,.dict es n,#[]⟩) (hk:PySem.W.KeysLit w.params es.toList) (ht:KeyTs es.toList ws) (nd:ws.Nodup) :
  Turn P w K tg (Itw ws) [it] it (fun i h=>h.IsKeyIter it d i ws.length n) where
 mem:=by simp
 obj:=fun i h st b hb=>by
  obtain ⟨oi,a1,a2,a3⟩:=st
  rw [List.mem_singleton.mp hb]
  exact ⟨_,a1,fun v e=>by rw [a3] at e; cases e⟩
 keep:=fun i h h' st kp=>by
  obtain ⟨oi,a1,a2⟩:=st
  exact ⟨oi,kp it (by simp) _ a1,a2⟩
 item:=by
  intro X hP hw hK hc k pins s σ H E I hf st hg
  subst hP hw hK
  obtain ⟨kvs,ek,dat⟩:=top_at (P:=X.prog) I.kIn hl hk ht nd
  have hlt:k < ws.length:=hg
  have hl2:ws.length=kvs.length:=by rw [← ek,List.length_map]
  obtain ⟨⟨ky,x⟩,hx⟩:∃ p,kvs[k]?=some p:=⟨kvs[k],List.getElem?_eq_getElem (by lia)⟩
  have hw:ws[k]?=some ky:=by rw [← ek,List.getElem?_map,hx]; rfl
  rw [hl2] at st
  refine wpAny_pyNext_dict_item (knd:=strKind X.prog X.w) st dat hx fun key g hkey hit' sb=>⟨_,rfl,?_⟩
  have fi:=hf it (by simp)
  obtain ⟨o3,q1,q2,q3⟩:=id hit'
  refine go_of q1 q2 q3 (by decide) ?_
  obtain ⟨t,rfl⟩:=Value.isStrOf_shape hkey
  refine ⟨.str ky,H,I.turned (t':=s.toks) (fun b o nb e=>by rw [sb.2 b nb]; exact e) fi.1 fi.2.1 fi.2.2.2.1 fi.2.2.2.2.1 fi.2.2.2.2.2,⟨t,rfl⟩,⟨rfl,ky,rfl,hw⟩,by rw [hl2]; exact hit',fun b hb=>?_⟩
  rw [List.mem_singleton.mp hb]; exact fi.1
 done:=by
  intro X hP hw hK hc k pins s σ H E I hf st hg
  subst hP hw hK
  obtain ⟨kvs,ek,dat⟩:=top_at (P:=X.prog) I.kIn hl hk ht nd
  have hend:ws.length≤k:=hg
  have hl2:ws.length=kvs.length:=by rw [← ek,List.length_map]
  rw [hl2] at st
  refine wpAny_pyNext_dict_end (knd:=strKind X.prog X.w) (I.ok.hd hc) st dat (List.getElem?_eq_none (by lia)) fun g eb=>⟨rfl,?_⟩
  have fi:=hf it (by simp)
  exact I.turned (t':=s.toks) (fun b o nb e=>eb b o nb e) fi.1 fi.2.1 fi.2.2.2.1 fi.2.2.2.2.1 fi.2.2.2.2.2
 self:=fun A i s Q E st h=>pyIter_keyiter st h
section
variable {X:Cx} {tg:Expr}
noncomputable def iTop (w:World) (K:PySem.W.Frag) (to:TE):TI:=fun σ H R=>to σ H fun x H1=>∃ (d:Addr) (ws:List Str),x=.ref d∧TopKeys w K d ws∧R (Itw ws) H1
theorem pi_top {e:Expr} {te:TE} (he:PE X e te):PI X tg e (iTop X.w X.K te):=by
 intro pins s σ H R I h
 refine thn (he pins s σ H _ I h) fun v s1 ⟨y,H1,I1,r1,d,ws,ey,⟨hsys,nd,es,n,hl,hk,ht⟩,r⟩=>?_
 subst ey
 cases r1
 obtain ⟨kvs,ek,dat⟩:=top_at (P:=X.prog) I1.kIn hl hk ht nd
 refine wpAny_pyIter_dict (knd:=strKind X.prog X.w) (kvs:=kvs) (ep:=n) hsys dat ?_
 refine ⟨_,_,_,_,H1,rfl,I1.kept (t':=s1.toks) fun b o e=>Heap.get?_push_of_some _ e,turn_top hl hk ht nd,⟨_,Heap.get?_push_size _ rfl,rfl,?_⟩,fun b hb=>?_,r⟩
 ·rw [← ek,List.length_map]; rfl
 ·have e:b=s1.heap.objs.size:=by simpa using hb
  subst e
  exact I1.fpOk (Nat.le_refl _) (I1.hok.fresh (Nat.le_refl _))
theorem for_top {ws:List Str} {g:TG} {tb:TS} {D:Ends} {σ:St} {H:Hp} (Pv:Nat→St→Hp→Prop) (h0:Pv 0 σ H)
  (hs:∀ i x σ H,ws[i]?=some x→Pv i σ H→g (.str x) σ H fun σ2 H2=>tb { D with nx:=Pv (i + 1),ct:=Pv (i + 1),bk:=D.nx } σ2 H2) (hd:∀ σ H,Pv ws.length σ H→D.nx σ H) :
  ∃ W:Nat→Nat→St→Hp→Prop,(∃ m,W 0 m σ H)∧∀ i m σ H,W i m σ H →
   ((Itw ws).stop i H∧D.nx σ H)∨((Itw ws).go i H∧∃ N:St→Hp→Prop,(∀ σ' H',N σ' H'→∃ m',m' < m∧W (i + 1) m' σ' H')∧∀ x H',(Itw ws).yld i H x H'→g x σ H' fun σ2 H2=>tb { D with nx:=N,ct:=N,bk:=D.nx } σ2 H2):=by
 refine ⟨fun i m σ H=>m=ws.length - i∧i≤ws.length∧Pv i σ H,⟨ws.length,by simp,Nat.zero_le _,h0⟩,?_⟩
 rintro i m σ H ⟨rfl,hi,p⟩
 by_cases hlt:i < ws.length
 ·refine .inr ⟨hlt,Pv (i + 1),fun σ' H' p'=>⟨ws.length - (i + 1),by lia,rfl,hlt,p'⟩,fun v H' y=>?_⟩
  obtain ⟨rfl,x,rfl,hx⟩:=y
  exact hs i x σ H' hx p
 ·have e:i=ws.length:=by lia
  subst e
  exact .inl ⟨Nat.le_refl _,hd σ H p⟩
end
end L2
namespace L2
open PySem PySem.Spec PyProof.Rows
variable {X:Cx}
theorem call_anyT (hc:X.calm=true):CallR X (.builtin "any") (fun xs H Q=>∃ (p:Addr) (bs:List Bool),xs=[.ref p]∧SqT X.K H p (bs.map V.bl)∧Q (.bl (bs.any id)) H):=by
 intro pins s σ H xs us Q I r h
 obtain ⟨p,bs,rfl,hS,q⟩:=h
 obtain ⟨u,rfl,rx⟩:=vals1 r
 cases rx
 obtain ⟨its,rv,pl,hz⟩:=I.tuple hS
 have hp:s.heap.IsTuple p its.toArray:=pl
 have hlt:p < s.heap.objs.size:=pl.lt
 have len:=rv.length
 rw [List.length_map] at len
 refine call_any_walk (wpAny_pyIter_tuple hp ?_)
 refine ⟨_,_,_,_,_,_,fun i=>bs.getD i false,rfl,Walks.tuple (A:=X.A.in1) (I.ok.hd hc) s.heap.objs.size p (Nat.ne_of_lt hlt) its.toArray,⟨⟨_,Heap.get?_push_size _ rfl,rfl,rfl⟩,hp.push _⟩,fun i v s3 Q3 E3 hP hQ=>?_,fun h' tk hk=>⟨.bl (bs.any id),H,I.kept fun b o e=>hk b o (fun z=>?_) (Heap.get?_push_of_some _ e),?_,q⟩⟩
 ·have hv':its[i]?=some v:=by simpa using hP
  have hi:i < bs.length:=by rw [len]; exact (List.getElem?_eq_some_iff.mp hv').1
  obtain ⟨u,e1,r1⟩:=rv.get (i:=i) (x:=.bl (bs.getD i false)) (by rw [List.getElem?_map,List.getD_eq_getElem?_getD,List.getElem?_eq_getElem hi]; rfl)
  rw [hv'] at e1
  cases e1
  rw [show v=Value.bool (bs.getD i false) from r1]
  exact wpAny_truthy_bool hQ
 ·exact absurd (Heap.lt_size e) (by rw [List.mem_singleton.mp z]; exact Nat.lt_irrefl _)
 ·show RelV (.bl (bs.any id)) _
  rw [← range_any bs,len,show its.toArray.size=its.length by simp]
  rfl
end L2
namespace L2
open PySem PySem.Spec PyProof.Rows
section
variable {prog:Program} {w:World} {A:Around} {E:Value→Shared→Prop} {s:Shared} {it d:Addr} {i ep:Nat} {o:Obj} {es:Array DictEntry} {e:DictEntry}
end
section
variable {X:Cx} {pins:List (Addr×Obj)} {σ:St} {H:Hp} {s:Shared}
theorem Inv.frozenE {d:Addr} {o:Obj} {φ:Heap→Prop} (I:Inv X pins σ H s) (e:H d=some (.ext φ)) (ho:s.heap.get? d=some o):Inv X pins σ (upd H d (.frz o (.ext φ))) s:=by
 have ne:∀ b u,H b=some u→u≠.ext φ→b≠d:=fun b u eb hu z=>by rw [z,e] at eb; cases eb; exact hu rfl
 refine I.step (h':=s.heap) (g':=s.gens) (d':=s.drawn) (t':=s.toks) (ch:=[]) (fun _ z=>nomatch z) (fun b o _ _ _ e _=>e) (fun b o _ _ _ e _=>⟨o.slots,e⟩) (fun b ob _ _ n=>?_) (fun b o _ e=>⟨o,e⟩) (fun b xs eb=>?_) (fun b ob u eb=>?_) (fun b ps eb=>⟨#[],?_⟩) (fun m hm=>hm) (fun b u eb=>?_) I.bare
 ·rw [upd_ne (fun z=>by rw [z,e] at n; cases n)]; exact n
 ·rw [upd_ne (ne b _ eb (by intro z; cases z))]; exact eb
 ·rw [upd_ne (ne b _ eb (by intro z; cases z))]; exact eb
 ·rw [upd_ne (ne b _ eb (by intro z; cases z)),eb]; simp
 ·by_cases hb:b=d
  ·subst hb
   rw [upd_same] at eb
   cases eb
   exact ⟨ho,I.hok b _ e⟩
  ·rw [upd_ne hb] at eb
   refine (I.hok b u eb).stay (fun c v' _ r=>r) (fun c r=>?_) fun c xs r=>?_
   ·rw [upd_ne (ne c _ r (by intro z; cases z))]; exact r
   ·rw [upd_ne (ne c _ r (by intro z; cases z))]; exact r
end
theorem KTB.get {H:Hp} {kvs:List (List Bool×V)} {xs:List (List Bool×Addr×Value)} (r:KTB H kvs xs) {i:Nat} {k:List Bool} {x:V} (h:kvs[i]?=some (k,x)):∃ q u,xs[i]?=some (k,q,u)∧Kb H q k∧RelV x u:=by
 revert i
 induction r with
 | nil=>intro i h; simp at h
 | @cons p y ps ys a b ih =>
  intro i h
  cases i with
  | zero =>
   simp at h
   subst h
   obtain ⟨a1,a2,a3⟩:=a
   obtain ⟨y1,y2,y3⟩:=y
   simp only at a1 a2 a3
   subst a1
   exact ⟨y2,y3,rfl,a2,a3⟩
  | succ i =>
   obtain ⟨q,u,h1,h2,h3⟩:=ih (by simpa using h)
   exact ⟨q,u,by simpa using h1,h2,h3⟩
section
variable {X:Cx}
end
end L2
namespace L2
open PySem PySem.Spec PyProof.Rows
section
variable {prog:Program} {w:World} {A:Around} {E:Value→Shared→Prop} {s:Shared} {it d:Addr} {i ep:Nat} {o:Obj} {es:Array DictEntry} {e:DictEntry}
theorem values_raw (hd:(d == sysModules)=false) :
  MeetsIn prog w (Builtin.«dict.values» ⟨[.ref d],[]⟩) (fun _ R s=>s.TypeIs (.ref d) "dict"∧R (.ok (.ret (.ref s.heap.objs.size))) { s with heap:=s.heap.push { cls:=.type "dict_values",data:=.fields #[.ref d] } }) :=
 .of_wp fun A R s ⟨hT,h⟩=>by
  unfold Builtin.«dict.values»
  wp_walk using wpAny_notOrdered_dict hT
  exact ⟨_,rfl,h⟩
theorem iterV_raw {v:Addr} {Q:Value→Shared→Prop} (hv:s.heap.IsValuesView v d) (ho:s.heap.get? d=some o) (hd:o.data=.dict es ep)
  (h:Q (.ref s.heap.objs.size) { s with heap:=s.heap.push { cls:=.type "dict_valueiterator",data:=.fields #[.ref d,.int 0 0,.int es.size 0,.int ep 0] } }):wpAny (model prog w) A (pyIter (.ref v)) Q E s:=by
 obtain ⟨ov,a1,a2,a3⟩:=id hv
 refine wpAny_pyIter_slot hv.typeIs F.slot_dict_values_iter (wpAny_call_entry F.slot_dict_values_iter hv.typeIs F.entry_dict_values_iter ?_ (F.args_dict_values_iter_1 _))
 unfold Builtin.«dict_values.__iter__» Builtin.Dict_items.dictOf Builtin.Dict_items.newIterator
 wp_walk using wpAny_field a1 a3 (x:=.ref d) rfl,wpAny_dictEntries ho hd,wpAny_dictEpoch ho hd
 have hown:Builtin.Dict_items.ownsTuple "dict_valueiterator"=false:=by decide
 refine ⟨_,rfl,"dict_valueiterator",_,⟨_,Heap.get?_push_size _ rfl,rfl⟩,F.slot_dict_valueiterator_next.lookup,?_⟩
 simpa [rawInt,hown] using h
noncomputable abbrev IsVIter (h:Heap) (it d:Addr) (i n ep:Nat):Prop:=h.get? it=some { cls:=.type "dict_valueiterator",dict:=none,data:=.fields #[.ref d,.int i 0,.int n 0,.int ep 0],slots:=#[] }
theorem nextV_raw {Q:Option Value→Shared→Prop} (hit:IsVIter s.heap it d i es.size ep) (ho:s.heap.get? d=some o) (hd:o.data=.dict es ep) (hx:es[i]?=some e)
  (h:∀ h',IsVIter h' it d (i + 1) es.size ep→Heap.SameBut it s.heap h'→Q (some e.val) { s with heap:=h' }):wpAny (model prog w) A (pyNext (.ref it)) Q E s:=by
 have hT:s.TypeIs (.ref it) "dict_valueiterator":=⟨_,hit,rfl⟩
 unfold pyNext
 refine wpAny_bind (wpAny_attempt (wpAny_callSpecial?_slot (name:=Str.ofString "__next__") hT F.slot_dict_valueiterator_next (wpAny_call_entry F.slot_dict_valueiterator_next hT F.entry_dict_valueiterator_next ?_ (F.args_dict_valueiterator_next_1 _))))
 wp_walk using wpAny_typeNameOfWhole_valiter hT,wpAny_fieldsOf hit rfl,wpAny_dictEntries ho hd,wpAny_dictEpoch ho hd,wpAny_isOneOf_valiter hT
 rw [if_neg (show ¬ ((i:Int) < 0) by lia),Int.toNat_natCast,hx]
 have hown:(if Builtin.Dict_items.ownsTuple "dict_valueiterator"=true then 2 else 0)=0:=by decide
 obtain ⟨hp,g,dr,tk,os⟩:=s
 refine wpAny_bind (wpAny_bind (wpAny_typeNameOfWhole_valiter hT (wpAny_pure (wpAny_bind (wpAny_isOneOf_valiter hT (wpAny_bind ?_))))))
 rw [hown]
 refine wpAny_setField_rec hit (by show 1 < 4; decide) fun h1 e1 s1=>wpAny_bind (wpAny_holding ?_)
 replace e1:IsVIter h1 it d (i + 1) es.size ep:=by
  unfold IsVIter
  rw [show ((i + 1:Nat):Int)=(i:Int) + 1 by lia]
  exact e1
 have t1:Shared.TypeIs ⟨h1,g,dr,tk,os⟩ (.ref it) "dict_valueiterator":=⟨_,e1,rfl⟩
 refine wpAny_bind (wpAny_isOneOf_valiter t1 (wpAny_bind (wpAny_isOneOf_valiter t1 ?_)))
 exact (show wpAny _ _ (pure e.val) _ _ ⟨h1,g,dr,tk,os⟩ from wpAny_pure (wpAny_pure ⟨_,rfl,wpAny_pure (h h1 e1 s1)⟩))
theorem nextV_end {Q:Option Value→Shared→Prop} (hh:A.handled=none) (hit:IsVIter s.heap it d i es.size ep) (ho:s.heap.get? d=some o) (hd:o.data=.dict es ep) (hx:es[i]?=none)
  (h:∀ h',Heap.ExtBut it s.heap h'→Q none { s with heap:=h' }):wpAny (model prog w) A (pyNext (.ref it)) Q E s:=by
 have hT:s.TypeIs (.ref it) "dict_valueiterator":=⟨_,hit,rfl⟩
 unfold pyNext
 refine wpAny_bind (wpAny_attempt (wpAny_callSpecial?_slot (name:=Str.ofString "__next__") hT F.slot_dict_valueiterator_next (wpAny_call_entry F.slot_dict_valueiterator_next hT F.entry_dict_valueiterator_next ?_ (F.args_dict_valueiterator_next_1 _))))
 wp_walk using wpAny_typeNameOfWhole_valiter hT,wpAny_fieldsOf hit rfl,wpAny_dictEntries ho hd,wpAny_dictEpoch ho hd,wpAny_isOneOf_valiter hT
 rw [if_neg (show ¬ ((i:Int) < 0) by lia),Int.toNat_natCast,hx]
 have hown:(if Builtin.Dict_items.ownsTuple "dict_valueiterator"=true then 2 else 0)=0:=by decide
 obtain ⟨hp,g,dr,tk,os⟩:=s
 refine wpAny_bind (wpAny_bind (wpAny_typeNameOfWhole_valiter hT (wpAny_pure (wpAny_bind ?_))))
 rw [hown]
 refine wpAny_setField_rec hit (by show 0 < 4; decide) fun h1 e1 s1=>wpAny_bind ?_
 simp only [newExc,newTuple,raiseNew]
 refine wpAny_bind (wpAny_newObj_type (wpAny_bind (m:=firstArgMember _ _) (wpAny_of_eq (a:=Value.none) rfl (wpAny_newObj_type (wpAny_bind (wpAny_handled ?_)) (by size_fits)))) (by size_fits))
 rw [show A.in1.handled=none from hh]
 refine wpAny_bind (wpAny_pure (wpAny_throw ?_)); refine wpAny_bind (wpAny_isInstance (T:="StopIteration") (b:=true) ⟨_,Heap.get?_push_size _ rfl,rfl⟩ isSubtype_stop (wpAny_pure (h _ ?_)))
 exact (s1.extBut.push _).push _
end
noncomputable def Itv (P:Program) (w:World) (d:Addr) (o:Obj) (xs:List (List Bool×Addr×Value)) (kvs:List (List Bool×V)):It :=
 ⟨fun i H=>H d=some (.frz o (DbO P w d xs))∧KTB H kvs xs∧i < kvs.length,fun i H v H'=>H'=H∧∃ k,kvs[i]?=some (k,v),fun i H=>H d=some (.frz o (DbO P w d xs))∧KTB H kvs xs∧kvs.length≤i⟩
theorem turn_valuesB {P:Program} {w:World} {K:PySem.W.Frag} {tg:Expr} {d it:Addr} {o:Obj} {xs:List (List Bool×Addr×Value)} {kvs:List (List Bool×V)} {de:Array DictEntry} {ep:Nat} (hd:o.data=.dict de ep) :
  Turn P w K tg (Itv P w d o xs kvs) [it] it (fun i h=>IsVIter h it d i de.size ep) where
 mem:=by simp
 obj:=fun i h st b hb=>by
  rw [List.mem_singleton.mp hb]
  exact ⟨_,st,fun v e=>by cases e⟩
 keep:=fun i h h' st kp=>kp it (by simp) _ st
 item:=by
  intro X hP hw hK hc k pins s σ H E I hf st hg
  subst hP hw hK
  obtain ⟨hfz,hkt,hlt⟩:=hg
  obtain ⟨hgo,⟨o2,es2,ep2,e2,c2,d2,l2⟩,_⟩:=I.hok d _ hfz
  rw [hgo] at e2; cases e2
  rw [hd] at d2; cases d2
  obtain ⟨⟨ky,x⟩,hx⟩:∃ p,kvs[k]?=some p:=⟨kvs[k],List.getElem?_eq_getElem hlt⟩
  obtain ⟨q,u,hu,hq,ru⟩:=hkt.get hx
  have he:de[k]?=some (entryOfKey (tupleKind (boolKind X.prog X.w)) (ky,q,u)):=by
   rw [← Array.getElem?_toList,l2,List.getElem?_map,hu]; rfl
  refine nextV_raw st hgo hd he fun g hit' sb=>⟨_,rfl,?_⟩
  have fi:=hf it (by simp)
  refine go_of hit' rfl rfl (by decide) ?_
  refine ⟨x,H,I.turned (t':=s.toks) (fun b o nb e=>by rw [sb.2 b nb]; exact e) fi.1 fi.2.1 fi.2.2.2.1 fi.2.2.2.2.1 fi.2.2.2.2.2,ru,⟨rfl,ky,hx⟩,hit',fun b hb=>?_⟩
  rw [List.mem_singleton.mp hb]; exact fi.1
 done:=by
  intro X hP hw hK hc k pins s σ H E I hf st hg
  subst hP hw hK
  obtain ⟨hfz,hkt,hend⟩:=hg
  obtain ⟨hgo,⟨o2,es2,ep2,e2,c2,d2,l2⟩,_⟩:=I.hok d _ hfz
  rw [hgo] at e2; cases e2
  rw [hd] at d2; cases d2
  have he:de[k]?=none:=by
   rw [← Array.getElem?_toList,l2,List.getElem?_map,List.getElem?_eq_none (by rw [← Paired.length hkt]; exact hend)]; rfl
  refine nextV_end (I.ok.hd hc) st hgo hd he fun g eb=>⟨rfl,?_⟩
  have fi:=hf it (by simp)
  exact I.turned (t':=s.toks) (fun b o nb e=>eb b o nb e) fi.1 fi.2.1 fi.2.2.2.1 fi.2.2.2.2.1 fi.2.2.2.2.2
 self:=fun A i s Q E st h=>wpAny_pyIter_valiter (d:=d) (i:=i) (n:=de.size) (ep:=ep) ⟨_,st,rfl,rfl⟩ h
section
variable {X:Cx}
noncomputable def iValuesB (P:Program) (w:World) (to:TE):TI:=fun σ H R=>to σ H fun x H1=>∃ (d:Addr) (xs:List (List Bool×Addr×Value)) (kvs:List (List Bool×V)),x=.ref d∧(d == sysModules)=false ∧
 ((H1 d=some (DbO P w d xs)∧∀ o,R (Itv P w d o xs kvs) (upd H1 d (.frz o (DbO P w d xs))))∨∃ o,H1 d=some (.frz o (DbO P w d xs))∧R (Itv P w d o xs kvs) H1)
theorem pi_valuesB {tg e:Expr} {te:TE} {apos cpos:Pos} (he:PE X e te)
  (hbase:attributeBase e "values" X.env (eval e X.env)=eval e X.env:=by rfl) (hline:(apos.endLine == cpos.line)=true:=by rfl) :
  PI X tg (.Call (.Attribute e "values" apos) [] [] cpos) (iValuesB X.prog X.w te):=by
 intro pins s σ H R I h
 refine wpAny_Call_method0_late hbase hline (thn (he pins s σ H _ I h) fun v s1 ⟨y,H1,I1,r1,d,xs,kvs,ey,hsys,q⟩=>?_)
 subst ey
 cases r1
 obtain ⟨o,es1,ep,e1,ex,e2,e3⟩:∃ o es ep,s1.heap.get? d=some o∧o.ExactDict∧o.data=.dict es ep∧es.toList=xs.map (entryOfKey (tupleKind (boolKind X.prog X.w))):=by
  rcases q with ⟨q,_⟩ | ⟨o,q,_⟩
  ·exact (I1.hok d _ q).1
  ·exact (I1.hok d _ q).2.1
 have hT:s1.TypeIs (.ref d) "dict":=⟨o,e1,ex.1⟩
 refine ⟨"dict","dict.values",F.plainAttrs_dict,F.slot_dict_values,F.type_dict_values,hT,fun a e=>by cases e; exact ⟨o,e1,ex.2.1⟩,?_⟩
 refine Calls.callWith_builtin rfl (PySem.evalArgs_none ?_)
 refine call_meetsIn F.slot_dict_values hT F.entry_dict_values (F.args_dict_values_1 _) (values_raw hsys) ⟨hT,?_⟩
 obtain ⟨H2,I2,fz,r⟩:∃ H2,Inv X pins σ H2 s1∧H2 d=some (.frz o (DbO X.prog X.w d xs))∧R (Itv X.prog X.w d o xs kvs) H2:=by
  rcases q with ⟨q,r⟩ | ⟨o',q,r⟩
  ·exact ⟨_,I1.frozenE q e1,upd_same,r o⟩
  ·have:o'=o:=by
    have:=(I1.hok d _ q).1
    rw [e1] at this; cases this; rfl
   subst this
   exact ⟨H1,I1,q,r⟩
 have I3:Inv X pins σ H2 { s1 with heap:=s1.heap.push { cls:=.type "dict_values",data:=.fields #[.ref d] } }:=I2.kept (t':=s1.toks) fun b o e=>Heap.get?_push_of_some _ e
 refine iterV_raw (d:=d) (o:=o) (es:=es1) (ep:=ep) ⟨_,Heap.get?_push_size _ rfl,rfl,rfl⟩ (Heap.get?_push_of_some _ e1) e2 ?_
 refine ⟨_,_,_,_,H2,rfl,I3.kept (t':=s1.toks) fun b o e=>Heap.get?_push_of_some _ e,turn_valuesB (o:=o) (xs:=xs) (kvs:=kvs) e2,Heap.get?_push_size _ rfl,fun b hb=>?_,r⟩
 have e:b=(s1.heap.push { cls:=.type "dict_values",data:=.fields #[.ref d] }).objs.size:=by simpa using hb
 subst e
 exact I3.fpOk (Nat.le_refl _) (I3.hok.fresh (Nat.le_refl _))
end
theorem outS_values {P:Program} {w:World} {d D:Addr} {o:Obj} {xs:List (List Bool×Addr×Value)} {kvs:List (List Bool×V)} {g:TG} {wi:TI} {g2:TG} {te:TE} {R:Hp→Prop} {σ:St} {H:Hp} (Pv:Nat→St→Hp→Prop) (h0:Pv 0 σ H) (hl:∀ i σ H,Pv i σ H→H d=some (.frz o (DbO P w d xs))∧KTB H kvs xs)
  (hs:∀ i k x σ H,kvs[i]?=some (k,x)→Pv i σ H→g x σ H fun σ3 H3=>tInS P w D wi g2 te (Pv (i + 1)) σ3 H3) (hd:∀ σ H,Pv kvs.length σ H→R H) :
  ∃ W:Nat→Nat→St→Hp→Prop,(∃ m,W 0 m σ H)∧∀ i m σ2 H2,W i m σ2 H2 →
   ((Itv P w d o xs kvs).stop i H2∧R H2)∨((Itv P w d o xs kvs).go i H2∧∃ N:St→Hp→Prop,(∀ σ' H',N σ' H'→∃ m',m' < m∧W (i + 1) m' σ' H')∧∀ x H',(Itv P w d o xs kvs).yld i H2 x H'→g x σ2 H' fun σ3 H3=>tInS P w D wi g2 te N σ3 H3):=by
 refine ⟨fun i m σ H=>m=kvs.length - i∧i≤kvs.length∧Pv i σ H,⟨kvs.length,by simp,Nat.zero_le _,h0⟩,?_⟩
 rintro i m σ H ⟨rfl,hi,p⟩
 obtain ⟨q1,q2⟩:=hl i σ H p
 by_cases hlt:i < kvs.length
 ·refine .inr ⟨⟨q1,q2,hlt⟩,Pv (i + 1),fun σ' H' p'=>⟨kvs.length - (i + 1),by lia,rfl,hlt,p'⟩,fun v H' y=>?_⟩
  obtain ⟨rfl,k,hx⟩:=y
  exact hs i k v σ _ hx p
 ·have e:i=kvs.length:=by lia
  subst e
  exact .inl ⟨⟨q1,q2,Nat.le_refl _⟩,hd σ H p⟩
end L2
namespace L2
open PySem PySem.Spec PyProof.Rows
section
variable {l:Addr} {items:Array Value} {n:Nat} {dd:Option Addr} {sl:Array (Option Value)} {x:Value} {k:Int} {t:Tok}
end
section
variable {X:Cx} {o e f:Expr} {td ty tx:TE} {apos cpos:Pos}
end
end L2
namespace L2
open PySem PySem.Spec PyProof.Rows
variable {X:Cx}
section
variable {o e:Expr} {es:List Expr} {to:TE} {t:TA} {name:Str} {apos cpos:Pos} {id:String} {r:V→List V→Hp→VK→Prop}
end
end L2
namespace L2
open PySem PySem.Spec PyProof.Rows
section
variable {X:Cx} {E:Value→Shared→Prop} {N:List Str} {scope:Scope} {cl:List (Str×Addr)} {C:Addr} {s2:Shared} {H2:Hp} {fp:List Addr}
variable {CX:CXT} {P:Program} {w:World} {K:PySem.W.Frag} {mg:Str→Option Value} {base:Heap} {qual:Str} {f:Addr} {cd:Value} {A:Around} {outer:List Env} {s:Shared} {H:Hp} {E':XK}
end
end L2
namespace L2
open PySem PySem.Spec PyProof.Rows
section
open PySem.SeqAt
open PySem.AutoSeq1 (wpAny_loadPart')
open PySem.MeetsSeq PySem.MeetsSeq2 PySem.MeetsSeq3
end
variable {X:Cx}
end L2
namespace L2
open PySem PySem.Spec PyProof.Rows
section
variable {prog:Program} {w:World} {A:Around} {E:Value→Shared→Prop}
theorem call_tree_kw {s:Shared} {id:String} {b:Builtin} {args:List Value} {kw:List (Str×Value)} {Q:Value→Shared→Prop} (hk:builtinKind id=none) (hp:plainId id=true) (hb:entryFor table id=some b) (ha:argsOk id ⟨args,kw⟩)
  (hc:wpAny (model prog w) A.in1 (b ⟨args,kw⟩) (fun fin s'=>match fin with
   | .done f=>(match (Except.ok f:Result) with | .ok (.ret v)=>Q v s' | .ok _=>False | .error e=>E e s')
   | .again c'=>c'.quiet=true∧codeAny (model prog w) A c' (fun r s'=>match r with | .ok (.ret v)=>Q v s' | .ok _=>False | .error e=>E e s') s') E s) :
  wpAny (model prog w) A (call (.builtin id) args kw) Q E s:=by
 refine wpAny_call (codeAny_call_builtin hp hb ?_)
 simp only [checkBuiltinCall,hk]
 cases hsig:Manifest.signature? id with
 | none=>exact wpAny_pure hc
 | some sig =>
  simp only [argsOk,hsig] at ha
  have h2:Bind.checkArgs id sig ⟨args,kw⟩=pure ():=ha
  exact (show wpAny _ A.in1 (Bind.checkArgs id sig ⟨args,kw⟩) _ _ s from by rw [h2]; exact wpAny_pure hc)
variable {R:Result→Shared→Prop} {I:Addr} {fp wr:List Addr} {n:Nat} {P:Nat→Value→Prop} {St:Nat→Heap→Prop} {kw:List (Str×Value)}
theorem mx_name:(toString "max"++toString ".loop":String)="max.loop":=by decide
theorem mx_loop (W:Walks prog w A.in1 I fp wr n P St) (bt:Nat→Nat→Bool) (hcmp:CmpOf prog w A.in1 .Gt P bt) (S:Addr) (hSf:S ∉ fp) :
  ∀ (k j:Nat) (s:Shared) (vb:Value) (c:Nat),n - (j + 1)=k→j + 1≤n→St (j + 1) s.heap→P (argBest bt j) vb→s.heap.get? S=some { cls:=.type "list",dict:=none,data:=.seq #[vb,vb] c,slots:=#[] } →
  (∀ v h' tk,P (argBest bt (n - 1)) v→(∀ b o,b ∉ wr→b≠S→s.heap.get? b=some o→h'.get? b=some o)→R (.ok (.ret v)) { s with heap:=h',toks:=tk }) →
  codeAny (model prog w) A (.builtin "max.loop" ⟨[.ref I,.none,.ref S],kw⟩) R s:=by
 have hSw:S ∉ wr:=fun h=>hSf (W.sub _ h)
 intro k
 induction k with
 | zero =>
  intro j s vb c hk hj hst hPb hS hR
  have hin:j + 1=n:=by lia
  refine codeAny_builtin F.entry_max_loop ?_; rw [Around.under_plainId F.plain_max_loop _]
  refine (show wpAny _ A.in1 (seqItems? (.ref S) >>= _) _ _ s from wpAny_bind (wpAny_seqItems hS rfl (show wpAny _ A.in1 (tryCatch (pyNext (.ref I)) _ >>= _) _ _ s from wpAny_bind (wpAny_tryCatch (W.done s _ _ (hin ▸ hst) fun h' tk hk'=>?_)))))
  have hS':=hk' S _ hSw hS
  refine (show wpAny _ A.in1 (updateSeq S (fun _=>#[]) >>= _) _ _ _ from wpAny_bind (wpAny_updateSeq hS' rfl (wpAny_bind (wpAny_letGo (wpAny_pure ?_)))))
  exact hR vb _ tk (by rw [← hin]; exact hPb) fun b o hbw hbS e=>(Heap.get?_update_other _ _ (Ne.symm hbS)).trans (hk' b o hbw e)
 | succ k ih =>
  intro j s vb c hk hj hst hPb hS hR
  have hlt:j + 1 < n:=by lia
  refine codeAny_builtin F.entry_max_loop ?_; rw [Around.under_plainId F.plain_max_loop _]
  refine (show wpAny _ A.in1 (seqItems? (.ref S) >>= _) _ _ s from wpAny_bind (wpAny_seqItems hS rfl (show wpAny _ A.in1 (tryCatch (pyNext (.ref I)) _ >>= _) _ _ s from wpAny_bind (wpAny_tryCatch (W.item (j + 1) s _ _ hlt hst fun v h' tk hP hst' hk'=>?_)))))
  have hS':=hk' S _ hSw hS
  refine (show wpAny _ A.in1 (tryCatch (holding [v,v] (richCompare .Gt v vb >>= _)) _ >>= _) _ _ _ from wpAny_bind (wpAny_tryCatch (wpAny_holding (wpAny_bind (hcmp (j + 1) (argBest bt j) v vb _ _ _ hP hPb (wpAny_bind (wpAny_holding (wpAny_truthy_bool (wpAny_bind (wpAny_letGo (wpAny_pure ?_)))))))))))
  cases hb:bt (j + 1) (argBest bt j) with
  | true =>
   simp only [if_true]
   refine wpAny_bind (wpAny_updateSeq hS' rfl (wpAny_bind (wpAny_letGo ?_))); rw [mx_name]
   refine wpAny_pure ⟨plainId_quiet F.plain_max_loop _,ih (j + 1) _ v _ (by lia) hlt (W.frame _ _ _ hst' fun b hbf o e=>(Heap.get?_update_other _ _ (fun h:S=b=>hSf (by rw [h]; exact hbf))).trans e) (by simp only [argBest,hb,if_true]; exact hP) (Heap.get?_update_self _ hS' rfl) fun v' h'' tk'' hP' hk''=>?_⟩
   exact hR v' h'' tk'' hP' fun b o hbw hbS e=>hk'' b o hbw hbS ((Heap.get?_update_other _ _ (Ne.symm hbS)).trans (hk' b o hbw e))
  | false =>
   simp only [Bool.false_eq_true,if_false]
   refine wpAny_bind (wpAny_letGo ?_); rw [mx_name]
   refine wpAny_pure ⟨plainId_quiet F.plain_max_loop _,ih (j + 1) _ vb c (by lia) hlt hst' (by simp only [argBest,hb,Bool.false_eq_true,if_false]; exact hPb) hS' fun v' h'' tk'' hP' hk''=>?_⟩
   exact hR v' h'' tk'' hP' fun b o hbw hbS e=>hk'' b o hbw hbS (hk' b o hbw e)
theorem mx_first (W:Walks prog w A.in1 I fp wr n P St) (bt:Nat→Nat→Bool) (hcmp:CmpOf prog w A.in1 .Gt P bt) (S:Addr) (hSf:S ∉ fp) {s:Shared} {c:Nat} {kn:Str} {d:Value} (hst:St 0 s.heap)
  (hS:s.heap.get? S=some { cls:=.type "list",dict:=none,data:=.seq #[] c,slots:=#[] })
  (hR:∀ v h' tk,(if n=0 then v=d else P (argBest bt (n - 1)) v)→(∀ b o,b ∉ wr→b≠S→s.heap.get? b=some o→h'.get? b=some o)→R (.ok (.ret v)) { s with heap:=h',toks:=tk }) :
  codeAny (model prog w) A (.builtin "max.loop" ⟨[.ref I,.none,.ref S],[(kn,d)]⟩) R s:=by
 have hSw:S ∉ wr:=fun h=>hSf (W.sub _ h)
 refine codeAny_builtin F.entry_max_loop ?_; rw [Around.under_plainId F.plain_max_loop _]
 refine (show wpAny _ A.in1 (seqItems? (.ref S) >>= _) _ _ s from wpAny_bind (wpAny_seqItems hS rfl ?_))
 by_cases h0:n=0
 ·refine (show wpAny _ A.in1 (tryCatch (pyNext (.ref I)) _ >>= _) _ _ s from wpAny_bind (wpAny_tryCatch (W.done s _ _ (h0 ▸ hst) fun h' tk hk'=>?_)))
  refine (show wpAny _ A.in1 (rule _ >>= _) _ _ _ from wpAny_bind (wpAny_rule (wpAny_pure ?_)))
  exact hR d h' tk (by rw [if_pos h0]) fun b o hbw _ e=>hk' b o hbw e
 ·have hn:0 < n:=by lia
  refine (show wpAny _ A.in1 (tryCatch (pyNext (.ref I)) _ >>= _) _ _ s from wpAny_bind (wpAny_tryCatch (W.item 0 s _ _ hn hst fun v h' tk hP hst' hk'=>?_)))
  have hS':=hk' S _ hSw hS
  refine (show wpAny _ A.in1 (updateSeq S (fun _=>#[v,v]) >>= _) _ _ _ from wpAny_bind (wpAny_updateSeq hS' rfl ?_)); rw [mx_name]
  refine wpAny_pure ⟨plainId_quiet F.plain_max_loop _,mx_loop W bt hcmp S hSf _ 0 _ v _ rfl hn (W.frame _ _ _ hst' fun b hbf o e=>(Heap.get?_update_other _ _ (fun h:S=b=>hSf (by rw [h]; exact hbf))).trans e) hP (Heap.get?_update_self _ hS' rfl) fun v' h'' tk'' hP' hk''=>?_⟩
  exact hR v' h'' tk'' (by rw [if_neg h0]; exact hP') fun b o hbw hbS e=>hk'' b o hbw hbS ((Heap.get?_update_other _ _ (Ne.symm hbS)).trans (hk' b o hbw e))
theorem args_maxD (a d:Value):argsOk "max" ⟨[a],[("default",d)]⟩:=by unfold argsOk; kernel_rfl
theorem call_maxD {s:Shared} {x d:Value} {Q:Value→Shared→Prop}
  (h:wpAny (model prog w) A.in1 (pyIter x) (fun it s₂=>∃ I fp wr n P St bt,it=.ref I∧Walks prog w A.in1 I fp wr n P St∧St 0 s₂.heap∧(∀ b∈fp,b < s₂.heap.objs.size)∧CmpOf prog w A.in1 .Gt P bt ∧
   ∀ v h' tk,(if n=0 then v=d else P (argBest bt (n - 1)) v)→(∀ b o,b ∉ wr→s₂.heap.get? b=some o→h'.get? b=some o)→Q v { s₂ with heap:=h',toks:=tk }) E s) :
  wpAny (model prog w) A (call (.builtin "max") [x] [("default",d)]) Q E s:=by
 refine call_tree_kw F.kind_max F.plain_max F.entry_max (args_maxD _ _) ?_
 refine (show wpAny _ A.in1 (Builtin.Builtins.bindParams "max" ["key","default"] 0 ⟨[],[("default",d)]⟩ >>= _) _ _ s from wpAny_bind (wpAny_of_eq (show Builtin.Builtins.bindParams "max" ["key","default"] 0 ⟨[],[("default",d)]⟩=pure [none,some d] from rfl) (wpAny_bind (wpAny_pure ?_))))
 refine wpAny_bind (wpAny_mono h (fun it s₂ h₂=>?_) fun _ _ e=>e)
 obtain ⟨I,fp,wr,n,P,St,bt,rfl,W,hst,hfp,hcmp,hQ⟩:=h₂
 refine wpAny_bind (wpAny_newObj_type ?_); rw [mx_name]
 have hSf:s₂.heap.objs.size ∉ fp:=fun hm=>Nat.lt_irrefl _ (hfp _ hm)
 refine wpAny_pure ⟨plainId_quiet F.plain_max_loop _,mx_first W bt hcmp s₂.heap.objs.size hSf (W.frame _ _ _ hst fun b _ o e=>Heap.get?_push_of_some _ e) (Heap.get?_push_size _ rfl) fun v h' tk hP hk=>?_⟩
 exact hQ v h' tk hP fun b o hbw e=>hk b o hbw (Nat.ne_of_lt (Heap.lt_size e)) (Heap.get?_push_of_some _ e)
end
theorem best_at (f:Nat→Int):∀ j,argBest (fun i k=>decide (f i > f k)) j≤j∧∀ i,i≤j→f i≤f (argBest (fun i k=>decide (f i > f k)) j)
 | 0=>⟨Nat.le_refl _,fun i hi=>by rw [Nat.le_zero.mp hi]; exact Int.le_refl _⟩
 | j + 1=>by
  obtain ⟨h1,h2⟩:=best_at f j
  unfold argBest
  by_cases c:f (j + 1) > f (argBest (fun i k=>decide (f i > f k)) j)
  ·rw [if_pos (decide_eq_true c)]
   refine ⟨Nat.le_refl _,fun i hi=>?_⟩
   rcases Nat.lt_or_ge i (j + 1) with h | h
   ·have:=h2 i (by lia); lia
   ·rw [show i=j + 1 by lia]; exact Int.le_refl _
  ·rw [if_neg (fun z=>c (of_decide_eq_true z))]
   refine ⟨by lia,fun i hi=>?_⟩
   rcases Nat.lt_or_ge i (j + 1) with h | h
   ·exact h2 i (by lia)
   ·rw [show i=j + 1 by lia]; lia
section
variable {X:Cx} {a:Expr} {ta:TE} {p kp pos p3:Pos} {j:Nat}
theorem bt_max':bootBuiltins "max"=some (.builtin "max"):=by decide +kernel
noncomputable def tMaxD (K:PySem.W.Frag) (d:Int) (ta:TE):TE:=fun σ H Q=>ta σ H fun x H1=>∃ (p:Addr) (ns:List Int),x=.ref p∧SqT K H1 p (ns.map V.int)∧∀ m:Int,(if ns=[] then m=d else m∈ns∧∀ y∈ns,y≤m)→Q (.int m) H1
theorem pe_maxD {d:Int} (hc:X.calm=true) (hm:X.mg "max"=none) (ha:PE X a ta) (hg:Gl X "max":=by rfl) (hs:starEach [a] X.env=[(false,eval a X.env)]:=by rfl) :
  PE X (.Call (.Name "max" p) [a] [⟨some "default",.Constant (.int d) j p3,kp⟩] pos) (tMaxD X.K d ta):=by
 intro pins s σ H Q I h
 refine wpAny_Call_Name_kw (ld_blt I hg hm bt_max' ?_)
 refine callWith_kw (thn ((pa_cons ha pa_nil hs) pos pins s σ H (fun vs H1=>match vs with
  | [x]=>∃ (p:Addr) (ns:List Int),x=.ref p∧SqT X.K H1 p (ns.map V.int)∧∀ m:Int,(if ns=[] then m=d else m∈ns∧∀ y∈ns,y≤m)→Q (.int m) H1
  | _=>False) I h) fun us s1 ⟨vs,H1,I1,r1,q0⟩=>?_) (by rw [hs]; rfl) (by rw [hs]; rfl)
 obtain ⟨x,rfl,q,ns,rfl,hS,k⟩:∃ x,vs=[x]∧∃ (p:Addr) (ns:List Int),x=.ref p∧SqT X.K H1 p (ns.map V.int)∧∀ m:Int,(if ns=[] then m=d else m∈ns∧∀ y∈ns,y≤m)→Q (.int m) H1:=by
  match vs,q0 with
  | [x],q0=>exact ⟨x,rfl,q0⟩
 obtain ⟨u,rfl,ru⟩:=vals1 r1
 cases ru
 refine kws_cons (wpAny_Constant_int (kws_nil ?_))
 have I2:=I1.tok (s1.toks + 1)
 obtain ⟨its,rv,pl,hz⟩:=I2.tuple hS
 have hp:s1.heap.IsTuple q its.toArray:=pl
 have hlt:q < s1.heap.objs.size:=pl.lt
 have hlen:=rv.length
 rw [List.length_map] at hlen
 have hval:∀ i v,its[i]?=some v→∃ t,v=Value.int (ns.getD i 0) t:=fun i v hv'=>by
  have hi:i < (ns.map V.int).length:=by rw [rv.length]; exact (List.getElem?_eq_some_iff.mp hv').1
  obtain ⟨u,e1,r1⟩:=rv.get (i:=i) (x:=.int (ns.getD i 0)) (by
   rw [List.length_map] at hi
   rw [List.getElem?_map,List.getD_eq_getElem?_getD,List.getElem?_eq_getElem hi]; rfl)
  rw [hv'] at e1
  cases e1
  exact r1
 refine call_maxD (wpAny_pyIter_tuple hp ?_)
 refine ⟨_,_,_,_,_,_,_,rfl,Walks.tuple (A:=X.A.in1) (I.ok.hd hc) s1.heap.objs.size q (Nat.ne_of_lt hlt) its.toArray,⟨⟨_,Heap.get?_push_size _ rfl,rfl,rfl⟩,hp.push _⟩,fun b hb=>?_,CmpOf.ints_gt (fun i=>ns.getD i 0) (fun i v hP=>hval i v (by simpa using hP)),fun v h' tk hP hk=>?_⟩
 ·show b < (s1.heap.push _).objs.size
  rw [Heap.size_push]
  rcases List.mem_cons.mp hb with rfl | hb
  ·exact Nat.lt_succ_self _
  ·rcases List.mem_cons.mp hb with rfl | hb
   ·exact Nat.lt_succ_of_lt hlt
   ·cases hb
 ·have kp:∀ b o,s1.heap.get? b=some o→h'.get? b=some o:=fun b o e=>hk b o (fun z=>absurd (Heap.lt_size e) (by rw [List.mem_singleton.mp z]; exact Nat.lt_irrefl _)) (Heap.get?_push_of_some _ e)
  by_cases h0:ns=[]
  ·have e0:its.toArray.size=0:=by rw [List.size_toArray,← hlen,h0]; rfl
   rw [if_pos e0] at hP
   subst hP
   exact ⟨.int d,H1,I1.kept kp,⟨_,rfl⟩,k d (by rw [if_pos h0])⟩
  ·have hpos:0 < ns.length:=List.length_pos_iff.mpr h0
   have e0:¬ its.toArray.size=0:=by rw [List.size_toArray]; lia
   rw [if_neg e0,List.size_toArray,← hlen] at hP
   obtain ⟨b1,b2⟩:=best_at (fun i=>ns.getD i 0) (ns.length - 1)
   obtain ⟨t,rfl⟩:=hval (argBest (fun i k=>decide (ns.getD i 0 > ns.getD k 0)) (ns.length - 1)) v (by rw [← hP,List.getElem?_toArray])
   have hget:∀ i,i < ns.length→ns[i]?=some (ns.getD i 0):=fun i hi=>by rw [List.getD_eq_getElem?_getD,List.getElem?_eq_getElem hi]; rfl
   refine ⟨.int _,H1,I1.kept kp,⟨t,rfl⟩,k _ ?_⟩
   rw [if_neg h0]
   refine ⟨List.mem_of_getElem? (hget _ (by lia)),fun y hy=>?_⟩
   obtain ⟨i,hi⟩:=List.mem_iff_getElem?.mp hy
   have hil:=(List.getElem?_eq_some_iff.mp hi).1
   have:=b2 i (by lia)
   have ey:y=ns.getD i 0:=Option.some.inj (hi.symm.trans (hget i hil))
   rw [ey]
   exact this
end
end L2
namespace L2
open PySem PySem.Spec PyProof.Rows
theorem in_range {lo:Int} {n:Nat} {D:Addr} {g:TG} {te:TE} {NX:St→Hp→Prop} {σ:St} {H:Hp} (Pv:Nat→St→Hp→Prop) (h0:Pv 0 σ H)
  (hs:∀ i σ H,i < n→Pv i σ H→g (.int (lo + i)) σ H fun σ2 H2=>te σ2 H2 fun y H5=>∃ xs,H5 D=some (.lst xs)∧xs.length < sizeLine∧Pv (i + 1) σ2 (upd H5 D (.lst (xs++[y])))) (hd:∀ σ H,Pv n σ H→NX σ H) :
  ∃ W:Nat→Nat→St→Hp→Prop,(∃ m,W 0 m σ H)∧∀ i m σ H,W i m σ H →
   ((Itr lo n).stop i H∧NX σ H)∨((Itr lo n).go i H∧∃ N:St→Hp→Prop,(∀ σ' H',N σ' H'→∃ m',m' < m∧W (i + 1) m' σ' H')∧∀ x H',(Itr lo n).yld i H x H'→g x σ H' fun σ2 H2=>te σ2 H2 fun y H5=>∃ xs,H5 D=some (.lst xs)∧xs.length < sizeLine∧N σ2 (upd H5 D (.lst (xs++[y])))):=by
 refine ⟨fun i m σ H=>m=n - i∧i≤n∧Pv i σ H,⟨n,by simp,Nat.zero_le _,h0⟩,?_⟩
 rintro i m σ H ⟨rfl,hi,p⟩
 by_cases hlt:i < n
 ·refine .inr ⟨hlt,Pv (i + 1),fun σ' H' p'=>⟨n - (i + 1),by lia,rfl,hlt,p'⟩,fun x H' y=>?_⟩
  obtain ⟨e1,e2⟩:=y
  subst e1 e2
  exact hs i σ _ hlt p
 ·have e:i=n:=by lia
  subst e
  exact .inl ⟨Nat.le_refl _,hd σ H p⟩
end L2
namespace Law
open PySem L2
noncomputable def upto (a b:Int):List Int:=(List.range (b + 1 - a).toNat).map fun (i:Nat)=>a + (i:Int)
noncomputable def loR (r:List Int):Int:=r.foldl max 1
noncomputable def rowsP (g:Int):Nat→List (List Int)
 | 0=>[[]]
 | k + 1=>(rowsP g k).flatMap fun r=>(upto (loR r) g).map fun n=>r++[n]
noncomputable def allR (g:Int):Nat→List (List Int)
 | 0=>[[]]
 | k + 1=>(allR g k).flatMap fun r=>(upto 1 g).map fun n=>r++[n]
noncomputable def ndB:List Int→Bool
 | a :: b :: r=>decide (a≤b) && ndB (b :: r)
 | _=>true
theorem ndB_iff:∀ r:List Int,ndB r=true↔r.Pairwise (·≤·)
 | []=>by simp [ndB]
 | [a]=>by simp [ndB]
 | a :: b :: r=>by
  rw [ndB,Bool.and_eq_true,decide_eq_true_eq,ndB_iff (b :: r)]
  constructor
  ·rintro ⟨h1,h2⟩
   refine List.pairwise_cons.mpr ⟨fun x hx=>?_,h2⟩
   rcases List.mem_cons.mp hx with rfl | hx
   ·exact h1
   ·exact Int.le_trans h1 ((List.pairwise_cons.mp h2).1 x hx)
  ·intro h
   have:=List.pairwise_cons.mp h
   exact ⟨this.1 b (by simp),this.2⟩
noncomputable def okR:Bool:=(List.range 10).all fun g=>(List.range 4).all fun k=>decide ((allR (g:Int) k).filter ndB=rowsP (g:Int) k)
theorem okR_all:okR=true:=by decide +kernel
theorem rows_eq {g k:Nat} (hg:g < 10) (hk:k < 4):(allR (g:Int) k).filter ndB=rowsP (g:Int) k:=by
 have h:=List.all_eq_true.mp (List.all_eq_true.mp okR_all g (List.mem_range.mpr hg)) k (List.mem_range.mpr hk)
 exact of_decide_eq_true h
noncomputable def szR:Bool:=(List.range 10).all fun g=>(List.range 4).all fun k=>decide ((allR (g:Int) k).length≤729) && (allR (g:Int) k).all fun r=>decide (r.length=k) && r.all fun n=>decide (1≤n) && decide (n≤9)
theorem szR_all:szR=true:=by decide +kernel
theorem rows_sz {g k:Nat} (hg:g < 10) (hk:k < 4):(allR (g:Int) k).length≤729∧∀ r∈allR (g:Int) k,r.length=k∧∀ n∈r,1≤n∧n≤9:=by
 have h:=List.all_eq_true.mp (List.all_eq_true.mp szR_all g (List.mem_range.mpr hg)) k (List.mem_range.mpr hk)
 rw [Bool.and_eq_true,decide_eq_true_eq] at h
 refine ⟨h.1,fun r hr=>?_⟩
 have h2:=List.all_eq_true.mp h.2 r hr
 rw [Bool.and_eq_true,decide_eq_true_eq] at h2
 refine ⟨h2.1,fun n hn=>?_⟩
 have h3:=List.all_eq_true.mp h2.2 n hn
 rw [Bool.and_eq_true,decide_eq_true_eq,decide_eq_true_eq] at h3
 exact h3
theorem rowsP_sz {g k:Nat} (hg:g < 10) (hk:k < 4):(rowsP (g:Int) k).length≤729∧∀ r∈rowsP (g:Int) k,r.length=k∧∀ n∈r,1≤n∧n≤9:=by
 obtain ⟨h1,h2⟩:=rows_sz hg hk
 rw [← rows_eq hg hk]
 exact ⟨Nat.le_trans (List.length_filter_le _ _) h1,fun r hr=>h2 r (List.mem_filter.mp hr).1⟩
theorem fold_ge:∀ (r:List Int) (a:Int),a≤r.foldl max a∧(∀ x∈r,x≤r.foldl max a)∧(r.foldl max a=a∨r.foldl max a∈r)
 | [],a=>⟨Int.le_refl _,fun x h=>(nomatch h),.inl rfl⟩
 | b :: r,a=>by
  obtain ⟨h1,h2,h3⟩:=fold_ge r (max a b)
  rw [List.foldl_cons]
  refine ⟨Int.le_trans (Int.le_max_left a b) h1,fun x hx=>?_,?_⟩
  ·rcases List.mem_cons.mp hx with rfl | hx
   ·exact Int.le_trans (Int.le_max_right a x) h1
   ·exact h2 x hx
  ·rcases h3 with h3 | h3
   ·rw [h3]
    rcases Int.le_total a b with h | h
    ·rw [Int.max_eq_right h]; exact .inr (by simp)
    ·rw [Int.max_eq_left h]; exact .inl rfl
   ·exact .inr (List.mem_cons_of_mem _ h3)
theorem lo_one {r:List Int} {m:Int} (h1:∀ n∈r,1≤n) (h:if r=[] then m=1 else m∈r∧∀ y∈r,y≤m):m=loR r:=by
 unfold loR
 by_cases e:r=[]
 ·rw [if_pos e] at h; rw [h,e]; rfl
 ·rw [if_neg e] at h
  obtain ⟨a1,a2,a3⟩:=fold_ge r 1
  have b1:=a2 m h.1
  rcases a3 with a3 | a3
  ·have:=h1 m h.1; lia
  ·have:=h.2 _ a3; lia
end Law
namespace L2
open PySem PySem.Spec PyProof.Rows
section
variable {prog:Program} {w:World} {A:Around} {E:Value→Shared→Prop} {s:Shared} {it d:Addr} {i ep:Nat} {o:Obj} {es:Array DictEntry} {e:DictEntry}
theorem iterK_raw {Q:Value→Shared→Prop} (hd:(d == sysModules)=false) (ho:s.heap.get? d=some o) (hc:o.cls=.type "dict") (hdat:o.data=.dict es ep)
  (h:Q (.ref s.heap.objs.size) { s with heap:=s.heap.push { cls:=.type "dict_keyiterator",data:=.fields #[.ref d,.int 0 0,.int es.size 0,.int ep 0] } }):wpAny (model prog w) A (pyIter (.ref d)) Q E s:=by
 have hT:s.TypeIs (.ref d) "dict":=⟨o,ho,hc⟩
 refine wpAny_pyIter_slot hT F.slot_dict_iter (wpAny_call_entry F.slot_dict_iter hT F.entry_dict_iter ?_ (F.args_dict_iter_1 _))
 unfold Builtin.«dict.__iter__» Builtin.Dict.dictSlotNone Builtin.Dict.showsAll
 refine wpAny_bind (wpAny_bind (wpAny_notOrdered_dict hT ?_))
 refine (show wpAny _ _ (pure (Value.ref d)) _ _ s from wpAny_pure ?_)
 refine wpAny_bind (wpAny_pure ?_)
 rw [if_neg (show ¬ (d == sysModules)=true by rw [hd]; exact Bool.false_ne_true)]
 refine wpAny_bind (wpAny_pure (wpAny_bind (wpAny_dictEntries ho hdat (wpAny_bind (wpAny_dictEpoch ho hdat ?_)))))
 refine wpAny_bind (wpAny_newObj_type (wpAny_pure ⟨_,rfl,"dict_keyiterator",_,⟨_,Heap.get?_push_size _ rfl,rfl⟩,F.slot_dict_keyiterator_next.lookup,?_⟩))
 simpa [rawInt] using h
noncomputable abbrev IsKIter (h:Heap) (it d:Addr) (i n ep:Nat):Prop:=h.get? it=some { cls:=.type "dict_keyiterator",dict:=none,data:=.fields #[.ref d,.int i 0,.int n 0,.int ep 0],slots:=#[] }
theorem nextK_raw {Q:Option Value→Shared→Prop} (hit:IsKIter s.heap it d i es.size ep) (ho:s.heap.get? d=some o) (hd:o.data=.dict es ep) (hx:es[i]?=some e)
  (h:∀ h',IsKIter h' it d (i + 1) es.size ep→Heap.SameBut it s.heap h'→Q (some e.key) { s with heap:=h' }):wpAny (model prog w) A (pyNext (.ref it)) Q E s:=by
 have hT:s.TypeIs (.ref it) "dict_keyiterator":=⟨_,hit,rfl⟩
 unfold pyNext
 refine wpAny_bind (wpAny_attempt (wpAny_callSpecial?_slot (name:=Str.ofString "__next__") hT F.slot_dict_keyiterator_next (wpAny_call_entry F.slot_dict_keyiterator_next hT F.entry_dict_keyiterator_next ?_ (F.args_dict_keyiterator_next_1 _))))
 wp_walk using wpAny_typeNameOfWhole_keyiter hT,wpAny_fieldsOf hit rfl,wpAny_dictEntries ho hd,wpAny_dictEpoch ho hd,wpAny_isOneOf_keyiter hT
 rw [if_neg (show ¬ ((i:Int) < 0) by lia),Int.toNat_natCast,hx]
 have hown:(if Builtin.Dict_items.ownsTuple "dict_keyiterator"=true then 2 else 0)=0:=by decide
 obtain ⟨hp,g,dr,tk,os⟩:=s
 refine wpAny_bind (wpAny_bind (wpAny_typeNameOfWhole_keyiter hT (wpAny_pure (wpAny_bind (wpAny_isOneOf_keyiter hT (wpAny_bind ?_))))))
 rw [hown]
 refine wpAny_setField_rec hit (by show 1 < 4; decide) fun h1 e1 s1=>wpAny_bind (wpAny_holding ?_)
 replace e1:IsKIter h1 it d (i + 1) es.size ep:=by
  unfold IsKIter
  rw [show ((i + 1:Nat):Int)=(i:Int) + 1 by lia]
  exact e1
 have t1:Shared.TypeIs ⟨h1,g,dr,tk,os⟩ (.ref it) "dict_keyiterator":=⟨_,e1,rfl⟩
 refine wpAny_bind (wpAny_isOneOf_keyiter t1 ?_)
 exact (show wpAny _ _ (pure e.key) _ _ ⟨h1,g,dr,tk,os⟩ from wpAny_pure (wpAny_pure ⟨_,rfl,wpAny_pure (h h1 e1 s1)⟩))
theorem nextK_end {Q:Option Value→Shared→Prop} (hh:A.handled=none) (hit:IsKIter s.heap it d i es.size ep) (ho:s.heap.get? d=some o) (hd:o.data=.dict es ep) (hx:es[i]?=none)
  (h:∀ h',Heap.ExtBut it s.heap h'→Q none { s with heap:=h' }):wpAny (model prog w) A (pyNext (.ref it)) Q E s:=by
 have hT:s.TypeIs (.ref it) "dict_keyiterator":=⟨_,hit,rfl⟩
 unfold pyNext
 refine wpAny_bind (wpAny_attempt (wpAny_callSpecial?_slot (name:=Str.ofString "__next__") hT F.slot_dict_keyiterator_next (wpAny_call_entry F.slot_dict_keyiterator_next hT F.entry_dict_keyiterator_next ?_ (F.args_dict_keyiterator_next_1 _))))
 wp_walk using wpAny_typeNameOfWhole_keyiter hT,wpAny_fieldsOf hit rfl,wpAny_dictEntries ho hd,wpAny_dictEpoch ho hd,wpAny_isOneOf_keyiter hT
 rw [if_neg (show ¬ ((i:Int) < 0) by lia),Int.toNat_natCast,hx]
 have hown:(if Builtin.Dict_items.ownsTuple "dict_keyiterator"=true then 2 else 0)=0:=by decide
 obtain ⟨hp,g,dr,tk,os⟩:=s
 refine wpAny_bind (wpAny_bind (wpAny_typeNameOfWhole_keyiter hT (wpAny_pure (wpAny_bind ?_))))
 rw [hown]
 refine wpAny_setField_rec hit (by show 0 < 4; decide) fun h1 e1 s1=>wpAny_bind ?_
 simp only [newExc,newTuple,raiseNew]
 refine wpAny_bind (wpAny_newObj_type (wpAny_bind (m:=firstArgMember _ _) (wpAny_of_eq (a:=Value.none) rfl (wpAny_newObj_type (wpAny_bind (wpAny_handled ?_)) (by size_fits)))) (by size_fits))
 rw [show A.in1.handled=none from hh]
 refine wpAny_bind (wpAny_pure (wpAny_throw ?_)); refine wpAny_bind (wpAny_isInstance (T:="StopIteration") (b:=true) ⟨_,Heap.get?_push_size _ rfl,rfl⟩ isSubtype_stop (wpAny_pure (h _ ?_)))
 exact (s1.extBut.push _).push _
end
noncomputable def Itkb (P:Program) (w:World) (d:Addr) (o:Obj) (xs:List (List Bool×Addr×Value)) (kvs:List (List Bool×V)):It :=
 ⟨fun i H=>H d=some (.frz o (DbO P w d xs))∧KTB H kvs xs∧i < kvs.length,fun i H v H'=>H'=H∧∃ k x q,kvs[i]?=some (k,x)∧v=.ref q∧Kb H q k,fun i H=>H d=some (.frz o (DbO P w d xs))∧KTB H kvs xs∧kvs.length≤i⟩
theorem turn_keysB {P:Program} {w:World} {K:PySem.W.Frag} {tg:Expr} {d it:Addr} {o:Obj} {xs:List (List Bool×Addr×Value)} {kvs:List (List Bool×V)} {de:Array DictEntry} {ep:Nat} (hd:o.data=.dict de ep) :
  Turn P w K tg (Itkb P w d o xs kvs) [it] it (fun i h=>IsKIter h it d i de.size ep) where
 mem:=by simp
 obj:=fun i h st b hb=>by
  rw [List.mem_singleton.mp hb]
  exact ⟨_,st,fun v e=>by cases e⟩
 keep:=fun i h h' st kp=>kp it (by simp) _ st
 item:=by
  intro X hP hw hK hc k pins s σ H E I hf st hg
  subst hP hw hK
  obtain ⟨hfz,hkt,hlt⟩:=hg
  obtain ⟨hgo,⟨o2,es2,ep2,e2,c2,d2,l2⟩,_⟩:=I.hok d _ hfz
  rw [hgo] at e2; cases e2
  rw [hd] at d2; cases d2
  obtain ⟨⟨ky,x⟩,hx⟩:∃ p,kvs[k]?=some p:=⟨kvs[k],List.getElem?_eq_getElem hlt⟩
  obtain ⟨q,u,hu,hq,ru⟩:=hkt.get hx
  have he:de[k]?=some (entryOfKey (tupleKind (boolKind X.prog X.w)) (ky,q,u)):=by
   rw [← Array.getElem?_toList,l2,List.getElem?_map,hu]; rfl
  refine nextK_raw st hgo hd he fun g hit' sb=>⟨_,rfl,?_⟩
  have fi:=hf it (by simp)
  refine go_of hit' rfl rfl (by decide) ?_
  refine ⟨.ref q,H,I.turned (t':=s.toks) (fun b o nb e=>by rw [sb.2 b nb]; exact e) fi.1 fi.2.1 fi.2.2.2.1 fi.2.2.2.2.1 fi.2.2.2.2.2,rfl,⟨rfl,ky,x,q,hx,rfl,hq⟩,hit',fun b hb=>?_⟩
  rw [List.mem_singleton.mp hb]; exact fi.1
 done:=by
  intro X hP hw hK hc k pins s σ H E I hf st hg
  subst hP hw hK
  obtain ⟨hfz,hkt,hend⟩:=hg
  obtain ⟨hgo,⟨o2,es2,ep2,e2,c2,d2,l2⟩,_⟩:=I.hok d _ hfz
  rw [hgo] at e2; cases e2
  rw [hd] at d2; cases d2
  have he:de[k]?=none:=by
   rw [← Array.getElem?_toList,l2,List.getElem?_map,List.getElem?_eq_none (by rw [← Paired.length hkt]; exact hend)]; rfl
  refine nextK_end (I.ok.hd hc) st hgo hd he fun g eb=>⟨rfl,?_⟩
  have fi:=hf it (by simp)
  exact I.turned (t':=s.toks) (fun b o nb e=>eb b o nb e) fi.1 fi.2.1 fi.2.2.2.1 fi.2.2.2.2.1 fi.2.2.2.2.2
 self:=fun A i s Q E st h=>pyIter_keyiter (d:=d) (i:=i) (n:=de.size) (ep:=ep) ⟨_,st,rfl,rfl⟩ h
section
variable {X:Cx}
noncomputable def iKeysB (P:Program) (w:World) (to:TE):TI:=fun σ H R=>to σ H fun x H1=>∃ (d:Addr) (xs:List (List Bool×Addr×Value)) (kvs:List (List Bool×V)),x=.ref d∧(d == sysModules)=false ∧
 ((H1 d=some (DbO P w d xs)∧∀ o,R (Itkb P w d o xs kvs) (upd H1 d (.frz o (DbO P w d xs))))∨∃ o,H1 d=some (.frz o (DbO P w d xs))∧R (Itkb P w d o xs kvs) H1)
theorem pi_keysB {tg e:Expr} {te:TE} (he:PE X e te):PI X tg e (iKeysB X.prog X.w te):=by
 intro pins s σ H R I h
 refine thn (he pins s σ H _ I h) fun v s1 ⟨y,H1,I1,r1,d,xs,kvs,ey,hsys,q⟩=>?_
 subst ey
 cases r1
 obtain ⟨o,es1,ep,e1,ex,e2,e3⟩:∃ o es ep,s1.heap.get? d=some o∧o.ExactDict∧o.data=.dict es ep∧es.toList=xs.map (entryOfKey (tupleKind (boolKind X.prog X.w))):=by
  rcases q with ⟨q,_⟩ | ⟨o,q,_⟩
  ·exact (I1.hok d _ q).1
  ·exact (I1.hok d _ q).2.1
 obtain ⟨H2,I2,fz,r⟩:∃ H2,Inv X pins σ H2 s1∧H2 d=some (.frz o (DbO X.prog X.w d xs))∧R (Itkb X.prog X.w d o xs kvs) H2:=by
  rcases q with ⟨q,r⟩ | ⟨o',q,r⟩
  ·exact ⟨_,I1.frozenE q e1,upd_same,r o⟩
  ·have:o'=o:=by
    have:=(I1.hok d _ q).1
    rw [e1] at this; cases this; rfl
   subst this
   exact ⟨H1,I1,q,r⟩
 refine iterK_raw hsys e1 ex.1 e2 ?_
 refine ⟨_,_,_,_,H2,rfl,I2.kept (t':=s1.toks) fun b o e=>Heap.get?_push_of_some _ e,turn_keysB (o:=o) (xs:=xs) (kvs:=kvs) e2,Heap.get?_push_size _ rfl,fun b hb=>?_,r⟩
 have e:b=s1.heap.objs.size:=by simpa using hb
 subst e
 exact I2.fpOk (Nat.le_refl _) (I2.hok.fresh (Nat.le_refl _))
theorem for_keysB {P:Program} {w:World} {d:Addr} {o:Obj} {xs:List (List Bool×Addr×Value)} {kvs:List (List Bool×V)} {g:TG} {tb:TS} {D:Ends} {σ:St} {H:Hp} (Pv:Nat→St→Hp→Prop) (h0:Pv 0 σ H) (hz:∀ i σ H,Pv i σ H→H d=some (.frz o (DbO P w d xs))∧KTB H kvs xs)
  (hs:∀ i k x q σ H,kvs[i]?=some (k,x)→Kb H q k→Pv i σ H→g (.ref q) σ H fun σ2 H2=>tb { D with nx:=Pv (i + 1),ct:=Pv (i + 1),bk:=D.nx } σ2 H2) (hd:∀ σ H,Pv kvs.length σ H→D.nx σ H) :
  ∃ W:Nat→Nat→St→Hp→Prop,(∃ m,W 0 m σ H)∧∀ i m σ H,W i m σ H →
   ((Itkb P w d o xs kvs).stop i H∧D.nx σ H)∨((Itkb P w d o xs kvs).go i H∧∃ N:St→Hp→Prop,(∀ σ' H',N σ' H'→∃ m',m' < m∧W (i + 1) m' σ' H')∧∀ x H',(Itkb P w d o xs kvs).yld i H x H'→g x σ H' fun σ2 H2=>tb { D with nx:=N,ct:=N,bk:=D.nx } σ2 H2):=by
 refine ⟨fun i m σ H=>m=kvs.length - i∧i≤kvs.length∧Pv i σ H,⟨kvs.length,by simp,Nat.zero_le _,h0⟩,?_⟩
 rintro i m σ H ⟨rfl,hi,p⟩
 obtain ⟨q1,q2⟩:=hz i σ H p
 by_cases hlt:i < kvs.length
 ·refine .inr ⟨⟨q1,q2,hlt⟩,Pv (i + 1),fun σ' H' p'=>⟨kvs.length - (i + 1),by lia,rfl,hlt,p'⟩,fun v H' y=>?_⟩
  obtain ⟨rfl,k,x,q,hx,rfl,hq⟩:=y
  exact hs i k x q σ _ hx hq p
 ·have e:i=kvs.length:=by lia
  subst e
  exact .inl ⟨⟨q1,q2,Nat.le_refl _⟩,hd σ H p⟩
end
end L2
namespace L2
open PySem PySem.Spec PyProof.Rows
noncomputable def TbX (P:Program) (w:World) (H:Hp) (a:Addr) (kvs:List (List Bool×V)):Prop :=
 ∃ xs,Rd H a (DbO P w a xs)∧kvs.length≤sizeLine∧(a == sysModules)=false∧KTB H kvs xs∧(xs.map (·.1)).Nodup
section
variable {prog:Program} {w:World} {K:Type} [DecidableEq K] {knd:HeapKind prog w K} {A:Around} {E:Value→Shared→Prop} {s:Shared}
end
section
variable {X:Cx} {pins:List (Addr×Obj)} {σ:St} {H:Hp} {s:Shared} {a b:Addr} {kvs:List (List Bool×V)} {k:List Bool} {A:Around} {E:Value→Shared→Prop}
theorem tbx_rd (I:Inv X pins σ H s) (t:TbX X.prog X.w H a kvs):(a == sysModules)=false∧kvs.length≤sizeLine∧∃ xs,KTB H kvs xs∧s.heap.DictOfH (tupleKind (boolKind X.prog X.w)) a xs:=by
 obtain ⟨xs,h1,h2,h3,h4,h5⟩:=t
 obtain ⟨⟨o,es,ep,g1,g2,g3,g4⟩,_⟩:=(show ObjOk X.prog X.w H s.heap a (DbO X.prog X.w a xs) from h1.ok I.hok)
 refine ⟨h3,h2,xs,h4,o,es,ep,g1,g2,g3,g4,fun x hx=>?_,h5⟩
 have all:∀ {l:List (List Bool×V)} {m:List (List Bool×Addr×Value)},KTB H l m→∀ x∈m,(tupleKind (boolKind X.prog X.w)).is s.heap x.1 x.2.1:=by
  intro l m q
  induction q with
  | nil=>intro x hx; exact nomatch hx
  | @cons p q ps qs hq t ih =>
   intro x hx
   rcases List.mem_cons.mp hx with e | hx
   ·subst e
    exact key_bl I.hok (by rw [← hq.1]; exact hq.2.1.rd)
   ·exact ih x hx
 exact all h4 x hx
theorem bx_getItem {v:V} {Q:Value→Shared→Prop} (hu:A.units + 1 < cLine) (I:Inv X pins σ H s) (t:TbX X.prog X.w H a kvs) (eb:Rd H b (.tup (k.map V.bl))) (l:valV kvs k=some v) (h:∀ w' s',Inv X pins σ H s'→RelV v w'→Q w' s') :
  wpAny (model X.prog X.w) A (getItem (.ref a) (.ref b)) Q E s:=by
 obtain ⟨_,_,xs,rel,dd⟩:=tbx_rd I t
 obtain ⟨w',hw,rw'⟩:=RelO.some_of (v:=v) (o:=(atKey xs k).map (·.2)) (by rw [← l]; exact rel.val k)
 obtain ⟨p,hp,hp2⟩:=Option.map_eq_some_iff.mp hw
 refine wpAny_getItem_heap (tupleKind_room_in1 hu) (key_bl I.hok eb) dd hp ?_
 rw [hp2]
 exact h w' _ (I.tok _) rw'
theorem pr_forth {α β:Type} {R:α→β→Prop} {xs:List α} {ys:List β} (h:Paired R xs ys) {i:Nat} {x:α} (e:xs[i]?=some x):∃ y,ys[i]?=some y∧R x y:=by
 induction h generalizing i with
 | nil=>simp at e
 | cons h t ih =>
  cases i with
  | zero=>simp at e; subst e; exact ⟨_,rfl,h⟩
  | succ i=>simp at e; obtain ⟨x,h1,h2⟩:=ih e; exact ⟨x,by simpa using h1,h2⟩
end
section
variable {X:Cx} {o i:Expr} {td ty:TE} {pos:Pos}
noncomputable def tDGetX (P:Program) (w:World) (td ty:TE):TE:=fun σ H Q=>td σ H fun x H1=>ty σ H1 fun y H2=>∃ a b kvs k v,x=.ref a∧y=.ref b∧TbX P w H2 a kvs∧Rd H2 b (.tup (k.map V.bl))∧valV kvs k=some v∧Q v H2
theorem pe_dgetX (hu:X.A.units + 1 < cLine) (ho:PE X o td) (hi:PE X i ty) (hs:NoSl i):PE X (.Subscript o i pos) (tDGetX X.prog X.w td ty):=by
 intro pins s σ H Q I h
 refine subD_of PySem.F.slot_dict_getitem.lookup hs (thn (ho pins s σ H _ I h) fun u s1 ⟨x,H1,I1,rx,q1⟩=>thn (hi pins s1 σ H1 _ I1 q1) fun iv s2 ⟨y,H2,I2,ry,a,b,kvs,k,v,ex,ey,t,eb,l,q2⟩=>?_)
 subst ex ey
 obtain rfl:u=Value.ref a:=rx
 obtain rfl:iv=Value.ref b:=ry
 obtain ⟨_,_,xs,_,dd⟩:=tbx_rd I2 t
 exact ⟨dd.typeIs,bx_getItem hu I2 t eb l fun w' s3 I3 rw'=>⟨v,H2,I3,rw',q2⟩⟩
end
end L2
namespace L2
open PySem PySem.Spec PyProof.Rows
section
variable {prog:Program} {w:World} {A:Around} {E:Value→Shared→Prop} {s:Shared}
end
section
variable {prog:Program} {w:World} {A:Around} {R:Result→Shared→Prop} {I:Addr} {fp wr:List Addr} {G:Array GenState→Array GenState→Prop} {n:Nat} {P:Nat→Value→Prop} {St:Nat→Shared→Prop}
end
section
variable {X:Cx} {pins:List (Addr×Obj)} {σ:St} {H:Hp} {s:Shared}
theorem rd_same0 {H H':Hp} {a:Addr} {u:HO} (s:Same H H') (h:Rd H a u):Rd H' a u:=h.elim (fun h=>.inl (s _ _ h)) fun ⟨o,h⟩=>.inr ⟨o,s _ _ h⟩
end
section
variable {prog:Program} {w:World} {K:Type} [DecidableEq K] {knd:HeapKind prog w K} {A:Around} {E:Value→Shared→Prop} {s:Shared}
end
section
variable {X:Cx} {pins:List (Addr×Obj)} {σ:St} {H:Hp} {s:Shared} {a:Addr} {kvs:List (List Bool×V)}
end
section
variable {prog:Program} {w:World}
end
section
variable {X:Cx} {o:Expr} {to:TE} {apos cpos:Pos}
end
section
variable {X:Cx} {p pos:Pos}
end
end L2
namespace L2
open PySem PySem.Spec PyProof.Rows
noncomputable abbrev KTF (H:Hp):List (List Int×V)→List (List Int×Addr×Value)→Prop:=Paired fun p q=>p.1=q.1∧Rd H q.2.1 (.tup (p.1.map V.int))∧RelV p.2 q.2.2
theorem KTF.val {H:Hp} {kvs:List (List Int×V)} {xs:List (List Int×Addr×Value)} (r:KTF H kvs xs) (k:List Int):RelO (valV kvs k) ((atKey xs k).map (·.2)):=by
 induction r with
 | nil=>exact True.intro
 | @cons p q ps qs h t ih =>
  obtain ⟨h1,_,h2⟩:=h
  by_cases e:p.1=k
  ·have b:atKey (q :: qs) k=some q.2:=by simp [atKey,List.find?_cons,h1.symm.trans e]
   rw [valV_pos e,b]; exact h2
  ·have b:atKey (q :: qs) k=atKey qs k:=by
    have e':¬ q.1=k:=fun z=>e (h1.trans z)
    simp [atKey,List.find?_cons,e']
   rw [valV_neg e,b]; exact ih
theorem KTF.put {H:Hp} {kvs:List (List Int×V)} {xs:List (List Int×Addr×Value)} (r:KTF H kvs xs) (k:List Int) {b:Addr} {y:V} {u:Value} (hb:Rd H b (.tup (k.map V.int))) (ry:RelV y u):KTF H (putK kvs k y) (storedH xs k b u):=by
 have e:(kvs.any fun kv=>decide (kv.1=k))=(atKey xs k).isSome:=by
  rw [valV_any,(r.val k).isSome_eq,Option.isSome_map]
 unfold putK storedH
 rw [e]
 by_cases q:(atKey xs k).isSome=true
 ·rw [if_pos q,if_pos q]
  clear e q
  induction r with
  | nil=>exact .nil
  | @cons p q ps qs h t ih =>
   rw [List.map_cons,List.map_cons]
   refine .cons ?_ ih
   obtain ⟨h1,h2,h3⟩:=h
   unfold PySem.putAt
   by_cases e:p.1=k
   ·rw [if_pos e,if_pos (h1.symm.trans e)]; exact ⟨h1,h2,ry⟩
   ·rw [if_neg e,if_neg (fun z=>e (h1.trans z))]; exact ⟨h1,h2,h3⟩
 ·rw [if_neg q,if_neg q]; exact Paired.snoc r ⟨rfl,hb,ry⟩
theorem KTF.keeps {H H':Hp} {kvs:List (List Int×V)} {xs:List (List Int×Addr×Value)} (r:KTF H kvs xs) (ht:∀ b ys,Rd H b (.tup ys)→Rd H' b (.tup ys)):KTF H' kvs xs :=
 Paired.mapP r fun _ _ z=>⟨z.1,ht _ _ z.2.1,z.2.2⟩
theorem items_in {P:Program} {w:World}:∀ {ks:List Int} {us:List Value},Vals (ks.map V.int) us→ItemsAre (intKind P w) ks us
 | [],_,r=>by rw [List.map_nil] at r; cases r; exact .nil
 | k :: ks,_,r=>by
  rw [List.map_cons] at r
  cases r with
  | cons h t =>
   obtain ⟨t',rfl⟩:=h
   exact .cons (intKind_is _ _ _ _) (items_in t)
section
variable {P:Program} {w:World} {H:Hp} {h:Heap} {a:Addr}
theorem key_in {ks:List Int} (ok:HOk P w H h) (e:Rd H a (.tup (ks.map V.int))):(tupleKind (intKind P w)).is h ks a:=by
 obtain ⟨_,its,r,o,h1,h2,n,h3⟩:=(show ObjOk P w H h a (.tup (ks.map V.int)) from e.ok ok)
 exact ⟨o,its.toArray,n,h1,h2,h3,by simpa using items_in r⟩
end
noncomputable def DfO (P:Program) (w:World) (a:Addr) (xs:List (List Int×Addr×Value)):HO :=
 .ext fun h=>∃ o es ep,h.get? a=some o∧o.ExactDict∧o.data=.dict es ep∧es.toList=xs.map (entryOfKey (tupleKind (intKind P w)))
noncomputable def Tf (P:Program) (w:World) (H:Hp) (a:Addr) (kvs:List (List Int×V)):Prop :=
 ∃ xs,H a=some (DfO P w a xs)∧kvs.length≤sizeLine∧(a == sysModules)=false∧KTF H kvs xs∧(xs.map (·.1)).Nodup
section
variable {P:Program} {w:World} {H H':Hp} {h:Heap} {a:Addr} {kvs:List (List Int×V)}
theorem df_ok {xs:List (List Int×Addr×Value)} (e:∃ o es ep,h.get? a=some o∧o.ExactDict∧o.data=.dict es ep∧es.toList=xs.map (entryOfKey (tupleKind (intKind P w)))):ObjOk P w H h a (DfO P w a xs):=by
 obtain ⟨o,es,ep,h1,h2,h3,h4⟩:=id e
 exact ⟨e,⟨o,h1⟩,fun g1 g2 ⟨o,es,ep,h1,h2,h3,h4⟩ k=>⟨o,es,ep,k o h1,h2,h3,h4⟩⟩
theorem Tf.same (s:Same H H') (t:Tf P w H a kvs):Tf P w H' a kvs:=by
 obtain ⟨xs,h1,h2,h3,h4,h5⟩:=t
 exact ⟨xs,s _ _ h1,h2,h3,h4.keeps fun b ys e=>rd_same0 s e,h5⟩
theorem Tf.new {p:Addr} (hp:(p == sysModules)=false):Tf P w (upd H p (DfO P w p [])) p [] :=
 ⟨[],upd_same,Nat.zero_le _,hp,.nil,List.nodup_nil⟩
end
section
variable {X:Cx} {pins:List (Addr×Obj)} {σ:St} {H:Hp} {s:Shared} {a b:Addr} {kvs:List (List Int×V)} {k:List Int} {A:Around} {E:Value→Shared→Prop}
theorem tf_rd (I:Inv X pins σ H s) (t:Tf X.prog X.w H a kvs):(a == sysModules)=false∧kvs.length≤sizeLine∧∃ xs,KTF H kvs xs∧s.heap.DictOfH (tupleKind (intKind X.prog X.w)) a xs:=by
 obtain ⟨xs,h1,h2,h3,h4,h5⟩:=t
 obtain ⟨⟨o,es,ep,g1,g2,g3,g4⟩,_⟩:=(show ObjOk X.prog X.w H s.heap a (DfO X.prog X.w a xs) from I.hok a _ h1)
 refine ⟨h3,h2,xs,h4,o,es,ep,g1,g2,g3,g4,fun x hx=>?_,h5⟩
 have all:∀ {l:List (List Int×V)} {m:List (List Int×Addr×Value)},KTF H l m→∀ x∈m,(tupleKind (intKind X.prog X.w)).is s.heap x.1 x.2.1:=by
  intro l m q
  induction q with
  | nil=>intro x hx; exact nomatch hx
  | @cons p q ps qs hq t ih =>
   intro x hx
   rcases List.mem_cons.mp hx with e | hx
   ·subst e
    exact key_in I.hok (by rw [← hq.1]; exact hq.2.1)
   ·exact ih x hx
 exact all h4 x hx
theorem f_getItem {v:V} {Q:Value→Shared→Prop} (hu:A.units + 1 < cLine) (I:Inv X pins σ H s) (t:Tf X.prog X.w H a kvs) (eb:Rd H b (.tup (k.map V.int))) (l:valV kvs k=some v) (h:∀ w' s',Inv X pins σ H s'→RelV v w'→Q w' s') :
  wpAny (model X.prog X.w) A (getItem (.ref a) (.ref b)) Q E s:=by
 obtain ⟨_,_,xs,rel,dd⟩:=tf_rd I t
 obtain ⟨w',hw,rw'⟩:=RelO.some_of (v:=v) (o:=(atKey xs k).map (·.2)) (by rw [← l]; exact rel.val k)
 obtain ⟨p,hp,hp2⟩:=Option.map_eq_some_iff.mp hw
 refine wpAny_getItem_heap (tupleKind_room_in1 hu) (key_in I.hok eb) dd hp ?_
 rw [hp2]
 exact h w' _ (I.tok _) rw'
end
section
variable {X:Cx} {o i value:Expr} {td ty tv tx:TE} {pos pos':Pos}
theorem pe_dnewF:PE X (.Dict [] [] pos) (fun _ H Q=>∀ p,H p=none→(p == sysModules)=false→Q (.ref p) (upd H p (DfO X.prog X.w p []))):=fun pins s σ H Q I h =>
 wpAny_Dict_empty ⟨.ref s.heap.objs.size,_,I.laid (a:=s.heap.objs.size) (o:=DfO X.prog X.w s.heap.objs.size []) (t':=s.toks) (fun _ _ q=>Heap.get?_push_of_some _ q) (Nat.le_refl _) (df_ok ⟨_,#[],0,Heap.get?_push_size _ rfl,⟨rfl,rfl,rfl⟩,rfl,rfl⟩),rfl,
  h _ (I.hok.fresh (Nat.le_refl _)) (beq_eq_false_iff_ne.mpr (Ne.symm (Nat.ne_of_lt I.big)))⟩
noncomputable def tDGetF (P:Program) (w:World) (td ty:TE):TE:=fun σ H Q=>td σ H fun x H1=>ty σ H1 fun y H2=>∃ a b kvs k v,x=.ref a∧y=.ref b∧Tf P w H2 a kvs∧Rd H2 b (.tup (k.map V.int))∧valV kvs k=some v∧Q v H2
theorem pe_dgetF (hu:X.A.units + 1 < cLine) (ho:PE X o td) (hi:PE X i ty) (hs:NoSl i):PE X (.Subscript o i pos) (tDGetF X.prog X.w td ty):=by
 intro pins s σ H Q I h
 refine subD_of PySem.F.slot_dict_getitem.lookup hs (thn (ho pins s σ H _ I h) fun u s1 ⟨x,H1,I1,rx,q1⟩=>thn (hi pins s1 σ H1 _ I1 q1) fun iv s2 ⟨y,H2,I2,ry,a,b,kvs,k,v,ex,ey,t,eb,l,q2⟩=>?_)
 subst ex ey
 obtain rfl:u=Value.ref a:=rx
 obtain rfl:iv=Value.ref b:=ry
 obtain ⟨_,_,xs,_,dd⟩:=tf_rd I2 t
 exact ⟨dd.typeIs,f_getItem hu I2 t eb l fun w' s3 I3 rw'=>⟨v,H2,I3,rw',q2⟩⟩
end
section
variable {X:Cx} {pins:List (Addr×Obj)} {σ:St} {H:Hp} {s:Shared} {a b:Addr} {kvs:List (List Int×V)} {k:List Int} {A:Around} {E:Value→Shared→Prop}
theorem f_dictSet {v:V} {r:Value} {Q:Unit→Shared→Prop} (hu:A.units < cLine) (I:Inv X pins σ H s) (t:Tf X.prog X.w H a kvs) (eb:Rd H b (.tup (k.map V.int))) (hl:kvs.length < sizeLine) (rv:RelV v r)
  (h:∀ s' H',Inv X pins σ H' s'→(∀ c,c≠a→H' c=H c)→Tf X.prog X.w H' a (putK kvs k v)→Q () s'):wpAny (model X.prog X.w) A (dictSet a (.ref b) r) Q E s:=by
 obtain ⟨hsys,hz0,xs,rel,dd⟩:=tf_rd I t
 have hz:xs.length≤sizeLine:=by rw [← Paired.length rel]; exact hz0
 have hl2:(putK kvs k v).length≤sizeLine:=by have:=length_putK kvs k v; lia
 refine wpAny_dictSet_heap (knd:=tupleKind (intKind X.prog X.w)) (hsz:=hz) hu (key_in I.hok eb) dd fun h' dd' hs=>?_
 obtain ⟨q,es,ep,hq,h2,h3,h4,_,h5⟩:=dd'
 obtain ⟨xs0,e0,_⟩:=t
 have I2:Inv X pins σ (upd H a (DfO X.prog X.w a (storedH xs k b r))) { s with heap:=h',toks:=s.toks + (tupleKind (intKind X.prog X.w)).draws k } :=
  I.write (x:=a) (e:=a) (by rw [e0]; exact True.intro) (.inl rfl) (fun c q hb z=>(hs.2 c hb).trans z) ⟨q,hq⟩ (df_ok ⟨q,es,ep,hq,h2,h3,h4⟩)
 refine h _ _ I2 (fun c hc=>upd_ne hc) ⟨_,upd_same,hl2,hsys,(rel.put k eb rv).keeps fun c ys ec=>?_,h5⟩
 rcases ec with ec | ⟨oc,ec⟩
 ·left; rw [upd_ne (fun z=>by rw [z,e0] at ec; cases ec)]; exact ec
 ·right; exact ⟨oc,by rw [upd_ne (fun z=>by rw [z,e0] at ec; cases ec)]; exact ec⟩
end
section
variable {X:Cx} {ke ve:Expr} {tk tv:TE} {pos:Pos}
theorem pe_disp1F (hu:X.A.units + 1 < cLine) (hk:PE X ke tk) (hv:PE X ve tv):PE X (.Dict [some ke] [ve] pos) (fun σ H Q=>∀ p,H p=none→tk σ (upd H p (DfO X.prog X.w p [])) fun x H1=>tv σ H1 fun y H2 =>
  ∃ (b:Addr) (k:List Int),x=.ref b∧H2 p=some (DfO X.prog X.w p [])∧Rd H2 b (.tup (k.map V.int))∧∀ H3:Hp,(∀ c,c≠p→H3 c=H2 c)→Tf X.prog X.w H3 p [(k,y)]→Q (.ref p) H3):=by
 intro pins s σ H Q I h
 rw [arm_eval_Dict,zip_pairTrees [some ke] [ve] X.env pos rfl rfl,dictDisplay_pairs _ (by rw [← List.length_pos_iff,pairTrees_length _ _ _ _ rfl rfl]; show 0 < 1; decide) (by rw [pairTrees_length _ _ _ _ rfl rfl]; show 1 < 17; decide)]
 refine wpAny_bind (wpAny_standAt (wpAny_bind ?_))
 unfold subDict
 refine wpAny_bind (wpAny_alloc ?_)
 refine wpAny_bind (wpAny_holding ?_)
 rw [if_pos (by rw [pairTrees_length _ _ _ _ rfl rfl]; show 1≤15; decide)]
 have hf:H s.heap.objs.size=none:=I.hok.fresh (Nat.le_refl _)
 have hsys:(s.heap.objs.size == sysModules)=false:=beq_eq_false_iff_ne.mpr (Ne.symm (Nat.ne_of_lt I.big))
 have I1:=I.laid (a:=s.heap.objs.size) (o:=DfO X.prog X.w s.heap.objs.size []) (h':=s.heap.push { cls:=.type "dict",data:=.dict #[] }) (t':=s.toks) (fun _ _ q=>Heap.get?_push_of_some _ q) (Nat.le_refl _) (df_ok ⟨_,#[],0,Heap.get?_push_size _ rfl,⟨rfl,rfl,rfl⟩,rfl,rfl⟩)
 refine wpAny_bind (pairTrees_cons_walk (thn (hk pins _ σ _ _ I1 (h _ hf)) fun u s1 ⟨x,H1,J1,rx,q1⟩=>thn (hv pins s1 σ H1 _ J1 q1) fun w2 s2 ⟨y,H2,J2,ry,b,k,ex,e2,eb,q2⟩=>pairTrees_nil_walk ?_))
 subst ex
 obtain rfl:u=Value.ref b:=rx
 refine wpAny_holding (wpAny_bind ?_)
 rw [List.forIn_cons]
 refine wpAny_bind (wpAny_bind (f_dictSet (kvs:=[]) (by lia) J2 ⟨[],e2,Nat.zero_le _,hsys,.nil,List.nodup_nil⟩ eb (by rw [sizeLine_eq]; decide) ry fun s3 H3 J3 kp t3=>wpAny_pure ?_))
 show wpAny _ _ (forIn [] PUnit.unit _) _ _ _
 rw [List.forIn_nil]
 exact wpAny_pure (wpAny_pure (wpAny_pure (wpAny_pure ⟨.ref s.heap.objs.size,H3,J3,rfl,q2 H3 kp t3⟩)))
end
section
variable {prog:Program} {w:World} {A:Around} {E:Value→Shared→Prop} {s:Shared}
theorem merge_F {d o:Addr} {xs:List (List Int×Addr×Value)} {Q:Unit→Shared→Prop} (hne:d≠o) (hoS:(o == sysModules)=false) (hl:xs.length≤1)
  (hd:s.heap.DictOfH (tupleKind (intKind prog w)) d []) (ho:s.heap.DictOfH (tupleKind (intKind prog w)) o xs)
  (h:∀ h',(∃ q es ep,h'.get? d=some q∧q.ExactDict∧q.data=.dict es ep∧es.toList=xs.map (entryOfKey (tupleKind (intKind prog w))))→Heap.SameBut d s.heap h'→Q () { s with heap:=h' }) :
  wpAny (model prog w) A (Builtin.Dict.mergeDict "dict.update" d o) Q E s:=by
 obtain ⟨od,es0,ep0,hod,hcd,hdd,hkd,_⟩:=hd
 obtain ⟨oo,es,ep,hoo,hco,hdo,hko,hio,_⟩:=ho
 have e0:es0=#[]:=by
  have:es0.toList=[]:=hkd
  exact Array.toList_inj.mp (by simpa using this)
 subst e0
 unfold Builtin.Dict.mergeDict
 rw [if_neg (by simpa using hne)]
 unfold Builtin.Dict.showsAll
 rw [if_neg (show ¬ (o == sysModules)=true by rw [hoS]; exact Bool.false_ne_true)]
 refine wpAny_bind (wpAny_pure (wpAny_bind (wpAny_dictEntries hoo hdo ?_)))
 dsimp only
 match xs,hl with
 | [],_ =>
  have ee:es=#[]:=Array.toList_inj.mp (by simpa using hko)
  subst ee
  rw [if_neg (by simp)]
  refine wpAny_bind (wpAny_dictEpoch hoo hdo (wpAny_bind (wpAny_dictEntries hoo hdo (wpAny_bind ?_))))
  rw [Std.Legacy.Range.forIn_eq_forIn_range']
  simp only [Std.Legacy.Range.size,Nat.sub_zero,Nat.add_sub_cancel,Nat.div_one]
  show wpAny _ _ (forIn [] PUnit.unit _) _ _ _
  rw [List.forIn_nil]
  exact wpAny_pure (wpAny_pure (h s.heap ⟨od,#[],ep0,hod,hcd,hdd,rfl⟩ (Heap.SameBut.refl _ _)))
 | [x],_ =>
  have ee:es=#[entryOfKey (tupleKind (intKind prog w)) x]:=Array.toList_inj.mp (by simpa using hko)
  subst ee
  rw [if_pos (by simp [entryOfKey,keyPart])]
  refine wpAny_bind (wpAny_dictEntries hod hdd ?_)
  rw [if_pos (by rfl)]
  unfold Builtin.Dict.entriesForEmpty
  refine wpAny_bind (wpAny_bind (wpAny_dictEntries hoo hdo (wpAny_bind ?_)))
  obtain ⟨ok,its,n,g1,g2,_⟩:=hio x (List.mem_singleton.mpr rfl)
  have hT:s.TypeIs (.ref x.2.1) "tuple":=⟨ok,g1,g2⟩
  rw [← Array.forIn_toList]
  show wpAny _ _ (forIn [entryOfKey (tupleKind (intKind prog w)) x] PUnit.unit _) _ _ _
  rw [List.forIn_cons]
  refine wpAny_bind (wpAny_bind ?_)
  unfold Builtin.Dict.quietEq
  show wpAny _ _ (specialOf (.ref x.2.1) "__eq__" >>= _) _ _ _
  refine wpAny_bind (wpAny_specialOf hT PySem.F.slot_tuple_eq.lookup (wpAny_pure ?_))
  rw [if_pos (by decide),if_neg (by
   have:=Array.size_filter_le (p:=fun y=>y.hash == (entryOfKey (tupleKind (intKind prog w)) x).hash) (xs:=#[entryOfKey (tupleKind (intKind prog w)) x])
   simp at this ⊢)]
  refine wpAny_pure ?_
  show wpAny _ _ (forIn [] PUnit.unit _) _ _ _
  rw [List.forIn_nil]
  refine wpAny_pure (wpAny_pure ?_)
  rw [if_pos (by rfl)]
  refine wpAny_bind (wpAny_updateDictKeys (hz:=by show 0≤sizeLine; exact Nat.zero_le _) hod hdd (wpAny_pure (h _ ⟨_,_,ep0 + 1,Heap.get?_update_self _ hod (Obj.isFreed_of_dict (Obj.data_mapDictKeys hdd _)),hcd.mapDictKeys _,Obj.data_mapDictKeys hdd _,hko⟩ (Heap.SameBut.update ..))))
end
end L2
namespace L2
open PySem PySem.Spec PyProof.Rows PySem.W
section
variable {prog:Program} {w:World} {A:Around} {E:Value→Shared→Prop} {s:Shared}
theorem walks_raw {d I:Addr} {o:Obj} {es:Array DictEntry} {ep:Nat} (hh:A.handled=none) (hne:d≠I) (hd:o.data=.dict es ep) :
  Walks prog w A I [I,d] [I] es.size (fun i v=>∃ e,es[i]?=some e∧v=e.key) (fun i h=>IsKIter h I d i es.size ep∧h.get? d=some o) where
 sub:=fun b hb=>by simp at hb; simp [hb]
 frame:=fun i h h' st k=>⟨k I (by simp) _ st.1,k d (by simp) _ st.2⟩
 item:=fun i s Q E hi st hQ=>nextK_raw st.1 st.2 hd (Array.getElem?_eq_getElem hi) fun h' it' sb =>
  hQ _ h' s.toks ⟨_,Array.getElem?_eq_getElem hi,rfl⟩ ⟨it',(sb.2 d hne).trans st.2⟩ fun b o nb e=>(sb.2 b (by simpa using nb)).trans e
 done:=fun s Q E st hQ=>nextK_end hh st.1 st.2 hd (Array.getElem?_eq_none (Nat.le_refl _)) fun h' eb=>hQ h' s.toks fun b o nb e=>eb b o (by simpa using nb) e
 self:=fun i s Q E st h=>pyIter_keyiter (d:=d) (i:=i) (n:=es.size) (ep:=ep) ⟨_,st.1,rfl,rfl⟩ h
theorem kdl_raw {d:Addr} {o:Obj} {es:Array DictEntry} {ep:Nat} (lo:(d == sysModules)=false) (hc:o.cls=.type "dict") (hd:o.data=.dict es ep) :
  KdlSrc prog w "dict" d d es.size (fun i v=>∃ e,es[i]?=some e∧v=e.key) (fun h=>h.get? d=some o) where
 type:=fun _ hm=>⟨o,hm,hc⟩
 there:=fun _ hm=>⟨Heap.lt_size hm,Heap.lt_size hm⟩
 keep:=fun _ _ hm hk=>hk d (.inl rfl) o hm
 notList:=by decide
 notTuple:=by decide
 hint:=fun _ _ _ _ hm hq=>kdl_hint_dict ⟨o,hm,hc⟩ hq
 iter:=fun _ s hh hm=>⟨_,_,(fun _ _ hq=>iterK_raw lo hm hc hd hq),walks_raw hh (Nat.ne_of_lt (Heap.lt_size hm)) hd,⟨Heap.get?_push_size _ rfl,Heap.get?_push_of_some _ hm⟩⟩
theorem collect_raw {a:Addr} {o:Obj} {es:Array DictEntry} {ep:Nat} {Q:List Value→Shared→Prop} (hh:A.handled=none) (hsys:(a == sysModules)=false) (ho:s.heap.get? a=some o) (hc:o.cls=.type "dict") (hd:o.data=.dict es ep) (hz:es.size≤900000)
  (q:∀ (g:Heap) (tk:Nat),(∀ b o,s.heap.get? b=some o→g.get? b=some o)→s.heap.objs.size < g.objs.size→Q (es.toList.map (·.key)) { s with heap:=g,toks:=tk }) :
  wpAny (model prog w) A (collect (.ref a)) Q E s:=by
 have szl:=sizeLine_eq
 unfold collect
 refine wpAny_bind (wpAny_runValue (codeAny_builtin entry_proto_collect' ?_))
 show wpAny _ _ (do again (.builtin "list.__iadd__" ⟨[← newList [],.ref a],[]⟩)) _ _ s
 have ne:s.heap.objs.size≠a:=Nat.ne_of_gt (Heap.lt_size ho)
 refine wpAny_bind (wpAny_newList (wpAny_pure ⟨Code.quiet_builtin _ (by decide +kernel),iadd_L (s:={ s with heap:=s.heap.push (seqObj "list" #[] 0) }) (kdl_raw (o:=o) (es:=es) (ep:=ep) hsys hc hd) hh (Heap.get?_push_of_some _ ho) ne ne (Heap.get?_push_size _ rfl) (by lia) fun h' tk acc' c' k hS' hacc=>?_⟩))
 show wpAny _ _ (load s.heap.objs.size >>= _) Q E _
 refine wpAny_bind (wpAny_load hS' (wpAny_pure ?_))
 obtain ⟨sz,it⟩:=hacc
 have e:acc'.toList=es.toList.map (·.key):=by
  apply List.ext_getElem?
  intro i
  rw [List.getElem?_map,Array.getElem?_toList,Array.getElem?_toList]
  rcases Nat.lt_or_ge i es.size with hi | hi
  ·have ei:acc'[i]?=some acc'[i]:=Array.getElem?_eq_getElem (by lia)
   obtain ⟨en,e1,e2⟩:=it i _ ei
   rw [ei,e1,e2]; rfl
  ·rw [Array.getElem?_eq_none (by lia),Array.getElem?_eq_none hi]; rfl
 show Q acc'.toList _
 rw [e]
 refine q h' tk (fun b ob e=>k b ob (fun z=>?_) (Heap.get?_push_of_some _ e)) (Heap.lt_size hS')
 rw [z] at e
 exact absurd (Heap.lt_size e) (Nat.lt_irrefl _)
end
theorem vals_refs2:∀ bs:List Addr,Vals (bs.map V.ref) (bs.map Value.ref)
 | []=>.nil
 | b :: r=>.cons rfl (vals_refs2 r)
theorem ktf_keys {H:Hp} {kvs:List (List Int×V)} {ys:List (List Int×Addr×Value)} (rel:KTF H kvs ys):Paired (fun (b:Addr) (kv:List Int×V)=>Rd H b (.tup (kv.1.map V.int))) (ys.map (·.2.1)) kvs:=by
 induction rel with
 | nil=>exact .nil
 | cons h t ih=>exact .cons h.2.1 ih
section
variable {X:Cx}
theorem call_sortF1 (hc:X.calm=true):CallR X (.builtin "sorted") (fun xs H Q=>∃ (d:Addr) (kvs:List (List Int×V)),xs=[.ref d]∧Tf X.prog X.w H d kvs∧kvs.length≤1∧(∀ p∈kvs,p.1≠[]) ∧
  ∀ (p:Addr) (bs:List Addr) (H':Hp),Same H H'→H' p=some (.lst (bs.map V.ref))→Paired (fun (b:Addr) (kv:List Int×V)=>Rd H b (.tup (kv.1.map V.int))) bs kvs→Q (.ref p) H'):=by
 intro pins s σ H xs us Q I r h
 obtain ⟨d,kvs,rfl,tf,hl,hne,q⟩:=h
 obtain ⟨u,rfl,rx⟩:=vals1 r
 cases rx
 have szl:=sizeLine_eq
 obtain ⟨hsys,_,ys,rel,o,es,ep,ho,hex,hd,hk,_,_⟩:=tf_rd I tf
 have lk:kvs.length=ys.length:=Paired.length rel
 have esz:es.size=ys.length:=size_of_entries hk
 have ek:es.toList.map (·.key)=(ys.map (·.2.1)).map Value.ref:=by rw [hk,List.map_map,List.map_map]; rfl
 have pb:=ktf_keys rel
 refine Calls.call_function_entry kind_sorted plain_sorted entry_sorted (args_sorted1 _) ?_
 unfold Builtin.«sorted»
 refine wpAny_bind (m:=checkCount "sorted" 1 1 _) (wpAny_pure ?_)
 refine wpAny_bind (collect_raw (A:=X.A.in1) (by simp [I.ok.hd hc]) hsys ho hex.1 hd (by lia) fun g1 tk k1 z1=>?_)
 rw [ek]
 have hT:∀ b kv,Rd H b (.tup (kv.map V.int))→TupI s.heap (.ref b) kv:=fun b kv e=>by
  obtain ⟨us',r',p',_⟩:=I.tuple (a:=b) (xs:=kv.map V.int) (.inl e)
  exact ⟨b,us',rfl,p',intsAre_of r'⟩
 generalize hbs:ys.map (·.2.1)=bs at pb
 have bl:bs.length≤1:=by rw [pb.length]; exact hl
 have vl:(bs.map Value.ref).length=bs.length:=List.length_map ..
 refine wpAny_bind (wpAny_newList ?_ (by lia))
 have gL:(g1.push (seqObj "list" (bs.map Value.ref).toArray 0)).get? g1.objs.size=some (seqObj "list" (bs.map Value.ref).toArray 0):=Heap.get?_push_size _ rfl
 have kp:∀ b o,s.heap.get? b=some o→(g1.push (seqObj "list" (bs.map Value.ref).toArray 0)).get? b=some o:=fun b o e=>Heap.get?_push_of_some _ (k1 b o e)
 obtain ⟨f,hf⟩:∃ f:Value→List Int,∀ v∈bs.map Value.ref,TupI (g1.push (seqObj "list" (bs.map Value.ref).toArray 0)) v (f v)∧f v≠[]:=by
  cases pb with
  | nil=>exact ⟨fun _=>[],fun v hv=>nomatch hv⟩
  | @cons b kv bs' kvs' h1 h2 =>
   have e0:bs'=[]:=by rw [List.length_cons] at bl; exact List.length_eq_zero_iff.mp (by lia)
   subst e0
   refine ⟨fun _=>kv.1,fun v hv=>?_⟩
   have ev:v=.ref b:=by simpa using hv
   subst ev
   obtain ⟨a',us',e1,⟨o',g1',g2',g3'⟩,i'⟩:=hT b kv.1 h1
   exact ⟨⟨a',us',e1,⟨o',kp _ _ g1',g2',g3'⟩,i'⟩,hne kv (List.mem_cons_self ..)⟩
 refine wpAny_bind (wpAny_holding (wpAny_call_entry slot_list_sort ⟨_,gL,rfl⟩ entry_list_sort (list_sort_tup (f:=f) gL hf (by lia) fun arr hp up=>⟨_,rfl,?_⟩) (args_list_sort _)))
 have eo:(arr.map (·.2)).toList=bs.map Value.ref:=by
  have:arr.toList=(bs.map Value.ref).zip (bs.map Value.ref):=by
   match bs,bl,hp with
   | [],_,hp=>exact hp.eq_nil
   | [b],_,hp=>exact List.perm_singleton.mp hp
  rw [Array.toList_map,this]
  match bs,bl with
  | [],_=>rfl
  | [b],_=>rfl
 obtain ⟨e,at1⟩:=sortedHeap_at (out:=arr.map (·.2)) gL
 have old:∀ b o,s.heap.get? b=some o→(sortedHeap (g1.push (seqObj "list" (bs.map Value.ref).toArray 0)) g1.objs.size (bs.map Value.ref) (arr.map (·.2))).get? b=some o:=fun b o hb=>by
  have hlt:b < g1.objs.size:=Heap.lt_size (k1 b o hb)
  rw [sortedHeap_old (Nat.ne_of_lt hlt) (by rw [size_push']; exact Nat.lt_succ_of_lt hlt),Heap.get?_push_ne _ _ _ (Nat.ne_of_lt hlt)]
  exact k1 b o hb
 have hp0:s.heap.objs.size≤g1.objs.size:=Nat.le_of_lt z1
 have hf0:H g1.objs.size=none:=I.hok.fresh hp0
 have vv:=vals_refs2 bs
 refine wpAny_pure ⟨_,rfl,.ref g1.objs.size,upd H g1.objs.size (.lst (bs.map V.ref)),I.laid (t':=tk) old hp0 ⟨by rw [List.length_map,szl]; lia,bs.map Value.ref,e,vv,?_⟩,rfl,q _ bs _ (fun b u eb=>by rw [upd_ne (ne_of_none eb hf0)]; exact eb) upd_same pb⟩
 rw [at1]
 show some (seqObj "list" (arr.map (·.2)) e)=some (seqObj "list" (bs.map Value.ref).toArray e)
 rw [← eo,Array.toArray_toList]
end
end L2
namespace L2
open PySem PySem.Spec PyProof.Rows
noncomputable def TupV (H:Hp) (v:V) (r:List Int):Prop:=∃ q,v=.ref q∧H q=some (.tup (r.map V.int))
theorem map_int_inj:∀ {a b:List Int},a.map V.int=b.map V.int→a=b
 | [],[],_=>rfl
 | [],_ :: _,h=>by simp at h
 | _ :: _,[],h=>by simp at h
 | x :: a,y :: b,h=>by
  rw [List.map_cons,List.map_cons] at h
  injection h with h1 h2
  rw [V.int.inj h1,map_int_inj h2]
theorem eqDs_intI:∀ a b:List Int,eqDs (a.map D.int) (b.map D.int)=decide (a=b)
 | [],[]=>by rw [List.map_nil,eqDs]; rfl
 | [],y :: b=>by rw [List.map_nil,List.map_cons,eqDs] <;> simp
 | x :: a,[]=>by rw [List.map_nil,List.map_cons,eqDs] <;> simp
 | x :: a,y :: b=>by
  rw [List.map_cons,List.map_cons,eqDs,eqDs_intI a b,eqD]
  by_cases h:x=y
  ·subst h; simp
  ·simp [h]
theorem repTI {K:PySem.W.Frag} {H:Hp} {p:Addr} {r:List Int} (g:H p=some (.tup (r.map V.int))):Rep K H (.tup (r.map D.int)) (.ref p):=by
 unfold Rep
 exact ⟨p,_,rfl,SqT.of g,reps_ints r⟩
theorem depTI (r:List Int):(D.tup (r.map D.int)).dep=1:=by rw [D.dep,deps_ints]
noncomputable def fInR (H:Hp) (r:List Int) (v:Value):Bool:=match v with
 | .ref q=>(match H q with | some (.tup zs)=>decide (zs=r.map V.int) | _=>false)
 | _=>false
section
variable {X:Cx} {pins:List (Addr×Obj)} {σ:St} {H:Hp} {s:Shared}
theorem any_inR {r:List Int}:∀ {xs:List V} {rs:List (List Int)} {its:List Value},Paired (TupV H) xs rs→Vals xs its→its.any (fInR H r)=decide (r∈rs)
 | _,_,_,.nil,.nil=>by simp
 | _,_,_,.cons h t,.cons h2 t2=>by
  obtain ⟨q,rfl,g⟩:=h
  cases h2
  rw [List.any_cons,any_inR t t2]
  rename_i r' _ _ _
  have:fInR H r (.ref q)=decide (r=r'):=by
   unfold fInR
   show (match H q with | some (.tup zs)=>decide (zs=r.map V.int) | _=>false)=_
   rw [g]
   show decide (r'.map V.int=r.map V.int)=_
   by_cases e:r=r'
   ·subst e; simp
   ·rw [decide_eq_false e,decide_eq_false fun z=>e (map_int_inj z).symm]
  rw [this]
  simp [List.mem_cons]
theorem inR_eq (I:Inv X pins σ H s) (hA:X.A.units + 60 < cLine) {x:V} {u:Value} {r:List Int} (hx:TupV H x r) (ru:RelV x u):∀ {xs:List V} {rs:List (List Int)} {its:List Value},Paired (TupV H) xs rs→Vals xs its→∀ y∈its,SeqAt.EqAt X.A.in1 s y u (fInR H r y)
 | _,_,_,.nil,.nil=>fun y hy=>nomatch hy
 | _,_,_,.cons h t,.cons h2 t2=>fun y hy=>by
  rcases List.mem_cons.mp hy with rfl | hy
  ·obtain ⟨q,rfl,g⟩:=h
   cases h2
   rename_i r' _ _ _
   obtain ⟨q0,rfl,g0⟩:=hx
   have:=rep_eq I 50 X.A.in1 _ _ _ _ _ _ (by rw [depTI]; decide) (by show X.A.units + 1 + 50 < cLine; lia) (repTI g) (repTI g0) rfl ru
   rw [eqD,eqDs_intI] at this
   have e:fInR H r (.ref q)=decide (r'=r):=by
    unfold fInR
    show (match H q with | some (.tup zs)=>decide (zs=r.map V.int) | _=>false)=_
    rw [g]
    show decide (r'.map V.int=r.map V.int)=_
    by_cases e:r'=r
    ·subst e; simp
    ·rw [decide_eq_false e,decide_eq_false fun z=>e (map_int_inj z)]
   rw [e]
   exact this
  ·exact inR_eq I hA hx ru t t2 y hy
theorem op_notInR (hA:X.A.units + 60 < cLine):OpR X (compareOp .NotIn) (fun x y H Q=>∃ (p:Addr) (xs:List V) (r:List Int) (rs:List (List Int)),y=.ref p∧H p=some (.lst xs)∧TupV H x r∧Paired (TupV H) xs rs∧Q (.bl (!decide (r∈rs))) H):=by
 intro pins s σ H x y v u Q I rx ry h
 obtain ⟨p,xs,r,rs,rfl,hp,hx,hpr,q⟩:=h
 cases ry
 obtain ⟨its,rv,pl,hz⟩:=I.list (SqL.of hp)
 refine SeqAt.notIn_listAt (fInR H r) pl.isList (fun w hw=>inR_eq I hA hx rx hpr rv w (by simpa using hw)) ⟨.bl _,H,I,rfl,?_⟩
 rw [show its.toArray.any (fInR H r)=its.any (fInR H r) by simp,any_inR hpr rv]
 exact q
end
section
variable {prog:Program} {w:World}
theorem meets_updF {d o:Addr} {xs:List (List Int×Addr×Value)}:MeetsIn prog w (Builtin.«dict.update» ⟨[.ref d,.ref o],[]⟩) (fun _ R s=>d≠o∧(o == sysModules)=false∧xs.length≤1∧s.heap.DictOfH (tupleKind (intKind prog w)) d []∧s.heap.DictOfH (tupleKind (intKind prog w)) o xs ∧
   ∀ h',(∃ q es ep,h'.get? d=some q∧q.ExactDict∧q.data=.dict es ep∧es.toList=xs.map (entryOfKey (tupleKind (intKind prog w))))→Heap.SameBut d s.heap h'→R (.ok (.ret .none)) { s with heap:=h' }) :=
 .of_wp fun A R s ⟨hne,hoS,hl,hd,ho,h⟩=>by
  unfold Builtin.«dict.update»
  refine wpAny_bind ?_
  unfold Builtin.Dict.selfAndRest
  refine wpAny_bind (wpAny_notOrdered_dict hd.typeIs ?_)
  show wpAny _ _ (pure (d,[Value.ref o])) _ _ _
  refine wpAny_pure ?_
  show wpAny _ _ (Builtin.Dict.updateFrom "dict.update" d (.ref o) [] .none) _ _ _
  unfold Builtin.Dict.updateFrom
  refine wpAny_bind (wpAny_typeOf ho.typeIs ?_)
  rw [if_neg (by decide)]
  refine wpAny_bind ?_
  unfold Builtin.Dict.merge
  refine wpAny_bind ?_
  unfold Builtin.Dict.readDirectly
  refine wpAny_bind (wpAny_isInstance ho.typeIs isSubtype_dict_dict ?_)
  simp only [Bool.not_true,Bool.false_eq_true,if_false]
  refine wpAny_bind (wpAny_specialOf ho.typeIs F.slot_dict_iter.lookup (wpAny_pure ?_))
  simp only [beq_self_eq_true,if_true]
  refine wpAny_bind (wpAny_pure ?_)
  refine merge_F hne hoS hl hd ho fun h' hd' hs'=>?_
  show wpAny _ _ (Builtin.Dict.addKeywords d [] >>= _) _ _ _
  exact wpAny_bind (wpAny_pure (wpAny_pure ⟨.none,rfl,h h' hd' hs'⟩))
end
section
variable {X:Cx} {o e:Expr} {to te:TE} {apos cpos:Pos}
theorem pe_updF (ho:PE X o to) (he:PE X e te) (hbase:attributeBase o "update" X.env (eval o X.env)=eval o X.env:=by rfl)
  (hfew:((backTo cpos (starEach [e] X.env)).all (fun x=>!x.1) && (backToKw cpos (keywordEach [] X.env)).all (fun x=>x.1.isSome)
   && decide (([e]:List Expr).length + ([]:List Keyword).length + (if ([]:List Keyword).isEmpty then 0 else 1) < 30))=true:=by rfl)
  (hline:(apos.endLine == cpos.line)=true:=by rfl) (hs:starEach [e] X.env=(false,eval e X.env) :: starEach [] X.env:=by rfl) (hplain:(backTo cpos (starEach [] X.env)).any (·.1)=false:=by rfl) :
  PE X (.Call (.Attribute o "update" apos) [e] [] cpos) (fun σ H Q=>to σ H fun x H1=>∃ d,x=.ref d∧Tf X.prog X.w H1 d []∧te σ H1 fun y H2=>∃ (b:Addr) (kvs:List (List Int×V)),y=.ref b∧d≠b∧Tf X.prog X.w H2 d []∧Tf X.prog X.w H2 b kvs∧kvs.length≤1 ∧
   ∀ H3:Hp,(∀ c,c≠d→H3 c=H2 c)→Tf X.prog X.w H3 d kvs→Q .non H3):=by
 intro pins s σ H Q I h
 refine wpAny_Call_method_late hbase hfew hline rfl (thn (ho pins s σ H _ I h) fun v s1 ⟨x,H1,I1,r1,d,ex,t1,q1⟩=>?_)
 subst ex
 obtain rfl:v=Value.ref d:=r1
 obtain ⟨_,_,_,_,o2,es2,ep2,g1,g2,g3,_⟩:=tf_rd I1 t1
 refine ⟨"dict","dict.update",PySem.F.plainAttrs_dict,PySem.F.slot_dict_update,PySem.F.type_dict_update,⟨_,g1,g2.1⟩,fun b eb=>by cases eb; exact ⟨_,g1,g2.2.1⟩,?_⟩
 have hA:=pa_cons he pa_nil (by rw [hs] <;> rfl) cpos pins s1 σ H1 (fun vs H2=>match vs with
   | [y]=>∃ (b:Addr) (kvs:List (List Int×V)),y=.ref b∧d≠b∧Tf X.prog X.w H2 d []∧Tf X.prog X.w H2 b kvs∧kvs.length≤1∧∀ H3:Hp,(∀ c,c≠d→H3 c=H2 c)→Tf X.prog X.w H3 d kvs→Q .non H3
   | _=>False) I1 q1
 rw [hs] at hA ⊢
 refine Calls.callWith_builtin (by show (false || (backTo cpos (starEach [] X.env)).any (·.1))=false; rw [hplain] <;> rfl) (Calls.evalArgs_plain ?_)
 refine thn hA fun us s2 ⟨vs,H2,I2,r2,z2⟩=>?_
 match vs,z2 with
 | [y],⟨b,kvs,ey2,hne,td,tb,hl,q2⟩ =>
 subst ey2
 obtain ⟨u,rfl,ru⟩:=vals1 r2
 obtain rfl:u=Value.ref b:=ru
 obtain ⟨_,_,xd,reld,dd⟩:=tf_rd I2 td
 obtain ⟨sb,_,xb,relb,db⟩:=tf_rd I2 tb
 cases reld
 refine call_meetsIn PySem.F.slot_dict_update dd.typeIs PySem.F.entry_dict_update (PySem.F.args_dict_update_2 _ _) (meets_updF (d:=d) (o:=b) (xs:=xb)) ⟨hne,sb,by rw [← Paired.length relb]; exact hl,dd,db,fun h' ⟨q',es',ep',k1,k2,k3,k4⟩ hsb=>?_⟩
 obtain ⟨xs0,e0,_,sd0,_⟩:=td
 have I3:Inv X pins σ (upd H2 d (DfO X.prog X.w d xb)) { s2 with heap:=h' } :=
  I2.write (x:=d) (e:=d) (t':=s2.toks) (by rw [e0]; exact True.intro) (.inl rfl) (fun c q hb z=>(hsb.2 c hb).trans z) ⟨q',k1⟩ (df_ok ⟨q',es',ep',k1,k2,k3,k4⟩)
 obtain ⟨xs1,_,z1,_,_,nd1⟩:=tb
 refine ⟨.non,_,I3,rfl,q2 _ (fun c hc=>upd_ne hc) ⟨xb,upd_same,z1,sd0,relb.keeps fun c ys ec=>?_,?_⟩⟩
 ·rcases ec with ec | ⟨oc,ec⟩
  ·left; rw [upd_ne (fun z=>by rw [z,e0] at ec; cases ec)]; exact ec
  ·right; exact ⟨oc,by rw [upd_ne (fun z=>by rw [z,e0] at ec; cases ec)]; exact ec⟩
 ·obtain ⟨_,_,_,_,_,_,_,_,nd⟩:=db; exact nd
end
end L2
namespace Law
open PySem L2
noncomputable def top (i:Nat):Stmt:=PySem.Challenge.pw_ledtowish_k29_whole_longer_rows.main.body.getD i (.Pass ⟨0,0,0,0⟩)
section
variable {P:Program} {w:World} {K:PySem.W.Frag} {mg:Str→Option Value} {base:Heap}
noncomputable abbrev s_init:Stmt:=inClass (top 5) 0
theorem sc_init:FnScope ["self","word"] ["self","word"] (defScope s_init):=⟨rfl,rfl,rfl,by decide +kernel,rfl,by decide +kernel,by decide +kernel⟩
noncomputable def xw (wd:Str):HO:=.xd [("word",.str wd)]
noncomputable def spInit (C:Addr):Sp:=fun vs H Q _=>∃ (e:Addr) (v:V) (fr:Bool),vs=[.ref e,v]∧H e=some (xO fr (.ref C) none e)∧∀ dx,H dx=none→dx≠e→Q .non (upd (upd H e (xO fr (.ref C) (some dx) e)) dx (.xd [("word",v)]))
theorem ok_init {f C:Addr} {bm:List Value} {fd:FuncData} (F:Fun K "__init__" "NoWay.__init__" s_init f fd) (c:XC K C bm) (n:NoAttr K C "word"):FnOk P w K mg base CX0 1 f fd ["self","word"] (spInit C):=by
 refine F.ok sc_init (fun vs H Q E h=>?_) (fun cdv A outer s H vs Q E hr h=>?_)
 ·obtain ⟨e,v,fr,rfl,_⟩:=h
  rfl
 obtain ⟨e,v,fr,rfl,he,q⟩:=h
 refine ⟨_,pss_one (ps_xfld (pv 0) (pv 1) rfl),?_⟩
 refine ⟨_,rfl,_,rfl,e,C,bm,fr,rfl,c,he,n,fun dx h1 h2=>?_⟩
 exact q dx h1 h2
structure Refs (P:Program) (w:World) (K:PySem.W.Frag) (mg:Str→Option Value) (base:Heap) (W N:Addr) (bN:List Value):Prop where
 cW:XC K W vMro
 cN:XC K N bN
 gN:mg "NoWay"=some (.ref N)
 mN:XMk P w K mg base N 1 (spInit N)
 wN:NoAttr K N "word"
noncomputable def spDeedX (N:Addr) (wd:Str):Sp:=fun vs H Q E=>∃ (a b:Int),vs=[.int a,.int b]∧1≤a∧a < 2 ^ 4000∧1≤b∧b < 2 ^ 4000∧match byE wd a b with
 | .inr z=>Q (.int z) H
 | .inl e=>∀ dx,H dx=none→E (.ref N) (some dx) (upd H dx (xw e))
noncomputable def FamX (N:Addr) (fam:Str→Addr):Addr→Sp→Prop:=fun f sp=>∃ wd,okWord wd∧f=fam wd∧sp=spDeedX N wd
structure DeedsX (P:Program) (w:World) (K:PySem.W.Frag) (mg:Str→Option Value) (base:Heap) (N dD:Addr) (fam:Str→Addr):Prop where
 top:TopDict w K dD
 gl:mg "DEEDS"=some (.ref dD)
 at_:∀ wd,okWord wd→PySem.W.nsIn K dD wd=some (some (.ref (fam wd)))
 ok:∀ wd,okWord wd→Callee P w K mg base (CXF P w) 3 (fam wd) (spDeedX N wd)
variable {W N:Addr} {bN:List Value}
theorem raised {H:Hp} {E:XS} {σ:St} {wd:Str} (h:∀ dx,H dx=none→E (.ref N) (some dx) σ (upd H dx (xw wd))) (e:Addr) (he:H e=none) :
  spInit N [.ref e,.str wd] (upd H e (xO true (.ref N) none e)) (fun v H2=>v=.non∧∃ dx,H2 e=some (xO true (.ref N) dx e)∧E (.ref N) dx σ (del H2 e)) E0:=by
 refine ⟨e,.str wd,true,rfl,upd_same,fun dx h1 h2=>⟨rfl,some dx,?_,?_⟩⟩
 ·rw [upd_ne (Ne.symm h2),upd_same]
 ·rw [del_upd_ne h2,upd_upd,del_upd he]
  refine h dx ?_
  rw [upd_ne h2] at h1
  exact h1
noncomputable abbrev s_plus:Stmt:=top 7
theorem sc_plus:FnScope ["first","second"] ["first","second"] (defScope s_plus):=⟨rfl,rfl,rfl,by decide +kernel,rfl,by decide +kernel,by decide +kernel⟩
theorem okX_plus {f:Addr} {fd:FuncData} (F:Fun K "plus" "plus" s_plus f fd):FnOk P w K mg base (CXF P w) 3 f fd ["first","second"] (spDeedX N "plus"):=by
 refine F.okX sc_plus (fun vs H Q E h=>?_) (fun cdv A outer s H vs Q E hr h=>?_)
 ·obtain ⟨a,b,rfl,_⟩:=h
  rfl
 obtain ⟨a,b,rfl,a1,a2,b1,b2,e⟩:=h
 refine ⟨_,(pss_one (ps_ret (pe_op op_add (pv 0) (pv 1)))),?_⟩
 try dsimp only [Cx.nox,kx1,kx2,kx3,kx4,kx5,kx6,kx7,kx8,kx9,kxa,kxb,kxc]
 refine ⟨_,rfl,_,rfl,_,_,rfl,rfl,?_⟩
 exact e
noncomputable abbrev s_times:Stmt:=top 9
theorem sc_times:FnScope ["first","second"] ["first","second"] (defScope s_times):=⟨rfl,rfl,rfl,by decide +kernel,rfl,by decide +kernel,by decide +kernel⟩
theorem okX_times {f:Addr} {fd:FuncData} (F:Fun K "times" "times" s_times f fd):FnOk P w K mg base (CXF P w) 3 f fd ["first","second"] (spDeedX N "times"):=by
 refine F.okX sc_times (fun vs H Q E h=>?_) (fun cdv A outer s H vs Q E hr h=>?_)
 ·obtain ⟨a,b,rfl,_⟩:=h
  rfl
 obtain ⟨a,b,rfl,a1,a2,b1,b2,e⟩:=h
 have hmul:IntMulOk a b:=mulOk_of (by lia) (by lia)
 refine ⟨_,(pss_one (ps_ret (pe_op op_mulB (pv 0) (pv 1)))),?_⟩
 try dsimp only [Cx.nox,kx1,kx2,kx3,kx4,kx5,kx6,kx7,kx8,kx9,kxa,kxb,kxc]
 refine ⟨_,rfl,_,rfl,_,_,rfl,rfl,hmul,?_⟩
 have e':byE "times" a b=.inr (a * b):=by unfold byE; rw [if_neg (by decide +kernel),if_pos rfl]
 rw [e'] at e
 exact e
noncomputable abbrev s_less:Stmt:=top 8
theorem sc_less:FnScope ["first","second"] ["first","second"] (defScope s_less):=⟨rfl,rfl,rfl,by decide +kernel,rfl,by decide +kernel,by decide +kernel⟩
theorem byE_less {a b:Int}:byE "less" a b=if b < a then .inr (a - b) else .inl "less":=by
 unfold byE; rw [if_neg (by decide +kernel),if_neg (by decide +kernel),if_pos rfl]
theorem byE_share {a b:Int}:byE "share" a b=if a % b=0 then .inr (a / b) else .inl "share":=by
 unfold byE; rw [if_neg (by decide +kernel),if_neg (by decide +kernel),if_neg (by decide +kernel)]
theorem okX_less {f:Addr} {fd:FuncData} (F:Fun K "less" "less" s_less f fd) (R:Refs P w K mg base W N bN):FnOk P w K mg base (CXF P w) 3 f fd ["first","second"] (spDeedX N "less"):=by
 refine F.okX sc_less (fun vs H Q E h=>?_) (fun cdv A outer s H vs Q E hr h=>?_)
 ·obtain ⟨a,b,rfl,_⟩:=h
  rfl
 obtain ⟨a,b,rfl,a1,a2,b1,b2,e⟩:=h
 rw [byE_less] at e
 refine ⟨_,(pss_cons (ps_if (pt_cmpR op_le (pv 0) (pv 1) (nomark _)) (pss_one (ps_raise rfl R.cN R.mN (hr.mono (by lia)) R.gN (pa_cons pe_str pa_nil))) pss_nil)
   (pss_one (ps_ret (pe_op op_sub (pv 0) (pv 1))))),?_⟩
 try dsimp only [Cx.nox,kx1,kx2,kx3,kx4,kx5,kx6,kx7,kx8,kx9,kxa,kxb,kxc]
 refine ⟨_,rfl,_,rfl,_,_,rfl,rfl,_,rfl,?_⟩
 refine ite2 (fun c=>?_) (fun c=>?_)
 ·have hle:a≤b:=of_decide_eq_true c
  rw [if_neg (by lia)] at e
  exact ⟨(by show 1≤sizeLine; decide),raised (σ:=[]) (E:=fun cls dx _ H'=>E cls dx H') e⟩
 ·have hlt:b < a:=by
   have:¬ a≤b:=fun z=>c (decide_eq_true z)
   lia
  rw [if_pos hlt] at e
  refine ⟨_,rfl,_,rfl,_,_,rfl,rfl,?_⟩
  exact e
noncomputable abbrev s_share:Stmt:=top 10
theorem sc_share:FnScope ["first","second"] ["first","second"] (defScope s_share):=⟨rfl,rfl,rfl,by decide +kernel,rfl,by decide +kernel,by decide +kernel⟩
theorem okX_share {f:Addr} {fd:FuncData} (F:Fun K "share" "share" s_share f fd) (R:Refs P w K mg base W N bN):FnOk P w K mg base (CXF P w) 3 f fd ["first","second"] (spDeedX N "share"):=by
 refine F.okX sc_share (fun vs H Q E h=>?_) (fun cdv A outer s H vs Q E hr h=>?_)
 ·obtain ⟨a,b,rfl,_⟩:=h
  rfl
 obtain ⟨a,b,rfl,a1,a2,b1,b2,e⟩:=h
 rw [byE_share] at e
 refine ⟨_,(pss_cons (ps_if (pt_cmpR op_ne (pe_op op_mod (pv 0) (pv 1)) pe_int (nomark _)) (pss_one (ps_raise rfl R.cN R.mN (hr.mono (by lia)) R.gN (pa_cons pe_str pa_nil))) pss_nil)
   (pss_one (ps_ret (pe_op op_fdivB (pv 0) (pv 1))))),?_⟩
 try dsimp only [Cx.nox,kx1,kx2,kx3,kx4,kx5,kx6,kx7,kx8,kx9,kxa,kxb,kxc]
 refine ⟨_,rfl,_,rfl,_,_,rfl,rfl,(by show (0:Int) < b; lia),rfl,_,rfl,?_⟩
 by_cases hz:a % b=0
 ·rw [if_pos hz] at e
  refine iteNS (congrArg V.int hz) ?_
  refine ⟨_,rfl,_,rfl,_,_,rfl,rfl,⟨by lia,by lia⟩,?_⟩
  exact e
 ·rw [if_neg hz] at e
  refine (show (if _ then _ else _:Prop) from ?_)
  rw [if_pos (by rw [decide_eq_false (fun z=>hz (V.int.inj z))]; rfl)]
  exact ⟨(by show 1≤sizeLine; decide),raised (σ:=[]) (E:=fun cls dx _ H'=>E cls dx H') e⟩
noncomputable def spWBX (N:Addr):Sp:=fun vs H Q E=>∃ (wd:Str) (a b:Int),vs=[.str wd,.int a,.int b]∧okWord wd∧1≤a∧a < 2 ^ 4000∧1≤b∧b < 2 ^ 4000∧match byE wd a b with
 | .inr z=>Q (.int z) H
 | .inl e=>∀ dx,H dx=none→E (.ref N) (some dx) (upd H dx (xw e))
noncomputable abbrev s_worth_by:Stmt:=top 12
theorem sc_worth_by:FnScope ["word","first","second","deed"] ["word","first","second"] (defScope s_worth_by):=⟨rfl,rfl,rfl,by decide +kernel,rfl,by decide +kernel,by decide +kernel⟩
theorem okX_wb {f dD:Addr} {fam:Str→Addr} {fd:FuncData} (F:Fun K "worth_by" "worth_by" s_worth_by f fd) (B:Blt mg) (De:DeedsX P w K mg base N dD fam):FnOk P w K mg base (CXF P w) 5 f fd ["word","first","second"] (spWBX N):=by
 have De_ok:∀ g sp,FamX N fam g sp→Callee P w K mg base (CXF P w) 3 g sp:=by
  rintro g sp ⟨wd,hw,rfl,rfl⟩
  exact De.ok wd hw
 refine F.okX (k:=4) sc_worth_by (fun vs H Q E h=>?_) (fun cdv A outer s H vs Q E hr h=>?_)
 ·obtain ⟨wd,a,b,rfl,_⟩:=h
  rfl
 obtain ⟨wd,a,b,rfl,hw,a1,a2,b1,b2,q⟩:=h
 refine ⟨_,(pss_cons (ps_set (i:=3) sc_worth_by.nd rfl (by first | exact Or.inl rfl | exact Or.inr rfl) (pe_ix ix_top (pe_glob (v:=.ref dD) rfl De.gl rfl) (pv 0) (fun _ _=>rfl)))
   (pss_one (ps_ret (pe_callVX De_ok (hr.mono (by lia)) (pv 3) (pa_cons (pv 1) (pa_cons (pv 2) pa_nil)))))),?_⟩
 try dsimp only [Cx.nox,kx1,kx2,kx3,kx4,kx5,kx6,kx7,kx8,kx9,kxa,kxb,kxc]
 refine ⟨_,rfl,dD,wd,.ref (fam wd),.ref (fam wd),rfl,rfl,De.top,De.at_ wd hw,rfl,?_⟩
 exact ⟨_,rfl,fam wd,spDeedX N wd,rfl,⟨wd,hw,rfl,rfl⟩,_,rfl,_,rfl,a,b,rfl,a1,a2,b1,b2,q⟩
theorem same_none {H H':Hp} {p:Addr} (s:Same H H') (h:H' p=none):H p=none:=by
 cases e:H p with
 | none=>rfl
 | some o=>rw [s _ _ e] at h; cases h
theorem same_upd {H H':Hp} {p:Addr} {o:HO} (s:Same H H') (h:H p=none):Same H (upd H' p o):=fun b u e=>by rw [upd_ne (ne_of_none e h)]; exact s b u e
noncomputable def Bs (H:Hp) (v:V) (c:List Bool):Prop:=∃ q,v=.ref q∧H q=some (.tup (c.map V.bl))
theorem Bs.kt {H H':Hp} {v:V} {c:List Bool} (k:KT H H') (h:Bs H v c):Bs H' v c:=by
 obtain ⟨q,h1,h2⟩:=h
 exact ⟨q,h1,k _ _ h2⟩
noncomputable def Bf (H:Hp) (v:V) (c:List Bool):Prop:=∃ q,v=.ref q∧Kb H q c
noncomputable def KF (H H':Hp):Prop:=∀ b o ys,H b=some (.frz o (.tup ys))→H' b=some (.frz o (.tup ys))
theorem KF.same {H H':Hp} (s:Same H H'):KF H H':=fun _ _ _ e=>s _ _ e
theorem KF.trans {H H1 H2:Hp} (a:KF H H1) (b:KF H1 H2):KF H H2:=fun _ _ _ e=>b _ _ _ (a _ _ _ e)
theorem KF.upd {H:Hp} {p:Addr} {o:HO} {ys:List V} (h:H p=some (.lst ys)):KF H (L2.upd H p o):=fun b ob xs e=>by
 rw [upd_ne (fun z=>by rw [z,h] at e; cases e)]; exact e
theorem kb_kf {H H':Hp} {q:Addr} {c:List Bool} (k:KF H H') (h:Kb H q c):Kb H' q c:=let ⟨o,e,d⟩:=h; ⟨o,k _ _ _ e,d⟩
theorem Bf.kf {H H':Hp} {v:V} {c:List Bool} (k:KF H H') (h:Bf H v c):Bf H' v c:=let ⟨q,h1,h2⟩:=h; ⟨q,h1,kb_kf k h2⟩
theorem rd_same {H H':Hp} {a:Addr} {u:HO} (s:Same H H') (h:Rd H a u):Rd H' a u:=by
 rcases h with h | ⟨o,h⟩
 ·exact .inl (s _ _ h)
 ·exact .inr ⟨o,s _ _ h⟩
noncomputable def spChs:Sp:=fun vs H Q _=>∃ m:Nat,vs=[.int m]∧m≤4∧∀ (p:Addr) (ys:List V) (H':Hp),Same H H'→H p=none→H' p=some (.lst ys)→Paired (Bf H') ys (chL m)→Q (.ref p) H'
theorem pow2 {k:Nat} (h:k≤4):2 ^ k≤16:=Nat.le_trans (Nat.pow_le_pow_right (by decide) h) (by decide)
noncomputable abbrev s_choices_of:Stmt:=top 1
theorem sc_choices_of:FnScope ["many","choices","at"] ["many"] (defScope s_choices_of):=⟨rfl,rfl,rfl,by decide +kernel,rfl,by decide +kernel,by decide +kernel⟩
theorem ok_chs {f:Addr} {fd:FuncData} (F:Fun K "choices_of" "choices_of" s_choices_of f fd) (B:Blt mg):FnOk P w K mg base CX0 1 f fd ["many"] spChs:=by
 refine F.ok (k:=0) sc_choices_of (fun vs H Q E h=>?_) (fun cdv A outer s H vs Q E hr h=>?_)
 ·obtain ⟨m,rfl,_⟩:=h
  rfl
 obtain ⟨m,rfl,hm,q⟩:=h
 refine ⟨_,(pss_cons (ps_set (i:=1) sc_choices_of.nd rfl (by first | exact Or.inl rfl | exact Or.inr rfl) (pe_lst (pa_cons (pe_tupF pa_nil) pa_nil star_tup)))
   (pss_cons (ps_for PassesOwn.never rfl (pi_range1 rfl B.range (pa_cons (pv 0) pa_nil)) (pg_name (i:=2) sc_choices_of.nd rfl (by first | exact Or.inl rfl | exact Or.inr rfl)) (pss_one (ps_set2 (i:=1) sc_choices_of.nd rfl (by first | exact Or.inl rfl | exact Or.inr rfl) (N:=["choice","truth"]) rfl (csC_of [none,none] rfl (by decide +kernel) (by decide +kernel) rfl rfl) rfl (pi_list (pv 1)) (fun _ _ _ _=>(pg_name (i:=0) (show (["choice","truth"]:List Str).Nodup by decide +kernel) rfl (by first | exact Or.inl rfl | exact Or.inr rfl))) (fun _ _ _ _=>(pi_tup (pe_tup (pa_cons pe_bl (pa_cons pe_bl pa_nil))))) (fun _ _ _ _=>(pg_name (i:=1) (show (["choice","truth"]:List Str).Nodup by decide +kernel) rfl (by first | exact Or.inl rfl | exact Or.inr rfl))) (fun _ _ _ _=>(pe_op op_catF (pv 0) (pe_tupF (pa_cons (pv 1) pa_nil)))))))
   (pss_one (ps_ret (pv 1))))),?_⟩
 try dsimp only [Cx.nox,kx1,kx2,kx3,kx4,kx5,kx6,kx7,kx8,kx9,kxa,kxb,kxc]
 have szl:=sizeLine_eq
 refine ⟨(by show 0≤sizeLine; decide),fun p0 o0 hp0 ho0=>⟨(by show 1≤sizeLine; decide),fun p1 hp1=>?_⟩⟩
 have n1:H p1=none:=same_none (Same.new hp0) hp1
 refine ⟨_,rfl,_,rfl,by lia,by lia,for_range (n:=m) (fun k σ H'=>∃ (z:Option V) (pf:Addr) (ys:List V),σ=[some (.int m),some (.ref pf),z]∧Same H H'∧H pf=none∧H' pf=some (.lst ys)∧Paired (Bf H') ys (chL k))
  ⟨none,p1,_,rfl,(Same.new hp0).trans (Same.new hp1),n1,upd_same,.cons ⟨p0,rfl,o0,Same.new hp1 _ _ upd_same,ho0⟩ .nil⟩ ?_ ?_⟩
 ·rintro k σ H2 hk ⟨z,pf,ys,rfl,sH,nf,gf,pys⟩
  have yl:ys.length=2 ^ k:=by rw [pys.length,chL_length]
  have p16:=pow2 (k:=k) (by lia)
  refine ⟨_,rfl,pf,rfl,⟨_,SqL.of gf⟩,fun D hD C s2 fp=>?_⟩
  refine out_list (K:=K) (a:=pf) (xs:=ys) (fun i σ H3=>∃ (o1 o2:Option V) (zs:List V),σ=[o1,o2]∧Same H2 H3∧H3 D=some (.lst zs)∧Paired (Bf H3) zs (((chL k).take i).flatMap fun c=>[c++[false],c++[true]]))
   ⟨none,none,[],rfl,Same.new hD,upd_same,.nil⟩ (fun i σ H3 ⟨_,_,_,_,g,_⟩=>SqL.of (g _ _ gf)) ?_ ?_
  ·rintro i x σ H3 hi ⟨o1,o2,zs,rfl,s3,g3,pz⟩
   obtain ⟨c,hx,hw⟩:=pr_get pys hi
   obtain ⟨qx,rfl,gq⟩:=hw.kf (KF.same s3)
   have hil:i < 2 ^ k:=by rw [← yl]; exact (List.getElem?_eq_some_iff.mp hi).1
   have cl:c.length=k:=chL_len k c (List.mem_of_getElem? hx)
   refine ⟨(by show 2≤sizeLine; decide),fun pt hpt=>?_⟩
   have st:=Same.new (o:=.tup [.bl false,.bl true]) hpt
   refine ⟨pt,rfl,⟨_,SqT.of upd_same⟩,in_tup (K:=K) (a:=pt) (zs:=[.bl false,.bl true]) (fun j σ H4=>∃ (o2:Option V) (zs:List V),σ=[some (.ref qx),o2]∧Same H2 H4∧H4 pt=some (.tup [.bl false,.bl true])∧H4 D=some (.lst zs)∧Kb H4 qx c ∧
    Paired (Bf H4) zs ((((chL k).take i).flatMap fun c=>[c++[false],c++[true]])++(([false,true]:List Bool).take j).map fun t=>c++[t])) ⟨o2,zs,rfl,s3.trans st,upd_same,st _ _ g3,gq.same st,by rw [List.take_zero,List.map_nil,List.append_nil]; exact pr_kt (R:=Bf) (fun v x h=>h.kf (KF.same st)) pz⟩ (fun j σ H4 ⟨_,_,_,_,g,_⟩=>SqT.of g) ?_ ?_⟩
   ·rintro j y σ H4 hj ⟨o2,zs,rfl,s4,gt,g4,gq4,pz4⟩
    obtain ⟨t,ht,rfl,hj2⟩:∃ t:Bool,([false,true]:List Bool)[j]?=some t∧y=.bl t∧j≤1:=by
     match j,hj with
     | 0,hj=>simp at hj; exact ⟨false,rfl,hj.symm,by decide⟩
     | 1,hj=>simp at hj; exact ⟨true,rfl,hj.symm,by decide⟩
     | j + 2,hj=>simp at hj
    have zl:zs.length=i * 2 + j:=by
     rw [pz4.length,List.length_append,fm_len _ 2 _ (fun x _=>rfl),List.length_map,List.length_take,List.length_take,chL_length]
     show min i (2 ^ k) * 2 + min j 2=_
     rw [Nat.min_eq_left (Nat.le_of_lt hil),Nat.min_eq_left (by lia)]
    refine ⟨_,rfl,_,rfl,(by show 1≤sizeLine; decide),fun pu ou hpu hou=>?_⟩
    have su:=Same.new (o:=.frz ou (.tup [.bl t])) hpu
    obtain ⟨oq,eq4,dq4⟩:=gq4.same su
    refine ⟨qx,pu,oq,ou,_,_,rfl,rfl,eq4,upd_same,hou,by simp,by rw [List.length_map]; show c.length + 1≤_; lia,fun pp op H5 s5 g5 d5=>?_⟩
    have s45:=su.trans s5
    have g7:=s45 _ _ g4
    have kt7:KT H5 (upd H5 D (.lst (zs++[.ref pp]))):=KT.upd g7
    have kf7:KF H5 (upd H5 D (.lst (zs++[.ref pp]))):=KF.upd g7
    refine ⟨zs,g7,by rw [szl]; lia,some (.bl t),zs++[.ref pp],rfl,same_upd (s4.trans s45) hD,kt7 _ _ (s45 _ _ gt),upd_same,kb_kf kf7 (gq4.same s45),?_⟩
    rw [take_snoc ht,List.map_append,← List.append_assoc]
    refine pr_snoc (pr_kt (R:=Bf) (fun v x h=>h.kf (KF.trans (KF.same s45) kf7)) pz4) ⟨pp,rfl,op,?_,d5⟩
    rw [kf7 _ _ _ g5,List.map_append]
    rfl
   ·rintro σ H4 ⟨o2,zs,rfl,s4,gt,g4,gq4,pz4⟩
    refine ⟨_,_,zs,rfl,s4,g4,?_⟩
    rw [take_snoc hx,List.flatMap_append]
    exact pz4
  ·rintro σ H3 ⟨o1,o2,zs,rfl,s3,g3,pz⟩
   refine ⟨_,D,zs,rfl,sH.trans s3,same_none sH hD,g3,?_⟩
   have el:(chL k).length=ys.length:=pys.length.symm
   rw [← el,List.take_length] at pz
   exact pz
 ·rintro σ H2 ⟨z,pf,ys,rfl,sH,nf,gf,pys⟩
  exact ⟨_,rfl,q pf ys H2 sH nf gf pys⟩
end
end Law
namespace Law
open PySem L2
section
variable {P:Program} {w:World} {K:PySem.W.Frag} {mg:Str→Option Value} {base:Heap}
theorem seq_key {s u:TS} {D:Ends} {σ:St} {H:Hp} (Mid:St→Hp→Prop) (h2:∀ σ' H',Mid σ' H'→u D σ' H') (h:∀ X':St→Hp→Prop,(∀ σ' H',Mid σ' H'→X' σ' H')→s { D with nx:=X' } σ H):tSeq s u D σ H:=h (u D) h2
noncomputable def Bp (H:Hp) (v:V) (p:List Bool×List Bool):Prop:=∃ q u1 u2,v=.ref q∧H q=some (.tup [u1,u2])∧Bs H u1 p.1∧Bs H u2 p.2
theorem Bp.kt {H H':Hp} {v:V} {p:List Bool×List Bool} (k:KT H H') (h:Bp H v p):Bp H' v p:=by
 obtain ⟨q,u1,u2,h1,h2,h3,h4⟩:=h
 exact ⟨q,u1,u2,h1,k _ _ h2,h3.kt k,h4.kt k⟩
noncomputable def Be (H:Hp) (v:V) (e:Bool×Bool):Prop:=∃ q,v=.ref q∧H q=some (.tup [.bl e.1,.bl e.2])
noncomputable def spSpl (K:PySem.W.Frag):Sp:=fun vs H Q _=>∃ (a:Addr) (c:List Bool),vs=[.ref a]∧Rd H a (.tup (c.map V.bl))∧c.length≤4∧∀ (p:Addr) (ys:List V) (H':Hp),Same H H'→H p=none→H' p=some (.lst ys)→Paired (Bp H') ys (splits c)→Q (.ref p) H'
theorem sp16 {c:List Bool} (h:c.length≤4):(splS c).length≤16:=Nat.le_trans (splS_len c) (pow2 h)
theorem stepSp_take {l:List (List Bool×List Bool)} {i:Nat} {x:List Bool×List Bool} (h:l[i]?=some x) (t:Bool):stepSp (l.take (i + 1)) t=stepSp (l.take i) t++(endsL t).map fun e=>(x.1++[e.1],x.2++[e.2]):=by
 unfold stepSp
 rw [take_snoc h,List.flatMap_append]
 simp
theorem stepSp_len (l:List (List Bool×List Bool)) (t:Bool):(stepSp l t).length≤l.length * 2:=by
 unfold stepSp
 rw [fm_len _ (endsL t).length _ (fun x _=>by rw [List.length_map])]
 exact Nat.mul_le_mul_left _ (by cases t <;> decide)
noncomputable abbrev s_splits_of:Stmt:=top 2
theorem sc_splits_of:FnScope ["choice","splits","truth","ends"] ["choice"] (defScope s_splits_of):=⟨rfl,rfl,rfl,by decide +kernel,rfl,by decide +kernel,by decide +kernel⟩
theorem ok_spl {f:Addr} {fd:FuncData} (F:Fun K "splits_of" "splits_of" s_splits_of f fd) (Bany:mg "any"=none):FnOk P w K mg base CX0 1 f fd ["choice"] (spSpl K):=by
 refine F.okW (k:=0) sc_splits_of (fun vs H Q E h=>?_) (fun cdv A outer s H vs Q E hr h=>?_)
 ·obtain ⟨a,c,rfl,_⟩:=h
  rfl
 obtain ⟨a,c,rfl,ha,hc,q⟩:=h
 refine ⟨_,(wss_cons (w_set (i:=1) sc_splits_of.nd rfl (by first | exact Or.inl rfl | exact Or.inr rfl) (w_lst (w_cons (w_tup (w_cons (w_tup w_nil) (w_cons (w_tup w_nil) w_nil star_tup) star_tup)) w_nil star_tup)))
   (wss_cons (Wr.mk (ps_for PassesOwn.never rfl (pi_tup (pv 0)) (pg_name (i:=2) sc_splits_of.nd rfl (by first | exact Or.inl rfl | exact Or.inr rfl)) (pss_cons (ps_set (i:=3) sc_splits_of.nd rfl (by first | exact Or.inl rfl | exact Or.inr rfl) (pe_ifExp (pt_truth (pv 2) (fun _=>rfl)) (Wr.un (w_tup (w_cons (w_tup (w_cons (Wr.mk pe_bl) (w_cons (Wr.mk pe_bl) w_nil))) (w_cons (w_tup (w_cons (Wr.mk pe_bl) (w_cons (Wr.mk pe_bl) w_nil))) w_nil star_tup) star_tup))) (Wr.un (w_tup (w_cons (w_tup (w_cons (Wr.mk pe_bl) (w_cons (Wr.mk pe_bl) w_nil))) w_nil star_tup)))))
   (pss_one (ps_set2 (i:=1) sc_splits_of.nd rfl (by first | exact Or.inl rfl | exact Or.inr rfl) (N:=["one","rest","mine","others","ends"]) rfl (csC_of [none,none,none,none,some 3] rfl (by decide +kernel) (by decide +kernel) rfl rfl) rfl (pi_list (pv 1)) (fun _ _ _ _=>(pg_tup rfl (pgs_cons (pg_name (i:=0) (show (["one","rest","mine","others","ends"]:List Str).Nodup by decide +kernel) rfl (by first | exact Or.inl rfl | exact Or.inr rfl)) (pgs_cons (pg_name (i:=1) (show (["one","rest","mine","others","ends"]:List Str).Nodup by decide +kernel) rfl (by first | exact Or.inl rfl | exact Or.inr rfl)) pgs_nil)))) (fun _ _ _ _=>(pi_tup (pv 4))) (fun _ _ _ _=>(pg_tup rfl (pgs_cons (pg_name (i:=2) (show (["one","rest","mine","others","ends"]:List Str).Nodup by decide +kernel) rfl (by first | exact Or.inl rfl | exact Or.inr rfl)) (pgs_cons (pg_name (i:=3) (show (["one","rest","mine","others","ends"]:List Str).Nodup by decide +kernel) rfl (by first | exact Or.inl rfl | exact Or.inr rfl)) pgs_nil)))) (fun _ _ _ _=>(pe_tup (pa_cons (pe_op op_catG (pv 0) (pe_tup (pa_cons (pv 2) pa_nil))) (pa_cons (pe_op op_catG (pv 1) (pe_tup (pa_cons (pv 3) pa_nil))) pa_nil)))))))))
   (wss_one (Wr.mk (ps_ret (pe_compC (N:=["one","rest"]) rfl (csC_of [none,none] rfl (by decide +kernel) (by decide +kernel) rfl rfl) rfl (pi_list (pv 1)) (fun _ _ _ _=>(pg_tup rfl (pgs_cons (pg_name (i:=0) (show (["one","rest"]:List Str).Nodup by decide +kernel) rfl (by first | exact Or.inl rfl | exact Or.inr rfl)) (pgs_cons (pg_name (i:=1) (show (["one","rest"]:List Str).Nodup by decide +kernel) rfl (by first | exact Or.inl rfl | exact Or.inr rfl)) pgs_nil)))) (fun _ _ _ _=>(ptl_one (PW.pt (pw_and (pt_val (pe_callB (call_anyT rfl) rfl Bany bt_any (pa_cons (pv 0) pa_nil))) (pw_and1 (pt_val (pe_callB (call_anyT rfl) rfl Bany bt_any (pa_cons (pv 1) pa_nil)))))))) (fun _ _ _ _=>(pe_tup (pa_cons (pv 0) (pa_cons (pv 1) pa_nil)))))))))),?_⟩
 try dsimp only [Cx.nox,kx1,kx2,kx3,kx4,kx5,kx6,kx7,kx8,kx9,kxa,kxb,kxc]
 have szl:=sizeLine_eq
 refine ⟨(by show 0≤sizeLine; decide),fun p0 hp0=>⟨(by show 0≤sizeLine; decide),fun p1 hp1=>⟨(by show 2≤sizeLine; decide),fun p2 hp2=>⟨(by show 1≤sizeLine; decide),fun p3 hp3=>?_⟩⟩⟩⟩
 have s0:=(Same.new (o:=.tup []) hp0).trans ((Same.new (o:=.tup []) hp1).trans (Same.new (o:=.tup [.ref p0,.ref p1]) hp2))
 have n3:=same_none s0 hp3
 have s3:=Same.new (o:=.lst [.ref p2]) hp3
 have g0:Paired (Bp (upd (upd (upd (upd H p0 (.tup [])) p1 (.tup [])) p2 (.tup [.ref p0,.ref p1])) p3 (.lst [.ref p2]))) [.ref p2] (splS (c.take 0)) :=
  .cons ⟨p2,.ref p0,.ref p1,rfl,s3 _ _ upd_same,⟨p0,rfl,s3 _ _ (Same.new hp2 _ _ (Same.new hp1 _ _ upd_same))⟩,⟨p1,rfl,s3 _ _ (Same.new hp2 _ _ upd_same)⟩⟩ .nil
 refine ⟨_,rfl,a,rfl,⟨_,.inl (rd_same (s0.trans s3) ha)⟩,for_tup (K:=K) (a:=a) (xs:=c.map V.bl) (fun k σ H'=>∃ (z1 z2:Option V) (pf:Addr) (ys:List V),σ=[some (.ref a),some (.ref pf),z1,z2]∧Same H H'∧H pf=none∧H' pf=some (.lst ys)∧Paired (Bp H') ys (splS (c.take k)))
  ⟨none,none,p3,_,rfl,s0.trans s3,n3,upd_same,g0⟩ (fun i σ H' _ ⟨_,_,_,_,_,g,_⟩=>.inl (rd_same g ha)) ?_ ?_⟩
 ·rintro k x σ H2 hk ⟨z1,z2,pf,ys,rfl,sH,nf,gf,pys⟩
  rw [List.getElem?_map] at hk
  obtain ⟨t,ht,rfl⟩:∃ t,c[k]?=some t∧V.bl t=x:=by
   cases e:c[k]? with
   | none=>rw [e] at hk; cases hk
   | some n=>rw [e] at hk; exact ⟨n,rfl,by simpa using hk⟩
  have hkl:k < c.length:=(List.getElem?_eq_some_iff.mp ht).1
  have yl:ys.length≤16:=by rw [pys.length]; exact sp16 (by rw [List.length_take]; lia)
  dsimp only [gName]
  refine seq_key (fun σ' H'=>∃ (pe:Addr) (es:List V),σ'=[some (.ref a),some (.ref pf),some (.bl t),some (.ref pe)]∧Same H2 H'∧H' pe=some (.tup es)∧Paired (Be H') es (endsL t)) ?_ ?_
  ·rintro σ' H1 ⟨pe,es,rfl,s1,ge,pes⟩
   have el2:(endsL t).length≤2:=by cases t <;> decide
   refine ⟨_,rfl,pf,rfl,⟨_,SqL.of (s1 _ _ gf)⟩,fun D hD C s2 fp=>?_⟩
   refine out_list (K:=K) (a:=pf) (xs:=ys) (fun i σ H3=>∃ (o1 o2 o3 o4:Option V) (zs:List V),σ=[o1,o2,o3,o4,some (.ref pe)]∧Same H1 H3∧H3 D=some (.lst zs)∧Paired (Bp H3) zs (stepSp ((splS (c.take k)).take i) t))
    ⟨none,none,none,none,[],rfl,Same.new hD,upd_same,.nil⟩ (fun i σ H3 ⟨_,_,_,_,_,_,g,_⟩=>SqL.of (g _ _ (s1 _ _ gf))) ?_ ?_
   ·rintro i x σ H3 hi ⟨o1,o2,o3,o4,zs,rfl,s3,g3,pz⟩
    obtain ⟨⟨u,v⟩,hx,hw⟩:=pr_get pys hi
    obtain ⟨qx,v1,v2,rfl,gq,b1,b2⟩:=(hw.kt (KT.same s1)).kt (KT.same s3)
    have hil:i < ys.length:=(List.getElem?_eq_some_iff.mp hi).1
    have hS:Spl u v (c.take k):=mem_splS.mp (List.mem_of_getElem? hx)
    have lu:u.length≤4:=by have:=hS.len; rw [List.length_take] at this; lia
    have lv:v.length≤4:=by have:=hS.len; rw [List.length_take] at this; lia
    refine ⟨qx,_,rfl,SqT.of gq,rfl,_,_,rfl,_,_,rfl,rfl,?_⟩
    refine ⟨_,rfl,pe,rfl,⟨_,SqT.of (s3 _ _ ge)⟩,in_tup (K:=K) (a:=pe) (zs:=es) (fun j σ H4=>∃ (o3 o4:Option V) (zs:List V),σ=[some v1,some v2,o3,o4,some (.ref pe)]∧Same H1 H4∧H4 D=some (.lst zs)∧Bs H4 v1 u∧Bs H4 v2 v ∧
     Paired (Bp H4) zs (stepSp ((splS (c.take k)).take i) t++((endsL t).take j).map fun e=>(u++[e.1],v++[e.2]))) ⟨o3,o4,zs,rfl,s3,g3,b1,b2,by rw [List.take_zero,List.map_nil,List.append_nil]; exact pz⟩ (fun j σ H4 ⟨_,_,_,_,g,_⟩=>SqT.of (g _ _ ge)) ?_ ?_⟩
    ·rintro j y σ H4 hj ⟨o3,o4,zs,rfl,s4,g4,c1,c2,pz4⟩
     obtain ⟨⟨e1,e2⟩,he,qe,rfl,gqe⟩:=pr_get pes hj
     have hjl:j < (endsL t).length:=(List.getElem?_eq_some_iff.mp he).1
     have zl:zs.length≤40:=by
      rw [pz4.length,List.length_append,List.length_map]
      have h1:=stepSp_len ((splS (c.take k)).take i) t
      have h2:((splS (c.take k)).take i).length≤16:=by rw [List.length_take,← pys.length]; lia
      have h3:((endsL t).take j).length≤2:=by rw [List.length_take]; lia
      lia
     refine ⟨qe,_,rfl,SqT.of (s4 _ _ gqe),rfl,_,_,rfl,_,_,rfl,rfl,?_⟩
     obtain ⟨qu,rfl,gu⟩:=id c1
     obtain ⟨qv,rfl,gv⟩:=id c2
     refine ⟨_,rfl,_,rfl,(by show 1≤sizeLine; decide),fun pu hpu=>?_⟩
     have su:=Same.new (o:=.tup [.bl e1]) hpu
     refine ⟨qu,pu,_,_,rfl,rfl,su _ _ gu,upd_same,by rw [List.length_map]; show u.length + 1≤_; lia,fun pp H5 s5 g5=>?_⟩
     have s45:=su.trans s5
     refine ⟨_,rfl,_,rfl,(by show 1≤sizeLine; decide),fun pw hpw=>?_⟩
     have sw:=Same.new (o:=.tup [.bl e2]) hpw
     refine ⟨qv,pw,_,_,rfl,rfl,sw _ _ (s45 _ _ gv),upd_same,by rw [List.length_map]; show v.length + 1≤_; lia,fun pq H6 s6 g6=>?_⟩
     have s56:=sw.trans s6
     refine ⟨(by show 2≤sizeLine; decide),fun pn hpn=>?_⟩
     have s46:=(s45.trans s56).trans (Same.new (o:=.tup [.ref pp,.ref pq]) hpn)
     have g7:=s46 _ _ g4
     have kt7:KT (upd H6 pn (.tup [.ref pp,.ref pq])) (upd (upd H6 pn (.tup [.ref pp,.ref pq])) D (.lst (zs++[.ref pn]))):=KT.upd g7
     have kt8:=KT.trans (KT.same s46) kt7
     refine ⟨zs,g7,by rw [szl]; lia,_,_,zs++[.ref pn],rfl,same_upd (s4.trans s46) hD,upd_same,c1.kt kt8,c2.kt kt8,?_⟩
     rw [take_snoc he,List.map_append,← List.append_assoc]
     refine pr_snoc (pr_kt (R:=Bp) (fun v x h=>h.kt kt8) pz4) ⟨pn,.ref pp,.ref pq,rfl,kt7 _ _ upd_same,⟨pp,rfl,?_⟩,⟨pq,rfl,?_⟩⟩
     ·have:=kt7 _ _ (Same.new hpn _ _ (s56 _ _ g5))
      rw [this]
      show _=some (HO.tup (List.map V.bl (u++[e1])))
      rw [List.map_append]
      rfl
     ·have:=kt7 _ _ (Same.new hpn _ _ g6)
      rw [this]
      show _=some (HO.tup (List.map V.bl (v++[e2])))
      rw [List.map_append]
      rfl
    ·rintro σ H4 ⟨o3,o4,zs,rfl,s4,g4,c1,c2,pz4⟩
     refine ⟨_,_,_,_,zs,rfl,s4,g4,?_⟩
     rw [pes.length,List.take_length] at pz4
     rw [stepSp_take hx]
     exact pz4
   ·rintro σ H3 ⟨o1,o2,o3,o4,zs,rfl,s3,g3,pz⟩
    refine ⟨some (.bl t),some (.ref pe),D,zs,rfl,sH.trans (s1.trans s3),same_none (sH.trans s1) hD,g3,?_⟩
    have el:(splS (c.take k)).length=ys.length:=pys.length.symm
    rw [← el,List.take_length] at pz
    rw [take_snoc ht,splS_snoc]
    exact pz
  ·intro X' hX
   refine ⟨_,rfl,_,rfl,?_⟩
   cases t with
   | true =>
    refine iteT ⟨(by show 2≤sizeLine; decide),fun pa hpa=>⟨(by show 2≤sizeLine; decide),fun pb hpb=>⟨(by show 2≤sizeLine; decide),fun pe hpe=>?_⟩⟩⟩
    have se:=Same.new (o:=.tup [.ref pa,.ref pb]) hpe
    exact hX _ _ ⟨pe,_,rfl,(Same.new hpa).trans ((Same.new hpb).trans se),upd_same,.cons ⟨pa,rfl,se _ _ (Same.new hpb _ _ upd_same)⟩ (.cons ⟨pb,rfl,se _ _ upd_same⟩ .nil)⟩
   | false =>
    refine iteF ⟨(by show 2≤sizeLine; decide),fun pa hpa=>⟨(by show 1≤sizeLine; decide),fun pe hpe=>?_⟩⟩
    have se:=Same.new (o:=.tup [.ref pa]) hpe
    exact hX _ _ ⟨pe,_,rfl,(Same.new hpa).trans se,upd_same,.cons ⟨pa,rfl,se _ _ upd_same⟩ .nil⟩
 ·rintro σ H2 ⟨z1,z2,pf,ys,rfl,sH,nf,gf,pys⟩
  rw [List.length_map,List.take_length] at pys
  have yl:ys.length≤16:=by rw [pys.length]; exact sp16 hc
  refine ⟨_,rfl,pf,rfl,⟨_,SqL.of gf⟩,fun D hD C s2 fp=>?_⟩
  refine comp_list (K:=K) (a:=pf) (xs:=ys) (fun i zs σ H3=>∃ (o1 o2:Option V),σ=[o1,o2]∧Same H2 H3∧Paired (Bp H3) zs (((splS c).take i).filter fun p=>p.1.any id && p.2.any id))
   (fun i zs σ H3 ⟨_,_,_,g,_⟩=>SqL.of (g _ _ gf)) ⟨none,none,rfl,Same.new hD,.nil⟩ ?_ ?_
  ·rintro i x zs σ H3 hi hzl ⟨o1,o2,rfl,s3,pz⟩ g3
   obtain ⟨⟨u,v⟩,hx,hw⟩:=pr_get pys hi
   have hw3:=hw.kt (KT.same s3)
   obtain ⟨qx,v1,v2,rfl,gq,⟨qu,rfl,gu⟩,⟨qv,rfl,gv⟩⟩:=hw3
   have hil:i < ys.length:=(List.getElem?_eq_some_iff.mp hi).1
   have ef:((splS c).take (i + 1)).filter (fun p=>p.1.any id && p.2.any id)=((splS c).take i).filter (fun p=>p.1.any id && p.2.any id)++(if (u.any id && v.any id)=true then [(u,v)] else []):=by
    rw [take_snoc hx,List.filter_append]
    congr 1
    simp only [List.filter_cons,List.filter_nil]
   refine ⟨qx,_,rfl,SqT.of gq,rfl,_,_,rfl,_,_,rfl,rfl,?_⟩
   refine ⟨_,rfl,qu,u,rfl,SqT.of gu,_,rfl,?_⟩
   cases hu:u.any id with
   | false =>
    rw [hu] at ef
    refine iteF (iteF ⟨zs,by lia,⟨_,_,rfl,s3,?_⟩,g3⟩)
    rw [ef]
    simpa using pz
   | true =>
    rw [hu] at ef
    refine iteT ⟨_,rfl,qv,v,rfl,SqT.of gv,_,rfl,?_⟩
    cases hv:v.any id with
    | false =>
     rw [hv] at ef
     refine iteF ⟨zs,by lia,⟨_,_,rfl,s3,?_⟩,g3⟩
     rw [ef]
     simpa using pz
    | true =>
     rw [hv] at ef
     refine iteT ⟨_,rfl,_,rfl,(by show 2≤sizeLine; decide),fun pn hpn=>?_⟩
     have sn:=Same.new (o:=.tup [.ref qu,.ref qv]) hpn
     have g7:=sn _ _ g3
     have kt7:KT (upd H3 pn (.tup [.ref qu,.ref qv])) (upd (upd H3 pn (.tup [.ref qu,.ref qv])) D (.lst (zs++[.ref pn]))):=KT.upd g7
     have kt8:=KT.trans (KT.same sn) kt7
     refine ⟨zs,g7,by rw [szl]; lia,zs++[.ref pn],by rw [List.length_append]; show zs.length + 1≤i + 1; lia,⟨_,_,rfl,same_upd (s3.trans sn) hD,?_⟩,upd_same⟩
     rw [ef]
     exact pr_snoc (pr_kt (R:=Bp) (fun v x h=>h.kt kt8) pz) ⟨pn,.ref qu,.ref qv,rfl,kt7 _ _ upd_same,⟨qu,rfl,kt8 _ _ gu⟩,⟨qv,rfl,kt8 _ _ gv⟩⟩
  ·rintro zs σ H3 ⟨o1,o2,rfl,s3,pz⟩ g3
   have el:(splS c).length=ys.length:=pys.length.symm
   rw [← el,List.take_length] at pz
   exact q D zs H3 (sH.trans s3) (same_none sH hD) g3 pz
end
end Law
namespace Law
open PySem L2
section
variable {P:Program} {w:World} {K:PySem.W.Frag} {mg:Str→Option Value} {base:Heap}
theorem pe_bmK {X:Cx} {K:PySem.W.Frag} {o e:Expr} {es:List Expr} {to:TE} {t:TA} {name:Str} {apos cpos:Pos} {T id:String} {r:V→List V→Hp→VK→Prop} (hK:X.K=K) (pa:PlainAttrs T) (slot:Slot T name id) (hty:typeOf (.builtin id)=pure (.type "method_descriptor")) (hm:MtR X id r) (ho:PE X o to) (ha:PA X (e :: es) t)
  (hbase:attributeBase o name X.env (eval o X.env)=eval o X.env:=by rfl)
  (hfew:((backTo cpos (starEach (e :: es) X.env)).all (fun x=>!x.1) && (backToKw cpos (keywordEach [] X.env)).all (fun x=>x.1.isSome)
   && decide ((e :: es).length + ([]:List Keyword).length + (if ([]:List Keyword).isEmpty then 0 else 1) < 30))=true:=by rfl)
  (hline:(apos.endLine == cpos.line)=true:=by rfl) (hs:starEach (e :: es) X.env=(false,eval e X.env) :: starEach es X.env:=by rfl) (hplain:(backTo cpos (starEach es X.env)).any (·.1)=false:=by rfl) :
  PE X (.Call (.Attribute o name apos) (e :: es) [] cpos) (tBM K T r to t):=hK ▸ pe_bm pa slot hty hm ho ha hbase hfew hline hs hplain
noncomputable def tTru (K:PySem.W.Frag) (ta:TE):TT:=fun σ H Q=>ta σ H fun x H'=>∃ k,TruV K x H' k∧Q k H'
theorem pt_tru {X:Cx} {a:Expr} {ta:TE} (ha:PE X a ta) (he:∀ whole,isTrue a X.env whole=(do let v ← whole; standAt a.pos; holding [v] (truthy v))):PT X a (tTru X.K ta):=pt_truth ha he
theorem chosen_snoc:∀ {a:List Int} {b:List Bool} (n:Int) (t:Bool),a.length=b.length→chosen (a++[n]) (b++[t])=chosen a b++(if t=true then [n] else [])
 | [],[],n,t,_=>by cases t <;> rfl
 | x :: a,y :: b,n,t,h=>by
  have ih:=chosen_snoc (a:=a) (b:=b) n t (by simpa using h)
  cases y
  ·rw [List.cons_append,List.cons_append,chosen_f,chosen_f,ih]
  ·rw [List.cons_append,List.cons_append,chosen_t,chosen_t,ih]; rfl
noncomputable def spCho:Sp:=fun vs H Q _=>∃ (a b:Addr) (ns:List Int) (c:List Bool),vs=[.ref a,.ref b]∧H a=some (.tup (ns.map V.int))∧Rd H b (.tup (c.map V.bl))∧ns.length=c.length∧ns.length≤4 ∧
 ∀ (p:Addr) (H':Hp),Same H H'→H p=none→H' p=some (.tup ((chosen ns c).map V.int))→Q (.ref p) H'
theorem get_map {α:Type} {f:α→V} {l:List α} {i:Nat} {x:V} (h:(l.map f)[i]?=some x):∃ y,l[i]?=some y∧f y=x:=by
 rw [List.getElem?_map] at h
 cases e:l[i]? with
 | none=>rw [e] at h; cases h
 | some n=>rw [e] at h; exact ⟨n,rfl,by simpa using h⟩
noncomputable abbrev s_chosen_of:Stmt:=top 24
theorem sc_chosen_of:FnScope ["numbers","choice"] ["numbers","choice"] (defScope s_chosen_of):=⟨rfl,rfl,rfl,by decide +kernel,rfl,by decide +kernel,by decide +kernel⟩
theorem ok_cho {f:Addr} {fd:FuncData} (F:Fun K "chosen_of" "chosen_of" s_chosen_of f fd) (B:Blt mg):FnOk P w K mg base CX0 1 f fd ["numbers","choice"] spCho:=by
 refine F.ok (k:=0) sc_chosen_of (fun vs H Q E h=>?_) (fun cdv A outer s H vs Q E hr h=>?_)
 ·obtain ⟨a,b,ns,c,rfl,_⟩:=h
  rfl
 obtain ⟨a,b,ns,c,rfl,ha,hb,hl,h4,q⟩:=h
 refine ⟨_,(pss_one (ps_ret (pe_callTy call_tuple_of rfl B.tuple bt_tuple (pa_cons (pe_compC (N:=["number","truth"]) rfl (csC_of [none,none] rfl (by decide +kernel) (by decide +kernel) rfl rfl) rfl (pi_zip B.zip (pa_cons (pv 0) (pa_cons (pv 1) pa_nil))) (fun _ _ _ _=>(pg_tup rfl (pgs_cons (pg_name (i:=0) (show (["number","truth"]:List Str).Nodup by decide +kernel) rfl (by first | exact Or.inl rfl | exact Or.inr rfl)) (pgs_cons (pg_name (i:=1) (show (["number","truth"]:List Str).Nodup by decide +kernel) rfl (by first | exact Or.inl rfl | exact Or.inr rfl)) pgs_nil)))) (fun _ _ _ _=>(ptl_one (pt_tru (pv 1) (fun _=>rfl)))) (fun _ _ _ _=>(pv 0))) pa_nil)))),?_⟩
 try dsimp only [Cx.nox,kx1,kx2,kx3,kx4,kx5,kx6,kx7,kx8,kx9,kxa,kxb,kxc]
 have szl:=sizeLine_eq
 refine ⟨_,rfl,_,rfl,a,b,rfl,⟨_,SqT.of ha⟩,⟨_,.inl hb⟩,fun D hD C s2 fp=>?_⟩
 refine comp_zip (K:=K) (p:=a) (q:=b) (xs:=ns.map V.int) (ys:=c.map V.bl) (fun i zs σ H3=>∃ (o1 o2:Option V),σ=[o1,o2]∧Same H H3∧zs=(chosen (ns.take i) (c.take i)).map V.int)
  (fun i zs σ H3 ⟨_,_,_,g,_⟩=>⟨SqT.of (g _ _ ha),.inl (rd_same g hb)⟩) (by rw [List.length_map,List.length_map,hl]) ⟨none,none,rfl,Same.new hD,rfl⟩ ?_ ?_
 ·rintro i T x y zs σ H3 hi hj hzl ⟨o1,o2,rfl,s3,rfl⟩ g3 hT
  obtain ⟨n,hn,rfl⟩:=get_map hi
  obtain ⟨t,ht,rfl⟩:=get_map hj
  have hil:=(List.getElem?_eq_some_iff.mp hn).1
  have sT:=Same.new (o:=.tup [V.int n,V.bl t]) hT
  have ec:chosen (ns.take (i + 1)) (c.take (i + 1))=chosen (ns.take i) (c.take i)++(if t=true then [n] else []):=by
   rw [take_snoc hn,take_snoc ht,chosen_snoc _ _ (by rw [List.length_take,List.length_take,hl])]
  refine ⟨T,_,rfl,SqT.of upd_same,rfl,_,_,rfl,_,_,rfl,rfl,?_⟩
  refine ⟨_,rfl,t,rfl,?_⟩
  cases t with
  | false =>
   refine iteF ⟨_,Nat.le_succ_of_le hzl,⟨_,_,rfl,s3.trans sT,?_⟩,sT _ _ g3⟩
   rw [ec]
   simp
  | true =>
   refine iteT ⟨_,rfl,_,sT _ _ g3,by rw [szl]; lia,_,by rw [List.length_append]; exact Nat.succ_le_succ hzl,⟨_,_,rfl,same_upd (s3.trans sT) hD,?_⟩,upd_same⟩
   rw [ec,List.map_append]
   rfl
 ·rintro zs σ H3 ⟨o1,o2,rfl,s3,rfl⟩ g3
  rw [List.length_map] at g3
  rw [List.take_length,hl,List.take_length] at g3
  refine ⟨D,_,rfl,.inl ⟨SqL.of g3,fun p hp=>?_⟩⟩
  exact q p _ (s3.trans (Same.new hp)) (same_none s3 hp) upd_same
noncomputable abbrev Dd:=Str×Int×Int×Int
noncomputable def D4 (H:Hp) (v:V) (d:Dd):Prop:=∃ q,v=.ref q∧H q=some (.tup [.str d.1,.int d.2.1,.int d.2.2.1,.int d.2.2.2])
theorem D4.kt {H H':Hp} {v:V} {d:Dd} (k:KT H H') (h:D4 H v d):D4 H' v d:=by
 obtain ⟨q,h1,h2⟩:=h
 exact ⟨q,h1,k _ _ h2⟩
noncomputable def dW:List Str:=["plus","less","times","share"]
theorem dW_ok {i:Nat} {x:Str} (h:dW[i]?=some x):okWord x:=by
 have:=List.mem_of_getElem? h
 simpa [dW,okWord] using this
noncomputable def one4 (x y:Int) (wd:Str):Option Dd:=match byE wd x y with
 | .inr z=>some (wd,x,y,z)
 | .inl _=>none
noncomputable def ddL (x y:Int):List Dd:=dW.filterMap (one4 x y)
noncomputable def dbL (xs ys:List Int):List Dd:=xs.flatMap fun x=>ys.flatMap fun y=>ddL x y
theorem fm_le {α β:Type} (f:α→List β) (m:Nat):∀ l:List α,(∀ x∈l,(f x).length≤m)→(l.flatMap f).length≤l.length * m
 | [],_=>Nat.zero_le _
 | x :: l,h=>by
  rw [List.flatMap_cons,List.length_append,List.length_cons,Nat.succ_mul]
  have h1:=h x (by simp)
  have h2:=fm_le f m l fun y hy=>h y (by simp [hy])
  lia
theorem ddL_len (x y:Int) (k:Nat):((dW.take k).filterMap (one4 x y)).length≤4:=Nat.le_trans (List.length_filterMap_le _ _) (by rw [List.length_take]; show min k 4≤4; lia)
theorem dbL_len (xs ys:List Int):(dbL xs ys).length≤xs.length * (ys.length * 4):=fm_le _ _ _ fun x _=>fm_le _ _ _ fun y _=>ddL_len x y 4
noncomputable def spDb:Sp:=fun vs H Q _=>∃ (a b:Addr) (xs ys:List Int),vs=[.ref a,.ref b]∧H a=some (.tup (xs.map V.int))∧H b=some (.tup (ys.map V.int))∧xs.length≤400∧ys.length≤400∧(∀ x∈xs,1≤x∧x < 2 ^ 90)∧(∀ y∈ys,1≤y∧y < 2 ^ 90) ∧
 ∀ (p:Addr) (zs:List V) (H':Hp),Same H H'→H p=none→H' p=some (.lst zs)→Paired (D4 H') zs (dbL xs ys)→Q (.ref p) H'
theorem p90 {x:Int} (h:x < 2 ^ 90):x < 2 ^ 4000:=Int.lt_trans h (by
 have:(2:Nat) ^ 90 < 2 ^ 4000:=Nat.pow_lt_pow_right (by decide) (by decide)
 exact_mod_cast this)
variable {W N:Addr} {bN:List Value}
noncomputable abbrev s_deeds_between:Stmt:=top 13
theorem sc_deeds_between:FnScope ["firsts","seconds","deeds","first","second","word"] ["firsts","seconds"] (defScope s_deeds_between):=⟨rfl,rfl,rfl,by decide +kernel,rfl,by decide +kernel,by decide +kernel⟩
theorem ok_db {f dD:Addr} {fam:Str→Addr} {fd:FuncData} (F:Fun K "deeds_between" "deeds_between" s_deeds_between f fd) (R:Refs P w K mg base W N bN) (De:DeedsX P w K mg base N dD fam) (TK:TopKeys w K dD dW) (Gwb:Def P w K mg base (CXF P w) 5 "worth_by" (spWBX N)):FnOk P w K mg base CX0 7 f fd ["firsts","seconds"] spDb:=by
 refine F.ok (k:=6) sc_deeds_between (fun vs H Q E h=>?_) (fun cdv A outer s H vs Q E hr h=>?_)
 ·obtain ⟨a,b,xs,ys,rfl,_⟩:=h
  rfl
 obtain ⟨a,b,xs,ys,rfl,ha,hb,lx,ly,hx,hy,q⟩:=h
 refine ⟨_,(pss_cons (ps_set (i:=2) sc_deeds_between.nd rfl (by first | exact Or.inl rfl | exact Or.inr rfl) (pe_lst pa_nil))
   (pss_cons (ps_for PassesOwn.never rfl (pi_tup (pv 0)) (pg_name (i:=3) sc_deeds_between.nd rfl (by first | exact Or.inl rfl | exact Or.inr rfl)) (pss_one (ps_for PassesOwn.never rfl (pi_tup (pv 1)) (pg_name (i:=4) sc_deeds_between.nd rfl (by first | exact Or.inl rfl | exact Or.inr rfl)) (pss_one (ps_for PassesOwn.never rfl (pi_top (pe_glob (v:=.ref dD) rfl De.gl rfl)) (pg_name (i:=5) sc_deeds_between.nd rfl (by first | exact Or.inl rfl | exact Or.inr rfl)) (pss_one (ps_try0 rfl R.gN R.cN.xcls rfl rfl (fun EX pins=>(pss_one (ps_expr (pe_bmK (K:=K) rfl PySem.F.plainAttrs_list PySem.F.slot_list_append PySem.F.type_list_append mt_append (pv 2) (pa_cons (pe_tup (pa_cons (pv 5) (pa_cons (pv 3) (pa_cons (pv 4) (pa_cons (pe_defX Gwb (hr.mono (by lia)) (pa_cons (pv 5) (pa_cons (pv 3) (pa_cons (pv 4) pa_nil)))) pa_nil))))) pa_nil star_tup))))) (fun _ pins=>(pss_one ps_continue)))))))))
   (pss_one (ps_ret (pv 2))))),?_⟩
 try dsimp only [Cx.nox,kx1,kx2,kx3,kx4,kx5,kx6,kx7,kx8,kx9,kxa,kxb,kxc]
 have szl:=sizeLine_eq
 refine ⟨(by show 0≤sizeLine; decide),fun pd hpd=>?_⟩
 have sd:=Same.new (o:=.lst []) hpd
 refine ⟨_,rfl,a,rfl,⟨_,SqT.of (sd _ _ ha)⟩,for_tup (K:=K) (a:=a) (xs:=xs.map V.int) (fun i σ H'=>∃ (z1 z2 z3:Option V) (zs:List V),σ=[some (.ref a),some (.ref b),some (.ref pd),z1,z2,z3]∧Same H H'∧H' pd=some (.lst zs)∧Paired (D4 H') zs (dbL (xs.take i) ys))
  ⟨none,none,none,[],rfl,sd,upd_same,.nil⟩ (fun i σ H' _ ⟨_,_,_,_,_,g,_⟩=>SqT.of (g _ _ ha)) ?_ ?_⟩
 ·rintro i v σ H1 hi ⟨z1,z2,z3,zs,rfl,s1,g1,pz⟩
  obtain ⟨x,hxi,rfl⟩:=get_map hi
  have hil:=(List.getElem?_eq_some_iff.mp hxi).1
  obtain ⟨x1,x2⟩:=hx x (List.mem_of_getElem? hxi)
  refine ⟨_,rfl,b,rfl,⟨_,SqT.of (s1 _ _ hb)⟩,for_tup (K:=K) (a:=b) (xs:=ys.map V.int) (fun j σ H'=>∃ (z2 z3:Option V) (zs:List V),σ=[some (.ref a),some (.ref b),some (.ref pd),some (.int x),z2,z3]∧Same H H'∧H' pd=some (.lst zs)∧Paired (D4 H') zs (dbL (xs.take i) ys++(ys.take j).flatMap (ddL x)))
   ⟨_,_,zs,rfl,s1,g1,by rw [List.take_zero,List.flatMap_nil,List.append_nil]; exact pz⟩ (fun i σ H' _ ⟨_,_,_,_,g,_⟩=>SqT.of (g _ _ hb)) ?_ ?_⟩
  ·rintro j v σ H2 hj ⟨z2,z3,zs,rfl,s2,g2,pz⟩
   obtain ⟨y,hyj,rfl⟩:=get_map hj
   have hjl:=(List.getElem?_eq_some_iff.mp hyj).1
   obtain ⟨y1,y2⟩:=hy y (List.mem_of_getElem? hyj)
   refine ⟨dD,dW,rfl,TK,for_top (ws:=dW) (fun k σ H'=>∃ (z3:Option V) (zs:List V),σ=[some (.ref a),some (.ref b),some (.ref pd),some (.int x),some (.int y),z3]∧Same H H'∧H' pd=some (.lst zs)∧Paired (D4 H') zs ((dbL (xs.take i) ys++(ys.take j).flatMap (ddL x))++(dW.take k).filterMap (one4 x y)))
    ⟨_,zs,rfl,s2,g2,by rw [List.take_zero,List.filterMap_nil,List.append_nil]; exact pz⟩ ?_ ?_⟩
   ·rintro k wd σ H3 hk ⟨z3,zs,rfl,s3,g3,pz⟩
    have zl:zs.length≤640000:=by
     rw [pz.length,List.length_append,List.length_append]
     have h1:=dbL_len (xs.take i) ys
     have h2:((ys.take j).flatMap (ddL x)).length≤(ys.take j).length * 4:=fm_le _ _ _ fun y _=>ddL_len x y 4
     have h3:=ddL_len x y k
     rw [List.length_take] at h1 h2
     have h4:min i xs.length * (ys.length * 4)≤399 * 1600:=Nat.mul_le_mul (by lia) (by lia)
     lia
    refine ⟨_,rfl,.inl ⟨rfl,_,SqL.of g3⟩,_,rfl,_,rfl,_,rfl,_,rfl,_,rfl,_,rfl,wd,x,y,rfl,dW_ok hk,x1,p90 x2,y1,p90 y2,?_⟩
    have ef:(dW.take (k + 1)).filterMap (one4 x y)=(dW.take k).filterMap (one4 x y)++(one4 x y wd).toList:=by
     rw [take_snoc hk,List.filterMap_append]
     cases h:one4 x y wd <;> simp [List.filterMap_cons,h]
    cases eb:byE wd x y with
    | inl e =>
     intro dx hdx
     refine ⟨⟨N,bN,rfl,R.cN.xcls,by simp⟩,?_⟩
     have sx:=Same.new (o:=xw e) hdx
     refine ⟨_,zs,rfl,s3.trans sx,sx _ _ g3,?_⟩
     have e4:one4 x y wd=none:=by unfold one4; rw [eb]
     rw [e4,Option.toList_none,List.append_nil] at ef
     rw [ef]
     exact pr_kt (R:=D4) (fun v x h=>h.kt (KT.same sx)) pz
    | inr z =>
     refine ⟨(by show 4≤sizeLine; decide),fun pt hpt=>?_⟩
     have st:=Same.new (o:=.tup [.str wd,.int x,.int y,.int z]) hpt
     have g4:=st _ _ g3
     refine ⟨pd,zs,_,rfl,rfl,g4,by rw [szl]; lia,?_⟩
     have kt7:KT (upd H3 pt (.tup [.str wd,.int x,.int y,.int z])) (upd (upd H3 pt (.tup [.str wd,.int x,.int y,.int z])) pd (.lst (zs++[.ref pt]))):=KT.upd g4
     refine ⟨_,zs++[.ref pt],rfl,same_upd (s3.trans st) hpd,upd_same,?_⟩
     have e4:one4 x y wd=some (wd,x,y,z):=by unfold one4; rw [eb]
     rw [e4] at ef
     rw [ef,← List.append_assoc]
     exact pr_snoc (pr_kt (R:=D4) (fun v x h=>h.kt (KT.trans (KT.same st) kt7)) pz) ⟨pt,rfl,kt7 _ _ upd_same⟩
   ·rintro σ H3 ⟨z3,zs,rfl,s3,g3,pz⟩
    refine ⟨_,_,zs,rfl,s3,g3,?_⟩
    rw [take_snoc hyj,List.flatMap_append,← List.append_assoc]
    have:([y]:List Int).flatMap (ddL x)=dW.filterMap (one4 x y):=by simp [ddL]
    rw [this]
    exact pz
  ·rintro σ H2 ⟨z2,z3,zs,rfl,s2,g2,pz⟩
   rw [List.length_map,List.take_length] at pz
   refine ⟨_,_,_,zs,rfl,s2,g2,?_⟩
   have:dbL (xs.take (i + 1)) ys=dbL (xs.take i) ys++ys.flatMap (ddL x):=by
    unfold dbL
    rw [take_snoc hxi,List.flatMap_append]
    simp
   rw [this]
   exact pz
 ·rintro σ H1 ⟨z1,z2,z3,zs,rfl,s1,g1,pz⟩
  rw [List.length_map,List.take_length] at pz
  exact ⟨_,rfl,q pd zs H1 s1 hpd g1 pz⟩
end
end Law
namespace Law
open PySem L2
section
variable {P:Program} {w:World} {K:PySem.W.Frag} {mg:Str→Option Value} {base:Heap}
theorem filt_snoc {α:Type} {l:List α} {i:Nat} {x:α} (h:l[i]?=some x) (p:α→Bool):(l.take (i + 1)).filter p=(l.take i).filter p++(if p x=true then [x] else []):=by
 rw [take_snoc h,List.filter_append,List.filter_cons,List.filter_nil]
theorem db_deed {xs ys:List Int} {d:Dd} (h:d∈dbL xs ys):∃ x∈xs,∃ y∈ys,Deed x y d.2.2.2:=by
 obtain ⟨x,hx,h⟩:=List.mem_flatMap.mp h
 obtain ⟨y,hy,h⟩:=List.mem_flatMap.mp h
 obtain ⟨wd,hw,h⟩:=List.mem_filterMap.mp h
 refine ⟨x,hx,y,hy,?_⟩
 unfold one4 byE at h
 unfold Deed
 split at h
 ·rename_i z e
  cases h
  show z=_∨(_∧z=_)∨z=_∨(_∧z=_)
  split at e
  ·cases e; exact .inl rfl
  ·split at e
   ·cases e; exact .inr (.inr (.inl rfl))
   ·split at e
    ·split at e
     ·rename_i h2
      cases e; exact .inr (.inl ⟨h2,rfl⟩)
     ·cases e
    ·split at e
     ·rename_i h2
      cases e; exact .inr (.inr (.inr ⟨h2,rfl⟩))
     ·cases e
 ·cases h
theorem deed_db {xs ys:List Int} {x y m:Int} (hx:x∈xs) (hy:y∈ys) (h:Deed x y m):∃ d∈dbL xs ys,d.2.2.2=m:=by
 have put:∀ wd∈dW,byE wd x y=.inr m→∃ d∈dbL xs ys,d.2.2.2=m:=fun wd hw e =>
  ⟨(wd,x,y,m),List.mem_flatMap.mpr ⟨x,hx,List.mem_flatMap.mpr ⟨y,hy,List.mem_filterMap.mpr ⟨wd,hw,by unfold one4; rw [e]⟩⟩⟩,rfl⟩
 rcases h with rfl | ⟨h,rfl⟩ | rfl | ⟨h,rfl⟩
 ·exact put "plus" (by simp [dW]) (by unfold byE; rw [if_pos rfl])
 ·exact put "less" (by simp [dW]) (by rw [byE_less,if_pos h])
 ·exact put "times" (by simp [dW]) (by unfold byE; rw [if_neg (by decide +kernel),if_pos rfl])
 ·exact put "share" (by simp [dW]) (by rw [byE_share,if_pos h])
noncomputable def RowV (H:Hp) (v:V) (r:List Int):Prop:=∃ q,v=.ref q∧H q=some (.tup (r.map V.int))
theorem RowV.kt {H H':Hp} {v:V} {r:List Int} (k:KT H H') (h:RowV H v r):RowV H' v r:=by
 obtain ⟨q,h1,h2⟩:=h
 exact ⟨q,h1,k _ _ h2⟩
noncomputable def Ent (ns:List Int) (H:Hp) (kv:List Bool×V) (c:List Bool):Prop:=kv.1=c∧RowV H kv.2 (rowF (chosen ns c))
theorem Ent.kt {ns:List Int} {H H':Hp} {kv:List Bool×V} {c:List Bool} (k:KT H H') (h:Ent ns H kv c):Ent ns H' kv c:=⟨h.1,h.2.kt k⟩
theorem ent_get {ns:List Int} {H:Hp} {kvs:List (List Bool×V)} {cs:List (List Bool)} (h:Paired (Ent ns H) kvs cs) {c:List Bool} (hc:c∈cs):∃ v,valV kvs c=some v∧RowV H v (rowF (chosen ns c)):=by
 induction h with
 | nil=>cases hc
 | @cons p d ps ds h t ih =>
  by_cases e:p.1=c
  ·exact ⟨p.2,valV_pos e,by rw [← e,h.1]; exact h.2⟩
  ·rw [valV_neg e]
   rcases List.mem_cons.mp hc with hc | hc
   ·exact absurd (h.1.trans hc.symm) e
   ·exact ih hc
theorem ent_put {ns:List Int} {H:Hp} {kvs:List (List Bool×V)} {cs:List (List Bool)} (h:Paired (Ent ns H) kvs cs) {c:List Bool} (hc:c ∉ cs) (v:V):putK kvs c v=kvs++[(c,v)]:=by
 unfold putK
 rw [if_neg]
 intro z
 obtain ⟨kv,h1,h2⟩:=List.any_eq_true.mp z
 have:∀ {kvs:List (List Bool×V)} {cs:List (List Bool)},Paired (Ent ns H) kvs cs→kv∈kvs→kv.1∈cs:=by
  intro kvs cs h
  induction h with
  | nil=>intro z; cases z
  | cons h _ ih =>
   intro z
   rcases List.mem_cons.mp z with z | z
   ·rw [z,h.1]; exact List.mem_cons_self
   ·exact List.mem_cons_of_mem _ (ih z)
 have:=this h h1
 rw [of_decide_eq_true h2] at this
 exact hc this
noncomputable def Nums (ns:List Int):Prop:=ns.length≤4∧∀ n∈ns,1≤n∧n≤1000000
theorem row_ok {ns:List Int} (h:Nums ns) (c:List Bool):∀ x∈rowF (chosen ns c),1≤x∧x < 2 ^ 90:=by
 have hl:(chosen ns c).length≤4:=Nat.le_trans (chosen_le ns c) h.1
 intro x hx
 have m:=((row_of hl).2 x).mp hx
 exact ⟨m.pos,m.small hl fun n hn=>(h.2 n (chosen_mem hn)).2⟩
theorem bnd_le {k:Nat} (h:k≤3):bnd k≤108:=by
 have:k=0∨k=1∨k=2∨k=3:=by lia
 rcases this with rfl | rfl | rfl | rfl <;> decide
theorem bnd_all (k:Nat):bnd k≤3240:=by
 unfold bnd
 split <;> decide
noncomputable def cameP (ns:List Int) (p:List Bool×List Bool):List Dd:=dbL (rowF (chosen ns p.1)) (rowF (chosen ns p.2))
theorem came_met {ns:List Int} {c:List Bool} (hN:Nums ns) (hl:ns.length=c.length) (h1:(chosen ns c).length≠1) {p:List Bool×List Bool} (hp:p∈splits c) {d:Dd} (hd:d∈cameP ns p):MetL (chosen ns c) d.2.2.2:=by
 obtain ⟨x,hx,y,hy,dd⟩:=db_deed hd
 have l1:(chosen ns p.1).length≤4:=Nat.le_trans (chosen_le ns _) hN.1
 have l2:(chosen ns p.2).length≤4:=Nat.le_trans (chosen_le ns _) hN.1
 exact (met_splits hl h1).mpr ⟨p,hp,x,y,((row_of l1).2 x).mp hx,((row_of l2).2 y).mp hy,dd⟩
theorem met_came {ns:List Int} {c:List Bool} (hN:Nums ns) (hl:ns.length=c.length) (h1:(chosen ns c).length≠1) {m:Int} (h:MetL (chosen ns c) m):∃ p∈splits c,∃ d∈cameP ns p,d.2.2.2=m:=by
 obtain ⟨p,hp,x,y,hx,hy,dd⟩:=(met_splits hl h1).mp h
 have l1:(chosen ns p.1).length≤4:=Nat.le_trans (chosen_le ns _) hN.1
 have l2:(chosen ns p.2).length≤4:=Nat.le_trans (chosen_le ns _) hN.1
 obtain ⟨d,hd,e⟩:=deed_db (((row_of l1).2 x).mpr hx) (((row_of l2).2 y).mpr hy) dd
 exact ⟨p,hp,d,hd,e⟩
theorem spl_less {ns:List Int} {c:List Bool} (hN:Nums ns) (hl:ns.length=c.length) {p:List Bool×List Bool} (hp:p∈splits c):(rowF (chosen ns p.1)).length≤400∧(rowF (chosen ns p.2)).length≤400:=by
 obtain ⟨hs,h1,h2⟩:=mem_splits.mp hp
 have l:=hs.len
 have m:=(hs.mix ns hl).len
 have la:=chosen_le ns c
 have n1:0 < (chosen ns p.1).length:=List.length_pos_iff.mpr ((chosen_ne (by lia)).mpr h1)
 have n2:0 < (chosen ns p.2).length:=List.length_pos_iff.mpr ((chosen_ne (by lia)).mpr h2)
 have:=hN.1
 exact ⟨Nat.le_trans (row_len (by lia)) (Nat.le_trans (bnd_le (by lia)) (by decide)),Nat.le_trans (row_len (by lia)) (Nat.le_trans (bnd_le (by lia)) (by decide))⟩
noncomputable def spRf (P:Program) (w:World):Sp:=fun vs H Q _=>∃ (a b d:Addr) (ns:List Int) (c:List Bool) (kvs:List (List Bool×V)) (cs:List (List Bool)),vs=[.ref a,.ref b,.ref d]∧H a=some (.tup (ns.map V.int))∧Rd H b (.tup (c.map V.bl))∧Nums ns∧ns.length=c.length∧c.any id=true ∧
 Tb P w H d kvs∧Paired (Ent ns H) kvs cs∧(∀ p∈splits c,p.1∈cs∧p.2∈cs)∧∀ (p:Addr) (H':Hp),Same H H'→H' p=some (.tup ((rowF (chosen ns c)).map V.int))→Q (.ref p) H'
noncomputable abbrev s_row_for:Stmt:=top 27
theorem sc_row_for:FnScope ["numbers","choice","table","chosen","worths","one","rest","word","first","second","worth"] ["numbers","choice","table"] (defScope s_row_for):=⟨rfl,rfl,rfl,by decide +kernel,rfl,by decide +kernel,by decide +kernel⟩
theorem ok_rf {f:Addr} {fd:FuncData} (F:Fun K "row_for" "row_for" s_row_for f fd) (B:Blt mg) (Bset:mg "set"=none) (Bsorted:mg "sorted"=none) (Gcho:Def P w K mg base CX0 1 "chosen_of" spCho) (Gspl:Def P w K mg base CX0 1 "splits_of" (spSpl K)) (Gdb:Def P w K mg base CX0 7 "deeds_between" spDb):FnOk P w K mg base CX0 9 f fd ["numbers","choice","table"] (spRf P w):=by
 refine F.ok (k:=8) sc_row_for (fun vs H Q E h=>?_) (fun cdv A outer s H vs Q E hr h=>?_)
 ·obtain ⟨a,b,d,ns,c,kvs,cs,rfl,_⟩:=h
  rfl
 obtain ⟨a,b,d,ns,c,kvs,cs,rfl,ha,hb,hN,hl,hany,tb,pe,hsp,q⟩:=h
 refine ⟨_,(pss_cons (ps_set (i:=3) sc_row_for.nd rfl (by first | exact Or.inl rfl | exact Or.inr rfl) (pe_def Gcho (hr.mono (by lia)) (pa_cons (pv 0) (pa_cons (pv 1) pa_nil))))
   (pss_cons (ps_if (pt_cmpR op_eq (pe_callB call_len_seq rfl B.len bt_len (pa_cons (pv 3) pa_nil)) pe_int (nomark _)) (pss_one (ps_ret (pe_ifExp (pt_cmpR op_ge (pe_ix ix_tup (pv 3) pe_int (fun _ _=>rfl)) pe_int (nomark _)) (pv 3) (pe_tup pa_nil)))) pss_nil)
   (pss_cons (ps_set (i:=4) sc_row_for.nd rfl (by first | exact Or.inl rfl | exact Or.inr rfl) (pe_callTy0 call_set0 rfl Bset bt_set))
   (pss_cons (ps_for PassesOwn.never rfl (pi_list (pe_def Gspl (hr.mono (by lia)) (pa_cons (pv 1) pa_nil))) (pg_tup rfl (pgs_cons (pg_name (i:=5) sc_row_for.nd rfl (by first | exact Or.inl rfl | exact Or.inr rfl)) (pgs_cons (pg_name (i:=6) sc_row_for.nd rfl (by first | exact Or.inl rfl | exact Or.inr rfl)) pgs_nil))) (pss_one (ps_for PassesOwn.never rfl (pi_list (pe_def Gdb (hr.mono (by lia)) (pa_cons (pe_dgetB (hu_of hr) (pv 2) (pv 5) (fun _ _=>rfl)) (pa_cons (pe_dgetB (hu_of hr) (pv 2) (pv 6) (fun _ _=>rfl)) pa_nil)))) (pg_tup rfl (pgs_cons (pg_name (i:=7) sc_row_for.nd rfl (by first | exact Or.inl rfl | exact Or.inr rfl)) (pgs_cons (pg_name (i:=8) sc_row_for.nd rfl (by first | exact Or.inl rfl | exact Or.inr rfl)) (pgs_cons (pg_name (i:=9) sc_row_for.nd rfl (by first | exact Or.inl rfl | exact Or.inr rfl)) (pgs_cons (pg_name (i:=10) sc_row_for.nd rfl (by first | exact Or.inl rfl | exact Or.inr rfl)) pgs_nil))))) (pss_one (ps_expr (pe_setAdd (pv 4) (pv 10) ⟨rfl,rfl,rfl,rfl⟩))))))
   (pss_one (ps_ret (pe_callTy call_tuple_of rfl B.tuple bt_tuple (pa_cons (pe_callB (call_sortSe rfl) rfl Bsorted bt_sorted (pa_cons (pv 4) pa_nil)) pa_nil)))))))),?_⟩
 try dsimp only [Cx.nox,kx1,kx2,kx3,kx4,kx5,kx6,kx7,kx8,kx9,kxa,kxb,kxc]
 have szl:=sizeLine_eq
 have l4:(chosen ns c).length≤4:=Nat.le_trans (chosen_le ns c) hN.1
 have n0:0 < (chosen ns c).length:=List.length_pos_iff.mpr ((chosen_ne hl).mpr hany)
 refine ⟨_,rfl,_,rfl,a,b,ns,c,rfl,ha,hb,hl,hN.1,fun pc H1 s1 n1 gc=>?_⟩
 dsimp only [gName]
 refine ⟨_,rfl,pc,_,rfl,.inr (SqT.of gc),rfl,_,rfl,?_⟩
 by_cases h1:(chosen ns c).length=1
 ·refine (show (if _ then _ else _:Prop) from ?_)
  rw [if_pos (decide_eq_true (by rw [List.length_map,h1]; rfl))]
  obtain ⟨n,en⟩:∃ n,chosen ns c=[n]:=List.length_eq_one_iff.mp h1
  rw [en] at gc
  have hn:=hN.2 n (chosen_mem (c:=c) (by rw [en]; simp))
  refine ⟨_,rfl,pc,_,0,_,rfl,rfl,SqT.of gc,rfl,_,_,rfl,rfl,_,rfl,?_⟩
  refine (show (if _ then _ else _:Prop) from ?_)
  rw [if_pos (decide_eq_true (show n ≥ 1 from hn.1))]
  refine ⟨_,rfl,q pc H1 s1 ?_⟩
  rw [en,row_one hn.1]
  exact gc
 ·refine (show (if _ then _ else _:Prop) from ?_)
  rw [if_neg (by rw [List.length_map]; intro z; have:=of_decide_eq_true z; injection this with this; lia)]
  refine ⟨rfl,fun pw hpw=>?_⟩
  have sw:=Same.new (o:=SeO P w pw []) hpw
  have nw:=same_none s1 hpw
  refine ⟨_,rfl,b,c,rfl,rd_same (s1.trans sw) hb,by have:=hN.1; lia,fun ps ys H2 s2 _ gs pys=>?_⟩
  have sH2:=(s1.trans sw).trans s2
  have g2:=s2 _ _ (show (upd H1 pw (SeO P w pw [])) pw=some (SeO P w pw []) from upd_same)
  refine ⟨ps,rfl,⟨_,SqL.of gs⟩,for_list (K:=K) (a:=ps) (xs:=ys) (fun i σ H'=>∃ (z1 z2 z3 z4 z5 z6:Option V) (ks:List Int),σ=[some (.ref a),some (.ref b),some (.ref d),some (.ref pc),some (.ref pw),z1,z2,z3,z4,z5,z6]∧Same H H'∧Keep [pw] H2 H'∧H' pw=some (SeO P w pw ks)∧ks.Nodup∧∀ m,m∈ks↔∃ p∈(splits c).take i,∃ d∈cameP ns p,d.2.2.2=m)
   ⟨none,none,none,none,none,none,[],rfl,sH2,Keep.refl _ _,g2,List.nodup_nil,fun m=>by simp⟩ (fun i σ H' _ ⟨_,_,_,_,_,_,_,_,_,k,_⟩=>SqL.of (k _ _ gs (fun z=>?_))) ?_ ?_⟩
  ·rw [List.mem_singleton.mp z,g2] at gs; cases gs
  ·rintro i x σ H3 hi ⟨z1,z2,z3,z4,z5,z6,ks,rfl,s3,k3,g3,nd,hm⟩
   have nsp:∀ {b:Addr} {xs:List V},H2 b=some (.tup xs)→b ∉ [pw]:=fun {b xs} e z=>by
    rw [List.mem_singleton.mp z,g2] at e; cases e
   obtain ⟨p,hp,hw⟩:=pr_get pys hi
   have hps:p∈splits c:=List.mem_of_getElem? hp
   obtain ⟨qx,u1,u2,rfl,gq,⟨q1,rfl,gq1⟩,⟨q2,rfl,gq2⟩⟩:=hw
   have kq:=k3 _ _ gq (nsp gq)
   have kq1:=k3 _ _ gq1 (nsp gq1)
   have kq2:=k3 _ _ gq2 (nsp gq2)
   have tb3:Tb P w H3 d kvs:=tb.same s3
   have pe3:Paired (Ent ns H3) kvs cs:=Paired.mapP pe fun _ _ h=>h.kt (KT.same s3)
   obtain ⟨v1,e1,r1,rfl,gr1⟩:=ent_get pe3 (hsp p hps).1
   obtain ⟨v2,e2,r2,rfl,gr2⟩:=ent_get pe3 (hsp p hps).2
   obtain ⟨ll1,ll2⟩:=spl_less hN hl hps
   refine ⟨qx,_,rfl,SqT.of kq,rfl,_,_,rfl,_,_,rfl,rfl,?_⟩
   refine ⟨_,rfl,_,rfl,d,q1,kvs,p.1,_,rfl,rfl,tb3,.inl kq1,e1,_,rfl,_,rfl,d,q2,kvs,p.2,_,rfl,rfl,tb3,.inl kq2,e2,?_⟩
   refine ⟨r1,r2,_,_,rfl,gr1,gr2,ll1,ll2,row_ok hN _,row_ok hN _,fun pz zs H4 s4 _ gz pzs=>?_⟩
   have pzs':Paired (D4 H4) zs (cameP ns p):=pzs
   refine ⟨pz,rfl,⟨_,SqL.of gz⟩,for_list (K:=K) (a:=pz) (xs:=zs) (fun j σ H'=>∃ (z3 z4 z5 z6:Option V) (ks:List Int),σ=[some (.ref a),some (.ref b),some (.ref d),some (.ref pc),some (.ref pw),some (.ref q1),some (.ref q2),z3,z4,z5,z6]∧Same H H'∧Keep [pw] H4 H'∧H' pw=some (SeO P w pw ks)∧ks.Nodup∧∀ m,m∈ks↔(∃ p∈(splits c).take i,∃ d∈cameP ns p,d.2.2.2=m)∨∃ d∈(cameP ns p).take j,d.2.2.2=m)
    ⟨_,_,_,_,ks,rfl,s3.trans s4,Keep.refl _ _,s4 _ _ g3,nd,fun m=>by rw [hm]; simp⟩ (fun i σ H' _ ⟨_,_,_,_,_,_,_,k,_⟩=>SqL.of (k _ _ gz (fun z=>?_))) ?_ ?_⟩
   ·rw [List.mem_singleton.mp z,s4 _ _ g3] at gz; cases gz
   ·rintro j y σ H5 hj ⟨z3,z4,z5,z6,ks5,rfl,s5,k5,g5,nd5,hm5⟩
    obtain ⟨dd,hd,qd,rfl,gd⟩:=pr_get pzs' hj
    have kd:=k5 _ _ gd (fun z=>by rw [List.mem_singleton.mp z,s4 _ _ g3] at gd; cases gd)
    have hall:∀ m∈ks5,MetL (chosen ns c) m:=fun m h=>by
     rcases (hm5 m).mp h with ⟨p',hp',d',hd',rfl⟩ | ⟨d',hd',rfl⟩
     ·exact came_met hN hl h1 (List.mem_of_mem_take hp') hd'
     ·exact came_met hN hl h1 hps (List.mem_of_mem_take hd')
    have hlen:ks5.length≤3240:=Nat.le_trans (met_len l4 nd5 hall) (bnd_all _)
    refine ⟨qd,_,rfl,SqT.of kd,rfl,_,_,rfl,_,_,rfl,_,_,rfl,_,_,rfl,rfl,?_⟩
    refine ⟨_,rfl,pw,ks5,rfl,g5,_,rfl,ks5,_,g5,rfl,by lia,?_⟩
    refine ⟨_,_,_,_,_,rfl,same_upd s5 nw,fun b o e n=>?_,upd_same,addK_nodup nd5,fun m=>?_⟩
    ·rw [upd_ne (fun z=>n (by rw [z]; simp))]; exact k5 b o e n
    ·rw [mem_addK,hm5,take_snoc hd]
     simp only [List.mem_append,List.mem_singleton]
     constructor
     ·rintro ((h | ⟨d',h1,h2⟩) | h)
      ·exact .inl h
      ·exact .inr ⟨d',.inl h1,h2⟩
      ·exact .inr ⟨dd,.inr rfl,h.symm⟩
     ·rintro (h | ⟨d',h1 | h1,h2⟩)
      ·exact .inl (.inl h)
      ·exact .inl (.inr ⟨d',h1,h2⟩)
      ·exact .inr (by rw [← h2,h1])
   ·rintro σ H5 ⟨z3,z4,z5,z6,ks5,rfl,s5,k5,g5,nd5,hm5⟩
    refine ⟨_,_,_,_,_,_,ks5,rfl,s5,fun b o e n=>k5 b o (s4 _ _ (k3 b o e n)) n,g5,nd5,fun m=>?_⟩
    rw [hm5,pzs'.length,List.take_length,take_snoc hp]
    simp only [List.mem_append,List.mem_singleton]
    constructor
    ·rintro (⟨p',h1,h2⟩ | h)
     ·exact ⟨p',.inl h1,h2⟩
     ·exact ⟨p,.inr rfl,h⟩
    ·rintro ⟨p',h1 | h1,h2⟩
     ·exact .inl ⟨p',h1,h2⟩
     ·exact .inr (by rw [← h1]; exact h2)
  ·rintro σ H3 ⟨z1,z2,z3,z4,z5,z6,ks,rfl,s3,k3,g3,nd,hm⟩
   rw [pys.length,List.take_length] at hm
   refine ⟨_,rfl,pw,ks,rfl,g3,fun pl ms H4 s4 _ gl hs hms=>?_⟩
   have em:ms=rowF (chosen ns c):=RowOf.one (Pd:=MetL (chosen ns c)) ⟨hs,fun m=>by
    rw [hms,hm]
    constructor
    ·rintro ⟨p,hp,d,hd,rfl⟩; exact came_met hN hl h1 hp hd
    ·intro h; exact met_came hN hl h1 h⟩ (row_of l4)
   subst em
   refine ⟨pl,_,rfl,.inl ⟨SqL.of gl,fun pt hpt=>?_⟩⟩
   exact q pt _ (s3.trans (s4.trans (Same.new hpt))) upd_same
noncomputable def spTab (P:Program) (w:World):Sp:=fun vs H Q _=>∃ (a:Addr) (ns:List Int),vs=[.ref a]∧H a=some (.tup (ns.map V.int))∧Nums ns∧∀ (p:Addr) (kvs:List (List Bool×V)) (H':Hp),Same H H'→H p=none→Tb P w H' p kvs→Paired (Ent ns H') kvs ((chL ns.length).filter (·.any id))→Q (.ref p) H'
theorem tb_ne {H:Hp} {d b:Addr} {kvs:List (List Bool×V)} {xs:List V} (t:Tb P w H d kvs) (h:H b=some (.tup xs)):b≠d:=by
 obtain ⟨ys,e,_⟩:=t
 intro z
 rw [z,e] at h
 cases h
theorem tb_neL {H:Hp} {d b:Addr} {kvs:List (List Bool×V)} {xs:List V} (t:Tb P w H d kvs) (h:H b=some (.lst xs)):b≠d:=by
 obtain ⟨ys,e,_⟩:=t
 intro z
 rw [z,e] at h
 cases h
theorem tb_neF {H:Hp} {d b:Addr} {o:Obj} {kvs:List (List Bool×V)} {xs:List V} (t:Tb P w H d kvs) (h:H b=some (.frz o (.tup xs))):b≠d:=by
 obtain ⟨ys,e,_⟩:=t
 intro z
 rw [z,e] at h
 cases h
noncomputable abbrev s_table_of:Stmt:=top 26
theorem sc_table_of:FnScope ["numbers","table","choice"] ["numbers"] (defScope s_table_of):=⟨rfl,rfl,rfl,by decide +kernel,rfl,by decide +kernel,by decide +kernel⟩
theorem ok_tab {f:Addr} {fd:FuncData} (F:Fun K "table_of" "table_of" s_table_of f fd) (B:Blt mg) (Bany:mg "any"=none) (Gchs:Def P w K mg base CX0 1 "choices_of" spChs) (Grf:Def P w K mg base CX0 9 "row_for" (spRf P w)):FnOk P w K mg base CX0 10 f fd ["numbers"] (spTab P w):=by
 refine F.ok (k:=9) sc_table_of (fun vs H Q E h=>?_) (fun cdv A outer s H vs Q E hr h=>?_)
 ·obtain ⟨a,ns,rfl,_⟩:=h
  rfl
 obtain ⟨a,ns,rfl,ha,hN,q⟩:=h
 refine ⟨_,(pss_cons (ps_set (i:=1) sc_table_of.nd rfl (by first | exact Or.inl rfl | exact Or.inr rfl) pe_dnewB)
   (pss_cons (ps_for PassesOwn.never rfl (pi_list (pe_def Gchs (hr.mono (by lia)) (pa_cons (pe_callB call_len_seq rfl B.len bt_len (pa_cons (pv 0) pa_nil)) pa_nil))) (pg_name (i:=2) sc_table_of.nd rfl (by first | exact Or.inl rfl | exact Or.inr rfl)) (pss_one (ps_if (pt_val (pe_callB (call_anyT rfl) rfl Bany bt_any (pa_cons (pv 2) pa_nil))) (pss_one (ps_dputB (hu_of hr) (pv 1) (pv 2) (pe_def Grf (hr.mono (by lia)) (pa_cons (pv 0) (pa_cons (pv 2) (pa_cons (pv 1) pa_nil)))) rfl)) pss_nil)))
   (pss_one (ps_ret (pv 1))))),?_⟩
 try dsimp only [Cx.nox,kx1,kx2,kx3,kx4,kx5,kx6,kx7,kx8,kx9,kxa,kxb,kxc]
 have szl:=sizeLine_eq
 refine fun pd hpd hsy=>?_
 have sd:=Same.new (o:=DbO P w pd []) hpd
 have t0:Tb P w (upd H pd (DbO P w pd [])) pd []:=Tb.new hsy
 refine ⟨_,rfl,a,_,rfl,.inr (SqT.of (sd _ _ ha)),ns.length,by rw [List.length_map]; rfl,hN.1,fun pc ys H2 s2 npc gc pys=>?_⟩
 have sH2:=sd.trans s2
 have t2:=t0.same s2
 refine ⟨pc,rfl,⟨_,SqL.of gc⟩,for_list (K:=K) (a:=pc) (xs:=ys) (fun i σ H'=>∃ (z:Option V) (kvs:List (List Bool×V)),σ=[some (.ref a),some (.ref pd),z]∧Same H H'∧Keep [pd] H2 H'∧Tb P w H' pd kvs∧Paired (Ent ns H') kvs (((chL ns.length).take i).filter (·.any id)))
  ⟨none,[],rfl,sH2,Keep.refl _ _,t2,.nil⟩ (fun i σ H' _ ⟨_,_,_,_,k,_⟩=>SqL.of (k _ _ gc (fun z=>tb_neL t2 gc (List.mem_singleton.mp z)))) ?_ ?_⟩
 ·rintro i x σ H3 hi ⟨z,kvs,rfl,s3,k3,t3,pe⟩
  obtain ⟨c,hc,qc,rfl,gq⟩:=pr_get pys hi
  have kq:Kb H3 qc c:=let ⟨o,e,d⟩:=gq; ⟨o,k3 _ _ e (fun z=>tb_neF t2 e (List.mem_singleton.mp z)),d⟩
  have cl:c.length=ns.length:=chL_len _ c (List.mem_of_getElem? hc)
  have hil:i < 2 ^ ns.length:=by rw [← chL_length]; exact (List.getElem?_eq_some_iff.mp hc).1
  have ef:((chL ns.length).take (i + 1)).filter (·.any id)=((chL ns.length).take i).filter (·.any id)++(if c.any id=true then [c] else []):=filt_snoc hc _
  refine ⟨_,rfl,qc,c,rfl,.inl kq.rd,_,rfl,?_⟩
  cases hany:c.any id with
  | false =>
   rw [hany,if_neg (by decide),List.append_nil] at ef
   refine iteF ⟨_,kvs,rfl,s3,k3,t3,?_⟩
   rw [ef]
   exact pe
  | true =>
   rw [hany,if_pos rfl] at ef
   have hsub:∀ p∈splits c,p.1∈((chL ns.length).take i).filter (·.any id)∧p.2∈((chL ns.length).take i).filter (·.any id):=fun p hp=>by
    obtain ⟨h1,h2⟩:=ahead hN.1 hc hp
    obtain ⟨_,a1,a2⟩:=mem_splits.mp hp
    exact ⟨List.mem_filter.mpr ⟨h1,a1⟩,List.mem_filter.mpr ⟨h2,a2⟩⟩
   have hnot:c ∉ ((chL ns.length).take i).filter (·.any id):=fun z=>by
    have h1:=(List.mem_filter.mp z).1
    have nd:=chL_nodup ns.length hN.1
    have nd2:((chL ns.length).take (i + 1)).Nodup:=nd.sublist (List.take_sublist _ _)
    rw [take_snoc hc] at nd2
    exact (List.nodup_append.mp nd2).2.2 c h1 c (by simp) rfl
   have kl:kvs.length≤16:=by
    rw [pe.length]
    refine Nat.le_trans (List.length_filter_le _ _) ?_
    rw [List.length_take,chL_length]
    have:=pow2 hN.1
    lia
   refine iteT ⟨_,rfl,_,rfl,_,rfl,a,qc,pd,ns,c,kvs,_,rfl,s3 _ _ ha,kq.rd,hN,cl.symm,hany,t3,pe,hsub,fun pr H4 s4 gr=>?_⟩
   refine ⟨_,rfl,_,rfl,pd,qc,kvs,c,rfl,rfl,t3.same s4,kq.same s4,by rw [szl]; lia,fun H5 k5 t5=>?_⟩
   rw [ent_put pe hnot] at t5
   have kt5:KT H4 H5:=fun b xs e=>by rw [k5 b (tb_ne (t3.same s4) e)]; exact e
   refine ⟨_,_,rfl,fun b o e=>?_,fun b o e n=>?_,t5,?_⟩
   ·rw [k5 b (ne_of_none e hpd)]; exact s4 _ _ (s3 _ _ e)
   ·rw [k5 b (fun z=>n (by rw [z]; simp))]; exact s4 _ _ (k3 b o e n)
   ·rw [ef]
    exact pr_snoc (Paired.mapP pe fun _ _ h=>(h.kt (KT.same s4)).kt kt5) ⟨rfl,pr,rfl,kt5 _ _ gr⟩
 ·rintro σ H3 ⟨z,kvs,rfl,s3,k3,t3,pe⟩
  rw [pys.length,List.take_length] at pe
  exact ⟨_,rfl,q pd kvs H3 s3 hpd t3 pe⟩
end
end Law
namespace Law
open PySem L2
section
variable {P:Program} {w:World} {K:PySem.W.Frag} {mg:Str→Option Value} {base:Heap}
theorem sql_keep {H H':Hp} {a:Addr} {xs:List V} (s:Same H H') (h:SqL K H a xs):SqL K H' a xs:=by
 rcases h with (h | ⟨o,h⟩) | h
 ·exact .inl (.inl (s _ _ h))
 ·exact .inl (.inr ⟨o,s _ _ h⟩)
 ·exact .inr h
noncomputable def spNum (K:PySem.W.Frag):Sp:=fun vs H Q _=>∃ (a:Addr) (ns:List Int) (k:Int),vs=[.ref a,.int k]∧SqL K H a (ns.map V.int)∧ns.length≤63∧0≤k∧k < 1000∧∀ (r:Int) (H':Hp),0≤r→r < 1000000→Same H H'→Q (.int r) H'
noncomputable abbrev s_law_number:Stmt:=top 38
theorem sc_law_number:FnScope ["script","k","cells","size","cell","turn","rest","step","seed"] ["script","k"] (defScope s_law_number):=⟨rfl,rfl,rfl,by decide +kernel,rfl,by decide +kernel,by decide +kernel⟩
theorem ok_num {f:Addr} {fd:FuncData} (F:Fun K "_law_number" "_law_number" s_law_number f fd) (B:Blt mg) (Bmax:mg "max"=none) (Bmin:mg "min"=none) (Blist:mg "list"=none):FnOk P w K mg base CX0 1 f fd ["script","k"] (spNum K):=by
 refine F.ok sc_law_number (fun vs H Q E h=>?_) (fun cdv A outer s H vs Q E hr h=>?_)
 ·obtain ⟨a,ns,k,rfl,_⟩:=h
  rfl
 obtain ⟨a,ns,k,rfl,hS,hl,k0,k1,q⟩:=h
 refine ⟨_,(pss_cons (ps_set (i:=2) sc_law_number.nd rfl (by first | exact Or.inl rfl | exact Or.inr rfl) (pe_op op_cat (pe_callTy call_list_of rfl Blist bt_list (pa_cons (pv 0) pa_nil)) (pe_lst (pa_cons pe_int pa_nil))))
   (pss_cons (ps_set (i:=3) sc_law_number.nd rfl (by first | exact Or.inl rfl | exact Or.inr rfl) (pe_callB (call_max2 rfl) rfl Bmax bt_max (pa_cons pe_int (pa_cons (pe_callB call_len_seq rfl B.len bt_len (pa_cons (pv 0) pa_nil)) pa_nil))))
   (pss_cons (ps_set (i:=4) sc_law_number.nd rfl (by first | exact Or.inl rfl | exact Or.inr rfl) (pe_ix ix_list (pv 2) (pe_op op_mod (pv 1) (pv 3)) (fun _ _=>rfl)))
   (pss_cons (ps_set (i:=5) sc_law_number.nd rfl (by first | exact Or.inl rfl | exact Or.inr rfl) (pe_op op_fdiv (pv 1) (pv 3)))
   (pss_cons (ps_set (i:=6) sc_law_number.nd rfl (by first | exact Or.inl rfl | exact Or.inr rfl) (pv 4))
   (pss_cons (ps_for PassesOwn.never rfl (pi_range1 rfl B.range (pa_cons (pe_callB (call_min2 rfl) rfl Bmin bt_min (pa_cons (pv 5) (pa_cons pe_int pa_nil))) pa_nil)) (pg_name (i:=7) sc_law_number.nd rfl (by first | exact Or.inl rfl | exact Or.inr rfl)) (pss_one (ps_set (i:=6) sc_law_number.nd rfl (by first | exact Or.inl rfl | exact Or.inr rfl) (pe_op op_fdivB (pv 6) pe_int))))
   (pss_cons (ps_if (PW.pt (pw_and (pt_cmpR op_ge (pv 4) (pe_op op_pow pe_int pe_int) (nomark _)) (pw_and (pt_cmpR op_lt (pv 5) pe_int (nomark _)) (pw_and1 (pt_cmpR op_gt (pv 6) pe_int (nomark _)))))) (pss_one (ps_ret (pe_op op_mod (pv 6) pe_int))) pss_nil)
   (pss_cons (ps_set (i:=8) sc_law_number.nd rfl (by first | exact Or.inl rfl | exact Or.inr rfl) (pe_op op_mod (pe_op op_mul (pe_op op_add (pe_op op_add (pe_op op_add (pe_op op_mod (pv 4) pe_int) pe_int) (pe_op op_mul pe_int (pv 5))) (pe_op op_mul pe_int (pv 1))) pe_int) pe_int))
   (pss_cons (ps_set (i:=8) sc_law_number.nd rfl (by first | exact Or.inl rfl | exact Or.inr rfl) (pe_op op_mod (pe_op op_add (pe_op op_add (pe_op op_mul (pv 8) (pv 8)) (pe_op op_mul pe_int (pv 5))) (pe_op op_mul pe_int (pv 1))) pe_int))
   (pss_one (ps_ret (pe_op op_mod (pe_op op_fdiv (pe_op op_mod (pe_op op_mul (pv 8) pe_int) pe_int) pe_int) pe_int)))))))))))),?_⟩
 try dsimp only [Cx.nox,kx1,kx2,kx3,kx4,kx5,kx6,kx7,kx8,kx9,kxa,kxb,kxc]
 have szl:=sizeLine_eq
 refine ⟨_,rfl,a,_,rfl,.inl hS,fun p1 hp1=>⟨(by show 1≤sizeLine; decide),fun p2 hp2=>⟨p1,p2,_,_,rfl,rfl,Same.new hp2 _ _ upd_same,upd_same,?_,fun p3 hp3=>?_⟩⟩⟩
 ·rw [List.length_map,szl]; show ns.length + 1≤_; lia
 have s3:Same H (upd (upd (upd H p1 (.lst (ns.map V.int))) p2 (.lst [.int 0])) p3 (.lst (ns.map V.int++[.int 0]))):=(Same.new hp1).trans ((Same.new hp2).trans (Same.new hp3))
 have g3:(upd (upd (upd H p1 (.lst (ns.map V.int))) p2 (.lst [.int 0])) p3 (.lst (ns.map V.int++[.int 0]))) p3=some (.lst ((ns++[0]).map V.int)):=by rw [upd_same,List.map_append]; rfl
 generalize upd (upd (upd H p1 (.lst (ns.map V.int))) p2 (.lst [.int 0])) p3 (.lst (ns.map V.int++[.int 0]))=H1 at s3 g3 ⊢
 have hS1:SqL K H1 a (ns.map V.int):=sql_keep s3 hS
 refine ⟨_,rfl,a,_,rfl,.inl hS1,1,_,rfl,?_⟩
 rw [List.length_map]
 obtain ⟨m,hm,m1,m2,m3⟩:∃ m:Int,(if (ns.length:Int) > 1 then (ns.length:Int) else 1)=m∧1≤m∧m≤63∧m≤(ns.length:Int) + 1:=⟨_,rfl,by split <;> lia,by split <;> lia,by split <;> lia⟩
 rw [hm]
 have i0:0≤k % m:=Int.emod_nonneg _ (by lia)
 have i1:k % m < m:=Int.emod_lt_of_pos _ (by lia)
 obtain ⟨v,hv,hmem⟩:=atI_mem (xs:=(ns++[0]).map V.int) i0 (by rw [List.length_map,List.length_append]; show k % m < ((ns.length + 1:Nat):Int); lia)
 obtain ⟨cell,_,rfl⟩:=List.mem_map.mp hmem
 refine ⟨_,rfl,_,rfl,_,rfl,_,_,rfl,rfl,(by show (0:Int) < m; lia),p3,_,_,_,rfl,rfl,SqL.of g3,hv,?_⟩
 have d0:0≤k / m:=Int.ediv_nonneg k0 (by lia)
 have d1:k / m≤k:=Int.ediv_le_self m k0
 refine ⟨_,rfl,_,rfl,_,_,rfl,rfl,⟨by lia,by lia⟩,?_⟩
 refine ⟨_,rfl,?_⟩
 dsimp only [gName]
 refine seq_key (fun σ' H'=>∃ (r:Int) (z:Option V),σ'=[some (.ref a),some (.int k),some (.ref p3),some (.int m),some (.int cell),some (.int (k / m)),some (.int r),z,none]∧H'=H1) ?_ ?_
 ·rintro σ' H' ⟨r,z,rfl,rfl⟩
  refine seq_key (fun σ2 H2=>σ2=[some (.ref a),some (.int k),some (.ref p3),some (.int m),some (.int cell),some (.int (k / m)),some (.int r),z,none]∧H2=H') ?_ ?_
  ·rintro σ2 H2 ⟨rfl,rfl⟩
   have e1:0≤cell % 2147483629:=Int.emod_nonneg _ (by decide)
   have e2:cell % 2147483629 < 2147483629:=Int.emod_lt_of_pos _ (by decide)
   refine ⟨_,rfl,_,_,rfl,rfl,(by show (0:Int) < _; decide),_,_,rfl,rfl,_,rfl,_,_,rfl,rfl,.inl ⟨by decide,by decide⟩,_,_,rfl,rfl,_,rfl,_,_,rfl,rfl,.inl ⟨by decide,by decide⟩,_,_,rfl,rfl,_,_,rfl,rfl,.inr ⟨by decide,by decide⟩,_,_,rfl,rfl,(by show (0:Int) < _; decide),?_⟩
   generalize hy:(cell % 2147483629 + 977 + 104729 * (k / m) + 15485863 * k) * 48271 % 2147483647=y
   have y0:0≤y:=by rw [← hy]; exact Int.emod_nonneg _ (by decide)
   have y1:y < 2147483647:=by rw [← hy]; exact Int.emod_lt_of_pos _ (by decide)
   refine ⟨_,rfl,_,rfl,_,_,rfl,rfl,.inl ⟨by lia,by lia⟩,_,rfl,_,_,rfl,rfl,.inl ⟨by decide,by decide⟩,_,_,rfl,rfl,_,rfl,_,_,rfl,rfl,.inl ⟨by decide,by decide⟩,_,_,rfl,rfl,_,_,rfl,rfl,(by show (0:Int) < _; decide),?_⟩
   refine ⟨_,rfl,_,_,rfl,rfl,.inr ⟨by decide,by decide⟩,_,_,rfl,rfl,(by show (0:Int) < _; decide),_,_,rfl,rfl,⟨by decide,by decide⟩,_,_,rfl,rfl,(by show (0:Int) < _; decide),?_⟩
   exact q _ _ (Int.emod_nonneg _ (by decide)) (Int.emod_lt_of_pos _ (by decide)) s3
  ·intro X' hX
   refine ⟨_,rfl,_,_,rfl,rfl,⟨by decide,by decide,by decide⟩,_,_,rfl,rfl,_,rfl,?_⟩
   refine ite2 (fun _=>?_) (fun _=>?_)
   ·refine ⟨_,rfl,_,_,rfl,rfl,_,rfl,?_⟩
    refine ite2 (fun _=>?_) (fun _=>?_)
    ·refine ⟨_,rfl,_,_,rfl,rfl,_,rfl,?_⟩
     refine ite2 (fun _=>?_) (fun _=>?_)
     ·exact ⟨_,rfl,_,_,rfl,rfl,(by show (0:Int) < _; decide),q _ _ (Int.emod_nonneg _ (by decide)) (Int.emod_lt_of_pos _ (by decide)) s3⟩
     ·exact hX _ _ ⟨rfl,rfl⟩
    ·exact iteF (hX _ _ ⟨rfl,rfl⟩)
   ·exact iteF (hX _ _ ⟨rfl,rfl⟩)
 ·intro X' hX
  refine ⟨_,rfl,_,_,rfl,_,rfl,(by split <;> lia),(by split <;> lia),for_range (fun i σ H'=>∃ (r:Int) (z:Option V),σ=[some (.ref a),some (.int k),some (.ref p3),some (.int m),some (.int cell),some (.int (k / m)),some (.int r),z,none]∧H'=H1) ⟨cell,none,rfl,rfl⟩ ?_ ?_⟩
  ·rintro i σ H' _ ⟨c,z,rfl,rfl⟩
   exact ⟨_,rfl,_,_,rfl,rfl,⟨by decide,by decide⟩,_,_,rfl,rfl⟩
  ·rintro σ H' h
   exact hX _ _ h
end
end Law
namespace Law
open PySem L2
section
variable {P:Program} {w:World} {K:PySem.W.Frag} {mg:Str→Option Value} {base:Heap}
noncomputable def AllP (ns:List Int) (m:Int):Prop:=∃ c,c.length=ns.length∧MetL (chosen ns c) m
theorem fm_sum {α β:Type} (f:α→List β) (g:α→Nat):∀ l:List α,(∀ x∈l,(f x).length≤g x)→(l.flatMap f).length≤(l.map g).sum
 | [],_=>Nat.le_refl _
 | x :: l,h=>by
  rw [List.flatMap_cons,List.length_append,List.map_cons,List.sum_cons]
  exact Nat.add_le_add (h x (by simp)) (fm_sum f g l fun y hy=>h y (by simp [hy]))
theorem tot_all:∀ n,n≤4→((chL n).map fun c=>bnd (c.count true)).sum≤3900:=by
 intro n h
 have:n=0∨n=1∨n=2∨n=3∨n=4:=by lia
 rcases this with rfl | rfl | rfl | rfl | rfl <;> decide +kernel
theorem all_len {ns ks:List Int} (hN:Nums ns) (nd:ks.Nodup) (h:∀ k∈ks,AllP ns k):ks.length≤3900:=by
 have h1:ks.length≤((chL ns.length).flatMap fun c=>cand' 4 (chosen ns c)).length:=nodup_len nd fun x hx=>by
  obtain ⟨c,hc,hm⟩:=h x hx
  exact List.mem_flatMap.mpr ⟨c,chL_all _ c hc,mem_cand hm 4 (Nat.le_trans (chosen_le ns c) hN.1)⟩
 have h2:=fm_sum (fun c=>cand' 4 (chosen ns c)) (fun c=>bnd (c.count true)) (chL ns.length) fun c hc=>by
  have:=cand_len (zs:=chosen ns c) (Nat.le_trans (chosen_le ns c) hN.1)
  rw [chosen_len (by rw [chL_len _ c hc])] at this
  exact this
 exact Nat.le_trans h1 (Nat.le_trans h2 (tot_all _ hN.1))
theorem all_iff {ns:List Int} {m:Int} (hN:Nums ns):AllP ns m↔∃ c∈(chL ns.length).filter (·.any id),m∈rowF (chosen ns c):=by
 have l4:∀ c,(chosen ns c).length≤4:=fun c=>Nat.le_trans (chosen_le ns c) hN.1
 constructor
 ·rintro ⟨c,hc,hm⟩
  exact ⟨c,List.mem_filter.mpr ⟨chL_all _ c hc,(chosen_ne hc.symm).mp hm.ne⟩,((row_of (l4 c)).2 m).mpr hm⟩
 ·rintro ⟨c,hc,hm⟩
  exact ⟨c,chL_len _ c (List.mem_filter.mp hc).1,((row_of (l4 c)).2 m).mp hm⟩
theorem keep_upd {H H':Hp} {p:Addr} {o:HO} (k:Keep [p] H H'):Keep [p] H (upd H' p o):=fun b u e n=>by
 rw [upd_ne (fun z=>n (by rw [z]; simp))]; exact k b u e n
noncomputable def spAll:Sp:=fun vs H Q _=>∃ (a:Addr) (ns:List Int),vs=[.ref a]∧H a=some (.tup (ns.map V.int))∧Nums ns∧∀ (p:Addr) (r:List Int) (H':Hp),Same H H'→RowOf (AllP ns) r→H' p=some (.tup (r.map V.int))→Q (.ref p) H'
noncomputable abbrev s_met_at_all:Stmt:=top 25
theorem sc_met_at_all:FnScope ["numbers"] ["numbers"] (defScope s_met_at_all):=⟨rfl,rfl,rfl,by decide +kernel,rfl,by decide +kernel,by decide +kernel⟩
theorem ok_all {f:Addr} {fd:FuncData} (F:Fun K "met_at_all" "met_at_all" s_met_at_all f fd) (B:Blt mg) (Bsorted:mg "sorted"=none) (Gtab:Def P w K mg base CX0 10 "table_of" (spTab P w)):FnOk P w K mg base CX0 11 f fd ["numbers"] spAll:=by
 refine F.ok (k:=10) sc_met_at_all (fun vs H Q E h=>?_) (fun cdv A outer s H vs Q E hr h=>?_)
 ·obtain ⟨a,ns,rfl,_⟩:=h
  rfl
 obtain ⟨a,ns,rfl,ha,hN,q⟩:=h
 refine ⟨_,(pss_one (ps_ret (pe_callTy call_tuple_of rfl B.tuple bt_tuple (pa_cons (pe_callB (call_sortSe rfl) rfl Bsorted bt_sorted (pa_cons (pe_compS (N:=["row","worth"]) rfl (csC_of [none,none] rfl (by decide +kernel) (by decide +kernel) rfl rfl) rfl (pi_valuesB (pe_def Gtab (hr.mono (by lia)) (pa_cons (pv 0) pa_nil))) (fun _ _ _ _=>(pg_name (i:=0) (show (["row","worth"]:List Str).Nodup by decide +kernel) rfl (by first | exact Or.inl rfl | exact Or.inr rfl))) (fun _ _ _ _=>(pi_tup (pv 0))) (fun _ _ _ _=>(pg_name (i:=1) (show (["row","worth"]:List Str).Nodup by decide +kernel) rfl (by first | exact Or.inl rfl | exact Or.inr rfl))) (fun _ _ _ _=>(pv 1))) pa_nil)) pa_nil)))),?_⟩
 try dsimp only [Cx.nox,kx1,kx2,kx3,kx4,kx5,kx6,kx7,kx8,kx9,kxa,kxb,kxc]
 have szl:=sizeLine_eq
 refine ⟨_,rfl,a,ns,rfl,ha,hN,fun pt kvs H1 s1 npt tb pe=>?_⟩
 obtain ⟨xs,gd,hkl,hsys,hkt,hnd⟩:=id tb
 refine ⟨pt,xs,kvs,rfl,hsys,.inl ⟨gd,fun o D hD C sx fp=>?_⟩⟩
 obtain ⟨H2,eH2⟩:∃ H2,H2=upd H1 pt (.frz o (DbO P w pt xs)):=⟨_,rfl⟩
 have k2:∀ b u,b≠pt→H1 b=some u→H2 b=some u:=fun b u nb e=>by rw [eH2,upd_ne nb]; exact e
 have fz:H2 pt=some (.frz o (DbO P w pt xs)):=by rw [eH2]; exact upd_same
 replace hD:H2 D=none:=by rw [eH2]; exact hD
 have ntp:∀ {b:Addr} {ys:List V},H1 b=some (.tup ys)→b≠pt:=fun {b ys} e z=>by rw [z,gd] at e; cases e
 have kt2:KT H1 H2:=fun b ys e=>k2 b _ (ntp e) e
 have sH2:Same H H2:=fun b u e=>k2 b u (ne_of_none e npt) (s1 _ _ e)
 have nDH:H D=none:=same_none sH2 hD
 refine outS_values (d:=pt) (o:=o) (xs:=xs) (kvs:=kvs) (fun i σ H3=>∃ (o1 o2:Option V) (ks:List Int),σ=[o1,o2]∧Keep [D] H2 H3∧H3 D=some (SeO P w D ks)∧ks.Nodup∧∀ m,m∈ks↔∃ c∈((chL ns.length).filter (·.any id)).take i,m∈rowF (chosen ns c))
  ⟨none,none,[],rfl,fun b u e n=>by rw [eH2] at e; rw [upd_ne (fun z=>n (by rw [z]; simp))]; exact e,upd_same,List.nodup_nil,fun m=>by simp⟩ (fun i σ H3 ⟨_,_,_,_,k,_⟩=>⟨k _ _ fz (fun z=>by rw [List.mem_singleton.mp z,hD] at fz; cases fz),hkt.keeps fun b ob ys e=>k _ _ (k2 b _ (fun z=>by rw [z,gd] at e; cases e) e) (fun z=>by have:=k2 b _ (fun z=>by rw [z,gd] at e; cases e) e; rw [List.mem_singleton.mp z,hD] at this; cases this)⟩) ?_ ?_
 ·rintro i k x σ H3 hi ⟨o1,o2,ks,rfl,k3,g3,nd,hm⟩
  obtain ⟨c,hc,ec,q1,rfl,gq⟩:=pr_get pe hi
  have gq2:H2 q1=some (.tup ((rowF (chosen ns c)).map V.int)):=kt2 _ _ gq
  have nqD:q1 ∉ [D]:=fun z=>by rw [List.mem_singleton.mp z,hD] at gq2; cases gq2
  have hcm:=List.mem_of_getElem? hc
  refine ⟨_,rfl,q1,rfl,⟨_,SqT.of (k3 _ _ gq2 nqD)⟩,inS_tup (K:=K) (a:=q1) (zs:=(rowF (chosen ns c)).map V.int) (fun j σ H4=>∃ (o2:Option V) (ks:List Int),σ=[some (.ref q1),o2]∧Keep [D] H2 H4∧H4 D=some (SeO P w D ks)∧ks.Nodup∧∀ m,m∈ks↔((∃ c∈((chL ns.length).filter (·.any id)).take i,m∈rowF (chosen ns c))∨m∈(rowF (chosen ns c)).take j))
   ⟨o2,ks,rfl,k3,g3,nd,fun m=>by rw [hm]; simp⟩ (fun j σ H4 ⟨_,_,_,k,_⟩=>SqT.of (k _ _ gq2 nqD)) ?_ ?_⟩
  ·rintro j y σ H4 hj ⟨o2,ks4,rfl,k4,g4,nd4,hm4⟩
   obtain ⟨m0,hm0,rfl⟩:=get_map hj
   have hall:∀ m∈ks4,AllP ns m:=fun m h=>by
    rw [all_iff hN]
    rcases (hm4 m).mp h with ⟨c',hc',h'⟩ | h'
    ·exact ⟨c',List.mem_of_mem_take hc',h'⟩
    ·exact ⟨c,hcm,List.mem_of_mem_take h'⟩
   have hlen:=all_len hN nd4 hall
   refine ⟨_,rfl,ks4,m0,g4,rfl,by lia,some (.int m0),addK ks4 m0,rfl,keep_upd k4,upd_same,addK_nodup nd4,fun m=>?_⟩
   rw [mem_addK,hm4,take_snoc hm0]
   simp only [List.mem_append,List.mem_singleton]
   exact or_assoc
  ·rintro σ H4 ⟨o2,ks4,rfl,k4,g4,nd4,hm4⟩
   rw [List.length_map,List.take_length] at hm4
   refine ⟨_,_,ks4,rfl,k4,g4,nd4,fun m=>?_⟩
   rw [hm4,take_snoc hc]
   simp only [List.mem_append,List.mem_singleton]
   constructor
   ·rintro (⟨c',h1,h2⟩ | h)
    ·exact ⟨c',.inl h1,h2⟩
    ·exact ⟨c,.inr rfl,h⟩
   ·rintro ⟨c',h1 | h1,h2⟩
    ·exact .inl ⟨c',h1,h2⟩
    ·exact .inr (by rw [← h1]; exact h2)
 ·rintro σ H3 ⟨o1,o2,ks,rfl,k3,g3,nd,hm⟩
  rw [pe.length,List.take_length] at hm
  refine ⟨D,ks,rfl,g3,fun pl ms H4 s4 _ gl hs hms=>?_⟩
  refine ⟨pl,_,rfl,.inl ⟨SqL.of gl,fun p hp=>?_⟩⟩
  refine q p ms _ (fun b u e=>Same.new hp _ _ (s4 _ _ (k3 _ _ (sH2 _ _ e) (fun z=>ne_of_none e nDH (List.mem_singleton.mp z))))) ⟨hs,fun m=>?_⟩ upd_same
  rw [hms,hm,all_iff hN]
end
end Law
namespace Law
open PySem L2
section
variable {P:Program} {w:World} {K:PySem.W.Frag} {mg:Str→Option Value} {base:Heap}
noncomputable def inI (x:Int) (r:List Int):Bool:=decide (x∈r)
theorem inV_int (x:Int):∀ r:List Int,inV (.int x) (r.map V.int)=inI x r
 | []=>rfl
 | y :: r=>by
  show (eqV (V.int y) (V.int x) || inV (.int x) (r.map V.int))=inI x (y :: r)
  rw [inV_int x r]
  unfold inI
  show ((y == x) || _)=_
  by_cases h:x=y
  ·subst h; simp
  ·have:(y == x)=false:=by rw [beq_eq_false_iff_ne]; exact fun z=>h z.symm
   rw [this]
   simp [h]
theorem flat_ints:∀ r:List Int,(r.map V.int).all flatV=true
 | []=>rfl
 | y :: r=>by rw [List.map_cons,List.all_cons,flat_ints r]; rfl
theorem upto_len (a b:Int):(upto a b).length=(b + 1 - a).toNat:=by unfold upto; rw [List.length_map,List.length_range]
theorem upto_at {a b:Int} {i:Nat} (h:i < (b + 1 - a).toNat):(upto a b)[i]?=some (a + (i:Int)):=by
 unfold upto
 rw [List.getElem?_map,List.getElem?_range h]; rfl
theorem fm_take {α β:Type} {l:List α} {i:Nat} {x:α} (h:l[i]?=some x) (f:α→List β):(l.take (i + 1)).flatMap f=(l.take i).flatMap f++f x:=by
 rw [take_snoc h,List.flatMap_append]
 simp
theorem fm_sub {α β:Type} (l:List α) (i:Nat) (f:α→List β):((l.take i).flatMap f).length≤(l.flatMap f).length:=by
 have:l.flatMap f=(l.take i).flatMap f++(l.drop i).flatMap f:=by rw [← List.flatMap_append,List.take_append_drop]
 rw [this,List.length_append]
 lia
open Classical in
noncomputable def metB (x:Int) (r:List Int):Bool:=decide (AllP r x)
open Classical in
theorem metB_of {x:Int} {r:List Int} {b:Bool} (h:b=true↔AllP r x):b=metB x r:=by
 unfold metB
 by_cases e:AllP r x
 ·rw [decide_eq_true e]; exact h.mpr e
 ·rw [decide_eq_false e]
  cases b with
  | true=>exact absurd (h.mp rfl) e
  | false=>rfl
theorem nums_row {r:List Int} {k:Nat} (hk:k < 4) (h:r.length=k∧∀ n∈r,1≤n∧n≤9):Nums r:=⟨by lia,fun n hn=>⟨(h.2 n hn).1,by have:=(h.2 n hn).2; lia⟩⟩
noncomputable def spRo:Sp:=fun vs H Q _=>∃ (k g:Nat),vs=[.int k,.int g]∧k < 4∧g < 10∧∀ (p:Addr) (ys:List V) (H':Hp),Same H H'→H p=none→H' p=some (.lst ys)→Paired (RowV H') ys (rowsP g k)→Q (.ref p) H'
noncomputable abbrev s_rows_of:Stmt:=top 36
theorem sc_rows_of:FnScope ["many","greatest","rows","at"] ["many","greatest"] (defScope s_rows_of):=⟨rfl,rfl,rfl,by decide +kernel,rfl,by decide +kernel,by decide +kernel⟩
theorem ok_ro {f:Addr} {fd:FuncData} (F:Fun K "rows_of" "rows_of" s_rows_of f fd) (B:Blt mg) (Bmax:mg "max"=none):FnOk P w K mg base CX0 1 f fd ["many","greatest"] spRo:=by
 refine F.ok (k:=0) sc_rows_of (fun vs H Q E h=>?_) (fun cdv A outer s H vs Q E hr h=>?_)
 ·obtain ⟨k,g,rfl,_⟩:=h
  rfl
 obtain ⟨kk,g,rfl,hkk,hg,q⟩:=h
 refine ⟨_,(pss_cons (ps_set (i:=2) sc_rows_of.nd rfl (by first | exact Or.inl rfl | exact Or.inr rfl) (pe_lst (pa_cons (pe_tup pa_nil) pa_nil star_tup)))
   (pss_cons (ps_for PassesOwn.never rfl (pi_range1 rfl B.range (pa_cons (pv 0) pa_nil)) (pg_name (i:=3) sc_rows_of.nd rfl (by first | exact Or.inl rfl | exact Or.inr rfl)) (pss_one (ps_set2 (i:=2) sc_rows_of.nd rfl (by first | exact Or.inl rfl | exact Or.inr rfl) (N:=["row","number","greatest"]) rfl (csC_of [none,none,some 1] rfl (by decide +kernel) (by decide +kernel) rfl rfl) rfl (pi_list (pv 2)) (fun _ _ _ _=>(pg_name (i:=0) (show (["row","number","greatest"]:List Str).Nodup by decide +kernel) rfl (by first | exact Or.inl rfl | exact Or.inr rfl))) (fun _ _ _ _=>(pi_range2 rfl B.range (pa_cons (pe_maxD rfl Bmax (pv 0)) (pa_cons (pe_op op_add (pv 2) pe_int) pa_nil)))) (fun _ _ _ _=>(pg_name (i:=1) (show (["row","number","greatest"]:List Str).Nodup by decide +kernel) rfl (by first | exact Or.inl rfl | exact Or.inr rfl))) (fun _ _ _ _=>(pe_op op_catG (pv 0) (pe_tup (pa_cons (pv 1) pa_nil)))))))
   (pss_one (ps_ret (pv 2))))),?_⟩
 try dsimp only [Cx.nox,kx1,kx2,kx3,kx4,kx5,kx6,kx7,kx8,kx9,kxa,kxb,kxc]
 have szl:=sizeLine_eq
 refine ⟨(by show 0≤sizeLine; decide),fun p0 hp0=>⟨(by show 1≤sizeLine; decide),fun p1 hp1=>?_⟩⟩
 have n1:H p1=none:=same_none (Same.new hp0) hp1
 refine ⟨_,rfl,_,rfl,by lia,by lia,for_range (n:=kk) (fun k σ H'=>∃ (z:Option V) (pf:Addr) (ys:List V),σ=[some (.int kk),some (.int g),some (.ref pf),z]∧Same H H'∧H pf=none∧H' pf=some (.lst ys)∧Paired (RowV H') ys (rowsP g k))
  ⟨none,p1,_,rfl,(Same.new hp0).trans (Same.new hp1),n1,upd_same,.cons ⟨p0,rfl,Same.new hp1 _ _ upd_same⟩ .nil⟩ ?_ ?_⟩
 ·rintro k σ H2 hk ⟨z,pf,ys,rfl,sH,nf,gf,pys⟩
  obtain ⟨sz1,sz2⟩:=rowsP_sz (g:=g) (k:=k) hg (by lia)
  have sz3:=(rowsP_sz (g:=g) (k:=k + 1) hg (by lia)).1
  refine ⟨_,rfl,pf,rfl,⟨_,SqL.of gf⟩,fun D hD C s2 fp=>?_⟩
  refine out_list (K:=K) (a:=pf) (xs:=ys) (fun i σ H3=>∃ (o1 o2:Option V) (zs:List V),σ=[o1,o2,some (.int g)]∧Same H2 H3∧H3 D=some (.lst zs)∧Paired (RowV H3) zs (((rowsP g k).take i).flatMap fun r=>(upto (loR r) g).map fun n=>r++[n]))
   ⟨none,none,[],rfl,Same.new hD,upd_same,.nil⟩ (fun i σ H3 ⟨_,_,_,_,g,_⟩=>SqL.of (g _ _ gf)) ?_ ?_
  ·rintro i x σ H3 hi ⟨o1,o2,zs,rfl,s3,g3,pz⟩
   obtain ⟨r,hx,hw⟩:=pr_get pys hi
   obtain ⟨qx,rfl,gq⟩:=hw.kt (KT.same s3)
   obtain ⟨rl,rb⟩:=sz2 r (List.mem_of_getElem? hx)
   refine ⟨_,rfl,qx,r,rfl,SqT.of gq,fun m hm=>?_⟩
   have em:m=loR r:=lo_one (fun n hn=>(rb n hn).1) hm
   subst em
   have hlo:1≤loR r:=(fold_ge r 1).1
   have hlo9:loR r≤9:=by
    rcases (fold_ge r 1).2.2 with h | h
    ·show r.foldl max 1≤9; lia
    ·exact (rb _ h).2
   have hzb:∀ (j:Nat),j≤(((g:Int) + 1 - loR r)).toNat→((((rowsP g k).take i).flatMap fun r=>(upto (loR r) g).map fun n=>r++[n])++((upto (loR r) g).take j).map fun n=>r++[n]).length≤729:=fun j hj=>by
    have h1:=fm_sub (rowsP g k) (i + 1) fun r=>(upto (loR r) g).map fun n=>r++[n]
    rw [fm_take hx,List.length_append,List.length_map,upto_len] at h1
    rw [List.length_append,List.length_map,List.length_take,upto_len]
    have h2:((rowsP g k).flatMap fun r=>(upto (loR r) g).map fun n=>r++[n]).length≤729:=sz3
    lia
   refine ⟨_,rfl,_,_,rfl,rfl,loR r,(g:Int) + 1,rfl,⟨by lia,by lia,by lia,by lia⟩,?_⟩
   refine in_range (lo:=loR r) (n:=((g:Int) + 1 - loR r).toNat) (fun j σ H4=>∃ (o2:Option V) (zs:List V),σ=[some (.ref qx),o2,some (.int g)]∧Same H2 H4∧H4 D=some (.lst zs)∧H4 qx=some (.tup (r.map V.int)) ∧
    Paired (RowV H4) zs ((((rowsP g k).take i).flatMap fun r=>(upto (loR r) g).map fun n=>r++[n])++((upto (loR r) g).take j).map fun n=>r++[n])) ⟨o2,zs,rfl,s3,g3,gq,by rw [List.take_zero,List.map_nil,List.append_nil]; exact pz⟩ ?_ ?_
   ·rintro j σ H4 hj ⟨o2,zs,rfl,s4,g4,gq4,pz4⟩
    have zl:=hzb j (by lia)
    rw [← pz4.length] at zl
    have hat:=upto_at hj
    refine ⟨_,rfl,_,rfl,(by show 1≤sizeLine; decide),fun pu hpu=>?_⟩
    have su:=Same.new (o:=.tup [.int (loR r + (j:Int))]) hpu
    refine ⟨qx,pu,_,_,rfl,rfl,su _ _ gq4,upd_same,by rw [List.length_map]; show r.length + 1≤_; lia,fun pp H5 s5 g5=>?_⟩
    have s45:=su.trans s5
    have g7:=s45 _ _ g4
    have kt7:KT H5 (upd H5 D (.lst (zs++[.ref pp]))):=KT.upd g7
    refine ⟨zs,g7,by rw [szl]; lia,_,zs++[.ref pp],rfl,same_upd (s4.trans s45) hD,upd_same,kt7 _ _ (s45 _ _ gq4),?_⟩
    rw [take_snoc hat,List.map_append,← List.append_assoc]
    refine pr_snoc (Paired.mapP pz4 fun _ _ h=>h.kt (KT.trans (KT.same s45) kt7)) ⟨pp,rfl,?_⟩
    rw [kt7 _ _ g5,List.map_append]
    rfl
   ·rintro σ H4 ⟨o2,zs,rfl,s4,g4,gq4,pz4⟩
    refine ⟨_,_,zs,rfl,s4,g4,?_⟩
    rw [← upto_len,List.take_length] at pz4
    rw [fm_take hx]
    exact pz4
  ·rintro σ H3 ⟨o1,o2,zs,rfl,s3,g3,pz⟩
   refine ⟨_,D,zs,rfl,sH.trans s3,same_none sH hD,g3,?_⟩
   have el:(rowsP g k).length=ys.length:=pys.length.symm
   rw [← el,List.take_length] at pz
   exact pz
 ·rintro σ H2 ⟨z,pf,ys,rfl,sH,nf,gf,pys⟩
  exact ⟨_,rfl,q pf ys H2 sH nf gf pys⟩
noncomputable def spRm:Sp:=fun vs H Q _=>∃ (k g:Nat) (x:Int),vs=[.int k,.int g,.int x]∧k < 4∧g < 10∧∀ (p:Addr) (ys:List V) (H':Hp),Same H H'→H p=none→H' p=some (.lst ys)→Paired (RowV H') ys ((rowsP g k).filter (metB x))→Q (.ref p) H'
noncomputable abbrev s_rows_that_meet:Stmt:=top 34
theorem sc_rows_that_meet:FnScope ["many","greatest","wish"] ["many","greatest","wish"] (defScope s_rows_that_meet):=⟨rfl,rfl,rfl,by decide +kernel,rfl,by decide +kernel,by decide +kernel⟩
theorem ok_rm {f:Addr} {fd:FuncData} (F:Fun K "rows_that_meet" "rows_that_meet" s_rows_that_meet f fd) (Gro:Def P w K mg base CX0 1 "rows_of" spRo) (Gall:Def P w K mg base CX0 11 "met_at_all" spAll):FnOk P w K mg base CX0 12 f fd ["many","greatest","wish"] spRm:=by
 refine F.ok (k:=11) sc_rows_that_meet (fun vs H Q E h=>?_) (fun cdv A outer s H vs Q E hr h=>?_)
 ·obtain ⟨k,g,x,rfl,_⟩:=h
  rfl
 obtain ⟨kk,g,x,rfl,hkk,hg,q⟩:=h
 refine ⟨_,(pss_one (ps_ret (pe_compC (N:=["row","wish"]) rfl (csC_of [none,some 2] rfl (by decide +kernel) (by decide +kernel) rfl rfl) rfl (pi_list (pe_def Gro (hr.mono (by lia)) (pa_cons (pv 0) (pa_cons (pv 1) pa_nil)))) (fun _ _ _ _=>(pg_name (i:=0) (show (["row","wish"]:List Str).Nodup by decide +kernel) rfl (by first | exact Or.inl rfl | exact Or.inr rfl))) (fun _ _ _ _=>(ptl_one (pt_cmpR op_in_seq (pv 1) (pe_def Gall (hr.mono (by lia)) (pa_cons (pv 0) pa_nil)) rfl))) (fun _ _ _ _=>(pv 0))))),?_⟩
 try dsimp only [Cx.nox,kx1,kx2,kx3,kx4,kx5,kx6,kx7,kx8,kx9,kxa,kxb,kxc]
 have szl:=sizeLine_eq
 obtain ⟨sz1,sz2⟩:=rowsP_sz hg hkk
 refine ⟨_,rfl,_,rfl,kk,g,rfl,hkk,hg,fun pf ys H1 s1 n1 gf pys=>?_⟩
 have yl:ys.length≤729:=by rw [pys.length]; exact sz1
 refine ⟨pf,rfl,⟨_,SqL.of gf⟩,fun D hD C s2 fp=>?_⟩
 refine comp_list (K:=K) (a:=pf) (xs:=ys) (fun i zs σ H3=>∃ (o1:Option V),σ=[o1,some (.int x)]∧Same H1 H3∧Paired (RowV H3) zs (((rowsP g kk).take i).filter (metB x)))
  (fun i zs σ H3 ⟨_,_,g,_⟩=>SqL.of (g _ _ gf)) ⟨none,rfl,Same.new hD,.nil⟩ ?_ ?_
 ·rintro i v zs σ H3 hi hzl ⟨o1,rfl,s3,pz⟩ g3
  obtain ⟨r,hx,hw⟩:=pr_get pys hi
  obtain ⟨qx,rfl,gq⟩:=hw.kt (KT.same s3)
  have hil:=(List.getElem?_eq_some_iff.mp hi).1
  have ef:=filt_snoc hx (metB x)
  have hN:=nums_row hkk (sz2 r (List.mem_of_getElem? hx))
  refine ⟨_,rfl,_,rfl,qx,r,rfl,gq,hN,fun pa rr H4 s4 hrr ga=>?_⟩
  refine ⟨pa,_,rfl,.inr (SqT.of ga),rfl,flat_ints rr,_,rfl,?_⟩
  rw [if_neg (by decide),inV_int]; unfold inI
  have eb:decide (x∈rr)=metB x r:=metB_of (by rw [decide_eq_true_eq]; exact hrr.2 x)
  rw [eb]
  refine ite2 (fun c=>?_) (fun c=>?_)
  ·rw [if_pos c] at ef
   have g4:=s4 _ _ g3
   have kt7:KT H4 (upd H4 D (.lst (zs++[.ref qx]))):=KT.upd g4
   refine ⟨_,rfl,zs,g4,by rw [szl]; lia,zs++[.ref qx],by rw [List.length_append]; exact Nat.succ_le_succ hzl,⟨_,rfl,same_upd (s3.trans s4) hD,?_⟩,upd_same⟩
   rw [ef]
   exact pr_snoc (Paired.mapP pz fun _ _ h=>h.kt (KT.trans (KT.same s4) kt7)) ⟨qx,rfl,kt7 _ _ (s4 _ _ gq)⟩
  ·rw [if_neg c,List.append_nil] at ef
   refine ⟨zs,Nat.le_succ_of_le hzl,⟨_,rfl,s3.trans s4,?_⟩,s4 _ _ g3⟩
   rw [ef]
   exact Paired.mapP pz fun _ _ h=>h.kt (KT.same s4)
 ·rintro zs σ H3 ⟨o1,rfl,s3,pz⟩ g3
  have el:(rowsP g kk).length=ys.length:=pys.length.symm
  rw [← el,List.take_length] at pz
  exact q D zs H3 (s1.trans s3) (same_none s1 hD) g3 pz
end
end Law
namespace Law
open PySem L2
section
variable {P:Program} {w:World} {K:PySem.W.Frag} {mg:Str→Option Value} {base:Heap}
noncomputable def spOrdI:Sp:=fun vs H Q _=>∃ n:Int,vs=[.int n]∧∀ (t:Addr) (H':Hp),Same H H'→H t=none→H' t=some (.tup ([1,n].map V.int))→Q (.ref t) H'
noncomputable abbrev s_order_of:Stmt:=top 22
theorem sc_order_of:FnScope ["form","order","waiting","part","kind","more","off"] ["form"] (defScope s_order_of):=⟨rfl,rfl,rfl,by decide +kernel,rfl,by decide +kernel,by decide +kernel⟩
theorem ok_ordI {f:Addr} {fd:FuncData} (F:Fun K "order_of" "order_of" s_order_of f fd) (B:Blt mg):FnOk P w K mg base CX0 1 f fd ["form"] spOrdI:=by
 refine F.ok (k:=0) sc_order_of (fun vs H Q E h=>?_) (fun cdv A outer s H vs Q E hr h=>?_)
 ·obtain ⟨n,rfl,_⟩:=h
  rfl
 obtain ⟨n,rfl,q⟩:=h
 refine ⟨_,(pss_cons (ps_set (i:=1) sc_order_of.nd rfl (by first | exact Or.inl rfl | exact Or.inr rfl) (pe_lst pa_nil))
   (pss_cons (ps_set (i:=2) sc_order_of.nd rfl (by first | exact Or.inl rfl | exact Or.inr rfl) (pe_lst (pa_cons (pv 0) pa_nil)))
   (pss_cons (ps_while PassesOwn.never (pt_truth (pv 2) (fun _=>rfl)) (pss_cons (ps_set (i:=3) sc_order_of.nd rfl (by first | exact Or.inl rfl | exact Or.inr rfl) (pe_bm0 PySem.F.plainAttrs_list PySem.F.slot_list_pop PySem.F.type_list_pop mt_pop (pv 2)))
   (pss_one (ps_if (pt_cmpR op_isN (pv 3) pe_non (nomark _)) (pss_one (ps_expr (pe_bm PySem.F.plainAttrs_list PySem.F.slot_list_append PySem.F.type_list_append mt_append (pv 1) (pa_cons pe_int pa_nil)))) (pss_one (ps_if (pt_val (pe_isin B.isinstance B.tuple bt_tuple (pv 3))) (pss_cons ps_never
   (pss_cons ps_never
   (pss_cons ps_never
   (pss_cons ps_never
   (pss_cons ps_never
   (pss_one ps_never)))))) (pss_cons (ps_expr (pe_bm PySem.F.plainAttrs_list PySem.F.slot_list_append PySem.F.type_list_append mt_append (pv 1) (pa_cons pe_int pa_nil)))
   (pss_one (ps_expr (pe_bm PySem.F.plainAttrs_list PySem.F.slot_list_append PySem.F.type_list_append mt_append (pv 1) (pa_cons (pv 3) pa_nil)))))))))))
   (pss_one (ps_ret (pe_callTy call_tuple_of rfl B.tuple bt_tuple (pa_cons (pv 1) pa_nil))))))),?_⟩
 try dsimp only [Cx.nox,kx1,kx2,kx3,kx4,kx5,kx6,kx7,kx8,kx9,kxa,kxb,kxc]
 have szl:=sizeLine_eq
 refine ⟨(by show 0≤sizeLine; decide),fun ps hps=>⟨_,rfl,(by show 1≤sizeLine; decide),fun pw hpw=>?_⟩⟩
 have nsw:ps≠pw:=ne_of_none upd_same hpw
 have npw:H pw=none:=same_none (Same.new hps) hpw
 have hs1:(upd (upd H ps (.lst [])) pw (.lst [.int n])) ps=some (.lst []):=by rw [upd_ne nsw,upd_same]
 have S0:Same H (upd (upd H ps (.lst [])) pw (.lst [.int n])):=(Same.new hps).trans (Same.new hpw)
 refine ⟨fun m σ H'=>∃ (o1 o2 o3 o4:Option V),σ=[some (.int n),some (.ref ps),some (.ref pw),o1,o2,o3,o4]∧Same H H'∧((m=1∧H' ps=some (.lst [])∧H' pw=some (.lst [.int n]))∨(m=0∧H' ps=some (.lst ([1,n].map V.int))∧H' pw=some (.lst []))),
  ⟨1,none,none,none,none,rfl,S0,.inl ⟨rfl,hs1,upd_same⟩⟩,?_⟩
 rintro m σ H' ⟨o1,o2,o3,o4,rfl,sH,hc⟩
 have sP:∀ (p:Addr) (o:HO) (H'':Hp),H p=none→Same H H''→Same H (upd H'' p o):=fun p o H'' hp s b u e=>by rw [upd_ne (ne_of_none e hp)]; exact s b u e
 rcases hc with ⟨rfl,h1,h2⟩ | ⟨rfl,h1,h2⟩
 ·refine ⟨_,rfl,_,.inl ⟨_,SqL.of h2,rfl⟩,?_⟩
  refine iteT ?_
  refine ⟨fun σ' H'=>∃ m',m' < 1∧∃ (o1 o2 o3 o4:Option V),σ'=[some (.int n),some (.ref ps),some (.ref pw),o1,o2,o3,o4]∧Same H H'∧((m'=1∧H' ps=some (.lst [])∧H' pw=some (.lst [.int n]))∨(m'=0∧H' ps=some (.lst ([1,n].map V.int))∧H' pw=some (.lst []))),fun σ' H' h=>h,?_⟩
  refine ⟨_,rfl,.inl ⟨rfl,_,SqL.of h2⟩,pw,_,.int n,rfl,rfl,h2,(by simp),?_⟩
  have h1a:(upd H' pw (.lst [])) ps=some (.lst []):=by rw [upd_ne nsw]; exact h1
  refine ⟨_,rfl,rfl,_,rfl,iteF ?_⟩
  refine ⟨_,rfl,_,_,TyOf.int _,kit_int_tuple _,_,rfl,iteF ?_⟩
  refine ⟨_,rfl,.inl ⟨rfl,_,SqL.of h1a⟩,ps,_,_,rfl,rfl,h1a,(by show 0 < sizeLine; decide),?_⟩
  refine ⟨_,rfl,.inl ⟨rfl,_,SqL.of upd_same⟩,_,rfl,ps,_,_,rfl,rfl,upd_same,(by show 1 < sizeLine; decide),?_⟩
  exact ⟨0,by decide,_,_,_,_,rfl,sP _ _ _ hps (sP _ _ _ hps (sP _ _ _ npw sH)),.inr ⟨rfl,upd_same,by rw [upd_ne nsw.symm,upd_ne nsw.symm]; exact upd_same⟩⟩
 ·refine ⟨_,rfl,_,.inl ⟨_,SqL.of h2,rfl⟩,iteF ?_⟩
  exact ⟨_,rfl,ps,_,rfl,.inl ⟨SqL.of h1,fun l hl=>q l _ (sH.trans (Same.new hl)) (same_none sH hl) upd_same⟩⟩
noncomputable def oneF (n x:Int):List (List Int×V):=if x=n then [([1,n],.int n)] else []
noncomputable def spFb (P:Program) (w:World):Sp:=fun vs H Q _=>∃ (t q r:Addr) (n x:Int),vs=[.ref t,.ref q,.int x]∧TbX P w H t [([true],.ref r)]∧Kb H q [true]∧H r=some (.tup ([n].map V.int)) ∧
 ∀ (p:Addr) (H':Hp),Same H H'→H p=none→Tf P w H' p (oneF n x)→Q (.ref p) H'
noncomputable abbrev s_forms_by:Stmt:=top 31
theorem sc_forms_by:FnScope ["table","choice","worth","found","one","rest","word","first","second","come"] ["table","choice","worth"] (defScope s_forms_by):=⟨rfl,rfl,rfl,by decide +kernel,rfl,by decide +kernel,by decide +kernel⟩
theorem ok_fb {f:Addr} {fd:FuncData} (F:Fun K "forms_by" "forms_by" s_forms_by f fd) (B:Blt mg) (Gord:Def P w K mg base CX0 1 "order_of" spOrdI):FnOk P w K mg base CX0 2 f fd ["table","choice","worth"] (spFb P w):=by
 refine F.ok (k:=1) sc_forms_by (fun vs H Q E h=>?_) (fun cdv A outer s H vs Q E hr h=>?_)
 ·obtain ⟨t,q,r,n,x,rfl,_⟩:=h
  rfl
 obtain ⟨t,q0,r,n,x,rfl,tx,kb,hr0,q⟩:=h
 refine ⟨_,(pss_cons (ps_if (pt_cmpR op_notIn_seq (pv 2) (pe_dgetX (hu_of hr) (pv 0) (pv 1) (fun _ _=>rfl)) rfl) (pss_one (ps_ret pe_dnewF)) pss_nil)
   (pss_cons (ps_if (pt_cmpR op_eq (pe_callB call_len_seq rfl B.len bt_len (pa_cons (pe_compC (N:=["truth"]) rfl (csC_of [none] rfl (by decide +kernel) (by decide +kernel) rfl rfl) rfl (pi_tup (pv 1)) (fun _ _ _ _=>(pg_name (i:=0) (show (["truth"]:List Str).Nodup by decide +kernel) rfl (by first | exact Or.inl rfl | exact Or.inr rfl))) (fun _ _ _ _=>(ptl_one (pt_tru (pv 0) (fun _=>rfl)))) (fun _ _ _ _=>(pv 0))) pa_nil)) pe_int (nomark _)) (pss_one (ps_ret (pe_disp1F (hu_of hr) (pe_def Gord (hr.mono (by lia)) (pa_cons (pv 2) pa_nil)) (pv 2)))) pss_nil)
   (pss_cons ps_never
   (pss_cons ps_never
   (pss_one ps_never))))),?_⟩
 try dsimp only [Cx.nox,kx1,kx2,kx3,kx4,kx5,kx6,kx7,kx8,kx9,kxa,kxb,kxc]
 have szl:=sizeLine_eq
 refine ⟨_,rfl,_,rfl,_,rfl,t,q0,_,[true],.ref r,rfl,rfl,tx,kb.rd,rfl,r,_,rfl,.inr (SqT.of hr0),rfl,flat_ints _,_,rfl,?_⟩
 rw [if_pos rfl,inV_int]
 unfold oneF at q
 unfold inI
 by_cases hx:x=n
 ·rw [if_pos hx] at q
  subst hx
  rw [show decide (x∈[x])=true by simp]
  refine iteF ?_
  refine ⟨_,rfl,q0,rfl,⟨_,.inl kb.rd⟩,fun D hD C s2 fp=>?_⟩
  refine comp_tup (K:=K) (a:=q0) (xs:=[true].map V.bl) (fun i zs σ H3=>∃ (o1:Option V),σ=[o1]∧Same H H3∧zs=(List.replicate i true).map V.bl) (fun i zs σ H3 ⟨_,_,g,_⟩=>.inl (rd_same g kb.rd)) ⟨none,rfl,Same.new hD,rfl⟩ ?_ ?_
  ·rintro i v zs σ H3 hi hzl ⟨o1,rfl,s3,rfl⟩ g3
   obtain ⟨b,hb,rfl⟩:=get_map hi
   match i,hb with
   | 0,hb =>
    have eb:b=true:=by simpa using hb.symm
    subst eb
    refine ⟨_,rfl,true,rfl,iteT ⟨_,rfl,_,g3,(by show 0 < sizeLine; decide),_,(by show 1≤1; decide),⟨_,rfl,same_upd s3 hD,rfl⟩,upd_same⟩⟩
   | i + 1,hb=>simp at hb
  ·rintro zs σ H3 ⟨o1,rfl,s3,rfl⟩ g3
   refine ⟨D,_,rfl,.inl (SqL.of g3),rfl,_,rfl,iteT ?_⟩
   refine fun p hp=>⟨_,rfl,x,rfl,fun t' H4 s4 nt gt=>⟨_,rfl,t',[1,x],rfl,s4 _ _ upd_same,.inl gt,fun H5 k5 t5=>?_⟩⟩
   have np:H p=none:=same_none s3 hp
   exact q p H5 (fun b u e=>by rw [k5 b (ne_of_none e np)]; exact s4 _ _ (Same.new hp _ _ (s3 _ _ e))) np t5
 ·rw [if_neg hx] at q
  rw [show decide (x∈[n])=false by simp [hx]]
  refine iteT ?_
  exact fun p hp hsys=>q p _ (Same.new hp) hp (Tf.new hsys)
noncomputable def spAf:Sp:=fun vs H Q _=>∃ (a:Addr) (n x:Int),vs=[.ref a,.int x]∧H a=some (.tup ([n].map V.int))∧Nums [n]∧∀ (p:Addr) (H':Hp),Same H H'→H p=none→H' p=some (.lst (if x=n then [.int n] else []))→Q (.ref p) H'
theorem tab_one {n:Int} (h:Nums [n]):(chL 1).filter (·.any id)=[[true]]∧rowF (chosen [n] [true])=[n]:=⟨rfl,row_one (h.2 n (List.mem_singleton.mpr rfl)).1⟩
noncomputable abbrev s_all_forms:Stmt:=top 29
theorem sc_all_forms:FnScope ["numbers","wish","table","found","choice"] ["numbers","wish"] (defScope s_all_forms):=⟨rfl,rfl,rfl,by decide +kernel,rfl,by decide +kernel,by decide +kernel⟩
theorem ok_af {f:Addr} {fd:FuncData} (F:Fun K "all_forms" "all_forms" s_all_forms f fd) (Bsorted:mg "sorted"=none) (Gtab:Def P w K mg base CX0 10 "table_of" (spTab P w)) (Gfb:Def P w K mg base CX0 2 "forms_by" (spFb P w)):FnOk P w K mg base CX0 11 f fd ["numbers","wish"] spAf:=by
 refine F.ok (k:=10) sc_all_forms (fun vs H Q E h=>?_) (fun cdv A outer s H vs Q E hr h=>?_)
 ·obtain ⟨a,n,x,rfl,_⟩:=h
  rfl
 obtain ⟨a,n,x,rfl,ha,hN,q⟩:=h
 refine ⟨_,(pss_cons (ps_set (i:=2) sc_all_forms.nd rfl (by first | exact Or.inl rfl | exact Or.inr rfl) (pe_def Gtab (hr.mono (by lia)) (pa_cons (pv 0) pa_nil)))
   (pss_cons (ps_set (i:=3) sc_all_forms.nd rfl (by first | exact Or.inl rfl | exact Or.inr rfl) pe_dnewF)
   (pss_cons (ps_for PassesOwn.never rfl (pi_keysB (pv 2)) (pg_name (i:=4) sc_all_forms.nd rfl (by first | exact Or.inl rfl | exact Or.inr rfl)) (pss_one (ps_expr (pe_updF (pv 3) (pe_def Gfb (hr.mono (by lia)) (pa_cons (pv 2) (pa_cons (pv 4) (pa_cons (pv 1) pa_nil))))))))
   (pss_one (ps_ret (pe_compC (N:=["order","found"]) rfl (csC_of [none,some 3] rfl (by decide +kernel) (by decide +kernel) rfl rfl) rfl (pi_list (pe_callB (call_sortF1 rfl) rfl Bsorted bt_sorted (pa_cons (pv 3) pa_nil))) (fun _ _ _ _=>(pg_name (i:=0) (show (["order","found"]:List Str).Nodup by decide +kernel) rfl (by first | exact Or.inl rfl | exact Or.inr rfl))) (fun _ _ _ _=>ptl_nil) (fun _ _ _ _=>(pe_dgetF (hu_of hr) (pv 1) (pv 0) (fun _ _=>rfl))))))))),?_⟩
 try dsimp only [Cx.nox,kx1,kx2,kx3,kx4,kx5,kx6,kx7,kx8,kx9,kxa,kxb,kxc]
 have szl:=sizeLine_eq
 refine ⟨_,rfl,a,[n],rfl,ha,hN,fun pt kvs H1 s1 npt tb pe=>?_⟩
 obtain ⟨e1,e2⟩:=tab_one hN
 rw [show [n].length=1 from rfl,e1] at pe
 cases pe with
 | @cons kv c kvs' cs' h1 h2 =>
 cases h2
 obtain ⟨ek,r,er,gr⟩:=h1
 obtain ⟨ky,vv⟩:=kv
 have ek':ky=[true]:=ek
 have er':vv=.ref r:=er
 subst ek' er'
 rw [e2] at gr
 refine fun pf hpf hsf=>?_
 have sf:=Same.new (o:=DfO P w pf []) hpf
 have s1f:=s1.trans sf
 have npf:H pf=none:=same_none s1 hpf
 obtain ⟨xs,gd,hkl,hsys,hkt,hnd⟩:=id (tb.same sf)
 have ntf:pt≠pf:=fun z=>by
  obtain ⟨_,g,_⟩:=tb
  rw [z,hpf] at g; cases g
 refine ⟨_,rfl,pt,xs,[([true],.ref r)],rfl,hsys,.inl ⟨gd,fun o=>?_⟩⟩
 obtain ⟨HA,eHA⟩:∃ HA,HA=upd (upd H1 pf (DfO P w pf [])) pt (.frz o (DbO P w pt xs)):=⟨_,rfl⟩
 have kA:∀ b u,b≠pt→(upd H1 pf (DfO P w pf [])) b=some u→HA b=some u:=fun b u nb e=>by rw [eHA,upd_ne nb]; exact e
 have fz:HA pt=some (.frz o (DbO P w pt xs)):=by rw [eHA]; exact upd_same
 have sHA:Same H HA:=fun b u e=>kA b u (ne_of_none e npt) (s1f _ _ e)
 have hkA:KTB HA [([true],.ref r)] xs:=hkt.keeps fun b ob ys e=>kA b _ (fun z=>by rw [z,gd] at e; cases e) e
 have grA:HA r=some (.tup ([n].map V.int)):=kA _ _ (fun z=>by have:=sf _ _ gr; rw [z,gd] at this; cases this) (sf _ _ gr)
 have fA:HA pf=some (DfO P w pf []):=kA _ _ ntf.symm upd_same
 refine for_keysB (d:=pt) (o:=o) (xs:=xs) (kvs:=[([true],.ref r)]) (fun i σ H'=>∃ (z4:Option V),σ=[some (.ref a),some (.int x),some (.ref pt),some (.ref pf),z4]∧Keep [pf] HA H'∧Tf P w H' pf (if i=0 then [] else oneF n x))
  ⟨none,rfl,fun b u e _=>by rw [eHA] at e; exact e,by rw [if_pos rfl]; exact ⟨[],by rw [eHA] at fA; exact fA,Nat.zero_le _,hsf,.nil,List.nodup_nil⟩⟩ (fun i σ H' ⟨_,_,k,_⟩=>?_) ?_ ?_
 ·exact ⟨k _ _ fz (fun z=>ntf (List.mem_singleton.mp z)),hkA.keeps fun b ob ys e=>k _ _ e (fun z=>by rw [List.mem_singleton.mp z,fA] at e; cases e)⟩
 ·rintro i k v qk σ H2 hi kb ⟨z4,rfl,k2,t2⟩
  match i,hi with
  | i + 1,hi=>simp at hi
  | 0,hi =>
  have hi':k=[true]∧v=.ref r:=by
   have:([true],V.ref r)=(k,v):=by simpa using hi
   exact ⟨(congrArg Prod.fst this).symm,(congrArg Prod.snd this).symm⟩
  obtain ⟨rfl,rfl⟩:=hi'
  rw [if_pos rfl] at t2
  have tx:TbX P w H2 pt [([true],.ref r)]:=⟨xs,.inr ⟨o,k2 _ _ fz (fun z=>ntf (List.mem_singleton.mp z))⟩,hkl,hsys,hkA.keeps fun b ob ys e=>k2 _ _ e (fun z=>by rw [List.mem_singleton.mp z,fA] at e; cases e),hnd⟩
  have gr2:H2 r=some (.tup ([n].map V.int)):=k2 _ _ grA (fun z=>by rw [List.mem_singleton.mp z,fA] at grA; cases grA)
  obtain ⟨xf,gf,_⟩:=id t2
  refine ⟨_,rfl,pf,rfl,t2,_,rfl,_,rfl,_,rfl,pt,qk,r,n,x,rfl,tx,kb,gr2,fun p3 H3 s3 n3 t3=>?_⟩
  have l1:(oneF n x).length≤1:=by unfold oneF; split <;> simp
  refine ⟨p3,oneF n x,rfl,(fun z=>by rw [← z,gf] at n3; cases n3),t2.same s3,t3,l1,fun H4 k4 t4=>?_⟩
  refine ⟨_,rfl,fun b u e nb=>?_,by rw [if_neg (by decide)]; exact t4⟩
  rw [k4 b (fun z=>nb (by rw [z]; exact List.mem_singleton.mpr rfl))]
  exact s3 _ _ (k2 _ _ e nb)
 ·rintro σ H2 ⟨z4,rfl,k2,t2⟩
  rw [if_neg (show ¬ ([([true],V.ref r)]:List (List Bool×V)).length=0 from Nat.one_ne_zero)] at t2
  have l1:(oneF n x).length≤1:=by unfold oneF; split <;> simp
  have sH2:Same H H2:=fun b u e=>k2 _ _ (sHA _ _ e) (fun z=>ne_of_none e npf (List.mem_singleton.mp z))
  refine ⟨_,rfl,pf,oneF n x,rfl,t2,l1,fun p hp=>?_,fun p bs H3 s3 g3 pb=>?_⟩
  ·unfold oneF at hp
   split at hp
   ·rw [List.mem_singleton.mp hp]; simp
   ·cases hp
  refine ⟨p,rfl,⟨_,SqL.of g3⟩,fun D hD C sx fp=>?_⟩
  have nD:H D=none:=same_none (sH2.trans s3) hD
  refine comp_list (K:=K) (a:=p) (xs:=bs.map V.ref) (tt:=fun _ H Q=>Q true H) (fun i zs σ H4=>∃ (o1:Option V),σ=[o1,some (.ref pf)]∧Same H3 H4∧zs=((if x=n then [V.int n] else []).take i)) (fun i zs σ H4 ⟨_,_,g,_⟩=>SqL.of (g _ _ g3)) ⟨none,rfl,Same.new hD,by rw [List.take_zero]⟩ ?_ ?_
  ·rintro i v zs σ H4 hi hzl ⟨o1,rfl,s4,rfl⟩ g4
   obtain ⟨b,hb,rfl⟩:=get_map hi
   obtain ⟨kv,hkv,rd⟩:=pr_forth pb hb
   unfold oneF at hkv
   by_cases hx:x=n
   ·rw [if_pos hx] at hkv
    match i,hkv with
    | 0,hkv =>
     have ekv:kv=([1,n],.int n):=by simpa using hkv.symm
     subst ekv
     have e1:oneF n x=[([1,n],.int n)]:=by unfold oneF; rw [if_pos hx]
     rw [e1] at t2
     refine ⟨_,rfl,_,rfl,pf,b,[([1,n],.int n)],[1,n],.int n,rfl,rfl,t2.same (s3.trans s4),rd_same (s3.trans s4) rd,by rw [valV_pos rfl],_,g4,by rw [List.take_zero,szl]; decide,_,(by rw [List.take_zero]; show 1≤1; decide),⟨_,rfl,same_upd s4 hD,?_⟩,upd_same⟩
     rw [if_pos hx]; rfl
    | i + 1,hkv=>simp at hkv
   ·rw [if_neg hx] at hkv
    cases hkv
  ·rintro zs σ H4 ⟨o1,rfl,s4,rfl⟩ g4
   have el:bs.length=(oneF n x).length:=pb.length
   refine q D H4 (sH2.trans (s3.trans s4)) nD ?_
   rw [g4,List.length_map,el]
   unfold oneF
   by_cases hx:x=n
   ·rw [if_pos hx,if_pos hx]; rfl
   ·rw [if_neg hx,if_neg hx]; rfl
noncomputable def spMf:Sp:=fun vs H Q _=>∃ (a:Addr) (n x:Int),vs=[.ref a,.int x]∧H a=some (.tup ([n].map V.int))∧Nums [n]∧∀ (H':Hp),Same H H'→Q (.int (if x=n then 1 else 0)) H'
noncomputable abbrev s_many_forms:Stmt:=top 30
theorem sc_many_forms:FnScope ["numbers","wish"] ["numbers","wish"] (defScope s_many_forms):=⟨rfl,rfl,rfl,by decide +kernel,rfl,by decide +kernel,by decide +kernel⟩
theorem ok_mf {f:Addr} {fd:FuncData} (F:Fun K "many_forms" "many_forms" s_many_forms f fd) (B:Blt mg) (Gaf:Def P w K mg base CX0 11 "all_forms" spAf):FnOk P w K mg base CX0 12 f fd ["numbers","wish"] spMf:=by
 refine F.ok (k:=11) sc_many_forms (fun vs H Q E h=>?_) (fun cdv A outer s H vs Q E hr h=>?_)
 ·obtain ⟨a,n,x,rfl,_⟩:=h
  rfl
 obtain ⟨a,n,x,rfl,ha,hN,q⟩:=h
 refine ⟨_,(pss_one (ps_ret (pe_callB call_len_seq rfl B.len bt_len (pa_cons (pe_def Gaf (hr.mono (by lia)) (pa_cons (pv 0) (pa_cons (pv 1) pa_nil))) pa_nil)))),?_⟩
 try dsimp only [Cx.nox,kx1,kx2,kx3,kx4,kx5,kx6,kx7,kx8,kx9,kxa,kxb,kxc]
 refine ⟨_,rfl,_,rfl,a,n,x,rfl,ha,hN,fun p H1 s1 np g1=>?_⟩
 refine ⟨p,_,rfl,.inl (SqL.of g1),?_⟩
 have:=q H1 s1
 by_cases hx:x=n
 ·rw [if_pos hx] at this ⊢; exact this
 ·rw [if_neg hx] at this ⊢; exact this
noncomputable def cntF (x:Int) (r:List Int):Int:=if r=[x] then 1 else 0
noncomputable def spRw:Sp:=fun vs H Q _=>∃ (g:Nat) (x m:Int),vs=[.int 1,.int g,.int x,.int m]∧g < 10∧∀ (p:Addr) (ys:List V) (H':Hp),Same H H'→H p=none→H' p=some (.lst ys)→Paired (RowV H') ys ((rowsP g 1).filter fun r=>decide (cntF x r=m))→Q (.ref p) H'
noncomputable abbrev s_rows_with:Stmt:=top 35
theorem sc_rows_with:FnScope ["many","greatest","wish","forms"] ["many","greatest","wish","forms"] (defScope s_rows_with):=⟨rfl,rfl,rfl,by decide +kernel,rfl,by decide +kernel,by decide +kernel⟩
theorem ok_rw {f:Addr} {fd:FuncData} (F:Fun K "rows_with" "rows_with" s_rows_with f fd) (Gro:Def P w K mg base CX0 1 "rows_of" spRo) (Gmf:Def P w K mg base CX0 12 "many_forms" spMf):FnOk P w K mg base CX0 13 f fd ["many","greatest","wish","forms"] spRw:=by
 refine F.ok (k:=12) sc_rows_with (fun vs H Q E h=>?_) (fun cdv A outer s H vs Q E hr h=>?_)
 ·obtain ⟨g,x,m,rfl,_⟩:=h
  rfl
 obtain ⟨g,x,m,rfl,hg,q⟩:=h
 refine ⟨_,(pss_one (ps_ret (pe_compC (N:=["row","forms","wish"]) rfl (csC_of [none,some 3,some 2] rfl (by decide +kernel) (by decide +kernel) rfl rfl) rfl (pi_list (pe_def Gro (hr.mono (by lia)) (pa_cons (pv 0) (pa_cons (pv 1) pa_nil)))) (fun _ _ _ _=>(pg_name (i:=0) (show (["row","forms","wish"]:List Str).Nodup by decide +kernel) rfl (by first | exact Or.inl rfl | exact Or.inr rfl))) (fun _ _ _ _=>(ptl_one (pt_cmpR op_eq (pe_def Gmf (hr.mono (by lia)) (pa_cons (pv 0) (pa_cons (pv 2) pa_nil))) (pv 1) (nomark _)))) (fun _ _ _ _=>(pv 0))))),?_⟩
 try dsimp only [Cx.nox,kx1,kx2,kx3,kx4,kx5,kx6,kx7,kx8,kx9,kxa,kxb,kxc]
 have szl:=sizeLine_eq
 obtain ⟨sz1,sz2⟩:=rowsP_sz hg (show 1 < 4 by decide)
 refine ⟨_,rfl,_,rfl,1,g,rfl,by decide,hg,fun pf ys H1 s1 n1 gf pys=>?_⟩
 have yl:ys.length≤729:=by rw [pys.length]; exact sz1
 refine ⟨pf,rfl,⟨_,SqL.of gf⟩,fun D hD C s2 fp=>?_⟩
 refine comp_list (K:=K) (a:=pf) (xs:=ys) (fun i zs σ H3=>∃ (o1:Option V),σ=[o1,some (.int m),some (.int x)]∧Same H1 H3∧Paired (RowV H3) zs (((rowsP g 1).take i).filter fun r=>decide (cntF x r=m)))
  (fun i zs σ H3 ⟨_,_,g,_⟩=>SqL.of (g _ _ gf)) ⟨none,rfl,Same.new hD,.nil⟩ ?_ ?_
 ·rintro i v zs σ H3 hi hzl ⟨o1,rfl,s3,pz⟩ g3
  obtain ⟨r,hx,hw⟩:=pr_get pys hi
  obtain ⟨qx,rfl,gq⟩:=hw.kt (KT.same s3)
  have hil:=(List.getElem?_eq_some_iff.mp hi).1
  have ef:=filt_snoc hx (fun r=>decide (cntF x r=m))
  obtain ⟨hr1,hr2⟩:=sz2 r (List.mem_of_getElem? hx)
  have hN:=nums_row (show 1 < 4 by decide) ⟨hr1,hr2⟩
  match r,hr1 with
  | [n],_ =>
  have ec:cntF x [n]=if x=n then 1 else 0:=by
   unfold cntF
   by_cases h:x=n
   ·rw [if_pos h,if_pos (by rw [h])]
   ·rw [if_neg h,if_neg (fun z=>h (List.singleton_inj.mp z).symm)]
  refine ⟨_,rfl,_,rfl,qx,n,x,rfl,gq,hN,fun H4 s4=>⟨_,rfl,rfl,_,rfl,?_⟩⟩
  have e2:decide (V.int (if x=n then 1 else 0)=V.int m)=decide (cntF x [n]=m):=by
   rw [ec]
   by_cases h:(if x=n then (1:Int) else 0)=m
   ·rw [decide_eq_true h,decide_eq_true (by rw [h])]
   ·rw [decide_eq_false h,decide_eq_false (fun z=>h (V.int.inj z))]
  rw [e2]
  refine ite2 (fun c=>?_) (fun c=>?_)
  ·rw [if_pos c] at ef
   have g4:=s4 _ _ g3
   have kt7:KT H4 (upd H4 D (.lst (zs++[.ref qx]))):=KT.upd g4
   refine ⟨_,rfl,zs,g4,by rw [szl]; lia,zs++[.ref qx],by rw [List.length_append]; exact Nat.succ_le_succ hzl,⟨_,rfl,same_upd (s3.trans s4) hD,?_⟩,upd_same⟩
   rw [ef]
   exact pr_snoc (Paired.mapP pz fun _ _ h=>h.kt (KT.trans (KT.same s4) kt7)) ⟨qx,rfl,kt7 _ _ (s4 _ _ gq)⟩
  ·rw [if_neg c,List.append_nil] at ef
   refine ⟨zs,Nat.le_succ_of_le hzl,⟨_,rfl,s3.trans s4,?_⟩,s4 _ _ g3⟩
   rw [ef]
   exact Paired.mapP pz fun _ _ h=>h.kt (KT.same s4)
 ·rintro zs σ H3 ⟨o1,rfl,s3,pz⟩ g3
  have el:(rowsP g 1).length=ys.length:=pys.length.symm
  rw [← el,List.take_length] at pz
  exact q D zs H3 (s1.trans s3) (same_none s1 hD) g3 pz
end
end Law
namespace Law
open PySem L2
section
variable {P:Program} {w:World} {K:PySem.W.Frag} {mg:Str→Option Value} {base:Heap}
theorem mix_perm {zs zs':List Int} (p:zs.Perm zs'):∀ {xs ys:List Int},Mix xs ys zs→∃ xs' ys',xs.Perm xs'∧ys.Perm ys'∧Mix xs' ys' zs':=by
 induction p with
 | nil=>intro xs ys h; exact ⟨xs,ys,.refl _,.refl _,h⟩
 | @cons a l l' p ih =>
  intro xs ys h
  cases h with
  | l _ h=>obtain ⟨x',y',p1,p2,m⟩:=ih h; exact ⟨a :: x',y',p1.cons a,p2,.l a m⟩
  | r _ h=>obtain ⟨x',y',p1,p2,m⟩:=ih h; exact ⟨x',a :: y',p1,p2.cons a,.r a m⟩
 | swap a b l =>
  intro xs ys h
  cases h with
  | l _ h =>
   cases h with
   | l _ h=>exact ⟨_,_,.swap a b _,.refl _,.l a (.l b h)⟩
   | r _ h=>exact ⟨_,_,.refl _,.refl _,.r a (.l b h)⟩
  | r _ h =>
   cases h with
   | l _ h=>exact ⟨_,_,.refl _,.refl _,.l a (.r b h)⟩
   | r _ h=>exact ⟨_,_,.refl _,.swap a b _,.r a (.r b h)⟩
 | trans _ _ ih1 ih2 =>
  intro xs ys h
  obtain ⟨x1,y1,p1,q1,m1⟩:=ih1 h
  obtain ⟨x2,y2,p2,q2,m2⟩:=ih2 m1
  exact ⟨x2,y2,p1.trans p2,q1.trans q2,m2⟩
theorem met_perm {zs:List Int} {w:Int} (h:MetL zs w):∀ {zs':List Int},zs.Perm zs'→MetL zs' w:=by
 induction h with
 | @one n hn=>intro zs' p; rw [List.perm_singleton.mp p.symm]; exact .one hn
 | two m hx hy _ _ d iha ihb =>
  intro zs' p
  obtain ⟨x',y',p1,p2,m'⟩:=mix_perm p m
  exact .two m' (fun z=>hx (by rw [z] at p1; exact p1.eq_nil)) (fun z=>hy (by rw [z] at p2; exact p2.eq_nil)) (iha p1) (ihb p2) d
theorem cho_perm {ns ns':List Int} (p:ns.Perm ns'):∀ {c:List Bool},c.length=ns.length→∃ c',c'.length=ns'.length∧(chosen ns c).Perm (chosen ns' c'):=by
 induction p with
 | nil=>intro c h; exact ⟨c,h,.refl _⟩
 | @cons a l l' p ih =>
  intro c h
  match c,h with
  | b :: c,h =>
   obtain ⟨c',h1,h2⟩:=ih (c:=c) (by simpa using h)
   refine ⟨b :: c',by simpa using h1,?_⟩
   cases b with
   | true=>rw [chosen_t,chosen_t]; exact h2.cons a
   | false=>rw [chosen_f,chosen_f]; exact h2
 | swap a b l =>
  intro c h
  match c,h with
  | x :: y :: c,h =>
   refine ⟨y :: x :: c,by simpa using h,?_⟩
   cases x <;> cases y <;> simp only [chosen_t,chosen_f]
   ·exact .refl _
   ·exact .refl _
   ·exact .refl _
   ·exact .swap a b _
 | trans _ _ ih1 ih2 =>
  intro c h
  obtain ⟨c1,h1,p1⟩:=ih1 h
  obtain ⟨c2,h2,p2⟩:=ih2 h1
  exact ⟨c2,h2,p1.trans p2⟩
theorem all_perm {ns ns':List Int} {m:Int} (p:ns.Perm ns') (h:AllP ns m):AllP ns' m:=by
 obtain ⟨c,hc,hm⟩:=h
 obtain ⟨c',h1,h2⟩:=cho_perm p hc
 exact ⟨c',h1,met_perm hm h2⟩
theorem cho_snoc_f:∀ (ns:List Int) (c:List Bool) (n:Int),c.length=ns.length→chosen (ns++[n]) (c++[false])=chosen ns c
 | [],[],n,_=>rfl
 | a :: ns,b :: c,n,h=>by
  have:=cho_snoc_f ns c n (by simpa using h)
  rw [List.cons_append,List.cons_append]
  cases b with
  | true=>rw [chosen_t,chosen_t,this]
  | false=>rw [chosen_f,chosen_f,this]
theorem all_more {ns:List Int} {n m:Int} (h:AllP ns m):AllP (ns++[n]) m:=by
 obtain ⟨c,hc,h⟩:=h
 exact ⟨c++[false],by rw [List.length_append,List.length_append,hc]; rfl,by rw [cho_snoc_f _ _ _ hc]; exact h⟩
theorem all_one {n x:Int} (hn:1≤n):AllP [n] x↔x=n:=by
 constructor
 ·rintro ⟨c,hc,h⟩
  match c,hc with
  | [true],_=>rw [chosen_t] at h; exact (met_one.mp h).1
  | [false],_=>rw [chosen_f] at h; exact absurd rfl h.ne
 ·rintro rfl
  exact ⟨[true],rfl,.one hn⟩
theorem all_last {n x:Int} (hx:1≤x):AllP [n,x] x:=⟨[false,true],rfl,.one hx⟩
noncomputable def leN (k:Nat) (g:Int) (r:List Int):Bool:=decide (r.getD k 0≤g)
noncomputable def okC:Bool:=((List.range 6).all fun g=>decide ((rowsP ((g + 1:Nat):Int) 3).filter (leN 2 g)=rowsP (g:Int) 3)) && (List.range 10).all fun g=>decide ((rowsP 9 2).filter (leN 1 g)=rowsP (g:Int) 2)
theorem okC_all:okC=true:=by decide +kernel
theorem cut3 {g:Nat} (hg:g < 6):(rowsP ((g + 1:Nat):Int) 3).filter (leN 2 g)=rowsP (g:Int) 3 :=
 of_decide_eq_true (List.all_eq_true.mp (Bool.and_eq_true_iff.mp okC_all).1 g (List.mem_range.mpr hg))
theorem cut2 {g:Nat} (hg:g < 10):(rowsP 9 2).filter (leN 1 g)=rowsP (g:Int) 2 :=
 of_decide_eq_true (List.all_eq_true.mp (Bool.and_eq_true_iff.mp okC_all).2 g (List.mem_range.mpr hg))
theorem mem_allR {g:Nat}:∀ {k:Nat} {r:List Int},r.length=k→(∀ n∈r,1≤n∧n≤(g:Int))→r∈allR (g:Int) k:=by
 intro k
 induction k with
 | zero=>intro r h _; rw [List.length_eq_zero_iff.mp h]; exact List.mem_singleton.mpr rfl
 | succ k ih =>
  intro r h hr
  have hne:r≠[]:=fun z=>by rw [z] at h; cases h
  have e:=List.dropLast_concat_getLast hne
  refine List.mem_flatMap.mpr ⟨r.dropLast,ih (by rw [List.length_dropLast,h]; rfl) (fun n hn=>hr n (List.dropLast_subset _ hn)),List.mem_map.mpr ⟨r.getLast hne,?_,e⟩⟩
  obtain ⟨h1,h2⟩:=hr _ (List.getLast_mem hne)
  unfold upto
  exact List.mem_map.mpr ⟨(r.getLast hne - 1).toNat,List.mem_range.mpr (by lia),by lia⟩
theorem allR_le {g:Int}:∀ {k:Nat} {r:List Int},r∈allR g k→∀ n∈r,n≤g:=by
 intro k
 induction k with
 | zero=>intro r h n hn; rw [List.mem_singleton.mp h] at hn; cases hn
 | succ k ih =>
  intro r h n hn
  obtain ⟨r',h1,h2⟩:=List.mem_flatMap.mp h
  obtain ⟨m,h3,rfl⟩:=List.mem_map.mp h2
  rcases List.mem_append.mp hn with h | h
  ·exact ih h1 n h
  ·rw [List.mem_singleton.mp h]
   unfold upto at h3
   obtain ⟨i,h4,rfl⟩:=List.mem_map.mp h3
   have:=List.mem_range.mp h4
   lia
theorem rowsP_le {g k:Nat} (hg:g < 10) (hk:k < 4) {r:List Int} (h:r∈rowsP (g:Int) k):∀ n∈r,n≤(g:Int):=by
 rw [← rows_eq hg hk] at h
 exact allR_le (List.mem_filter.mp h).1
open Classical in
theorem met_true {x:Int} {r:List Int}:metB x r=true↔AllP r x:=by
 unfold metB
 exact decide_eq_true_iff
theorem mem_rowsP {g k:Nat} (hg:g < 10) (hk:k < 4) {r:List Int} (h:r.length=k) (hr:∀ n∈r,1≤n∧n≤(g:Int)) (hs:r.Pairwise (·≤·)):r∈rowsP (g:Int) k:=by
 rw [← rows_eq hg hk]
 exact List.mem_filter.mpr ⟨mem_allR h hr,(ndB_iff r).mpr hs⟩
theorem rep_tupI {H:Hp} {p:Addr} {r:List Int} (g:H p=some (.tup (r.map V.int))):Rep K H (.tup (r.map D.int)) (.ref p):=by
 unfold Rep
 exact ⟨p,_,rfl,SqT.of g,reps_ints r⟩
theorem reps_rows {H:Hp}:∀ {zs:List V} {rs:List (List Int)},Paired (RowV H) zs rs→Reps K H (rs.map fun r=>D.tup (r.map D.int)) zs
 | _,_,.nil=>by unfold Reps; rfl
 | _,_,.cons h t=>by
  obtain ⟨q,rfl,g⟩:=h
  rw [List.map_cons]
  unfold Reps
  exact ⟨_,_,rfl,rep_tupI g,reps_rows t⟩
theorem deps_rows:∀ rs:List (List Int),deps (rs.map fun r=>D.tup (r.map D.int))≤1
 | []=>by rw [List.map_nil,deps]; decide
 | r :: rs=>by
  have:=deps_rows rs
  rw [List.map_cons,deps,D.dep,deps_ints]
  lia
theorem rep_rowsL {H:Hp} {p:Addr} {zs:List V} {rs:List (List Int)} (g:H p=some (.lst zs)) (h:Paired (RowV H) zs rs):Rep K H (.lst (rs.map fun r=>D.tup (r.map D.int))) (.ref p):=by
 unfold Rep
 exact ⟨p,_,rfl,SqL.of g,reps_rows h⟩
noncomputable def okD:Bool:=(List.range 10).all fun u=>(List.range 10).all fun n=>decide (n=0) || decide ((rowsP (u:Int) 1).filter (fun r=>decide (r=[(n:Int)]))=if (n:Int)≤(u:Int) then [[(n:Int)]] else [])
theorem okD_all:okD=true:=by decide +kernel
theorem one_filt {u:Nat} (hu:u < 10) {x:Int} (hx:1≤x):(rowsP (u:Int) 1).filter (fun r=>decide (r=[x]))=if x≤(u:Int) then [[x]] else []:=by
 rcases Int.lt_or_le x 10 with h | h
 ·obtain ⟨n,rfl⟩:∃ n:Nat,x=(n:Int):=⟨x.toNat,by lia⟩
  have:=List.all_eq_true.mp (List.all_eq_true.mp okD_all u (List.mem_range.mpr hu)) n (List.mem_range.mpr (by lia))
  rcases Bool.or_eq_true_iff.mp this with h1 | h1
  ·have:=of_decide_eq_true h1; lia
  ·exact of_decide_eq_true h1
 ·rw [if_neg (by lia),List.filter_eq_nil_iff]
  intro r hr e
  have e':=of_decide_eq_true e
  have:=((rowsP_sz hu (show 1 < 4 by decide)).2 r hr).2 x (by rw [e']; exact List.mem_singleton.mpr rfl)
  lia
theorem met_one1 {u:Nat} (hu:u < 10) {x:Int} (hx:1≤x):(rowsP (u:Int) 1).filter (metB x)=if x≤(u:Int) then [[x]] else []:=by
 rw [← one_filt hu hx]
 refine List.filter_congr fun r hr=>?_
 obtain ⟨h1,h2⟩:=(rowsP_sz hu (show 1 < 4 by decide)).2 r hr
 match r,h1 with
 | [n],_ =>
 have hn:=(h2 n (List.mem_singleton.mpr rfl)).1
 rw [Bool.eq_iff_iff,met_true,all_one hn,decide_eq_true_iff]
 constructor
 ·rintro rfl; rfl
 ·intro h; exact (List.singleton_inj.mp h).symm
theorem with_one1 {u:Nat} (hu:u < 10) {x:Int} (hx:1≤x):(rowsP (u:Int) 1).filter (fun r=>decide (cntF x r=1))=if x≤(u:Int) then [[x]] else []:=by
 rw [← one_filt hu hx]
 refine List.filter_congr fun r hr=>?_
 unfold cntF
 by_cases e:r=[x]
 ·rw [if_pos e,decide_eq_true e]; rfl
 ·rw [if_neg e,decide_eq_false e]; rfl
theorem with_non1 {u:Nat} {x:Int}:(rowsP (u:Int) 1).filter (fun r=>decide (cntF x r=0))=((upto 1 u).filter (fun n=>!decide (n=x))).map fun n=>[n]:=by
 have e:rowsP (u:Int) 1=(upto 1 u).map fun n=>[n]:=by
  show ([[]]:List (List Int)).flatMap _=_
  rw [List.flatMap_cons,List.flatMap_nil,List.append_nil]
  rfl
 rw [e,List.filter_map]
 congr 1
 refine List.filter_congr fun n _=>?_
 show decide (cntF x [n]=0)=_
 unfold cntF
 by_cases h:n=x
 ·subst h; rw [if_pos rfl]; simp
 ·rw [if_neg (fun z=>h (List.singleton_inj.mp z)),decide_eq_false h]; rfl
theorem nextI {D:Ends} {σ:St} {H:Hp} (h:D.nx σ H):tNext D σ H:=h
noncomputable abbrev s_law:Stmt:=top 39
theorem sc_law:FnScope ["script","number","wish","greatest","longer","row","more","wide","pairs","alone","beside"] ["script"] (defScope s_law):=⟨rfl,rfl,rfl,by decide +kernel,rfl,by decide +kernel,by decide +kernel⟩
theorem ok_law {f:Addr} {fd:FuncData} (F:Fun K "law" "law" s_law f fd) (B:Blt mg) (Bmin:mg "min"=none) (Bsorted:mg "sorted"=none) (Gnum:Def P w K mg base CX0 1 "_law_number" (spNum K)) (Grm:Def P w K mg base CX0 12 "rows_that_meet" spRm) (Grw:Def P w K mg base CX0 13 "rows_with" spRw):FnOk P w K mg base CX0 30 f fd ["script"] (spLaw K):=by
 refine F.ok (k:=29) sc_law (fun vs H Q E h=>?_) (fun cdv A outer s H vs Q E hr h=>?_)
 ·obtain ⟨a,xs,rfl,_⟩:=h
  rfl
 obtain ⟨a,xs,rfl,hS,hl,q⟩:=h
 refine ⟨_,(pss_cons (ps_set (i:=1) sc_law.nd rfl (by first | exact Or.inl rfl | exact Or.inr rfl) (pe_def Gnum (hr.mono (by lia)) (pa_cons (pv 0) (pa_cons pe_int pa_nil))))
   (pss_cons (ps_set (i:=2) sc_law.nd rfl (by first | exact Or.inl rfl | exact Or.inr rfl) (pe_op op_add pe_int (pe_op op_mod (pe_def Gnum (hr.mono (by lia)) (pa_cons (pv 0) (pa_cons pe_int pa_nil))) (pe_ix ix_list (pe_lst (pa_cons pe_int (pa_cons pe_int (pa_cons pe_int (pa_cons pe_int pa_nil))))) (pe_op op_mod (pv 1) pe_int) (fun _ _=>rfl)))))
   (pss_cons (ps_set (i:=3) sc_law.nd rfl (by first | exact Or.inl rfl | exact Or.inr rfl) (pe_op op_add pe_int (pe_op op_mod (pe_op op_fdiv (pv 1) pe_int) pe_int)))
   (pss_cons (ps_set (i:=4) sc_law.nd rfl (by first | exact Or.inl rfl | exact Or.inr rfl) (pe_def Grm (hr.mono (by lia)) (pa_cons pe_int (pa_cons (pv 3) (pa_cons (pv 2) pa_nil)))))
   (pss_cons (ps_if (pt_cmpR (op_neS (hu60 hr)) (pe_compC (N:=["row","greatest"]) rfl (csC_of [none,some 3] rfl (by decide +kernel) (by decide +kernel) rfl rfl) rfl (pi_list (pe_def Grm (hr.mono (by lia)) (pa_cons pe_int (pa_cons (pe_op op_add (pv 3) pe_int) (pa_cons (pv 2) pa_nil))))) (fun _ _ _ _=>(pg_name (i:=0) (show (["row","greatest"]:List Str).Nodup by decide +kernel) rfl (by first | exact Or.inl rfl | exact Or.inr rfl))) (fun _ _ _ _=>(ptl_one (pt_cmpR op_le (pe_ix ix_tup (pv 0) pe_int (fun _ _=>rfl)) (pv 1) (nomark _)))) (fun _ _ _ _=>(pv 0))) (pv 4) (nomark _)) (pss_one (ps_ret pe_bl)) pss_nil)
   (pss_cons (ps_for PassesOwn.never rfl (pi_list (pe_def Grm (hr.mono (by lia)) (pa_cons pe_int (pa_cons (pv 3) (pa_cons (pv 2) pa_nil))))) (pg_name (i:=5) sc_law.nd rfl (by first | exact Or.inl rfl | exact Or.inr rfl)) (pss_one (ps_for PassesOwn.never rfl (pi_range2 rfl B.range (pa_cons pe_int (pa_cons (pe_op op_add (pv 3) pe_int) pa_nil))) (pg_name (i:=6) sc_law.nd rfl (by first | exact Or.inl rfl | exact Or.inr rfl)) (pss_one (ps_if (pt_cmpR (op_notInR (hu60 hr)) (pe_callTy call_tuple_of rfl B.tuple bt_tuple (pa_cons (pe_callB call_sortIT rfl Bsorted bt_sorted (pa_cons (pe_op op_catG (pv 5) (pe_tup (pa_cons (pv 6) pa_nil))) pa_nil)) pa_nil)) (pv 4) rfl) (pss_one (ps_ret pe_bl)) pss_nil)))))
   (pss_cons (ps_set (i:=7) sc_law.nd rfl (by first | exact Or.inl rfl | exact Or.inr rfl) (pe_op op_add pe_int (pe_op op_mod (pe_op op_fdiv (pv 1) pe_int) pe_int)))
   (pss_cons (ps_set (i:=8) sc_law.nd rfl (by first | exact Or.inl rfl | exact Or.inr rfl) (pe_def Grm (hr.mono (by lia)) (pa_cons pe_int (pa_cons (pv 7) (pa_cons (pv 2) pa_nil)))))
   (pss_cons (ps_if (pt_cmpR (op_neS (hu60 hr)) (pe_compC (N:=["row","wide"]) rfl (csC_of [none,some 7] rfl (by decide +kernel) (by decide +kernel) rfl rfl) rfl (pi_list (pe_def Grm (hr.mono (by lia)) (pa_cons pe_int (pa_cons pe_int (pa_cons (pv 2) pa_nil))))) (fun _ _ _ _=>(pg_name (i:=0) (show (["row","wide"]:List Str).Nodup by decide +kernel) rfl (by first | exact Or.inl rfl | exact Or.inr rfl))) (fun _ _ _ _=>(ptl_one (pt_cmpR op_le (pe_ix ix_tup (pv 0) pe_int (fun _ _=>rfl)) (pv 1) (nomark _)))) (fun _ _ _ _=>(pv 0))) (pv 8) (nomark _)) (pss_one (ps_ret pe_bl)) pss_nil)
   (pss_cons (ps_set (i:=9) sc_law.nd rfl (by first | exact Or.inl rfl | exact Or.inr rfl) (pe_op op_repL (pe_lst (pa_cons (pe_tup (pa_cons (pv 2) pa_nil)) pa_nil star_tup)) (pe_callTy call_int1 rfl B.int bt_int (pa_cons (pe_cmpR op_le (pv 2) (pv 7) (nomark _)) pa_nil))))
   (pss_cons (ps_if (PW.pt (pw_or (pt_cmpR (op_neS (hu60 hr)) (pe_def Grm (hr.mono (by lia)) (pa_cons pe_int (pa_cons (pv 7) (pa_cons (pv 2) pa_nil)))) (pv 9) (nomark _)) (pw_or1 (pt_cmpR (op_neS (hu60 hr)) (pe_def Grw (hr.mono (by lia)) (pa_cons pe_int (pa_cons (pv 7) (pa_cons (pv 2) (pa_cons pe_int pa_nil))))) (pv 9) (nomark _))))) (pss_one (ps_ret pe_bl)) pss_nil)
   (pss_cons (ps_setC (i:=10) sc_law.nd rfl (by first | exact Or.inl rfl | exact Or.inr rfl) (N:=["one","wish"]) rfl (csC_of [none,some 2] rfl (by decide +kernel) (by decide +kernel) rfl rfl) rfl (pi_range2 rfl B.range (pa_cons pe_int (pa_cons (pe_op op_add (pe_callB (call_min2 rfl) rfl Bmin bt_min (pa_cons (pv 2) (pa_cons pe_int pa_nil))) pe_int) pa_nil))) (fun _ _ _ _=>(pg_name (i:=0) (show (["one","wish"]:List Str).Nodup by decide +kernel) rfl (by first | exact Or.inl rfl | exact Or.inr rfl))) (fun _ _ _ _=>ptl_nil) (fun _ _ _ _=>(pe_tup (pa_cons (pv 0) (pa_cons (pv 1) pa_nil)))))
   (pss_cons (ps_if (PW.pt (pw_and (pt_cmpR op_le (pv 2) (pv 7) (nomark _)) (pw_and1 (pt_cmpR (op_neNil (hu60 hr)) (pe_compC (N:=["pair","pairs"]) rfl (csC_of [none,some 8] rfl (by decide +kernel) (by decide +kernel) rfl rfl) rfl (pi_list (pv 10)) (fun _ _ _ _=>(pg_name (i:=0) (show (["pair","pairs"]:List Str).Nodup by decide +kernel) rfl (by first | exact Or.inl rfl | exact Or.inr rfl))) (fun _ _ _ _=>(ptl_one (pt_cmpR (op_notInR (hu60 hr)) (pv 0) (pv 1) rfl))) (fun _ _ _ _=>(pv 0))) (pe_lst pa_nil) (nomark _))))) (pss_one (ps_ret pe_bl)) pss_nil)
   (pss_one (ps_ret (pe_cmpR (op_eqS (hu60 hr)) (pe_def Grw (hr.mono (by lia)) (pa_cons pe_int (pa_cons (pv 7) (pa_cons (pv 2) (pa_cons pe_int pa_nil))))) (pe_compC (N:=["one","wish"]) rfl (csC_of [none,some 2] rfl (by decide +kernel) (by decide +kernel) rfl rfl) rfl (pi_range2 rfl B.range (pa_cons pe_int (pa_cons (pe_op op_add (pv 7) pe_int) pa_nil))) (fun _ _ _ _=>(pg_name (i:=0) (show (["one","wish"]:List Str).Nodup by decide +kernel) rfl (by first | exact Or.inl rfl | exact Or.inr rfl))) (fun _ _ _ _=>(ptl_one (pt_cmpR op_ne (pv 0) (pv 1) (nomark _)))) (fun _ _ _ _=>(pe_tup (pa_cons (pv 0) pa_nil)))) (nomark _))))))))))))))))),?_⟩
 try dsimp only [Cx.nox,kx1,kx2,kx3,kx4,kx5,kx6,kx7,kx8,kx9,kxa,kxb,kxc]
 have szl:=sizeLine_eq
 refine ⟨_,rfl,a,xs,0,rfl,hS,hl,by decide,by decide,fun nu H1 u0 u1 s1=>?_⟩
 refine ⟨_,rfl,a,xs,1,rfl,sql_keep s1 hS,hl,by decide,by decide,fun r2 H2 v0 v1 s2=>?_⟩
 refine ⟨(by show 4≤sizeLine; decide),fun p3 hp3=>?_⟩
 have s3:=Same.new (o:=.lst ([9,30,100,1000000].map V.int)) hp3
 have g3:(upd H2 p3 (.lst ([9,30,100,1000000].map V.int))) p3=some (.lst ([9,30,100,1000000].map V.int)):=upd_same
 obtain ⟨v8,hv8,hmem8⟩:=atI_mem (xs:=[9,30,100,1000000].map V.int) (r:=nu % 4) (Int.emod_nonneg _ (by decide)) (Int.emod_lt_of_pos _ (by decide))
 obtain ⟨d8,hd8,rfl⟩:=List.mem_map.mp hmem8
 have hd8b:9≤d8∧d8≤1000000:=by simp only [List.mem_cons,List.not_mem_nil,or_false] at hd8; lia
 refine ⟨_,rfl,_,_,rfl,rfl,(by show (0:Int) < _; decide),p3,_,_,_,rfl,rfl,SqL.of g3,hv8,_,_,rfl,rfl,(by show (0:Int) < d8; lia),_,_,rfl,rfl,?_⟩
 have w0:0≤r2 % d8:=Int.emod_nonneg _ (by lia)
 have w1:r2 % d8 < d8:=Int.emod_lt_of_pos _ (by lia)
 obtain ⟨x,ex⟩:∃ x:Int,1 + r2 % d8=x:=⟨_,rfl⟩
 have xb:1≤x∧x≤1000000:=by lia
 dsimp only [gName]
 rw [ex]
 refine ⟨_,rfl,_,_,rfl,rfl,⟨by decide,by decide⟩,_,_,rfl,rfl,(by show (0:Int) < _; decide),_,_,rfl,rfl,?_⟩
 obtain ⟨g,eg,g1,g5⟩:∃ g:Nat,1 + nu / 4 % 5=(g:Int)∧1≤g∧g≤5:=⟨(1 + nu / 4 % 5).toNat,by lia,by lia,by lia⟩
 dsimp only [gName]
 rw [eg]
 refine ⟨_,rfl,_,rfl,3,g,x,rfl,by decide,by lia,fun pl yl H4 s4 n4 gl pyl=>?_⟩
 have sH4:Same H H4:=s1.trans (s2.trans (s3.trans s4))
 clear s1 s2 s3 g3 hp3 hv8 hmem8
 refine ⟨_,rfl,_,_,rfl,rfl,_,rfl,3,g + 1,x,by rw [Int.natCast_succ]; rfl,by decide,by lia,fun pm ym H5 s5 n5 gm pym=>?_⟩
 obtain ⟨sz1,sz2⟩:=rowsP_sz (g:=g + 1) (k:=3) (by lia) (by decide)
 have mlen:ym.length≤729:=by rw [pym.length]; exact Nat.le_trans (List.length_filter_le _ _) sz1
 refine ⟨pm,rfl,⟨_,SqL.of gm⟩,fun D hD C sx fp=>?_⟩
 refine comp_list (K:=K) (a:=pm) (xs:=ym) (fun i zs σ H6=>∃ (o1:Option V),σ=[o1,some (.int (g:Int))]∧Same H5 H6∧Paired (RowV H6) zs ((((rowsP ((g + 1:Nat):Int) 3).filter (metB x)).take i).filter (leN 2 g)))
  (fun i zs σ H6 ⟨_,_,g,_⟩=>SqL.of (g _ _ gm)) ⟨none,rfl,Same.new hD,.nil⟩ ?_ ?_
 ·rintro i v zs σ H6 hi hzl ⟨o1,rfl,s6,pz⟩ g6
  obtain ⟨r,hx,hw⟩:=pr_get pym hi
  obtain ⟨qx,rfl,gq⟩:=hw.kt (KT.same s6)
  have hil:=(List.getElem?_eq_some_iff.mp hi).1
  have ef:=filt_snoc hx (leN 2 g)
  obtain ⟨hr1,hr2⟩:=sz2 r (List.mem_filter.mp (List.mem_of_getElem? hx)).1
  match r,hr1 with
  | [n1,n2,n3],_ =>
  refine ⟨_,rfl,qx,_,_,_,rfl,rfl,SqT.of gq,atI_nat (j:=2) rfl,_,rfl,_,_,rfl,rfl,?_⟩
  have e2:decide (n3≤(g:Int))=leN 2 g [n1,n2,n3]:=rfl
  refine ⟨_,rfl,?_⟩
  rw [e2]
  refine ite2 (fun c=>?_) (fun c=>?_)
  ·rw [if_pos c] at ef
   have kt7:KT H6 (upd H6 D (.lst (zs++[.ref qx]))):=KT.upd g6
   refine ⟨_,rfl,zs,g6,by rw [szl]; lia,zs++[.ref qx],by rw [List.length_append]; exact Nat.succ_le_succ hzl,⟨_,rfl,same_upd s6 hD,?_⟩,upd_same⟩
   rw [ef]
   exact pr_snoc (Paired.mapP pz fun _ _ h=>h.kt kt7) ⟨qx,rfl,kt7 _ _ gq⟩
  ·rw [if_neg c,List.append_nil] at ef
   refine ⟨zs,Nat.le_succ_of_le hzl,⟨_,rfl,s6,?_⟩,g6⟩
   rw [ef]
   exact pz
 rintro zs σ H6 ⟨o1,rfl,s6,pz⟩ g6
 have el:((rowsP ((g + 1:Nat):Int) 3).filter (metB x)).length=ym.length:=pym.length.symm
 rw [← el,List.take_length,List.filter_filter] at pz
 have e3:(rowsP ((g + 1:Nat):Int) 3).filter (fun a=>leN 2 g a && metB x a)=(rowsP (g:Int) 3).filter (metB x):=by
  rw [← cut3 (g:=g) (by lia),List.filter_filter]
  congr 1
  funext r
  rw [Bool.and_comm]
 rw [e3] at pz
 have s46:=s5.trans s6
 have gl6:=s46 _ _ gl
 have pl6:Paired (RowV H6) yl ((rowsP (g:Int) 3).filter (metB x)):=Paired.mapP pyl fun _ _ h=>h.kt (KT.same s46)
 refine ⟨_,rfl,_,_,.inl ⟨rep_rowsL g6 pz,rep_rowsL gl6 pl6⟩,?_,_,rfl,?_⟩
 ·have:=deps_rows ((rowsP (g:Int) 3).filter (metB x)); lia
 rw [if_pos rfl,eqDs_refl]
 refine iteF ?_
 have sH6:=sH4.trans s46
 clear s5 s6 s46 pz g6 gm pym hD
 refine nextI ?_
 refine ⟨_,rfl,_,rfl,2,g,x,rfl,by decide,by lia,fun p7 y7 H7 s7 n7 g7 py7=>?_⟩
 obtain ⟨tz1,tz2⟩:=rowsP_sz (g:=g) (k:=2) (by lia) (by decide)
 have gl7:=s7 _ _ gl6
 have pl7:Paired (RowV H7) yl ((rowsP (g:Int) 3).filter (metB x)):=Paired.mapP pl6 fun _ _ h=>h.kt (KT.same s7)
 have sH7:=sH6.trans s7
 clear s7 gl6 pl6 sH6 gl pyl sH4
 refine ⟨p7,rfl,⟨_,SqL.of g7⟩,for_list (K:=K) (a:=p7) (xs:=y7) (fun i σ H'=>∃ (z5 z6:Option V),σ=[some (.ref a),some (.int nu),some (.int x),some (.int (g:Int)),some (.ref pl),z5,z6,none,none,none,none]∧Same H7 H')
  ⟨none,none,rfl,Same.refl _⟩ (fun i σ H' _ ⟨_,_,_,k⟩=>SqL.of (k _ _ g7)) ?_ ?_⟩
 ·rintro i v σ H8 hi ⟨z5,z6,rfl,s8⟩
  obtain ⟨r,hx,hw⟩:=pr_get py7 hi
  obtain ⟨qx,rfl,gq⟩:=hw.kt (KT.same s8)
  obtain ⟨hrm,hrx⟩:=List.mem_filter.mp (List.mem_of_getElem? hx)
  obtain ⟨hr1,hr2⟩:=tz2 r hrm
  refine ⟨_,rfl,_,_,rfl,rfl,1,((g + 1:Nat):Int),by rw [Int.natCast_succ],⟨by lia,by lia,by lia,by lia⟩,?_⟩
  refine for_range (n:=(((g + 1:Nat):Int) - 1).toNat) (fun j σ H'=>∃ (z6:Option V),σ=[some (.ref a),some (.int nu),some (.int x),some (.int (g:Int)),some (.ref pl),some (.ref qx),z6,none,none,none,none]∧Same H8 H')
   ⟨_,rfl,Same.refl _⟩ ?_ ?_
  ·rintro j σ H9 hj ⟨z6,rfl,s9⟩
   refine ⟨_,rfl,_,rfl,(by show 1≤sizeLine; decide),fun pu hpu=>?_⟩
   have su:=Same.new (o:=.tup [.int (1 + (j:Int))]) hpu
   have s8u:=s9.trans su
   refine ⟨qx,pu,_,_,rfl,rfl,s8u _ _ gq,upd_same,by rw [List.length_map]; show r.length + 1≤_; lia,fun pc H10 s10 g10=>?_⟩
   have g10':H10 pc=some (.tup ((r++[1 + (j:Int)]).map V.int)):=by rw [g10,List.map_append]; rfl
   refine ⟨pc,r++[1 + (j:Int)],rfl,SqT.of g10',by rw [List.length_append]; show r.length + 1 < 64; lia,fun ps ms H11 s11 g11 pm sm=>?_⟩
   refine ⟨ps,_,rfl,.inl ⟨SqL.of g11,fun pt hpt=>?_⟩⟩
   have st:=Same.new (o:=.tup (ms.map V.int)) hpt
   have s7t:=s8.trans (s8u.trans (s10.trans (s11.trans st)))
   have hmem:ms∈(rowsP (g:Int) 3).filter (metB x):=by
    refine List.mem_filter.mpr ⟨mem_rowsP (by lia) (by decide) (by rw [pm.length_eq,List.length_append,hr1]; rfl) (fun n hn=>?_) sm,met_true.mpr (all_perm pm.symm (all_more (met_true.mp hrx)))⟩
    rcases List.mem_append.mp (pm.mem_iff.mp hn) with h | h
    ·exact ⟨(hr2 n h).1,rowsP_le (by lia) (by decide) hrm n h⟩
    ·rw [List.mem_singleton.mp h]; lia
   refine ⟨_,rfl,pl,yl,ms,(rowsP (g:Int) 3).filter (metB x),rfl,s7t _ _ gl7,⟨pt,rfl,upd_same⟩,Paired.mapP pl7 fun _ _ h=>h.kt (KT.same s7t),?_⟩
   rw [decide_eq_true hmem]
   exact ⟨_,rfl,iteF ⟨_,rfl,s9.trans (su.trans (s10.trans (s11.trans st)))⟩⟩
  ·rintro σ H9 ⟨z6,rfl,s9⟩
   exact ⟨_,_,rfl,s8.trans s9⟩
 rintro σ H8 ⟨z5,z6,rfl,s8⟩
 have sH8:=sH7.trans s8
 clear s8 sH7 gl7 pl7 g7 py7
 refine ⟨_,rfl,_,_,rfl,rfl,⟨by decide,by decide⟩,_,_,rfl,rfl,(by show (0:Int) < _; decide),_,_,rfl,rfl,?_⟩
 obtain ⟨u,eu,u1,u9⟩:∃ u:Nat,1 + nu / 20 % 9=(u:Int)∧1≤u∧u≤9:=⟨(1 + nu / 20 % 9).toNat,by lia,by lia,by lia⟩
 dsimp only [gName]
 rw [eu]
 refine ⟨_,rfl,_,rfl,2,u,x,rfl,by decide,by lia,fun pp yp H9 s9 n9 gp pyp=>?_⟩
 refine ⟨_,rfl,2,9,x,rfl,by decide,by decide,fun pm ym H10 s10 n10 gm pym=>?_⟩
 obtain ⟨sz1,sz2⟩:=rowsP_sz (g:=9) (k:=2) (by decide) (by decide)
 have mlen:ym.length≤729:=by rw [pym.length]; exact Nat.le_trans (List.length_filter_le _ _) sz1
 refine ⟨pm,rfl,⟨_,SqL.of gm⟩,fun D hD C sx fp=>?_⟩
 refine comp_list (K:=K) (a:=pm) (xs:=ym) (fun i zs σ H6=>∃ (o1:Option V),σ=[o1,some (.int (u:Int))]∧Same H10 H6∧Paired (RowV H6) zs ((((rowsP ((9:Nat):Int) 2).filter (metB x)).take i).filter (leN 1 u)))
  (fun i zs σ H6 ⟨_,_,g,_⟩=>SqL.of (g _ _ gm)) ⟨none,rfl,Same.new hD,.nil⟩ ?_ ?_
 ·rintro i v zs σ H6 hi hzl ⟨o1,rfl,s6,pz⟩ g6
  obtain ⟨r,hx,hw⟩:=pr_get pym hi
  obtain ⟨qx,rfl,gq⟩:=hw.kt (KT.same s6)
  have hil:=(List.getElem?_eq_some_iff.mp hi).1
  have ef:=filt_snoc hx (leN 1 u)
  obtain ⟨hr1,hr2⟩:=sz2 r (List.mem_filter.mp (List.mem_of_getElem? hx)).1
  match r,hr1 with
  | [n1,n2],_ =>
  refine ⟨_,rfl,qx,_,_,_,rfl,rfl,SqT.of gq,atI_nat (j:=1) rfl,_,rfl,_,_,rfl,rfl,?_⟩
  have e2:decide (n2≤(u:Int))=leN 1 u [n1,n2]:=rfl
  refine ⟨_,rfl,?_⟩
  rw [e2]
  refine ite2 (fun c=>?_) (fun c=>?_)
  ·rw [if_pos c] at ef
   have kt7:KT H6 (upd H6 D (.lst (zs++[.ref qx]))):=KT.upd g6
   refine ⟨_,rfl,zs,g6,by rw [szl]; lia,zs++[.ref qx],by rw [List.length_append]; exact Nat.succ_le_succ hzl,⟨_,rfl,same_upd s6 hD,?_⟩,upd_same⟩
   rw [ef]
   exact pr_snoc (Paired.mapP pz fun _ _ h=>h.kt kt7) ⟨qx,rfl,kt7 _ _ gq⟩
  ·rw [if_neg c,List.append_nil] at ef
   refine ⟨zs,Nat.le_succ_of_le hzl,⟨_,rfl,s6,?_⟩,g6⟩
   rw [ef]
   exact pz
 rintro zs σ H11 ⟨o1,rfl,s11,pz⟩ g11
 have el:((rowsP ((9:Nat):Int) 2).filter (metB x)).length=ym.length:=pym.length.symm
 rw [← el,List.take_length,List.filter_filter] at pz
 have e3:(rowsP ((9:Nat):Int) 2).filter (fun a=>leN 1 u a && metB x a)=(rowsP (u:Int) 2).filter (metB x):=by
  rw [← cut2 (g:=u) (by lia),List.filter_filter]
  congr 1
  funext r
  rw [Bool.and_comm]
 rw [e3] at pz
 have s9b:=s10.trans s11
 have gp11:=s9b _ _ gp
 have pp11:Paired (RowV H11) yp ((rowsP (u:Int) 2).filter (metB x)):=Paired.mapP pyp fun _ _ h=>h.kt (KT.same s9b)
 refine ⟨_,rfl,_,_,.inl ⟨rep_rowsL g11 pz,rep_rowsL gp11 pp11⟩,?_,_,rfl,?_⟩
 ·have:=deps_rows ((rowsP (u:Int) 2).filter (metB x)); lia
 rw [if_pos rfl,eqDs_refl]
 refine iteF (nextI ?_)
 have sH11:=sH8.trans (s9.trans s9b)
 clear s9 s10 s11 s9b pz g11 gm pym hD gp pyp sH8
 refine ⟨_,rfl,(by show 1≤sizeLine; decide),fun p12 hp12=>⟨(by show 1≤sizeLine; decide),fun p13 hp13=>?_⟩⟩
 have s12:=Same.new (o:=.tup [.int x]) hp12
 have s13:=Same.new (o:=.lst [.ref p12]) hp13
 have s1b:=s12.trans s13
 obtain ⟨nn,enn,nn9,pal⟩:∃ nn:Nat,(V.int (if decide (x≤(u:Int))=true then 1 else 0))=V.int nn∧nn < 1000∧∀ H':Hp,H' p12=some (.tup ([x].map V.int))→Paired (RowV H') ((List.replicate nn [V.ref p12]).flatten) (if x≤(u:Int) then [[x]] else []):=by
  by_cases h:x≤(u:Int)
  ·exact ⟨1,by rw [decide_eq_true h]; rfl,by decide,fun H' e=>by rw [if_pos h]; exact .cons ⟨p12,rfl,e⟩ .nil⟩
  ·exact ⟨0,by rw [decide_eq_false h]; rfl,by decide,fun H' e=>by rw [if_neg h]; exact .nil⟩
 refine ⟨_,rfl,_,rfl,_,_,rfl,rfl,.inr ⟨_,rfl,p13,_,nn,rfl,enn,upd_same,by simp,nn9,(by show 1≤1000; decide),fun p14 hp14=>?_⟩⟩
 have s14:=Same.new (o:=.lst ((List.replicate nn [V.ref p12]).flatten)) hp14
 have g14:(upd (upd (upd H11 p12 (.tup [.int x])) p13 (.lst [.ref p12])) p14 (.lst ((List.replicate nn [V.ref p12]).flatten))) p14=some (.lst ((List.replicate nn [V.ref p12]).flatten)):=upd_same
 have g12:(upd (upd (upd H11 p12 (.tup [.int x])) p13 (.lst [.ref p12])) p14 (.lst ((List.replicate nn [V.ref p12]).flatten))) p12=some (.tup ([x].map V.int)):=s14 _ _ (s13 _ _ upd_same)
 have s1c:=s1b.trans s14
 generalize upd (upd (upd H11 p12 (.tup [.int x])) p13 (.lst [.ref p12])) p14 (.lst ((List.replicate nn [V.ref p12]).flatten))=H14 at g14 g12 s1c ⊢
 have gp14:=s1c _ _ gp11
 have pp14:Paired (RowV H14) yp ((rowsP (u:Int) 2).filter (metB x)):=Paired.mapP pp11 fun _ _ h=>h.kt (KT.same s1c)
 have sH14:=sH11.trans s1c
 clear s12 s13 s14 s1b s1c gp11 pp11 sH11 hp12 hp13 hp14
 refine ⟨_,rfl,_,rfl,1,u,x,rfl,by decide,by lia,fun p15 y15 H15 s15 n15 g15 py15=>?_⟩
 rw [met_one1 (by lia) xb.1] at py15
 have dep1:=deps_rows (if x≤(u:Int) then [[x]] else [])
 refine ⟨_,rfl,_,_,.inl ⟨rep_rowsL g15 py15,rep_rowsL (s15 _ _ g14) (pal H15 (s15 _ _ g12))⟩,by lia,_,rfl,?_⟩
 rw [if_pos rfl,eqDs_refl]
 refine iteF ?_
 refine ⟨_,rfl,_,rfl,u,x,1,rfl,by lia,fun p16 y16 H16 s16 n16 g16 py16=>?_⟩
 rw [with_one1 (by lia) xb.1] at py16
 have s1d:=s15.trans s16
 refine ⟨_,rfl,_,_,.inl ⟨rep_rowsL g16 py16,rep_rowsL (s1d _ _ g14) (pal H16 (s1d _ _ g12))⟩,by lia,_,rfl,?_⟩
 rw [if_pos rfl,eqDs_refl]
 refine iteF (nextI ?_)
 have gp16:=s1d _ _ gp14
 have pp16:Paired (RowV H16) yp ((rowsP (u:Int) 2).filter (metB x)):=Paired.mapP pp14 fun _ _ h=>h.kt (KT.same s1d)
 have sH16:=sH14.trans s1d
 clear s15 s16 s1d g14 g12 pal g15 py15 g16 py16 gp14 pp14 sH14
 obtain ⟨k9,ek,kb1,kb2,kb3⟩:∃ k9:Nat,(if (9:Int) < x then 9 else x)=(k9:Int)∧1≤k9∧k9≤9∧(k9:Int)≤x:=by
  by_cases h:(9:Int) < x
  ·exact ⟨9,by rw [if_pos h]; rfl,by decide,by decide,by lia⟩
  ·exact ⟨x.toNat,by rw [if_neg h]; lia,by lia,by lia,by lia⟩
 refine ⟨_,rfl,_,_,rfl,_,_,rfl,rfl,1,((k9 + 1:Nat):Int),by rw [Int.natCast_succ]; exact congrArg (fun z=>[V.int 1,V.int (z + 1)]) ek,⟨by lia,by lia,by lia,by lia⟩,fun D hD C sx fp=>?_⟩
 have hul:(upto 1 (k9:Int)).length=(((k9 + 1:Nat):Int) - 1).toNat:=by rw [upto_len]; lia
 refine comp_range (n:=(((k9 + 1:Nat):Int) - 1).toNat) (tt:=fun _ H Q=>Q true H) (fun i zs σ H6=>∃ (o1:Option V),σ=[o1,some (.int x)]∧Same H16 H6∧Paired (RowV H6) zs (((upto 1 (k9:Int)).take i).map fun n=>[n,x])) ⟨none,rfl,Same.new hD,.nil⟩ ?_ ?_
 ·rintro i zs σ H6 hi hzl ⟨o1,rfl,s6,pz⟩ g6
  refine ⟨_,rfl,_,rfl,(by show 2≤sizeLine; decide),fun pu hpu=>?_⟩
  have su:=Same.new (o:=.tup [.int (1 + (i:Int)),.int x]) hpu
  have g7:=su _ _ g6
  have kt7:=KT.upd (o:=.lst (zs++[.ref pu])) g7
  refine ⟨zs,g7,by rw [szl]; lia,zs++[.ref pu],by rw [List.length_append]; exact Nat.succ_le_succ hzl,⟨_,rfl,same_upd (s6.trans su) hD,?_⟩,upd_same⟩
  rw [take_snoc (upto_at (a:=1) (b:=(k9:Int)) (by lia)),List.map_append]
  exact pr_snoc (Paired.mapP pz fun _ _ h=>h.kt (KT.trans (KT.same su) kt7)) ⟨pu,rfl,kt7 _ _ upd_same⟩
 rintro zs σ H17 ⟨o1,rfl,s17,pz⟩ g17
 rw [← hul,List.take_length] at pz
 have gp17:=s17 _ _ gp16
 have pp17:Paired (RowV H17) yp ((rowsP (u:Int) 2).filter (metB x)):=Paired.mapP pp16 fun _ _ h=>h.kt (KT.same s17)
 have sH17:=sH16.trans s17
 have zl:zs.length≤9:=by rw [pz.length,List.length_map,upto_len]; lia
 clear s17 gp16 pp16 sH16 hD
 dsimp only [gName]
 refine seq_key (fun σ' H'=>σ'=[some (.ref a),some (.int nu),some (.int x),some (.int (g:Int)),some (.ref pl),z5,z6,some (.int (u:Int)),some (.ref pp),some (.ref p14),some (.ref D)]∧Same H17 H') ?_ ?_
 ·rintro σ' H18 ⟨rfl,s18⟩
  refine ⟨_,rfl,_,rfl,u,x,0,rfl,by lia,fun p19 y19 H19 s19 n19 g19 py19=>?_⟩
  rw [with_non1] at py19
  refine ⟨_,rfl,_,_,rfl,rfl,1,((u + 1:Nat):Int),by rw [Int.natCast_succ],⟨by lia,by lia,by lia,by lia⟩,fun D2 hD2 C2 sx2 fp2=>?_⟩
  have hul:(upto 1 (u:Int)).length=(((u + 1:Nat):Int) - 1).toNat:=by rw [upto_len]; lia
  refine comp_range (n:=(((u + 1:Nat):Int) - 1).toNat) (fun i zs σ H6=>∃ (o1:Option V),σ=[o1,some (.int x)]∧Same H19 H6∧Paired (RowV H6) zs ((((upto 1 (u:Int)).take i).filter (fun n=>!decide (n=x))).map fun n=>[n])) ⟨none,rfl,Same.new hD2,.nil⟩ ?_ ?_
  ·rintro i ws σ H6 hi hzl ⟨o1,rfl,s6,pz⟩ g6
   have ef:=filt_snoc (upto_at (a:=1) (b:=(u:Int)) (i:=i) (by lia)) (fun n=>!decide (n=x))
   refine ⟨_,rfl,_,rfl,rfl,_,rfl,?_⟩
   have e2:(!decide (V.int (1 + (i:Int))=V.int x))=!decide (1 + (i:Int)=x):=by
    by_cases h:1 + (i:Int)=x
    ·rw [decide_eq_true h,decide_eq_true (by rw [h])]
    ·rw [decide_eq_false h,decide_eq_false (fun z=>h (V.int.inj z))]
   rw [e2]
   refine ite2 (fun c=>?_) (fun c=>?_)
   ·rw [if_pos c] at ef
    refine ⟨_,rfl,(by show 1≤sizeLine; decide),fun pu hpu=>?_⟩
    have su:=Same.new (o:=.tup [.int (1 + (i:Int))]) hpu
    have g7:=su _ _ g6
    have kt7:=KT.upd (o:=.lst (ws++[.ref pu])) g7
    refine ⟨ws,g7,by rw [szl]; lia,ws++[.ref pu],by rw [List.length_append]; exact Nat.succ_le_succ hzl,⟨_,rfl,same_upd (s6.trans su) hD2,?_⟩,upd_same⟩
    rw [ef,List.map_append]
    exact pr_snoc (Paired.mapP pz fun _ _ h=>h.kt (KT.trans (KT.same su) kt7)) ⟨pu,rfl,kt7 _ _ upd_same⟩
   ·rw [if_neg c,List.append_nil] at ef
    refine ⟨ws,Nat.le_succ_of_le hzl,⟨_,rfl,s6,?_⟩,g6⟩
    rw [ef]
    exact pz
  ·rintro ws σ H6 ⟨o1,rfl,s6,pz⟩ g6
   rw [← hul,List.take_length] at pz
   refine ⟨_,_,.inl ⟨rep_rowsL (s6 _ _ g19) (Paired.mapP py19 fun _ _ h=>h.kt (KT.same s6)),rep_rowsL g6 pz⟩,?_,?_⟩
   ·have:=deps_rows (((upto 1 (u:Int)).filter (fun n=>!decide (n=x))).map fun n=>[n]); lia
   rw [if_neg (by decide),eqDs_refl]
   exact q _
 ·intro X' hX
  refine ⟨_,rfl,_,rfl,_,_,rfl,rfl,_,rfl,?_⟩
  refine ite2 (fun c=>?_) (fun c=>iteF (hX _ _ ⟨rfl,Same.refl _⟩))
  have hxu:x≤(u:Int):=of_decide_eq_true c
  refine ⟨_,rfl,D,rfl,⟨_,SqL.of g17⟩,fun D2 hD2 C2 sx2 fp2=>?_⟩
  refine comp_list (K:=K) (a:=D) (xs:=zs) (fun i ws σ H6=>∃ (o1:Option V),σ=[o1,some (.ref pp)]∧Same H17 H6∧ws=[]) (fun i ws σ H6 ⟨_,_,g,_⟩=>SqL.of (g _ _ g17)) ⟨none,rfl,Same.new hD2,rfl⟩ ?_ ?_
  ·rintro i v ws σ H6 hi hzl ⟨o1,rfl,s6,rfl⟩ g6
   obtain ⟨r,hx,hw⟩:=pr_get pz hi
   obtain ⟨qx,rfl,gq⟩:=hw.kt (KT.same s6)
   have hmem:r∈(rowsP (u:Int) 2).filter (metB x):=by
    obtain ⟨n,hn,rfl⟩:=List.mem_map.mp (List.mem_of_getElem? hx)
    unfold upto at hn
    obtain ⟨j,hj,rfl⟩:=List.mem_map.mp hn
    have:=List.mem_range.mp hj
    refine List.mem_filter.mpr ⟨mem_rowsP (by lia) (by decide) rfl (fun m hm=>?_) ?_,met_true.mpr (all_last xb.1)⟩
    ·simp only [List.mem_cons,List.not_mem_nil,or_false] at hm
     lia
    ·refine List.pairwise_cons.mpr ⟨fun m hm=>?_,List.pairwise_singleton _ _⟩
     rw [List.mem_singleton.mp hm]; lia
   refine ⟨_,rfl,_,rfl,pp,yp,r,_,rfl,s6 _ _ gp17,⟨qx,rfl,gq⟩,Paired.mapP pp17 fun _ _ h=>h.kt (KT.same s6),?_⟩
   rw [decide_eq_true hmem]
   exact ⟨_,rfl,iteF ⟨[],Nat.zero_le _,⟨_,rfl,s6,rfl⟩,g6⟩⟩
  ·rintro ws σ H6 ⟨o1,rfl,s6,rfl⟩ g6
   refine ⟨(by show 0≤sizeLine; decide),fun p0 hp0=>?_⟩
   have s0:=Same.new (o:=.lst []) hp0
   refine ⟨D2,p0,[],rfl,rfl,SqL.of (s0 _ _ g6),SqL.of upd_same,_,rfl,iteF ?_⟩
   exact hX _ _ ⟨rfl,s6.trans s0⟩
end
end Law
namespace Law
open PySem L2
noncomputable def famOf (a b c d:Addr) (wd:Str):Addr:=if wd="plus" then a else if wd="less" then b else if wd="times" then c else d
theorem all_mk {l:PySem.W.OpenLaw} {w:World} {K:PySem.W.Frag} {h:Heap} {mg:Str→Option Value} {fa:Addr} (X:K.In h) (G:h.Ns mainGlobals mg) (hfa:mg "law"=some (.ref fa))
  {f_choices_of:Addr} {od_choices_of an_choices_of:Option Addr} {sl_choices_of:Array (Option Value)} {oc_choices_of kV_choices_of dc_choices_of pm_choices_of cd_choices_of ct_choices_of:Value}
  {f_splits_of:Addr} {od_splits_of an_splits_of:Option Addr} {sl_splits_of:Array (Option Value)} {oc_splits_of kV_splits_of dc_splits_of pm_splits_of cd_splits_of ct_splits_of:Value}
  {f_plus:Addr} {od_plus an_plus:Option Addr} {sl_plus:Array (Option Value)} {oc_plus kV_plus dc_plus pm_plus cd_plus ct_plus:Value}
  {f_less:Addr} {od_less an_less:Option Addr} {sl_less:Array (Option Value)} {oc_less kV_less dc_less pm_less cd_less ct_less:Value}
  {f_times:Addr} {od_times an_times:Option Addr} {sl_times:Array (Option Value)} {oc_times kV_times dc_times pm_times cd_times ct_times:Value}
  {f_share:Addr} {od_share an_share:Option Addr} {sl_share:Array (Option Value)} {oc_share kV_share dc_share pm_share cd_share ct_share:Value}
  {f_worth_by:Addr} {od_worth_by an_worth_by:Option Addr} {sl_worth_by:Array (Option Value)} {oc_worth_by kV_worth_by dc_worth_by pm_worth_by cd_worth_by ct_worth_by:Value}
  {f_deeds_between:Addr} {od_deeds_between an_deeds_between:Option Addr} {sl_deeds_between:Array (Option Value)} {oc_deeds_between kV_deeds_between dc_deeds_between pm_deeds_between cd_deeds_between ct_deeds_between:Value}
  {f_chosen_of:Addr} {od_chosen_of an_chosen_of:Option Addr} {sl_chosen_of:Array (Option Value)} {oc_chosen_of kV_chosen_of dc_chosen_of pm_chosen_of cd_chosen_of ct_chosen_of:Value}
  {f_table_of:Addr} {od_table_of an_table_of:Option Addr} {sl_table_of:Array (Option Value)} {oc_table_of kV_table_of dc_table_of pm_table_of cd_table_of ct_table_of:Value}
  {f_row_for:Addr} {od_row_for an_row_for:Option Addr} {sl_row_for:Array (Option Value)} {oc_row_for kV_row_for dc_row_for pm_row_for cd_row_for ct_row_for:Value}
  {f_law_number:Addr} {od_law_number an_law_number:Option Addr} {sl_law_number:Array (Option Value)} {oc_law_number kV_law_number dc_law_number pm_law_number cd_law_number ct_law_number:Value}
  {f_met_at_all:Addr} {od_met_at_all an_met_at_all:Option Addr} {sl_met_at_all:Array (Option Value)} {oc_met_at_all kV_met_at_all dc_met_at_all pm_met_at_all cd_met_at_all ct_met_at_all:Value}
  {f_rows_of:Addr} {od_rows_of an_rows_of:Option Addr} {sl_rows_of:Array (Option Value)} {oc_rows_of kV_rows_of dc_rows_of pm_rows_of cd_rows_of ct_rows_of:Value}
  {f_rows_that_meet:Addr} {od_rows_that_meet an_rows_that_meet:Option Addr} {sl_rows_that_meet:Array (Option Value)} {oc_rows_that_meet kV_rows_that_meet dc_rows_that_meet pm_rows_that_meet cd_rows_that_meet ct_rows_that_meet:Value}
  {f_order_of:Addr} {od_order_of an_order_of:Option Addr} {sl_order_of:Array (Option Value)} {oc_order_of kV_order_of dc_order_of pm_order_of cd_order_of ct_order_of:Value}
  {f_forms_by:Addr} {od_forms_by an_forms_by:Option Addr} {sl_forms_by:Array (Option Value)} {oc_forms_by kV_forms_by dc_forms_by pm_forms_by cd_forms_by ct_forms_by:Value}
  {f_all_forms:Addr} {od_all_forms an_all_forms:Option Addr} {sl_all_forms:Array (Option Value)} {oc_all_forms kV_all_forms dc_all_forms pm_all_forms cd_all_forms ct_all_forms:Value}
  {f_many_forms:Addr} {od_many_forms an_many_forms:Option Addr} {sl_many_forms:Array (Option Value)} {oc_many_forms kV_many_forms dc_many_forms pm_many_forms cd_many_forms ct_many_forms:Value}
  {f_rows_with:Addr} {od_rows_with an_rows_with:Option Addr} {sl_rows_with:Array (Option Value)} {oc_rows_with kV_rows_with dc_rows_with pm_rows_with cd_rows_with ct_rows_with:Value}
  {f_law:Addr} {od_law an_law:Option Addr} {sl_law:Array (Option Value)} {oc_law kV_law dc_law pm_law cd_law ct_law:Value}
  {d_DEEDS:Addr} {es_DEEDS:Array DictEntry} {n_DEEDS:Nat}
  {C_WishError N_WishError:Addr} {nm_WishError qn_WishError:Str} {bs_WishError sub_WishError:List Value} {sn_WishError:List Str} {ab_WishError:Bool} {col_WishError:Option Bool} {dd_WishError:Option Addr} {k0_WishError k1_WishError k2_WishError k3_WishError k5_WishError:Option Value}
  {C_NoWay N_NoWay:Addr} {nm_NoWay qn_NoWay:Str} {bs_NoWay sub_NoWay:List Value} {sn_NoWay:List Str} {ab_NoWay:Bool} {col_NoWay:Option Bool} {dd_NoWay:Option Addr} {k0_NoWay k1_NoWay k2_NoWay k3_NoWay k5_NoWay:Option Value} {bm_NoWay:List Value}
  {f_init:Addr}
  {od_init an_init:Option Addr} {sl_init:Array (Option Value)} {oc_init kV_init dc_init pm_init cd_init ct_init:Value}
  (a_choices_of:PySem.W.nsIn K mainGlobals "choices_of"=some (some (.ref f_choices_of))) (l_choices_of:K.lookup f_choices_of=some ⟨oc_choices_of,od_choices_of,.func (PySem.W.fnOf "choices_of" "choices_of" (defArgs s_choices_of) (defBody s_choices_of) (defScope s_choices_of) .none kV_choices_of dc_choices_of pm_choices_of an_choices_of cd_choices_of ct_choices_of),sl_choices_of⟩) (c_choices_of:PySem.W.codeIn K cd_choices_of "choices_of"=true) (k_choices_of:PySem.W.keepIn K (.ref f_choices_of)=true)
  (a_splits_of:PySem.W.nsIn K mainGlobals "splits_of"=some (some (.ref f_splits_of))) (l_splits_of:K.lookup f_splits_of=some ⟨oc_splits_of,od_splits_of,.func (PySem.W.fnOf "splits_of" "splits_of" (defArgs s_splits_of) (defBody s_splits_of) (defScope s_splits_of) .none kV_splits_of dc_splits_of pm_splits_of an_splits_of cd_splits_of ct_splits_of),sl_splits_of⟩) (c_splits_of:PySem.W.codeIn K cd_splits_of "splits_of"=true) (k_splits_of:PySem.W.keepIn K (.ref f_splits_of)=true)
  (a_plus:PySem.W.nsIn K mainGlobals "plus"=some (some (.ref f_plus))) (l_plus:K.lookup f_plus=some ⟨oc_plus,od_plus,.func (PySem.W.fnOf "plus" "plus" (defArgs s_plus) (defBody s_plus) (defScope s_plus) .none kV_plus dc_plus pm_plus an_plus cd_plus ct_plus),sl_plus⟩) (c_plus:PySem.W.codeIn K cd_plus "plus"=true) (k_plus:PySem.W.keepIn K (.ref f_plus)=true)
  (a_less:PySem.W.nsIn K mainGlobals "less"=some (some (.ref f_less))) (l_less:K.lookup f_less=some ⟨oc_less,od_less,.func (PySem.W.fnOf "less" "less" (defArgs s_less) (defBody s_less) (defScope s_less) .none kV_less dc_less pm_less an_less cd_less ct_less),sl_less⟩) (c_less:PySem.W.codeIn K cd_less "less"=true) (k_less:PySem.W.keepIn K (.ref f_less)=true)
  (a_times:PySem.W.nsIn K mainGlobals "times"=some (some (.ref f_times))) (l_times:K.lookup f_times=some ⟨oc_times,od_times,.func (PySem.W.fnOf "times" "times" (defArgs s_times) (defBody s_times) (defScope s_times) .none kV_times dc_times pm_times an_times cd_times ct_times),sl_times⟩) (c_times:PySem.W.codeIn K cd_times "times"=true) (k_times:PySem.W.keepIn K (.ref f_times)=true)
  (a_share:PySem.W.nsIn K mainGlobals "share"=some (some (.ref f_share))) (l_share:K.lookup f_share=some ⟨oc_share,od_share,.func (PySem.W.fnOf "share" "share" (defArgs s_share) (defBody s_share) (defScope s_share) .none kV_share dc_share pm_share an_share cd_share ct_share),sl_share⟩) (c_share:PySem.W.codeIn K cd_share "share"=true) (k_share:PySem.W.keepIn K (.ref f_share)=true)
  (a_worth_by:PySem.W.nsIn K mainGlobals "worth_by"=some (some (.ref f_worth_by))) (l_worth_by:K.lookup f_worth_by=some ⟨oc_worth_by,od_worth_by,.func (PySem.W.fnOf "worth_by" "worth_by" (defArgs s_worth_by) (defBody s_worth_by) (defScope s_worth_by) .none kV_worth_by dc_worth_by pm_worth_by an_worth_by cd_worth_by ct_worth_by),sl_worth_by⟩) (c_worth_by:PySem.W.codeIn K cd_worth_by "worth_by"=true) (k_worth_by:PySem.W.keepIn K (.ref f_worth_by)=true)
  (a_deeds_between:PySem.W.nsIn K mainGlobals "deeds_between"=some (some (.ref f_deeds_between))) (l_deeds_between:K.lookup f_deeds_between=some ⟨oc_deeds_between,od_deeds_between,.func (PySem.W.fnOf "deeds_between" "deeds_between" (defArgs s_deeds_between) (defBody s_deeds_between) (defScope s_deeds_between) .none kV_deeds_between dc_deeds_between pm_deeds_between an_deeds_between cd_deeds_between ct_deeds_between),sl_deeds_between⟩) (c_deeds_between:PySem.W.codeIn K cd_deeds_between "deeds_between"=true) (k_deeds_between:PySem.W.keepIn K (.ref f_deeds_between)=true)
  (a_chosen_of:PySem.W.nsIn K mainGlobals "chosen_of"=some (some (.ref f_chosen_of))) (l_chosen_of:K.lookup f_chosen_of=some ⟨oc_chosen_of,od_chosen_of,.func (PySem.W.fnOf "chosen_of" "chosen_of" (defArgs s_chosen_of) (defBody s_chosen_of) (defScope s_chosen_of) .none kV_chosen_of dc_chosen_of pm_chosen_of an_chosen_of cd_chosen_of ct_chosen_of),sl_chosen_of⟩) (c_chosen_of:PySem.W.codeIn K cd_chosen_of "chosen_of"=true) (k_chosen_of:PySem.W.keepIn K (.ref f_chosen_of)=true)
  (a_table_of:PySem.W.nsIn K mainGlobals "table_of"=some (some (.ref f_table_of))) (l_table_of:K.lookup f_table_of=some ⟨oc_table_of,od_table_of,.func (PySem.W.fnOf "table_of" "table_of" (defArgs s_table_of) (defBody s_table_of) (defScope s_table_of) .none kV_table_of dc_table_of pm_table_of an_table_of cd_table_of ct_table_of),sl_table_of⟩) (c_table_of:PySem.W.codeIn K cd_table_of "table_of"=true) (k_table_of:PySem.W.keepIn K (.ref f_table_of)=true)
  (a_row_for:PySem.W.nsIn K mainGlobals "row_for"=some (some (.ref f_row_for))) (l_row_for:K.lookup f_row_for=some ⟨oc_row_for,od_row_for,.func (PySem.W.fnOf "row_for" "row_for" (defArgs s_row_for) (defBody s_row_for) (defScope s_row_for) .none kV_row_for dc_row_for pm_row_for an_row_for cd_row_for ct_row_for),sl_row_for⟩) (c_row_for:PySem.W.codeIn K cd_row_for "row_for"=true) (k_row_for:PySem.W.keepIn K (.ref f_row_for)=true)
  (a_law_number:PySem.W.nsIn K mainGlobals "_law_number"=some (some (.ref f_law_number))) (l_law_number:K.lookup f_law_number=some ⟨oc_law_number,od_law_number,.func (PySem.W.fnOf "_law_number" "_law_number" (defArgs s_law_number) (defBody s_law_number) (defScope s_law_number) .none kV_law_number dc_law_number pm_law_number an_law_number cd_law_number ct_law_number),sl_law_number⟩) (c_law_number:PySem.W.codeIn K cd_law_number "_law_number"=true) (k_law_number:PySem.W.keepIn K (.ref f_law_number)=true)
  (a_met_at_all:PySem.W.nsIn K mainGlobals "met_at_all"=some (some (.ref f_met_at_all))) (l_met_at_all:K.lookup f_met_at_all=some ⟨oc_met_at_all,od_met_at_all,.func (PySem.W.fnOf "met_at_all" "met_at_all" (defArgs s_met_at_all) (defBody s_met_at_all) (defScope s_met_at_all) .none kV_met_at_all dc_met_at_all pm_met_at_all an_met_at_all cd_met_at_all ct_met_at_all),sl_met_at_all⟩) (c_met_at_all:PySem.W.codeIn K cd_met_at_all "met_at_all"=true) (k_met_at_all:PySem.W.keepIn K (.ref f_met_at_all)=true)
  (a_rows_of:PySem.W.nsIn K mainGlobals "rows_of"=some (some (.ref f_rows_of))) (l_rows_of:K.lookup f_rows_of=some ⟨oc_rows_of,od_rows_of,.func (PySem.W.fnOf "rows_of" "rows_of" (defArgs s_rows_of) (defBody s_rows_of) (defScope s_rows_of) .none kV_rows_of dc_rows_of pm_rows_of an_rows_of cd_rows_of ct_rows_of),sl_rows_of⟩) (c_rows_of:PySem.W.codeIn K cd_rows_of "rows_of"=true) (k_rows_of:PySem.W.keepIn K (.ref f_rows_of)=true)
  (a_rows_that_meet:PySem.W.nsIn K mainGlobals "rows_that_meet"=some (some (.ref f_rows_that_meet))) (l_rows_that_meet:K.lookup f_rows_that_meet=some ⟨oc_rows_that_meet,od_rows_that_meet,.func (PySem.W.fnOf "rows_that_meet" "rows_that_meet" (defArgs s_rows_that_meet) (defBody s_rows_that_meet) (defScope s_rows_that_meet) .none kV_rows_that_meet dc_rows_that_meet pm_rows_that_meet an_rows_that_meet cd_rows_that_meet ct_rows_that_meet),sl_rows_that_meet⟩) (c_rows_that_meet:PySem.W.codeIn K cd_rows_that_meet "rows_that_meet"=true) (k_rows_that_meet:PySem.W.keepIn K (.ref f_rows_that_meet)=true)
  (a_order_of:PySem.W.nsIn K mainGlobals "order_of"=some (some (.ref f_order_of))) (l_order_of:K.lookup f_order_of=some ⟨oc_order_of,od_order_of,.func (PySem.W.fnOf "order_of" "order_of" (defArgs s_order_of) (defBody s_order_of) (defScope s_order_of) .none kV_order_of dc_order_of pm_order_of an_order_of cd_order_of ct_order_of),sl_order_of⟩) (c_order_of:PySem.W.codeIn K cd_order_of "order_of"=true) (k_order_of:PySem.W.keepIn K (.ref f_order_of)=true)
  (a_forms_by:PySem.W.nsIn K mainGlobals "forms_by"=some (some (.ref f_forms_by))) (l_forms_by:K.lookup f_forms_by=some ⟨oc_forms_by,od_forms_by,.func (PySem.W.fnOf "forms_by" "forms_by" (defArgs s_forms_by) (defBody s_forms_by) (defScope s_forms_by) .none kV_forms_by dc_forms_by pm_forms_by an_forms_by cd_forms_by ct_forms_by),sl_forms_by⟩) (c_forms_by:PySem.W.codeIn K cd_forms_by "forms_by"=true) (k_forms_by:PySem.W.keepIn K (.ref f_forms_by)=true)
  (a_all_forms:PySem.W.nsIn K mainGlobals "all_forms"=some (some (.ref f_all_forms))) (l_all_forms:K.lookup f_all_forms=some ⟨oc_all_forms,od_all_forms,.func (PySem.W.fnOf "all_forms" "all_forms" (defArgs s_all_forms) (defBody s_all_forms) (defScope s_all_forms) .none kV_all_forms dc_all_forms pm_all_forms an_all_forms cd_all_forms ct_all_forms),sl_all_forms⟩) (c_all_forms:PySem.W.codeIn K cd_all_forms "all_forms"=true) (k_all_forms:PySem.W.keepIn K (.ref f_all_forms)=true)
  (a_many_forms:PySem.W.nsIn K mainGlobals "many_forms"=some (some (.ref f_many_forms))) (l_many_forms:K.lookup f_many_forms=some ⟨oc_many_forms,od_many_forms,.func (PySem.W.fnOf "many_forms" "many_forms" (defArgs s_many_forms) (defBody s_many_forms) (defScope s_many_forms) .none kV_many_forms dc_many_forms pm_many_forms an_many_forms cd_many_forms ct_many_forms),sl_many_forms⟩) (c_many_forms:PySem.W.codeIn K cd_many_forms "many_forms"=true) (k_many_forms:PySem.W.keepIn K (.ref f_many_forms)=true)
  (a_rows_with:PySem.W.nsIn K mainGlobals "rows_with"=some (some (.ref f_rows_with))) (l_rows_with:K.lookup f_rows_with=some ⟨oc_rows_with,od_rows_with,.func (PySem.W.fnOf "rows_with" "rows_with" (defArgs s_rows_with) (defBody s_rows_with) (defScope s_rows_with) .none kV_rows_with dc_rows_with pm_rows_with an_rows_with cd_rows_with ct_rows_with),sl_rows_with⟩) (c_rows_with:PySem.W.codeIn K cd_rows_with "rows_with"=true) (k_rows_with:PySem.W.keepIn K (.ref f_rows_with)=true)
  (a_law:PySem.W.nsIn K mainGlobals "law"=some (some (.ref f_law))) (l_law:K.lookup f_law=some ⟨oc_law,od_law,.func (PySem.W.fnOf "law" "law" (defArgs s_law) (defBody s_law) (defScope s_law) .none kV_law dc_law pm_law an_law cd_law ct_law),sl_law⟩) (c_law:PySem.W.codeIn K cd_law "law"=true) (k_law:PySem.W.keepIn K (.ref f_law)=true)
  (a_DEEDS:PySem.W.nsIn K mainGlobals "DEEDS"=some (some (.ref d_DEEDS))) (l_DEEDS:K.lookup d_DEEDS=some ⟨.type "dict",none,.dict es_DEEDS n_DEEDS,#[]⟩) (k_DEEDS:PySem.W.KeysLit w.params es_DEEDS.toList)
  (e_DEEDS_plus:PySem.W.nsIn K d_DEEDS "plus"=some (some (.ref f_plus)))
  (e_DEEDS_less:PySem.W.nsIn K d_DEEDS "less"=some (some (.ref f_less)))
  (e_DEEDS_times:PySem.W.nsIn K d_DEEDS "times"=some (some (.ref f_times)))
  (e_DEEDS_share:PySem.W.nsIn K d_DEEDS "share"=some (some (.ref f_share)))
  (z_max:PySem.W.nsIn K mainGlobals "max"=some none)
  (z_min:PySem.W.nsIn K mainGlobals "min"=some none)
  (z_sorted:PySem.W.nsIn K mainGlobals "sorted"=some none)
  (z_any:PySem.W.nsIn K mainGlobals "any"=some none)
  (z_list:PySem.W.nsIn K mainGlobals "list"=some none)
  (z_set:PySem.W.nsIn K mainGlobals "set"=some none)
  (z_abs:PySem.W.nsIn K mainGlobals "abs"=some none)
  (sm_DEEDS:(d_DEEDS == sysModules)=false)
  (kt_DEEDS:KeyTs es_DEEDS.toList dW)
  (a_WishError:PySem.W.nsIn K mainGlobals "WishError"=some (some (.ref C_WishError)))
  (l_WishError:K.lookup C_WishError=some (excClassObj nm_WishError qn_WishError C_WishError N_WishError bs_WishError vMro true sn_WishError sub_WishError ab_WishError col_WishError dd_WishError k0_WishError k1_WishError k2_WishError k3_WishError k5_WishError "ValueError.__new__"))
  (t_WishError:PySem.W.tailIn K vMro vMro=true)
  (kp_WishError:PySem.W.keepIn K (.ref C_WishError)=true)
  (ga_WishError:PySem.W.findIn K (.ref C_WishError) "__getattribute__"=some (some (.builtin "BaseException.__getattribute__")))
  (gh_WishError:PySem.W.findIn K (.ref C_WishError) "__getattr__"=some none)
  (gc_WishError:PySem.W.findIn K (.ref C_WishError) "__class__"=some (some (.builtin "object.__class__")))
  (sa_WishError:PySem.W.findIn K (.ref C_WishError) "__setattr__"=some (some (.builtin "object.__setattr__")))
  (a_NoWay:PySem.W.nsIn K mainGlobals "NoWay"=some (some (.ref C_NoWay)))
  (l_NoWay:K.lookup C_NoWay=some (excClassObj nm_NoWay qn_NoWay C_NoWay N_NoWay bs_NoWay bm_NoWay true sn_NoWay sub_NoWay ab_NoWay col_NoWay dd_NoWay k0_NoWay k1_NoWay k2_NoWay k3_NoWay k5_NoWay "ValueError.__new__"))
  (t_NoWay:PySem.W.tailIn K vMro bm_NoWay=true)
  (kp_NoWay:PySem.W.keepIn K (.ref C_NoWay)=true)
  (ga_NoWay:PySem.W.findIn K (.ref C_NoWay) "__getattribute__"=some (some (.builtin "BaseException.__getattribute__")))
  (gh_NoWay:PySem.W.findIn K (.ref C_NoWay) "__getattr__"=some none)
  (gc_NoWay:PySem.W.findIn K (.ref C_NoWay) "__class__"=some (some (.builtin "object.__class__")))
  (sa_NoWay:PySem.W.findIn K (.ref C_NoWay) "__setattr__"=some (some (.builtin "object.__setattr__")))
  (i_NoWay:PySem.W.findIn K (.ref C_NoWay) "__init__"=some (some (.ref f_init)))
  (y_init:PySem.W.typeIn K (.ref f_init)=some (.type "function"))
  (l_init:K.lookup f_init=some ⟨oc_init,od_init,.func (PySem.W.fnOf "__init__" "NoWay.__init__" (defArgs s_init) (defBody s_init) (defScope s_init) .none kV_init dc_init pm_init an_init cd_init ct_init),sl_init⟩)
  (cd_ok_init:PySem.W.codeIn K cd_init "NoWay.__init__"=true)
  (k_init:PySem.W.keepIn K (.ref f_init)=true)
  (w_NoWay:PySem.W.findIn K (.ref C_NoWay) "word"=some none)
  (z_len:PySem.W.nsIn K mainGlobals "len"=some none)
  (z_sum:PySem.W.nsIn K mainGlobals "sum"=some none)
  (z_range:PySem.W.nsIn K mainGlobals "range"=some none)
  (z_isinstance:PySem.W.nsIn K mainGlobals "isinstance"=some none)
  (z_int:PySem.W.nsIn K mainGlobals "int"=some none)
  (z_str:PySem.W.nsIn K mainGlobals "str"=some none)
  (z_bool:PySem.W.nsIn K mainGlobals "bool"=some none)
  (z_tuple:PySem.W.nsIn K mainGlobals "tuple"=some none)
  (z_zip:PySem.W.nsIn K mainGlobals "zip"=some none) :
  ∃ fd:FuncData,(∀ (s:Shared) (v:Value),BindsTo s fd ⟨[v],[]⟩ [("script",v)])∧∀ base:Heap,K.In base→base.Ns mainGlobals mg→FnOk l.prog w K mg base CX0 30 fa fd ["script"] (spLaw K):=by
 have e:=hfa.symm.trans (PySem.W.mg_of X G a_law)
 cases e
 have F_choices_of:=fun_mk (st:=s_choices_of) l_choices_of c_choices_of k_choices_of
 have b_choices_of:=F_choices_of.binds (ps:=["many"]) fun _ _ _ _ _ _ us hl=>match us,hl with | [_],_=>rfl
 have m_choices_of:=PySem.W.mg_of X G a_choices_of
 have F_splits_of:=fun_mk (st:=s_splits_of) l_splits_of c_splits_of k_splits_of
 have b_splits_of:=F_splits_of.binds (ps:=["choice"]) fun _ _ _ _ _ _ us hl=>match us,hl with | [_],_=>rfl
 have m_splits_of:=PySem.W.mg_of X G a_splits_of
 have F_plus:=fun_mk (st:=s_plus) l_plus c_plus k_plus
 have b_plus:=F_plus.binds (ps:=["first","second"]) fun _ _ _ _ _ _ us hl=>match us,hl with | [_,_],_=>rfl
 have m_plus:=PySem.W.mg_of X G a_plus
 have F_less:=fun_mk (st:=s_less) l_less c_less k_less
 have b_less:=F_less.binds (ps:=["first","second"]) fun _ _ _ _ _ _ us hl=>match us,hl with | [_,_],_=>rfl
 have m_less:=PySem.W.mg_of X G a_less
 have F_times:=fun_mk (st:=s_times) l_times c_times k_times
 have b_times:=F_times.binds (ps:=["first","second"]) fun _ _ _ _ _ _ us hl=>match us,hl with | [_,_],_=>rfl
 have m_times:=PySem.W.mg_of X G a_times
 have F_share:=fun_mk (st:=s_share) l_share c_share k_share
 have b_share:=F_share.binds (ps:=["first","second"]) fun _ _ _ _ _ _ us hl=>match us,hl with | [_,_],_=>rfl
 have m_share:=PySem.W.mg_of X G a_share
 have F_worth_by:=fun_mk (st:=s_worth_by) l_worth_by c_worth_by k_worth_by
 have b_worth_by:=F_worth_by.binds (ps:=["word","first","second"]) fun _ _ _ _ _ _ us hl=>match us,hl with | [_,_,_],_=>rfl
 have m_worth_by:=PySem.W.mg_of X G a_worth_by
 have F_deeds_between:=fun_mk (st:=s_deeds_between) l_deeds_between c_deeds_between k_deeds_between
 have b_deeds_between:=F_deeds_between.binds (ps:=["firsts","seconds"]) fun _ _ _ _ _ _ us hl=>match us,hl with | [_,_],_=>rfl
 have m_deeds_between:=PySem.W.mg_of X G a_deeds_between
 have F_chosen_of:=fun_mk (st:=s_chosen_of) l_chosen_of c_chosen_of k_chosen_of
 have b_chosen_of:=F_chosen_of.binds (ps:=["numbers","choice"]) fun _ _ _ _ _ _ us hl=>match us,hl with | [_,_],_=>rfl
 have m_chosen_of:=PySem.W.mg_of X G a_chosen_of
 have F_table_of:=fun_mk (st:=s_table_of) l_table_of c_table_of k_table_of
 have b_table_of:=F_table_of.binds (ps:=["numbers"]) fun _ _ _ _ _ _ us hl=>match us,hl with | [_],_=>rfl
 have m_table_of:=PySem.W.mg_of X G a_table_of
 have F_row_for:=fun_mk (st:=s_row_for) l_row_for c_row_for k_row_for
 have b_row_for:=F_row_for.binds (ps:=["numbers","choice","table"]) fun _ _ _ _ _ _ us hl=>match us,hl with | [_,_,_],_=>rfl
 have m_row_for:=PySem.W.mg_of X G a_row_for
 have F_law_number:=fun_mk (st:=s_law_number) l_law_number c_law_number k_law_number
 have b_law_number:=F_law_number.binds (ps:=["script","k"]) fun _ _ _ _ _ _ us hl=>match us,hl with | [_,_],_=>rfl
 have m_law_number:=PySem.W.mg_of X G a_law_number
 have F_met_at_all:=fun_mk (st:=s_met_at_all) l_met_at_all c_met_at_all k_met_at_all
 have b_met_at_all:=F_met_at_all.binds (ps:=["numbers"]) fun _ _ _ _ _ _ us hl=>match us,hl with | [_],_=>rfl
 have m_met_at_all:=PySem.W.mg_of X G a_met_at_all
 have F_rows_of:=fun_mk (st:=s_rows_of) l_rows_of c_rows_of k_rows_of
 have b_rows_of:=F_rows_of.binds (ps:=["many","greatest"]) fun _ _ _ _ _ _ us hl=>match us,hl with | [_,_],_=>rfl
 have m_rows_of:=PySem.W.mg_of X G a_rows_of
 have F_rows_that_meet:=fun_mk (st:=s_rows_that_meet) l_rows_that_meet c_rows_that_meet k_rows_that_meet
 have b_rows_that_meet:=F_rows_that_meet.binds (ps:=["many","greatest","wish"]) fun _ _ _ _ _ _ us hl=>match us,hl with | [_,_,_],_=>rfl
 have m_rows_that_meet:=PySem.W.mg_of X G a_rows_that_meet
 have F_order_of:=fun_mk (st:=s_order_of) l_order_of c_order_of k_order_of
 have b_order_of:=F_order_of.binds (ps:=["form"]) fun _ _ _ _ _ _ us hl=>match us,hl with | [_],_=>rfl
 have m_order_of:=PySem.W.mg_of X G a_order_of
 have F_forms_by:=fun_mk (st:=s_forms_by) l_forms_by c_forms_by k_forms_by
 have b_forms_by:=F_forms_by.binds (ps:=["table","choice","worth"]) fun _ _ _ _ _ _ us hl=>match us,hl with | [_,_,_],_=>rfl
 have m_forms_by:=PySem.W.mg_of X G a_forms_by
 have F_all_forms:=fun_mk (st:=s_all_forms) l_all_forms c_all_forms k_all_forms
 have b_all_forms:=F_all_forms.binds (ps:=["numbers","wish"]) fun _ _ _ _ _ _ us hl=>match us,hl with | [_,_],_=>rfl
 have m_all_forms:=PySem.W.mg_of X G a_all_forms
 have F_many_forms:=fun_mk (st:=s_many_forms) l_many_forms c_many_forms k_many_forms
 have b_many_forms:=F_many_forms.binds (ps:=["numbers","wish"]) fun _ _ _ _ _ _ us hl=>match us,hl with | [_,_],_=>rfl
 have m_many_forms:=PySem.W.mg_of X G a_many_forms
 have F_rows_with:=fun_mk (st:=s_rows_with) l_rows_with c_rows_with k_rows_with
 have b_rows_with:=F_rows_with.binds (ps:=["many","greatest","wish","forms"]) fun _ _ _ _ _ _ us hl=>match us,hl with | [_,_,_,_],_=>rfl
 have m_rows_with:=PySem.W.mg_of X G a_rows_with
 have F_law:=fun_mk (st:=s_law) l_law c_law k_law
 have b_law:=F_law.binds (ps:=["script"]) fun _ _ _ _ _ _ us hl=>match us,hl with | [_],_=>rfl
 have m_law:=PySem.W.mg_of X G a_law
 have B:Blt mg:=⟨PySem.W.mg_none_of X G z_len,PySem.W.mg_none_of X G z_sum,PySem.W.mg_none_of X G z_range,PySem.W.mg_none_of X G z_isinstance,PySem.W.mg_none_of X G z_int,PySem.W.mg_none_of X G z_str,PySem.W.mg_none_of X G z_bool,PySem.W.mg_none_of X G z_tuple,PySem.W.mg_none_of X G z_zip⟩
 refine ⟨PySem.W.fnOf "law" "law" (defArgs s_law) (defBody s_law) (defScope s_law) .none kV_law dc_law pm_law an_law cd_law ct_law,fun s v=>.of_eq rfl,fun base _ _=>?_⟩
 have c_WishError:XC K C_WishError vMro:=⟨⟨_,_,_,_,_,_,_,_,_,_,_,_,_,_,l_WishError⟩,t_WishError,kp_WishError,ga_WishError,gh_WishError,gc_WishError,sa_WishError⟩
 have c_NoWay:XC K C_NoWay bm_NoWay:=⟨⟨_,_,_,_,_,_,_,_,_,_,_,_,_,_,l_NoWay⟩,t_NoWay,kp_NoWay,ga_NoWay,gh_NoWay,gc_NoWay,sa_NoWay⟩
 have F_init:=fun_mk (st:=s_init) l_init cd_ok_init k_init
 have b_init:=F_init.binds (ps:=["self","word"]) fun _ _ _ _ _ _ us hl=>match us,hl with | [_,_],_=>rfl
 have R:Refs l.prog w K mg base C_WishError C_NoWay bm_NoWay :=
  ⟨c_WishError,c_NoWay,PySem.W.mg_of X G a_NoWay,⟨f_init,_,_,i_NoWay,y_init,ok_init F_init c_NoWay w_NoWay,b_init⟩,w_NoWay⟩
 have De:DeedsX l.prog w K mg base C_NoWay d_DEEDS (famOf f_plus f_less f_times f_share):=by
  refine ⟨⟨_,_,l_DEEDS,k_DEEDS⟩,PySem.W.mg_of X G a_DEEDS,fun wd hw=>?_,fun wd hw=>?_⟩
  ·rcases hw with rfl | rfl | rfl | rfl
   ·exact e_DEEDS_plus
   ·exact e_DEEDS_less
   ·exact e_DEEDS_times
   ·exact e_DEEDS_share
  ·rcases hw with rfl | rfl | rfl | rfl
   ·exact ⟨⟨_,_,okX_plus F_plus,b_plus⟩,k_plus⟩
   ·exact ⟨⟨_,_,okX_less F_less R,b_less⟩,k_less⟩
   ·exact ⟨⟨_,_,okX_times F_times,b_times⟩,k_times⟩
   ·exact ⟨⟨_,_,okX_share F_share R,b_share⟩,k_share⟩
 have TK:TopKeys w K d_DEEDS dW:=⟨sm_DEEDS,by decide +kernel,_,_,l_DEEDS,k_DEEDS,kt_DEEDS⟩
 have Bmax:mg "max"=none:=PySem.W.mg_none_of X G z_max
 have Bmin:mg "min"=none:=PySem.W.mg_none_of X G z_min
 have Blist:mg "list"=none:=PySem.W.mg_none_of X G z_list
 have Bsorted:=PySem.W.mg_none_of X G z_sorted
 have Bset:=PySem.W.mg_none_of X G z_set
 have Bany:=PySem.W.mg_none_of X G z_any
 have Babs:=PySem.W.mg_none_of X G z_abs
 have Gwb:=mkDef (okX_wb F_worth_by B De) b_worth_by m_worth_by k_worth_by
 have Gchs:=mkDef (ok_chs (P:=l.prog) (w:=w) (base:=base) F_choices_of B) b_choices_of m_choices_of k_choices_of
 have Gspl:=mkDef (ok_spl (P:=l.prog) (w:=w) (base:=base) F_splits_of Bany) b_splits_of m_splits_of k_splits_of
 have Gcho:=mkDef (ok_cho (P:=l.prog) (w:=w) (base:=base) F_chosen_of B) b_chosen_of m_chosen_of k_chosen_of
 have Gdb:=mkDef (ok_db F_deeds_between R De TK Gwb) b_deeds_between m_deeds_between k_deeds_between
 have Grf:=mkDef (ok_rf F_row_for B Bset Bsorted Gcho Gspl Gdb) b_row_for m_row_for k_row_for
 have Gtab:=mkDef (ok_tab F_table_of B Bany Gchs Grf) b_table_of m_table_of k_table_of
 have Gnum:=mkDef (ok_num (P:=l.prog) (w:=w) (base:=base) F_law_number B Bmax Bmin Blist) b_law_number m_law_number k_law_number
 have Gall:=mkDef (ok_all F_met_at_all B Bsorted Gtab) b_met_at_all m_met_at_all k_met_at_all
 have Gro:=mkDef (ok_ro (P:=l.prog) (w:=w) (base:=base) F_rows_of B Bmax) b_rows_of m_rows_of k_rows_of
 have Grm:=mkDef (ok_rm F_rows_that_meet Gro Gall) b_rows_that_meet m_rows_that_meet k_rows_that_meet
 have Gord:=mkDef (ok_ordI (P:=l.prog) (w:=w) (base:=base) F_order_of B) b_order_of m_order_of k_order_of
 have Gfb:=mkDef (ok_fb F_forms_by B Gord) b_forms_by m_forms_by k_forms_by
 have Gaf:=mkDef (ok_af F_all_forms Bsorted Gtab Gfb) b_all_forms m_all_forms k_all_forms
 have Gmf:=mkDef (ok_mf F_many_forms B Gaf) b_many_forms m_many_forms k_many_forms
 have Grw:=mkDef (ok_rw F_rows_with Gro Gmf) b_rows_with m_rows_with k_rows_with
 exact ok_law F_law B Bmin Bsorted Gnum Grm Grw
theorem walk {l:PySem.W.OpenLaw} {q:Program} {loose:List Str} {XP:(Str→Option Value)→Heap→Prop} {YP:World→Heap→Prop} {d:DefRec} {K:Params→PySem.W.Frag} (hn:l.most=some 63) (hdf:d.params.defaults=[])
  (hY:∀ (w:World) (h:Heap),YP w h→(K w.params).In h)
  (F:∀ (w:World) (mg:Str→Option Value) (fa:Addr) (h:Heap),(K w.params).In h→h.Ns mainGlobals mg→mg d.name=some (.ref fa) →
   ∃ fd:FuncData,(∀ (s:Shared) (u:Value),BindsTo s fd ⟨[u],[]⟩ [("script",u)])∧∀ base:Heap,(K w.params).In base→base.Ns mainGlobals mg→FnOk l.prog w (K w.params) mg base CX0 30 fa fd ["script"] (spLaw (K w.params))) :
  PySem.W.WalkO q loose XP YP l.row.toRowW d [] (fun f vs=>PySem.call f vs) :=
 L2.walk_of (n:=63) (k:=30) (x:="script") (CX:=fun _=>CX0) (sp:=fun w=>spLaw (K w.params)) hn (by decide) hdf ⟨rfl,by decide,by decide⟩ hY F (fun _ _ a ns hl _ hS=>⟨a,ns,rfl,hS,hl,fun _=>rfl⟩) fun _ _ _ _ _ z=>z
end Law
open PySem PySem.W PyProof.Rows
namespace PySem.W.Fast
def tw14063363443438635923:Unit:=()
def tw3933769885334778149:Unit:=()
def tw9077095120739240133:Unit:=()
def tw18004924751630756010:Unit:=()
def tw8954181168665743803:Unit:=()
def tw9679433041962940797:Unit:=()
def tw15890337533028167984:Unit:=()
def tw5167994270173911383:Unit:=()
def tw5836617063218553056:Unit:=()
def tw9021254725261168625:Unit:=()
def tw9605612607687358562:Unit:=()
def tw11708202574036159780:Unit:=()
def tw5344603373996365000:Unit:=()
def tw15731437074805507957:Unit:=()
def tw11485710598078900759:Unit:=()
def tw11665549274279992846:Unit:=()
def tw17071740942197154059:Unit:=()
def tw1609101459745535035:Unit:=()
def tw3993640737982550184:Unit:=()
def tw10049767044138905824:Unit:=()
def tw6154757682312748096:Unit:=()
def tw7039089830262934627:Unit:=()
def tw5358072966470532679:Unit:=()
def tw7356990641421786248:Unit:=()
def tw9808176110064605230:Unit:=()
def tw11779063086103490974:Unit:=()
def tw5268426230185692794:Unit:=()
def tw13140276857817981540:Unit:=()
def tw10708759173250057244:Unit:=()
def tw8751607010889787333:Unit:=()
def tw10443820818878285491:Unit:=()
def tw8804696577849277242:Unit:=()
def tw17560764777923178657:Unit:=()
def tw5779368348250716754:Unit:=()
def tw200684214620687620:Unit:=()
def tw1293467578900759043:Unit:=()
def tw4877551008651723004:Unit:=()
def tw10671655978122230975:Unit:=()
def tw7218655662746072217:Unit:=()
def tw15579279285848004058:Unit:=()
def tw14412188047235249298:Unit:=()
def tw2690384165826684697:Unit:=()
def tw3944298237489193652:Unit:=()
def tw12823627297024694495:Unit:=()
def tw2815534931671261627:Unit:=()
def tw18207427785639654728:Unit:=()
def tw11053171246724276586:Unit:=()
def tw16961157072420984209:Unit:=()
def tw895709758157139659:Unit:=()
def tw6202769085020013646:Unit:=()
def tw6877281220475799844:Unit:=()
def tw7934914453134542166:Unit:=()
def tw6902328043780098309:Unit:=()
def tw17705864993048520942:Unit:=()
def tw3694241661001404093:Unit:=()
def tw11054629613002642190:Unit:=()
def tw4744384767648337077:Unit:=()
def tw1324260392160008625:Unit:=()
def tw9268022909980986624:Unit:=()
def tw18082480707269686717:Unit:=()
def tw5902998666869780907:Unit:=()
def tw3191087186566438681:Unit:=()
def tw5708333478364742554:Unit:=()
def tw15622793230056026395:Unit:=()
def tw12199424464188248050:Unit:=()
def tw17383230898099542090:Unit:=()
def tw6944596469762446485:Unit:=()
def tw17012749155036648441:Unit:=()
def tw6188756527797482266:Unit:=()
def tw3187182593841446031:Unit:=()
def tw14659391019765969113:Unit:=()
def tw14699355731598965940:Unit:=()
def tw15371960543888332993:Unit:=()
def tw3464988126034832914:Unit:=()
def tw12817478592485599540:Unit:=()
def tw6717288624890984004:Unit:=()
def tw7402485374364875002:Unit:=()
def tw2877854387655235616:Unit:=()
def tw2674835764284319128:Unit:=()
def tw12506316219882915763:Unit:=()
def tw1219191843188791751:Unit:=()
def tw14049303066457858329:Unit:=()
def tw6513313248935043864:Unit:=()
def tw1089314499495490562:Unit:=()
def tw1136349040833014752:Unit:=()
def tw8402060009315101983:Unit:=()
def tw15027312866641905855:Unit:=()
def tw5941782528308587311:Unit:=()
def tw5836120497766970612:Unit:=()
def tw16993165203491176247:Unit:=()
def tw7096362696951895224:Unit:=()
def tw16879496090357359601:Unit:=()
def tw2072418718453552973:Unit:=()
def tw10528881582889809250:Unit:=()
def tw17351587707266135360:Unit:=()
def tw4096046491669044282:Unit:=()
def tw15027477937723190941:Unit:=()
def tw5517263138267398152:Unit:=()
def tw2707866046826058134:Unit:=()
def tw7351704506924630586:Unit:=()
def tw1091126923706586344:Unit:=()
def tw10849758359030994633:Unit:=()
def tw8387110087855589953:Unit:=()
def tw6119931984944688827:Unit:=()
def tw6455678529703552513:Unit:=()
def tw5721507135147984249:Unit:=()
def tw8184907793489333474:Unit:=()
def tw699598925454935501:Unit:=()
def tw1166785098920939227:Unit:=()
def tw13131966253328975395:Unit:=()
def tw5345615119179069703:Unit:=()
def tw15843577027638260588:Unit:=()
def tw16620086703569836463:Unit:=()
def tw11729620449446391643:Unit:=()
def tw15881896566055843133:Unit:=()
def tw1646401405421736247:Unit:=()
def tw5437225864163194699:Unit:=()
def tw2124026339482291521:Unit:=()
def tw8561980658896393840:Unit:=()
def tw15649879979171591543:Unit:=()
def tw6383666133093141521:Unit:=()
def tw6788452472620983342:Unit:=()
end PySem.W.Fast
set_option maxRecDepth 100000 in
set_option maxHeartbeats 0 in
theorem PySem.Challenge.cw_ledtowish_k29_whole_longer_rows_holds : PySem.Challenge.rw_ledtowish_k29_whole_longer_rows.Holds := by
 w_on; o_law; k_head; (case hw=>w_witness2)
 k_fill
 refine Law.walk (l:=PySem.Challenge.rw_ledtowish_k29_whole_longer_rows) rfl rfl (fun w h Y=>PySem.W.kIn_of Y) ?F
 case F =>
  intro w mg fa h KX G hmg
  refine' Law.all_mk KX G hmg ?a_choices_of ?l_choices_of ?c_choices_of ?k_choices_of ?a_splits_of ?l_splits_of ?c_splits_of ?k_splits_of ?a_plus ?l_plus ?c_plus ?k_plus ?a_less ?l_less ?c_less ?k_less ?a_times ?l_times ?c_times ?k_times ?a_share ?l_share ?c_share ?k_share ?a_worth_by ?l_worth_by ?c_worth_by ?k_worth_by ?a_deeds_between ?l_deeds_between ?c_deeds_between ?k_deeds_between ?a_chosen_of ?l_chosen_of ?c_chosen_of ?k_chosen_of ?a_table_of ?l_table_of ?c_table_of ?k_table_of ?a_row_for ?l_row_for ?c_row_for ?k_row_for ?a_law_number ?l_law_number ?c_law_number ?k_law_number ?a_met_at_all ?l_met_at_all ?c_met_at_all ?k_met_at_all ?a_rows_of ?l_rows_of ?c_rows_of ?k_rows_of ?a_rows_that_meet ?l_rows_that_meet ?c_rows_that_meet ?k_rows_that_meet ?a_order_of ?l_order_of ?c_order_of ?k_order_of ?a_forms_by ?l_forms_by ?c_forms_by ?k_forms_by ?a_all_forms ?l_all_forms ?c_all_forms ?k_all_forms ?a_many_forms ?l_many_forms ?c_many_forms ?k_many_forms ?a_rows_with ?l_rows_with ?c_rows_with ?k_rows_with ?a_law ?l_law ?c_law ?k_law ?a_DEEDS ?l_DEEDS ?k_DEEDS ?e_DEEDS_plus ?e_DEEDS_less ?e_DEEDS_times ?e_DEEDS_share ?z_max ?z_min ?z_sorted ?z_any ?z_list ?z_set ?z_abs ?sm_DEEDS ?kt_DEEDS ?a_WishError ?l_WishError ?t_WishError ?kp_WishError ?ga_WishError ?gh_WishError ?gc_WishError ?sa_WishError ?a_NoWay ?l_NoWay ?t_NoWay ?kp_NoWay ?ga_NoWay ?gh_NoWay ?gc_NoWay ?sa_NoWay ?i_NoWay ?y_init ?l_init ?cd_ok_init ?k_init ?w_NoWay ?z_len ?z_sum ?z_range ?z_isinstance ?z_int ?z_str ?z_bool ?z_tuple ?z_zip
  (case a_choices_of=>k_is)
  (case l_choices_of=>k_is)
  (case c_choices_of=>k_is)
  (case k_choices_of=>k_is)
  (case a_splits_of=>k_is)
  (case l_splits_of=>k_is)
  (case c_splits_of=>k_is)
  (case k_splits_of=>k_is)
  (case a_plus=>k_is)
  (case l_plus=>k_is)
  (case c_plus=>k_is)
  (case k_plus=>k_is)
  (case a_less=>k_is)
  (case l_less=>k_is)
  (case c_less=>k_is)
  (case k_less=>k_is)
  (case a_times=>k_is)
  (case l_times=>k_is)
  (case c_times=>k_is)
  (case k_times=>k_is)
  (case a_share=>k_is)
  (case l_share=>k_is)
  (case c_share=>k_is)
  (case k_share=>k_is)
  (case a_worth_by=>k_is)
  (case l_worth_by=>k_is)
  (case c_worth_by=>k_is)
  (case k_worth_by=>k_is)
  (case a_deeds_between=>k_is)
  (case l_deeds_between=>k_is)
  (case c_deeds_between=>k_is)
  (case k_deeds_between=>k_is)
  (case a_chosen_of=>k_is)
  (case l_chosen_of=>k_is)
  (case c_chosen_of=>k_is)
  (case k_chosen_of=>k_is)
  (case a_table_of=>k_is)
  (case l_table_of=>k_is)
  (case c_table_of=>k_is)
  (case k_table_of=>k_is)
  (case a_row_for=>k_is)
  (case l_row_for=>k_is)
  (case c_row_for=>k_is)
  (case k_row_for=>k_is)
  (case a_law_number=>k_is)
  (case l_law_number=>k_is)
  (case c_law_number=>k_is)
  (case k_law_number=>k_is)
  (case a_met_at_all=>k_is)
  (case l_met_at_all=>k_is)
  (case c_met_at_all=>k_is)
  (case k_met_at_all=>k_is)
  (case a_rows_of=>k_is)
  (case l_rows_of=>k_is)
  (case c_rows_of=>k_is)
  (case k_rows_of=>k_is)
  (case a_rows_that_meet=>k_is)
  (case l_rows_that_meet=>k_is)
  (case c_rows_that_meet=>k_is)
  (case k_rows_that_meet=>k_is)
  (case a_order_of=>k_is)
  (case l_order_of=>k_is)
  (case c_order_of=>k_is)
  (case k_order_of=>k_is)
  (case a_forms_by=>k_is)
  (case l_forms_by=>k_is)
  (case c_forms_by=>k_is)
  (case k_forms_by=>k_is)
  (case a_all_forms=>k_is)
  (case l_all_forms=>k_is)
  (case c_all_forms=>k_is)
  (case k_all_forms=>k_is)
  (case a_many_forms=>k_is)
  (case l_many_forms=>k_is)
  (case c_many_forms=>k_is)
  (case k_many_forms=>k_is)
  (case a_rows_with=>k_is)
  (case l_rows_with=>k_is)
  (case c_rows_with=>k_is)
  (case k_rows_with=>k_is)
  (case a_law=>k_is)
  (case l_law=>k_is)
  (case c_law=>k_is)
  (case k_law=>k_is)
  (case a_DEEDS=>k_is)
  (case l_DEEDS=>k_is)
  (case k_DEEDS=>k_keys)
  (case e_DEEDS_plus=>k_is)
  (case e_DEEDS_less=>k_is)
  (case e_DEEDS_times=>k_is)
  (case e_DEEDS_share=>k_is)
  (case z_max=>k_is)
  (case z_min=>k_is)
  (case z_sorted=>k_is)
  (case z_any=>k_is)
  (case z_list=>k_is)
  (case z_set=>k_is)
  (case z_abs=>k_is)
  (case sm_DEEDS=>decide +kernel)
  (case kt_DEEDS=>exact .cons rfl (.cons rfl (.cons rfl (.cons rfl .nil))))
  (case a_WishError=>k_is)
  (case l_WishError=>k_is)
  (case t_WishError=>kernel_rfl)
  (case kp_WishError=>k_is)
  (case ga_WishError=>k_is)
  (case gh_WishError=>k_is)
  (case gc_WishError=>k_is)
  (case sa_WishError=>k_is)
  (case a_NoWay=>k_is)
  (case l_NoWay=>k_is)
  (case t_NoWay=>kernel_rfl)
  (case kp_NoWay=>k_is)
  (case ga_NoWay=>k_is)
  (case gh_NoWay=>k_is)
  (case gc_NoWay=>k_is)
  (case sa_NoWay=>k_is)
  (case i_NoWay=>k_is)
  (case y_init=>k_is)
  (case l_init=>k_is)
  (case cd_ok_init=>k_is)
  (case k_init=>k_is)
  (case w_NoWay=>k_is)
  (case z_len=>k_is)
  (case z_sum=>k_is)
  (case z_range=>k_is)
  (case z_isinstance=>k_is)
  (case z_int=>k_is)
  (case z_str=>k_is)
  (case z_bool=>k_is)
  (case z_tuple=>k_is)
  (case z_zip=>k_is)
#print axioms PySem.Challenge.cw_ledtowish_k29_whole_longer_rows_holds
