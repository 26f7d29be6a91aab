import PyProof.Rows.All
import Wide.All
import OpenK.AllK
import Wide.FinOn
import Lean
import PyProof.EqAt
import PyProof.EqKinds
import PyProof.TupleCall
import PyProof.NeKinds
import PyProof.ZipIter
import KE.KIntText
import PyProof.StrLawsIn
import PyProof.DictItems
import PyProof.NsDelKeeps
import PyProof.StrWalks
import PyProof.StrCalls6
import PyProof.MeetsStr3
import PyProof.Rows.StrStrike
import PySem.Challenge.RW_ledtowish_k05_texts_of_none
set_option Elab.async false
set_option linter.all false
set_option maxRecDepth 100000
/-! THE HAND LAYER, for ints, bools, texts, own classes, LISTS and tuples (index, slices, in, append, pop ..), calls, loops. Paste it whole ahead of your own text; what your proof does not reach may be deleted. -/
namespace L2
open PySem PySem.Spec PyProof.Rows

/-- a key: an int or a str -/
abbrev Key := Sum Int Str
def keyIs : Key → Value → Bool
  | .inl k, v => Value.isInt k v
  | .inr x, v => Value.isStrOf x v
def keyH (w : World) : Key → Int
  | .inl k => hashInt k
  | .inr x => hashStr w x
theorem keyIs_shape : ∀ {k : Key} {v : Value}, keyIs k v = true → (∃ i t, k = Sum.inl i ∧ v = Value.int i t) ∨ (∃ x t, k = Sum.inr x ∧ v = Value.str x t)
  | .inl i, v, h => by
    obtain ⟨t, e⟩ := Value.isInt_shape (k := i) (v := v) h
    exact .inl ⟨i, t, rfl, e⟩
  | .inr x, v, h => by
    obtain ⟨t, e⟩ := Value.isStrOf_shape (x := x) (v := v) h
    exact .inr ⟨x, t, rfl, e⟩
theorem key_ll (a b : Int) : decide ((Sum.inl a : Key) = Sum.inl b) = (a == b) := by
  by_cases e : a = b
  · subst e; simp
  · have h : ¬ (Sum.inl a : Key) = Sum.inl b := fun q => e (Sum.inl.inj q)
    rw [decide_eq_false h]
    exact (beq_eq_false_iff_ne.mpr e).symm
theorem key_rr (a b : Str) : decide ((Sum.inr a : Key) = Sum.inr b) = decide (a = b) := by
  by_cases e : a = b
  · subst e; simp
  · have h : ¬ (Sum.inr a : Key) = Sum.inr b := fun q => e (Sum.inr.inj q)
    rw [decide_eq_false h, decide_eq_false e]
theorem key_lr (a : Int) (b : Str) : decide ((Sum.inl a : Key) = Sum.inr b) = false := decide_eq_false (fun q => nomatch q)
theorem key_rl (a : Str) (b : Int) : decide ((Sum.inr a : Key) = Sum.inl b) = false := decide_eq_false (fun q => nomatch q)

def mixKind (prog : Program) (w : World) : PySem.KeyKind prog w Key where
  is := keyIs
  hash := keyH w
  inj := fun v a b ha hb => by
    rcases keyIs_shape ha with ⟨i, t, rfl, rfl⟩ | ⟨x, t, rfl, rfl⟩
    · rcases keyIs_shape hb with ⟨j, u, rfl, e⟩ | ⟨y, u, rfl, e⟩
      · injection e with e1 _; rw [e1]
      · exact nomatch e
    · rcases keyIs_shape hb with ⟨j, u, rfl, e⟩ | ⟨y, u, rfl, e⟩
      · exact nomatch e
      · injection e with e1 _; rw [e1]
  byValue := fun k v h => by
    rcases keyIs_shape h with ⟨i, t, rfl, rfl⟩ | ⟨x, t, rfl, rfl⟩ <;> rfl
  pyHash := fun hv h => by
    rcases keyIs_shape hv with ⟨i, t, rfl, rfl⟩ | ⟨x, t, rfl, rfl⟩
    · exact wpAny_pyHash_int h
    · exact wpAny_pyHash_str h
  eqBool := fun hu hv h => by
    rcases keyIs_shape hu with ⟨i, t, rfl, rfl⟩ | ⟨x, t, rfl, rfl⟩
    · rcases keyIs_shape hv with ⟨j, u, rfl, rfl⟩ | ⟨y, u, rfl, rfl⟩
      · rw [key_ll] at h; exact wpAny_eqBool_int h
      · rw [key_lr] at h; exact SeqAt.EqAt.int_str i t y u _ _ _ _ h
    · rcases keyIs_shape hv with ⟨j, u, rfl, rfl⟩ | ⟨y, u, rfl, rfl⟩
      · rw [key_rl] at h; exact SeqAt.EqAt.str_int x t j u _ _ _ _ h
      · rw [key_rr] at h; exact wpAny_eqBool_str h
  «strs» := fun k x t v h => by
    rcases keyIs_shape h with ⟨i, u, rfl, e⟩ | ⟨y, u, rfl, e⟩
    · exact nomatch e
    · injection e with e1 _
      subst e1
      cases v <;> rfl

end L2

namespace L2
open PySem PySem.Spec PyProof.Rows

/-- a value, without the heap -/
inductive V where
  | non | bl (b : Bool) | int (i : Int) | str (x : Str) | byt (b : Array UInt8) | flt (b : UInt64) | ref (a : Addr) | ty (n : String)
  deriving DecidableEq

def RelV : V → Value → Prop
  | .non, u => u = Value.none
  | .bl b, u => u = Value.bool b
  | .int i, u => ∃ t, u = Value.int i t
  | .str x, u => ∃ t, u = Value.str x t
  | .byt b, u => ∃ t, u = Value.bytes b t
  | .flt b, u => ∃ t, u = Value.float b t
  | .ref a, u => u = Value.ref a
  | .ty n, u => u = Value.type n

abbrev Vals : List V → List Value → Prop := Paired RelV
theorem Vals.length {xs : List V} {us : List Value} (r : Vals xs us) : xs.length = us.length := Paired.length r
theorem Vals.get : ∀ {xs : List V} {us : List Value} {i : Nat} {x : V}, Vals xs us → xs[i]? = some x → ∃ u, us[i]? = some u ∧ RelV x u
  | _, _, _, _, .nil, e => by simp at e
  | _, _, 0, _, .cons r _, e => by simp at e; subst e; exact ⟨_, rfl, r⟩
  | _, _, i + 1, x, .cons _ t, e => by
    obtain ⟨u, h1, h2⟩ := Vals.get (i := i) (x := x) t (by simpa using e)
    exact ⟨u, by simpa using h1, h2⟩
theorem Vals.set {x : V} {u : Value} (r : RelV x u) : ∀ {xs : List V} {us : List Value} (i : Nat), Vals xs us → Vals (xs.set i x) (us.set i u)
  | _, _, _, .nil => .nil
  | _, _, 0, .cons _ t => .cons r t
  | _, _, i + 1, .cons q t => .cons q (Vals.set r i t)
theorem Vals.append : ∀ {xs ys : List V} {us ws : List Value}, Vals xs us → Vals ys ws → Vals (xs ++ ys) (us ++ ws)
  | _, _, _, _, .nil, s => s
  | _, _, _, _, .cons r t, s => .cons r (Vals.append t s)
theorem Vals.take : ∀ {xs : List V} {us : List Value} (n : Nat), Vals xs us → Vals (xs.take n) (us.take n)
  | _, _, 0, _ => .nil
  | _, _, _ + 1, .nil => .nil
  | _, _, n + 1, .cons r t => .cons r (Vals.take n t)
theorem Vals.drop : ∀ {xs : List V} {us : List Value} (n : Nat), Vals xs us → Vals (xs.drop n) (us.drop n)
  | _, _, 0, r => r
  | _, _, _ + 1, .nil => .nil
  | _, _, n + 1, .cons _ t => Vals.drop n t
def RelO : Option V → Option Value → Prop
  | some v, some u => RelV v u
  | none, none => True
  | _, _ => False
def KV {κ : Type} : List (κ × V) → List (κ × Value) → Prop := Paired fun (p : κ × V) (q : κ × Value) => p.1 = q.1 ∧ RelV p.2 q.2

/-- a key of a dict (00_mix): an int or a text -/
def kV : Key → V
  | .inl i => .int i
  | .inr x => .str x

/-- what stands at a tracked address -/
inductive HO where
  /-- a list -/
  | lst (xs : List V)
  /-- a tuple (never changes) -/
  | tup (xs : List V)
  /-- a dict whose keys are ints and texts; one whose keys are tuples of ints and texts (the empty one is both) -/
  | dK (kvs : List (Key × V)) | dT (kvs : List (List Key × V))
  /-- a set of ints: its members, its size -/
  | set (S : Int → Bool) (n : Nat)
  /-- an instance of the class at C, its dict at dx, its attributes -/
  | ins (C dx : Addr) (fs : List (Str × V))
  /-- the dict of the instance at x -/
  | own (x : Addr)
  /-- the dict of an exception -/
  | xd (fs : List (Str × V))
  /-- a bound method, f of x -/
  | met (f x : Addr)
  /-- a range object lo, lo + 1, .. below hi -/
  | rng (lo hi : Int)
  /-- a thing that is known to the object (the script; a dict while a loop walks it): read, never written while it is so -/
  | frz (o : Obj) (u : HO)
  /-- a code object's table -/
  | tbl (ps : Array Value)
  /-- any other thing, by what is true of its one object (a def of one's own: SetO a S n := HO.ext fun h => ..) -/
  | ext (φ : Heap → Prop)

abbrev Hp := Addr → Option HO
def upd (H : Hp) (a : Addr) (o : HO) : Hp := fun b => if b = a then some o else H b
theorem upd_same {H : Hp} {a : Addr} {o : HO} : upd H a o a = some o := by unfold upd; rw [if_pos rfl]
theorem upd_ne {H : Hp} {a b : Addr} {o : HO} (h : b ≠ a) : upd H a o b = H b := by unfold upd; rw [if_neg h]
theorem ne_of_none {H : Hp} {a b : Addr} {o : HO} (h : H a = some o) (h' : H b = none) : a ≠ b := by
  intro e; subst e; rw [h] at h'; cases h'

section
variable (P : Program) (w : World)
def ObjOk (H : Hp) (h : Heap) (a : Addr) : HO → Prop
  | .lst xs => xs.length ≤ sizeLine ∧ ∃ (its : List Value) (n : Nat), Vals xs its ∧ h.get? a = some { cls := .type "list", data := .seq its.toArray n }
  | .tup xs => xs.length ≤ sizeLine ∧ ∃ its : List Value, Vals xs its ∧ IsTup h a its.toArray
  | .dK kvs => kvs.length ≤ sizeLine ∧ (a == sysModules) = false ∧ ∃ vs, KV kvs vs ∧ h.DictOf (mixKind P w) a vs
  | .dT kvs => kvs.length ≤ sizeLine ∧ (a == sysModules) = false ∧ ∃ xs : List (List Key × Addr × Value),
      Paired (fun (p : List Key × V) (q : List Key × Addr × Value) => p.1 = q.1 ∧ H q.2.1 = some (.tup (p.1.map kV)) ∧ RelV p.2 q.2.2) kvs xs ∧
      ∃ o es ep, h.get? a = some o ∧ o.ExactDict ∧ o.data = .dict es ep ∧ es.toList = xs.map (entryOfKey (tupleKind (mixKind P w))) ∧ (xs.map (·.1)).Nodup
  | .set S n => h.SetOf (intKind P w) a S n
  | .ins C dx fs => H dx = some (.own a) ∧ fs.length ≤ 1000 ∧ dx ≠ a ∧ h.get? a = some (PySem.W.instObj C dx) ∧
      ∃ mA, h.Ns1 dx mA ∧ (∀ f, RelO (fs.lookup f) (mA f)) ∧ PySem.Within mA (fs.map (·.1))
  | .own _ => ∃ o, h.get? a = some o
  | .xd fs => ∃ mA, h.Ns1 a mA ∧ ∀ f, RelO (fs.lookup f) (mA f)
  | .rng lo hi => ∃ t u v, h.get? a = some { cls := .type "range", data := .fields #[.int lo t, .int hi u, .int 1 v] }
  | .frz o u => h.get? a = some o ∧ ObjOk H h a u
  | .tbl ps => h.get? a = some { cls := .none, data := .fields ps }
  | .met f x => h.get? a = some (PySem.W.methodObj (.ref f) (.ref x))
  | .ext φ => φ h ∧ (∃ o, h.get? a = some o) ∧ ∀ h1 h2 : Heap, φ h1 → (∀ o, h1.get? a = some o → h2.get? a = some o) → φ h2
/-- the abstract heap is held -/
def HOk (H : Hp) (h : Heap) : Prop := ∀ a o, H a = some o → ObjOk P w H h a o
end

section
variable {P : Program} {w : World} {H H' : Hp} {h h' : Heap} {a : Addr} {o : HO}
theorem ObjOk.lt (x : ObjOk P w H h a o) : a < h.objs.size := by
  cases o with
  | lst xs => obtain ⟨_, _, _, _, e⟩ := x; exact Heap.lt_size e
  | tup xs => obtain ⟨_, _, _, p⟩ := x; exact p.lt
  | dK kvs => obtain ⟨_, _, _, _, o, _, _, e, _⟩ := x; exact Heap.lt_size e
  | dT kvs => obtain ⟨_, _, _, _, o, _, _, e, _⟩ := x; exact Heap.lt_size e
  | set S n => obtain ⟨o, _, _, _, e, _⟩ := x; exact Heap.lt_size e
  | ins C dx fs => obtain ⟨_, _, _, e, _⟩ := x; exact Heap.lt_size e
  | own y => obtain ⟨_, e⟩ := x; exact Heap.lt_size e
  | xd fs => obtain ⟨_, ⟨_, _, _, e, _⟩, _⟩ := x; exact Heap.lt_size e
  | rng lo hi => obtain ⟨_, _, _, e⟩ := x; exact Heap.lt_size e
  | frz ob u => obtain ⟨e, _⟩ := x; exact Heap.lt_size e
  | tbl ps => exact Heap.lt_size (show h.get? a = some _ from x)
  | met f y => exact Heap.lt_size (show h.get? a = some _ from x)
  | ext φ => obtain ⟨_, ⟨_, e⟩, _⟩ := x; exact Heap.lt_size e
theorem Paired.mapP {α β : Type} {F G : α → β → Prop} : ∀ {l₁ : List α} {l₂ : List β}, Paired F l₁ l₂ → (∀ a b, F a b → G a b) → Paired G l₁ l₂
  | _, _, .nil, _ => .nil
  | _, _, .cons r t, f => .cons (f _ _ r) (Paired.mapP t f)
/-- what an object's description leans on: its own object, its own dict, the tuples -/
theorem ObjOk.stay (x : ObjOk P w H h a o) (k : ∀ b u, (b = a ∨ H b = some (.own a)) → h.get? b = some u → h'.get? b = some u)
    (ho : ∀ b, H b = some (.own a) → H' b = some (.own a)) (ht : ∀ b xs, H b = some (.tup xs) → H' b = some (.tup xs)) : ObjOk P w H' h' a o := by
  induction o with
  | lst xs => obtain ⟨z, its, n, r, e⟩ := x; exact ⟨z, its, n, r, k _ _ (.inl rfl) e⟩
  | tup xs => obtain ⟨z, its, r, ob, e, c⟩ := x; exact ⟨z, its, r, ob, k _ _ (.inl rfl) e, c⟩
  | dK kvs => obtain ⟨z, y, vs, r, ob, es, ep, e, c⟩ := x; exact ⟨z, y, vs, r, ob, es, ep, k _ _ (.inl rfl) e, c⟩
  | dT kvs =>
    obtain ⟨z, y, xs, r, ob, es, ep, e, c⟩ := x
    exact ⟨z, y, xs, Paired.mapP r fun p q z => ⟨z.1, ht _ _ z.2.1, z.2.2⟩, ob, es, ep, k _ _ (.inl rfl) e, c⟩
  | set S n => obtain ⟨ob, es, ep, t, e, c⟩ := x; exact ⟨ob, es, ep, t, k _ _ (.inl rfl) e, c⟩
  | ins C dx fs =>
    obtain ⟨d, z, ne, e, mA, ⟨od, es, ep, e2, c⟩, r⟩ := x
    exact ⟨ho _ d, z, ne, k _ _ (.inl rfl) e, mA, ⟨od, es, ep, k _ _ (.inr d) e2, c⟩, r⟩
  | own y => obtain ⟨ob, e⟩ := x; exact ⟨ob, k _ _ (.inl rfl) e⟩
  | xd fs => obtain ⟨mA, ⟨od, es, ep, e, c⟩, r⟩ := x; exact ⟨mA, ⟨od, es, ep, k _ _ (.inl rfl) e, c⟩, r⟩
  | rng lo hi => obtain ⟨t, u, v, e⟩ := x; exact ⟨t, u, v, k _ _ (.inl rfl) e⟩
  | frz ob u ih => obtain ⟨e, q⟩ := x; exact ⟨k _ _ (.inl rfl) e, ih q⟩
  | tbl ps =>
    have e : h.get? a = some { cls := .none, data := .fields ps } := x
    show h'.get? a = some { cls := .none, data := .fields ps }
    exact k a _ (.inl rfl) e
  | met f y =>
    have e : h.get? a = some (PySem.W.methodObj (.ref f) (.ref y)) := x
    show h'.get? a = some (PySem.W.methodObj (.ref f) (.ref y))
    exact k a _ (.inl rfl) e
  | ext φ => obtain ⟨p, ⟨o, e⟩, st⟩ := x; exact ⟨st _ _ p fun o q => k _ _ (.inl rfl) q, ⟨o, k _ _ (.inl rfl) e⟩, st⟩
theorem HOk.lt (x : HOk P w H h) (e : H a = some o) : a < h.objs.size := (x a o e).lt
theorem HOk.fresh (x : HOk P w H h) (e : h.objs.size ≤ a) : H a = none := by
  cases q : H a with
  | none => rfl
  | some u => exact absurd (Nat.lt_of_lt_of_le (x.lt q) e) (Nat.lt_irrefl _)
/-- every object of the heap is kept -/
theorem HOk.kept (x : HOk P w H h) (k : ∀ b u, h.get? b = some u → h'.get? b = some u) : HOk P w H h' := fun a o e =>
  (x a o e).stay (fun b u _ q => k b u q) (fun _ q => q) fun _ _ q => q
/-- a new object is laid and tracked -/
theorem HOk.laid (x : HOk P w H h) (k : ∀ b u, h.get? b = some u → h'.get? b = some u) (hp : h.objs.size ≤ a) (new : ObjOk P w (upd H a o) h' a o) : HOk P w (upd H a o) h' := fun b u e => by
  have hn := x.fresh hp
  by_cases hb : b = a
  · subst hb; rw [upd_same] at e; cases e; exact new
  · rw [upd_ne hb] at e
    exact (x b u e).stay (fun c v _ q => k c v q) (fun c q => by rw [upd_ne (ne_of_none q hn)]; exact q) fun c xs q => by rw [upd_ne (ne_of_none q hn)]; exact q
end

/-- what may be read as u: it is u, or a known u -/
def Rd (H : Hp) (a : Addr) (u : HO) : Prop := H a = some u ∨ ∃ o, H a = some (.frz o u)
theorem Rd.ok {P : Program} {w : World} {H : Hp} {h : Heap} {a : Addr} {u : HO} (r : Rd H a u) (x : HOk P w H h) : ObjOk P w H h a u := by
  rcases r with r | ⟨o, r⟩
  · exact x a u r
  · obtain ⟨_, q⟩ := x a _ r
    exact q
/-- what may be written -/
def Mut : Option HO → Prop
  | some (.lst _) => True
  | some (.dK _) => True
  | some (.dT _) => True
  | some (.set _ _) => True
  | some (.ins _ _ _) => True
  | some (.ext _) => True
  | _ => False
section
variable {P : Program} {w : World} {H : Hp} {h h' : Heap} {x e : Addr} {o' : HO}
/-- the object at e is changed: x itself, or the dict of the instance x -/
theorem HOk.write (ok : HOk P w H h) (mu : Mut (H x)) (he : e = x ∨ H e = some (.own x)) (k : ∀ b u, b ≠ e → h.get? b = some u → h'.get? b = some u) (heo : ∃ u, h'.get? e = some u)
    (new : ObjOk P w (upd H x o') h' x o') : HOk P w (upd H x o') h' := fun b u q => by
  have nown : ∀ c y, H c = some (.own y) → c ≠ x := fun c y r z => by subst z; rw [r] at mu; exact mu
  have ntup : ∀ c xs, H c = some (.tup xs) → c ≠ x := fun c xs r z => by subst z; rw [r] at mu; exact mu
  by_cases hb : b = x
  · subst hb; rw [upd_same] at q; cases q; exact new
  · rw [upd_ne hb] at q
    by_cases hbe : b = e
    · have q' : H b = some (.own x) := by
        rcases he with z | z
        · exact absurd (hbe.trans z) hb
        · rw [hbe]; exact z
      rw [q] at q'; cases q'
      obtain ⟨v, hv⟩ := heo
      exact ⟨v, by rw [hbe]; exact hv⟩
    · refine (ok b u q).stay (fun c v hc r => k c v ?_ r) (fun c r => by rw [upd_ne (nown c b r)]; exact r) fun c xs r => by rw [upd_ne (ntup c xs r)]; exact r
      rcases hc with rfl | hc
      · exact hbe
      · rintro rfl
        rcases he with z | z
        · exact nown c b hc z
        · rw [hc] at z; cases z; exact hb rfl
end

/-! ### kept unless tracked; of the frames at fs (the callers') the slots may change (an exception that passes writes there); of the records at ex (iterators) nothing is said -/
structure Un (fs ex : List Addr) (H H' : Hp) (h h' : Heap) : Prop where
  keep : ∀ b o, h.get? b = some o → H b = none → b ∉ fs → b ∉ ex → h'.get? b = some o
  slot : ∀ b o, h.get? b = some o → H b = none → b ∈ fs → b ∉ ex → ∃ sl, h'.get? b = some { o with slots := sl }
  free : ∀ b o, h.get? b = some o → H b = none → b ∉ ex → H' b = none
  there : ∀ b o, h.get? b = some o → b ∉ ex → ∃ o', h'.get? b = some o'
  tups : ∀ b xs, H b = some (.tup xs) → H' b = some (.tup xs)
  frzs : ∀ b o u, H b = some (.frz o u) → H' b = some (.frz o u)
  tbls : ∀ b ps, H b = some (.tbl ps) → ∃ more, H' b = some (.tbl (ps ++ more))
section
variable {fs fs' ex ex' : List Addr} {H H1 H2 : Hp} {h h1 h2 h' : Heap} {a x e : Addr} {o : HO}
theorem Un.any (u : Un fs ex H H1 h h1) {b : Addr} {ob : Obj} (q : h.get? b = some ob) (n : H b = none) (hx : b ∉ ex) : ∃ sl, h1.get? b = some { ob with slots := sl } := by
  by_cases hb : b ∈ fs
  · exact u.slot b ob q n hb hx
  · exact ⟨ob.slots, u.keep b ob q n hb hx⟩
theorem Un.kept (k : ∀ b u, h.get? b = some u → h'.get? b = some u) : Un fs ex H H h h' :=
  ⟨fun b ob q _ _ _ => k b ob q, fun b ob q _ _ _ => ⟨ob.slots, k b ob q⟩, fun _ _ _ n _ => n, fun b ob q _ => ⟨ob, k b ob q⟩, fun _ _ q => q, fun _ _ _ q => q, fun _ ps q => ⟨#[], by rw [q]; simp⟩⟩
theorem Un.refl : Un fs ex H H h h := Un.kept fun _ _ q => q
theorem Un.laid (k : ∀ b u, h.get? b = some u → h'.get? b = some u) (hp : h.objs.size ≤ a) (hn : H a = none) : Un fs ex H (upd H a o) h h' where
  keep := fun b u q _ _ _ => k b u q
  slot := fun b u q _ _ _ => ⟨u.slots, k b u q⟩
  free := fun b u q n _ => by rw [upd_ne (Nat.ne_of_lt (Nat.lt_of_lt_of_le (Heap.lt_size q) hp))]; exact n
  there := fun b u q _ => ⟨u, k b u q⟩
  tups := fun b xs q => by rw [upd_ne (ne_of_none q hn)]; exact q
  frzs := fun b u xs q => by rw [upd_ne (ne_of_none q hn)]; exact q
  tbls := fun b ps q => ⟨#[], by rw [upd_ne (ne_of_none q hn), q]; simp⟩
theorem Un.write (mu : Mut (H x)) (he : e = x ∨ H e = some (.own x)) (k : ∀ b u, b ≠ e → h.get? b = some u → h'.get? b = some u) (heo : ∃ u, h'.get? e = some u) : Un fs ex H (upd H x o) h h' := by
  have hx : ∀ b, H b = none → b ≠ x := fun b n z => by subst z; rw [n] at mu; exact mu
  have hb : ∀ b, H b = none → b ≠ e := fun b n z => by
    subst z
    rcases he with r | r
    · exact hx b n r
    · rw [n] at r; cases r
  have hm : ∀ b u, H b = some u → ¬ Mut (some u) → b ≠ x := fun b u q nm z => by subst z; rw [q] at mu; exact nm mu
  refine ⟨fun b u q n _ _ => k b u (hb b n) q, fun b u q n _ _ => ⟨u.slots, k b u (hb b n) q⟩, fun b u q n _ => by rw [upd_ne (hx b n)]; exact n, fun b u q _ => ?_,
    fun b xs q => by rw [upd_ne (hm b _ q fun z => z)]; exact q, fun b u xs q => by rw [upd_ne (hm b _ q fun z => z)]; exact q, fun b ps q => ⟨#[], by rw [upd_ne (hm b _ q fun z => z), q]; simp⟩⟩
  by_cases hbe : b = e
  · subst hbe; exact heo
  · exact ⟨u, k b u hbe q⟩
end

/-! ### the heap without what is tracked -/
def trk (h : Heap) (H : Hp) : List Addr := (List.range h.objs.size).filter fun a => (H a).isSome
def hidT (h : Heap) (H : Hp) : Heap := PySem.W.hideAll h (trk h H)
theorem hidT_size (h : Heap) (H : Hp) : (hidT h H).objs.size = h.objs.size := PySem.W.hideAll_size _ _
theorem hidT_get {h : Heap} {H : Hp} {b : Addr} {o : Obj} (e : h.get? b = some o) (n : H b = none) : (hidT h H).get? b = some o :=
  PySem.W.hideAll_get _ e fun hm => by
    have q : (H b).isSome = true := (List.mem_filter.mp hm).2
    rw [n] at q; simp at q
theorem of_hidT {h : Heap} {H : Hp} {b : Addr} {o : Obj} (e : (hidT h H).get? b = some o) : h.get? b = some o ∧ H b = none := by
  have e' : h.get? b = some o := PySem.W.of_hideAll (trk h H) e
  refine ⟨e', ?_⟩
  cases q : H b with
  | none => rfl
  | some x =>
    have hm : b ∈ trk h H := List.mem_filter.mpr ⟨List.mem_range.mpr (Heap.lt_size e'), by simp [q]⟩
    have z : (hidT h H).get? b = none := PySem.W.hideAll_none (trk h H) hm
    rw [z] at e; cases e

/-! ### OpenK's ledger, filled with every new object but one -/
end L2

namespace L2
open PySem PySem.Spec PyProof.Rows

/-- the module's facts, over the base: the heap at the law's entry without what is tracked there -/
structure Mod (K : PySem.W.Frag) (mg : Str → Option Value) (base : Heap) : Prop where
  kin : K.In base
  glob : base.Ns mainGlobals mg
  blt : ∃ mb, base.Ns builtinsNs mb ∧ ∀ x : Str, x ≠ "__name__" → mb x = bootBuiltins x
  nolimit : base.NoLimit

/-- the context: a def's body (or a comprehension's block) running. base: fixed through the whole law; s₀, H₀: the entry; outer: the frames whose slots others may change (a def's callers); stack: all frames that run;
   ex: iterators that were made ahead of the entry and are walked here (a comprehension's); fn: the names whose cells were made at the entry (a def: all; a comprehension's block: its own); calm: not within an except suite; pn: pins that every state bears; xe: what is wanted of an exception that leaves the code -/
structure Cx where
  prog : Program
  w : World
  K : PySem.W.Frag
  mg : Str → Option Value
  base : Heap
  A : Around
  N : List Str
  s₀ : Shared
  H₀ : Hp
  env : Env
  outer : List Env
  stack : List Env
  ex : List Addr
  fn : Str → Bool
  calm : Bool
  pn : List (Addr × Obj)
  xe : Value → Shared → Prop
/-- the callers' frames -/
def frs (l : List Env) : List Addr := l.filterMap (·.frame)
abbrev Cx.fs (X : Cx) : List Addr := frs X.outer

def Vis (sc : Scope) (x : Str) : Prop := sc.names.lookup x = some .local ∨ sc.names.lookup x = some .cell ∨ sc.names.lookup x = some .free
def Loc (sc : Scope) (x : Str) : Prop := sc.names.lookup x = some .local ∨ sc.names.lookup x = some .cell
def Look (env : Env) (h : Heap) (m : Str → Option Value) (x : Str) (u : Value) : Prop :=
  (env.kindOf x = some .local ∧ m x = some u) ∨ ((env.kindOf x = some .cell ∨ env.kindOf x = some .free) ∧ ∃ c, env.cells.lookup x = some c ∧ h.IsCell c (some u))

structure Cx.Ok (X : Cx) : Prop where
  mod : Mod X.K X.mg X.base
  kind : X.env.scope.kind = .function
  glob : X.env.globals = mainGlobals
  blt : X.env.builtins = builtinsNs
  above : X.s₀.heap.objs.size ≤ X.env.locals
  inj : ∀ x y c, X.env.cells.lookup x = some c → X.env.cells.lookup y = some c → x = y
  has : ∀ x, (X.env.kindOf x = some .cell ∨ X.env.kindOf x = some .free) → ∃ c, X.env.cells.lookup x = some c
  cab : ∀ x c, X.fn x = true → X.env.cells.lookup x = some c → X.s₀.heap.objs.size ≤ c
  hd : X.calm = true → X.A.handled = none
  frames : X.A.frames = some X.stack
  stk : X.stack = X.outer ∨ (X.stack = X.env :: X.outer ∧ X.env.frame = some X.env.locals)
  exf : ∀ b ∈ X.ex, b ≠ X.env.locals ∧ ∀ x c, X.env.cells.lookup x = some c → c ≠ b
  bs : ∀ b o, X.base.get? b = some o → X.s₀.heap.get? b = some o ∧ X.H₀ b = none
  bsz : X.base.objs.size ≤ X.s₀.heap.objs.size
  noex : ∀ b o, X.base.get? b = some o → b ∉ X.ex
  exfs : ∀ b ∈ X.ex, b ∉ X.fs
  funs : X.s₀.heap.FunFrames X.base X.outer
  frf : ∀ b ∈ X.fs, X.H₀ b = none

structure Inv (X : Cx) (pins : List (Addr × Obj)) (σ : List (Option V)) (H : Hp) (s : Shared) : Prop where
  ok : X.Ok
  os : s.os = X.s₀.os
  bare : AllBare s.gens
  base : Un X.fs X.ex X.H₀ H X.s₀.heap s.heap
  loc : ∃ m, s.heap.Ns X.env.locals m ∧ ∀ (i : Nat) (x : Str) (v : V), X.N[i]? = some x → σ[i]? = some (some v) → Vis X.env.scope x → ∃ u, RelV v u ∧ Look X.env s.heap m x u
  cell : ∀ x c, X.env.cells.lookup x = some c → ∃ v, s.heap.IsCell c v
  free : H X.env.locals = none
  freeC : ∀ x c, X.env.cells.lookup x = some c → H c = none
  pin : ∀ p ∈ X.pn ++ pins, s.heap.get? p.1 = some p.2 ∧ H p.1 = none ∧ p.1 ≠ X.env.locals ∧ p.1 ∉ X.fs ∧ ∀ v, p.2.data ≠ .cell v
  hok : HOk X.prog X.w H s.heap
  len : σ.length = X.N.length

section
variable {X : Cx} {pins : List (Addr × Obj)} {σ : List (Option V)} {H H' : Hp} {s : Shared} {h' : Heap}

theorem Cx.Ok.nofr (ok : X.Ok) {b : Addr} {o : Obj} (e : X.base.get? b = some o) : b ∉ X.fs := fun hb => by
  have := (ok.funs.mem hb).1
  rw [e] at this; cases this
theorem Inv.bs (I : Inv X pins σ H s) : ∀ b o, X.base.get? b = some o → s.heap.get? b = some o ∧ H b = none := fun b o e =>
  ⟨I.base.keep b o (I.ok.bs b o e).1 (I.ok.bs b o e).2 (I.ok.nofr e) (I.ok.noex b o e), I.base.free b o (I.ok.bs b o e).1 (I.ok.bs b o e).2 (I.ok.noex b o e)⟩
theorem Inv.bk (I : Inv X pins σ H s) : ∀ b o, X.base.get? b = some o → s.heap.get? b = some o := fun b o e => (I.bs b o e).1
theorem Inv.mod (I : Inv X pins σ H s) : Mod X.K X.mg X.base := I.ok.mod
theorem Inv.kIn (I : Inv X pins σ H s) : X.K.In s.heap := I.ok.mod.kin.keeps I.bk
theorem Inv.lt (I : Inv X pins σ H s) : X.env.locals < s.heap.objs.size := let ⟨_, hn, _⟩ := I.loc; hn.lt
theorem Inv.sz (I : Inv X pins σ H s) : X.s₀.heap.objs.size ≤ s.heap.objs.size := Nat.le_trans I.ok.above (Nat.le_of_lt I.lt)
theorem Inv.nofs (I : Inv X pins σ H s) {a : Addr} (h : s.heap.objs.size ≤ a) : a ∉ X.fs := fun hb => by
  obtain ⟨_, o, ho, _⟩ := I.ok.funs.mem hb
  exact absurd (Nat.lt_of_lt_of_le (Heap.lt_size ho) (Nat.le_trans I.sz h)) (Nat.lt_irrefl _)
theorem Inv.cne (I : Inv X pins σ H s) : ∀ x c, X.env.cells.lookup x = some c → c ≠ X.env.locals := fun x c e z => by
  obtain ⟨v, o, ho, hd⟩ := I.cell x c e
  obtain ⟨m, ⟨o', es, ep, ho', hd', _⟩, _⟩ := I.loc
  rw [z, ho'] at ho; cases ho; rw [hd'] at hd; cases hd
theorem Inv.funs (I : Inv X pins σ H s) : s.heap.FunFrames X.base X.outer := by
  have all : ∀ (l : List Env), (∀ b ∈ frs l, b ∈ X.fs) → X.s₀.heap.FunFrames X.base l → s.heap.FunFrames X.base l := by
    intro l
    induction l with
    | nil => intro _ _; trivial
    | cons env r ih =>
      intro hs hl
      obtain ⟨hk, ⟨L, o, hf, hn, ho, hd⟩, hr⟩ := hl
      have hL : L ∈ X.fs := hs L (by unfold frs; rw [List.filterMap_cons, hf]; exact List.mem_cons_self)
      obtain ⟨sl, e⟩ := I.base.slot L o ho (I.ok.frf L hL) hL fun z => I.ok.exfs L z hL
      exact ⟨hk, ⟨L, _, hf, hn, e, hd⟩, ih (fun b hb => hs b (by unfold frs; rw [List.filterMap_cons, hf]; exact List.mem_cons_of_mem _ hb)) hr⟩
  exact all X.outer (fun _ hb => hb) I.ok.funs

/-- the frames that run, for a call -/
theorem Inv.stack (I : Inv X pins σ H s) : s.heap.FunFrames X.base X.stack := by
  rcases I.ok.stk with e | ⟨e, hf⟩
  · rw [e]; exact I.funs
  · rw [e]
    obtain ⟨m, hn, _⟩ := I.loc
    refine .cons (by rw [I.ok.kind]; decide) hf hn ?_ I.funs
    exact Heap.get?_none_of_le (Nat.le_trans I.ok.bsz I.ok.above)
theorem Inv.stkSub (I : Inv X pins σ H s) : ∀ b ∈ frs X.stack, b ∈ X.env.locals :: X.fs := fun b hb => by
  rcases I.ok.stk with e | ⟨e, hf⟩
  · rw [e] at hb; exact List.mem_cons_of_mem _ hb
  · rw [e] at hb
    unfold frs at hb
    rw [List.filterMap_cons, hf] at hb
    exact hb
theorem Inv.stkFree (I : Inv X pins σ H s) : ∀ b ∈ frs X.stack, H b = none := fun b hb => by
  rcases List.mem_cons.mp (I.stkSub b hb) with e | hb
  · rw [e]; exact I.free
  · obtain ⟨_, o, ho, _⟩ := I.ok.funs.mem hb
    exact I.base.free b o ho (I.ok.frf b hb) fun z => I.ok.exfs b z hb

/-- THE STEP: the untracked objects but the frame and the records at ch are kept (the callers' frames up to slots), the frame's map is kept, the new abstract heap is held -/
theorem Inv.step {g' : Array GenState} {t' : Nat} {d' : Drawn} {ch : List Addr} (I : Inv X pins σ H s)
    (hch : ∀ b ∈ ch, (b ∈ X.ex ∨ X.s₀.heap.objs.size ≤ b) ∧ b ≠ X.env.locals ∧ (∀ x c, X.env.cells.lookup x = some c → c ≠ b) ∧ ∀ p ∈ X.pn ++ pins, p.1 ≠ b)
    (keep : ∀ b o, b ≠ X.env.locals → b ∉ X.fs → b ∉ ch → s.heap.get? b = some o → H b = none → h'.get? b = some o)
    (slot : ∀ b o, b ≠ X.env.locals → b ∈ X.fs → b ∉ ch → s.heap.get? b = some o → H b = none → ∃ sl, h'.get? b = some { o with slots := sl }) (free : ∀ b o, b ∉ ch → s.heap.get? b = some o → H b = none → H' b = none)
    (there : ∀ b o, b ∉ ch → s.heap.get? b = some o → ∃ o', h'.get? b = some o')
    (tups : ∀ b xs, H b = some (.tup xs) → H' b = some (.tup xs)) (frzs : ∀ b o u, H b = some (.frz o u) → H' b = some (.frz o u)) (tbls : ∀ b ps, H b = some (.tbl ps) → ∃ more, H' b = some (.tbl (ps ++ more)))
    (ns : ∀ m, s.heap.Ns X.env.locals m → h'.Ns X.env.locals m) (hok : HOk X.prog X.w H' h') (hg : AllBare g') :
    Inv X pins σ H' { s with heap := h', gens := g', drawn := d', toks := t' } := by
  have neL : ∀ b o, X.s₀.heap.get? b = some o → b ≠ X.env.locals := fun b o e => Nat.ne_of_lt (Nat.lt_of_lt_of_le (Heap.lt_size e) I.ok.above)
  have neC : ∀ b o, X.s₀.heap.get? b = some o → b ∉ X.ex → b ∉ ch := fun b o e hx hb => by
    rcases (hch b hb).1 with z | z
    · exact hx z
    · exact absurd (Nat.lt_of_lt_of_le (Heap.lt_size e) z) (Nat.lt_irrefl _)
  have cellK : ∀ x c, X.env.cells.lookup x = some c → ∀ v, s.heap.IsCell c v → h'.IsCell c v := fun x c e v ⟨o, ho, hd⟩ => by
    have nch : c ∉ ch := fun z => (hch c z).2.2.1 x c e rfl
    by_cases hc : c ∈ X.fs
    · obtain ⟨sl, q⟩ := slot c o (I.cne x c e) hc nch ho (I.freeC x c e)
      exact ⟨_, q, hd⟩
    · exact ⟨o, keep c o (I.cne x c e) hc nch ho (I.freeC x c e), hd⟩
  refine ⟨I.ok, I.os, hg, ⟨fun b o e n hb hx => ?_, fun b o e n hb hx => ?_, fun b o e n hx => ?_, fun b o e hx => ?_, fun b xs e => tups b xs (I.base.tups b xs e), fun b o xs e => frzs b o xs (I.base.frzs b o xs e), fun b ps e => ?_⟩, ?_, fun x c e => ?_, ?_, fun x c e => ?_, fun p hp => ?_, hok, I.len⟩
  · exact keep b o (neL b o e) hb (neC b o e hx) (I.base.keep b o e n hb hx) (I.base.free b o e n hx)
  · obtain ⟨sl, e1⟩ := I.base.slot b o e n hb hx
    obtain ⟨sl', e2⟩ := slot b _ (neL b o e) hb (neC b o e hx) e1 (I.base.free b o e n hx)
    exact ⟨sl', e2⟩
  · obtain ⟨o', e1⟩ := I.base.there b o e hx
    exact free b o' (neC b o e hx) e1 (I.base.free b o e n hx)
  · obtain ⟨o', e1⟩ := I.base.there b o e hx
    exact there b o' (neC b o e hx) e1
  · obtain ⟨m1, e1⟩ := I.base.tbls b ps e
    obtain ⟨m2, e2⟩ := tbls b _ e1
    exact ⟨m1 ++ m2, by rw [e2, Array.append_assoc]⟩
  · obtain ⟨m, hn, hl⟩ := I.loc
    refine ⟨m, ns m hn, fun i x v e1 e2 e3 => ?_⟩
    obtain ⟨u, r, l⟩ := hl i x v e1 e2 e3
    refine ⟨u, r, ?_⟩
    rcases l with l | ⟨k, c, e, z⟩
    · exact .inl l
    · exact .inr ⟨k, c, e, cellK x c e _ z⟩
  · obtain ⟨v, z⟩ := I.cell x c e
    exact ⟨v, cellK x c e v z⟩
  · obtain ⟨m, ⟨o, _, _, ho, _⟩, _⟩ := I.loc
    exact free _ o (fun z => (hch _ z).2.1 rfl) ho I.free
  · obtain ⟨v, o, ho, hd⟩ := I.cell x c e
    exact free c o (fun z => (hch c z).2.2.1 x c e rfl) ho (I.freeC x c e)
  · obtain ⟨e, n, ne, nf, d⟩ := I.pin p hp
    have nch : p.1 ∉ ch := fun z => (hch p.1 z).2.2.2 p hp rfl
    exact ⟨keep p.1 p.2 ne nf nch e n, free p.1 p.2 nch e n, ne, nf, d⟩
/-- .. where the frame's own object is kept too -/
theorem Inv.un {t' : Nat} (I : Inv X pins σ H s) (u : Un X.fs [] H H' s.heap h') (hok : HOk X.prog X.w H' h') : Inv X pins σ H' { s with heap := h', toks := t' } := by
  obtain ⟨m, ⟨o, es, ep, ho, r⟩, _⟩ := id I.loc
  obtain ⟨sl, hL⟩ := u.any ho I.free (by simp)
  exact I.step (g' := s.gens) (d' := s.drawn) (ch := []) (fun _ z => nomatch z) (fun b o _ hb _ e n => u.keep b o e n hb (by simp)) (fun b o _ hb _ e n => u.slot b o e n hb (by simp)) (fun b o _ e n => u.free b o e n (by simp)) (fun b o _ e => u.there b o e (by simp)) u.tups u.frzs u.tbls (fun m' hm => by
    obtain ⟨o', es', ep', ho', r'⟩ := hm
    rw [ho] at ho'; cases ho'
    exact ⟨_, es', ep', hL, r'⟩) hok I.bare
/-- behind a call (or a comprehension's block): the slots of this frame may have changed too, the records at ch may have turned -/
theorem Inv.call {g' : Array GenState} {t' : Nat} {d' : Drawn} {ch : List Addr} (I : Inv X pins σ H s) (u : Un (frs X.stack) ch H H' s.heap h') (hok : HOk X.prog X.w H' h') (hg : AllBare g')
    (hch : ∀ b ∈ ch, (b ∈ X.ex ∨ X.s₀.heap.objs.size ≤ b) ∧ b ≠ X.env.locals ∧ (∀ x c, X.env.cells.lookup x = some c → c ≠ b) ∧ ∀ p ∈ X.pn ++ pins, p.1 ≠ b) :
    Inv X pins σ H' { s with heap := h', gens := g', drawn := d', toks := t' } := by
  obtain ⟨m, ⟨o, es, ep, ho, r⟩, _⟩ := id I.loc
  obtain ⟨sl, hL⟩ := u.any ho I.free fun z => (hch _ z).2.1 rfl
  exact I.step (ch := ch) hch (fun b o hL hb hc e n => u.keep b o e n (fun z => (List.mem_cons.mp (I.stkSub b z)).elim hL hb) hc) (fun b o _ _ hc e n => u.any e n hc) (fun b o hc e n => u.free b o e n hc) (fun b o hc e => u.there b o e hc) u.tups u.frzs u.tbls (fun m' hm => by
    obtain ⟨o', es', ep', ho', r'⟩ := hm
    rw [ho] at ho'; cases ho'
    exact ⟨_, es', ep', hL, r'⟩) hok hg
/-- an untracked record of ours (an iterator) has turned -/
theorem Inv.turned {t' : Nat} {it : Addr} (I : Inv X pins σ H s) (k : ∀ b o, b ≠ it → s.heap.get? b = some o → h'.get? b = some o) (hn : H it = none) (hL : it ≠ X.env.locals)
    (h1 : it ∈ X.ex ∨ X.s₀.heap.objs.size ≤ it) (h2 : ∀ x c, X.env.cells.lookup x = some c → c ≠ it) (h3 : ∀ p ∈ X.pn ++ pins, p.1 ≠ it) : Inv X pins σ H { s with heap := h', toks := t' } := by
  have nit : ∀ b u, H b = some u → b ≠ it := fun b u e z => by rw [z, hn] at e; cases e
  refine I.step (g' := s.gens) (d' := s.drawn) (ch := [it]) (fun b hb => ?_) (fun b o _ _ hc e _ => k b o (fun z => hc (by simp [z])) e) (fun b o _ _ hc e _ => ⟨o.slots, k b o (fun z => hc (by simp [z])) e⟩) (fun _ _ _ _ n => n)
    (fun b o hc e => ⟨o, k b o (fun z => hc (by simp [z])) e⟩) (fun _ _ e => e) (fun _ _ _ e => e) (fun b ps e => ⟨#[], by rw [e]; simp⟩) (fun m hm => ?_) (fun b u e => ?_) I.bare
  · have e : b = it := by simpa using hb
    subst e
    exact ⟨h1, hL, h2, h3⟩
  · obtain ⟨o, es, ep, ho, r⟩ := hm
    exact ⟨o, es, ep, k _ o (Ne.symm hL) ho, r⟩
  · refine (I.hok b u e).stay (fun c v hc q => k c v ?_ q) (fun _ q => q) fun _ _ q => q
    rcases hc with z | z
    · rw [z]; exact nit b u e
    · exact nit c _ z
theorem Inv.tok (I : Inv X pins σ H s) (t : Nat) : Inv X pins σ H { s with toks := t } := I.un (h' := s.heap) (t' := t) Un.refl I.hok
/-- all objects kept -/
theorem Inv.kept {t' : Nat} (I : Inv X pins σ H s) (k : ∀ b u, s.heap.get? b = some u → h'.get? b = some u) : Inv X pins σ H { s with heap := h', toks := t' } := I.un (Un.kept k) (I.hok.kept k)
/-- a new object laid and tracked -/
theorem Inv.laid {a : Addr} {o : HO} {t' : Nat} (I : Inv X pins σ H s) (k : ∀ b u, s.heap.get? b = some u → h'.get? b = some u) (hp : s.heap.objs.size ≤ a) (new : ObjOk X.prog X.w (upd H a o) h' a o) :
    Inv X pins σ (upd H a o) { s with heap := h', toks := t' } := I.un (Un.laid k hp (I.hok.fresh hp)) (I.hok.laid k hp new)
/-- an object written -/
theorem Inv.write {x e : Addr} {o : HO} {t' : Nat} (I : Inv X pins σ H s) (mu : Mut (H x)) (he : e = x ∨ H e = some (.own x)) (k : ∀ b u, b ≠ e → s.heap.get? b = some u → h'.get? b = some u) (heo : ∃ u, h'.get? e = some u)
    (new : ObjOk X.prog X.w (upd H x o) h' x o) : Inv X pins σ (upd H x o) { s with heap := h', toks := t' } := I.un (Un.write mu he k heo) (I.hok.write mu he k heo new)
theorem Inv.pins_of {pins' : List (Addr × Obj)} (I : Inv X pins σ H s) (h : ∀ p ∈ pins', s.heap.get? p.1 = some p.2 ∧ H p.1 = none ∧ p.1 ≠ X.env.locals ∧ p.1 ∉ X.fs ∧ ∀ v, p.2.data ≠ .cell v) : Inv X pins' σ H s :=
  ⟨I.ok, I.os, I.bare, I.base, I.loc, I.cell, I.free, I.freeC, fun p hp => (List.mem_append.mp hp).elim (fun z => I.pin p (List.mem_append_left _ z)) (h p), I.hok, I.len⟩

theorem nodup_ix {N : List Str} (hN : N.Nodup) {i j : Nat} {x : Str} (a : N[i]? = some x) (b : N[j]? = some x) : i = j := by
  obtain ⟨h1, e1⟩ := List.getElem?_eq_some_iff.mp a
  obtain ⟨h2, e2⟩ := List.getElem?_eq_some_iff.mp b
  exact (List.getElem_inj hN).mp (e1.trans e2.symm)

/-- a name is stored; what changed -/
theorem store_ok2 {M : Model} {A : Around} {E : Value → Shared → Prop} {i : Nat} {x : Str} {v : V} {u : Value} {Q : Unit → Shared → Prop} (I : Inv X pins σ H s) (hN : X.N.Nodup) (hi : X.N[i]? = some x) (hx : Loc X.env.scope x) (r : RelV v u)
    (h : ∀ s', Inv X pins (σ.set i (some v)) H s' → (∃ a, Heap.SameBut a s.heap s'.heap ∧ (a = X.env.locals ∨ X.env.cells.lookup x = some a)) → Q () s') (hf : X.fn x = true ∨ X.env.scope.names.lookup x = some .local := by first | exact .inl rfl | exact .inr rfl | assumption) : wpAny M A (storeName X.env x u) Q E s := by
  obtain ⟨m, hn, hl⟩ := id I.loc
  have hcls : (X.env.scope.kind == .class || (X.env.scope.kind == .module && X.env.locals != X.env.globals)) = false := by rw [I.ok.kind]; rfl
  have hiσ : i < σ.length := by rw [I.len]; exact (List.getElem?_eq_some_iff.mp hi).1
  have cne := I.cne
  have tracked : ∀ {a : Addr} {h' : Heap}, (∃ o, s.heap.get? a = some o ∧ H a = none) → Heap.SameBut a s.heap h' → HOk X.prog X.w H h' := fun {a h'} ha hs b ob e => by
    obtain ⟨_, _, hfree⟩ := ha
    refine (I.hok b ob e).stay (fun c w' hc q => (hs.2 c ?_).trans q) (fun _ q => q) fun _ _ q => q
    rintro rfl
    rcases hc with rfl | hc
    · rw [hfree] at e; cases e
    · rw [hfree] at hc; cases hc
  rcases hx with hk | hk
  · refine wpAny_storeName_local hk hn (fun h' hn' hs => ?_) hcls
    obtain ⟨oL, _, _, hoL, _⟩ := id hn
    refine h _ ⟨I.ok, I.os, I.bare, ⟨fun b o e n hb hx => ?_, fun b o e n hb hx => ?_, I.base.free, fun b o e hx => ?_, I.base.tups, I.base.frzs, I.base.tbls⟩, ⟨_, hn', fun j y v' e1 e2 e3 => ?_⟩, fun y c e => ?_, I.free, I.freeC, fun p hp => ?_, tracked ⟨oL, hoL, I.free⟩ hs, by simpa using I.len⟩ ⟨_, hs, .inl rfl⟩
    · exact (hs.2 b (Nat.ne_of_lt (Nat.lt_of_lt_of_le (Heap.lt_size e) I.ok.above))).trans (I.base.keep b o e n hb hx)
    · obtain ⟨sl, e1⟩ := I.base.slot b o e n hb hx
      exact ⟨sl, (hs.2 b (Nat.ne_of_lt (Nat.lt_of_lt_of_le (Heap.lt_size e) I.ok.above))).trans e1⟩
    · obtain ⟨o', e1⟩ := I.base.there b o e hx
      exact ⟨o', (hs.2 b (Nat.ne_of_lt (Nat.lt_of_lt_of_le (Heap.lt_size e) I.ok.above))).trans e1⟩
    · by_cases hj : j = i
      · subst hj
        rw [hi] at e1; cases e1
        rw [List.getElem?_set_self hiσ] at e2
        cases e2
        exact ⟨u, r, .inl ⟨hk, by simp⟩⟩
      · rw [List.getElem?_set_ne (Ne.symm hj)] at e2
        obtain ⟨u', r', q⟩ := hl j y v' e1 e2 e3
        refine ⟨u', r', ?_⟩
        rcases q with ⟨k, e⟩ | ⟨k, c, e, z⟩
        · refine .inl ⟨k, ?_⟩
          have : y ≠ x := fun e => hj (nodup_ix hN e1 (e ▸ hi))
          simp [this, e]
        · exact .inr ⟨k, c, e, z.sameBut hs (cne y c e)⟩
    · obtain ⟨w', z⟩ := I.cell y c e
      exact ⟨w', z.sameBut hs (cne y c e)⟩
    · obtain ⟨e, n, ne, nf, d⟩ := I.pin p hp
      exact ⟨(hs.2 p.1 ne).trans e, n, ne, nf, d⟩
  · have hfn : X.fn x = true := by
      rcases hf with z | z
      · exact z
      · rw [z] at hk; cases hk
    obtain ⟨c, hc⟩ := I.ok.has x (.inl hk)
    obtain ⟨w', z⟩ := I.cell x c hc
    refine wpAny_storeName_cell I.ok.kind hk hc z (fun h' hc' hs => ?_)
    obtain ⟨oc, hoc, hocd⟩ := id z
    refine h { s with heap := h' } ⟨I.ok, I.os, I.bare, ⟨fun b o e n hb hx => ?_, fun b o e n hb hx => ?_, I.base.free, fun b o e hx => ?_, I.base.tups, I.base.frzs, I.base.tbls⟩, ⟨m, hn.sameBut hs (Ne.symm (cne x c hc)), fun j y v' e1 e2 e3 => ?_⟩, fun y c' e => ?_, I.free, I.freeC, fun p hp => ?_, tracked ⟨oc, hoc, I.freeC x c hc⟩ hs, by simpa using I.len⟩ ⟨c, hs, .inr hc⟩
    · exact (hs.2 b (Nat.ne_of_lt (Nat.lt_of_lt_of_le (Heap.lt_size e) (I.ok.cab x c hfn hc)))).trans (I.base.keep b o e n hb hx)
    · obtain ⟨sl, e1⟩ := I.base.slot b o e n hb hx
      exact ⟨sl, (hs.2 b (Nat.ne_of_lt (Nat.lt_of_lt_of_le (Heap.lt_size e) (I.ok.cab x c hfn hc)))).trans e1⟩
    · obtain ⟨o', e1⟩ := I.base.there b o e hx
      exact ⟨o', (hs.2 b (Nat.ne_of_lt (Nat.lt_of_lt_of_le (Heap.lt_size e) (I.ok.cab x c hfn hc)))).trans e1⟩
    · by_cases hj : j = i
      · subst hj
        rw [hi] at e1; cases e1
        rw [List.getElem?_set_self hiσ] at e2
        cases e2
        exact ⟨u, r, .inr ⟨.inl hk, c, hc, hc'⟩⟩
      · rw [List.getElem?_set_ne (Ne.symm hj)] at e2
        obtain ⟨u', r', q⟩ := hl j y v' e1 e2 e3
        refine ⟨u', r', ?_⟩
        rcases q with q | ⟨k, c', e, z'⟩
        · exact .inl q
        · refine .inr ⟨k, c', e, z'.sameBut hs ?_⟩
          rintro rfl
          exact hj (nodup_ix hN e1 (I.ok.inj _ _ _ e hc ▸ hi))
    · by_cases hcc : c' = c
      · subst hcc; exact ⟨_, hc'⟩
      · obtain ⟨w2, z2⟩ := I.cell y c' e
        exact ⟨w2, z2.sameBut hs hcc⟩
    · obtain ⟨e, n, ne, nf, d⟩ := I.pin p hp
      refine ⟨(hs.2 p.1 ?_).trans e, n, ne, nf, d⟩
      intro q
      rw [q, hoc] at e
      have q' : oc = p.2 := Option.some.inj e
      exact d w' (by rw [← q']; exact hocd)
theorem store_ok {M : Model} {A : Around} {E : Value → Shared → Prop} {i : Nat} {x : Str} {v : V} {u : Value} {Q : Unit → Shared → Prop} (I : Inv X pins σ H s) (hN : X.N.Nodup) (hi : X.N[i]? = some x) (hx : Loc X.env.scope x) (r : RelV v u)
    (h : ∀ s', Inv X pins (σ.set i (some v)) H s' → Q () s') (hf : X.fn x = true ∨ X.env.scope.names.lookup x = some .local := by first | exact .inl rfl | exact .inr rfl | assumption) : wpAny M A (storeName X.env x u) Q E s :=
  store_ok2 I hN hi hx r (fun s' I' _ => h s' I') hf
/-- behind a call or a block, the state as it is -/
theorem Inv.call' {s' : Shared} {ch : List Addr} (I : Inv X pins σ H s) (ho : s'.os = s.os) (u : Un (frs X.stack) ch H H' s.heap s'.heap) (hok : HOk X.prog X.w H' s'.heap) (hg : AllBare s'.gens)
    (hch : ∀ b ∈ ch, (b ∈ X.ex ∨ X.s₀.heap.objs.size ≤ b) ∧ b ≠ X.env.locals ∧ (∀ x c, X.env.cells.lookup x = some c → c ≠ b) ∧ ∀ p ∈ X.pn ++ pins, p.1 ≠ b) : Inv X pins σ H' s' := by
  obtain ⟨h', g', d', t', o'⟩ := s'
  have e : o' = s.os := ho
  subst e
  exact I.call (g' := g') (t' := t') (d' := d') u hok hg hch
end

/-! ### the judgements -/
/-- an exception: its class, its own dict's address (where it has one), the abstract heap behind it -/
abbrev XK := Value → Option Addr → Hp → Prop
abbrev St := List (Option V)
abbrev VK := V → Hp → Prop
/-- an expression's reading; a test's; an argument list's -/
abbrev TE := St → Hp → VK → Prop
abbrev TT := St → Hp → (Bool → Hp → Prop) → Prop
abbrev TA := St → Hp → (List V → Hp → Prop) → Prop
/-- what is wanted behind a statement -/
structure Ends where
  nx : St → Hp → Prop
  rt : VK
  bk : St → Hp → Prop := fun _ _ => False
  ct : St → Hp → Prop := fun _ _ => False
abbrev TS := Ends → St → Hp → Prop

def EP (X : Cx) (pins : List (Addr × Obj)) (σ : St) (Q : VK) (u : Value) (s' : Shared) : Prop := ∃ v H', Inv X pins σ H' s' ∧ RelV v u ∧ Q v H'
def TP (X : Cx) (pins : List (Addr × Obj)) (σ : St) (Q : Bool → Hp → Prop) (b : Bool) (s' : Shared) : Prop := ∃ H', Inv X pins σ H' s' ∧ Q b H'
def AP (X : Cx) (pins : List (Addr × Obj)) (σ : St) (Q : List V → Hp → Prop) (us : List Value) (s' : Shared) : Prop := ∃ vs H', Inv X pins σ H' s' ∧ Vals vs us ∧ Q vs H'
def SP (X : Cx) (pins : List (Addr × Obj)) (D : Ends) (f : Flow) (s' : Shared) : Prop :=
  match f with
  | .next => ∃ σ' H', Inv X pins σ' H' s' ∧ D.nx σ' H'
  | .brk => ∃ σ' H', Inv X pins σ' H' s' ∧ D.bk σ' H'
  | .cont => ∃ σ' H', Inv X pins σ' H' s' ∧ D.ct σ' H'
  | .ret u => ∃ v σ' H', Inv X pins σ' H' s' ∧ RelV v u ∧ D.rt v H'

def PE (X : Cx) (e : Expr) (t : TE) : Prop :=
  ∀ (pins : List (Addr × Obj)) (s : Shared) (σ : St) (H : Hp) (Q : VK), Inv X pins σ H s → t σ H Q → wpAny (model X.prog X.w) X.A (eval e X.env) (EP X pins σ Q) X.xe s
def PT (X : Cx) (e : Expr) (t : TT) : Prop :=
  ∀ (pins : List (Addr × Obj)) (s : Shared) (σ : St) (H : Hp) (Q : Bool → Hp → Prop), Inv X pins σ H s → t σ H Q → wpAny (model X.prog X.w) X.A (isTrue e X.env (eval e X.env)) (TP X pins σ Q) X.xe s
/-- a test whatever its 'whole' is (and, or) -/
def PW (X : Cx) (e : Expr) (t : TT) : Prop :=
  ∀ (whole : Sem Value) (pins : List (Addr × Obj)) (s : Shared) (σ : St) (H : Hp) (Q : Bool → Hp → Prop), Inv X pins σ H s → t σ H Q → wpAny (model X.prog X.w) X.A (isTrue e X.env whole) (TP X pins σ Q) X.xe s
theorem PW.pt {X : Cx} {e : Expr} {t : TT} (h : PW X e t) : PT X e t := h _
/-- an argument list (no star), from the left -/
def PA (X : Cx) (es : List Expr) (t : TA) : Prop :=
  ∀ (pos : Pos) (pins : List (Addr × Obj)) (s : Shared) (σ : St) (H : Hp) (Q : List V → Hp → Prop), Inv X pins σ H s → t σ H Q → wpAny (model X.prog X.w) X.A (spliced (backTo pos (starEach es X.env))) (AP X pins σ Q) X.xe s
def PS (X : Cx) (st : Stmt) (t : TS) : Prop :=
  ∀ (pins : List (Addr × Obj)) (s : Shared) (σ : St) (H : Hp) (D : Ends), Inv X pins σ H s → t D σ H → wpAny (model X.prog X.w) X.A (exec st X.env) (SP X pins D) X.xe s
def PSs (X : Cx) (st : List Stmt) (t : TS) : Prop :=
  ∀ (pins : List (Addr × Obj)) (s : Shared) (σ : St) (H : Hp) (D : Ends), Inv X pins σ H s → t D σ H → wpAny (model X.prog X.w) X.A (execs st X.env) (SP X pins D) X.xe s
/-- weaken the end -/
theorem thn {α : Type} {t : Sem α} {Q Q' : α → Shared → Prop} {M : Model} {A : Around} {E : Value → Shared → Prop} {s : Shared} (h : wpAny M A t Q E s) (hQ : ∀ a s, Q a s → Q' a s) : wpAny M A t Q' E s := wpAny_mono h hQ fun _ _ x => x
end L2

namespace L2
open PySem PySem.Spec PyProof.Rows
section
variable {X : Cx}

/-! ### names and constants -/
def tVar (i : Nat) : TE := fun σ H Q => ∃ v, σ[i]? = some (some v) ∧ Q v H
def tC (v : V) : TE := fun _ H Q => Q v H
theorem pe_var {i : Nat} {x : Str} {pos : Pos} (hN : X.N[i]? = some x) (hv : Vis X.env.scope x) (hd : (x == ("__debug__" : Str)) = false := by decide) (hcd : (x == ("__classdict__" : Str)) = false := by decide) : PE X (.Name x pos) (tVar i) := by
  intro pins s σ H Q I h
  obtain ⟨v, e, h⟩ := h
  obtain ⟨m, hn, hl⟩ := I.loc
  obtain ⟨u, r, l⟩ := hl i x v hN e hv
  have fin : EP X pins σ Q u s := ⟨v, H, I, r, h⟩
  rcases l with ⟨hk, hm⟩ | ⟨hk, c, hc, hcell⟩
  · exact wpAny_Name (wpAny_loadName_local I.ok.kind hk hn hm fin) hd
  · rcases hk with hk | hk
    · exact wpAny_Name (wpAny_loadName_cell I.ok.kind hk hc hcell fin) hd
    · exact wpAny_Name (wpAny_loadName_free I.ok.kind hk hc hcell fin hcd) hd
theorem pe_int {i j pos} : PE X (.Constant (.int i) j pos) (tC (.int i)) := fun _ _ _ H _ I h => wpAny_Constant_int ⟨.int i, H, I.tok _, ⟨_, rfl⟩, h⟩
theorem pe_bl {b j pos} : PE X (.Constant (.bool b) j pos) (tC (.bl b)) := fun _ _ _ H _ I h => Constant_bool ⟨.bl b, H, I, rfl, h⟩
theorem pe_non {j pos} : PE X (.Constant .none j pos) (tC .non) := fun _ _ _ H _ I h => Constant_none ⟨.non, H, I, rfl, h⟩
theorem pe_str {x j pos} : PE X (.Constant (.str x) j pos) (tC (.str x)) := fun _ _ _ H _ I h => Calls.Constant_str ⟨.str x, H, I.tok _, ⟨_, rfl⟩, h⟩

/-- a global name of the def -/
def Gl (X : Cx) (x : Str) : Prop := X.env.kindOf x = some .globalImplicit
theorem ld_glob {E : Value → Shared → Prop} {pins : List (Addr × Obj)} {s : Shared} {σ : St} {H : Hp} {x : Str} {u : Value} {pos : Pos} {Q : Value → Shared → Prop} (I : Inv X pins σ H s) (hg : Gl X x) (hm : X.mg x = some u) (h : Q u s)
    (hd : (x == ("__debug__" : Str)) = false := by decide) : wpAny (model X.prog X.w) X.A (eval (.Name x pos) X.env) Q E s :=
  Calls.Name_function_global I.ok.kind hg (Calls.loadGlobal_global (by rw [I.ok.glob]; exact I.mod.glob.keeps I.bk) hm h) hd
theorem ld_blt {E : Value → Shared → Prop} {pins : List (Addr × Obj)} {s : Shared} {σ : St} {H : Hp} {x : Str} {u : Value} {pos : Pos} {Q : Value → Shared → Prop} (I : Inv X pins σ H s) (hg : Gl X x) (hm : X.mg x = none) (hv : bootBuiltins x = some u) (h : Q u s)
    (hn : x ≠ "__name__" := by decide) (hd : (x == ("__debug__" : Str)) = false := by decide) : wpAny (model X.prog X.w) X.A (eval (.Name x pos) X.env) Q E s := by
  obtain ⟨mb, h1, h2⟩ := I.mod.blt
  exact Calls.Name_function_global I.ok.kind hg (Calls.loadGlobal_builtin (by rw [I.ok.glob]; exact I.mod.glob.keeps I.bk) hm (by rw [I.ok.blt]; exact h1.keeps I.bk) ((h2 x hn).trans hv) h) hd
/-- a module's constant, a class, a function, as a value -/
theorem pe_glob {x : Str} {v : V} {u : Value} {pos : Pos} (hg : Gl X x) (hm : X.mg x = some u) (r : RelV v u) (hd : (x == ("__debug__" : Str)) = false := by decide) : PE X (.Name x pos) (tC v) :=
  fun _ _ _ H _ I h => ld_glob I hg hm ⟨v, H, I, r, h⟩ hd
theorem pe_bltn {x : Str} {v : V} {u : Value} {pos : Pos} (hg : Gl X x) (hm : X.mg x = none) (hv : bootBuiltins x = some u) (r : RelV v u) (hn : x ≠ "__name__" := by decide) (hd : (x == ("__debug__" : Str)) = false := by decide) : PE X (.Name x pos) (tC v) :=
  fun _ _ _ H _ I h => ld_blt I hg hm hv ⟨v, H, I, r, h⟩ hn hd

/-! ### arithmetic -/
variable {a b : Expr} {ta tb : TE} {pos : Pos}
/-! ### comparisons -/
/-- a comparison as a value, as a test -/
def tB (t : TE) : TT := fun σ H Q => t σ H fun x H1 => ∃ c, x = .bl c ∧ Q c H1
/-- an expression whose value is a bool, as a test -/
theorem pt_val {e : Expr} {t : TE} (h : PE X e t) (he : ∀ whole, isTrue e X.env whole = (do let v ← whole; standAt e.pos; holding [v] (truthy v)) := by intro _; rfl) : PT X e (tB t) := by
  intro pins s σ H Q I hw
  refine isTrue_plain (thn (h pins s σ H _ I hw) fun v s1 ⟨x, H1, I1, r1, q1⟩ => ?_) (he _)
  obtain ⟨d, rfl, q⟩ := q1
  cases r1
  exact wpAny_truthy_bool ⟨H1, I1, q⟩

/-! ### and, or, not -/
variable {tA tB' : TT} {rest : List Expr}
def tAnd (t u : TT) : TT := fun σ H Q => t σ H fun c H1 => if c = true then u σ H1 Q else Q false H1
def tOr (t u : TT) : TT := fun σ H Q => t σ H fun c H1 => if c = true then Q true H1 else u σ H1 Q
def tNot (t : TT) : TT := fun σ H Q => t σ H fun c H1 => Q (!c) H1
theorem pw_and1 (ha : PT X a tA) : PW X (.BoolOp .And [a] pos) tA := by
  intro wh pins s σ H Q I h
  refine isTrue_and (thn (ha pins s σ H Q I h) fun c s1 e => ?_)
  cases c with
  | true => exact isTrue_and_nil e
  | false => exact e
theorem pw_or1 (ha : PT X a tA) : PW X (.BoolOp .Or [a] pos) tA := by
  intro wh pins s σ H Q I h
  refine isTrue_or (thn (ha pins s σ H Q I h) fun c s1 e => ?_)
  cases c with
  | false => exact isTrue_or_nil e
  | true => exact e
theorem pw_and (ha : PT X a tA) (hb : PW X (.BoolOp .And (b :: rest) pos) tB') : PW X (.BoolOp .And (a :: b :: rest) pos) (tAnd tA tB') := by
  intro wh pins s σ H Q I h
  refine isTrue_and (thn (ha pins s σ H _ I h) fun c s1 ⟨H1, I1, q1⟩ => ?_)
  cases c with
  | true => exact hb wh pins s1 σ H1 Q I1 q1
  | false => exact ⟨H1, I1, q1⟩
theorem pw_or (ha : PT X a tA) (hb : PW X (.BoolOp .Or (b :: rest) pos) tB') : PW X (.BoolOp .Or (a :: b :: rest) pos) (tOr tA tB') := by
  intro wh pins s σ H Q I h
  refine isTrue_or (thn (ha pins s σ H _ I h) fun c s1 ⟨H1, I1, q1⟩ => ?_)
  cases c with
  | true => exact ⟨H1, I1, q1⟩
  | false => exact hb wh pins s1 σ H1 Q I1 q1
theorem pt_not (ha : PT X a tA) : PT X (.UnaryOp .Not a pos) (tNot tA) := by
  intro pins s σ H Q I h
  exact isTrue_not (ha pins s σ H (fun c H1 => Q (!c) H1) I h)
/-- .. as values (bools) -/
def tAndV (ta tb : TE) : TE := fun σ H Q => ta σ H fun x H1 => ∃ c, x = .bl c ∧ if c = true then tb σ H1 Q else Q (.bl false) H1
def tNotV (ta : TE) : TE := fun σ H Q => ta σ H fun x H1 => ∃ c, x = .bl c ∧ Q (.bl (!c)) H1
theorem pe_one {op} {t : TE} (h : PE X a t) : PE X (.BoolOp op [a] pos) t := fun pins s σ H Q I hw => BoolOp_one (h pins s σ H Q I hw)
theorem pe_and (ha : PE X a ta) (hb : PE X (.BoolOp .And (b :: rest) pos) tb) : PE X (.BoolOp .And (a :: b :: rest) pos) (tAndV ta tb) := by
  intro pins s σ H Q I h
  refine BoolOp_and (thn (ha pins s σ H _ I h) fun v s1 ⟨x, H1, I1, r1, q1⟩ => ?_)
  obtain ⟨c, rfl, q1⟩ := q1
  cases r1
  refine wpAny_truthy_bool ?_
  cases c with
  | true => exact hb pins s1 σ H1 Q I1 q1
  | false => exact ⟨.bl false, H1, I1, rfl, q1⟩
theorem pe_not (ha : PE X a ta) : PE X (.UnaryOp .Not a pos) (tNotV ta) := by
  intro pins s σ H Q I h
  refine UnaryOp_ (thn (ha pins s σ H _ I h) fun v s1 ⟨x, H1, I1, r1, q1⟩ => ?_)
  obtain ⟨c, rfl, q1⟩ := q1
  cases r1
  exact not_of (wpAny_truthy_bool ⟨.bl (!c), H1, I1, rfl, q1⟩)
end
end L2

namespace L2
open PySem PySem.Spec PyProof.Rows

/-! ### a list, a tuple that is read: tracked, frozen, or an object of the module -/
def SqL (K : PySem.W.Frag) (H : Hp) (a : Addr) (xs : List V) : Prop :=
  Rd H a (.lst xs) ∨
    ∃ (o : Obj) (its : Array Value) (n : Nat), K.lookup a = some o ∧ o.cls = .type "list" ∧ o.dict = none ∧ o.data = .seq its n ∧ its.size ≤ sizeLine ∧ Vals xs its.toList
def SqT (K : PySem.W.Frag) (H : Hp) (a : Addr) (xs : List V) : Prop :=
  Rd H a (.tup xs) ∨
    ∃ (o : Obj) (its : Array Value) (n : Nat), K.lookup a = some o ∧ o.cls = .type "tuple" ∧ o.data = .seq its n ∧ its.size ≤ sizeLine ∧ Vals xs its.toList
def absV : Value → Option V
  | .none => some .non
  | .bool b => some (.bl b)
  | .int i _ => some (.int i)
  | .str x _ => some (.str x)
  | .bytes b _ => some (.byt b)
  | .float b _ => some (.flt b)
  | .ref a => some (.ref a)
  | .type n => some (.ty n)
  | _ => none
theorem RelV.abs {x : V} {u : Value} (r : RelV x u) : absV u = some x := by
  cases x with
  | non => cases r; rfl
  | bl _ => cases r; rfl
  | int _ => obtain ⟨t, rfl⟩ := r; rfl
  | str _ => obtain ⟨t, rfl⟩ := r; rfl
  | byt _ => obtain ⟨t, rfl⟩ := r; rfl
  | flt _ => obtain ⟨t, rfl⟩ := r; rfl
  | ref _ => cases r; rfl
  | ty _ => cases r; rfl
theorem RelV.inj {x y : V} {u : Value} (r : RelV x u) (q : RelV y u) : x = y := Option.some.inj (r.abs.symm.trans q.abs)
theorem Vals.inj : ∀ {xs ys : List V} {us : List Value}, Vals xs us → Vals ys us → xs = ys
  | _, _, _, .nil, .nil => rfl
  | _, _, _, .cons r t, .cons r' t' => by rw [r.inj r', Vals.inj t t']
section
variable {X : Cx} {pins : List (Addr × Obj)} {σ : St} {H : Hp} {s : Shared} {a : Addr} {xs ys : List V}
theorem SqL.of {K : PySem.W.Frag} (h : H a = some (.lst xs)) : SqL K H a xs := .inl (.inl h)
theorem SqT.of {K : PySem.W.Frag} (h : H a = some (.tup xs)) : SqT K H a xs := .inl (.inl h)
theorem Inv.list (I : Inv X pins σ H s) (h : SqL X.K H a xs) : ∃ its : List Value, Vals xs its ∧ PlainL s.heap a its.toArray ∧ xs.length ≤ sizeLine := by
  rcases h with h | ⟨o, its, n, hk, hc, hd, hs, hz, r⟩
  · obtain ⟨z, its, n, r, e⟩ := h.ok I.hok
    exact ⟨its, r, ⟨_, n, e, rfl, rfl, rfl⟩, z⟩
  · refine ⟨its.toList, r, ⟨o, n, I.kIn a o hk, hc, hd, by simpa using hs⟩, ?_⟩
    have e := r.length
    simp only [Array.length_toList] at e
    omega
theorem Inv.tuple (I : Inv X pins σ H s) (h : SqT X.K H a xs) : ∃ its : List Value, Vals xs its ∧ IsTup s.heap a its.toArray ∧ xs.length ≤ sizeLine := by
  rcases h with h | ⟨o, its, n, hk, hc, hs, hz, r⟩
  · obtain ⟨z, its, r, p⟩ := h.ok I.hok
    exact ⟨its, r, p, z⟩
  · refine ⟨its.toList, r, ⟨o, I.kIn a o hk, hc, n, by simpa using hs⟩, ?_⟩
    have e := r.length
    simp only [Array.length_toList] at e
    omega
theorem Inv.list_inj (I : Inv X pins σ H s) (h : SqL X.K H a xs) (h' : SqL X.K H a ys) : xs = ys := by
  obtain ⟨its, r, ⟨o, n, e, _, _, d⟩, _⟩ := I.list h
  obtain ⟨its', r', ⟨o', n', e', _, _, d'⟩, _⟩ := I.list h'
  rw [e] at e'; cases e'
  rw [d] at d'
  injection d' with d1 _
  have : its = its' := by simpa using congrArg Array.toList d1
  subst this
  exact r.inj r'
theorem Inv.tuple_inj (I : Inv X pins σ H s) (h : SqT X.K H a xs) (h' : SqT X.K H a ys) : xs = ys := by
  obtain ⟨its, r, ⟨o, e, _, n, d⟩, _⟩ := I.tuple h
  obtain ⟨its', r', ⟨o', e', _, n', d'⟩, _⟩ := I.tuple h'
  rw [e] at e'; cases e'
  rw [d] at d'
  injection d' with d1 _
  have : its = its' := by simpa using congrArg Array.toList d1
  subst this
  exact r.inj r'
end

/-! ### another wish about exceptions -/
abbrev Cx.wish (X : Cx) (E : Value → Shared → Prop) : Cx := { X with xe := E }
/-- no exception leaves -/
abbrev Cx.nox (X : Cx) : Cx := X.wish fun _ _ => False
theorem Cx.Ok.wish {X : Cx} (ok : X.Ok) (E : Value → Shared → Prop) : (X.wish E).Ok :=
  ⟨ok.mod, ok.kind, ok.glob, ok.blt, ok.above, ok.inj, ok.has, ok.cab, ok.hd, ok.frames, ok.stk, ok.exf, ok.bs, ok.bsz, ok.noex, ok.exfs, ok.funs, ok.frf⟩
theorem Cx.Ok.unwish {X : Cx} {E : Value → Shared → Prop} (ok : (X.wish E).Ok) : X.Ok :=
  ⟨ok.mod, ok.kind, ok.glob, ok.blt, ok.above, ok.inj, ok.has, ok.cab, ok.hd, ok.frames, ok.stk, ok.exf, ok.bs, ok.bsz, ok.noex, ok.exfs, ok.funs, ok.frf⟩
section
variable {X : Cx} {pins : List (Addr × Obj)} {σ : St} {H : Hp} {s : Shared} {E : Value → Shared → Prop}
theorem Inv.wish (I : Inv X pins σ H s) (E : Value → Shared → Prop) : Inv (X.wish E) pins σ H s := ⟨I.ok.wish E, I.os, I.bare, I.base, I.loc, I.cell, I.free, I.freeC, I.pin, I.hok, I.len⟩
theorem Inv.unwish (I : Inv (X.wish E) pins σ H s) : Inv X pins σ H s := ⟨I.ok.unwish, I.os, I.bare, I.base, I.loc, I.cell, I.free, I.freeC, I.pin, I.hok, I.len⟩
theorem SP.unwish {D : Ends} {f : Flow} {s' : Shared} (h : SP (X.wish E) pins D f s') : SP X pins D f s' := by
  cases f with
  | next => obtain ⟨σ', H', I, q⟩ := h; exact ⟨σ', H', I.unwish, q⟩
  | brk => obtain ⟨σ', H', I, q⟩ := h; exact ⟨σ', H', I.unwish, q⟩
  | cont => obtain ⟨σ', H', I, q⟩ := h; exact ⟨σ', H', I.unwish, q⟩
  | ret u => obtain ⟨v, σ', H', I, r, q⟩ := h; exact ⟨v, σ', H', I.unwish, r, q⟩
theorem PSs.nox {st : List Stmt} {t : TS} (h : PSs X.nox st t) : PSs X st t := fun pins s σ H D I hw =>
  wpAny_mono (h pins s σ H D (I.wish _) hw) (fun _ _ q => q.unwish) fun _ _ z => False.elim z
end

/-! ### blocks and small statements -/
section
variable {X : Cx} {st : Stmt} {rest : List Stmt} {t u : TS} {e : Expr} {te : TE} {pos : Pos}
def tNext : TS := fun D σ H => D.nx σ H
def tSeq (t u : TS) : TS := fun D σ H => t { D with nx := u D } σ H
theorem pss_nil : PSs X [] tNext := fun _ _ σ H _ I h => wpAny_execs_nil ⟨σ, H, I, h⟩
theorem pss_cons (h1 : PS X st t) (h2 : PSs X rest u) : PSs X (st :: rest) (tSeq t u) := by
  intro pins s σ H D I h
  refine wpAny_execs_cons (thn (h1 pins s σ H { D with nx := u D } I h) fun f s1 q => ?_)
  cases f with
  | next =>
    obtain ⟨σ', H', I', q⟩ := q
    exact h2 pins s1 σ' H' D I' q
  | ret v => exact q
  | brk => exact q
  | cont => exact q
theorem pss_one (h1 : PS X st t) : PSs X [st] t := by
  intro pins s σ H D I h
  refine wpAny_execs_cons (thn (h1 pins s σ H D I h) fun f s1 q => ?_)
  cases f with
  | next => exact wpAny_execs_nil q
  | ret v => exact q
  | brk => exact q
  | cont => exact q
/-- in a def's body nothing is shown -/
theorem Inv.quiet {pins : List (Addr × Obj)} {σ : St} {H : Hp} {s : Shared} (I : Inv X pins σ H s) : interactive X.env = false := by simp [interactive, I.ok.kind]
/-- an expression whose value is dropped -/
def tDrop (te : TE) : TS := fun D σ H => te σ H fun _ H1 => D.nx σ H1
theorem ps_expr (he : PE X e te) (hs : swapsWith e none pos.line X.env = pure false := by rfl) : PS X (.Expr e pos) (tDrop te) := by
  intro pins s σ H D I h
  exact wpAny_Expr_any (thn (he pins s σ H _ I h) fun v s1 ⟨x, H1, I1, r1, q1⟩ => ⟨σ, H1, I1, q1⟩) I.quiet hs
def tRet (te : TE) : TS := fun D σ H => te σ H D.rt
theorem ps_ret (he : PE X e te) : PS X (.Return (some e) pos) (tRet te) := by
  intro pins s σ H D I h
  exact wpAny_Return_some (thn (he pins s σ H _ I h) fun v s1 ⟨x, H1, I1, r1, q1⟩ => ⟨x, σ, H1, I1, r1, q1⟩)
def tIfS (c : TT) (t u : TS) : TS := fun D σ H => c σ H fun b H1 => if b = true then t D σ H1 else u D σ H1
theorem ps_if {c : Expr} {a b : List Stmt} {tc : TT} (hc : PT X c tc) (ha : PSs X a t) (hb : PSs X b u) : PS X (.If c a b pos) (tIfS tc t u) := by
  intro pins s σ H D I h
  refine wpAny_If (thn (hc pins s σ H _ I h) fun d s1 ⟨H1, I1, q1⟩ => ?_)
  cases d with
  | true => exact ha pins s1 σ H1 D I1 q1
  | false => exact hb pins s1 σ H1 D I1 q1
/-- code that the proof never comes to -/
def tNever : TS := fun _ _ _ => False
theorem ps_never : PS X st tNever := fun _ _ _ _ _ _ h => h.elim
end

/-! ### targets -/
abbrev TG := V → St → Hp → (St → Hp → Prop) → Prop
abbrev TGs := List V → St → Hp → (St → Hp → Prop) → Prop
def PG (X : Cx) (target : Expr) (t : TG) : Prop :=
  ∀ (pins : List (Addr × Obj)) (s : Shared) (σ : St) (H : Hp) (v : V) (u : Value) (Q : St → Hp → Prop), Inv X pins σ H s → RelV v u → t v σ H Q →
    wpAny (model X.prog X.w) X.A (assign target X.env u) (fun _ s' => ∃ σ' H', Inv X pins σ' H' s' ∧ Q σ' H') X.xe s
/-- several targets, one after another -/
def PGs (X : Cx) (ts : List Expr) (t : TGs) : Prop :=
  ∀ (pins : List (Addr × Obj)) (s : Shared) (σ : St) (H : Hp) (vs : List V) (us : List Value) (Q : St → Hp → Prop), Inv X pins σ H s → Vals vs us → t vs σ H Q →
    wpAny (model X.prog X.w) X.A (assignInOrder ((assignEach ts X.env).map (·.2)) us) (fun _ s' => ∃ σ' H', Inv X pins σ' H' s' ∧ Q σ' H') X.xe s
/-- o[i] = v, by values -/
abbrev TSet := V → V → V → Hp → (Hp → Prop) → Prop
def PSet (X : Cx) (t : TSet) : Prop :=
  ∀ (pins : List (Addr × Obj)) (s : Shared) (σ : St) (H : Hp) (o i v : V) (ov iv u : Value) (Q : Hp → Prop), Inv X pins σ H s → RelV o ov → RelV i iv → RelV v u → t o i v H Q →
    wpAny (model X.prog X.w) X.A (setItem ov iv u) (fun _ s' => ∃ H', Inv X pins σ H' s' ∧ Q H') X.xe s
/-- a op= b, by values -/
abbrev TIp := V → V → Hp → VK → Prop
def PIp (X : Cx) (op : Operator) (t : TIp) : Prop :=
  ∀ (pins : List (Addr × Obj)) (s : Shared) (σ : St) (H : Hp) (x y : V) (v u : Value) (Q : VK), Inv X pins σ H s → RelV x v → RelV y u → t x y H Q →
    wpAny (model X.prog X.w) X.A (inplaceOp op v u) (EP X pins σ Q) X.xe s
section
variable {X : Cx} {pos : Pos}
def gName (i : Nat) : TG := fun v σ H Q => Q (σ.set i (some v)) H
theorem pg_name {i : Nat} {x : Str} (hN : X.N.Nodup) (hi : X.N[i]? = some x) (hx : Loc X.env.scope x) (hf : X.fn x = true ∨ X.env.scope.names.lookup x = some .local := by first | exact .inl rfl | exact .inr rfl | assumption) : PG X (.Name x pos) (gName i) := by
  intro pins s σ H v u Q I r h
  exact wpAny_assign_Name (store_ok I hN hi hx r (fun s' I' => ⟨_, H, I', h⟩) hf)
def gNil : TGs := fun vs σ H Q => vs = [] ∧ Q σ H
def gCons (t : TG) (u : TGs) : TGs := fun vs σ H Q => ∃ v r, vs = v :: r ∧ t v σ H fun σ' H' => u r σ' H' Q
theorem pgs_nil : PGs X [] gNil := by
  intro pins s σ H vs us Q I r h
  obtain ⟨e, h⟩ := h
  subst e
  cases r
  exact assignInOrder_nil ⟨σ, H, I, h⟩
theorem pgs_cons {e : Expr} {es : List Expr} {t : TG} {u : TGs} (h1 : PG X e t) (h2 : PGs X es u)
    (hs : (assignEach (e :: es) X.env).map (·.2) = assign e X.env :: (assignEach es X.env).map (·.2) := by rfl) : PGs X (e :: es) (gCons t u) := by
  intro pins s σ H vs us Q I r h
  obtain ⟨v, vr, e1, h⟩ := h
  subst e1
  cases r with
  | cons r rr =>
    rw [hs]
    refine assignInOrder_cons (thn (h1 pins s σ H _ _ _ I r h) fun _ s1 ⟨σ1, H1, I1, q1⟩ => ?_)
    exact h2 pins s1 σ1 H1 _ _ Q I1 rr q1
/-- (a, b, ..) = a tuple of that length -/
def gTup (K : PySem.W.Frag) (n : Nat) (t : TGs) : TG := fun v σ H Q => ∃ a xs, v = .ref a ∧ SqT K H a xs ∧ xs.length = n ∧ t xs σ H Q
theorem pg_tup {es : List Expr} {k : Nat} {t : TGs} {n : Nat} (hc : X.calm = true) (h : PGs X es t)
    (hn : (assignEach es X.env).length = n := by rfl) (hst : (assignEach es X.env).findIdx? (·.1) = none := by rfl) : PG X (.Tuple es k pos) (gTup X.K n t) := by
  intro pins s σ H v u Q I r hw
  obtain ⟨a, xs, e1, hq, hl, hw⟩ := hw
  subst e1
  cases r
  obtain ⟨its, rv, ht, hz⟩ := I.tuple hq
  refine assign_Tuple_tuple (I.ok.hd hc) ht (by simp [hn, ← hl, rv.length]) hst fun h' hx => ?_
  have I1 : Inv X pins σ H { s with heap := h' } := I.kept (t' := s.toks) fun b o e => hx b o (Nat.ne_of_lt (Heap.lt_size e)) e
  exact h pins _ σ H xs _ Q I1 (by simpa using rv) hw
/-- o[i] = .. -/
def gSub (to ti : TE) (t : TSet) : TG := fun v σ H Q => to σ H fun o H1 => ti σ H1 fun i H2 => t o i v H2 fun H3 => Q σ H3
theorem pg_sub {o i : Expr} {to ti : TE} {t : TSet} (ho : PE X o to) (hi : PE X i ti) (hs : PSet X t)
    (ha : ∀ v, assign (.Subscript o i pos) X.env v = (do
      let ov ← holding [v] (eval o X.env)
      let iv ← holding [v, ov] (eval i X.env)
      standAt pos
      holding [v, ov, iv] (setItem ov iv v)
      release [v, ov, iv] []) := by intro _; rfl) : PG X (.Subscript o i pos) (gSub to ti t) := by
  intro pins s σ H v u Q I r h
  rw [ha]
  refine wpAny_bind (wpAny_holding (thn (ho pins s σ H _ I h) fun ov s1 ⟨x, H1, I1, r1, q1⟩ => ?_))
  refine wpAny_bind (wpAny_holding (thn (hi pins s1 σ H1 _ I1 q1) fun iv s2 ⟨y, H2, I2, r2, q2⟩ => ?_))
  refine wpAny_bind (wpAny_standAt (wpAny_bind (wpAny_holding (thn (hs pins s2 σ H2 x y v ov iv u _ I2 r1 r2 r q2) fun _ s3 ⟨H3, I3, q3⟩ => ?_))))
  exact wpAny_release ⟨σ, H3, I3, q3⟩
/-- target = value -/
def tAsg (te : TE) (g : TG) : TS := fun D σ H => te σ H fun x H1 => g x σ H1 D.nx
theorem ps_asg {tg e : Expr} {te : TE} {g : TG} (he : PE X e te) (hg : PG X tg g) (hs : swapsWithSole [tg] e pos.line X.env = pure false := by rfl) (hw : swappedStores [tg] e X.env = pure none := by rfl)
    (h1 : (assignEach [tg] X.env).map (·.2) = [assign tg X.env] := by rfl) : PS X (.Assign [tg] e pos) (tAsg te g) := by
  intro pins s σ H D I h
  refine wpAny_Assign_stores (thn (he pins s σ H _ I h) fun v s1 ⟨x, H1, I1, r1, q1⟩ => ?_) hs hw
  rw [h1]
  exact thn (hg pins s1 σ H1 x v _ I1 r1 q1) fun _ s2 q => q
/-- name = value -/
theorem ps_set {i : Nat} {x : Str} {e : Expr} {te : TE} {pos' : Pos} (hN : X.N.Nodup) (hi : X.N[i]? = some x) (hx : Loc X.env.scope x) (he : PE X e te) (hs : swapsWith e (some (.Name x pos')) pos.line X.env = pure false := by rfl) (hf : X.fn x = true ∨ X.env.scope.names.lookup x = some .local := by first | exact .inl rfl | exact .inr rfl | assumption) :
    PS X (.Assign [.Name x pos'] e pos) (tAsg te (gName i)) := by
  intro pins s σ H D I h
  refine wpAny_Assign_Name (thn (he pins s σ H _ I h) fun v s1 ⟨y, H1, I1, r1, q1⟩ => ?_) hs
  exact store_ok I1 hN hi hx r1 (fun s2 I2 => ⟨_, H1, I2, q1⟩) hf
/-- name op= e -/
def tAug (i : Nat) (te : TE) (ti : TIp) : TS := fun D σ H => ∃ x, σ[i]? = some (some x) ∧ te σ H fun y H1 => ti x y H1 fun z H2 => D.nx (σ.set i (some z)) H2
theorem ps_aug {i : Nat} {x : Str} {e : Expr} {te : TE} {op : Operator} {ti : TIp} {pos' : Pos} (hN : X.N.Nodup) (hi : X.N[i]? = some x) (hx : Loc X.env.scope x) (he : PE X e te) (ho : PIp X op ti) (hf : X.fn x = true ∨ X.env.scope.names.lookup x = some .local := by first | exact .inl rfl | exact .inr rfl | assumption) :
    PS X (.AugAssign (.Name x pos') op e pos) (tAug i te ti) := by
  intro pins s σ H D I h
  obtain ⟨v, e1, h⟩ := h
  obtain ⟨m, hn, hl⟩ := I.loc
  have vis : Vis X.env.scope x := by rcases hx with k | k; exact .inl k; exact .inr (.inl k)
  obtain ⟨u, r, l⟩ := hl i x v hi e1 vis
  refine wpAny_AugAssign_Name ?_
  have go : wpAny (model X.prog X.w) X.A (eval e X.env) (fun w s₂ => wpAny (model X.prog X.w) X.A (inplaceOp op u w) (fun r s₃ => wpAny (model X.prog X.w) X.A (storeName X.env x r) (fun _ => SP X pins D .next) X.xe s₃) X.xe s₂) X.xe s := by
    refine thn (he pins s σ H _ I h) fun w s1 ⟨y, H1, I1, r1, q1⟩ => ?_
    refine thn (ho pins s1 σ H1 v y u w _ I1 r r1 q1) fun z s2 ⟨zv, H2, I2, r2, q2⟩ => ?_
    exact store_ok I2 hN hi hx r2 (fun s3 I3 => ⟨_, H2, I3, q2⟩) hf
  rcases l with ⟨hk, hm⟩ | ⟨hk, c, hc, hcell⟩
  · exact wpAny_loadName_local I.ok.kind hk hn hm go
  · rcases hk with hk | hk
    · exact wpAny_loadName_cell I.ok.kind hk hc hcell go
    · rcases hx with k | k
      · have : X.env.scope.names.lookup x = some .free := hk
        rw [k] at this; cases this
      · have : X.env.scope.names.lookup x = some .free := hk
        rw [k] at this; cases this
/-- ints -/
def ipI (f : Int → Int → Int) : TIp := fun x y H Q => ∃ i j, x = .int i ∧ y = .int j ∧ Q (.int (f i j)) H
theorem ip_add : PIp X .Add (ipI fun i j => i + j) := by
  intro pins s σ H x y v u Q I r1 r2 h
  obtain ⟨i, j, e1, e2, q⟩ := h
  subst e1; subst e2
  obtain ⟨t, rfl⟩ := r1
  obtain ⟨t', rfl⟩ := r2
  exact iadd_int ⟨.int _, H, I.tok _, ⟨_, rfl⟩, q⟩
end

/-! ### while -/
section
variable {X : Cx} {pos : Pos}
/-- the invariant W with its measure -/
def tWhile (c : TT) (tb : TS) : TS := fun D σ H => ∃ W : Nat → St → Hp → Prop, (∃ m, W m σ H) ∧ ∀ m σ H, W m σ H →
  c σ H fun b H1 => if b = true then ∃ N : St → Hp → Prop, (∀ σ' H', N σ' H' → ∃ m', m' < m ∧ W m' σ' H') ∧ tb { D with nx := N, ct := N, bk := D.nx } σ H1 else D.nx σ H1
theorem ps_while {c : Expr} {body : List Stmt} {tc : TT} {tb : TS} (hp : PassesOwn (model X.prog X.w) X.A X.env X.xe) (hc : PT X c tc) (hb : PSs X body tb) : PS X (.While c body [] pos) (tWhile tc tb) := by
  intro pins s σ H D I h
  obtain ⟨W, ⟨m0, w0⟩, turn⟩ := h
  refine wpAny_While (codeAny_whileLoop (fun n s' => ∃ σ' H', Inv X pins σ' H' s' ∧ W n σ' H') ?_ m0 ⟨σ, H, I, w0⟩)
  rintro n s1 ⟨σ1, H1, I1, w1⟩
  refine wpAny_passesOwn hp (thn (hc pins s1 σ1 H1 _ I1 (turn n σ1 H1 w1)) fun b s2 ⟨H2, I2, q2⟩ => ?_)
  cases b with
  | true =>
    obtain ⟨N, hN, q2⟩ := q2
    rw [if_pos rfl]
    refine wpAny_passesOwn hp (thn (hb pins s2 σ1 H2 _ I2 q2) fun f s3 q3 => ?_)
    cases f with
    | next =>
      obtain ⟨σ3, H3, I3, n3⟩ := q3
      obtain ⟨m', hm, w3⟩ := hN σ3 H3 n3
      exact ⟨m', hm, σ3, H3, I3, w3⟩
    | cont =>
      obtain ⟨σ3, H3, I3, n3⟩ := q3
      obtain ⟨m', hm, w3⟩ := hN σ3 H3 n3
      exact ⟨m', hm, σ3, H3, I3, w3⟩
    | brk => exact q3
    | ret v => exact q3
  | false =>
    rw [if_neg Bool.false_ne_true]
    exact wpAny_execs_nil ⟨σ1, H2, I2, q2⟩
end

/-! ### what a loop or a comprehension walks -/
/-- at turn i: it yields x (the heap may grow), or it stops -/
structure It where
  go : Nat → Hp → Prop
  yld : Nat → Hp → V → Hp → Prop
  stop : Nat → Hp → Prop
/-- the iterator's own objects may turn: they are not the frame's, not pinned, younger than the entry (or a comprehension's own) -/
def FpOk (X : Cx) (pins : List (Addr × Obj)) (H : Hp) (b : Addr) : Prop :=
  H b = none ∧ b ≠ X.env.locals ∧ b ∉ X.fs ∧ (b ∈ X.ex ∨ X.s₀.heap.objs.size ≤ b) ∧ (∀ x c, X.env.cells.lookup x = some c → c ≠ b) ∧ ∀ p ∈ X.pn ++ pins, p.1 ≠ b
theorem Inv.fpOk {X : Cx} {pins : List (Addr × Obj)} {σ : St} {H H' : Hp} {s : Shared} {b : Addr} (I : Inv X pins σ H s) (hb : s.heap.objs.size ≤ b) (hn : H' b = none) : FpOk X pins H' b := by
  refine ⟨hn, Nat.ne_of_gt (Nat.lt_of_lt_of_le I.lt hb), I.nofs hb, .inr (Nat.le_trans I.sz hb), fun x c e z => ?_, fun p hp z => ?_⟩
  · obtain ⟨v, q⟩ := I.cell x c e
    exact absurd (Nat.lt_of_lt_of_le q.lt (by rw [z]; exact hb)) (Nat.lt_irrefl _)
  · exact absurd (Nat.lt_of_lt_of_le (Heap.lt_size (I.pin p hp).1) (by rw [z]; exact hb)) (Nat.lt_irrefl _)
structure Turn (P : Program) (w : World) (K : PySem.W.Frag) (tg : Expr) (J : It) (fp : List Addr) (it : Addr) (tn : Nat → Heap → Prop) : Prop where
  mem : it ∈ fp
  obj : ∀ i h, tn i h → ∀ b ∈ fp, ∃ o, h.get? b = some o ∧ ∀ v, o.data ≠ .cell v
  keep : ∀ i h h', tn i h → (∀ b ∈ fp, ∀ o, h.get? b = some o → h'.get? b = some o) → tn i h'
  item : ∀ (X : Cx), X.prog = P → X.w = w → X.K = K → X.calm = true → ∀ (i : Nat) (pins : List (Addr × Obj)) (s : Shared) (σ : St) (H : Hp) (E : Value → Shared → Prop), Inv X pins σ H s → (∀ b ∈ fp, FpOk X pins H b) → tn i s.heap → J.go i H →
    wpAny (model P w) X.A (pyNext (.ref it)) (fun r s1 => ∃ u, r = some u ∧
      wpAny (model P w) X.A (letOwnedTupleGo tg (.ref it) u) (fun _ s2 => ∃ x H', Inv X pins σ H' s2 ∧ RelV x u ∧ J.yld i H x H' ∧ tn (i + 1) s2.heap ∧ ∀ b ∈ fp, H' b = none) E s1) E s
  done : ∀ (X : Cx), X.prog = P → X.w = w → X.K = K → X.calm = true → ∀ (i : Nat) (pins : List (Addr × Obj)) (s : Shared) (σ : St) (H : Hp) (E : Value → Shared → Prop), Inv X pins σ H s → (∀ b ∈ fp, FpOk X pins H b) → tn i s.heap → J.stop i H →
    wpAny (model P w) X.A (pyNext (.ref it)) (fun r s1 => r = none ∧ Inv X pins σ H s1) E s
  self : ∀ (A : Around) (i : Nat) (s : Shared) (Q : Value → Shared → Prop) (E : Value → Shared → Prop), tn i s.heap → Q (.ref it) s → wpAny (model P w) A (pyIter (.ref it)) Q E s
abbrev TI := St → Hp → (It → Hp → Prop) → Prop
/-- an iterator has come -/
def PIE (X : Cx) (pins : List (Addr × Obj)) (σ : St) (tg : Expr) (R : It → Hp → Prop) (itv : Value) (s2 : Shared) : Prop :=
  ∃ (it : Addr) (fp : List Addr) (tn : Nat → Heap → Prop) (J : It) (H' : Hp), itv = .ref it ∧ Inv X pins σ H' s2 ∧ Turn X.prog X.w X.K tg J fp it tn ∧ tn 0 s2.heap ∧ (∀ b ∈ fp, FpOk X pins H' b) ∧ R J H'
def PI (X : Cx) (tg iter : Expr) (wi : TI) : Prop :=
  ∀ (pins : List (Addr × Obj)) (s : Shared) (σ : St) (H : Hp) (R : It → Hp → Prop), Inv X pins σ H s → wi σ H R →
    wpAny (model X.prog X.w) X.A (eval iter X.env) (fun v s1 => wpAny (model X.prog X.w) X.A (pyIter v) (PIE X pins σ tg R) X.xe s1) X.xe s

/-- the step ahead of the store is nothing for an iterator that keeps no tuple -/
theorem go_of {M : Model} {A : Around} {E : Value → Shared → Prop} {s : Shared} {tg : Expr} {it : Addr} {u : Value} {o : Obj} {n : String} {vs : Array Value} {Q : Unit → Shared → Prop} (ho : s.heap.get? it = some o) (hc : o.cls = .type n) (hd : o.data = .fields vs)
    (hn : ["enumerate", "zip", "dict_itemiterator", "dict_reverseitemiterator", "odict_iterator", "itertools.zip_longest", "itertools.pairwise"].contains n = false) (hQ : Q () s) : wpAny M A (letOwnedTupleGo tg (.ref it) u) Q E s := by
  unfold letOwnedTupleGo
  cases tg <;> first
    | exact wpAny_pure hQ
    | (cases u <;> first
        | exact wpAny_pure hQ
        | (refine wpAny_bind (wpAny_load ho ?_)
           rw [hc, hd]
           show wpAny M A (if (["enumerate", "zip", "dict_itemiterator", "dict_reverseitemiterator", "odict_iterator", "itertools.zip_longest", "itertools.pairwise"].contains n && vs[0]? == some (rawInt _)) = true then _ else _) Q E s
           rw [if_neg (by intro h; rw [hn, Bool.false_and] at h; cases h)]
           exact wpAny_pure hQ))

/-- the list at a, as it stands at each turn (a loop may append to it) -/
def Itl (K : PySem.W.Frag) (a : Addr) : It :=
  ⟨fun i H => ∃ xs x, SqL K H a xs ∧ xs[i]? = some x, fun i H x H' => H' = H ∧ ∀ xs, SqL K H a xs → xs[i]? = some x, fun i H => ∃ xs, SqL K H a xs ∧ xs.length ≤ i⟩
def Itt (K : PySem.W.Frag) (a : Addr) : It :=
  ⟨fun i H => ∃ xs x, SqT K H a xs ∧ xs[i]? = some x, fun i H x H' => H' = H ∧ ∀ xs, SqT K H a xs → xs[i]? = some x, fun i H => ∃ xs, SqT K H a xs ∧ xs.length ≤ i⟩
/-- lo, lo + 1, .. (n of them) -/
def Itr (lo : Int) (n : Nat) : It := ⟨fun i _ => i < n, fun i H x H' => H' = H ∧ x = .int (lo + i), fun i _ => n ≤ i⟩
theorem turn_list {P : Program} {w : World} {K : PySem.W.Frag} {tg : Expr} (a it : Addr) : Turn P w K tg (Itl K a) [it] it (fun i h => h.IsListIter it a i) where
  mem := by simp
  obj := fun i h st b hb => by
    have e : b = it := by simpa using hb
    subst e
    obtain ⟨o, e, c, d⟩ := st
    exact ⟨o, e, fun v z => by rw [d] at z; cases z⟩
  keep := fun i h h' st k => st.at fun o e => k it (by simp) o e
  item := by
    intro X hP hw hK hc i pins s σ H E I hf st hg
    subst hP hw hK
    obtain ⟨xs, x, hq, hx⟩ := hg
    obtain ⟨its, rv, p, hz⟩ := I.list hq
    obtain ⟨u, hu, ru⟩ := rv.get hx
    obtain ⟨f0, f1, f2, f3, f4, f5⟩ := hf it (by simp)
    refine wpAny_pyNext_list_item st p.isList (x := u) (by simpa using hu) fun h' st' sb => ?_
    have I1 : Inv X pins σ H { s with heap := h' } := I.turned (t' := s.toks) (fun b o hb e => (sb.2 b hb).trans e) f0 f1 f3 f4 f5
    obtain ⟨o, e, c, d⟩ := id st'
    exact ⟨u, rfl, go_of (s := { s with heap := h' }) e c d (by decide) ⟨x, H, I1, ru, ⟨rfl, fun ys hy => by rw [I.list_inj hy hq]; exact hx⟩, st', fun b hb => (hf b hb).1⟩⟩
  done := by
    intro X hP hw hK hc i pins s σ H E I hf st hg
    subst hP hw hK
    obtain ⟨xs, hq, hx⟩ := hg
    obtain ⟨its, rv, p, hz⟩ := I.list hq
    obtain ⟨f0, f1, f2, f3, f4, f5⟩ := hf it (by simp)
    have hl := rv.length
    exact wpAny_pyNext_list_end (I.ok.hd hc) st p.isList (by simp; omega) fun h' eb => ⟨rfl, I.turned (t' := s.toks) (fun b o hb e => eb b o hb e) f0 f1 f3 f4 f5⟩
  self := fun _ _ _ _ _ st h => wpAny_pyIter_listiter st h
theorem turn_tuple {P : Program} {w : World} {K : PySem.W.Frag} {tg : Expr} (a it : Addr) : Turn P w K tg (Itt K a) [it] it (fun i h => h.IsTupleIter it a i) where
  mem := by simp
  obj := fun i h st b hb => by
    have e : b = it := by simpa using hb
    subst e
    obtain ⟨o, e, c, d⟩ := st
    exact ⟨o, e, fun v z => by rw [d] at z; cases z⟩
  keep := fun i h h' st k => st.at fun o e => k it (by simp) o e
  item := by
    intro X hP hw hK hc i pins s σ H E I hf st hg
    subst hP hw hK
    obtain ⟨xs, x, hq, hx⟩ := hg
    obtain ⟨its, rv, p, hz⟩ := I.tuple hq
    obtain ⟨u, hu, ru⟩ := rv.get hx
    obtain ⟨f0, f1, f2, f3, f4, f5⟩ := hf it (by simp)
    refine wpAny_pyNext_tuple_item st (show s.heap.IsTuple a its.toArray from p) (x := u) (by simpa using hu) fun h' st' sb => ?_
    have I1 : Inv X pins σ H { s with heap := h' } := I.turned (t' := s.toks) (fun b o hb e => (sb.2 b hb).trans e) f0 f1 f3 f4 f5
    obtain ⟨o, e, c, d⟩ := id st'
    exact ⟨u, rfl, go_of (s := { s with heap := h' }) e c d (by decide) ⟨x, H, I1, ru, ⟨rfl, fun ys hy => by rw [I.tuple_inj hy hq]; exact hx⟩, st', fun b hb => (hf b hb).1⟩⟩
  done := by
    intro X hP hw hK hc i pins s σ H E I hf st hg
    subst hP hw hK
    obtain ⟨xs, hq, hx⟩ := hg
    obtain ⟨its, rv, p, hz⟩ := I.tuple hq
    obtain ⟨f0, f1, f2, f3, f4, f5⟩ := hf it (by simp)
    have hl := rv.length
    exact wpAny_pyNext_tuple_end (I.ok.hd hc) st (show s.heap.IsTuple a its.toArray from p) (by simp; omega) fun h' eb => ⟨rfl, I.turned (t' := s.toks) (fun b o hb e => eb b o hb e) f0 f1 f3 f4 f5⟩
  self := fun _ _ _ _ _ st h => wpAny_pyIter_tupleiter st h
theorem turn_range {P : Program} {w : World} {K : PySem.W.Frag} {tg : Expr} (it : Addr) (lo : Int) (n : Nat) : Turn P w K tg (Itr lo n) [it] it (fun i h => IsRangeIter h it (lo + (i : Nat) * 1) ((n : Int) - (i : Nat)) 1) where
  mem := by simp
  obj := fun i h st b hb => by
    have e : b = it := by simpa using hb
    subst e
    exact ⟨_, st, fun v z => by
      have z' : Data.fields _ = Data.cell v := z
      cases z'⟩
  keep := fun i h h' st k => k it (by simp) _ st
  item := by
    intro X hP hw hK hc i pins s σ H E I hf st hg
    subst hP hw hK
    obtain ⟨f0, f1, f2, f3, f4, f5⟩ := hf it (by simp)
    have W := Walks.range (prog := X.prog) (w := X.w) (I.ok.hd hc) it lo 1 n
    refine W.item i s _ _ hg st fun v h' tk hv st' kk => ?_
    obtain ⟨t, rfl⟩ := hv
    have I1 : Inv X pins σ H { s with heap := h', toks := tk } := I.turned (fun b o hb e => kk b o (by simpa using hb) e) f0 f1 f3 f4 f5
    refine ⟨_, rfl, go_of (s := { s with heap := h', toks := tk }) (n := "range_iterator") st' rfl rfl (by decide) ⟨.int (lo + i), H, I1, ⟨t, ?_⟩, ⟨rfl, rfl⟩, st', fun b hb => (hf b hb).1⟩⟩
    rw [Int.mul_one]
  done := by
    intro X hP hw hK hc i pins s σ H E I hf st hg
    subst hP hw hK
    obtain ⟨f0, f1, f2, f3, f4, f5⟩ := hf it (by simp)
    exact wpAny_pyNext_range_end (I.ok.hd hc) st (by have : n ≤ i := hg; omega) fun h' eb => ⟨rfl, I.turned (t' := s.toks) (fun b o hb e => eb b o hb e) f0 f1 f3 f4 f5⟩
  self := fun _ _ _ _ _ st h => wpAny_pyIter_rangeiter st h
end L2

namespace L2
open PySem PySem.Spec PyProof.Rows
section
variable {X : Cx} {tg : Expr}
def iList (K : PySem.W.Frag) (tl : TE) : TI := fun σ H R => tl σ H fun x H1 => ∃ a, x = .ref a ∧ (∃ xs, SqL K H1 a xs) ∧ R (Itl K a) H1
def iTup (K : PySem.W.Frag) (tl : TE) : TI := fun σ H R => tl σ H fun x H1 => ∃ a, x = .ref a ∧ (∃ xs, SqT K H1 a xs) ∧ R (Itt K a) H1
theorem pi_list {l : Expr} {tl : TE} (hl : PE X l tl) : PI X tg l (iList X.K tl) := by
  intro pins s σ H R I h
  refine thn (hl pins s σ H _ I h) fun v s1 ⟨x, H1, I1, r1, q1⟩ => ?_
  obtain ⟨a, e, ⟨xs, hq⟩, q⟩ := q1
  subst e
  cases r1
  obtain ⟨its, rv, p, hz⟩ := I1.list hq
  refine wpAny_pyIter_list p.isList ?_
  refine ⟨s1.heap.objs.size, [s1.heap.objs.size], _, _, H1, rfl, I1.kept (t' := s1.toks) fun b o e => Heap.get?_push_of_some _ e, turn_list a _, ⟨_, Heap.get?_push_size _ rfl, rfl, rfl⟩, fun b hb => ?_, q⟩
  have e : b = s1.heap.objs.size := by simpa using hb
  subst e
  exact I1.fpOk (Nat.le_refl _) (I1.hok.fresh (Nat.le_refl _))
theorem pi_tup {l : Expr} {tl : TE} (hl : PE X l tl) : PI X tg l (iTup X.K tl) := by
  intro pins s σ H R I h
  refine thn (hl pins s σ H _ I h) fun v s1 ⟨x, H1, I1, r1, q1⟩ => ?_
  obtain ⟨a, e, ⟨xs, hq⟩, q⟩ := q1
  subst e
  cases r1
  obtain ⟨its, rv, p, hz⟩ := I1.tuple hq
  refine wpAny_pyIter_tuple (show s1.heap.IsTuple a its.toArray from p) ?_
  refine ⟨s1.heap.objs.size, [s1.heap.objs.size], _, _, H1, rfl, I1.kept (t' := s1.toks) fun b o e => Heap.get?_push_of_some _ e, turn_tuple a _, ⟨_, Heap.get?_push_size _ rfl, rfl, rfl⟩, fun b hb => ?_, q⟩
  have e : b = s1.heap.objs.size := by simpa using hb
  subst e
  exact I1.fpOk (Nat.le_refl _) (I1.hok.fresh (Nat.le_refl _))
/-- a range object just made, walked -/
theorem range_it {pins : List (Addr × Obj)} {σ : St} {H : Hp} {s : Shared} {R : It → Hp → Prop} {E : Value → Shared → Prop} {lo hi : Int} {t u v : Tok} {tk : Nat} (I : Inv X pins σ H s) (h1 : -(2 ^ 62) ≤ lo) (h2 : lo < 2 ^ 62) (h3 : -(2 ^ 62) ≤ hi) (h4 : hi < 2 ^ 62)
    (q : R (Itr lo (hi - lo).toNat) H) : wpAny (model X.prog X.w) X.A (pyIter (.ref s.heap.objs.size)) (PIE X pins σ tg R) E { s with heap := s.heap.push { cls := .type "range", data := .fields #[.int lo t, .int hi u, .int 1 v] }, toks := tk } := by
  refine wpAny_pyIter_range (IsRange.new ..) (small_one h1 h2 h3 h4) ?_
  have I1 : Inv X pins σ H { s with heap := s.heap.push { cls := .type "range", data := .fields #[.int lo t, .int hi u, .int 1 v] }, toks := tk } := I.kept fun b o e => Heap.get?_push_of_some _ e
  refine ⟨(s.heap.push { cls := .type "range", data := .fields #[.int lo t, .int hi u, .int 1 v] }).objs.size, [(s.heap.push { cls := .type "range", data := .fields #[.int lo t, .int hi u, .int 1 v] }).objs.size], _, _, H, rfl,
    I1.kept (t' := tk) fun b o e => Heap.get?_push_of_some _ e, turn_range _ lo (hi - lo).toNat, ?_, fun b hb => ?_, q⟩
  · have e1 : lo + ((0 : Nat) : Int) * 1 = lo := by simp
    have e2 : (((hi - lo).toNat : Nat) : Int) - ((0 : Nat) : Int) = Builtin.Range.rangeSize lo hi 1 := by rw [rangeSize_one]; split <;> omega
    show IsRangeIter _ _ (lo + ((0 : Nat) : Int) * 1) ((((hi - lo).toNat : Nat) : Int) - ((0 : Nat) : Int)) 1
    rw [e1, e2]
    exact Heap.get?_push_size _ rfl
  · have e : b = (s.heap.push { cls := .type "range", data := .fields #[.int lo t, .int hi u, .int 1 v] }).objs.size := by simpa using hb
    subst e
    exact I1.fpOk (Nat.le_refl _) (I1.hok.fresh (Nat.le_refl _))
def iRng1 (ta : TA) : TI := fun σ H R => ta σ H fun vs H1 => ∃ j : Int, vs = [.int j] ∧ -(2 ^ 62) ≤ j ∧ j < 2 ^ 62 ∧ R (Itr 0 j.toNat) H1
theorem pi_range1 {a : Expr} {ta : TA} {p pos : Pos} (hg : Gl X "range") (hm : X.mg "range" = none) (ha : PA X [a] ta) (hs : starEach [a] X.env = [(false, eval a X.env)] := by rfl) : PI X tg (.Call (.Name "range" p) [a] [] pos) (iRng1 ta) := by
  intro pins s σ H R I h
  refine Call_ (ld_blt I hg hm boot_range (PyProof.Rows.callWith_type1 (thn (ha pos pins s σ H _ I h) fun us s1 ⟨vs, H1, I1, r1, q1⟩ => ?_) hs rfl))
  obtain ⟨j, e, q1, q2, q⟩ := q1
  subst e
  cases r1 with
  | cons r rr =>
    cases rr
    obtain ⟨t, rfl⟩ := r
    exact call_range_1 (range_it I1 (by omega) (by omega) q1 q2 (by simpa using q))
/-! ### for -/
/-- W: the invariant by the turn and a measure; N: what the body is to reach -/
def tFor (wi : TI) (g : TG) (tb : TS) : TS := fun D σ H => wi σ H fun J H1 => ∃ W : Nat → Nat → St → Hp → Prop, (∃ m, W 0 m σ H1) ∧ ∀ i m σ H, W i m σ H →
  (J.stop i H ∧ D.nx σ H) ∨ (J.go i H ∧ ∃ N : St → Hp → Prop, (∀ σ' H', N σ' H' → ∃ m', m' < m ∧ W (i + 1) m' σ' H') ∧ ∀ x H', J.yld i H x H' → g x σ H' fun σ2 H2 => tb { D with nx := N, ct := N, bk := D.nx } σ2 H2)
/-- the records at fp as they stand -/
def pinsAt (fp : List Addr) (h : Heap) : List (Addr × Obj) := fp.filterMap fun b => (h.get? b).map fun o => (b, o)
theorem mem_pinsAt {fp : List Addr} {h : Heap} {b : Addr} {o : Obj} (hb : b ∈ fp) (e : h.get? b = some o) : (b, o) ∈ pinsAt fp h := List.mem_filterMap.mpr ⟨b, hb, by rw [e]; rfl⟩
theorem of_pinsAt {fp : List Addr} {h : Heap} {p : Addr × Obj} (hp : p ∈ pinsAt fp h) : p.1 ∈ fp ∧ h.get? p.1 = some p.2 := by
  obtain ⟨b, hb, e⟩ := List.mem_filterMap.mp hp
  cases q : h.get? b with
  | none => rw [q] at e; cases e
  | some o =>
    rw [q] at e
    have e' : (b, o) = p := Option.some.inj e
    subst e'
    exact ⟨hb, q⟩
theorem Inv.pinned {pins : List (Addr × Obj)} {σ : St} {H : Hp} {s : Shared} {fp : List Addr} (I : Inv X pins σ H s) (hf : ∀ b ∈ fp, FpOk X pins H b) (ho : ∀ b ∈ fp, ∃ o, s.heap.get? b = some o ∧ ∀ v, o.data ≠ .cell v) : Inv X (pins ++ pinsAt fp s.heap) σ H s :=
  I.pins_of fun p hp => (List.mem_append.mp hp).elim (fun z => I.pin p (List.mem_append_right _ z)) fun z => by
    obtain ⟨hb, e⟩ := of_pinsAt z
    obtain ⟨f0, f1, f2, _⟩ := hf p.1 hb
    obtain ⟨o, e', d⟩ := ho p.1 hb
    rw [e] at e'; cases e'
    exact ⟨e, f0, f1, f2, d⟩
theorem Inv.unpinned {pins pl : List (Addr × Obj)} {σ : St} {H : Hp} {s : Shared} (I : Inv X (pins ++ pl) σ H s) : Inv X pins σ H s := I.pins_of fun p hp => I.pin p (List.mem_append_right _ (List.mem_append_left _ hp))
theorem ps_for {iter : Expr} {body : List Stmt} {wi : TI} {g : TG} {tb : TS} {pos : Pos} (hp : PassesOwn (model X.prog X.w) X.A X.env X.xe) (hc : X.calm = true) (hi : PI X tg iter wi) (hg : PG X tg g) (hb : PSs X body tb)
    (hs : ∀ x, foldedSetIterable iter X.env x = pure x := by intro _; rfl) : PS X (.For tg iter body [] pos) (tFor wi g tb) := by
  intro pins s σ H D I h
  refine wpAny_For (thn (hi pins s σ H _ I h) fun v s1 h1 => thn h1 fun itv s2 h2 => ?_) hs
  obtain ⟨it, fp, tn, J, H2, e, I2, T, st2, f2, W, ⟨m0, w0⟩, turn⟩ := h2
  subst e
  -- what stays true of the iterator's objects through the loop
  have stat : ∀ {H' : Hp}, (∀ b ∈ fp, H' b = none) → ∀ b ∈ fp, FpOk X pins H' b := fun hn b hb => ⟨hn b hb, (f2 b hb).2⟩
  refine codeAny_forLoop_any (fun n s' => ∃ i σ' H', Inv X pins σ' H' s' ∧ tn i s'.heap ∧ (∀ b ∈ fp, H' b = none) ∧ W i n σ' H') ?_ m0 ⟨0, σ, H2, I2, st2, fun b hb => (f2 b hb).1, w0⟩
  rintro n s3 ⟨i, σ3, H3, I3, st3, fr3, w3⟩
  rcases turn i n σ3 H3 w3 with ⟨stop, qn⟩ | ⟨go, N, hN, step⟩
  · refine wpAny_passesOwn hp (thn (T.done X rfl rfl rfl hc i pins s3 σ3 H3 X.xe I3 (stat fr3) st3 stop) fun r s4 ⟨hr, I4⟩ => ?_)
    subst hr
    exact wpAny_execs_nil ⟨σ3, H3, I4, qn⟩
  · refine wpAny_passesOwn hp (thn (T.item X rfl rfl rfl hc i pins s3 σ3 H3 X.xe I3 (stat fr3) st3 go) fun r s4 ⟨u, hr, h4⟩ => ?_)
    subst hr
    refine wpAny_passesOwn hp (thn h4 fun _ s5 ⟨x, H5, I5, r5, y5, st5, fr5⟩ => ?_)
    have I5' := I5.pinned (stat fr5) (T.obj _ _ st5)
    refine wpAny_passesOwn hp (thn (hg _ s5 σ3 H5 x u _ I5' r5 (step x H5 y5)) fun _ s6 ⟨σ6, H6, I6, q6⟩ => ?_)
    refine wpAny_passesOwn hp (thn (hb _ s6 σ6 H6 _ I6 q6) fun f s7 q7 => ?_)
    have again : ∀ {σ7 : St} {H7 : Hp}, Inv X (pins ++ pinsAt fp s5.heap) σ7 H7 s7 → N σ7 H7 → ∃ m, m < n ∧ ∃ i σ' H', Inv X pins σ' H' s7 ∧ tn i s7.heap ∧ (∀ b ∈ fp, H' b = none) ∧ W i m σ' H' := fun {σ7 H7} I7 n7 => by
      obtain ⟨m', hm, w7⟩ := hN σ7 H7 n7
      refine ⟨m', hm, i + 1, σ7, H7, I7.unpinned, T.keep _ _ _ st5 fun b hb o e => (I7.pin (b, o) (List.mem_append_right _ (List.mem_append_right _ (mem_pinsAt hb e)))).1, fun b hb => ?_, w7⟩
      obtain ⟨o, e, d⟩ := T.obj _ _ st5 b hb
      exact (I7.pin (b, o) (List.mem_append_right _ (List.mem_append_right _ (mem_pinsAt hb e)))).2.1
    cases f with
    | next => obtain ⟨σ7, H7, I7, n7⟩ := q7; exact again I7 n7
    | cont => obtain ⟨σ7, H7, I7, n7⟩ := q7; exact again I7 n7
    | brk => obtain ⟨σ7, H7, I7, q7⟩ := q7; exact ⟨σ7, H7, I7.unpinned, q7⟩
    | ret v => obtain ⟨x7, σ7, H7, I7, r7, q7⟩ := q7; exact ⟨x7, σ7, H7, I7.unpinned, r7, q7⟩
end

/-! ### the forms one uses -/
/-- over a list that the body leaves as it is -/
theorem for_list {K : PySem.W.Frag} {a : Addr} {xs : List V} {g : TG} {tb : TS} {D : Ends} {σ : St} {H : Hp} (Pv : Nat → St → Hp → Prop) (h0 : Pv 0 σ H) (hl : ∀ i σ H, i ≤ xs.length → Pv i σ H → SqL K H a xs)
    (hs : ∀ i x σ H, xs[i]? = some x → Pv i σ H → g x σ H fun σ2 H2 => tb { D with nx := Pv (i + 1), ct := Pv (i + 1), bk := D.nx } σ2 H2) (hd : ∀ σ H, Pv xs.length σ H → D.nx σ H) :
    ∃ W : Nat → Nat → St → Hp → Prop, (∃ m, W 0 m σ H) ∧ ∀ i m σ H, W i m σ H →
      ((Itl K a).stop i H ∧ D.nx σ H) ∨ ((Itl K a).go i H ∧ ∃ N : St → Hp → Prop, (∀ σ' H', N σ' H' → ∃ m', m' < m ∧ W (i + 1) m' σ' H') ∧ ∀ x H', (Itl K a).yld i H x H' → g x σ H' fun σ2 H2 => tb { D with nx := N, ct := N, bk := D.nx } σ2 H2) := by
  refine ⟨fun i m σ H => m = xs.length - i ∧ i ≤ xs.length ∧ Pv i σ H, ⟨xs.length, by simp, Nat.zero_le _, h0⟩, ?_⟩
  rintro i m σ H ⟨rfl, hi, p⟩
  have q := hl i σ H hi p
  by_cases hlt : i < xs.length
  · refine .inr ⟨⟨xs, xs[i], q, by simp [hlt]⟩, Pv (i + 1), fun σ' H' p' => ⟨xs.length - (i + 1), by omega, rfl, hlt, p'⟩, fun x H' y => ?_⟩
    obtain ⟨e, y⟩ := y
    subst e
    exact hs i x σ _ (y xs q) p
  · have e : i = xs.length := by omega
    subst e
    exact .inl ⟨⟨xs, q, Nat.le_refl _⟩, hd σ H p⟩
theorem for_tup {K : PySem.W.Frag} {a : Addr} {xs : List V} {g : TG} {tb : TS} {D : Ends} {σ : St} {H : Hp} (Pv : Nat → St → Hp → Prop) (h0 : Pv 0 σ H) (hl : ∀ i σ H, i ≤ xs.length → Pv i σ H → SqT K H a xs)
    (hs : ∀ i x σ H, xs[i]? = some x → Pv i σ H → g x σ H fun σ2 H2 => tb { D with nx := Pv (i + 1), ct := Pv (i + 1), bk := D.nx } σ2 H2) (hd : ∀ σ H, Pv xs.length σ H → D.nx σ H) :
    ∃ W : Nat → Nat → St → Hp → Prop, (∃ m, W 0 m σ H) ∧ ∀ i m σ H, W i m σ H →
      ((Itt K a).stop i H ∧ D.nx σ H) ∨ ((Itt K a).go i H ∧ ∃ N : St → Hp → Prop, (∀ σ' H', N σ' H' → ∃ m', m' < m ∧ W (i + 1) m' σ' H') ∧ ∀ x H', (Itt K a).yld i H x H' → g x σ H' fun σ2 H2 => tb { D with nx := N, ct := N, bk := D.nx } σ2 H2) := by
  refine ⟨fun i m σ H => m = xs.length - i ∧ i ≤ xs.length ∧ Pv i σ H, ⟨xs.length, by simp, Nat.zero_le _, h0⟩, ?_⟩
  rintro i m σ H ⟨rfl, hi, p⟩
  have q := hl i σ H hi p
  by_cases hlt : i < xs.length
  · refine .inr ⟨⟨xs, xs[i], q, by simp [hlt]⟩, Pv (i + 1), fun σ' H' p' => ⟨xs.length - (i + 1), by omega, rfl, hlt, p'⟩, fun x H' y => ?_⟩
    obtain ⟨e, y⟩ := y
    subst e
    exact hs i x σ _ (y xs q) p
  · have e : i = xs.length := by omega
    subst e
    exact .inl ⟨⟨xs, q, Nat.le_refl _⟩, hd σ H p⟩
theorem for_range {lo : Int} {n : Nat} {g : TG} {tb : TS} {D : Ends} {σ : St} {H : Hp} (Pv : Nat → St → Hp → Prop) (h0 : Pv 0 σ H)
    (hs : ∀ i σ H, i < n → Pv i σ H → g (.int (lo + i)) σ H fun σ2 H2 => tb { D with nx := Pv (i + 1), ct := Pv (i + 1), bk := D.nx } σ2 H2) (hd : ∀ σ H, Pv n σ H → D.nx σ H) :
    ∃ W : Nat → Nat → St → Hp → Prop, (∃ m, W 0 m σ H) ∧ ∀ i m σ H, W i m σ H →
      ((Itr lo n).stop i H ∧ D.nx σ H) ∨ ((Itr lo n).go i H ∧ ∃ N : St → Hp → Prop, (∀ σ' H', N σ' H' → ∃ m', m' < m ∧ W (i + 1) m' σ' H') ∧ ∀ x H', (Itr lo n).yld i H x H' → g x σ H' fun σ2 H2 => tb { D with nx := N, ct := N, bk := D.nx } σ2 H2) := by
  refine ⟨fun i m σ H => m = n - i ∧ i ≤ n ∧ Pv i σ H, ⟨n, by simp, Nat.zero_le _, h0⟩, ?_⟩
  rintro i m σ H ⟨rfl, hi, p⟩
  by_cases hlt : i < n
  · refine .inr ⟨hlt, Pv (i + 1), fun σ' H' p' => ⟨n - (i + 1), by omega, rfl, hlt, p'⟩, fun x H' y => ?_⟩
    obtain ⟨e, y⟩ := y
    subst e y
    exact hs i σ _ hlt p
  · have e : i = n := by omega
    subst e
    exact .inl ⟨Nat.le_refl _, hd σ H p⟩
end L2

namespace L2
open PySem PySem.Spec PyProof.Rows

abbrev R2 := V → V → Hp → VK → Prop
/-- a two-place operation on values: f is binaryOp op, inplaceOp op or compareOp op -/
def OpR (X : Cx) (f : Value → Value → Sem Value) (r : R2) : Prop :=
  ∀ (pins : List (Addr × Obj)) (s : Shared) (σ : St) (H : Hp) (x y : V) (v u : Value) (Q : VK), Inv X pins σ H s → RelV x v → RelV y u → r x y H Q →
    wpAny (model X.prog X.w) X.A (f v u) (EP X pins σ Q) X.xe s
/-- a one-place operation -/
def UnR (X : Cx) (f : Value → Sem Value) (r : V → Hp → VK → Prop) : Prop :=
  ∀ (pins : List (Addr × Obj)) (s : Shared) (σ : St) (H : Hp) (x : V) (v : Value) (Q : VK), Inv X pins σ H s → RelV x v → r x H Q →
    wpAny (model X.prog X.w) X.A (f v) (EP X pins σ Q) X.xe s
/-- a call of a value that is known (a builtin, a type) with values -/
def CallR (X : Cx) (f : Value) (r : List V → Hp → VK → Prop) : Prop :=
  ∀ (pins : List (Addr × Obj)) (s : Shared) (σ : St) (H : Hp) (xs : List V) (us : List Value) (Q : VK), Inv X pins σ H s → Vals xs us → r xs H Q →
    wpAny (model X.prog X.w) X.A (call f us) (EP X pins σ Q) X.xe s
def tOp (r : R2) (ta tb : TE) : TE := fun σ H Q => ta σ H fun x H1 => tb σ H1 fun y H2 => r x y H2 Q
def tUn (r : V → Hp → VK → Prop) (ta : TE) : TE := fun σ H Q => ta σ H fun x H1 => r x H1 Q
/-- ints in, under C, and a value out -/
def rI (C : Int → Int → Prop) (g : Int → Int → V) : R2 := fun x y H Q => ∃ i j, x = .int i ∧ y = .int j ∧ C i j ∧ Q (g i j) H
def rI0 (g : Int → Int → V) : R2 := fun x y H Q => ∃ i j, x = .int i ∧ y = .int j ∧ Q (g i j) H
def rU (g : Int → V) : V → Hp → VK → Prop := fun x H Q => ∃ i, x = .int i ∧ Q (g i) H

section
variable {X : Cx} {a b c : Expr} {ta tb tc : TE} {pos : Pos}

theorem binT (ha : PE X a ta) (hb : PE X b tb) {pins : List (Addr × Obj)} {s : Shared} {σ : St} {H : Hp} {R : V → V → Hp → Prop} (I : Inv X pins σ H s)
    (h : ta σ H fun x H1 => tb σ H1 fun y H2 => R x y H2) {Q : Value → Shared → Prop} {f : Value → Value → Sem Value}
    (hf : ∀ v u s2 x y H2, Inv X pins σ H2 s2 → RelV x v → RelV y u → R x y H2 → wpAny (model X.prog X.w) X.A (f v u) Q X.xe s2) :
    wpAny (model X.prog X.w) X.A (eval a X.env) (fun v s₁ => wpAny (model X.prog X.w) X.A (eval b X.env) (fun u s₂ => wpAny (model X.prog X.w) X.A (f v u) Q X.xe s₂) X.xe s₁) X.xe s := by
  refine thn (ha pins s σ H _ I h) fun v s1 ⟨x, H1, I1, r1, q1⟩ => ?_
  refine thn (hb pins s1 σ H1 _ I1 q1) fun u s2 ⟨y, H2, I2, r2, q2⟩ => ?_
  exact hf v u s2 x y H2 I2 r1 r2 q2

theorem pe_op {op : Operator} {r : R2} (ho : OpR X (binaryOp op) r) (ha : PE X a ta) (hb : PE X b tb) : PE X (.BinOp a op b pos) (tOp r ta tb) := by
  intro pins s σ H Q I h
  exact wpAny_BinOp (binT ha hb I h fun v u s2 x y H2 I2 rx ry q => ho pins s2 σ H2 x y v u Q I2 rx ry q)
theorem pe_un {op : UnaryOp} {r : V → Hp → VK → Prop} (ho : UnR X (unaryOp op) r) (ha : PE X a ta) : PE X (.UnaryOp op a pos) (tUn r ta) := by
  intro pins s σ H Q I h
  exact UnaryOp_ (thn (ha pins s σ H _ I h) fun v s1 ⟨x, H1, I1, r1, q1⟩ => ho pins s1 σ H1 x v Q I1 r1 q1)
/-! ### ints -/
theorem opI {f : Value → Value → Sem Value} {C : Int → Int → Prop} {g : Int → Int → Int}
    (rule : ∀ (i j : Int) (t u : Tok) (s : Shared) (Q : Value → Shared → Prop) (E : Value → Shared → Prop), C i j → Q (.int (g i j) s.toks) { s with toks := s.toks + 1 } → wpAny (model X.prog X.w) X.A (f (.int i t) (.int j u)) Q E s) :
    OpR X f (rI C fun i j => .int (g i j)) := by
  intro pins s σ H x y v u Q I rx ry h
  obtain ⟨i, j, rfl, rfl, hc, q⟩ := h
  obtain ⟨t, rfl⟩ := rx
  obtain ⟨t', rfl⟩ := ry
  exact rule i j t t' s _ _ hc ⟨.int (g i j), H, I.tok _, ⟨_, rfl⟩, q⟩
theorem opI0 {f : Value → Value → Sem Value} {g : Int → Int → Int}
    (rule : ∀ (i j : Int) (t u : Tok) (s : Shared) (Q : Value → Shared → Prop) (E : Value → Shared → Prop), Q (.int (g i j) s.toks) { s with toks := s.toks + 1 } → wpAny (model X.prog X.w) X.A (f (.int i t) (.int j u)) Q E s) :
    OpR X f (rI0 fun i j => .int (g i j)) := by
  intro pins s σ H x y v u Q I rx ry h
  obtain ⟨i, j, rfl, rfl, q⟩ := h
  obtain ⟨t, rfl⟩ := rx
  obtain ⟨t', rfl⟩ := ry
  exact rule i j t t' s _ _ ⟨.int (g i j), H, I.tok _, ⟨_, rfl⟩, q⟩
theorem opB0 {f : Value → Value → Sem Value} {g : Int → Int → Bool}
    (rule : ∀ (i j : Int) (t u : Tok) (s : Shared) (Q : Value → Shared → Prop) (E : Value → Shared → Prop), Q (.bool (g i j)) s → wpAny (model X.prog X.w) X.A (f (.int i t) (.int j u)) Q E s) :
    OpR X f (rI0 fun i j => .bl (g i j)) := by
  intro pins s σ H x y v u Q I rx ry h
  obtain ⟨i, j, rfl, rfl, q⟩ := h
  obtain ⟨t, rfl⟩ := rx
  obtain ⟨t', rfl⟩ := ry
  exact rule i j t t' s _ _ ⟨.bl (g i j), H, I, rfl, q⟩

def CDiv (i j : Int) : Prop := 0 < j ∧ j < 1073741824
def CPow (i j : Int) : Prop := 0 ≤ j ∧ j ≤ 1000000 ∧ i.natAbs < 2 ^ 64
def CMul (i j : Int) : Prop := (-(2 ^ 64) < i ∧ i < 2 ^ 64) ∨ (-(2 ^ 64) < j ∧ j < 2 ^ 64)
theorem CMul.ok {i j : Int} (h : CMul i j) : IntMulOk i j := by
  rcases h with ⟨h1, h2⟩ | ⟨h1, h2⟩
  · exact .of_left (intBits_le_64 h1 h2)
  · exact .of_right (intBits_le_64 h1 h2)
theorem op_add : OpR X (binaryOp .Add) (rI0 fun i j => .int (i + j)) := opI0 fun _ _ _ _ _ _ _ q => add_int q
theorem op_sub : OpR X (binaryOp .Sub) (rI0 fun i j => .int (i - j)) := opI0 fun _ _ _ _ _ _ _ q => sub_int q
theorem op_mul : OpR X (binaryOp .Mult) (rI CMul fun i j => .int (i * j)) := opI fun _ _ _ _ _ _ _ hc q => mul_int q hc.ok
/-- // by a positive divisor -/
theorem op_fdiv : OpR X (binaryOp .FloorDiv) (rI CDiv fun i j => .int (i / j)) := opI fun i j _ _ _ _ _ hc q => by
  have h1 : (0 : Int) < j := hc.1
  have h2 : j < 1073741824 := hc.2
  exact floordiv_int (by omega) (by rw [Int.fdiv_eq_ediv_of_nonneg i (by omega)]; exact q) (.inl (PyProof.noPylong_small (by omega)))
/-- % by a positive divisor of any size -/
theorem op_mod : OpR X (binaryOp .Mod) (rI (fun _ j => 0 < j) fun i j => .int (i % j)) := opI fun i j _ _ _ _ _ hc q => by
  have h1 : (0 : Int) < j := hc
  exact mod_int' (by omega) (by rw [Int.fmod_eq_emod_of_nonneg i (by omega)]; exact q)
theorem op_pow : OpR X (binaryOp .Pow) (rI CPow fun i j => .int (i ^ j.toNat)) := opI fun _ _ _ _ _ _ _ hc q => pow_int_small hc.1 hc.2.1 hc.2.2 q
theorem unI {f : Value → Sem Value} {g : Int → Int}
    (rule : ∀ (i : Int) (t : Tok) (s : Shared) (Q : Value → Shared → Prop) (E : Value → Shared → Prop), Q (.int (g i) s.toks) { s with toks := s.toks + 1 } → wpAny (model X.prog X.w) X.A (f (.int i t)) Q E s) :
    UnR X f (rU fun i => .int (g i)) := by
  intro pins s σ H x v Q I rx h
  obtain ⟨i, rfl, q⟩ := h
  obtain ⟨t, rfl⟩ := rx
  exact rule i t s _ _ ⟨.int (g i), H, I.tok _, ⟨_, rfl⟩, q⟩
theorem un_neg : UnR X (unaryOp .USub) (rU fun i => .int (-i)) := unI fun _ _ _ _ _ q => neg_int q
/-! ### bools among ints: n += (a < b) -/
end

/-! ### comparisons -/
/-- the scalars that == tells apart as data does -/
def scal : V → V → Bool
  | .non, .non => true | .non, .int _ => true | .int _, .non => true | .non, .bl _ => true | .bl _, .non => true | .non, .str _ => true | .str _, .non => true
  | .int _, .int _ => true | .bl _, .bl _ => true | .str _, .str _ => true | .byt _, .byt _ => true
  | .int _, .str _ => true | .str _, .int _ => true | .bl _, .str _ => true | .str _, .bl _ => true
  | _, _ => false
def rEq : R2 := fun x y H Q => scal x y = true ∧ Q (.bl (decide (x = y))) H
def rNe : R2 := fun x y H Q => scal x y = true ∧ Q (.bl (!decide (x = y))) H

theorem dec_int {i j : Int} : decide (V.int i = V.int j) = (i == j) := by
  rw [Bool.eq_iff_iff]
  simp
theorem dec_bl {i j : Bool} : decide (V.bl i = V.bl j) = (i == j) := by
  rw [Bool.eq_iff_iff]
  simp
theorem dec_str {i j : Str} : decide (V.str i = V.str j) = (i == j) := by
  rw [Bool.eq_iff_iff]
  simp
theorem dec_byt {i j : Array UInt8} : decide (V.byt i = V.byt j) = (i.toList == j.toList) := by
  rw [Bool.eq_iff_iff]
  cases i
  cases j
  simp

section
variable {X : Cx} {a b c : Expr} {ta tb tc : TE} {pos : Pos}
theorem fin_bl {pins : List (Addr × Obj)} {σ : St} {H : Hp} {s : Shared} {Q : VK} {k k' : Bool} (I : Inv X pins σ H s) (q : Q (.bl k) H) (e : k = k') : EP X pins σ Q (.bool k') s := by
  subst e
  exact ⟨.bl k, H, I, rfl, q⟩
theorem op_eq : OpR X (compareOp .Eq) rEq := by
  intro pins s σ H x y v u Q I rx ry h
  obtain ⟨hs, q⟩ := h
  cases x with
  | non =>
    cases rx
    cases y with
    | non => cases ry; exact PySem.EqNone.eq_none_none (fin_bl I q (by simp))
    | bl j => cases ry; exact PySem.EqNone.eq_none_bool (fin_bl I q (by simp))
    | int j => obtain ⟨t', rfl⟩ := ry; exact PySem.EqNone.eq_none_int (fin_bl I q (by simp))
    | str j => obtain ⟨t', rfl⟩ := ry; exact PySem.EqNone.eq_none_str (fin_bl I q (by simp))
    | _ => exact absurd (show false = true from hs) Bool.false_ne_true
  | bl i =>
    cases rx
    cases y with
    | non => cases ry; exact PySem.EqNone.eq_bool_none (fin_bl I q (by simp))
    | bl j => cases ry; exact eq_bool (fin_bl I q dec_bl)
    | str j => obtain ⟨t', rfl⟩ := ry; exact PySem.EqMixed.eq_bool_str (fin_bl I q (by simp))
    | _ => exact absurd (show false = true from hs) Bool.false_ne_true
  | int i =>
    obtain ⟨t, rfl⟩ := rx
    cases y with
    | non => cases ry; exact PySem.EqNone.eq_int_none (fin_bl I q (by simp))
    | int j => obtain ⟨t', rfl⟩ := ry; exact eq_int (fin_bl I q dec_int)
    | str j => obtain ⟨t', rfl⟩ := ry; exact PySem.EqMixed.eq_int_str (fin_bl I q (by simp))
    | _ => exact absurd (show false = true from hs) Bool.false_ne_true
  | str i =>
    obtain ⟨t, rfl⟩ := rx
    cases y with
    | non => cases ry; exact PySem.EqNone.eq_str_none (fin_bl I q (by simp))
    | bl j => cases ry; exact PySem.EqMixed.eq_str_bool (fin_bl I q (by simp))
    | int j => obtain ⟨t', rfl⟩ := ry; exact PySem.EqMixed.eq_str_int (fin_bl I q (by simp))
    | str j => obtain ⟨t', rfl⟩ := ry; exact eq_str (fin_bl I q dec_str)
    | _ => exact absurd (show false = true from hs) Bool.false_ne_true
  | byt i =>
    obtain ⟨t, rfl⟩ := rx
    cases y with
    | byt j => obtain ⟨t', rfl⟩ := ry; exact PySem.W.eq_bytes (fin_bl I q dec_byt)
    | _ => exact absurd (show false = true from hs) Bool.false_ne_true
  | _ => cases y <;> exact absurd (show false = true from hs) Bool.false_ne_true
theorem op_ne : OpR X (compareOp .NotEq) rNe := by
  intro pins s σ H x y v u Q I rx ry h
  obtain ⟨hs, q⟩ := h
  cases x with
  | non =>
    cases rx
    cases y with
    | non => cases ry; exact PySem.EqNone.ne_none_none (fin_bl I q (by simp))
    | bl j => cases ry; exact PySem.EqNone.ne_none_bool (fin_bl I q (by simp))
    | int j => obtain ⟨t', rfl⟩ := ry; exact PySem.EqNone.ne_none_int (fin_bl I q (by simp))
    | str j => obtain ⟨t', rfl⟩ := ry; exact PySem.EqNone.ne_none_str (fin_bl I q (by simp))
    | _ => exact absurd (show false = true from hs) Bool.false_ne_true
  | bl i =>
    cases rx
    cases y with
    | non => cases ry; exact PySem.EqNone.ne_bool_none (fin_bl I q (by simp))
    | bl j => cases ry; exact ne_bool (fin_bl I q (congrArg not dec_bl))
    | str j => obtain ⟨t', rfl⟩ := ry; exact PySem.EqMixed.ne_bool_str (fin_bl I q (by simp))
    | _ => exact absurd (show false = true from hs) Bool.false_ne_true
  | int i =>
    obtain ⟨t, rfl⟩ := rx
    cases y with
    | non => cases ry; exact PySem.EqNone.ne_int_none (fin_bl I q (by simp))
    | int j => obtain ⟨t', rfl⟩ := ry; exact ne_int (fin_bl I q (congrArg not dec_int))
    | str j => obtain ⟨t', rfl⟩ := ry; exact PySem.EqMixed.ne_int_str (fin_bl I q (by simp))
    | _ => exact absurd (show false = true from hs) Bool.false_ne_true
  | str i =>
    obtain ⟨t, rfl⟩ := rx
    cases y with
    | non => cases ry; exact PySem.EqNone.ne_str_none (fin_bl I q (by simp))
    | bl j => cases ry; exact PySem.EqMixed.ne_str_bool (fin_bl I q (by simp))
    | int j => obtain ⟨t', rfl⟩ := ry; exact PySem.EqMixed.ne_str_int (fin_bl I q (by simp))
    | str j => obtain ⟨t', rfl⟩ := ry; exact ne_str (fin_bl I q (congrArg not dec_str))
    | _ => exact absurd (show false = true from hs) Bool.false_ne_true
  | byt i =>
    obtain ⟨t, rfl⟩ := rx
    cases y with
    | byt j => obtain ⟨t', rfl⟩ := ry; exact PySem.W.ne_bytes (fin_bl I q (congrArg not dec_byt))
    | _ => exact absurd (show false = true from hs) Bool.false_ne_true
  | _ => cases y <;> exact absurd (show false = true from hs) Bool.false_ne_true

theorem op_lt : OpR X (compareOp .Lt) (rI0 fun i j => .bl (decide (i < j))) := opB0 fun _ _ _ _ _ _ _ q => lt_int q
theorem op_gt : OpR X (compareOp .Gt) (rI0 fun i j => .bl (decide (j < i))) := opB0 fun _ _ _ _ _ _ _ q => gt_int q
/-- the one string within the other -/
theorem op_in_str : OpR X (compareOp .In) (fun x y H Q => ∃ i j, x = .str i ∧ y = .str j ∧ Q (.bl (!(Builtin.Str.occurrences j i 0 j.length 1).isEmpty)) H) := by
  intro pins s σ H x y v u Q I rx ry h
  obtain ⟨i, j, rfl, rfl, q⟩ := h
  obtain ⟨t, rfl⟩ := rx
  obtain ⟨t', rfl⟩ := ry
  exact in_str (fin_bl I q rfl)

/-- is None, is not None: the right side a value none -/
theorem op_isN : OpR X (compareOp .Is) (fun x y H Q => y = .non ∧ Q (.bl (decide (x = .non))) H) := by
  intro pins s σ H x y v u Q I rx ry h
  obtain ⟨rfl, q⟩ := h
  cases ry
  refine is_none_gen (fin_bl I q ?_)
  cases x <;> first
    | (cases rx; rfl)
    | (obtain ⟨t, rfl⟩ := rx; rfl)
theorem op_notN : OpR X (compareOp .IsNot) (fun x y H Q => y = .non ∧ Q (.bl (!decide (x = .non))) H) := by
  intro pins s σ H x y v u Q I rx ry h
  obtain ⟨rfl, q⟩ := h
  cases ry
  refine isnot_none_gen (fin_bl I q ?_)
  cases x <;> first
    | (cases rx; rfl)
    | (obtain ⟨t, rfl⟩ := rx; rfl)

theorem nomark (b : Expr) {op : CmpOp} (h : op ≠ .In := by decide) (h2 : op ≠ .NotIn := by decide) : behindInMarks op b = false := by
  have e1 : (op == CmpOp.In) = false := by cases op <;> first | rfl | exact absurd rfl h
  have e2 : (op == CmpOp.NotIn) = false := by cases op <;> first | rfl | exact absurd rfl h2
  cases b <;> simp [behindInMarks, e1, e2]
/-- a comparison as a value; hm: nomark b, or (for in, not in) by with_unfolding_all rfl -/
theorem pe_cmpR {op : CmpOp} {r : R2} (ho : OpR X (compareOp op) r) (ha : PE X a ta) (hb : PE X b tb) (hm : behindInMarks op b = false) : PE X (.Compare a [op] [b] pos) (tOp r ta tb) := by
  intro pins s σ H Q I h
  exact wpAny_Compare1 (binT ha hb I h fun v u s2 x y H2 I2 rx ry q => ho pins s2 σ H2 x y v u Q I2 rx ry q) hm
/-- a reading of a value as a test -/
def tTest (t : TE) : TT := fun σ H Q => t σ H fun x H' => ∃ k, x = .bl k ∧ Q k H'
theorem pt_cmpR {op : CmpOp} {r : R2} (ho : OpR X (compareOp op) r) (ha : PE X a ta) (hb : PE X b tb) (hm : behindInMarks op b = false) : PT X (.Compare a [op] [b] pos) (tTest (tOp r ta tb)) := by
  intro pins s σ H Q I h
  refine wpAny_isTrue_Compare1 (thn (ha pins s σ H _ I h) fun v s1 ⟨x, H1, I1, r1, q1⟩ => thn (hb pins s1 σ H1 _ I1 q1) fun u s2 ⟨y, H2, I2, r2, q2⟩ =>
    thn (ho pins s2 σ H2 x y v u _ I2 r1 r2 q2) fun c s3 ⟨z, H3, I3, r3, k, e, q3⟩ => ?_) hm
  subst e
  cases r3
  exact wpAny_truthy_bool ⟨H3, I3, q3⟩
/-! ### truth -/
theorem line63 : (sizeLine : Nat) < 2 ^ 63 := by rw [sizeLine_eq]; decide
/-! ### strs and bytes -/
theorem op_add_str : OpR X (binaryOp .Add) (fun x y H Q => ∃ i j, x = .str i ∧ y = .str j ∧ i.length + j.length ≤ sizeLine ∧ Q (.str (i ++ j)) H) := by
  intro pins s σ H x y v u Q I rx ry h
  obtain ⟨i, j, rfl, rfl, hz, q⟩ := h
  obtain ⟨t, rfl⟩ := rx
  obtain ⟨t', rfl⟩ := ry
  exact add_str (fun t' tk => ⟨.str (i ++ j), H, I.tok _, ⟨_, rfl⟩, q⟩) hz
/-! ### scalar builtins, by CallR -/
theorem vals1 {x : V} {us : List Value} (r : Vals [x] us) : ∃ u, us = [u] ∧ RelV x u := by
  cases r with
  | cons r1 r2 => cases r2; exact ⟨_, rfl, r1⟩
theorem vals2 {x y : V} {us : List Value} (r : Vals [x, y] us) : ∃ u w', us = [u, w'] ∧ RelV x u ∧ RelV y w' := by
  cases r with
  | cons r1 r2 =>
    cases r2 with
    | cons r3 r4 => cases r4; exact ⟨_, _, rfl, r1, r3⟩
theorem call_max2 (hc : X.calm = true) : CallR X (.builtin "max") (fun xs H Q => ∃ i j, xs = [.int i, .int j] ∧ Q (.int (if j > i then j else i)) H) := by
  intro pins s σ H xs us Q I r h
  obtain ⟨i, j, rfl, q⟩ := h
  obtain ⟨u, w', rfl, ⟨t, rfl⟩, ⟨t', rfl⟩⟩ := vals2 r
  refine max_two_ints (I.ok.hd hc) fun h' tk k => ⟨_, H, I.kept k, ?_, q⟩
  by_cases hj : j > i
  · rw [if_pos hj, if_pos hj]; exact ⟨_, rfl⟩
  · rw [if_neg hj, if_neg hj]; exact ⟨_, rfl⟩
theorem call_min2 (hc : X.calm = true) : CallR X (.builtin "min") (fun xs H Q => ∃ i j, xs = [.int i, .int j] ∧ Q (.int (if j < i then j else i)) H) := by
  intro pins s σ H xs us Q I r h
  obtain ⟨i, j, rfl, q⟩ := h
  obtain ⟨u, w', rfl, ⟨t, rfl⟩, ⟨t', rfl⟩⟩ := vals2 r
  refine min_two_ints (I.ok.hd hc) fun h' tk k => ⟨_, H, I.kept k, ?_, q⟩
  by_cases hj : j < i
  · rw [if_pos hj, if_pos hj]; exact ⟨_, rfl⟩
  · rw [if_neg hj, if_neg hj]; exact ⟨_, rfl⟩
theorem call_int1 : CallR X (.type "int") (fun xs H Q => (∃ i, xs = [.int i] ∧ Q (.int i) H) ∨ ∃ k, xs = [.bl k] ∧ Q (.int (if k then 1 else 0)) H) := by
  intro pins s σ H xs us Q I r h
  rcases h with ⟨i, rfl, q⟩ | ⟨k, rfl, q⟩
  · obtain ⟨u, rfl, t, rfl⟩ := vals1 r
    exact call_int_int ⟨.int i, H, I, ⟨_, rfl⟩, q⟩
  · obtain ⟨u, rfl, r1⟩ := vals1 r
    cases r1
    exact call_int_bool ⟨.int (if k then 1 else 0), H, I.tok _, ⟨_, rfl⟩, q⟩
theorem call_str_int : CallR X (.type "str") (fun xs H Q => ∃ i, xs = [.int i] ∧ i.natAbs.log2 < 1920 ∧ Q (.str (toString i)) H) := by
  intro pins s σ H xs us Q I r h
  obtain ⟨i, rfl, hz, q⟩ := h
  obtain ⟨u, rfl, t, rfl⟩ := vals1 r
  exact PySem.P.str_of_int hz ⟨.str _, H, I.tok _, ⟨_, rfl⟩, q⟩
end
end L2

namespace L2
open PySem PySem.Spec PyProof.Rows

/-! ### an instance, its attributes a map -/
structure ObjM (h : Heap) (x dx C : Addr) (mA : Str → Option Value) : Prop where
  obj : h.get? x = some (PySem.W.instObj C dx)
  ns : h.Ns1 dx mA
  ne : dx ≠ x

theorem lookIn_ns {h : Heap} {dx : Addr} {mA : Str → Option Value} (n : h.Ns1 dx mA) : ∃ od, h.get? dx = some od ∧ ∀ name, PySem.W.lookIn name od = some (mA name) := by
  obtain ⟨o, es, ep, ho, hd, hk, _, hm⟩ := n
  refine ⟨o, ho, fun name => ?_⟩
  have e := hm name
  unfold nsFind findBy at e
  rw [← Array.find?_toList] at e
  unfold PySem.W.lookIn
  rw [hd]
  dsimp only
  split
  · rename_i y q
    rw [q] at e
    exact congrArg some e
  · rename_i q
    rw [q] at e
    have a : es.toList.any (·.refKey) = false := by
      rw [List.any_eq_false]
      intro y hy
      obtain ⟨z, t, hkey⟩ := hk y (Array.mem_toList_iff.mp hy)
      simp [DictEntry.refKey, hkey]
    have a' : ¬ es.toList.any (·.refKey) = true := by rw [a]; exact Bool.false_ne_true
    rw [if_neg a']
    exact congrArg some e

theorem ObjM.look {h : Heap} {x dx C : Addr} {mA : Str → Option Value} (I : ObjM h x dx C mA) : ∃ od, PySem.W.InstAt h x (PySem.W.instObj C dx) C (some od) ∧ ∀ name, PySem.W.lookIn name od = some (mA name) :=
  let ⟨od, ho, hl⟩ := lookIn_ns I.ns
  ⟨od, ⟨I.obj, rfl, rfl, ho⟩, hl⟩

section
variable {prog : Program} {w : World} {A : Around} {E : Value → Shared → Prop} {s : Shared} {K : PySem.W.Frag} {x dx C f : Addr} {mA : Str → Option Value} {name : Str} {v : Value}

end

/-! ### the attributes as a list of pairs -/
section
variable {P : Program} {w : World} {H H' : Hp} {h h' : Heap} {a C dx : Addr} {fs fs' : List (Str × V)}
theorem ins_get (hok : HOk P w H h) (e : H a = some (.ins C dx fs)) : ∃ mA, ObjM h a dx C mA ∧ (∀ f, RelO (fs.lookup f) (mA f)) ∧ PySem.Within mA (fs.map (·.1)) ∧ fs.length ≤ 1000 ∧ H dx = some (.own a) := by
  obtain ⟨d, z, ne, ob, mA, n, r, q⟩ := (show ObjOk P w H h a (.ins C dx fs) from hok a _ e)
  exact ⟨mA, ⟨ob, n, ne⟩, r, q, z, d⟩
end

/-! ### what of the text a class must have -/
structure Cls (K : PySem.W.Frag) (C : Addr) : Prop where
  pg : PySem.W.plainGet K C Str.empty = true
  hd : PySem.W.hasDictIn K C = true
  po : PySem.W.plainOver K C = true
  sa : PySem.W.findIn K (.ref C) "__setattr__" = some (some (.builtin "object.__setattr__"))
theorem Cls.get {K : PySem.W.Frag} {C : Addr} (c : Cls K C) (f : Str) : PySem.W.plainGet K C f = true := c.pg
section
variable {X : Cx} {pins : List (Addr × Obj)} {σ : St} {H : Hp} {s : Shared} {a C dx : Addr} {fs : List (Str × V)} {f : Str} {v : V} {A : Around} {E : Value → Shared → Prop}

end

/-! ### readings and rules -/
section
variable {X : Cx} {o e value : Expr} {f : Str} {pos pos' tpos : Pos} {ta tv : TE}
end

/-! ### isinstance -/
section
variable {X : Cx} {pins : List (Addr × Obj)} {σ : St} {H : Hp} {s : Shared} {A : Around} {E : Value → Shared → Prop} {Q : Value → Shared → Prop} {c : Value} {b : Bool}
/-- the type of a value, as the fragment's deciders take it; for an instance its class -/
inductive TyOf (K : PySem.W.Frag) (H : Hp) : V → Value → Prop where
  | non : TyOf K H .non (.type "NoneType")
  | bl (x : Bool) : TyOf K H (.bl x) (.type "bool")
  | int (i : Int) : TyOf K H (.int i) (.type "int")
  | str (x : Str) : TyOf K H (.str x) (.type "str")
  | flt (x : UInt64) : TyOf K H (.flt x) (.type "float")
  | lst {a : Addr} {xs : List V} (e : H a = some (.lst xs)) : TyOf K H (.ref a) (.type "list")
  | frz {a : Addr} {o : Obj} {xs : List V} (e : H a = some (.frz o (.lst xs))) : TyOf K H (.ref a) (.type "list")
  | tup {a : Addr} {xs : List V} (e : H a = some (.tup xs)) : TyOf K H (.ref a) (.type "tuple")
  | dK {a : Addr} {kvs : List (Key × V)} (e : H a = some (.dK kvs)) : TyOf K H (.ref a) (.type "dict")
  | dT {a : Addr} {kvs : List (List Key × V)} (e : H a = some (.dT kvs)) : TyOf K H (.ref a) (.type "dict")
  | ins {a C dx : Addr} {fs : List (Str × V)} (e : H a = some (.ins C dx fs)) (cl : Cls K C) (ha : PySem.W.findIn K (.ref C) "__class__" = some (some (.builtin "object.__class__")))
      (hn : PySem.W.specialIn K (.builtin "object.__class__") "__get__" = some (some (.builtin "getset_descriptor.__get__"))) (htk : PySem.W.takesIn K (.builtin "object.__class__") = some true)
      (hm : PySem.W.mroIn K C (.type "object") = some true) : TyOf K H (.ref a) (.ref C)
/-- isinstance(x, c) for one class c, a built-in or an own one: kitOne's answer -/
theorem isinst_ok {x : V} {u t : Value} (I : Inv X pins σ H s) (rx : RelV x u) (ty : TyOf X.K H x t) (e : PySem.W.kitOne X.K t c = some b) (h : ∀ tk, Q (.bool b) { s with toks := tk }) :
    wpAny (model X.prog X.w) A (call (.builtin "isinstance") [u, c]) Q E s := by
  cases ty with
  | non => cases (show u = Value.none from rx); exact PySem.W.kia_one PySem.W.kitx_none I.kIn True.intro e (fun z => nomatch z) h
  | bl y => cases (show u = Value.bool y from rx); exact PySem.W.kia_one PySem.W.kitx_bool I.kIn True.intro e (fun z => nomatch z) h
  | int i => obtain ⟨t, q⟩ := (show ∃ t, u = Value.int i t from rx); cases q; exact PySem.W.kia_one PySem.W.kitx_int I.kIn True.intro e (fun z => nomatch z) h
  | str y => obtain ⟨t, q⟩ := (show ∃ t, u = Value.str y t from rx); cases q; exact PySem.W.kia_one PySem.W.kitx_str I.kIn True.intro e (fun z => nomatch z) h
  | flt y => obtain ⟨t, q⟩ := (show ∃ t, u = Value.float y t from rx); cases q; exact PySem.W.kia_one PySem.W.kitx_float I.kIn True.intro e (fun z => nomatch z) h
  | @lst a xs ea =>
    cases (show u = Value.ref a from rx)
    obtain ⟨_, _, n, _, h1⟩ := (show ObjOk X.prog X.w H s.heap a (.lst xs) from I.hok a _ ea)
    exact PySem.W.kia_one PySem.W.kitx_list I.kIn ⟨_, h1, rfl⟩ e (fun z => nomatch z) h
  | @frz a ob xs ea =>
    cases (show u = Value.ref a from rx)
    obtain ⟨_, _, _, n, _, h1⟩ := (show ObjOk X.prog X.w H s.heap a (.frz ob (.lst xs)) from I.hok a _ ea)
    exact PySem.W.kia_one PySem.W.kitx_list I.kIn ⟨_, h1, rfl⟩ e (fun z => nomatch z) h
  | @tup a xs ea =>
    cases (show u = Value.ref a from rx)
    obtain ⟨_, _, _, p⟩ := (show ObjOk X.prog X.w H s.heap a (.tup xs) from I.hok a _ ea)
    obtain ⟨o, h1, h2, _⟩ := p
    exact PySem.W.kia_one PySem.W.kitx_tuple I.kIn ⟨o, h1, h2⟩ e (fun z => nomatch z) h
  | @dK a kvs ea =>
    cases (show u = Value.ref a from rx)
    obtain ⟨_, _, vs, _, p⟩ := (show ObjOk X.prog X.w H s.heap a (.dK kvs) from I.hok a _ ea)
    obtain ⟨o, es, ep, h1, h2, _⟩ := p
    exact PySem.W.kia_one PySem.W.kitx_dict I.kIn ⟨o, h1, h2.1⟩ e (fun z => nomatch z) h
  | @dT a kvs ea =>
    cases (show u = Value.ref a from rx)
    obtain ⟨_, _, xs, _, o, es, ep, h1, h2, _⟩ := (show ObjOk X.prog X.w H s.heap a (.dT kvs) from I.hok a _ ea)
    exact PySem.W.kia_one PySem.W.kitx_dict I.kIn ⟨o, h1, h2.1⟩ e (fun z => nomatch z) h
  | @ins a C dx fs ea cl ha hn htk hm =>
    cases (show u = Value.ref a from rx)
    obtain ⟨mA, O, _⟩ := ins_get I.hok ea
    obtain ⟨od, J, _⟩ := O.look
    exact PySem.W.kia_one (PySem.W.kitx_own (cl.get _) cl.hd ha hn htk hm) I.kIn J e (fun z => nomatch z) h
end
end L2

namespace L2
open PySem PySem.Spec PyProof.Rows

/-! ### room -/
structure Room (k : Nat) (A : Around) : Prop where
  hd : A.handled = none
  dp : A.depth + 3 * k + 5 < recursionLimit
  un : A.units + 16 * k + 200 < cLine
theorem Room.mono {j k : Nat} {A : Around} (r : Room k A) (h : j ≤ k) : Room j A := ⟨r.hd, by have := r.dp; omega, by have := r.un; omega⟩
theorem Room.deeper {k : Nat} {A : Around} (r : Room (k + 1) A) (env : Env) : Room k (A.deeper env) :=
  ⟨r.hd, by have := r.dp; show A.depth + 1 + 3 * k + 5 < _; omega, by have := r.un; show A.units + 3 + 16 * k + 200 < _; omega⟩
theorem Room.depth {k : Nat} {A : Around} (r : Room k A) : A.depth < recursionLimit := by have := r.dp; omega
theorem Room.units {k : Nat} {A : Around} (r : Room k A) : A.units + 64 < cLine := by have := r.un; omega
/-! ### argument lists and displays -/
def tNil : TA := fun _ H Q => Q [] H
def tCons (ta : TE) (tr : TA) : TA := fun σ H Q => ta σ H fun x H1 => tr σ H1 fun xs H2 => Q (x :: xs) H2
section
variable {X : Cx} {e : Expr} {es : List Expr} {te : TE} {t : TA} {pos : Pos}
theorem pa_nil : PA X [] tNil := fun _ _ _ _ H Q I h => Calls.spliced_nil ⟨[], H, I, .nil, h⟩
theorem pa_cons (ha : PE X e te) (hr : PA X es t) (hs : starEach (e :: es) X.env = (false, eval e X.env) :: starEach es X.env := by rfl) : PA X (e :: es) (tCons te t) := by
  intro pos pins s σ H Q I h
  rw [hs]
  show wpAny _ _ (spliced ((false, eval e X.env) :: backTo pos (starEach es X.env))) _ _ s
  refine Calls.spliced_cons (thn (ha pins s σ H _ I h) fun u s1 ⟨x, H1, I1, r1, q1⟩ => ?_)
  exact thn (hr pos pins s1 σ H1 _ I1 q1) fun us s2 ⟨xs, H2, I2, r2, q2⟩ => ⟨x :: xs, H2, I2, .cons r1 r2, q2⟩

/-- a tuple, a list of written items -/
def tTup (t : TA) : TE := fun σ H Q => t σ H fun xs H1 => xs.length ≤ sizeLine ∧ ∀ p, H1 p = none → Q (.ref p) (upd H1 p (.tup xs))
def tLst (t : TA) : TE := fun σ H Q => t σ H fun xs H1 => xs.length ≤ sizeLine ∧ ∀ p, H1 p = none → Q (.ref p) (upd H1 p (.lst xs))
theorem pe_tup {x1} (h : PA X es t) : PE X (.Tuple es x1 pos) (tTup t) := by
  intro pins s σ H Q I hq
  refine wpAny_Tuple_spliced (thn (h pos pins s σ H _ I hq) fun us s1 ⟨xs, H1, I1, r, z, q⟩ => ⟨by rw [← r.length]; exact z, ?_⟩)
  have hf : H1 s1.heap.objs.size = none := I1.hok.fresh (Nat.le_refl _)
  refine ⟨.ref s1.heap.objs.size, upd H1 s1.heap.objs.size (.tup xs), I1.laid (t' := s1.toks) (fun b u e => Heap.get?_push_of_some _ e) (Nat.le_refl _) ?_, rfl, q _ hf⟩
  exact ⟨z, us, r, ⟨_, Heap.get?_push_size _ rfl, rfl, _, rfl⟩⟩
theorem pe_lst (h : PA X es t) : PE X (.List es pos) (tLst t) := by
  intro pins s σ H Q I hq
  refine wpAny_List_spliced (thn (h pos pins s σ H _ I hq) fun us s1 ⟨xs, H1, I1, r, z, q⟩ => ⟨by rw [← r.length]; exact z, ?_⟩)
  have hf : H1 s1.heap.objs.size = none := I1.hok.fresh (Nat.le_refl _)
  refine ⟨.ref s1.heap.objs.size, upd H1 s1.heap.objs.size (.lst xs), I1.laid (t' := s1.toks) (fun b u e => Heap.get?_push_of_some _ e) (Nat.le_refl _) ?_, rfl, q _ hf⟩
  exact ⟨z, us, 0, r, Heap.get?_push_size _ rfl⟩
end

/-! ### what a def promises -/
/-- a def's promise: the bound arguments in the parameters' order, the heap, the wanted end, the wanted exception -/
abbrev Sp := List V → Hp → VK → XK → Prop
/-- how an exception lies behind a call (file 08 gives it): the callers' frames, abstract heap and state ahead of the call, the wish, the exception, the state -/
abbrev CXT := List Env → Hp → Shared → XK → Value → Shared → Prop

/-- the state at a call -/
structure Env0 (P : Program) (w : World) (K : PySem.W.Frag) (mg : Str → Option Value) (base : Heap) (A : Around) (outer : List Env) (s : Shared) (H : Hp) : Prop where
  frames : A.frames = some outer
  mod : Mod K mg base
  bs : ∀ b o, base.get? b = some o → s.heap.get? b = some o ∧ H b = none
  bsz : base.objs.size ≤ s.heap.objs.size
  funs : s.heap.FunFrames base outer
  frf : ∀ b ∈ frs outer, H b = none
  hok : HOk P w H s.heap
  bare : AllBare s.gens
/-- a call's end -/
def CE (outer : List Env) (P : Program) (w : World) (H : Hp) (s : Shared) (Q : VK) (u : Value) (s' : Shared) : Prop :=
  ∃ v H', s'.os = s.os ∧ AllBare s'.gens ∧ Un (frs outer) [] H H' s.heap s'.heap ∧ HOk P w H' s'.heap ∧ RelV v u ∧ Q v H'
def CR (CX : CXT) (outer : List Env) (P : Program) (w : World) (H : Hp) (s : Shared) (Q : VK) (E : XK) (r : Result) (s' : Shared) : Prop :=
  match r with
  | .ok (.ret u) => CE outer P w H s Q u s'
  | .ok _ => False
  | .error e => CX outer H s E e s'
structure FnOk (P : Program) (w : World) (K : PySem.W.Frag) (mg : Str → Option Value) (base : Heap) (CX : CXT) (k : Nat) (f : Addr) (fd : FuncData) (ps : List Str) (sp : Sp) : Prop where
  len : ∀ vs H Q E, sp vs H Q E → vs.length = ps.length
  run : ∀ (A : Around) (outer : List Env) (s : Shared) (H : Hp) (args : Args) (us : List Value) (vs : List V) (Q : VK) (E : XK), Room k A → Env0 P w K mg base A outer s H → BindsTo s fd args (ps.zip us) → Vals vs us → sp vs H Q E →
    codeAny (model P w) A (.call (.ref f) args) (CR CX outer P w H s Q E) s
section
variable {X : Cx} {pins : List (Addr × Obj)} {σ : St} {H : Hp} {s s' : Shared}
/-- from a body: what a callee wants -/
theorem Inv.env0 (I : Inv X pins σ H s) : Env0 X.prog X.w X.K X.mg X.base X.A X.stack s H :=
  ⟨I.ok.frames, I.ok.mod, I.bs, Nat.le_trans I.ok.bsz I.sz, I.stack, I.stkFree, I.hok, I.bare⟩
/-- behind a call -/
theorem Inv.after {Q : VK} {u : Value} (I : Inv X pins σ H s) (h : CE X.stack X.prog X.w H s Q u s') : EP X pins σ Q u s' := by
  obtain ⟨v, H', os, bare, un, hok, r, q⟩ := h
  obtain ⟨hh, g, d, t, os'⟩ := s'
  obtain rfl : os' = s.os := os
  exact ⟨v, H', I.call (h' := hh) (g' := g) (d' := d) (t' := t) (ch := []) un hok bare (fun b z => absurd z (by simp)), r, q⟩
end

/-! ### calls -/
/-- f(..): the written arguments, then the defaults dvs; E: what is wanted of an exception -/
def tCall (sp : Sp) (dvs : List V) (E : XK) (t : TA) : TE := fun σ H Q => t σ H fun vs H1 => sp (vs ++ dvs) H1 Q E
/-- how the parameters are bound: us the positional arguments, kw the keywords' values by name, ds the defaults that fill up -/
def Binds (K : PySem.W.Frag) (fd : FuncData) (ps : List Str) (ds : List Value) : Prop :=
  ∀ (s : Shared) (us : List Value), K.In s.heap → (us ++ ds).length = ps.length → BindsTo s fd ⟨us, []⟩ (ps.zip (us ++ ds))
/-- every parameter is given -/
theorem Binds.all {K : PySem.W.Frag} {fd : FuncData} {ps : List Str} (h : ∀ us : List Value, us.length = ps.length → bindArgs fd ⟨us, []⟩ = pure (ps.zip us)) : Binds K fd ps [] := fun s us _ hl => by
  rw [List.append_nil] at hl ⊢
  exact .of_eq (h us hl)

/-- an exception of a callee reaches what this body wants of exceptions -/
def Passes (CX : CXT) (X : Cx) (E : XK) : Prop := ∀ (pins : List (Addr × Obj)) (σ : St) (H : Hp) (s : Shared) (e : Value) (s' : Shared), Inv X pins σ H s → CX X.stack H s E e s' → X.xe e s'

section
variable {X : Cx} {CX : CXT} {k : Nat} {f C : Addr} {fd : FuncData} {ps : List Str} {sp : Sp} {dvs : List V} {ds : List Value} {E : XK} {x m : Str} {p pos apos : Pos} {e o : Expr} {es : List Expr} {ta : TE} {t : TA}

/-- the callee runs -/
theorem run_fn {pins : List (Addr × Obj)} {σ : St} {H : Hp} {s : Shared} {Q : VK} {us : List Value} {vs : List V} (F : FnOk X.prog X.w X.K X.mg X.base CX k f fd ps sp) (hr : Room k X.A) (hb : Binds X.K fd ps ds) (hd : Vals dvs ds) (hx : Passes CX X E)
    (I : Inv X pins σ H s) (r : Vals vs us) (h : sp (vs ++ dvs) H Q E) : wpAny (model X.prog X.w) X.A (call (.ref f) us) (EP X pins σ Q) X.xe s := by
  have r2 : Vals (vs ++ dvs) (us ++ ds) := r.append hd
  have hl : (us ++ ds).length = ps.length := by rw [← r2.length]; exact F.len _ _ _ _ h
  refine wpAny_call (codeAny_mono (F.run X.A X.stack s H ⟨us, []⟩ (us ++ ds) (vs ++ dvs) Q E hr I.env0 (hb s us I.kIn hl) r2 h) fun r s' hq => ?_)
  cases r with
  | error e => exact hx pins σ H s e s' I hq
  | ok fl =>
    cases fl with
    | ret u => exact I.after hq
    | next => exact False.elim hq
    | brk => exact False.elim hq
    | cont => exact False.elim hq

theorem pe_call (F : FnOk X.prog X.w X.K X.mg X.base CX k f fd ps sp) (hr : Room k X.A) (hg : Gl X x) (hm : X.mg x = some (.ref f)) (hk : PySem.W.keepIn X.K (.ref f) = true) (hb : Binds X.K fd ps ds) (hd : Vals dvs ds) (hx : Passes CX X E)
    (ha : PA X (e :: es) t) (hdb : (x == ("__debug__" : Str)) = false := by decide) (he : starEach (e :: es) X.env = (false, eval e X.env) :: starEach es X.env := by rfl) (hpl : (backTo pos (starEach es X.env)).any (·.1) = false := by rfl) :
    PE X (.Call (.Name x p) (e :: es) [] pos) (tCall sp dvs E t) := by
  intro pins s σ H Q I h
  refine wpAny_Call_Name_kw (ld_glob I hg hm ?_ hdb)
  refine PySem.W.callWith_K (h₀ := X.base) I.ok.mod.kin hk (thn (ha pos pins s σ H _ I h) fun us s1 ⟨vs, H1, I1, r, q⟩ => ⟨I1.kIn, ?_⟩) he hpl
  exact run_fn F hr hb hd hx I1 r q
end

/-! ### keywords -/
section
variable {X : Cx} {CX : CXT} {k : Nat} {f C : Addr} {fd : FuncData} {ps ks : List Str} {sp : Sp} {E : XK} {x m : Str} {p pos apos kpos : Pos} {e o : Expr} {es : List Expr} {kws : List Keyword} {te ta : TE} {t tk : TA} {nm : Option Str}
variable {g : List Value → List Value → List Value} {gV : List V → List V → List V}
end

/-! ### a def's body keeps its promise -/
/-- names: the parameters first -/
structure FnScope (N P : List Str) (sc : Scope) : Prop where
  kind : sc.kind = .function
  co : sc.isCoroutine = false
  gen : sc.isGenerator = false
  nd : N.Nodup
  pre : N.take P.length = P
  par : ∀ x ∈ P, sc.names.lookup x = some .local ∨ sc.names.lookup x = some .cell
  nofree : ∀ y ∈ sc.names, y.2 ≠ .free

theorem bindL_out {kindOf : Str → Option NameKind} {x : Str} : ∀ {binds : List (Str × Value)} {m : Str → Option Value}, (∀ v, (x, v) ∉ binds) → bindL kindOf binds m x = m x
  | [], _, _ => rfl
  | (n, v) :: r, m, h => by
    unfold bindL
    rw [bindL_out fun w hw => h w (List.mem_cons_of_mem _ hw)]
    split
    · have : x ≠ n := by rintro rfl; exact h v List.mem_cons_self
      simp [this]
    · rfl
theorem bindC_out {kindOf : Str → Option NameKind} {x : Str} : ∀ {binds : List (Str × Value)} {m : Str → Option Value}, (∀ v, (x, v) ∉ binds) → bindC kindOf binds m x = m x
  | [], _, _ => rfl
  | (n, v) :: r, m, h => by
    unfold bindC
    rw [bindC_out fun w hw => h w (List.mem_cons_of_mem _ hw)]
    split
    · rfl
    · have : x ≠ n := by rintro rfl; exact h v List.mem_cons_self
      simp [this]
theorem bindL_get {kindOf : Str → Option NameKind} {x : Str} {v : Value} : ∀ {P : List Str} {vs : List Value} {i : Nat} {m : Str → Option Value}, P.Nodup → P[i]? = some x → vs[i]? = some v → kindOf x = some .local →
    bindL kindOf (P.zip vs) m x = some v
  | [], _, _, _, _, h, _, _ => by simp at h
  | _ :: _, [], _, _, _, _, h, _ => by simp at h
  | p :: P, w :: vs, 0, m, nd, h1, h2, hk => by
    simp at h1 h2; subst h1; subst h2
    show bindL kindOf ((p, w) :: P.zip vs) m p = _
    unfold bindL
    rw [bindL_out fun v hv => (List.nodup_cons.mp nd).1 (List.of_mem_zip hv).1, if_pos hk]
    simp
  | p :: P, w :: vs, i + 1, m, nd, h1, h2, hk => by
    show bindL kindOf ((p, w) :: P.zip vs) m x = _
    unfold bindL
    exact bindL_get (i := i) (List.nodup_cons.mp nd).2 (by simpa using h1) (by simpa using h2) hk
theorem bindC_get {kindOf : Str → Option NameKind} {x : Str} {v : Value} : ∀ {P : List Str} {vs : List Value} {i : Nat} {m : Str → Option Value}, P.Nodup → P[i]? = some x → vs[i]? = some v → kindOf x ≠ some .local →
    bindC kindOf (P.zip vs) m x = some v
  | [], _, _, _, _, h, _, _ => by simp at h
  | _ :: _, [], _, _, _, _, h, _ => by simp at h
  | p :: P, w :: vs, 0, m, nd, h1, h2, hk => by
    simp at h1 h2; subst h1; subst h2
    show bindC kindOf ((p, w) :: P.zip vs) m p = _
    unfold bindC
    rw [bindC_out fun v hv => (List.nodup_cons.mp nd).1 (List.of_mem_zip hv).1, if_neg hk]
    simp
  | p :: P, w :: vs, i + 1, m, nd, h1, h2, hk => by
    show bindC kindOf ((p, w) :: P.zip vs) m x = _
    unfold bindC
    exact bindC_get (i := i) (List.nodup_cons.mp nd).2 (by simpa using h1) (by simpa using h2) hk

/-- the names' values at the entry -/
def start (N : List Str) (vs : List V) : St := vs.map some ++ List.replicate (N.length - vs.length) none

/-- the context of a def's body, at its entry; an exception leaves the frame, then lies as CX says -/
def cxOf (CX : CXT) (P : Program) (w : World) (K : PySem.W.Frag) (mg : Str → Option Value) (base : Heap) (N : List Str) (qual : Str) (scope : Scope) (f : Addr) (cd : Value) (A : Around) (outer : List Env) (s : Shared) (H : Hp) (E : XK) : Cx where
  prog := P
  w := w
  K := K
  mg := mg
  base := base
  A := A.deeper (envOfC qual scope s.heap.objs.size f cd)
  N := N
  s₀ := s
  H₀ := H
  env := envOfC qual scope s.heap.objs.size f cd
  outer := outer
  stack := envOfC qual scope s.heap.objs.size f cd :: outer
  ex := []
  calm := true
  fn := fun _ => true
  pn := []
  xe := fun e s' => wpAny (model P w) (A.deeper (envOfC qual scope s.heap.objs.size f cd)) (leaving (envOfC qual scope s.heap.objs.size f cd) e) (fun _ s'' => CX outer H s E e s'') (fun e' s'' => CX outer H s E e' s'') s'

theorem cell_has {sc : Scope} {n : Nat} {x : Str} (h : sc.names.lookup x = some .cell) : ∃ c, (cellsFrom n sc.names []).lookup x = some c := by
  have q := PySem.W.cellsFrom_some sc.names n [] (.inl h)
  exact Option.isSome_iff_exists.mp q

theorem inv_start {CX : CXT} {P : Program} {w : World} {K : PySem.W.Frag} {mg : Str → Option Value} {base : Heap} {N ps : List Str} {qual : Str} {scope : Scope} {f : Addr} {cd : Value} {A : Around} {outer : List Env} {s s1 : Shared} {H : Hp} {E : XK} {us : List Value} {vs : List V}
    (S : FnScope N ps scope) (hd : A.handled = none) (e0 : Env0 P w K mg base A outer s H) (hl : vs.length = ps.length) (r : Vals vs us)
    (x : InCallC s s.heap.objs.size (bindL (envOfC qual scope s.heap.objs.size f cd).kindOf (ps.zip us) fun _ => none) (cellsFrom (s.heap.objs.size + 1) scope.names []) (bindC (envOfC qual scope s.heap.objs.size f cd).kindOf (ps.zip us) fun _ => none) s1) :
    Inv (cxOf CX P w K mg base N qual scope f cd A outer s H E) [] (start N vs) H s1 := by
  have hpl : ps.length ≤ N.length := by have := congrArg List.length S.pre; rw [List.length_take] at this; omega
  obtain ⟨h1, tk, rfl, hk⟩ := x.done
  have noA : ∀ b : Addr, b ∉ (cxOf CX P w K mg base N qual scope f cd A outer s H E).ex := fun b z => absurd (show b ∈ ([] : List Addr) from z) (by simp)
  refine ⟨⟨e0.mod, S.kind, rfl, rfl, Nat.le_refl _, fun y z c h1 h2 => ?_, fun y hy => ?_, fun y c _ h => ?_, fun _ => hd, Around.frames_deeper e0.frames, .inr ⟨rfl, rfl⟩, fun b z => absurd z (noA b), e0.bs, e0.bsz, fun b _ _ => noA b, fun b z => absurd z (noA b), e0.funs, e0.frf⟩,
    rfl, e0.bare, Un.kept hk, ⟨_, x.toInCall.ns, fun i y v h1 h2 h3 => ?_⟩, fun y c h => ⟨_, x.cell y c h⟩, e0.hok.fresh (Nat.le_refl _), fun y c h => ?_, fun p hp => absurd (show p ∈ ([] : List (Addr × Obj)) from hp) (by simp), e0.hok.kept hk, ?_⟩
  · exact name_of_addr x.apart (PySem.mem_of_lookup h1) (PySem.mem_of_lookup h2)
  · have hy : scope.names.lookup y = some .cell ∨ scope.names.lookup y = some .free := hy
    rcases hy with hy | hy
    · exact cell_has hy
    · exact absurd rfl (S.nofree _ (PySem.mem_of_lookup hy))
  · exact Nat.le_of_lt (x.above y c (PySem.mem_of_lookup h))
  · have hi : i < vs.length := by
      unfold start at h2
      by_cases hi : i < vs.length
      · exact hi
      · rw [List.getElem?_append_right (by simpa using hi)] at h2
        rw [List.getElem?_replicate] at h2
        split at h2 <;> cases h2
    have ha : vs[i]? = some v := by
      unfold start at h2
      rw [List.getElem?_append_left (by simpa using hi), List.getElem?_map] at h2
      cases e : vs[i]? with
      | none => rw [e] at h2; cases h2
      | some a => rw [e] at h2; cases h2; rfl
    obtain ⟨u, hu, rv⟩ := r.get ha
    have hp : ps[i]? = some y := by
      rw [← S.pre, List.getElem?_take_of_lt (by omega)]; exact h1
    have ndP : ps.Nodup := by rw [← S.pre]; exact S.nd.sublist (List.take_sublist _ _)
    refine ⟨u, rv, ?_⟩
    rcases S.par y (List.mem_of_getElem? hp) with k | k
    · exact .inl ⟨k, bindL_get ndP hp hu k⟩
    · obtain ⟨c, e⟩ := cell_has (n := s.heap.objs.size + 1) k
      refine .inr ⟨.inl k, c, e, ?_⟩
      have q := x.cell y c e
      rw [bindC_get ndP hp hu (by show scope.names.lookup y ≠ _; rw [k]; decide)] at q
      exact q
  · exact e0.hok.fresh (Nat.le_of_lt (x.above y c (PySem.mem_of_lookup h)))
  · unfold start
    show _ = N.length
    rw [List.length_append, List.length_map, List.length_replicate]
    omega

/-- THE RULE: a def (or a method) of the text, by its body. The body's reading t is chosen for each entry; it is run at the parameters' values -/
theorem fn_of {CX : CXT} {P : Program} {w : World} {K : PySem.W.Frag} {mg : Str → Option Value} {base : Heap} {k : Nat} {f : Addr} {name qual : Str} {params : Arguments} {body : List Stmt} {scope : Scope} {dV kV doc pm cdv ct oc : Value} {an od : Option Addr}
    {osl : Array (Option Value)} {N ps : List Str} {sp : Sp} (lk : K.lookup f = some ⟨oc, od, .func (PySem.W.fnOf name qual params body scope dV kV doc pm an cdv ct), osl⟩) (hcd : PySem.W.codeIn K cdv qual = true) (S : FnScope N ps scope)
    (len : ∀ vs H Q E, sp vs H Q E → vs.length = ps.length)
    (hbody : ∀ (A : Around) (outer : List Env) (s : Shared) (H : Hp) (vs : List V) (Q : VK) (E : XK), Room k (A.deeper (envOfC qual scope s.heap.objs.size f cdv)) → sp vs H Q E →
      ∃ t, PSs (cxOf CX P w K mg base N qual scope f cdv A outer s H E) body t ∧ t { nx := fun _ H' => Q .non H', rt := Q } (start N vs) H) :
    FnOk P w K mg base CX (k + 1) f (PySem.W.fnOf name qual params body scope dV kV doc pm an cdv ct) ps sp := by
  refine ⟨len, fun A outer s H args us vs Q E hr e0 hb r hsp => ?_⟩
  have hl := len _ _ _ _ hsp
  have KX : K.In s.heap := e0.mod.kin.keeps fun b o e => (e0.bs b o e).1
  have lim : s.heap.NoLimit := e0.mod.nolimit.keeps fun b o e => (e0.bs b o e).1
  have hkind : ∀ y ∈ ps.zip us, scope.names.lookup y.1 = some .local ∨ (scope.names.lookup y.1 = some .cell ∧ ((cellsFrom (s.heap.objs.size + 1) scope.names []).lookup y.1).isSome = true) := fun ⟨n, v⟩ hy => by
    rcases S.par n (List.of_mem_zip hy).1 with q | q
    · exact .inl q
    · exact .inr ⟨q, PySem.W.cellsFrom_some _ _ _ (.inl q)⟩
  refine codeAny_call_function hr.depth (KX _ _ lk) rfl S.co S.gen rfl (PySem.W.codeRec_of KX hcd) (hb _ _ _ _ ?_)
  refine wpAny_newFunctionEnv_cells S.kind hkind fun env he s1 x => ?_
  subst he
  refine ⟨lim.keeps x.toInCall.keep, codeAny_func ?_⟩
  obtain ⟨t, ht, hq⟩ := hbody A outer s H vs Q E (hr.deeper _) hsp
  have I : Inv (cxOf CX P w K mg base N qual scope f cdv A outer s H E) [] (start N vs) H s1 := inv_start S hr.hd e0 hl r x
  refine wpAny_mono (ht [] s1 (start N vs) H _ I hq) (fun fl s' hs => ?_) fun e s' hs => hs
  have fin : ∀ {σ' : St} {H' : Hp} {v : V} {u : Value}, Inv (cxOf CX P w K mg base N qual scope f cdv A outer s H E) [] σ' H' s' → RelV v u → Q v H' → CE outer P w H s Q u s' :=
    fun {σ' H' v u} J rv q => ⟨v, H', J.os, J.bare, J.base, J.hok, rv, q⟩
  cases fl with
  | ret u =>
    obtain ⟨v, σ', H', J, rv, q⟩ := hs
    exact fin J rv q
  | next =>
    obtain ⟨σ', H', J, q⟩ := hs
    exact fin (v := V.non) (u := Value.none) J rfl q
  | brk =>
    obtain ⟨_, _, _, q⟩ := hs
    exact False.elim q
  | cont =>
    obtain ⟨_, _, _, q⟩ := hs
    exact False.elim q
end L2

namespace L2
open PySem PySem.Spec PyProof.Rows
section
variable {X : Cx} {x : Str} {p pos : Pos} {e : Expr} {es : List Expr} {t : TA} {id T : String} {r : List V → Hp → VK → Prop}

def tCB (r : List V → Hp → VK → Prop) (t : TA) : TE := fun σ H Q => t σ H fun vs H1 => r vs H1 Q
/-- f(e, ..), f a built-in function -/
theorem pe_callB (hc : CallR X (.builtin id) r) (hg : Gl X x) (hm : X.mg x = none) (hv : bootBuiltins x = some (.builtin id)) (ha : PA X (e :: es) t) (hn : x ≠ "__name__" := by decide) (hdb : (x == ("__debug__" : Str)) = false := by decide)
    (he : starEach (e :: es) X.env = (false, eval e X.env) :: starEach es X.env := by rfl) (hpl : (backTo pos (starEach es X.env)).any (·.1) = false := by rfl) : PE X (.Call (.Name x p) (e :: es) [] pos) (tCB r t) := by
  intro pins s σ H Q I h
  refine wpAny_Call_Name_kw (ld_blt I hg hm hv ?_ hn hdb)
  exact PyProof.Rows.callWith_builtin1 (thn (ha pos pins s σ H _ I h) fun us s1 ⟨vs, H1, I1, r1, q1⟩ => hc pins s1 σ H1 vs us Q I1 r1 q1) he hpl
/-- T(e, ..), T a built-in type -/
theorem pe_callTy (hc : CallR X (.type T) r) (hg : Gl X x) (hm : X.mg x = none) (hv : bootBuiltins x = some (.type T)) (ha : PA X (e :: es) t) (hn : x ≠ "__name__" := by decide) (hdb : (x == ("__debug__" : Str)) = false := by decide)
    (he : starEach (e :: es) X.env = (false, eval e X.env) :: starEach es X.env := by rfl) (hpl : (backTo pos (starEach es X.env)).any (·.1) = false := by rfl) : PE X (.Call (.Name x p) (e :: es) [] pos) (tCB r t) := by
  intro pins s σ H Q I h
  refine wpAny_Call_Name_kw (ld_blt I hg hm hv ?_ hn hdb)
  exact PyProof.Rows.callWith_type1 (thn (ha pos pins s σ H _ I h) fun us s1 ⟨vs, H1, I1, r1, q1⟩ => hc pins s1 σ H1 vs us Q I1 r1 q1) he hpl
end
end L2

namespace HT
open PySem PyProof.Rows

section
open PySem.SeqAt
open PySem.AutoSeq1 (wpAny_loadPart')
open PySem.MeetsSeq PySem.MeetsSeq2 PySem.MeetsSeq3

end

section
variable {prog : Program} {w : World} {A : Around} {E : Value → Shared → Prop} {s : Shared}

/-! ### t[a:b], not the whole -/
/-- a slice's bound as a place among n (d where it is left out) -/
def sIx (n d : Nat) : Option Int → Nat
  | none => d
  | some v => if v < 0 then (v + (n : Int)).toNat else min v.toNat n
theorem sIx_none (n d : Nat) : sIx n d none = d := rfl
theorem sIx_nat (n d k : Nat) : sIx n d (some (k : Int)) = min k n := by
  show (if (k : Int) < 0 then ((k : Int) + (n : Int)).toNat else min (k : Int).toNat n) = min k n
  rw [if_neg (by omega), Int.toNat_natCast]
theorem sIx_le (n d : Nat) (hd : d ≤ n) (o : Option Int) : sIx n d o ≤ n := by
  cases o with
  | none => exact hd
  | some v =>
    show (if v < 0 then (v + (n : Int)).toNat else min v.toNat n) ≤ n
    by_cases hv : v < 0
    · rw [if_pos hv]; omega
    · rw [if_neg hv]; exact Nat.min_le_right _ _
theorem clip_eq (v : Int) (n d : Nat) : (if v < 0 then max (v + (n : Int)) 0 else min v (n : Int)) = ((sIx n d (some v) : Nat) : Int) := by
  show (if v < 0 then max (v + (n : Int)) 0 else min v (n : Int)) = (((if v < 0 then (v + (n : Int)).toNat else min v.toNat n) : Nat) : Int)
  by_cases hv : v < 0
  · simp only [if_pos hv]; omega
  · simp only [if_neg hv]; omega
theorem adjust_gen (lo hi : Option Int) (n : Nat) : Builtin.Slice.sliceAdjust lo hi 1 (n : Int) = (((sIx n 0 lo : Nat) : Int), ((sIx n n hi : Nat) : Int)) := by
  have h1 : ¬ ((1 : Int) < 0) := by omega
  unfold Builtin.Slice.sliceAdjust
  simp only [h1, if_false]
  refine Prod.ext ?_ ?_
  · cases lo with
    | none => rfl
    | some v => exact clip_eq v n 0
  · cases hi with
    | none => rfl
    | some v => exact clip_eq v n n
theorem places_gen (i j : Nat) : Builtin.Slice.slicePlaces (i : Int) (j : Int) 1 = j - i := by
  unfold Builtin.Slice.slicePlaces
  have h1 : (1 : Int) > 0 := by omega
  simp only [h1, if_true, Int.ediv_one]
  split <;> omega
theorem slicePart_ {v : Value} {o : Option Int} {Q : Option Int → Shared → Prop} (p : IsPart v o) (h : Q o s) : wpAny (model prog w) A (Builtin.Slice.slicePartIndex v) Q E s := by
  cases p with
  | none => exact slicePart_none h
  | int i t => exact slicePart_int h
theorem sliceApplied_gen {sl : Addr} {vl vu : Value} {lo hi : Option Int} {n : Nat} {Q : Int × Int × Nat → Shared → Prop} (hs : s.heap.IsSliceOf sl vl vu .none) (pl : IsPart vl lo) (pu : IsPart vu hi)
    (h : Q (((sIx n 0 lo : Nat) : Int), 1, sIx n n hi - sIx n 0 lo) s) : wpAny (model prog w) A (Builtin.Slice.sliceApplied (.ref sl) (pure (n : Int))) Q E s := by
  obtain ⟨os, hos, hcs, hds⟩ := id hs
  unfold Builtin.Slice.sliceApplied Builtin.Slice.sliceFields
  refine wpAny_bind (wpAny_bind (wpAny_field hos hds (x := vl) rfl (wpAny_bind (wpAny_field hos hds (x := vu) rfl (wpAny_bind (wpAny_field hos hds (x := .none) rfl (wpAny_pure ?_)))))))
  refine wpAny_bind (slicePart_none ?_)
  show wpAny _ _ (if ((1 : Int) == 0) = true then _ else _) _ _ s
  rw [if_neg (by decide)]
  refine wpAny_bind (slicePart_ pl (wpAny_bind (slicePart_ pu (wpAny_bind (wpAny_pure ?_)))))
  show wpAny _ _ (match Builtin.Slice.sliceAdjust lo hi 1 (n : Int) with | (lo, hi) => pure (lo, (1 : Int), Builtin.Slice.slicePlaces lo hi 1)) _ _ s
  rw [adjust_gen lo hi n]
  show wpAny _ _ (pure (((sIx n 0 lo : Nat) : Int), (1 : Int), Builtin.Slice.slicePlaces ((sIx n 0 lo : Nat) : Int) ((sIx n n hi : Nat) : Int) 1)) _ _ s
  rw [places_gen]
  exact wpAny_pure h
theorem pick_gen (xs : Array Value) (i k : Nat) : ((List.range k).filterMap fun (m : Nat) => xs[((i : Int) + (m : Int) * 1).toNat]?).toArray = ((xs.toList.drop i).take k).toArray := by
  have e : (fun (m : Nat) => xs[((i : Int) + (m : Int) * 1).toNat]?) = fun m => xs[i + m]? := by
    funext m
    have : ((i : Int) + (m : Int) * 1).toNat = i + m := by omega
    rw [this]
  rw [e]
  have := pick_run xs i k
  rw [List.filterMap_map] at this
  have e2 : ((fun x => xs[x]?) ∘ fun x => i + x) = fun m => xs[i + m]? := rfl
  rw [e2] at this
  rw [this]

theorem getItem_tuple_cut {t sl : Addr} {items : Array Value} {vl vu : Value} {lo hi : Option Int} {Q : Value → Shared → Prop} (ht : IsTup s.heap t items) (hs : s.heap.IsSliceOf sl vl vu .none) (pl : IsPart vl lo) (pu : IsPart vu hi)
    (hw : ¬ (sIx items.size 0 lo = 0 ∧ sIx items.size items.size hi = items.size))
    (h : Q (.ref s.heap.objs.size) { s with heap := s.heap.push { cls := .type "tuple", data := .seq ((items.toList.drop (sIx items.size 0 lo)).take (sIx items.size items.size hi - sIx items.size 0 lo)).toArray } })
    (hsz : items.size ≤ sizeLine) : wpAny (model prog w) A (getItem (.ref t) (.ref sl)) Q E s := by
  have htake : sizeOk (.seq ((items.toList.drop (sIx items.size 0 lo)).take (sIx items.size items.size hi - sIx items.size 0 lo)).toArray) := by
    show ((items.toList.drop (sIx items.size 0 lo)).take (sIx items.size items.size hi - sIx items.size 0 lo)).toArray.size ≤ sizeLine
    rw [List.size_toArray, List.length_take, List.length_drop, Array.length_toList]
    omega
  have hj : sIx items.size items.size hi ≤ items.size := sIx_le _ _ (Nat.le_refl _) hi
  obtain ⟨os, hos, hcs, hds⟩ := id hs
  have hTs : s.TypeIs (.ref sl) "slice" := ⟨os, hos, hcs⟩
  unfold getItem
  try with_reducible refine wpAny_holding ?_
  first | refine wpAny_bind (wpAny_pure ?_) | skip
  refine wpAny_bind (wpAny_sequenceKey ht.typeIs (by decide) ?_)
  refine wpAny_bind (wpAny_callSpecial?_slot (name := Str.ofString "__getitem__") ht.typeIs PyProof.Rows.slot_tuple_getitem
    (wpAny_call_entry PyProof.Rows.slot_tuple_getitem ht.typeIs entry_tuple_getitem ?_ (args_tuple_getitem _ _)))
  show wpAny _ _ (Builtin.Tuple.tupleItemsOf (.ref t) >>= _) _ _ s
  refine wpAny_bind (tupleItemsOf_ ht ?_)
  refine wpAny_bind (wpAny_typeOf hTs ?_)
  rw [if_pos (by decide)]
  refine wpAny_bind (sliceApplied_gen hs pl pu ?_)
  have hno : ¬ ((((sIx items.size 0 lo : Nat) : Int) == 0 && (1 : Int) == 1 && (sIx items.size items.size hi - sIx items.size 0 lo) == items.size) = true) := by
    intro q
    rw [Bool.and_eq_true, Bool.and_eq_true] at q
    have q1 : ((sIx items.size 0 lo : Nat) : Int) = 0 := eq_of_beq q.1.1
    have q2 : sIx items.size items.size hi - sIx items.size 0 lo = items.size := eq_of_beq q.2
    exact hw ⟨by omega, by omega⟩
  show wpAny _ _ (if (((sIx items.size 0 lo : Nat) : Int) == 0 && (1 : Int) == 1 && (sIx items.size items.size hi - sIx items.size 0 lo) == items.size) = true then _ else _) _ _ s
  rw [if_neg hno, pick_gen]
  first
    | exact wpAny_bind (m := Builtin.Tuple.tupleExact _) (wpAny_newObj_type (wpAny_pure ⟨_, rfl, wpAny_pure h⟩) htake)
    | exact wpAny_bind (m := Builtin.Tuple.tupleExact _) (wpAny_newObj_type (wpAny_bind (wpAny_pure (wpAny_pure ⟨_, rfl, wpAny_pure h⟩))) htake)
    | exact wpAny_bind (wpAny_bind (m := Builtin.Tuple.tupleExact _) (wpAny_newObj_type (wpAny_pure (wpAny_pure ⟨_, rfl, wpAny_pure h⟩)) htake))
    | exact wpAny_bind (wpAny_bind (m := Builtin.Tuple.tupleExact _) (wpAny_newObj_type (wpAny_pure ⟨_, rfl, wpAny_pure h⟩) htake))
end
end HT

namespace L2
open PySem PySem.Spec PyProof.Rows

/-! ### the parts of a slice -/
abbrev TO := St → Hp → (Option Int → Hp → Prop) → Prop
/-- a slice's part (left out, or an int) -/
def PO (X : Cx) (e : Option Expr) (t : TO) : Prop :=
  ∀ (pins : List (Addr × Obj)) (s : Shared) (σ : St) (H : Hp) (Q : Option Int → Hp → Prop), Inv X pins σ H s → t σ H Q →
    wpAny (model X.prog X.w) X.A (evalPart e X.env) (fun u s' => ∃ o H', Inv X pins σ H' s' ∧ IsPart u o ∧ Q o H') X.xe s
def tNoPart : TO := fun _ H Q => Q none H
def tPart (t : TE) : TO := fun σ H Q => t σ H fun x H1 => ∃ i, x = .int i ∧ Q (some i) H1

theorem intsAre_of {ns : List Int} : ∀ {us : List Value}, Vals (ns.map V.int) us → IntsAre us ns := by
  induction ns with
  | nil => intro us r; rw [List.map_nil] at r; cases r; exact .nil
  | cons n ns ih =>
    intro us r
    rw [List.map_cons] at r
    cases r with
    | cons r1 r2 =>
      obtain ⟨t, e⟩ := r1
      subst e
      exact .cons n t (ih r2)

section
variable {X : Cx} {e : Expr} {te : TE} {lo hi : Option Expr} {tl th : TO} {pos p2 : Pos}

theorem po_none : PO X none tNoPart := by
  intro pins s σ H Q I h
  rw [evalPart_none]
  exact wpAny_pure ⟨none, H, I, .none, h⟩
theorem po_some (h : PE X e te) : PO X (some e) (tPart te) := by
  intro pins s σ H Q I hw
  rw [evalPart_some]
  refine thn (h pins s σ H _ I hw) fun u s1 ⟨x, H1, I1, r1, q1⟩ => ?_
  obtain ⟨i, rfl, q⟩ := q1
  obtain ⟨t, rfl⟩ := r1
  exact ⟨some i, H1, I1, .int i t, q⟩

/-- what a slice of a value is, by values: the slice object stands at sl -/
def SlR (X : Cx) (r : V → Option Int → Option Int → Hp → VK → Prop) : Prop :=
  ∀ (pins : List (Addr × Obj)) (s : Shared) (σ : St) (H : Hp) (x : V) (v vl vu : Value) (lo hi : Option Int) (sl : Addr) (Q : VK), Inv X pins σ H s → RelV x v → s.heap.IsSliceOf sl vl vu .none → IsPart vl lo → IsPart vu hi → r x lo hi H Q →
    ∃ T id, typeLookup (.type T) "__getitem__" = pure (some (.builtin id)) ∧ s.TypeIs v T ∧ wpAny (model X.prog X.w) X.A (getItem v (.ref sl)) (EP X pins σ Q) X.xe s
def tSl (r : V → Option Int → Option Int → Hp → VK → Prop) (te : TE) (tl th : TO) : TE := fun σ H Q => te σ H fun x H1 => tl σ H1 fun l H2 => th σ H2 fun u H3 => r x l u H3 Q
/-- a[lo:hi], any a -/
theorem pe_slice {r : V → Option Int → Option Int → Hp → VK → Prop} (hr : SlR X r) (he : PE X e te) (hl : PO X lo tl) (hu : PO X hi th) : PE X (.Subscript e (.Slice lo hi none p2) pos) (tSl r te tl th) := by
  intro pins s σ H Q I h
  refine Subscript_ (thn (he pins s σ H _ I h) fun v s1 ⟨x, H1, I1, r1, q1⟩ => ?_)
  refine wpAny_Slice (thn (hl pins s1 σ H1 _ I1 q1) fun vl s2 ⟨l, H2, I2, pl, q2⟩ => thn (hu pins s2 σ H2 _ I2 q2) fun vu s3 ⟨u, H3, I3, pu, q3⟩ => ?_)
  rw [evalPart_none]
  refine wpAny_pure ?_
  have I4 : Inv X pins σ H3 { s3 with heap := s3.heap.push { cls := .type "slice", data := .fields #[vl, vu, .none] } } := I3.kept (t' := s3.toks) fun b ob q => Heap.get?_push_of_some _ q
  obtain ⟨T, id, hT, ht, hg⟩ := hr pins { s3 with heap := s3.heap.push { cls := .type "slice", data := .fields #[vl, vu, .none] } } σ H3 x v vl vu l u s3.heap.objs.size Q I4 r1 (Heap.IsSliceOf.new ..) pl pu q3
  show wpAny (model X.prog X.w) X.A (subscriptTail e (.Slice lo hi none p2) v (.ref s3.heap.objs.size)) (EP X pins σ Q) X.xe { s3 with heap := s3.heap.push { cls := .type "slice", data := .fields #[vl, vu, .none] } }
  exact tail_any (ops := [.ref s3.heap.objs.size, v]) ht hT hg (by with_unfolding_all rfl)

/-- the items of xs[lo:hi] -/
def cutV (xs : List V) (lo hi : Option Int) : List V := (xs.drop (HT.sIx xs.length 0 lo)).take (HT.sIx xs.length xs.length hi - HT.sIx xs.length 0 lo)
theorem cutV_length (xs : List V) (lo hi : Option Int) : (cutV xs lo hi).length ≤ xs.length := by
  unfold cutV
  rw [List.length_take, List.length_drop]
  omega
/-- t[lo:hi], not the whole of it (the whole would be t itself) -/
def rSlT (K : PySem.W.Frag) : V → Option Int → Option Int → Hp → VK → Prop := fun x lo hi H Q => ∃ a xs, x = .ref a ∧ SqT K H a xs ∧
  ¬ (HT.sIx xs.length 0 lo = 0 ∧ HT.sIx xs.length xs.length hi = xs.length) ∧ ∀ p, H p = none → Q (.ref p) (upd H p (.tup (cutV xs lo hi)))
theorem sl_tup : SlR X (rSlT X.K) := by
  intro pins s σ H x v vl vu lo hi sl Q I rx hs pl pu h
  obtain ⟨a, xs, rfl, hx, hw, q⟩ := h
  cases rx
  obtain ⟨its, r, ht, hz⟩ := I.tuple hx
  have hlen : its.toArray.size = xs.length := by rw [List.size_toArray]; exact r.length.symm
  refine ⟨"tuple", _, PyProof.Rows.slot_tuple_getitem.lookup, ht.typeIs, ?_⟩
  refine HT.getItem_tuple_cut ht hs pl pu (by rw [hlen]; exact hw) ?_ (by rw [hlen]; exact hz)
  rw [hlen]
  refine ⟨.ref s.heap.objs.size, _, I.laid (t' := s.toks) (o := .tup (cutV xs lo hi)) (fun b ob q => Heap.get?_push_of_some _ q) (Nat.le_refl _) ?_, rfl, q _ (I.hok.fresh (Nat.le_refl _))⟩
  exact ⟨Nat.le_trans (cutV_length xs lo hi) hz, _, (r.drop (HT.sIx xs.length 0 lo)).take (HT.sIx xs.length xs.length hi - HT.sIx xs.length 0 lo), IsTup.new _ _⟩

/-! ### t < u, t + u -/
end
end L2

namespace L2
open PySem PySem.Spec PyProof.Rows

/-! ### places -/
/-- the place that an index of any sign means -/
def ixN (n : Nat) (i : Int) : Option Nat := if 0 ≤ i then (if i < n then some i.toNat else none) else if -(n : Int) ≤ i then some (i + n).toNat else none
def atI {α : Type} (xs : List α) (i : Int) : Option α := (ixN xs.length i).bind fun j => xs[j]?
theorem ixN_seq {n : Nat} {i : Int} {j : Nat} (h : ixN n i = some j) : seqIndex? i n = some j ∧ j < n ∧ -(n : Int) ≤ i ∧ i < n := by
  unfold ixN at h
  by_cases h0 : 0 ≤ i
  · rw [if_pos h0] at h
    by_cases h1 : i < n
    · rw [if_pos h1] at h
      have e : i.toNat = j := Option.some.inj h
      exact ⟨by rw [seqIndex_of h0 h1, e], by omega, by omega, h1⟩
    · rw [if_neg h1] at h; cases h
  · rw [if_neg h0] at h
    by_cases h1 : -(n : Int) ≤ i
    · rw [if_pos h1] at h
      have e : (i + n).toNat = j := Option.some.inj h
      exact ⟨by rw [seqIndex_neg (by omega) h1, e], by omega, h1, by omega⟩
    · rw [if_neg h1] at h; cases h
theorem atI_get {α : Type} {xs : List α} {i : Int} {v : α} (h : atI xs i = some v) : ∃ j, seqIndex? i xs.length = some j ∧ xs[j]? = some v ∧ j < xs.length ∧ -(xs.length : Int) ≤ i ∧ i < xs.length := by
  unfold atI at h
  cases e : ixN xs.length i with
  | none => rw [e] at h; cases h
  | some j =>
    rw [e] at h
    obtain ⟨h1, h2, h3, h4⟩ := ixN_seq e
    exact ⟨j, h1, h, h2, h3, h4⟩
theorem atI_nat {α : Type} {xs : List α} {j : Nat} {v : α} (h : xs[j]? = some v) : atI xs (j : Int) = some v := by
  have hj : j < xs.length := (List.getElem?_eq_some_iff.mp h).1
  have e : ixN xs.length (j : Int) = some j := by
    unfold ixN
    rw [if_pos (by omega), if_pos (by omega)]; simp
  unfold atI; rw [e]; exact h
/-! ### what may be subscripted -/
/-- what stands as an index of a plain subscript -/
def PlainIx (b : Expr) : Prop := ∀ o i, subscripted b false o i = operate [o, i] (getItem o i)
/-- a subscript by values -/
def IxR (X : Cx) (r : R2) : Prop :=
  ∀ (value slice : Expr) (pins : List (Addr × Obj)) (s : Shared) (σ : St) (H : Hp) (x y : V) (v u : Value) (Q : VK), Inv X pins σ H s → RelV x v → RelV y u → r x y H Q →
    subscripted slice false v u = operate [v, u] (getItem v u) → wpAny (model X.prog X.w) X.A (subscriptTail value slice v u) (EP X pins σ Q) X.xe s
/-- a call of a builtin's method by values: the receiver, the arguments -/
def MtR (X : Cx) (id : String) (r : V → List V → Hp → VK → Prop) : Prop :=
  ∀ (pins : List (Addr × Obj)) (s : Shared) (σ : St) (H : Hp) (x : V) (xs : List V) (v : Value) (us : List Value) (Q : VK), Inv X pins σ H s → RelV x v → Vals xs us → r x xs H Q →
    wpAny (model X.prog X.w) X.A (call (.builtin id) (v :: us)) (EP X pins σ Q) X.xe s
section
variable {X : Cx} {a b : Expr} {ta tb : TE} {pos : Pos}
/-- a[b] -/
theorem pe_ix {r : R2} (hr : IxR X r) (ha : PE X a ta) (hb : PE X b tb) (hs : PlainIx b) : PE X (.Subscript a b pos) (tOp r ta tb) := by
  intro pins s σ H Q I h
  exact Subscript_ (binT ha hb I h fun v u s2 x y H2 I2 rx ry q => hr a b pins s2 σ H2 x y v u Q I2 rx ry q (hs _ _))

def rIxL (K : PySem.W.Frag) : R2 := fun x y H Q => ∃ p xs i v, x = .ref p ∧ y = .int i ∧ SqL K H p xs ∧ atI xs i = some v ∧ Q v H
def rIxT (K : PySem.W.Frag) : R2 := fun x y H Q => ∃ p xs i v, x = .ref p ∧ y = .int i ∧ SqT K H p xs ∧ atI xs i = some v ∧ Q v H
def rIxS : R2 := fun x y H Q => ∃ z i c, x = .str z ∧ y = .int i ∧ z.length ≤ sizeLine ∧ atI z.cps.toList i = some c ∧ Q (.str ⟨#[c]⟩) H
theorem ix_list : IxR X (rIxL X.K) := by
  intro value slice pins s σ H x y v u Q I rx ry h hs
  obtain ⟨p, xs, i, z, rfl, rfl, hq, he, q⟩ := h
  cases rx
  obtain ⟨t, rfl⟩ := ry
  obtain ⟨its, r, pl, hz⟩ := I.list hq
  obtain ⟨j, h1, h2, h3, h4, h5⟩ := atI_get he
  obtain ⟨w, ew, rw'⟩ := r.get h2
  have hl := r.length
  have hn := line63
  have fin : EP X pins σ Q w s := ⟨z, H, I, rw', q⟩
  by_cases h0 : 0 ≤ i
  · have hj : i.toNat = j := by
      rw [seqIndex_of h0 h5] at h1
      exact Option.some.inj h1
    exact item_listR pl.isList h0 (by omega) (by rw [hj]; simpa using ew) fin hs
  · have hj : (i + (its.toArray.size : Int)).toNat = j := by
      rw [seqIndex_neg (by omega) h4] at h1
      rw [List.size_toArray, ← hl]
      exact Option.some.inj h1
    exact subscriptTail_builtinR (x := w) pl.isList.typeIs slot_list_getitem.lookup
      (wpAny_getItem_list_neg (Q := fun r s' => r = w ∧ EP X pins σ Q r s') pl.isList (by omega) (by rw [List.size_toArray] <;> omega) (by omega) (by rw [hj]; simpa using ew) ⟨rfl, fin⟩) hs
theorem ix_tup : IxR X (rIxT X.K) := by
  intro value slice pins s σ H x y v u Q I rx ry h hs
  obtain ⟨p, xs, i, z, rfl, rfl, hq, he, q⟩ := h
  cases rx
  obtain ⟨t, rfl⟩ := ry
  obtain ⟨its, r, pl, hz⟩ := I.tuple hq
  obtain ⟨j, h1, h2, h3, h4, h5⟩ := atI_get he
  obtain ⟨w, ew, rw'⟩ := r.get h2
  have hl := r.length
  have hn := line63
  have fin : EP X pins σ Q w s := ⟨z, H, I, rw', q⟩
  exact subscriptTail_builtinR (x := w) pl.typeIs slot_tuple_getitem.lookup
    (getItem_tuple (j := j) (Q := fun r s' => r = w ∧ EP X pins σ Q r s') pl (by omega) (by omega) (by rw [List.size_toArray, ← hl]; exact h1) (by simpa using ew) ⟨rfl, fin⟩) hs
theorem ix_str : IxR X rIxS := by
  intro value slice pins s σ H x y v u Q I rx ry h hs
  obtain ⟨z, i, c, rfl, rfl, hz, he, q⟩ := h
  obtain ⟨t, rfl⟩ := rx
  obtain ⟨t', rfl⟩ := ry
  obtain ⟨j, h1, h2, h3, h4, h5⟩ := atI_get he
  have hl : z.cps.toList.length = z.length := by simp [Str.length]
  rw [hl] at h1 h4 h5
  have hn := line63
  exact tail_any (typeIs_str s z t) slot_str_getitem.lookup (getItem_str (c := c) (by
    have e1 : decide (i < -(2 ^ 63 : Int)) = false := decide_eq_false (by omega)
    have e2 : decide (i ≥ 2 ^ 63) = false := decide_eq_false (by omega)
    rw [e1, e2, Bool.or_false]) (by rw [h1]; simpa using h2) ⟨.str ⟨#[c]⟩, H, I.tok _, ⟨_, rfl⟩, q⟩) hs
/-! ### xs[i] = v, any sign -/
/-- the list's object behind a store -/
theorem mapSeq_set (its : List Value) (n j : Nat) (u : Value) : Obj.mapSeq (·.setIfInBounds j u) { cls := .type "list", data := .seq its.toArray n } = { cls := .type "list", data := .seq (its.set j u).toArray n } := by
  simp [Obj.mapSeq]
theorem Inv.lst {pins : List (Addr × Obj)} {σ : St} {H : Hp} {s : Shared} {p : Addr} {xs : List V} (I : Inv X pins σ H s) (h : H p = some (.lst xs)) :
    ∃ (its : List Value) (n : Nat), Vals xs its ∧ s.heap.get? p = some { cls := .type "list", data := .seq its.toArray n } ∧ xs.length ≤ sizeLine := by
  obtain ⟨z, its, n, r, e⟩ := I.hok p _ h
  exact ⟨its, n, r, e, z⟩
/-- the list at p is written by an update of its object -/
theorem Inv.lstUpd {pins : List (Addr × Obj)} {σ : St} {H : Hp} {s : Shared} {p : Addr} {xs ys : List V} {its its' : List Value} {n n' : Nat} {f : Obj → Obj} (I : Inv X pins σ H s) (h : H p = some (.lst xs))
    (ho : s.heap.get? p = some { cls := .type "list", data := .seq its.toArray n }) (hf : f { cls := .type "list", data := .seq its.toArray n } = { cls := .type "list", data := .seq its'.toArray n' }) (r : Vals ys its') (hz : ys.length ≤ sizeLine) (t : Nat) :
    Inv X pins σ (upd H p (.lst ys)) { s with heap := s.heap.update p f, toks := t } := by
  have e : (s.heap.update p f).get? p = some { cls := .type "list", data := .seq its'.toArray n' } := by
    rw [Heap.get?_update_self f ho (by rw [hf] <;> rfl), hf]
  refine I.write (x := p) (e := p) (by rw [h]; trivial) (.inl rfl) (fun b u hb q => (Heap.get?_update_other _ _ (Ne.symm hb)).trans q) ⟨_, e⟩ ?_
  exact ⟨hz, its', n', r, e⟩
def rSetL : V → V → V → Hp → (Hp → Prop) → Prop := fun o i v H Q => ∃ p xs k j, o = .ref p ∧ i = .int k ∧ H p = some (.lst xs) ∧ ixN xs.length k = some j ∧ Q (upd H p (.lst (xs.set j v)))
theorem set_list : PSet X rSetL := by
  intro pins s σ H o i v ov iv u Q I ro ri rv h
  obtain ⟨p, xs, k, j, rfl, rfl, hp, hj, q⟩ := h
  cases ro
  obtain ⟨t, rfl⟩ := ri
  obtain ⟨its, n, r, ho, hz⟩ := I.lst hp
  obtain ⟨h1, h2, h3, h4⟩ := ixN_seq hj
  have hl := r.length
  have hn := line63
  have I' : Inv X pins σ (upd H p (.lst (xs.set j v))) { s with heap := s.heap.update p (Obj.mapSeq (·.setIfInBounds j u)) } :=
    I.lstUpd hp ho (mapSeq_set its n j u) (r.set rv j) (by rw [List.length_set]; exact hz) s.toks
  by_cases h0 : 0 ≤ k
  · have hk : k.toNat = j := by
      rw [seqIndex_of h0 h4] at h1
      exact Option.some.inj h1
    exact PySem.W.ki_setAt ho h0 (by omega) (by rw [List.size_toArray, ← hl]; exact h4) (by rw [hk]; exact ⟨_, I', q⟩)
  · have hk : (k + (its.toArray.size : Int)).toNat = j := by
      rw [seqIndex_neg (by omega) h3] at h1
      rw [List.size_toArray, ← hl]
      exact Option.some.inj h1
    exact PySem.W.ki_setBack ho (by omega) (by rw [List.size_toArray, ← hl]; exact h3) (by omega) (by rw [hk]; exact ⟨_, I', q⟩)

/-! ### slices -/
theorem slice_bounds (lo hi : Option Int) (n : Nat) : (sliceBounds lo hi none n).1 = ((HT.sIx n 0 lo : Nat) : Int) ∧ (sliceBounds lo hi none n).2.1 = ((HT.sIx n n hi : Nat) : Int) ∧ (sliceBounds lo hi none n).2.2 = 1 := by
  refine ⟨?_, ?_, rfl⟩
  · cases lo with
    | none => simp [sliceBounds, HT.sIx]
    | some i =>
      simp only [sliceBounds, HT.sIx, Option.getD_none, show (1 : Int) > 0 by decide, if_true]
      by_cases h : i < 0
      · simp only [h, if_true] <;> omega
      · simp only [h, if_false] <;> omega
  · cases hi with
    | none => simp [sliceBounds, HT.sIx]
    | some i =>
      simp only [sliceBounds, HT.sIx, Option.getD_none, show (1 : Int) > 0 by decide, if_true]
      by_cases h : i < 0
      · simp only [h, if_true] <;> omega
      · simp only [h, if_false] <;> omega
theorem slicePick_cut (its : List Value) (lo hi : Option Int) : slicePick its.toArray lo hi none = ((its.drop (HT.sIx its.length 0 lo)).take (HT.sIx its.length its.length hi - HT.sIx its.length 0 lo)).toArray := by
  obtain ⟨h1, h2, h3⟩ := slice_bounds lo hi its.toArray.size
  unfold slicePick
  rw [h1, h2, h3]
  simp only [sliceRange_one, pick_run, List.size_toArray] <;> rfl
/-- xs[lo:hi] of a list: a new list -/
def rSlL (K : PySem.W.Frag) : V → Option Int → Option Int → Hp → VK → Prop := fun x lo hi H Q => ∃ a xs, x = .ref a ∧ SqL K H a xs ∧ ∀ p, H p = none → Q (.ref p) (upd H p (.lst (cutV xs lo hi)))
theorem sl_list : SlR X (rSlL X.K) := by
  intro pins s σ H x v vl vu lo hi sl Q I rx hs pl pu h
  obtain ⟨a, xs, rfl, hx, q⟩ := h
  cases rx
  obtain ⟨its, r, ht, hz⟩ := I.list hx
  have hlen := r.length
  refine ⟨"list", _, slot_list_getitem.lookup, ht.isList.typeIs, ?_⟩
  refine wpAny_getItem_list_slice ht.isList hs pl pu .none (by simp) ?_ (by rw [List.size_toArray] <;> omega)
  rw [slicePick_cut, ← hlen]
  refine ⟨.ref s.heap.objs.size, _, I.laid (t' := s.toks) (o := .lst (cutV xs lo hi)) (fun b ob q => Heap.get?_push_of_some _ q) (Nat.le_refl _) ?_, rfl, q _ (I.hok.fresh (Nat.le_refl _))⟩
  exact ⟨Nat.le_trans (cutV_length xs lo hi) hz, _, 0, (r.drop (HT.sIx xs.length 0 lo)).take (HT.sIx xs.length xs.length hi - HT.sIx xs.length 0 lo), Heap.get?_push_size _ rfl⟩

/-! ### in, not in: flat items -/
def flatV : V → Bool
  | .non => true
  | .bl _ => true
  | .int _ => true
  | .str _ => true
  | _ => false
/-- == of flat values -/
def eqV : V → V → Bool
  | .non, .non => true
  | .bl a, .bl b => a == b
  | .bl a, .int b => (if a then 1 else 0) == b
  | .int a, .bl b => a == (if b then 1 else 0)
  | .int a, .int b => a == b
  | .str a, .str b => a == b
  | _, _ => false
theorem eqAt_V {A : Around} {s : Shared} {y x : V} {u v : Value} (ry : RelV y u) (rx : RelV x v) (fy : flatV y = true) (fx : flatV x = true) : SeqAt.EqAt A s u v (eqV y x) := by
  cases y with
  | non =>
    cases ry
    cases x with
    | non => cases rx; exact SeqAt.EqAt.same _
    | bl b => cases rx; exact SeqAt.EqAt.none_bool b
    | int b => obtain ⟨t, rfl⟩ := rx; exact SeqAt.EqAt.none_int b t
    | str b => obtain ⟨t, rfl⟩ := rx; exact SeqAt.EqAt.none_str b t
    | _ => exact absurd (show false = true from fx) Bool.false_ne_true
  | bl a =>
    cases ry
    cases x with
    | non => cases rx; exact SeqAt.EqAt.bool_none a
    | bl b => cases rx; exact SeqAt.EqAt.bool_bool a b
    | int b => obtain ⟨t, rfl⟩ := rx; exact SeqAt.EqAt.bool_int a b t
    | str b => obtain ⟨t, rfl⟩ := rx; exact SeqAt.EqAt.bool_str a b t
    | _ => exact absurd (show false = true from fx) Bool.false_ne_true
  | int a =>
    obtain ⟨t', rfl⟩ := ry
    cases x with
    | non => cases rx; exact SeqAt.EqAt.int_none a t'
    | bl b => cases rx; exact SeqAt.EqAt.int_bool a t' b
    | int b => obtain ⟨t, rfl⟩ := rx; exact SeqAt.EqAt.int_int a t' b t
    | str b => obtain ⟨t, rfl⟩ := rx; exact SeqAt.EqAt.int_str a t' b t
    | _ => exact absurd (show false = true from fx) Bool.false_ne_true
  | str a =>
    obtain ⟨t', rfl⟩ := ry
    cases x with
    | non => cases rx; exact SeqAt.EqAt.str_none a t'
    | bl b => cases rx; exact SeqAt.EqAt.str_bool a t' b
    | int b => obtain ⟨t, rfl⟩ := rx; exact SeqAt.EqAt.str_int a t' b t
    | str b => obtain ⟨t, rfl⟩ := rx; exact SeqAt.EqAt.str_str a t' b t
    | _ => exact absurd (show false = true from fx) Bool.false_ne_true
  | _ => exact absurd (show false = true from fy) Bool.false_ne_true
/-- the items' answers, read off the values (a value's own answer does not lean on its token) -/
def eqU (x : V) (u : Value) : Bool := match u with
  | .none => eqV .non x
  | .bool b => eqV (.bl b) x
  | .int i _ => eqV (.int i) x
  | .str z _ => eqV (.str z) x
  | _ => false
theorem eqU_of {x y : V} {u : Value} (r : RelV y u) (f : flatV y = true) : eqU x u = eqV y x := by
  cases y with
  | non => cases r; rfl
  | bl b => cases r; rfl
  | int i => obtain ⟨t, rfl⟩ := r; rfl
  | str z => obtain ⟨t, rfl⟩ := r; rfl
  | _ => exact absurd (show false = true from f) Bool.false_ne_true
theorem mem_eqAt {A : Around} {s : Shared} {x : V} {v : Value} (rx : RelV x v) (fx : flatV x = true) : ∀ {xs : List V} {us : List Value}, Vals xs us → xs.all flatV = true → ∀ u ∈ us, SeqAt.EqAt A s u v (eqU x u)
  | _, _, .nil, _ => fun u hu => by cases hu
  | y :: xs, u :: us, .cons r t, f => fun u' hu => by
    rw [List.all_cons, Bool.and_eq_true] at f
    rcases List.mem_cons.mp hu with rfl | hu
    · rw [eqU_of r f.1]; exact eqAt_V r rx f.1 fx
    · exact mem_eqAt rx fx t f.2 u' hu
theorem op_notIn_str : OpR X (compareOp .NotIn) (fun x y H Q => ∃ i j, x = .str i ∧ y = .str j ∧ Q (.bl (!(!(Builtin.Str.occurrences j i 0 j.length 1).isEmpty))) H) := by
  intro pins s σ H x y v u Q I rx ry h
  obtain ⟨i, j, rfl, rfl, q⟩ := h
  obtain ⟨t, rfl⟩ := rx
  obtain ⟨t', rfl⟩ := ry
  exact notIn_str ⟨.bl _, H, I, rfl, q⟩

/-! ### len, list(x), tuple(x) of any list or tuple that is read -/
theorem call_len_seq : CallR X (.builtin "len") (fun xs H Q => ∃ p ys, xs = [.ref p] ∧ (SqL X.K H p ys ∨ SqT X.K H p ys) ∧ Q (.int ys.length) H) := by
  intro pins s σ H xs us Q I r h
  obtain ⟨p, ys, rfl, hq, q⟩ := h
  obtain ⟨u, rfl, rx⟩ := vals1 r
  cases rx
  have hn := line63
  rcases hq with hq | hq
  · obtain ⟨its, r', pl, hz⟩ := I.list hq
    have hlen := r'.length
    exact Calls.call_len_list pl.isList (by simp only [List.size_toArray] <;> omega) ⟨.int ys.length, H, I.tok _, ⟨s.toks + 1, by rw [List.size_toArray, hlen]⟩, q⟩
  · obtain ⟨its, r', pl, hz⟩ := I.tuple hq
    have hlen := r'.length
    exact len_tuple pl (by simp only [List.size_toArray] <;> omega) ⟨.int ys.length, H, I.tok _, ⟨s.toks + 1, by rw [List.size_toArray, hlen]⟩, q⟩
theorem call_len_str : CallR X (.builtin "len") (fun xs H Q => ∃ z, xs = [.str z] ∧ z.length ≤ sizeLine ∧ Q (.int z.length) H) := by
  intro pins s σ H xs us Q I r h
  obtain ⟨z, rfl, hz, q⟩ := h
  obtain ⟨u, rfl, t, rfl⟩ := vals1 r
  have hn := line63
  exact len_str (by omega) ⟨.int z.length, H, I.tok _, ⟨_, rfl⟩, q⟩
/-! ### the call of a builtin's method: o.m(..) -/
/-- the value is of that builtin type -/
def tyV (K : PySem.W.Frag) (T : String) (x : V) (H : Hp) : Prop := match x with
  | .str _ => T = "str"
  | .int _ => T = "int"
  | .ref p => (T = "list" ∧ ∃ xs, SqL K H p xs) ∨ (T = "tuple" ∧ ∃ o, K.lookup p = some o ∧ o.cls = .type "tuple" ∧ o.dict = none) ∨
      (T = "dict" ∧ ((∃ kvs, H p = some (.dK kvs)) ∨ ∃ kvs, H p = some (.dT kvs))) ∨ (T = "set" ∧ ∃ S n, H p = some (.set S n))
  | _ => False
theorem tyV_is {pins : List (Addr × Obj)} {σ : St} {H : Hp} {s : Shared} {T : String} {x : V} {v : Value} (I : Inv X pins σ H s) (r : RelV x v) (ty : tyV X.K T x H) :
    s.TypeIs v T ∧ ∀ a, v = .ref a → ∃ ob, s.heap.get? a = some ob ∧ ob.dict = none := by
  cases x with
  | str z =>
    obtain ⟨t, rfl⟩ := r
    cases (show T = "str" from ty)
    exact ⟨typeIs_str s z t, fun _ e => nomatch e⟩
  | int i =>
    obtain ⟨t, rfl⟩ := r
    cases (show T = "int" from ty)
    exact ⟨typeIs_int s i t, fun _ e => nomatch e⟩
  | ref p =>
    cases r
    rcases ty with ⟨rfl, xs, hq⟩ | ⟨rfl, o, hk, hc, hd⟩ | ⟨rfl, hk⟩ | ⟨rfl, S, n, hk⟩
    · obtain ⟨its, _, pl, _⟩ := I.list hq
      refine ⟨pl.isList.typeIs, fun a e => ?_⟩
      cases e
      obtain ⟨o, n, e, c, hd, _⟩ := pl
      exact ⟨o, e, hd⟩
    · refine ⟨⟨o, I.kIn p o hk, hc⟩, fun a e => ?_⟩
      cases e
      exact ⟨o, I.kIn _ o hk, hd⟩
    · have z : ∃ o, s.heap.get? p = some o ∧ o.ExactDict := by
        rcases hk with ⟨kvs, hk⟩ | ⟨kvs, hk⟩
        · obtain ⟨_, _, _, _, o, _, _, e, ex, _⟩ := I.hok p _ hk
          exact ⟨o, e, ex⟩
        · obtain ⟨_, _, _, _, o, _, _, e, ex, _⟩ := I.hok p _ hk
          exact ⟨o, e, ex⟩
      obtain ⟨o, e, ex⟩ := z
      refine ⟨⟨o, e, ex.1⟩, fun a e2 => ?_⟩
      cases e2
      exact ⟨o, e, ex.2.1⟩
    · obtain ⟨o, _, _, _, e, ex, _⟩ := I.hok p _ hk
      refine ⟨⟨o, e, ex.1⟩, fun a e2 => ?_⟩
      cases e2
      exact ⟨o, e, ex.2.1⟩
  | _ => exact False.elim ty
def tBM (K : PySem.W.Frag) (T : String) (r : V → List V → Hp → VK → Prop) (to : TE) (t : TA) : TE := fun σ H Q => to σ H fun x H1 => tyV K T x H1 ∧ t σ H1 fun xs H2 => r x xs H2 Q
variable {o e : Expr} {es : List Expr} {to : TE} {t : TA} {name : Str} {apos cpos : Pos} {T id : String} {r : V → List V → Hp → VK → Prop}
theorem pe_bm (pa : PlainAttrs T) (slot : Slot T name id) (hty : typeOf (.builtin id) = pure (.type "method_descriptor")) (hm : MtR X id r) (ho : PE X o to) (ha : PA X (e :: es) t)
    (hbase : attributeBase o name X.env (eval o X.env) = eval o X.env := by rfl)
    (hfew : ((backTo cpos (starEach (e :: es) X.env)).all (fun x => !x.1) && (backToKw cpos (keywordEach [] X.env)).all (fun x => x.1.isSome)
      && decide ((e :: es).length + ([] : List Keyword).length + (if ([] : List Keyword).isEmpty then 0 else 1) < 30)) = true := by rfl)
    (hline : (apos.endLine == cpos.line) = true := by rfl) (hs : starEach (e :: es) X.env = (false, eval e X.env) :: starEach es X.env := by rfl) (hplain : (backTo cpos (starEach es X.env)).any (·.1) = false := by rfl) :
    PE X (.Call (.Attribute o name apos) (e :: es) [] cpos) (tBM X.K T r to t) := by
  intro pins s σ H Q I h
  refine wpAny_Call_method_late hbase hfew hline rfl (thn (ho pins s σ H _ I h) fun v s1 ⟨x, H1, I1, r1, ty, q1⟩ => ?_)
  obtain ⟨h1, h2⟩ := tyV_is I1 r1 ty
  refine ⟨T, id, pa, slot, hty, h1, h2, ?_⟩
  have hA := ha cpos pins s1 σ H1 _ I1 q1
  rw [hs] at hA ⊢
  refine Calls.callWith_builtin (by show (false || (backTo cpos (starEach es X.env)).any (·.1)) = false; rw [hplain] <;> rfl) (Calls.evalArgs_plain ?_)
  exact thn hA fun us s2 ⟨vs, H2, I2, r2, q2⟩ => hm pins s2 σ H2 x vs v us Q I2 r1 r2 q2
/- xs.append(e), list.index on a module's tuple .. are MtR facts of 06m -/
end
end L2

namespace L2
open PySem PySem.Spec PyProof.Rows

def MtM (X : Cx) (id : String) (r : V → List V → Hp → VK → Prop) : Prop :=
  ∀ (pins : List (Addr × Obj)) (s : Shared) (σ : St) (H : Hp) (x : V) (xs : List V) (v : Value) (us : List Value) (Q : VK), Inv X pins σ H s → RelV x v → Vals xs us → r x xs H Q →
    wpAny (model X.prog X.w) X.A (call (.builtin id) (v :: us)) (EP X pins σ Q) X.xe s

/-! ### lists of values -/
theorem Vals.one : ∀ {x : V} {us : List Value}, Vals [x] us → ∃ u, us = [u] ∧ RelV x u
  | _, _, .cons r .nil => ⟨_, rfl, r⟩
theorem Vals.two : ∀ {x y : V} {us : List Value}, Vals [x, y] us → ∃ u v, us = [u, v] ∧ RelV x u ∧ RelV y v
  | _, _, _, .cons r (.cons q .nil) => ⟨_, _, rfl, r, q⟩
section
variable {X : Cx} {pins : List (Addr × Obj)} {σ : St} {H : Hp} {s : Shared} {l b : Addr} {xs ys zs : List V}

/-! ### the two steps: a tracked list is rewritten, a new list is laid -/
theorem Inv.lset {its its' : List Value} {n : Nat} {f : Array Value → Array Value} {t' : Nat} (I : Inv X pins σ H s) (hH : H l = some (.lst xs))
    (e : s.heap.get? l = some { cls := .type "list", data := .seq its.toArray n }) (hf : f its.toArray = its'.toArray) (hv : Vals ys its') (hz : ys.length ≤ sizeLine) :
    Inv X pins σ (upd H l (.lst ys)) { s with heap := s.heap.update l (Obj.mapSeq f), toks := t' } := by
  have q := PySem.IsL.update e f
  rw [hf] at q
  refine I.write (x := l) (e := l) (by rw [hH]; exact trivial) (.inl rfl) (fun b' u hb hu => (Heap.get?_update_other s.heap (Obj.mapSeq f) (Ne.symm hb)).trans hu) ⟨_, q⟩ ?_
  exact ⟨hz, its', _, hv, q⟩
theorem Inv.lnew {its : List Value} {t' : Nat} (I : Inv X pins σ H s) (hv : Vals ys its) (hz : ys.length ≤ sizeLine) :
    Inv X pins σ (upd H s.heap.objs.size (.lst ys)) { s with heap := s.heap.push { cls := .type "list", data := .seq its.toArray }, toks := t' } :=
  I.laid (fun _ _ q => Heap.get?_push_of_some _ q) (Nat.le_refl _) ⟨hz, its, 0, hv, Heap.get?_push_size _ rfl⟩
theorem Inv.fresh (I : Inv X pins σ H s) : H s.heap.objs.size = none := I.hok.fresh (Nat.le_refl _)
theorem Inv.lstM (I : Inv X pins σ H s) (hH : H l = some (.lst xs)) : xs.length ≤ sizeLine ∧ ∃ (its : List Value) (n : Nat), Vals xs its ∧ xs.length = its.length ∧ s.heap.get? l = some { cls := .type "list", data := .seq its.toArray n } := by
  obtain ⟨z, its, n, r, e⟩ := I.hok l _ hH
  exact ⟨z, its, n, r, r.length, e⟩

theorem notLongL {n : Nat} (h : n ≤ sizeLine) : Builtin.List.listTooLong n = false := by
  unfold Builtin.List.listTooLong
  exact decide_eq_false (by omega)
end

section
variable {X : Cx}

/-! ### methods -/
def rAppend : V → List V → Hp → VK → Prop := fun x vs H Q => ∃ l xs y, x = .ref l ∧ vs = [y] ∧ H l = some (.lst xs) ∧ xs.length < sizeLine ∧ Q .non (upd H l (.lst (xs ++ [y])))
theorem mt_append : MtM X "list.append" rAppend := by
  intro pins s σ H x vs v us Q I rx rv h
  obtain ⟨l, xs, y, rfl, rfl, hH, hz, q⟩ := h
  cases rx
  obtain ⟨u, rfl, ru⟩ := rv.one
  obtain ⟨z, its, n, r, hl, e⟩ := I.lstM hH
  refine call_meets F.slot_list_append ⟨_, e, rfl⟩ F.entry_list_append (F.args_list_append_2 _ _) (PySem.list_append l its.toArray n u (by rw [List.size_toArray]; omega)) ⟨e, ?_⟩
  refine ⟨.non, _, I.lset (its' := its ++ [u]) hH e (by simp) (r.append (.cons ru .nil)) ?_, rfl, q⟩
  rw [List.length_append, List.length_singleton]
  omega

/-! ### list + list, list += list, list * int -/
def rCat : R2 := fun x y H Q => ∃ l b xs zs, x = .ref l ∧ y = .ref b ∧ H l = some (.lst xs) ∧ H b = some (.lst zs) ∧ xs.length + zs.length ≤ sizeLine ∧ ∀ p, H p = none → Q (.ref p) (upd H p (.lst (xs ++ zs)))
theorem op_cat : OpR X (binaryOp .Add) rCat := by
  intro pins s σ H x y v u Q I rx ry h
  obtain ⟨l, b, xs, zs, rfl, rfl, hH, hB, hz, q⟩ := h
  cases rx
  cases ry
  obtain ⟨z, its, n, r, hl, e⟩ := I.lstM hH
  obtain ⟨z2, its2, n2, r2, hl2, e2⟩ := I.lstM hB
  refine PySem.P.add_list e e2 ?_ (by rw [List.size_toArray, List.size_toArray]; omega)
  have ea : its.toArray ++ its2.toArray = (its ++ its2).toArray := by simp
  rw [ea]
  exact ⟨.ref _, _, I.lnew (t' := s.toks) (r.append r2) (by rw [List.length_append]; omega), rfl, q _ I.fresh⟩
/-! ### del xs[i] -/
end

/-! ### xs[a:b] = ys -/
section
variable {prog : Program} {w : World} {A : Around} {E : Value → Shared → Prop} {s : Shared}
theorem splice_eq (its its2 : List Value) (a c : Nat) : its.toArray.extract 0 a ++ its2.toArray ++ its.toArray.extract c its.toArray.size = (its.take a ++ its2 ++ its.drop c).toArray := by
  apply Array.toList_inj.mp
  first
    | (simp
       exact List.take_of_length_le (by simp))
    | simp [List.take_of_length_le]
    | simp
set_option maxRecDepth 100000 in
end

section
variable {X : Cx}
end
end L2

namespace Att
open PySem PySem.W PySem.Calls PyProof.Rows

/-! ### the script -/
theorem ints_of_wellAll {P : Params} {h : Heap} : ∀ (ns : List Int) (vs : List Value), WellAll P h vs (ns.map WData.int) → IntsAre vs ns := by
  intro ns
  induction ns with
  | nil =>
    intro vs w
    rw [List.map_nil] at w
    cases w
    exact .nil
  | cons n ns ih =>
    intro vs w
    rw [List.map_cons] at w
    cases w with
    | cons a b =>
      cases a
      exact .cons _ _ (ih _ b)

theorem script_of {l : OpenLaw} {n : Nat} (hn : l.most = some n) {P : Params} {h : Heap} {args : List WData} {vals : List Value}
    (hpre : l.row.toRowW.claim.pre args = true) (hwl : WellAll P h vals args) :
    ∃ a vs ns, vals = [Value.ref a] ∧ args = [WData.list (ns.map WData.int)] ∧ h.get? a = some { cls := .type "list", data := .seq vs.toArray } ∧ IntsAre vs ns ∧ ns.length ≤ n := by
  have hsh : WShape.hasAll [] args [.list .int] = true := (pre_splitW hpre).1
  have hc : l.pre.holds [] { args := args } = true := (pre_splitW hpre).2
  obtain ⟨d, r, rfl, h1, h2⟩ := hasAllW_cons hsh
  obtain rfl := hasAllW_nil h2
  obtain ⟨xs, rfl, h3⟩ := hasW_list h1
  obtain ⟨ns, rfl⟩ := items_int h3
  have hlen : ns.length ≤ n := by
    unfold OpenLaw.pre at hc
    have h4 : (WTm.not (.lt (.lit (.int (n : Int))) (.len (.arg 0)))).holds [] { args := [.list (ns.map .int)] } = true := by
      have h4 := (holds_andW hc).1
      rw [hn] at h4
      exact h4
    have h5 := condW_of h4 (w_not (w_lt w_lit (w_len_list (w_arg rfl))))
    rw [List.length_map] at h5
    refine Nat.le_of_not_lt fun q => ?_
    have q' : (n : Int) < ((ns.length : Nat) : Int) := by omega
    first
      | (rw [decide_eq_true q'] at h5; exact absurd h5 (by decide))
      | (simp at h5; omega)
  cases hwl with
  | cons w1 w2 =>
    cases w2
    cases w1 with
    | list ho hall => exact ⟨_, _, ns, rfl, rfl, ho, ints_of_wellAll ns _ hall, hlen⟩

theorem post_true (l : OpenLaw) (args : List WData) : l.row.toRowW.claim.post args (.bool true) args = true :=
  postW_of (r := l.row.toRowW) (X := (true == true))
    (show WShape.has [] (.bool true) .bool = true by first | rfl | decide | simp [WShape.has, WShape.arms, WShape.armsAll])
    (show (WTm.eq .res (.lit (.bool true))).value [] { args := args, res := some (.bool true), after := args } = some (.bool (true == true)) from w_eq_bool (w_res rfl) w_lit) rfl

/-! ### the attachment: holds_open's last premise (the goal 'hc' behind k_head) from a wpAny of the law's body -/
/-- the same from a codeAny of the CALL (for a layer whose function contracts speak of calls) -/
theorem attach_call {l : OpenLaw} {n : Nat} {q : Program} {loose : List Str} {XP : (Str → Option Value) → Heap → Prop} {YP : World → Heap → Prop} {d : DefRec}
    (hn : l.most = some n) (hdf : d.params.defaults = [])
    (call : ∀ (w : World) (s₀ s₁ : Shared) (mg mb : Str → Option Value) (fa : Addr) (o : Obj) (pm cd doc : Value) (a : Addr) (vs : List Value) (ns : List Int),
      Ground q loose [] XP w s₀ mg mb s₁.heap → YP w s₁.heap →
      s₁.heap.get? fa = some o → o.data = .func (docDef d.name d.params d.body d.scope pm cd doc) → s₁.heap.CodeRec cd d.name → mg d.name = some (.ref fa) →
      s₁.heap.get? a = some { cls := .type "list", data := .seq vs.toArray } → IntsAre vs ns → ns.length ≤ n → s₁.gens = #[] →
      codeAny (model l.prog w) callerA (.call (.ref fa) ⟨[.ref a], []⟩) (fun r s' => r = .ok (.ret (.bool true)) ∧ OldK s₁.heap s'.heap ∧ s'.os = s₁.os ∧ AllBare s'.gens) s₁) :
    WalkO q loose XP YP l.row.toRowW d [] (fun f vs => PySem.call f vs) := by
  intro w s₀ s₁ mg mb G Y fa o pm cd doc dV kV ho hd hcd hD hmg hg args vals as hpre hlay hrd hwl hlo
  obtain rfl : dV = .none := Dflts.none hD hdf
  obtain rfl : kV = .none := Dflts.noKw hD
  obtain ⟨a, vs, ns, rfl, rfl, hobj, hints, hlen⟩ := script_of hn hpre hwl
  refine enter_call (codeAny_mono (call w s₀ s₁ mg mb fa o pm cd doc a vs ns G Y ho (fd_plain hd) hcd hmg hobj hints hlen hg) fun r s' hq => ?_)
  obtain ⟨rfl, h2, h3, h4⟩ := hq
  exact ⟨.inl ⟨.bool true, .bool true, [], rfl, fun _ => rfl, .bool true, post_true l _, fun _ => ⟨List.Pairwise.nil, fun _ hm => (nomatch hm)⟩⟩, h2, h3, h4⟩

/-! ### rules over ANY heap (no ledger) from facts about the written part K: the library's own take a ledger (News) for what they write -/
section
variable {prog : Program} {w : World} {A : Around} {E : Value → Shared → Prop} {s : Shared} {K : Frag}

/-! the whole heap as the ledger: makes every rule that writes through a ledger a rule over any heap -/
end
end Att

namespace L2
open PySem PySem.Spec PyProof.Rows

theorem vals_ints : ∀ {vs : List Value} {ns : List Int}, IntsAre vs ns → Vals (ns.map V.int) vs
  | _, _, .nil => .nil
  | _, _, .cons n t h => .cons ⟨t, rfl⟩ (vals_ints h)

/-- nothing is tracked but the script, known to the object (or it is an object of the module) -/
def Only (H : Hp) : Prop := ∀ b, H b = none ∨ ∃ o xs, H b = some (.frz o (.lst xs))

/-- THE HEAD: the law's promise, at the heap behind the top. F, the promise of the law's def, may use that base is part of the heap (so K.In base, base.Ns mainGlobals mg stand in Mod) -/
theorem law_call {P : Program} {w : World} {K : PySem.W.Frag} {mg mb : Str → Option Value} {CX : CXT} {k : Nat} {fa a : Addr} {fd : FuncData} {x : Str} {sp : Sp} {s₁ : Shared} {vs : List Value} {ns : List Int}
    (KX : K.In s₁.heap) (hns : s₁.heap.Ns mainGlobals mg) (hb : s₁.heap.Ns builtinsNs mb) (hbb : ∀ x : Str, x ≠ "__name__" → mb x = bootBuiltins x) (hlim : s₁.heap.NoLimit) (hg : s₁.gens = #[])
    (ha : s₁.heap.get? a = some { cls := .type "list", data := .seq vs.toArray }) (hi : IntsAre vs ns) (hl : ns.length ≤ sizeLine) (hr : Room k callerA)
    (F : ∀ base : Heap, K.In base → base.Ns mainGlobals mg → FnOk P w K mg base CX k fa fd [x] sp) (hbind : ∀ (s : Shared) (u : Value), BindsTo s fd ⟨[u], []⟩ [(x, u)])
    (hsp : ∀ H : Hp, Only H → SqL K H a (ns.map V.int) → sp [.ref a] H (fun v _ => v = .bl true) fun _ _ _ => False)
    (hCX : ∀ H e s', CX [] H s₁ (fun _ _ _ => False) e s' → False) :
    codeAny (model P w) callerA (.call (.ref fa) ⟨[.ref a], []⟩) (fun r s' => r = .ok (.ret (.bool true)) ∧ OldK s₁.heap s'.heap ∧ s'.os = s₁.os ∧ AllBare s'.gens) s₁ := by
  have rv := vals_ints hi
  have lenV := hi.length
  -- from an abstract heap in which nothing but the script may be tracked
  have core : ∀ H : Hp, Only H → SqL K H a (ns.map V.int) → HOk P w H s₁.heap → (∀ b, H b ≠ none → b = a) → (H a ≠ none → K.lookup a = none) →
      codeAny (model P w) callerA (.call (.ref fa) ⟨[.ref a], []⟩) (fun r s' => r = .ok (.ret (.bool true)) ∧ OldK s₁.heap s'.heap ∧ s'.os = s₁.os ∧ AllBare s'.gens) s₁ := by
    intro H hO hS hok hA hK
    have base_of : ∀ {b : Addr} {o : Obj}, s₁.heap.get? b = some o → H b = none → (hidT s₁.heap H).get? b = some o := fun e n => hidT_get e n
    have noA : ∀ {b : Addr} {o : Obj} {es : Array DictEntry} {ep : Nat}, s₁.heap.get? b = some o → o.data = .dict es ep → H b = none := fun {b o es ep} e d => by
      cases q : H b with
      | none => rfl
      | some u =>
        have e' : b = a := hA b (by rw [q]; simp)
        subst e'
        rw [ha] at e; cases e
        have d' : Data.seq vs.toArray _ = Data.dict es ep := d
        cases d'
    have nsK : ∀ {b : Addr} {m : Str → Option Value}, s₁.heap.Ns b m → (hidT s₁.heap H).Ns b m := fun {b m} ⟨o, es, ep, e, d, r⟩ => ⟨o, es, ep, base_of e (noA e d), d, r⟩
    have hKb : K.In (hidT s₁.heap H) := fun b o e => base_of (KX b o e) (by
      cases q : H b with
      | none => rfl
      | some u =>
        have e' : b = a := hA b (by rw [q]; simp)
        subst e'
        rw [hK (by rw [q]; simp)] at e; cases e)
    have hM : Mod K mg (hidT s₁.heap H) := ⟨hKb, nsK hns, ⟨mb, nsK hb, hbb⟩, let ⟨mc, h1, h2⟩ := hlim; ⟨mc, nsK h1, h2⟩⟩
    have e0 : Env0 P w K mg (hidT s₁.heap H) callerA [] s₁ H := ⟨rfl, hM, fun b o e => of_hidT e, Nat.le_of_eq (hidT_size _ _), trivial, fun b hb => absurd (show b ∈ ([] : List Addr) from hb) (by simp), hok, .of_eq hg⟩
    refine codeAny_mono ((F _ hKb (nsK hns)).run callerA [] s₁ H ⟨[.ref a], []⟩ [.ref a] [.ref a] _ _ hr e0 (hbind s₁ (.ref a)) (.cons rfl .nil) (hsp H hO hS)) fun r s' h => ?_
    cases r with
    | error e => exact (hCX H e s' h).elim
    | ok fl =>
      cases fl with
      | next => exact False.elim h
      | brk => exact False.elim h
      | cont => exact False.elim h
      | ret u =>
        obtain ⟨v, H', os, bare, un, hok', r', q⟩ := h
        have q' : v = .bl true := q
        subst q'
        obtain rfl : u = Value.bool true := r'
        refine ⟨rfl, OldK.of_keep fun b o e => ?_, os, bare⟩
        cases q : H b with
        | none => exact un.keep b o e q (by intro z; exact absurd (show b ∈ ([] : List Addr) from z) (by simp)) (by simp)
        | some u =>
          rcases hO b with z | ⟨ob, xs, z⟩
          · rw [q] at z; cases z
          · have z2 := un.frzs b ob _ z
            obtain ⟨e1, _⟩ := hok b _ z
            obtain ⟨e2, _⟩ := hok' b _ z2
            rw [e] at e1; cases e1
            exact e2
  cases hk : K.lookup a with
  | some o =>
    -- the script is one of the module's own objects
    have e := KX a o hk
    rw [ha] at e
    cases e
    refine core (fun _ => none) (fun _ => .inl rfl) (.inr ⟨_, vs.toArray, _, hk, rfl, rfl, rfl, by rw [List.size_toArray, lenV]; exact hl, by simpa using rv⟩) (fun b u z => by have z' : (none : Option HO) = some u := z; cases z') (fun b z => absurd rfl z) fun z => absurd rfl z
  | none =>
    refine core (fun b => if b = a then some (.frz { cls := .type "list", data := .seq vs.toArray } (.lst (ns.map V.int))) else none) (fun b => ?_) (.inl (.inr ⟨{ cls := .type "list", data := .seq vs.toArray }, if_pos rfl⟩)) (fun b u z => ?_) (fun b z => ?_) fun _ => hk
    · by_cases hb : b = a
      · exact .inr ⟨_, _, if_pos hb⟩
      · exact .inl (if_neg hb)
    · by_cases hb : b = a
      · have z' := (if_pos hb).symm.trans z
        cases z'
        subst hb
        exact ⟨ha, by rw [List.length_map]; exact hl, vs, _, rv, ha⟩
      · have z' := (if_neg hb).symm.trans z
        cases z'
    · by_cases hb : b = a
      · exact hb
      · exact absurd (if_neg hb) z
end L2

namespace L2
open PySem PySem.Spec PyProof.Rows

/-- the goal that k_head leaves (case hc), from the law's promise. F gives the function object fd (K's own) once, then the promise over every base -/
theorem walk_of {l : PySem.W.OpenLaw} {n k : Nat} {q : Program} {loose : List Str} {XP : (Str → Option Value) → Heap → Prop} {YP : World → Heap → Prop} {d : DefRec} {K : Params → PySem.W.Frag} {CX : World → CXT} {sp : World → Sp} {x : Str}
    (hn : l.most = some n) (hn2 : n ≤ sizeLine) (hdf : d.params.defaults = []) (hr : Room k callerA)
    (hY : ∀ (w : World) (h : Heap), YP w h → (K w.params).In h)
    (F : ∀ (w : World) (mg : Str → Option Value) (fa : Addr) (h : Heap), (K w.params).In h → h.Ns mainGlobals mg → mg d.name = some (.ref fa) →
      ∃ fd : FuncData, (∀ (s : Shared) (u : Value), BindsTo s fd ⟨[u], []⟩ [(x, u)]) ∧
        ∀ base : Heap, (K w.params).In base → base.Ns mainGlobals mg → FnOk l.prog w (K w.params) mg base (CX w) k fa fd [x] (sp w))
    (hsp : ∀ (w : World) (H : Hp) (a : Addr) (ns : List Int), ns.length ≤ n → Only H → SqL (K w.params) H a (ns.map V.int) → sp w [.ref a] H (fun v _ => v = .bl true) fun _ _ _ => False)
    (hCX : ∀ (w : World) (H : Hp) (s : Shared) (e : Value) (s' : Shared), CX w [] H s (fun _ _ _ => False) e s' → False) :
    PySem.W.WalkO q loose XP YP l.row.toRowW d [] (fun f vs => PySem.call f vs) := by
  refine Att.attach_call hn hdf fun w s₀ s₁ mg mb fa o pm cd doc a vs ns G Y ho hd hcd hmg hobj hints hlen hg => ?_
  have KX := hY w _ Y
  obtain ⟨fd, hb, hF⟩ := F w mg fa _ KX G.T.g hmg
  exact law_call KX G.T.g G.T.b G.T.builtins G.T.nolimit hg hobj hints (Nat.le_trans hlen hn2) hr hF hb (fun H hO hS => hsp w H a ns hlen hO hS) fun H e s' => hCX w H s₁ e s'
end L2

/-! SHORT WORDS over the layer: a def of the text, its body, what a loop and a test want. -/
namespace L2
open PySem PySem.Spec PyProof.Rows

/-! ### the text by places -/
def defArgs (s : Stmt) : Arguments := match s with
  | .FunctionDef _ a _ _ _ _ _ _ _ _ => a
  | _ => { posonlyargs := [], args := [], vararg := none, kwonlyargs := [], kw_defaults := [], kwarg := none, defaults := [] }
def defBody (s : Stmt) : List Stmt := match s with
  | .FunctionDef _ _ b _ _ _ _ _ _ _ => b
  | _ => []
def defScope (s : Stmt) : Scope := match s with
  | .FunctionDef _ _ _ _ _ _ sc _ _ _ => sc
  | _ => { kind := .function, names := [], isGenerator := false, isCoroutine := false }

/-! ### no exception leaves a def -/
abbrev CX0 : CXT := fun _ _ _ _ _ _ => False
abbrev E0 : XK := fun _ _ _ => False
theorem pass0 {X : Cx} : Passes CX0 X E0 := fun _ _ _ _ _ _ _ h => h.elim

/-! ### a def (or method) of the text as it stands behind the top -/
structure Fun (K : PySem.W.Frag) (x qual : Str) (st : Stmt) (f : Addr) (fd : FuncData) : Prop where
  ex : ∃ (oc : Value) (od : Option Addr) (kV doc pm : Value) (an : Option Addr) (cdv ct : Value) (osl : Array (Option Value)),
    fd = PySem.W.fnOf x qual (defArgs st) (defBody st) (defScope st) .none kV doc pm an cdv ct ∧ K.lookup f = some ⟨oc, od, .func fd, osl⟩ ∧ PySem.W.codeIn K cdv qual = true
  kp : PySem.W.keepIn K (.ref f) = true
section
variable {P : Program} {w : World} {K : PySem.W.Frag} {mg : Str → Option Value} {base : Heap}
/-- THE RULE for a def: its body as a term of rules, and the reading of that term -/
theorem Fun.ok {x qual : Str} {st : Stmt} {f : Addr} {fd : FuncData} {N ps : List Str} {k : Nat} {sp : Sp} (F : Fun K x qual st f fd) (S : FnScope N ps (defScope st)) (len : ∀ vs H Q E, sp vs H Q E → vs.length = ps.length)
    (hbody : ∀ (cdv : Value) (A : Around) (outer : List Env) (s : Shared) (H : Hp) (vs : List V) (Q : VK) (E : XK), Room k (A.deeper (envOfC qual (defScope st) s.heap.objs.size f cdv)) → sp vs H Q E →
      ∃ t, PSs (cxOf CX0 P w K mg base N qual (defScope st) f cdv A outer s H E).nox (defBody st) t ∧ t { nx := fun _ H' => Q .non H', rt := Q } (start N vs) H) : FnOk P w K mg base CX0 (k + 1) f fd ps sp := by
  obtain ⟨oc, od, kV, doc, pm, an, cdv, ct, osl, rfl, lk, hcd⟩ := F.ex
  refine fn_of lk hcd S len fun A outer s H vs Q E hr hsp => ?_
  obtain ⟨t, h, q⟩ := hbody cdv A outer s H vs Q E hr hsp
  exact ⟨t, h.nox, q⟩
/-- how its arguments bind (no defaults): h is «fun _ _ _ _ _ _ us hl => match us, hl with | [_, _], _ => rfl», one _ a parameter -/
theorem Fun.binds {x qual : Str} {st : Stmt} {f : Addr} {fd : FuncData} {ps : List Str} (F : Fun K x qual st f fd)
    (h : ∀ (kV doc pm : Value) (an : Option Addr) (cdv ct : Value) (us : List Value), us.length = ps.length → bindArgs (PySem.W.fnOf x qual (defArgs st) (defBody st) (defScope st) .none kV doc pm an cdv ct) ⟨us, []⟩ = pure (ps.zip us)) : Binds K fd ps [] := by
  obtain ⟨oc, od, kV, doc, pm, an, cdv, ct, osl, rfl, lk, hcd⟩ := F.ex
  exact .all (h kV doc pm an cdv ct)
theorem fun_mk {x qual : Str} {st : Stmt} {f : Addr} {oc : Value} {od an : Option Addr} {osl : Array (Option Value)} {kV doc pm cdv ct : Value} (l : K.lookup f = some ⟨oc, od, .func (PySem.W.fnOf x qual (defArgs st) (defBody st) (defScope st) .none kV doc pm an cdv ct), osl⟩)
    (c : PySem.W.codeIn K cdv qual = true) (k : PySem.W.keepIn K (.ref f) = true) : Fun K x qual st f (PySem.W.fnOf x qual (defArgs st) (defBody st) (defScope st) .none kV doc pm an cdv ct) := ⟨⟨oc, od, kV, doc, pm, an, cdv, ct, osl, rfl, l, c⟩, k⟩
end
theorem small1000 {n : Nat} (h : n ≤ 1000) : n < sizeLine := Nat.lt_of_le_of_lt h (by decide)

/-! ### expressions in short: the name that stands in the i-th slot -/
section
variable {X : Cx}
theorem pv (i : Nat) {x : Str} {pos : Pos} (hN : X.N[i]? = some x := by rfl) (hv : Vis X.env.scope x := by first | exact Or.inl rfl | exact Or.inr (Or.inl rfl) | exact Or.inr (Or.inr rfl)) (hd : (x == ("__debug__" : Str)) = false := by decide)
    (hcd : (x == ("__classdict__" : Str)) = false := by decide) : PE X (.Name x pos) (tVar i) := pe_var hN hv hd hcd
end

/-! ### tests -/
theorem iteF {A B : Prop} (h : B) : if false = true then A else B := by
  rw [if_neg Bool.false_ne_true]
  exact h
theorem iteT {A B : Prop} (h : A) : if true = true then A else B := by
  rw [if_pos rfl]
  exact h
theorem ite2 {c A B : Prop} [Decidable c] (h1 : c → A) (h2 : ¬ c → B) : if c then A else B := by
  by_cases h : c
  · rw [if_pos h]
    exact h1 h
  · rw [if_neg h]
    exact h2 h
theorem iteNS {c A B : Prop} [Decidable c] (hc : c) (h : B) : if (!decide c) = true then A else B := by
  rw [decide_eq_true hc]
  exact iteF h

/-! ### heaps -/
/-- all that was tracked is as it was -/
def Same (H H' : Hp) : Prop := ∀ b o, H b = some o → H' b = some o
theorem Same.refl (H : Hp) : Same H H := fun _ _ h => h
theorem Same.trans {H H1 H2 : Hp} (a : Same H H1) (b : Same H1 H2) : Same H H2 := fun c o h => b c o (a c o h)
theorem Same.free {H H' : Hp} (e : Same H H') {l : Addr} (h : H' l = Option.none) : H l = Option.none := by
  cases q : H l with
  | none => rfl
  | some o =>
    rw [e l o q] at h
    cases h
theorem Same.seq {K : PySem.W.Frag} {H H' : Hp} {a : Addr} {xs : List V} (e : Same H H') (h : SqL K H a xs) : SqL K H' a xs := by
  rcases h with (h | ⟨o, h⟩) | h
  · exact .inl (.inl (e _ _ h))
  · exact .inl (.inr ⟨o, e _ _ h⟩)
  · exact .inr h

end L2

set_option Elab.async false
set_option linter.all false
set_option maxRecDepth 100000
namespace L2
open PySem PySem.Spec PyProof.Rows

section
variable {X : Cx}
theorem log2_lt_of {n k : Nat} (hk : 0 < k) (h : n < 2 ^ k) : n.log2 < k := by
  rcases Nat.eq_zero_or_pos n with h0 | hp
  · rw [h0]; simpa using hk
  · exact (Nat.log2_lt (Nat.ne_of_gt hp)).mpr h
/-! isinstance with a built-in class -/
theorem call_isinst : CallR X (.builtin "isinstance") (fun xs H Q => ∃ x T t b, xs = [x, .ty T] ∧ TyOf X.K H x t ∧ PySem.W.kitOne X.K t (.type T) = some b ∧ Q (.bl b) H) := by
  intro pins s σ H xs us Q I r h
  obtain ⟨x, T, t, b, rfl, ty, e, q⟩ := h
  obtain ⟨u, u2, rfl, rx, r2⟩ := vals2 r
  obtain rfl : u2 = Value.type T := r2
  exact isinst_ok I rx ty e fun tk => ⟨.bl b, H, I.tok tk, rfl, q⟩

/-! the answers of isinstance, whatever the fragment -/
theorem kit_int_int (K : PySem.W.Frag) : PySem.W.kitOne K (.type "int") (.type "int") = some true := by with_unfolding_all rfl
theorem kit_int_str (K : PySem.W.Frag) : PySem.W.kitOne K (.type "int") (.type "str") = some false := by with_unfolding_all rfl
theorem kit_int_bool (K : PySem.W.Frag) : PySem.W.kitOne K (.type "int") (.type "bool") = some false := by with_unfolding_all rfl
theorem kit_int_tuple (K : PySem.W.Frag) : PySem.W.kitOne K (.type "int") (.type "tuple") = some false := by with_unfolding_all rfl
theorem kit_str_str (K : PySem.W.Frag) : PySem.W.kitOne K (.type "str") (.type "str") = some true := by with_unfolding_all rfl
theorem kit_str_tuple (K : PySem.W.Frag) : PySem.W.kitOne K (.type "str") (.type "tuple") = some false := by with_unfolding_all rfl
theorem kit_tup_int (K : PySem.W.Frag) : PySem.W.kitOne K (.type "tuple") (.type "int") = some false := by with_unfolding_all rfl
theorem kit_tup_str (K : PySem.W.Frag) : PySem.W.kitOne K (.type "tuple") (.type "str") = some false := by with_unfolding_all rfl
theorem kit_tup_tup (K : PySem.W.Frag) : PySem.W.kitOne K (.type "tuple") (.type "tuple") = some true := by with_unfolding_all rfl
/-! sum of a list of ints -/
theorem call_sum (hc : X.calm = true) : CallR X (.builtin "sum") (fun xs H Q => ∃ (p : Addr) (ns : List Int), xs = [.ref p] ∧ SqL X.K H p (ns.map V.int) ∧ Q (.int ns.sum) H) := by
  intro pins s σ H xs us Q I r h
  obtain ⟨p, ns, rfl, hS, q⟩ := h
  obtain ⟨u, rfl, rx⟩ := vals1 r
  obtain rfl : u = Value.ref p := rx
  obtain ⟨its, rv, pl, hz⟩ := I.list hS
  have hi := intsAre_of rv
  obtain ⟨xs, e⟩ := hi.allInts.items
  have e2 : (xs.toList.map (·.1)) = ns := by
    rw [← nums_intItems, ← e]
    exact hi.numsOf
  refine sum_intListG (xs := xs) (I.ok.hd hc) (by rw [← e]; exact pl.isList) fun h' tk t' hk => ⟨.int ns.sum, H, I.kept hk, ⟨t', ?_⟩, q⟩
  rw [preSum_eq, List.take_of_length_le (by simp), e2]

/-! xs[::-1] -/
/-! an item of a dict of the file's top, by a text -/
def TopDict (w : World) (K : PySem.W.Frag) (a : Addr) : Prop := ∃ es n, K.lookup a = some ⟨.type "dict", none, .dict es n, #[]⟩ ∧ PySem.W.KeysLit w.params es.toList
/-! a call of what a local name holds: one of a family of defs -/
end
end L2

set_option Elab.async false
set_option linter.all false
set_option maxRecDepth 100000
namespace L2
open PySem PySem.Spec PyProof.Rows

theorem bt_len : bootBuiltins "len" = some (.builtin "len") := by decide +kernel
theorem bt_sum : bootBuiltins "sum" = some (.builtin "sum") := by decide +kernel
theorem bt_isinstance : bootBuiltins "isinstance" = some (.builtin "isinstance") := by decide +kernel
theorem bt_int : bootBuiltins "int" = some (.type "int") := by decide +kernel
theorem bt_str : bootBuiltins "str" = some (.type "str") := by decide +kernel
theorem bt_bool : bootBuiltins "bool" = some (.type "bool") := by decide +kernel
theorem bt_tuple : bootBuiltins "tuple" = some (.type "tuple") := by decide +kernel
/-! a def of the text, by its name and its promise -/
structure Def (P : Program) (w : World) (K : PySem.W.Frag) (mg : Str → Option Value) (base : Heap) (CX : CXT) (k : Nat) (x : Str) (sp : Sp) : Prop where
  ex : ∃ f fd ps, FnOk P w K mg base CX k f fd ps sp ∧ Binds K fd ps [] ∧ mg x = some (.ref f) ∧ PySem.W.keepIn K (.ref f) = true
section
variable {X : Cx} {CX : CXT} {k : Nat} {sp : Sp} {x : Str} {p pos : Pos} {e : Expr} {es : List Expr} {t : TA}
theorem pe_def (G : Def X.prog X.w X.K X.mg X.base CX0 k x sp) (hr : Room k X.A) (ha : PA X (e :: es) t) (hg : Gl X x := by rfl) (hdb : (x == ("__debug__" : Str)) = false := by decide)
    (he : starEach (e :: es) X.env = (false, eval e X.env) :: starEach es X.env := by rfl) (hpl : (backTo pos (starEach es X.env)).any (·.1) = false := by rfl) :
    PE X (.Call (.Name x p) (e :: es) [] pos) (tCall sp [] E0 t) := by
  obtain ⟨f, fd, ps, a, b, c, d⟩ := G.ex
  exact pe_call a hr hg c d b .nil pass0 ha hdb he hpl
def rIsin (K : PySem.W.Frag) : List V → Hp → VK → Prop := fun xs H Q => match xs with
  | [x, .ty T] => ∃ t b, TyOf K H x t ∧ PySem.W.kitOne K t (.type T) = some b ∧ Q (.bl b) H
  | _ => False
theorem call_isin : CallR X (.builtin "isinstance") (rIsin X.K) := by
  intro pins s σ H xs us Q I r h
  unfold rIsin at h
  split at h
  · obtain ⟨t, b, ty, e, q⟩ := h
    exact call_isinst pins s σ H _ us Q I r ⟨_, _, t, b, rfl, ty, e, q⟩
  · exact h.elim
theorem pe_isin {T : Str} {TT : String} {a : Expr} {ta : TE} {p2 : Pos} (hm : X.mg "isinstance" = none) (hT : X.mg T = none) (hv : bootBuiltins T = some (.type TT)) (ha : PE X a ta) (hg : Gl X "isinstance" := by rfl) (hg2 : Gl X T := by rfl) (hn : T ≠ "__name__" := by decide) (hd : (T == ("__debug__" : Str)) = false := by decide)
    (he : starEach [a, .Name T p2] X.env = (false, eval a X.env) :: starEach [.Name T p2] X.env := by rfl) (hpl : (backTo pos (starEach [.Name T p2] X.env)).any (·.1) = false := by rfl) (he2 : starEach [.Name T p2] X.env = [(false, eval (.Name T p2) X.env)] := by rfl) :
    PE X (.Call (.Name "isinstance" p) [a, .Name T p2] [] pos) (fun σ H Q => ta σ H fun x H1 => ∃ t b, TyOf X.K H1 x t ∧ PySem.W.kitOne X.K t (.type TT) = some b ∧ Q (.bl b) H1) :=
  pe_callB call_isin hg hm bt_isinstance (pa_cons ha (pa_cons (pe_bltn (v := .ty TT) hg2 hT hv rfl hn hd) pa_nil he2) he) (by decide) (by decide) he hpl
end
end L2

set_option Elab.async false
set_option linter.all false
set_option maxRecDepth 100000
set_option maxHeartbeats 4000000
namespace L2
open PySem PySem.Spec PyProof.Rows

/-! ### a list comprehension with one clause: its block is a context of its own -/
def closes (cells : List (Str × Addr)) : List (Str × NameKind) → List (Str × Addr) → Option (List (Str × Addr))
  | [], acc => some acc
  | (n, k) :: r, acc => if (k == .free) = true then (match cells.lookup n with
    | some a => closes cells r ((n, a) :: acc)
    | none => none) else closes cells r acc
theorem closureFor_of {scope : Scope} {env : Env} {cl : List (Str × Addr)} (h : closes env.cells scope.names [] = some cl) : closureFor scope env = pure cl := by
  have gen : ∀ (l : List (Str × NameKind)) (acc cl : List (Str × Addr)), closes env.cells l acc = some cl →
      (forIn (m := Sem) l acc fun (x : Str × NameKind) (cs : List (Str × Addr)) => if (x.2 == .free) = true then (do let c ← cellOf env x.1; pure (ForInStep.yield ((x.1, c) :: cs))) else pure (ForInStep.yield cs)) = pure cl := by
    intro l
    induction l with
    | nil => intro acc cl h; cases h; rfl
    | cons y r ih =>
      intro acc cl h
      obtain ⟨n, k⟩ := y
      unfold closes at h
      rw [List.forIn_cons]
      by_cases hk : (k == .free) = true
      · rw [if_pos hk] at h
        dsimp only
        rw [if_pos hk]
        cases e : env.cells.lookup n with
        | none => rw [e] at h; cases h
        | some a =>
          rw [e] at h
          have ec : cellOf env n = pure a := by unfold cellOf; rw [e]
          rw [ec, pure_bind, pure_bind]
          exact ih _ _ h
      · rw [if_neg hk] at h
        dsimp only
        rw [if_neg hk, pure_bind]
        exact ih _ _ h
  unfold closureFor
  exact (bind_pure _).trans (gen scope.names [] cl h)
theorem closes_mem {cells : List (Str × Addr)} : ∀ {l : List (Str × NameKind)} {acc cl : List (Str × Addr)}, closes cells l acc = some cl → (∀ p ∈ acc, cells.lookup p.1 = some p.2) → ∀ p ∈ cl, cells.lookup p.1 = some p.2
  | [], acc, cl, h, ha => by cases h; exact ha
  | (n, k) :: r, acc, cl, h, ha => by
    unfold closes at h
    split at h
    · cases e : cells.lookup n with
      | none => rw [e] at h; cases h
      | some a =>
        rw [e] at h
        refine closes_mem h fun p hp => ?_
        rcases List.mem_cons.mp hp with q | q
        · subst q; exact e
        · exact ha p q
    · exact closes_mem h ha
theorem closes_has {cells : List (Str × Addr)} {x : Str} : ∀ {l : List (Str × NameKind)} {acc cl : List (Str × Addr)}, closes cells l acc = some cl → ((x, NameKind.free) ∈ l ∨ ∃ c, (x, c) ∈ acc) → ∃ c, (x, c) ∈ cl
  | [], acc, cl, h, hx => by
    cases h
    rcases hx with q | q
    · cases q
    · exact q
  | (n, k) :: r, acc, cl, h, hx => by
    unfold closes at h
    split at h
    · cases e : cells.lookup n with
      | none => rw [e] at h; cases h
      | some a =>
        rw [e] at h
        refine closes_has h ?_
        rcases hx with q | ⟨c, q⟩
        · rcases List.mem_cons.mp q with z | z
          · cases z; exact .inr ⟨a, List.mem_cons_self⟩
          · exact .inl z
        · exact .inr ⟨c, List.mem_cons_of_mem _ q⟩
    · rename_i hk
      refine closes_has h ?_
      rcases hx with q | q
      · rcases List.mem_cons.mp q with z | z
        · cases z; exact absurd rfl hk
        · exact .inl z
      · exact .inr q
theorem lookup_of_mem {α : Type} {x : Str} {c : α} : ∀ {l : List (Str × α)}, (x, c) ∈ l → ∃ d, l.lookup x = some d ∧ (x, d) ∈ l
  | (n, a) :: r, h => by
    rw [List.lookup_cons]
    by_cases e : (x == n) = true
    · rw [e]
      have e' : x = n := by simpa using e
      exact ⟨a, rfl, by rw [e']; exact List.mem_cons_self⟩
    · have e2 : (x == n) = false := by simpa using e
      rw [e2]
      rcases List.mem_cons.mp h with z | z
      · cases z; simp at e
      · obtain ⟨d, h1, h2⟩ := lookup_of_mem z
        exact ⟨d, h1, List.mem_cons_of_mem _ h2⟩

def cxC (X : Cx) (N : List Str) (scope : Scope) (cl : List (Str × Addr)) (C : Addr) (s2 : Shared) (H2 : Hp) (fp : List Addr) : Cx where
  prog := X.prog
  w := X.w
  K := X.K
  mg := X.mg
  base := X.base
  A := X.A
  N := N
  s₀ := s2
  H₀ := H2
  env := compEnvC scope cl C X.env
  outer := X.stack
  stack := X.stack
  ex := fp
  fn := fun _ => false
  calm := X.calm
  pn := []
  xe := fun _ _ => False
/-- the values at the block's entry: none of its own names, those of the names around it -/
def compStart0 (mp : List (Option Nat)) (σ : St) : St := mp.map fun o => match o with
  | some j => (σ[j]?).bind id
  | none => none
def PTL (X : Cx) (ifs : List Expr) (t : TT) : Prop :=
  ∀ (pins : List (Addr × Obj)) (s : Shared) (σ : St) (H : Hp) (Q : Bool → Hp → Prop), Inv X pins σ H s → t σ H Q →
    wpAny (model X.prog X.w) X.A (forIn ifs true fun c r => if r = true then do let ok ← isTrue c X.env (eval c X.env); pure (ForInStep.yield ok) else pure (ForInStep.yield r)) (TP X pins σ Q) X.xe s
section
variable {prog : Program} {w : World} {A : Around} {R : Result → Shared → Prop} {s : Shared}
/-- the comprehension's loop, the step ahead of the store told too; nothing is raised -/
theorem compLoop_go {elt target iter : Expr} {ifs : List Expr} {scope : Scope} {pos : Pos} {it acc : Value} {env : Env} (I : Nat → Shared → Prop)
    (turn : ∀ n s, I n s → wpAny (model prog w) A (pyNext it) (fun r s₁ => match r with
      | none => R (.ok .next) s₁
      | some v => wpAny (model prog w) A (letOwnedTupleGo target it v) (fun _ s1 => wpAny (model prog w) A (assign target env v) (fun _ s₂ =>
          wpAny (model prog w) A (forIn ifs true fun c r => if r = true then do let ok ← isTrue c env (eval c env); pure (ForInStep.yield ok) else pure (ForInStep.yield r)) (fun ok s₃ =>
            if ok = true then wpAny (model prog w) A (eval elt env) (fun x s₄ =>
              wpAny (model prog w) A (call (.builtin "list.append") [acc, x]) (fun _ s₅ => ∃ m, m < n ∧ I m s₅) (fun _ _ => False) s₄) (fun _ _ => False) s₃
            else ∃ m, m < n ∧ I m s₃) (fun _ _ => False) s₂) (fun _ _ => False) s1) (fun _ _ => False) s₁) (fun _ _ => False) s)
    (n : Nat) (h : I n s) :
    codeAny (model prog w) A (.compLoop (.ListComp elt [⟨target, iter, ifs, 0⟩] scope pos) 0 it acc env) R s := by
  refine codeAny_loop rfl I (fun n s hI => ?_) n h
  show wpAny _ A ((compTurn (.ListComp elt [⟨target, iter, ifs, 0⟩] scope pos) 0 it acc env).onRaise (fun x => do noteFrame x env; theTreesLotGoes x)) _ _ s
  refine wpAny_noted ?_
  rw [compTurn_list]
  refine wpAny_bind (wpAny_standAt (wpAny_bind (wpAny_mono (turn n s hI) (fun r s₁ h₁ => ?_) fun _ _ h' => h'.elim)))
  cases r with
  | none => exact wpAny_pure h₁
  | some v =>
    refine wpAny_bind (wpAny_mono h₁ (fun _ s1 h1 => wpAny_bind (wpAny_mono h1 (fun _ s₂ h₂ => wpAny_bind (wpAny_mono h₂ (fun ok s₃ h₃ => ?_) fun _ _ h' => h'.elim)) fun _ _ h' => h'.elim)) fun _ _ h' => h'.elim)
    cases ok with
    | false => exact wpAny_pure ⟨rfl, h₃⟩
    | true =>
      exact wpAny_bind (wpAny_bind (wpAny_mono h₃ (fun x s₄ h₄ => wpAny_bind (wpAny_mono h₄ (fun _ s₅ h₅ => wpAny_pure (wpAny_pure ⟨rfl, h₅⟩)) fun _ _ h' => h'.elim)) fun _ _ h' => h'.elim))
end
section
variable {X : Cx}
theorem ptl_nil : PTL X [] (fun _ H Q => Q true H) := fun pins s σ H Q I h => wpAny_tests_nil ⟨H, I, h⟩
theorem ptl_one {c : Expr} {t : TT} (h : PT X c t) : PTL X [c] t := fun pins s σ H Q I hq => wpAny_tests_one (h pins s σ H Q I hq)

/-- the reading of [elt for tg in iter if ..] -/
def tComp (mp : List (Option Nat)) (wi : TI) (g : Addr → Shared → Hp → List Addr → TG) (tt : Addr → Shared → Hp → List Addr → TT) (te : Addr → Shared → Hp → List Addr → TE) : TE := fun σ H Q => wi σ H fun J H1 => ∀ (D : Addr), H1 D = none → ∀ (C : Addr) (s2 : Shared) (fp : List Addr),
  ∃ W : Nat → Nat → St → Hp → Prop, (∃ m, W 0 m (compStart0 mp σ) (upd H1 D (.lst []))) ∧ ∀ i m σ2 H2, W i m σ2 H2 →
    (J.stop i H2 ∧ Q (.ref D) H2) ∨ (J.go i H2 ∧ ∃ N : St → Hp → Prop, (∀ σ' H', N σ' H' → ∃ m', m' < m ∧ W (i + 1) m' σ' H') ∧ ∀ x H', J.yld i H2 x H' → g C s2 H1 fp x σ2 H' fun σ3 H3 => tt C s2 H1 fp σ3 H3 fun b H4 =>
      if b = true then te C s2 H1 fp σ3 H4 fun y H5 => ∃ xs, H5 D = some (.lst xs) ∧ xs.length < sizeLine ∧ N σ3 (upd H5 D (.lst (xs ++ [y]))) else N σ3 H4)
end
end L2

set_option Elab.async false
set_option linter.all false
set_option maxRecDepth 100000
set_option maxHeartbeats 4000000
namespace L2
open PySem PySem.Spec PyProof.Rows

/-! ### plain data, and == of what stands in the heap -/
inductive D where
  | non
  | bl (b : Bool)
  | int (i : Int)
  | str (x : Str)
  | tup (l : List D)
  | lst (l : List D)
mutual
def D.dep : D → Nat
  | .tup l => deps l + 1
  | .lst l => deps l + 1
  | _ => 0
def deps : List D → Nat
  | [] => 0
  | d :: r => max d.dep (deps r)
end
section
variable {X : Cx} {pins : List (Addr × Obj)} {σ : St} {H : Hp} {s : Shared}
theorem deps_get : ∀ {l : List D} {j : Nat} {d : D}, l[j]? = some d → d.dep ≤ deps l
  | a :: l, 0, d, e => by cases e; unfold deps; omega
  | a :: l, j + 1, d, e => by
    have := deps_get (l := l) (j := j) (d := d) (by simpa using e)
    unfold deps; omega
/-- a list beside the empty one, whatever stands in it -/
theorem op_neNil (hA : X.A.units + 60 < cLine) : OpR X (compareOp .NotEq) (fun x y H Q => ∃ p b xs, x = .ref p ∧ y = .ref b ∧ SqL X.K H p xs ∧ SqL X.K H b [] ∧ Q (.bl (!xs.isEmpty)) H) := by
  intro pins s σ H x y u v Q I ru rv h
  obtain ⟨p, b, xs, rfl, rfl, q1, q2, q⟩ := h
  cases ru; cases rv
  obtain ⟨us, v1, p1, _⟩ := I.list q1
  obtain ⟨vs, v2, p2, _⟩ := I.list q2
  cases v2
  cases v1 with
  | nil =>
    have a := SeqAt.RcNeAt.lists (A := X.A) (e := fun _ => true) p1.isList p2.isList rfl (by omega) (fun j h1 _ => absurd h1 (by simp))
    exact a X.prog X.w X.xe _ ⟨.bl false, H, I, rfl, q⟩
  | cons r1 r2 =>
    exact SeqAt.RcNeAt.lists_lengths (A := X.A) p1.isList p2.isList (by simp) (by omega) X.prog X.w X.xe _ ⟨.bl true, H, I, rfl, q⟩
theorem op_eqNil (hA : X.A.units + 60 < cLine) : OpR X (compareOp .Eq) (fun x y H Q => ∃ p b xs, x = .ref p ∧ y = .ref b ∧ SqL X.K H p xs ∧ SqL X.K H b [] ∧ Q (.bl xs.isEmpty) H) := by
  intro pins s σ H x y u v Q I ru rv h
  obtain ⟨p, b, xs, rfl, rfl, q1, q2, q⟩ := h
  cases ru; cases rv
  obtain ⟨us, v1, p1, _⟩ := I.list q1
  obtain ⟨vs, v2, p2, _⟩ := I.list q2
  cases v2
  cases v1 with
  | nil =>
    have a := SeqAt.RcAt.lists (A := X.A) (e := fun _ => true) p1.isList p2.isList rfl (by omega) (fun j h1 _ => absurd h1 (by simp))
    exact a X.prog X.w X.xe _ ⟨.bl true, H, I, rfl, q⟩
  | cons r1 r2 =>
    exact SeqAt.RcAt.lists_lengths (A := X.A) p1.isList p2.isList (by simp) (by omega) X.prog X.w X.xe _ ⟨.bl false, H, I, rfl, q⟩
end
end L2

set_option Elab.async false
set_option linter.all false
set_option maxRecDepth 100000
set_option maxHeartbeats 4000000
namespace L2
open PySem PySem.Spec PyProof.Rows
section
variable {X : Cx} {pos : Pos}
/-- (a, b, ..) = a list of that length -/
def gLst (K : PySem.W.Frag) (n : Nat) (t : TGs) : TG := fun v σ H Q => ∃ a xs, v = .ref a ∧ SqL K H a xs ∧ xs.length = n ∧ t xs σ H Q
theorem pg_lst {es : List Expr} {k : Nat} {t : TGs} {n : Nat} (hc : X.calm = true) (h : PGs X es t)
    (hn : (assignEach es X.env).length = n := by rfl) (hst : (assignEach es X.env).findIdx? (·.1) = none := by rfl) : PG X (.Tuple es k pos) (gLst X.K n t) := by
  intro pins s σ H v u Q I r hw
  obtain ⟨a, xs, e1, hq, hl, hw⟩ := hw
  subst e1
  cases r
  obtain ⟨its, rv, ht, hz⟩ := I.list hq
  rw [assign_Tuple]
  refine wpAny_bind (wpAny_standAt ?_)
  unfold unpack
  rw [show (assignEach es X.env).length = its.toArray.size by simp [hn, ← hl, rv.length], hst]
  refine wpAny_bind (wpAny_holding (PySem.W.kun_itemsOf (I.ok.hd hc) ht.isList fun h' hx => ?_))
  have I1 : Inv X pins σ H { s with heap := h' } := I.kept (t' := s.toks) fun b o e => hx b o (Nat.ne_of_lt (Heap.lt_size e)) e
  exact h pins _ σ H xs _ Q I1 (by simpa using rv) hw
theorem hu60 {k : Nat} {A : Around} (hr : Room k A) : A.units + 60 < cLine := by have := hr.units; omega
/-! the names of a comprehension's block -/
def outChk (XN : List Str) (xn : List (Str × NameKind)) (N : List Str) (cn : List (Str × NameKind)) : List (Option Nat) → Nat → Bool
  | [], _ => true
  | none :: r, i => outChk XN xn N cn r (i + 1)
  | some j :: r, i => (match N[i]? with
    | some x => XN[j]? == some x && (xn.lookup x == some .cell || xn.lookup x == some .free) && cn.lookup x == some .free
    | none => false) && outChk XN xn N cn r (i + 1)
theorem outChk_ok {XN : List Str} {xn : List (Str × NameKind)} {N : List Str} {cn : List (Str × NameKind)} : ∀ {mp : List (Option Nat)} {k : Nat}, outChk XN xn N cn mp k = true → ∀ (i j : Nat), mp[i]? = some (some j) → ∃ x, N[k + i]? = some x ∧ XN[j]? = some x ∧ (xn.lookup x = some .cell ∨ xn.lookup x = some .free) ∧ cn.lookup x = some .free
  | [], k, h, i, j, e => by cases e
  | none :: r, k, h, 0, j, e => by cases e
  | none :: r, k, h, i + 1, j, e => by
    have := outChk_ok (mp := r) (k := k + 1) h i j (by simpa using e)
    rw [show k + (i + 1) = k + 1 + i by omega]; exact this
  | some m :: r, k, h, 0, j, e => by
    cases e
    unfold outChk at h
    rw [Bool.and_eq_true] at h
    have h1 := h.1
    cases en : N[k]? with
    | none => rw [en] at h1; cases h1
    | some x =>
      rw [en] at h1
      simp only [Bool.and_eq_true, Bool.or_eq_true, beq_iff_eq] at h1
      exact ⟨x, rfl, h1.1.1, h1.1.2, h1.2⟩
  | some m :: r, k, h, i + 1, j, e => by
    unfold outChk at h
    rw [Bool.and_eq_true] at h
    have := outChk_ok (mp := r) (k := k + 1) h.2 i j (by simpa using e)
    rw [show k + (i + 1) = k + 1 + i by omega]; exact this
/-- behind a turn of a comprehension; ys: what was put into the new list so far -/
def NextC (Pv : Nat → List V → St → Hp → Prop) (D : Addr) (i : Nat) : St → Hp → Prop := fun σ' H' => ∃ ys, ys.length ≤ i + 1 ∧ Pv (i + 1) ys σ' H' ∧ H' D = some (.lst ys)
theorem comp_range {lo : Int} {n : Nat} {H1 : Hp} {D : Addr} {σ0 : St} {g : TG} {tt : TT} {te : TE} {R : Hp → Prop}
    (Pv : Nat → List V → St → Hp → Prop) (h0 : Pv 0 [] σ0 (upd H1 D (.lst [])))
    (hs : ∀ i ys σ H2, i < n → ys.length ≤ i → Pv i ys σ H2 → H2 D = some (.lst ys) → g (.int (lo + i)) σ H2 fun σ3 H3 => tt σ3 H3 fun b H4 => if b = true then te σ3 H4 fun y H5 => ∃ zs, H5 D = some (.lst zs) ∧ zs.length < sizeLine ∧ NextC Pv D i σ3 (upd H5 D (.lst (zs ++ [y]))) else NextC Pv D i σ3 H4)
    (hd : ∀ ys σ H2, Pv n ys σ H2 → H2 D = some (.lst ys) → R H2) :
    ∃ W : Nat → Nat → St → Hp → Prop, (∃ m, W 0 m σ0 (upd H1 D (.lst []))) ∧ ∀ i m σ2 H2, W i m σ2 H2 →
    ((Itr lo n).stop i H2 ∧ R H2) ∨ ((Itr lo n).go i H2 ∧ ∃ N : St → Hp → Prop, (∀ σ' H', N σ' H' → ∃ m', m' < m ∧ W (i + 1) m' σ' H') ∧ ∀ x H', (Itr lo n).yld i H2 x H' → g x σ2 H' fun σ3 H3 => tt σ3 H3 fun b H4 =>
      if b = true then te σ3 H4 fun y H5 => ∃ xs, H5 D = some (.lst xs) ∧ xs.length < sizeLine ∧ N σ3 (upd H5 D (.lst (xs ++ [y]))) else N σ3 H4) := by
  refine ⟨fun i m σ H' => m = n - i ∧ i ≤ n ∧ ∃ ys, ys.length ≤ i ∧ Pv i ys σ H' ∧ H' D = some (.lst ys), ⟨n, by simp, Nat.zero_le _, [], Nat.le_refl _, h0, upd_same⟩, ?_⟩
  rintro i m σ2 H2 ⟨rfl, hi, ys, hy, p, e⟩
  by_cases hlt : i < n
  · refine .inr ⟨hlt, NextC Pv D i, fun σ' H' ⟨ys', l', p', e'⟩ => ⟨n - (i + 1), by omega, rfl, hlt, ys', l', p', e'⟩, fun x' H' y => ?_⟩
    obtain ⟨e1, y⟩ := y
    subst e1 y
    exact hs i ys σ2 _ hlt hy p e
  · have ei : i = n := by omega
    subst ei
    exact .inl ⟨Nat.le_refl _, hd ys σ2 H2 p e⟩
end
end L2

set_option Elab.async false
set_option linter.all false
set_option maxRecDepth 100000
set_option maxHeartbeats 4000000
namespace L2
open PySem PySem.Spec PyProof.Rows

/-! ### zip of two tuples -/
section
variable {prog : Program} {w : World} {A : Around} {E : Value → Shared → Prop} {s : Shared}
theorem nextT_item {ti tt : Addr} {k : Nat} {vs : Array Value} {v : Value} {Q : Value → Shared → Prop} (hp : s.heap.IsTupleIter ti tt k) (hc : s.heap.IsTuple tt vs) (hv : vs[k]? = some v)
    (hq : ∀ g, g.IsTupleIter ti tt (k + 1) → Heap.SameBut ti s.heap g → Q v { s with heap := g }) : wpAny (model prog w) A (Builtin.SmallTypes.nextOf (.ref ti)) Q E s := by
  obtain ⟨ob, e0, e1, e2⟩ := id hp
  obtain ⟨oc, c0, _, nc, c2⟩ := hc
  unfold Builtin.SmallTypes.nextOf
  refine wpAny_bind (wpAny_callSpecial?_slot (name := Str.ofString "__next__") hp.typeIs F.slot_tuple_iterator_next (wpAny_call_entry F.slot_tuple_iterator_next hp.typeIs F.entry_tuple_iterator_next ?_ (F.args_tuple_iterator_next_1 _)))
  show wpAny _ _ (field (.ref ti) 0 >>= _) _ _ s
  refine wpAny_bind (wpAny_field e0 e2 (x := .ref tt) rfl ?_)
  show wpAny _ _ (if (Value.ref tt == Value.none) = true then _ else _) _ _ s
  rw [if_neg (show ¬ ((Value.ref tt == Value.none) = true) from Bool.false_ne_true)]
  show wpAny _ _ (field (.ref ti) 1 >>= _) _ _ s
  refine wpAny_bind (wpAny_field e0 e2 (x := .int k 0) rfl ?_)
  show wpAny _ _ (seqItems? (.ref tt) >>= _) _ _ s
  refine wpAny_bind (wpAny_seqItems c0 c2 ?_)
  simp only [Int.toNat_natCast, hv]
  refine wpAny_bind (wpAny_setField e0 e2 (by simp) (wpAny_pure ⟨v, rfl, wpAny_pure (hq _ ?_ (Heap.SameBut.update ..))⟩))
  exact ⟨_, Heap.get?_update_self _ e0 (Obj.isFreed_of_fields (Obj.data_mapFields e2 _)), (Obj.cls_mapFields ..).trans e1, by rw [Obj.data_mapFields e2]; simp [rawInt]⟩
theorem nextT_stop {ti tt : Addr} {k : Nat} {vs : Array Value} {Q : Value → Shared → Prop} (hh : A.handled = none) (hp : s.heap.IsTupleIter ti tt k) (hc : s.heap.IsTuple tt vs) (hv : vs[k]? = none)
    (hE : ∀ g e, Heap.ExtBut ti s.heap g → (∃ o, g.get? e = some o ∧ o.cls = .type "StopIteration") → E (.ref e) { s with heap := g }) : wpAny (model prog w) A (Builtin.SmallTypes.nextOf (.ref ti)) Q E s := by
  obtain ⟨ob, e0, e1, e2⟩ := id hp
  obtain ⟨oc, c0, _, nc, c2⟩ := hc
  unfold Builtin.SmallTypes.nextOf
  refine wpAny_bind (wpAny_callSpecial?_slot (name := Str.ofString "__next__") hp.typeIs F.slot_tuple_iterator_next (wpAny_call_entry F.slot_tuple_iterator_next hp.typeIs F.entry_tuple_iterator_next ?_ (F.args_tuple_iterator_next_1 _)))
  show wpAny _ _ (field (.ref ti) 0 >>= _) _ _ s
  refine wpAny_bind (wpAny_field e0 e2 (x := .ref tt) rfl ?_)
  show wpAny _ _ (if (Value.ref tt == Value.none) = true then _ else _) _ _ s
  rw [if_neg (show ¬ ((Value.ref tt == Value.none) = true) from Bool.false_ne_true)]
  show wpAny _ _ (field (.ref ti) 1 >>= _) _ _ s
  refine wpAny_bind (wpAny_field e0 e2 (x := .int k 0) rfl ?_)
  show wpAny _ _ (seqItems? (.ref tt) >>= _) _ _ s
  refine wpAny_bind (wpAny_seqItems c0 c2 ?_)
  simp only [Int.toNat_natCast, hv]
  refine wpAny_bind (wpAny_rule (wpAny_bind (wpAny_setField e0 e2 (by simp) ?_)))
  show wpAny _ _ (newExc (.type "StopIteration") [] >>= _) _ _ _
  refine wpAny_bind ?_
  simp only [newExc, newTuple]
  refine wpAny_bind (wpAny_newObj_type ?_ (by size_fits))
  refine wpAny_bind (m := firstArgMember _ _) (wpAny_of_eq (a := Value.none) (by first | rfl | (simp only [firstArgMember]; done)) ?_)
  refine wpAny_newObj_type ?_ (by size_fits)
  simp only [raiseNew]
  refine wpAny_bind (wpAny_handled ?_)
  first | rw [show A.in1.handled = none from hh] | rw [hh]
  refine wpAny_bind (wpAny_pure (wpAny_throw ?_))
  exact hE _ _ (((Heap.SameBut.update ..).extBut.push _).push _) ⟨_, Heap.get?_push_size _ rfl, rfl⟩

/-- the zip's own records -/
structure ZT (h : Heap) (z ti to i j a b : Addr) (f0 : Value) (k : Nat) : Prop where
  zz : IsZip h z ti to f0
  pi : IsPair h ti (.ref i) (.ref j)
  po : ∃ x y, IsPair h to x y
  ia : h.IsTupleIter i a k
  jb : h.IsTupleIter j b k
theorem zipT_item {z ti to i j a b : Addr} {k : Nat} {xs ys : Array Value} {x y : Value} {Q : Value → Shared → Prop} (D : ZipApart z ti to i j a b) (Z : ZT s.heap z ti to i j a b .none k)
    (ha : s.heap.IsTuple a xs) (hb : s.heap.IsTuple b ys) (hx : xs[k]? = some x) (hy : ys[k]? = some y)
    (hq : ∀ g, ZT g z ti to i j a b (rawInt s.heap.objs.size) (k + 1) → IsPair g s.heap.objs.size x y → g.objs.size = s.heap.objs.size + 1 →
      (∀ c o, c ≠ z → c ≠ to → c ≠ i → c ≠ j → s.heap.get? c = some o → g.get? c = some o) → Q (.ref s.heap.objs.size) { s with heap := g }) :
    wpAny (model prog w) A (Builtin.«zip.__next__» ⟨[.ref z], []⟩) (fun fin s' => ∃ v, fin = .done (.ret v) ∧ Q v s') E s := by
  obtain ⟨Zz, Zi, ⟨u, v, Zo⟩, Za, Zb⟩ := Z
  show wpAny _ _ (field (.ref z) 2 >>= _) _ _ _
  refine wpAny_bind (wpAny_field Zz rfl (x := .bool false) rfl ?_)
  show wpAny _ _ (field (.ref z) 3 >>= _) _ _ _
  refine wpAny_bind (wpAny_field Zz rfl (x := .ref ti) rfl (wpAny_bind (wpAny_seqItems Zi rfl ?_)))
  show wpAny _ _ (Builtin.SmallTypes.ownedTupleIsFree (.ref z) >>= _) _ _ _
  refine wpAny_bind ?_
  unfold Builtin.SmallTypes.ownedTupleIsFree
  refine wpAny_bind (wpAny_field Zz rfl (x := .none) rfl (wpAny_pure ?_))
  simp only [if_true]
  refine wpAny_bind (wpAny_rule (wpAny_bind (wpAny_field Zz rfl (x := .ref to) rfl (wpAny_bind (wpAny_setField_rec Zz (by simp) fun g1 z1 b1 => ?_)))))
  replace z1 : IsZip g1 z ti to .ellipsis := z1
  refine wpAny_bind ?_
  simp only [List.zipIdx_cons, List.zipIdx_nil, List.forIn_cons, List.forIn_nil]
  refine wpAny_bind (wpAny_bind (wpAny_onRaise ?_))
  show wpAny _ _ (Builtin.SmallTypes.nextOf (.ref i) >>= _) _ _ _
  refine wpAny_bind (nextT_item (Za.extBut b1.extBut D.i1z) (ha.extBut b1.extBut D.l1z) hx fun g2 p2 b2 => wpAny_pure ?_)
  have o2 : IsPair g2 to u v := b2.extBut _ _ D.TOi1 (b1.extBut _ _ D.TOz Zo)
  refine wpAny_bind (wpAny_seqItems o2 rfl (wpAny_bind (wpAny_updateSeq_pair o2 fun g3 o3 b3 => ?_)))
  replace o3 : IsPair g3 to x v := o3
  refine wpAny_bind (wpAny_letGo (wpAny_pure (wpAny_bind (wpAny_bind (wpAny_onRaise ?_)))))
  show wpAny _ _ (Builtin.SmallTypes.nextOf (.ref j) >>= _) _ _ _
  refine wpAny_bind (nextT_item (((Zb.extBut b1.extBut D.i2z).extBut b2.extBut D.i12.symm).extBut b3.extBut D.TOi2.symm) (((hb.extBut b1.extBut D.l2z).extBut b2.extBut D.l2i1).extBut b3.extBut D.l2TO) hy fun g4 p4 b4 => wpAny_pure ?_)
  have o4 : IsPair g4 to x v := b4.extBut _ _ D.TOi2 o3
  refine wpAny_bind (wpAny_seqItems o4 rfl (wpAny_bind (wpAny_updateSeq_pair o4 fun g5 o5 b5 => ?_)))
  replace o5 : IsPair g5 to x y := o5
  refine wpAny_bind (wpAny_letGo (wpAny_pure (wpAny_pure (wpAny_bind (wpAny_seqItems o5 rfl (wpAny_bind (wpAny_newTuple ?_)))))))
  have sz : g5.objs.size = s.heap.objs.size := by rw [b5.1, b4.1, b3.1, b2.1, b1.1]
  have z5 : IsZip g5 z ti to .ellipsis := b5.extBut _ _ D.TOz.symm (b4.extBut _ _ D.i2z.symm (b3.extBut _ _ D.TOz.symm (b2.extBut _ _ D.i1z.symm z1)))
  have keep5 : ∀ c o, c ≠ z → c ≠ to → c ≠ i → c ≠ j → s.heap.get? c = some o → g5.get? c = some o := fun c o n1 n2 n3 n4 e => b5.extBut _ _ n2 (b4.extBut _ _ n4 (b3.extBut _ _ n2 (b2.extBut _ _ n3 (b1.extBut _ _ n1 e))))
  have pa5 : g5.IsTupleIter i a (k + 1) := ((p2.extBut b3.extBut D.TOi1.symm).extBut b4.extBut D.i12).extBut b5.extBut D.TOi1.symm
  have pb5 : g5.IsTupleIter j b (k + 1) := p4.extBut b5.extBut D.TOi2.symm
  have zlt : z < g5.objs.size := Heap.lt_size z5
  show wpAny _ _ (Builtin.SmallTypes.ownedTupleHandOut (.ref z) (.ref g5.objs.size) >>= _) _ _ _
  refine wpAny_bind ?_
  unfold Builtin.SmallTypes.ownedTupleHandOut
  have z6 : IsZip (g5.push { cls := .type "tuple", data := .seq #[x, y] }) z ti to .ellipsis := Heap.get?_push_of_some _ z5
  refine wpAny_bind (wpAny_setField_rec z6 (by simp) fun g7 z7 b7 => ?_)
  replace z7 : IsZip g7 z ti to (rawInt g5.objs.size) := z7
  refine wpAny_setField_rec z7 (by simp) fun g8 z8 b8 => ?_
  replace z8 : IsZip g8 z ti to (rawInt g5.objs.size) := z8
  have keep8 : ∀ c o, c ≠ z → g5.get? c = some o → g8.get? c = some o := fun c o n e => b8.extBut _ _ n (b7.extBut _ _ n (Heap.get?_push_of_some _ e))
  have new8 : IsPair g8 g5.objs.size x y := b8.extBut _ _ (Nat.ne_of_gt zlt) (b7.extBut _ _ (Nat.ne_of_gt zlt) (Heap.get?_push_size _ rfl))
  have sz8 : g8.objs.size = g5.objs.size + 1 := by rw [b8.1, b7.1, Heap.size_push]
  rw [sz] at z8 new8 sz8
  refine wpAny_pure ⟨_, rfl, ?_⟩
  show Q (.ref g5.objs.size) _
  rw [sz]
  exact hq g8 ⟨z8, keep8 _ _ D.TIz (keep5 _ _ D.TIz D.TITO D.TIi1 D.TIi2 Zi), ⟨x, y, keep8 _ _ D.TOz o5⟩, pa5.at fun o e => keep8 _ o D.i1z e, pb5.at fun o e => keep8 _ o D.i2z e⟩ new8 sz8 fun c o n1 n2 n3 n4 e => keep8 c o n1 (keep5 c o n1 n2 n3 n4 e)
theorem zipT_stop {z ti to i j a b : Addr} {k : Nat} {xs ys : Array Value} {Q : PySem.Fin → Shared → Prop} (hh : A.handled = none) (D : ZipApart z ti to i j a b) (Z : ZT s.heap z ti to i j a b .none k)
    (ha : s.heap.IsTuple a xs) (hb : s.heap.IsTuple b ys) (hend : xs[k]? = none ∨ ys[k]? = none)
    (hE : ∀ g e, (∀ c o, c ≠ z → c ≠ to → c ≠ i → c ≠ j → s.heap.get? c = some o → g.get? c = some o) → (∃ o, g.get? e = some o ∧ o.cls = .type "StopIteration") → E (.ref e) { s with heap := g }) :
    wpAny (model prog w) A (Builtin.«zip.__next__» ⟨[.ref z], []⟩) Q E s := by
  obtain ⟨Zz, Zi, ⟨u, v, Zo⟩, Za, Zb⟩ := Z
  show wpAny _ _ (field (.ref z) 2 >>= _) _ _ _
  refine wpAny_bind (wpAny_field Zz rfl (x := .bool false) rfl ?_)
  show wpAny _ _ (field (.ref z) 3 >>= _) _ _ _
  refine wpAny_bind (wpAny_field Zz rfl (x := .ref ti) rfl (wpAny_bind (wpAny_seqItems Zi rfl ?_)))
  show wpAny _ _ (Builtin.SmallTypes.ownedTupleIsFree (.ref z) >>= _) _ _ _
  refine wpAny_bind ?_
  unfold Builtin.SmallTypes.ownedTupleIsFree
  refine wpAny_bind (wpAny_field Zz rfl (x := .none) rfl (wpAny_pure ?_))
  simp only [if_true]
  refine wpAny_bind (wpAny_rule (wpAny_bind (wpAny_field Zz rfl (x := .ref to) rfl (wpAny_bind (wpAny_setField_rec Zz (by simp) fun g1 z1 b1 => ?_)))))
  replace z1 : IsZip g1 z ti to .ellipsis := z1
  refine wpAny_bind ?_
  simp only [List.zipIdx_cons, List.zipIdx_nil, List.forIn_cons, List.forIn_nil]
  refine wpAny_bind (wpAny_bind (wpAny_onRaise ?_))
  show wpAny _ _ (Builtin.SmallTypes.nextOf (.ref i) >>= _) _ _ _
  cases hx : xs[k]? with
  | none =>
    refine wpAny_bind (nextT_stop hh (Za.extBut b1.extBut D.i1z) (ha.extBut b1.extBut D.l1z) hx fun g2 e b2 ⟨oe, q1, q2⟩ => ?_)
    have z2 : IsZip g2 z ti to .ellipsis := b2 _ _ D.i1z.symm z1
    have ez : e ≠ z := fun x => by
      subst x
      rw [z2] at q1
      cases q1
      simp at q2
    exact wpAny_setField_rec z2 (by simp) fun g3 _ b3 => hE g3 e (fun c o n1 _ n3 _ x => b3.extBut _ _ n1 (b2 _ _ n3 (b1.extBut _ _ n1 x))) ⟨oe, b3.extBut _ _ ez q1, q2⟩
  | some x =>
    have hy : ys[k]? = none := hend.elim (fun h => by rw [hx] at h; cases h) id
    refine wpAny_bind (nextT_item (Za.extBut b1.extBut D.i1z) (ha.extBut b1.extBut D.l1z) hx fun g2 p2 b2 => wpAny_pure ?_)
    have o2 : IsPair g2 to u v := b2.extBut _ _ D.TOi1 (b1.extBut _ _ D.TOz Zo)
    refine wpAny_bind (wpAny_seqItems o2 rfl (wpAny_bind (wpAny_updateSeq_pair o2 fun g3 o3 b3 => wpAny_bind (wpAny_letGo (wpAny_pure (wpAny_bind (wpAny_bind (wpAny_onRaise ?_))))))))
    show wpAny _ _ (Builtin.SmallTypes.nextOf (.ref j) >>= _) _ _ _
    refine wpAny_bind (nextT_stop hh (((Zb.extBut b1.extBut D.i2z).extBut b2.extBut D.i12.symm).extBut b3.extBut D.TOi2.symm) (((hb.extBut b1.extBut D.l2z).extBut b2.extBut D.l2i1).extBut b3.extBut D.l2TO) hy fun g4 e b4 ⟨oe, q1, q2⟩ => ?_)
    have z4 : IsZip g4 z ti to .ellipsis := b4 _ _ D.i2z.symm (b3.extBut _ _ D.TOz.symm (b2.extBut _ _ D.i1z.symm z1))
    have ez : e ≠ z := fun x => by
      subst x
      rw [z4] at q1
      cases q1
      simp at q2
    exact wpAny_setField_rec z4 (by simp) fun g5 _ b5 => hE g5 e (fun c o n1 n2 n3 n4 x => b5.extBut _ _ n1 (b4 _ _ n4 (b3.extBut _ _ n2 (b2.extBut _ _ n3 (b1.extBut _ _ n1 x))))) ⟨oe, b5.extBut _ _ ez q1, q2⟩
end

/-! its making, and the loop over it -/
section
variable {prog : Program} {w : World} {A : Around} {E : Value → Shared → Prop} {s : Shared}
abbrev zt1 (h : Heap) (a : Addr) : Heap := h.push { cls := .type "tuple_iterator", data := .fields #[.ref a, .int 0 0] }
abbrev zt2 (h : Heap) (a b : Addr) : Heap := (zt1 h a).push { cls := .type "tuple_iterator", data := .fields #[.ref b, .int 0 0] }
abbrev zt3 (h : Heap) (a b : Addr) : Heap := (zt2 h a b).push { cls := .type "tuple", data := .seq #[.ref h.objs.size, .ref (zt1 h a).objs.size] }
abbrev zt4 (h : Heap) (a b : Addr) : Heap := (zt3 h a b).push { cls := .type "tuple", data := .seq #[.none, .none] }
abbrev zt5 (h : Heap) (a b : Addr) : Heap := (zt4 h a b).push { cls := .type "zip", data := .fields #[.none, .bool false, .bool false, .ref (zt2 h a b).objs.size, .ref (zt3 h a b).objs.size] }
theorem meets_zipT (a b : Addr) (xs ys : Array Value) : Meets (Builtin.«zip.__new__» ⟨[.type "zip", .ref a, .ref b], []⟩)
    (fun _ R s => s.heap.IsTuple a xs ∧ s.heap.IsTuple b ys ∧ R (.ok (.ret (.ref (zt4 s.heap a b).objs.size))) { s with heap := zt5 s.heap a b }) :=
  .of_wp fun prog w A R s h => by
    obtain ⟨hp, g, d, tk, os⟩ := s
    obtain ⟨h1, h2, h⟩ := h
    have hsub := sub_zip
    have t1 : Heap.IsTuple (Shared.heap ⟨hp, g, d, tk, os⟩) a xs := h1
    have t2 : Heap.IsTuple (Shared.heap ⟨hp.push { cls := .type "tuple_iterator", data := .fields #[.ref a, .int 0 0] }, g, d, tk, os⟩) b ys := Heap.IsTuple.push h2 _
    wp_walk using wpAny_pyIter_tuple t1, wpAny_pyIter_tuple t2
    exact ⟨_, rfl, h⟩
theorem call_zipT {a b : Addr} {xs ys : Array Value} {Q : Value → Shared → Prop} (ha : s.heap.IsTuple a xs) (hb : s.heap.IsTuple b ys)
    (h : ∀ g, ZT g (s.heap.objs.size + 4) (s.heap.objs.size + 2) (s.heap.objs.size + 3) s.heap.objs.size (s.heap.objs.size + 1) a b .none 0 → g.objs.size = s.heap.objs.size + 5 → (∀ c o, s.heap.get? c = some o → g.get? c = some o) →
      Q (.ref (s.heap.objs.size + 4)) { s with heap := g }) : wpAny (model prog w) A (call (.type "zip") [.ref a, .ref b]) Q E s := by
  refine callType_new F.called_zip (by decide) (F.typeCall_zip_2 _ _) (F.newCall_zip_2 _ _) (fun obj => F.args_object_init_3 obj _ _) F.entry_zip_new (meets_zipT a b xs ys) ⟨ha, hb, ?_⟩
  have z1 : (zt1 s.heap a).objs.size = s.heap.objs.size + 1 := Heap.size_push ..
  have z2 : (zt2 s.heap a b).objs.size = s.heap.objs.size + 2 := by rw [Heap.size_push, z1]
  have z3 : (zt3 s.heap a b).objs.size = s.heap.objs.size + 3 := by rw [Heap.size_push, z2]
  have z4 : (zt4 s.heap a b).objs.size = s.heap.objs.size + 4 := by rw [Heap.size_push, z3]
  have z5 : (zt5 s.heap a b).objs.size = s.heap.objs.size + 5 := by rw [Heap.size_push, z4]
  have g5 : (zt5 s.heap a b).get? (zt4 s.heap a b).objs.size = some _ := Heap.get?_push_size _ rfl
  have g4 : (zt5 s.heap a b).get? (zt3 s.heap a b).objs.size = some _ := Heap.get?_push_of_some _ (Heap.get?_push_size _ rfl)
  have g3 : (zt5 s.heap a b).get? (zt2 s.heap a b).objs.size = some _ := Heap.get?_push_of_some _ (Heap.get?_push_of_some _ (Heap.get?_push_size _ rfl))
  have g2 : (zt5 s.heap a b).get? (zt1 s.heap a).objs.size = some _ := Heap.get?_push_of_some _ (Heap.get?_push_of_some _ (Heap.get?_push_of_some _ (Heap.get?_push_size _ rfl)))
  have g1 : (zt5 s.heap a b).get? s.heap.objs.size = some _ := Heap.get?_push_of_some _ (Heap.get?_push_of_some _ (Heap.get?_push_of_some _ (Heap.get?_push_of_some _ (Heap.get?_push_size _ rfl))))
  show _ ∧ _
  rw [z2, z3, z4] at g5
  rw [z1, z2] at g3
  rw [z3] at g4
  rw [z1] at g2
  rw [z4]
  exact ⟨⟨_, g5, rfl⟩, h _ ⟨g5, g3, ⟨_, _, g4⟩, ⟨_, g1, rfl, rfl⟩, ⟨_, g2, rfl, rfl⟩⟩ z5 fun c o x => Heap.get?_push_of_some _ (Heap.get?_push_of_some _ (Heap.get?_push_of_some _ (Heap.get?_push_of_some _ (Heap.get?_push_of_some _ x))))⟩
end
/-- two tuples side by side, as far as the shorter goes -/
def Itz (K : PySem.W.Frag) (p q : Addr) : It :=
  ⟨fun i H => ∃ xs ys x y, SqT K H p xs ∧ SqT K H q ys ∧ xs[i]? = some x ∧ ys[i]? = some y,
   fun i H v H' => ∃ T x y, v = .ref T ∧ H T = none ∧ H' = upd H T (.tup [x, y]) ∧ ∀ xs ys, SqT K H p xs → SqT K H q ys → xs[i]? = some x ∧ ys[i]? = some y,
   fun i H => ∃ xs ys, SqT K H p xs ∧ SqT K H q ys ∧ (xs.length ≤ i ∨ ys.length ≤ i)⟩
theorem turn_zip {P : Program} {w : World} {K : PySem.W.Frag} {es : List Expr} {kk : Nat} {pos : Pos} (p q z ti to i j : Addr) (D : ZipApart z ti to i j p q) :
    Turn P w K (.Tuple es kk pos) (Itz K p q) [z, ti, to, i, j] z (fun k h => ZT h z ti to i j p q .none k) where
  mem := by simp
  obj := fun k h st b hb => by
    obtain ⟨a1, a2, ⟨u, v, a3⟩, ⟨o4, a4, c4, d4⟩, ⟨o5, a5, c5, d5⟩⟩ := st
    simp only [List.mem_cons, List.not_mem_nil, or_false] at hb
    rcases hb with rfl | rfl | rfl | rfl | rfl
    · exact ⟨_, a1, fun v e => by cases e⟩
    · exact ⟨_, a2, fun v e => by cases e⟩
    · exact ⟨_, a3, fun v e => by cases e⟩
    · exact ⟨_, a4, fun v e => by rw [d4] at e; cases e⟩
    · exact ⟨_, a5, fun v e => by rw [d5] at e; cases e⟩
  keep := fun k h h' st kp => by
    obtain ⟨a1, a2, ⟨u, v, a3⟩, a4, a5⟩ := st
    exact ⟨kp z (by simp) _ a1, kp ti (by simp) _ a2, ⟨u, v, kp to (by simp) _ a3⟩, a4.at fun o e => kp i (by simp) o e, a5.at fun o e => kp j (by simp) o e⟩
  item := by
    intro X hP hw hK hc k pins s σ H E I hf st hg
    subst hP hw hK
    obtain ⟨xs, ys, x, y, hp, hq, hx, hy⟩ := hg
    obtain ⟨us, ru, pu, _⟩ := I.tuple hp
    obtain ⟨vs, rv, pv, _⟩ := I.tuple hq
    obtain ⟨u, eu, r1⟩ := ru.get hx
    obtain ⟨v, ev, r2⟩ := rv.get hy
    have hT : s.TypeIs (.ref z) "zip" := ⟨_, st.zz, rfl⟩
    unfold pyNext
    refine wpAny_bind (wpAny_attempt (wpAny_callSpecial?_slot (name := Str.ofString "__next__") hT F.slot_zip_next (wpAny_call_entry F.slot_zip_next hT F.entry_zip_next (zipT_item D st (show s.heap.IsTuple p us.toArray from pu) (show s.heap.IsTuple q vs.toArray from pv) (by simpa using eu) (by simpa using ev) fun g Zg new sz kp => wpAny_pure ?_) (F.args_zip_next_1 _))))
    refine ⟨_, rfl, ?_⟩
    refine wpAny_letOwnedTupleGo_zip Zg.zz fun g' z' b' => ?_
    have fz := hf z (by simp)
    have fo := hf to (by simp)
    have fi := hf i (by simp)
    have fj := hf j (by simp)
    have nT : H s.heap.objs.size = none := I.hok.fresh (Nat.le_refl _)
    have kp' : ∀ c o, c ≠ z → c ≠ to → c ≠ i → c ≠ j → s.heap.get? c = some o → g'.get? c = some o := fun c o n1 n2 n3 n4 e => b'.extBut _ _ n1 (kp c o n1 n2 n3 n4 e)
    have zne : s.heap.objs.size ≠ z := Nat.ne_of_gt (Heap.lt_size st.zz)
    have new' : IsPair g' s.heap.objs.size u v := b'.extBut _ _ zne new
    have notch : ∀ b, b ∉ [z, to, i, j] → b ≠ z ∧ b ≠ to ∧ b ≠ i ∧ b ≠ j := fun b hb => by simpa using hb
    have trk : ∀ b o, H b = some o → b ≠ z ∧ b ≠ to ∧ b ≠ i ∧ b ≠ j := fun b o e => ⟨ne_of_none e fz.1, ne_of_none e fo.1, ne_of_none e fi.1, ne_of_none e fj.1⟩
    have I1 : Inv X pins σ (upd H s.heap.objs.size (.tup [x, y])) { s with heap := g' } := by
      refine I.step (g' := s.gens) (d' := s.drawn) (t' := s.toks) (ch := [z, to, i, j]) (fun b hb => ?_) (fun b o _ _ hc e _ => ?_) (fun b o _ _ hc e _ => ?_) (fun b o hc e n => ?_) (fun b o hc e => ?_) (fun b xs e => ?_) (fun b o u e => ?_) (fun b ps e => ⟨#[], ?_⟩) (fun m hm => ?_) (fun b o e => ?_) I.bare
      · simp only [List.mem_cons, List.not_mem_nil, or_false] at hb
        rcases hb with rfl | rfl | rfl | rfl
        · exact ⟨fz.2.2.2.1, fz.2.1, fz.2.2.2.2.1, fz.2.2.2.2.2⟩
        · exact ⟨fo.2.2.2.1, fo.2.1, fo.2.2.2.2.1, fo.2.2.2.2.2⟩
        · exact ⟨fi.2.2.2.1, fi.2.1, fi.2.2.2.2.1, fi.2.2.2.2.2⟩
        · exact ⟨fj.2.2.2.1, fj.2.1, fj.2.2.2.2.1, fj.2.2.2.2.2⟩
      · obtain ⟨n1, n2, n3, n4⟩ := notch b hc
        exact kp' b o n1 n2 n3 n4 e
      · obtain ⟨n1, n2, n3, n4⟩ := notch b hc
        exact ⟨o.slots, kp' b o n1 n2 n3 n4 e⟩
      · rw [upd_ne (Nat.ne_of_lt (Heap.lt_size e))]; exact n
      · obtain ⟨n1, n2, n3, n4⟩ := notch b hc
        exact ⟨o, kp' b o n1 n2 n3 n4 e⟩
      · rw [upd_ne (ne_of_none e nT)]; exact e
      · rw [upd_ne (ne_of_none e nT)]; exact e
      · rw [upd_ne (ne_of_none e nT), e]; simp
      · obtain ⟨o, es, ep, ho, r⟩ := hm
        exact ⟨o, es, ep, kp' _ o (Ne.symm fz.2.1) (Ne.symm fo.2.1) (Ne.symm fi.2.1) (Ne.symm fj.2.1) ho, r⟩
      · by_cases hb : b = s.heap.objs.size
        · subst hb
          rw [upd_same] at e
          cases e
          exact ⟨by show 2 ≤ sizeLine; rw [sizeLine_eq]; decide, [u, v], .cons r1 (.cons r2 .nil), ⟨_, new', rfl, 0, rfl⟩⟩
        · rw [upd_ne hb] at e
          refine (I.hok b o e).stay (fun c v' hcc r => ?_) (fun c r => by rw [upd_ne (ne_of_none r nT)]; exact r) fun c xs r => by rw [upd_ne (ne_of_none r nT)]; exact r
          rcases hcc with rfl | hcc
          · obtain ⟨n1, n2, n3, n4⟩ := trk c o e
            exact kp' c v' n1 n2 n3 n4 r
          · obtain ⟨n1, n2, n3, n4⟩ := trk c _ hcc
            exact kp' c v' n1 n2 n3 n4 r
    refine ⟨.ref s.heap.objs.size, _, I1, rfl, ⟨_, x, y, rfl, nT, rfl, fun xs' ys' h1 h2 => ?_⟩, ?_, fun b hb => ?_⟩
    · rw [I.tuple_inj h1 hp, I.tuple_inj h2 hq]
      exact ⟨hx, hy⟩
    · obtain ⟨a1, a2, ⟨c1, c2, a3⟩, a4, a5⟩ := Zg
      exact ⟨z', b'.extBut _ _ D.TIz a2, ⟨c1, c2, b'.extBut _ _ D.TOz a3⟩, a4.extBut b'.extBut D.i1z, a5.extBut b'.extBut D.i2z⟩
    · have hb' : ∃ o, s.heap.get? b = some o := by
        obtain ⟨a1, a2, ⟨c1, c2, a3⟩, ⟨o4, a4, _⟩, ⟨o5, a5, _⟩⟩ := st
        simp only [List.mem_cons, List.not_mem_nil, or_false] at hb
        rcases hb with rfl | rfl | rfl | rfl | rfl
        · exact ⟨_, a1⟩
        · exact ⟨_, a2⟩
        · exact ⟨_, a3⟩
        · exact ⟨_, a4⟩
        · exact ⟨_, a5⟩
      obtain ⟨o, e⟩ := hb'
      rw [upd_ne (Nat.ne_of_lt (Heap.lt_size e))]
      exact (hf b hb).1
  done := by
    intro X hP hw hK hc k pins s σ H E I hf st hg
    subst hP hw hK
    obtain ⟨xs, ys, hp, hq, hend⟩ := hg
    obtain ⟨us, ru, pu, _⟩ := I.tuple hp
    obtain ⟨vs, rv, pv, _⟩ := I.tuple hq
    have l1 := ru.length
    have l2 := rv.length
    have hT : s.TypeIs (.ref z) "zip" := ⟨_, st.zz, rfl⟩
    unfold pyNext
    refine wpAny_bind (wpAny_attempt (wpAny_callSpecial?_slot (name := Str.ofString "__next__") hT F.slot_zip_next (wpAny_call_entry F.slot_zip_next hT F.entry_zip_next (zipT_stop (I.ok.hd hc) D st (show s.heap.IsTuple p us.toArray from pu) (show s.heap.IsTuple q vs.toArray from pv) ?_ fun g e kp ⟨o, ho, hcl⟩ => ?_) (F.args_zip_next_1 _))))
    · rcases hend with h | h
      · exact .inl (by simp; omega)
      · exact .inr (by simp; omega)
    · refine wpAny_bind (wpAny_isInstance (T := "StopIteration") (b := true) ⟨o, ho, hcl⟩ isSubtype_stop ?_)
      refine wpAny_pure ⟨rfl, ?_⟩
      have fz := hf z (by simp)
      have fo := hf to (by simp)
      have fi := hf i (by simp)
      have fj := hf j (by simp)
      have notch : ∀ b, b ∉ [z, to, i, j] → b ≠ z ∧ b ≠ to ∧ b ≠ i ∧ b ≠ j := fun b hb => by simpa using hb
      have trk : ∀ b o, H b = some o → b ≠ z ∧ b ≠ to ∧ b ≠ i ∧ b ≠ j := fun b o e => ⟨ne_of_none e fz.1, ne_of_none e fo.1, ne_of_none e fi.1, ne_of_none e fj.1⟩
      refine I.step (g' := s.gens) (d' := s.drawn) (t' := s.toks) (ch := [z, to, i, j]) (fun b hb => ?_) (fun b o _ _ hc e _ => ?_) (fun b o _ _ hc e _ => ?_) (fun b o hc e n => n) (fun b o hc e => ?_) (fun b xs e => e) (fun b o u e => e) (fun b ps e => ⟨#[], by rw [e]; simp⟩) (fun m hm => ?_) (fun b o e => ?_) I.bare
      · simp only [List.mem_cons, List.not_mem_nil, or_false] at hb
        rcases hb with rfl | rfl | rfl | rfl
        · exact ⟨fz.2.2.2.1, fz.2.1, fz.2.2.2.2.1, fz.2.2.2.2.2⟩
        · exact ⟨fo.2.2.2.1, fo.2.1, fo.2.2.2.2.1, fo.2.2.2.2.2⟩
        · exact ⟨fi.2.2.2.1, fi.2.1, fi.2.2.2.2.1, fi.2.2.2.2.2⟩
        · exact ⟨fj.2.2.2.1, fj.2.1, fj.2.2.2.2.1, fj.2.2.2.2.2⟩
      · obtain ⟨n1, n2, n3, n4⟩ := notch b hc
        exact kp b o n1 n2 n3 n4 e
      · obtain ⟨n1, n2, n3, n4⟩ := notch b hc
        exact ⟨o.slots, kp b o n1 n2 n3 n4 e⟩
      · obtain ⟨n1, n2, n3, n4⟩ := notch b hc
        exact ⟨o, kp b o n1 n2 n3 n4 e⟩
      · obtain ⟨o, es, ep, ho, r⟩ := hm
        exact ⟨o, es, ep, kp _ o (Ne.symm fz.2.1) (Ne.symm fo.2.1) (Ne.symm fi.2.1) (Ne.symm fj.2.1) ho, r⟩
      · refine (I.hok b o e).stay (fun c v' hcc r => ?_) (fun _ r => r) fun _ _ r => r
        rcases hcc with rfl | hcc
        · obtain ⟨n1, n2, n3, n4⟩ := trk c o e
          exact kp c v' n1 n2 n3 n4 r
        · obtain ⟨n1, n2, n3, n4⟩ := trk c _ hcc
          exact kp c v' n1 n2 n3 n4 r
  self := fun _ _ _ _ _ st h => wpAny_pyIter_zip st.zz h
theorem bt_zip : bootBuiltins "zip" = some (.type "zip") := by decide +kernel
section
variable {X : Cx} {es : List Expr} {kk : Nat} {tpos : Pos}
def iZip (K : PySem.W.Frag) (ta : TA) : TI := fun σ H R => ta σ H fun vs H1 => ∃ p q, vs = [.ref p, .ref q] ∧ (∃ xs, SqT K H1 p xs) ∧ (∃ ys, SqT K H1 q ys) ∧ R (Itz K p q) H1
theorem pi_zip {a b : Expr} {ta : TA} {p pos : Pos} (hm : X.mg "zip" = none) (ha : PA X [a, b] ta) (hg : Gl X "zip" := by rfl) (hs : starEach [a, b] X.env = [(false, eval a X.env), (false, eval b X.env)] := by rfl) (hs2 : starEach [b] X.env = [(false, eval b X.env)] := by rfl) :
    PI X (.Tuple es kk tpos) (.Call (.Name "zip" p) [a, b] [] pos) (iZip X.K ta) := by
  intro pins s σ H R I h
  refine Call_ (ld_blt I hg hm bt_zip (PyProof.Rows.callWith_type1 (thn (ha pos pins s σ H _ I h) fun us s1 ⟨vs, H1, I1, r1, q1⟩ => ?_) (by rw [hs, hs2]) (by rw [hs2]; rfl)))
  obtain ⟨x, y, e, ⟨xs, hx⟩, ⟨ys, hy⟩, q⟩ := q1
  subst e
  obtain ⟨u, v, rfl, ru, rv⟩ := vals2 r1
  cases ru; cases rv
  obtain ⟨us, _, px, _⟩ := I1.tuple hx
  obtain ⟨vs, _, py, _⟩ := I1.tuple hy
  have lx : x < s1.heap.objs.size := px.lt
  have ly : y < s1.heap.objs.size := py.lt
  refine call_zipT (show s1.heap.IsTuple x us.toArray from px) (show s1.heap.IsTuple y vs.toArray from py) fun g Zg sz kp => ?_
  refine wpAny_pyIter_zip Zg.zz ?_
  refine ⟨_, _, _, _, H1, rfl, I1.kept (t' := s1.toks) kp, turn_zip x y _ _ _ _ _ (zipApart_new lx ly), Zg, fun b hb => ?_, q⟩
  have hge : s1.heap.objs.size ≤ b := by
    simp only [List.mem_cons, List.not_mem_nil, or_false] at hb
    rcases hb with rfl | rfl | rfl | rfl | rfl <;> omega
  exact I1.fpOk hge (I1.hok.fresh hge)
/-- a comprehension over two tuples side by side -/
theorem comp_zip {K : PySem.W.Frag} {p q : Addr} {xs ys : List V} {H1 : Hp} {D : Addr} {σ0 : St} {g : TG} {tt : TT} {te : TE} {R : Hp → Prop}
    (Pv : Nat → List V → St → Hp → Prop) (hl : ∀ i zs σ H2, Pv i zs σ H2 → SqT K H2 p xs ∧ SqT K H2 q ys) (hlen : xs.length = ys.length) (h0 : Pv 0 [] σ0 (upd H1 D (.lst [])))
    (hs : ∀ i T x y zs σ H2, xs[i]? = some x → ys[i]? = some y → zs.length ≤ i → Pv i zs σ H2 → H2 D = some (.lst zs) → H2 T = none → g (.ref T) σ (upd H2 T (.tup [x, y])) fun σ3 H3 => tt σ3 H3 fun b H4 => if b = true then te σ3 H4 fun y H5 => ∃ zs, H5 D = some (.lst zs) ∧ zs.length < sizeLine ∧ NextC Pv D i σ3 (upd H5 D (.lst (zs ++ [y]))) else NextC Pv D i σ3 H4)
    (hd : ∀ zs σ H2, Pv xs.length zs σ H2 → H2 D = some (.lst zs) → R H2) :
    ∃ W : Nat → Nat → St → Hp → Prop, (∃ m, W 0 m σ0 (upd H1 D (.lst []))) ∧ ∀ i m σ2 H2, W i m σ2 H2 →
    ((Itz K p q).stop i H2 ∧ R H2) ∨ ((Itz K p q).go i H2 ∧ ∃ N : St → Hp → Prop, (∀ σ' H', N σ' H' → ∃ m', m' < m ∧ W (i + 1) m' σ' H') ∧ ∀ x H', (Itz K p q).yld i H2 x H' → g x σ2 H' fun σ3 H3 => tt σ3 H3 fun b H4 =>
      if b = true then te σ3 H4 fun y H5 => ∃ xs, H5 D = some (.lst xs) ∧ xs.length < sizeLine ∧ N σ3 (upd H5 D (.lst (xs ++ [y]))) else N σ3 H4) := by
  refine ⟨fun i m σ H' => m = xs.length - i ∧ i ≤ xs.length ∧ ∃ zs, zs.length ≤ i ∧ Pv i zs σ H' ∧ H' D = some (.lst zs), ⟨xs.length, by simp, Nat.zero_le _, [], Nat.le_refl _, h0, upd_same⟩, ?_⟩
  rintro i m σ2 H2 ⟨rfl, hi, zs, hy, pv, e⟩
  obtain ⟨q1, q2⟩ := hl i zs σ2 H2 pv
  by_cases hlt : i < xs.length
  · refine .inr ⟨⟨xs, ys, xs[i], ys[i], q1, q2, by simp [hlt], by simp [hlen ▸ hlt]⟩, NextC Pv D i, fun σ' H' ⟨zs', l', p', e'⟩ => ⟨xs.length - (i + 1), by omega, rfl, hlt, zs', l', p', e'⟩, fun v H' y => ?_⟩
    obtain ⟨T, x, y, rfl, hT, rfl, hxy⟩ := y
    obtain ⟨e1, e2⟩ := hxy xs ys q1 q2
    exact hs i T x y zs σ2 H2 e1 e2 hy pv e hT
  · have ei : i = xs.length := by omega
    subst ei
    exact .inl ⟨⟨xs, ys, q1, q2, .inl (Nat.le_refl _)⟩, hd zs σ2 H2 pv e⟩
end
end L2

set_option Elab.async false
set_option linter.all false
set_option maxRecDepth 100000
set_option maxHeartbeats 4000000
namespace L2
open PySem PySem.Spec PyProof.Rows PySem.Builtin.Str

/-- the signs of a text, as numbers -/
abbrev cs (x : Str) : List Nat := x.cps.toList
theorem cs_len (x : Str) : (cs x).length = x.length := by show x.cps.toList.length = x.cps.size; simp
theorem cs_app (x y : Str) : cs (x ++ y) = cs x ++ cs y := by
  show (x.cps ++ y.cps).toList = _
  simp
theorem str_ext {x y : Str} (h : cs x = cs y) : x = y := by
  obtain ⟨a⟩ := x
  obtain ⟨b⟩ := y
  have e : a = b := Array.toList_inj.mp h
  rw [e]
def cutG {α : Type} (xs : List α) (lo hi : Option Int) : List α := (xs.drop (HT.sIx xs.length 0 lo)).take (HT.sIx xs.length xs.length hi - HT.sIx xs.length 0 lo)
theorem strIdx (lo hi : Option Int) (n : Nat) : strSliceIndices lo hi 1 n = (List.range (HT.sIx n n hi - HT.sIx n 0 lo)).map (HT.sIx n 0 lo + ·) := by
  obtain ⟨h1, h2, h3⟩ := slice_bounds lo hi n
  have e : strSliceIndices lo hi 1 n = sliceRange (sliceBounds lo hi none n).1 (sliceBounds lo hi none n).2.1 (sliceBounds lo hi none n).2.2 := rfl
  rw [e, h1, h2, h3, sliceRange_one]
theorem slice_cs (x : Str) (lo hi : Option Int) : cs (Txt.slice x lo hi) = cutG (cs x) lo hi := by
  have key : (strSliceIndices lo hi 1 x.length).filterMap (x.cps[·]?) = cutG (cs x) lo hi := by
    rw [strIdx, pick_run]
    unfold cutG
    rw [cs_len]
  unfold Txt.slice
  split
  · rename_i h
    simp only [beq_self_eq_true, Bool.true_and, beq_iff_eq] at h
    have hl : (cutG (cs x) lo hi).length = (cs x).length := by
      rw [strIdx, List.length_map, List.length_range] at h
      unfold cutG
      rw [List.length_take, List.length_drop, cs_len, h]
      have a1 := HT.sIx_le x.length 0 (Nat.zero_le _) lo
      have a2 := HT.sIx_le x.length x.length (Nat.le_refl _) hi
      omega
    have : cutG (cs x) lo hi = cs x := by
      have sub : (cutG (cs x) lo hi).Sublist (cs x) := (List.take_sublist _ _).trans (List.drop_sublist _ _)
      exact sub.eq_of_length hl
    exact this.symm
  · show ((strSliceIndices lo hi 1 x.length).filterMap (x.cps[·]?)).toArray.toList = _
    rw [key]
section
variable {X : Cx}
/-- x[lo:hi] of a text -/
def rSlS : V → Option Int → Option Int → Hp → VK → Prop := fun x lo hi H Q => ∃ z, x = .str z ∧ z.length ≤ sizeLine ∧ ∀ y : Str, cs y = cutG (cs z) lo hi → Q (.str y) H
theorem sl_str : SlR X rSlS := by
  intro pins s σ H x v vl vu lo hi sl Q I rx hs pl pu h
  obtain ⟨z, rfl, zl, q⟩ := h
  obtain ⟨t, rfl⟩ := rx
  refine ⟨"str", _, F.slot_str_getitem.lookup, typeIs_str _ _ _, ?_⟩
  obtain ⟨o, ho, hc, hd⟩ := hs
  obtain ⟨l, hl1, hl2⟩ : ∃ l : Option (Int × Tok), vl = partValue l ∧ l.map (·.1) = lo := by
    cases pl with
    | none => exact ⟨none, rfl, rfl⟩
    | int i t => exact ⟨some (i, t), rfl, rfl⟩
  obtain ⟨u, hu1, hu2⟩ : ∃ u : Option (Int × Tok), vu = partValue u ∧ u.map (·.1) = hi := by
    cases pu with
    | none => exact ⟨none, rfl, rfl⟩
    | int i t => exact ⟨some (i, t), rfl, rfl⟩
  refine wpAny_getItem_str_slice (l := l) (u := u) (st := none) ⟨o, ho, hc, by rw [hd, hl1, hu1]; rfl⟩ rfl ?_
  have e := slice_cs z lo hi
  have q' := q (Txt.slice z lo hi) e
  unfold sliceMade slicePicked
  rw [hl2, hu2]
  unfold Txt.slice at q'
  show (if ((1 : Int) == 1 && (strSliceIndices lo hi 1 z.length).length == z.length) = true then Made.val (Value.str z t) else Made.str ⟨((strSliceIndices lo hi 1 z.length).filterMap (z.cps[·]?)).toArray⟩).post (EP X pins σ Q) s
  by_cases hw : ((1 : Int) == 1 && (strSliceIndices lo hi 1 z.length).length == z.length) = true
  · rw [if_pos hw] at q' ⊢
    exact ⟨.str z, H, I, ⟨t, rfl⟩, q'⟩
  · rw [if_neg hw] at q' ⊢
    refine ⟨?_, .str _, H, I.tok _, ⟨_, rfl⟩, q'⟩
    show ((strSliceIndices lo hi 1 z.length).filterMap (z.cps[·]?)).toArray.size ≤ sizeLine
    rw [List.size_toArray]
    exact Nat.le_trans (List.length_filterMap_le _ _) (Nat.le_trans (sliceIndices_le lo hi z.length) zl)
theorem strs_of : ∀ {ys : List Str} {us : List Value}, Vals (ys.map V.str) us → StrsAre us ys
  | [], us, r => by rw [List.map_nil] at r; cases r; exact .nil
  | y :: ys, us, r => by
    rw [List.map_cons] at r
    cases r with
    | cons r1 r2 =>
      obtain ⟨t, e⟩ := r1
      subst e
      exact .cons y t (strs_of r2)
/-- sep.join(texts) -/
theorem mt_join : MtR X "str.join" (fun x xs H Q => ∃ (sep : Str) (p : Addr) (ys : List Str), x = .str sep ∧ xs = [.ref p] ∧ SqL X.K H p (ys.map V.str) ∧ (ys.map (·.length)).sum + ys.length * sep.length ≤ 16777216 ∧ Q (.str (Txt.join sep ys)) H) := by
  intro pins s σ H x xs v us Q I rx rs h
  obtain ⟨sep, p, ys, rfl, rfl, hS, hz, q⟩ := h
  obtain ⟨t, rfl⟩ := rx
  obtain ⟨u, rfl, ru⟩ := vals1 rs
  cases ru
  obtain ⟨its, rv, pl, _⟩ := I.list hS
  exact join_list pl.isList (strs_of rv) hz fun t' k => ⟨.str _, H, I.tok k, ⟨t', rfl⟩, q⟩
theorem mt_startswith : MtR X "str.startswith" (fun x xs H Q => ∃ (z y : Str), x = .str z ∧ xs = [.str y] ∧ Q (.bl (decide (0 + y.length ≤ z.length) && subAt z y 0)) H) := by
  intro pins s σ H x xs v us Q I rx rs h
  obtain ⟨z, y, rfl, rfl, q⟩ := h
  obtain ⟨t, rfl⟩ := rx
  obtain ⟨u, rfl, ⟨t2, rfl⟩⟩ := vals1 rs
  exact call_gives F.slot_str_startswith (typeIs_str _ _ _) F.entry_str_startswith (F.args_str_startswith_2 _ _) (gives_str_startswith z y t t2) ⟨.bl _, H, I, rfl, q⟩
/-- int(text) -/
theorem call_int_text : CallR X (.type "int") (fun xs H Q => ∃ (x : Str) (n : Int), xs = [.str x] ∧ PySem.intText? x = some n ∧ x.length ≤ 640 ∧ Q (.int n) H) := by
  intro pins s σ H xs us Q I r h
  obtain ⟨x, n, rfl, hn, hl, q⟩ := h
  obtain ⟨u, rfl, t, rfl⟩ := vals1 r
  exact PySem.W.KIN.call_text hn hl ⟨.int n, H, I.tok _, ⟨_, rfl⟩, q⟩
/-- one sign in a text -/
theorem op_in_one : OpR X (compareOp .In) (fun x y H Q => ∃ (c : Nat) (z : Str), x = .str ⟨#[c]⟩ ∧ y = .str z ∧ Q (.bl (decide (c ∈ cs z))) H) := by
  intro pins s σ H x y v u Q I rx ry h
  obtain ⟨c, z, rfl, rfl, q⟩ := h
  refine op_in_str pins s σ H _ _ v u Q I rx ry ⟨_, z, rfl, rfl, ?_⟩
  rw [StrLaws.found_one]
  exact q
/-- xs.index(x) of a list of flat things, where it stands -/
theorem mt_index : MtR X "list.index" (fun x xs H Q => ∃ (p : Addr) (ys : List V) (y : V) (j : Nat), x = .ref p ∧ xs = [y] ∧ SqL X.K H p ys ∧ flatV y = true ∧ ys.all flatV = true ∧ (∃ z, ys[j]? = some z ∧ eqV z y = true) ∧ (∀ (m : Nat) (z : V), m < j → ys[m]? = some z → eqV z y = false) ∧ Q (.int j) H) := by
  intro pins s σ H x xs v us Q I rx rs h
  obtain ⟨p, ys, y, j, rfl, rfl, hS, fy, fys, ⟨z, hz, ez⟩, hno, q⟩ := h
  cases rx
  obtain ⟨u, rfl, ru⟩ := vals1 rs
  obtain ⟨its, rv, pl, hzz⟩ := I.list hS
  obtain ⟨o, n, e, c, dn, d⟩ := id pl
  have hl := rv.length
  have jl : j < its.length := by have := (List.getElem?_eq_some_iff.mp hz).1; omega
  have line := line63
  have all : ∀ u' ∈ its, SeqAt.EqAt X.A.in1 s u' u (eqU y u') := mem_eqAt ru fy rv fys
  have at_ : ∀ (m : Nat) (hm : m < its.toArray.size) (z' : V), ys[m]? = some z' → eqU y its.toArray[m] = eqV z' y := by
    intro m hm z' hz'
    obtain ⟨u', hu', ru'⟩ := rv.get hz'
    have hf : flatV z' = true := List.all_eq_true.mp fys z' (List.mem_of_getElem? hz')
    have e1 : its.toArray[m] = u' := by
      have hm' : m < its.length := by simpa using hm
      have := List.getElem?_eq_getElem hm'
      rw [hu'] at this
      simpa using (Option.some.inj this).symm
    rw [e1]
    exact eqU_of ru' hf
  obtain ⟨oc, od, ot, sl⟩ := o
  simp only at c dn d
  subst c dn d
  refine call_meets F.slot_list_index ⟨_, e, rfl⟩ F.entry_list_index (F.args_list_index_2 _ _) (SeqAt.list_indexAt p its.toArray n none sl u (eqU y) j (by simpa using jl) (by omega) ?_ ?_) ⟨e, fun u' hu' => all u' (by simpa using hu'), ?_⟩
  · rw [at_ j (by simpa using jl) z hz]; exact ez
  · intro m hm hlt
    obtain ⟨z', hz'⟩ : ∃ z', ys[m]? = some z' := ⟨ys[m]'(by simp at hm; omega), List.getElem?_eq_getElem _⟩
    rw [at_ m hm z' hz']
    exact hno m z' hlt hz'
  · exact ⟨.int j, H, I.tok _, ⟨_, rfl⟩, q⟩
end
end L2

set_option Elab.async false
set_option linter.all false
set_option maxRecDepth 100000
set_option maxHeartbeats 4000000
namespace L2
open PySem PySem.Spec PyProof.Rows PySem.Builtin.Str
section
variable {prog : Program} {w : World} {A : Around} {E : Value → Shared → Prop} {s : Shared}
theorem setItem_sliceG {l b sl : Addr} {items new : Array Value} {n n2 : Nat} {vl vu : Value} {lo hi : Option Int} {a c : Nat} {Q : Unit → Shared → Prop}
    (e : s.heap.get? l = some { cls := .type "list", data := .seq items n }) (e2 : s.heap.get? b = some { cls := .type "list", data := .seq new n2 }) (hne : l ≠ b)
    (hs : s.heap.IsSliceOf sl vl vu .none) (pl : IsPart vl lo) (pu : IsPart vu hi) (hbd : sliceBounds lo hi none items.size = ((a : Int), (c : Int), 1)) (hac : a ≤ c) (hc : c ≤ items.size)
    (hsz : items.size + new.size ≤ sizeLine) (h : Q () { s with heap := s.heap.update l (Obj.mapSeq fun xs => xs.extract 0 a ++ new ++ xs.extract c xs.size) }) :
    wpAny (model prog w) A (setItem (.ref l) (.ref sl) (.ref b)) Q E s := by
  have hl : s.heap.IsList l items := PySem.IsL.isList e
  have hb : s.heap.IsList b new := PySem.IsL.isList e2
  obtain ⟨os, hos, hcs, hds⟩ := id hs
  have hTs : s.TypeIs (.ref sl) "slice" := ⟨os, hos, hcs⟩
  have hstep : ¬ ((rawPart none == rawInt 0) = true) := Bool.false_ne_true
  have hsame : Builtin.List.listSameRef (.ref l) (.ref b) = false := by
    unfold Builtin.List.listSameRef
    exact beq_eq_false_iff_ne.mpr hne
  have hmax : (max (a : Int) (c : Int)).toNat = c := by omega
  have hz' : ((fun xs : Array Value => xs.extract 0 a ++ new ++ xs.extract c xs.size) items).size ≤ sizeLine + 1 := by
    simp only [Array.size_append, Array.size_extract]
    omega
  unfold setItem
  try with_reducible refine wpAny_holding ?_
  first | refine wpAny_bind (wpAny_pure ?_) | skip
  refine wpAny_bind (wpAny_sequenceKey hl.typeIs (by decide) ?_)
  refine wpAny_bind (wpAny_callSpecial?_slot (name := Str.ofString "__setitem__") hl.typeIs slot_list_setitem
    (wpAny_call_entry slot_list_setitem hl.typeIs entry_list_setitem ?_ (args_list_setitem _ _ _)))
  show wpAny _ _ (Builtin.List.listSubscript? (.ref sl) >>= _) _ _ s
  refine wpAny_bind ?_
  unfold Builtin.List.listSubscript?
  refine wpAny_bind (wpAny_specialOf hTs slice_no_index ?_)
  simp only [Option.isNone_none, if_true]
  refine wpAny_pure ?_
  show wpAny _ _ (typeOf (.ref sl) >>= _) _ _ s
  refine wpAny_bind (wpAny_typeOf hTs ?_)
  first
    | rw [if_neg (by decide)]
    | refine PySem.W.KFB.if_not (by decide) ?_
  rw [listSliceParts_eq]
  refine wpAny_bind (wpAny_bind (wpAny_field hos hds (x := .none) rfl (wpAny_bind (wpAny_listPart .none ?_))))
  rw [if_neg hstep]
  refine wpAny_bind (wpAny_field hos hds (x := vl) rfl (wpAny_bind (wpAny_listPart pl ?_)))
  refine wpAny_bind (wpAny_field hos hds (x := vu) rfl (wpAny_bind (wpAny_listPart pu (wpAny_pure ?_))))
  first
    | simp only [hsame, Bool.false_eq_true, if_false]
    | refine PySem.W.KFB.if_not hsame ?_
    | (dsimp only
       rw [if_neg (by rw [hsame]; exact Bool.false_ne_true)])
  refine wpAny_bind (m := Builtin.List.listAllItems (.ref b) "must assign iterable to extended slice") ?_
  unfold Builtin.List.listAllItems
  refine wpAny_bind (wpAny_typeOf hb.typeIs ?_)
  first
    | refine PySem.W.KFB.if_so (by decide) ?_
    | rw [if_pos (by decide)]
    | simp only [beq_self_eq_true, Bool.true_or, if_true]
  unfold Builtin.List.listItems
  refine wpAny_bind (wpAny_seqItems e2 rfl (wpAny_pure ?_))
  refine wpAny_bind (wpAny_bind (wpAny_seqItems e rfl (wpAny_pure ?_)))
  refine wpAny_bind (wpAny_of_eq ((sliceIndices_raw lo hi none items.size (by simp)).trans (congrArg (pure : Int × Int × Int → Sem (Int × Int × Int)) hbd)) ?_)
  show wpAny _ _ (if ((1 : Int) == 1) = true then _ else _) _ _ s
  rw [if_pos (by decide)]
  refine wpAny_bind (wpAny_rule ?_)
  first
    | simp only [notLongL hsz, Bool.false_eq_true, if_false]
    | refine PySem.W.KFB.if_not (notLongL hsz) ?_
  first | refine wpAny_bind (wpAny_pure ?_) | skip
  show wpAny _ _ (updateSeq l (fun xs => xs.extract 0 ((a : Int)).toNat ++ new ++ xs.extract (max (a : Int) (c : Int)).toNat xs.size) >>= _) _ _ s
  rw [hmax, Int.toNat_natCast]
  refine wpAny_bind (wpAny_updateSeq (hz := Nat.le_trans (Nat.le_add_right _ _) hsz) (_hz' := hz') e rfl ?_)
  refine wpAny_bind (wpAny_letGo ?_)
  first
    | exact wpAny_bind (wpAny_pure (wpAny_pure ⟨.none, rfl, wpAny_pure h⟩))
    | exact wpAny_pure ⟨.none, rfl, wpAny_pure h⟩
end
section
variable {X : Cx} {pos p2 : Pos}
/-- a slice object, tracked -/
def slO (lo hi : Option Int) (sl : Addr) : HO := .ext fun h => ∃ vl vu, h.IsSliceOf sl vl vu .none ∧ IsPart vl lo ∧ IsPart vu hi
def tSlice (tl th : TO) : TE := fun σ H Q => tl σ H fun l H1 => th σ H1 fun u H2 => ∀ p, H2 p = none → Q (.ref p) (upd H2 p (slO l u p))
theorem pe_sliceO {lo hi : Option Expr} {tl th : TO} (hl : PO X lo tl) (hu : PO X hi th) : PE X (.Slice lo hi none p2) (tSlice tl th) := by
  intro pins s σ H Q I h
  refine wpAny_Slice (thn (hl pins s σ H _ I h) fun vl s2 ⟨l, H2, I2, pl, q2⟩ => thn (hu pins s2 σ H2 _ I2 q2) fun vu s3 ⟨u, H3, I3, pu, q3⟩ => ?_)
  rw [evalPart_none]
  refine wpAny_pure ?_
  refine ⟨.ref s3.heap.objs.size, _, I3.laid (t' := s3.toks) (o := slO l u s3.heap.objs.size) (fun b ob q => Heap.get?_push_of_some _ q) (Nat.le_refl _) ?_, rfl, q3 _ (I3.hok.fresh (Nat.le_refl _))⟩
  refine ⟨⟨vl, vu, Heap.IsSliceOf.new .., pl, pu⟩, ⟨_, Heap.get?_push_size _ rfl⟩, ?_⟩
  rintro h1 h2 ⟨a, b, ⟨o, e, c, d⟩, pa, pb⟩ k
  exact ⟨a, b, ⟨o, k o e, c, d⟩, pa, pb⟩
/-- xs[lo:hi] = ys -/
def rSetSl : TSet := fun o i v H Q => ∃ l b sl xs ys lo hi, o = .ref l ∧ i = .ref sl ∧ v = .ref b ∧ H l = some (.lst xs) ∧ H b = some (.lst ys) ∧ l ≠ b ∧ H sl = some (slO lo hi sl) ∧ HT.sIx xs.length 0 lo ≤ HT.sIx xs.length xs.length hi ∧ xs.length + ys.length ≤ sizeLine ∧
  Q (upd H l (.lst (xs.take (HT.sIx xs.length 0 lo) ++ ys ++ xs.drop (HT.sIx xs.length xs.length hi))))
theorem set_sl : PSet X rSetSl := by
  intro pins s σ H o i v ov iv u Q I ro ri rv h
  obtain ⟨l, b, sl, xs, ys, lo, hi, rfl, rfl, rfl, hH, hB, hne, hS, hac, hz, q⟩ := h
  cases ro; cases ri; cases rv
  obtain ⟨⟨vl, vu, hs, pl, pu⟩, _, _⟩ := (show ObjOk X.prog X.w H s.heap sl (slO lo hi sl) from I.hok sl _ hS)
  obtain ⟨z, its, n, r, hl, e⟩ := I.lstM hH
  obtain ⟨z2, its2, n2, r2, hl2, e2⟩ := I.lstM hB
  obtain ⟨b1, b2, b3⟩ := slice_bounds lo hi its.toArray.size
  have hbd : sliceBounds lo hi none its.toArray.size = (((HT.sIx xs.length 0 lo : Nat) : Int), ((HT.sIx xs.length xs.length hi : Nat) : Int), 1) := by
    have el : its.toArray.size = xs.length := by rw [List.size_toArray]; exact hl.symm
    rw [el] at b1 b2 b3 ⊢
    exact Prod.ext b1 (Prod.ext b2 b3)
  refine setItem_sliceG e e2 hne hs pl pu hbd hac (by rw [List.size_toArray, ← hl]; exact HT.sIx_le _ _ (Nat.le_refl _) hi) (by rw [List.size_toArray, List.size_toArray]; omega) ?_
  refine ⟨_, I.lset (its' := its.take (HT.sIx xs.length 0 lo) ++ its2 ++ its.drop (HT.sIx xs.length xs.length hi)) (t' := s.toks) hH e ?_ (Vals.append (Vals.append (r.take _) r2) (r.drop _)) ?_, q⟩
  · exact splice_eq its its2 _ _
  · rw [List.length_append, List.length_append, List.length_take, List.length_drop]
    omega

/-! ### range(a, b, c) that is empty -/
theorem turn_none {P : Program} {w : World} {K : PySem.W.Frag} {tg : Expr} (it : Addr) (lo c : Int) : Turn P w K tg (Itr lo 0) [it] it (fun i h => i = 0 ∧ IsRangeIter h it lo 0 c) where
  mem := by simp
  obj := fun i h st b hb => by
    have e : b = it := by simpa using hb
    subst e
    exact ⟨_, st.2, fun v z => by
      have z' : Data.fields _ = Data.cell v := z
      cases z'⟩
  keep := fun i h h' st k => ⟨st.1, k it (by simp) _ st.2⟩
  item := by
    intro X hP hw hK hc i pins s σ H E I hf st hg
    exact absurd hg (Nat.not_lt_zero i)
  done := by
    intro X hP hw hK hc i pins s σ H E I hf st hg
    subst hP hw hK
    obtain ⟨f0, f1, f2, f3, f4, f5⟩ := hf it (by simp)
    exact wpAny_pyNext_range_end (I.ok.hd hc) st.2 (by omega) fun h' eb => ⟨rfl, I.turned (t' := s.toks) (fun b o hb e => eb b o hb e) f0 f1 f3 f4 f5⟩
  self := fun _ _ _ _ _ st h => wpAny_pyIter_rangeiter st.2 h
def iRng3e (ta : TA) : TI := fun σ H R => ta σ H fun vs H1 => ∃ i j k : Int, vs = [.int i, .int j, .int k] ∧ (0 ≤ i ∧ i < 2 ^ 30 ∧ 0 ≤ j ∧ j ≤ i ∧ 0 < k ∧ k < 2 ^ 30) ∧ R (Itr i 0) H1
theorem range_none {i j k : Int} (h0 : j ≤ i) (hk : 0 < k) : Builtin.Range.rangeSize i j k = 0 := by
  unfold Builtin.Range.rangeSize
  first
    | (split <;> (try split) <;> (try omega) <;> (try (exfalso; omega)) <;> (apply Int.ediv_eq_zero_of_lt <;> omega))
    | (simp only [hk, if_true]; split <;> omega)
theorem fits_of {x : Int} (h : -(2 ^ 62) ≤ x) (h2 : x ≤ 2 ^ 62) : Builtin.Range.rangeFitsLong x = true := by
  unfold Builtin.Range.rangeFitsLong
  rw [Bool.and_eq_true]
  exact ⟨decide_eq_true (by omega), decide_eq_true (by omega)⟩
theorem pi_range3e {tg a b c : Expr} {ta : TA} {p pos : Pos} (hm : X.mg "range" = none) (ha : PA X [a, b, c] ta) (hg : Gl X "range" := by rfl) (hs : starEach [a, b, c] X.env = (false, eval a X.env) :: starEach [b, c] X.env := by rfl)
    (hpl : (backTo pos (starEach [b, c] X.env)).any (·.1) = false := by rfl) : PI X tg (.Call (.Name "range" p) [a, b, c] [] pos) (iRng3e ta) := by
  intro pins s σ H R I h
  refine Call_ (ld_blt I hg hm boot_range (PyProof.Rows.callWith_type1 (thn (ha pos pins s σ H _ I h) fun us s1 ⟨vs, H1, I1, r1, q1⟩ => ?_) hs hpl))
  obtain ⟨i, j, k, e, ⟨i0, i1, j0, ji, k0, k1⟩, q⟩ := q1
  subst e
  cases r1 with
  | cons r rr =>
    cases rr with
    | cons r' rr =>
      cases rr with
      | cons r'' rr =>
        cases rr
        obtain ⟨t, rfl⟩ := r
        obtain ⟨t', rfl⟩ := r'
        obtain ⟨t'', rfl⟩ := r''
        have hz := range_none (i := i) (j := j) (k := k) ji k0
        refine call_range_3 (by omega) ?_ (.inl (PyProof.noPylong_small (by omega)))
        refine wpAny_pyIter_range (IsRange.new ..) ?_ ?_
        · unfold Builtin.Range.small
          rw [hz, fits_of (by omega) (by omega), fits_of (by omega) (by omega), fits_of (by omega) (by omega), fits_of (by omega) (by omega)]
          rfl
        · have I2 : Inv X pins σ H1 { s1 with heap := s1.heap.push { cls := .type "range", data := .fields #[.int i t, .int j t', .int k t''] } } := I1.kept (t' := s1.toks) fun b o e => Heap.get?_push_of_some _ e
          refine ⟨_, _, _, _, H1, rfl, I2.kept (t' := s1.toks) fun b o e => Heap.get?_push_of_some _ e, turn_none (s1.heap.push { cls := .type "range", data := .fields #[.int i t, .int j t', .int k t''] }).objs.size i k, ⟨rfl, ?_⟩, fun b hb => ?_, q⟩
          · rw [hz]
            exact Heap.get?_push_size _ rfl
          · have e : b = (s1.heap.push { cls := .type "range", data := .fields #[.int i t, .int j t', .int k t''] }).objs.size := by simpa using hb
            subst e
            exact I2.fpOk (Nat.le_refl _) (I2.hok.fresh (Nat.le_refl _))

/-! ### the items of a dict of the file's top -/
def TopItems (w : World) (K : PySem.W.Frag) (a : Addr) (kvs : List (Str × V)) : Prop := ∃ es n, K.lookup a = some ⟨.type "dict", none, .dict es n, #[]⟩ ∧ PySem.W.KeysLit w.params es.toList ∧
  Paired (fun (kv : Str × V) (e : DictEntry) => (∃ t, e.key = .str kv.1 t) ∧ RelV kv.2 e.val) kvs es.toList ∧ (kvs.map (·.1)).Nodup ∧ (a == sysModules) = false
theorem pairs_of {P : Program} {w : World} : ∀ {kvs : List (Str × V)} {es : List DictEntry}, Paired (fun (kv : Str × V) (e : DictEntry) => (∃ t, e.key = .str kv.1 t) ∧ RelV kv.2 e.val) kvs es →
    ∃ vs : List (Str × Value), Pairs (strKind P w) es vs ∧ vs.map (·.1) = kvs.map (·.1) ∧ ∀ (i : Nat) (k : Str) (v : Value), vs[i]? = some (k, v) → ∃ x, kvs[i]? = some (k, x) ∧ RelV x v
  | _, _, .nil => ⟨[], .nil, rfl, fun i k v e => by cases e⟩
  | kv :: kvs, e :: es, .cons ⟨⟨t, h1⟩, h2⟩ r => by
    obtain ⟨vs, p, q, g⟩ := pairs_of (P := P) (w := w) r
    refine ⟨(kv.1, e.val) :: vs, .cons (by rw [h1]; exact strKind_is P w kv.1 t) rfl p, by rw [List.map_cons, List.map_cons, q], fun i k v hi => ?_⟩
    match i, hi with
    | 0, hi => cases hi; exact ⟨kv.2, rfl, h2⟩
    | i + 1, hi => exact g i k v (by simpa using hi)
theorem Inv.topItems {pins : List (Addr × Obj)} {σ : St} {H : Hp} {s : Shared} (I : Inv X pins σ H s) {a : Addr} {kvs : List (Str × V)} (T : TopItems X.w X.K a kvs) :
    ∃ (vs : List (Str × Value)) (ep : Nat), s.heap.DictAt (strKind X.prog X.w) a vs ep ∧ vs.length = kvs.length ∧ ∀ (i : Nat) (k : Str) (v : Value), vs[i]? = some (k, v) → ∃ x, kvs[i]? = some (k, x) ∧ RelV x v := by
  obtain ⟨es, n, hl, hk, hp, hnd, hs⟩ := T
  obtain ⟨vs, p, q, g⟩ := pairs_of (P := X.prog) (w := X.w) hp
  refine ⟨vs, n, ⟨_, es, I.kIn _ _ hl, ⟨rfl, rfl, rfl⟩, rfl, fun e he => ?_, p, by rw [q]; exact hnd⟩, by have := congrArg List.length q; simpa using this, g⟩
  obtain ⟨x, t, e1, e2⟩ := hk.all e (Array.mem_toList_iff.mpr he)
  exact ⟨x, by rw [e1]; exact strKind_is _ _ x t, e2⟩
/-- at each turn a new pair -/
def Iti (kvs : List (Str × V)) : It :=
  ⟨fun i _ => i < kvs.length, fun i H v H' => ∃ T k x, v = .ref T ∧ H T = none ∧ H' = upd H T (.tup [.str k, x]) ∧ kvs[i]? = some (k, x), fun i _ => kvs.length ≤ i⟩
theorem turn_items {P : Program} {w : World} {K : PySem.W.Frag} {es : List Expr} {kk : Nat} {tp : Pos} (d it : Addr) (kvs : List (Str × V)) (T : TopItems w K d kvs) (ep : Nat)
    (hep : ∀ es n, K.lookup d = some ⟨.type "dict", none, .dict es n, #[]⟩ → n = ep) :
    Turn P w K (.Tuple es kk tp) (Iti kvs) [it] it (fun i h => ∃ a b, IsItemIter h it d i kvs.length ep a b) where
  mem := by simp
  obj := fun i h ⟨a, b, st⟩ c hc => by
    have e : c = it := by simpa using hc
    subst e
    exact ⟨_, st, fun v z => by cases z⟩
  keep := fun i h h' ⟨a, b, st⟩ k => ⟨a, b, k it (by simp) _ st⟩
  item := by
    rintro X hP hw hK hc i pins s σ H E I hf ⟨a, b, st⟩ hg
    subst hP hw hK
    obtain ⟨vs, ep', hm, hlen, g⟩ := I.topItems T
    have eep : ep' = ep := by
      obtain ⟨es', n, hl, _⟩ := T
      obtain ⟨o, es2, e1, _, e2, _⟩ := hm
      have e3 := I.kIn _ _ hl
      rw [e1] at e3
      cases e3
      have e4 : Data.dict es' n = Data.dict es2 ep' := e2
      cases e4
      exact hep _ _ hl
    subst eep
    obtain ⟨⟨k, v⟩, hx⟩ : ∃ p, vs[i]? = some p := ⟨vs[i]'(by rw [hlen]; exact hg), List.getElem?_eq_getElem _⟩
    obtain ⟨x, hkx, rx⟩ := g i k v hx
    obtain ⟨f0, f1, f2, f3, f4, f5⟩ := hf it (by simp)
    rw [← hlen] at st
    refine wpAny_pyNext_items_item st hm hx fun key h' hkey st' new sz kp => ⟨_, rfl, ?_⟩
    refine wpAny_letOwnedTupleGo_items st' fun h2 st2 sb => ?_
    have nT : H s.heap.objs.size = none := I.hok.fresh (Nat.le_refl _)
    have il : s.heap.objs.size ≠ it := Nat.ne_of_gt (Heap.lt_size st)
    have kp2 : ∀ c o, c ≠ it → s.heap.get? c = some o → h2.get? c = some o := fun c o n e => sb.extBut c o n (kp c o n e)
    have new2 := sb.extBut _ _ il new
    obtain ⟨t, ek⟩ : ∃ t, key = Value.str k t := by
      have hkey' : Value.isStrOf k key = true := hkey
      exact Value.isStrOf_shape hkey'
    subst ek
    have I1 : Inv X pins σ H { s with heap := h2 } := I.turned (t' := s.toks) kp2 f0 f1 f3 f4 f5
    have I2 : Inv X pins σ (upd H s.heap.objs.size (.tup [.str k, x])) { s with heap := h2 } := by
      have ko : ObjOk X.prog X.w (upd H s.heap.objs.size (.tup [.str k, x])) h2 s.heap.objs.size (.tup [.str k, x]) := ⟨by show 2 ≤ sizeLine; rw [sizeLine_eq]; decide, [.str k t, v], .cons ⟨t, rfl⟩ (.cons rx .nil), ⟨_, new2, rfl, 0, rfl⟩⟩
      refine I.step (h' := h2) (g' := s.gens) (d' := s.drawn) (t' := s.toks) (ch := [it]) (fun c hc => ?_) (fun c o _ _ hc e _ => kp2 c o (by simpa using hc) e) (fun c o _ _ hc e _ => ⟨o.slots, kp2 c o (by simpa using hc) e⟩) (fun c o hc e n => ?_) (fun c o hc e => ⟨o, kp2 c o (by simpa using hc) e⟩) (fun c ys e => ?_) (fun c o u e => ?_) (fun c ps e => ⟨#[], ?_⟩) (fun m hm' => ?_) (fun c o e => ?_) I.bare
      · have e : c = it := by simpa using hc
        subst e
        exact ⟨f3, f1, f4, f5⟩
      · rw [upd_ne (Nat.ne_of_lt (Heap.lt_size e))]; exact n
      · rw [upd_ne (ne_of_none e nT)]; exact e
      · rw [upd_ne (ne_of_none e nT)]; exact e
      · rw [upd_ne (ne_of_none e nT), e]; simp
      · obtain ⟨o, es, ep, ho, r⟩ := hm'
        exact ⟨o, es, ep, kp2 _ o (Ne.symm f1) ho, r⟩
      · by_cases hb : c = s.heap.objs.size
        · subst hb
          rw [upd_same] at e
          cases e
          exact ko
        · rw [upd_ne hb] at e
          refine (I1.hok c o e).stay (fun _ _ _ r => r) (fun c' r => by rw [upd_ne (ne_of_none r nT)]; exact r) fun c' xs r => by rw [upd_ne (ne_of_none r nT)]; exact r
    rw [hlen] at st2
    exact ⟨.ref s.heap.objs.size, _, I2, rfl, ⟨_, k, x, rfl, nT, rfl, hkx⟩, ⟨_, _, st2⟩, fun c hc => by
      have e : c = it := by simpa using hc
      subst e
      rw [upd_ne (Ne.symm il)]
      exact f0⟩
  done := by
    rintro X hP hw hK hc i pins s σ H E I hf ⟨a, b, st⟩ hg
    subst hP hw hK
    obtain ⟨vs, ep', hm, hlen, g⟩ := I.topItems T
    have eep : ep' = ep := by
      obtain ⟨es', n, hl, _⟩ := T
      obtain ⟨o, es2, e1, _, e2, _⟩ := hm
      have e3 := I.kIn _ _ hl
      rw [e1] at e3
      cases e3
      have e4 : Data.dict es' n = Data.dict es2 ep' := e2
      cases e4
      exact hep _ _ hl
    subst eep
    obtain ⟨f0, f1, f2, f3, f4, f5⟩ := hf it (by simp)
    rw [← hlen] at st
    have hx : vs[i]? = none := List.getElem?_eq_none (by rw [hlen]; exact hg)
    exact wpAny_pyNext_items_end (I.ok.hd hc) st hm hx fun h' eb => ⟨rfl, I.turned (t' := s.toks) (fun c o n e => eb c o n e) f0 f1 f3 f4 f5⟩
  self := fun A i s Q E ⟨a, b, st⟩ h => by
    have hT : s.TypeIs (.ref it) "dict_itemiterator" := ⟨_, st, rfl⟩
    refine wpAny_pyIter_slot hT F.slot_dict_itemiterator_iter (wpAny_call_entry F.slot_dict_itemiterator_iter hT PySem.W.kcp_entry ?_ (F.args_dict_itemiterator_iter_1 _))
    show wpAny _ _ (ret (.ref it)) _ _ s
    exact wpAny_pure ⟨_, rfl, "dict_itemiterator", _, hT, F.slot_dict_itemiterator_next.lookup, h⟩
def iItems (kvs : List (Str × V)) : TI := fun _ H R => R (Iti kvs) H
theorem pi_items {d : Addr} {kvs : List (Str × V)} {x : Str} {p apos cpos : Pos} {es : List Expr} {kk : Nat} {tp : Pos} (hm : X.mg x = some (.ref d)) (T : TopItems X.w X.K d kvs) (hg : Gl X x := by rfl) (hd : (x == ("__debug__" : Str)) = false := by decide)
    (hbase : attributeBase (.Name x p) "items" X.env (eval (.Name x p) X.env) = eval (.Name x p) X.env := by rfl) (hline : (apos.endLine == cpos.line) = true := by rfl) :
    PI X (.Tuple es kk tp) (.Call (.Attribute (.Name x p) "items" apos) [] [] cpos) (iItems kvs) := by
  intro pins s σ H R I h
  refine wpAny_Call_method0_late hbase hline (thn (pe_glob (v := .ref d) hg hm rfl hd pins s σ H (fun v H' => v = .ref d ∧ H' = H) I ⟨rfl, rfl⟩) fun v s1 ⟨y, H1, I1, r1, ey, eH⟩ => ?_)
  subst ey eH
  cases r1
  obtain ⟨vs, ep, hmm, hlen, _⟩ := I1.topItems T
  obtain ⟨es0, n, hl, hk, hpz, hnd, hsys⟩ := id T
  obtain ⟨o, es1, e1, ex, e2, e3⟩ := id hmm
  have hT : s1.TypeIs (.ref d) "dict" := ⟨o, e1, ex.1⟩
  refine ⟨"dict", "dict.items", F.plainAttrs_dict, F.slot_dict_items, F.type_dict_items, hT, fun a e => by cases e; exact ⟨o, e1, ex.2.1⟩, ?_⟩
  refine Calls.callWith_builtin rfl (PySem.evalArgs_none ?_)
  refine call_meetsIn F.slot_dict_items hT F.entry_dict_items (F.args_dict_items_1 _) (meets_dict_items (strKind X.prog X.w) d hsys) ⟨⟨vs, o, es1, ep, e1, ex, e2, e3⟩, ?_⟩
  have I2 : Inv X pins σ H1 { s1 with heap := s1.heap.push { cls := .type "dict_items", data := .fields #[.ref d] } } := I1.kept (t' := s1.toks) fun b o e => Heap.get?_push_of_some _ e
  have hm2 : ({ s1 with heap := s1.heap.push { cls := .type "dict_items", data := .fields #[.ref d] } } : Shared).heap.DictAt (strKind X.prog X.w) d vs ep := ⟨o, es1, Heap.get?_push_of_some _ e1, ex, e2, e3⟩
  refine wpAny_pyIter_items (knd := strKind X.prog X.w) (d := d) (kvs := vs) (ep := ep) ⟨_, Heap.get?_push_size _ rfl, rfl, rfl⟩ hm2 ?_
  have hep : ∀ es n, X.K.lookup d = some ⟨.type "dict", none, .dict es n, #[]⟩ → n = ep := fun es' n' hl' => by
    have e4 := I1.kIn _ _ hl'
    rw [e1] at e4
    cases e4
    have e5 : Data.dict es' n' = Data.dict es1 ep := e2
    cases e5
    rfl
  refine ⟨_, _, _, _, H1, rfl, I2.kept (t' := s1.toks) fun b o e => Heap.get?_push_of_some _ e, turn_items d _ kvs T ep hep, ⟨.none, .none, ?_⟩, fun b hb => ?_, h⟩
  · rw [← hlen]
    exact Heap.get?_push_size _ rfl
  · have e : b = (s1.heap.push { cls := .type "dict_items", data := .fields #[.ref d] }).objs.size := by simpa using hb
    subst e
    exact I2.fpOk (Nat.le_refl _) (I2.hok.fresh (Nat.le_refl _))
theorem for_items {kvs : List (Str × V)} {g : TG} {tb : TS} {D : Ends} {σ : St} {H : Hp} (Pv : Nat → St → Hp → Prop) (h0 : Pv 0 σ H)
    (hs : ∀ i T k x σ H, kvs[i]? = some (k, x) → Pv i σ H → H T = none → g (.ref T) σ (upd H T (.tup [.str k, x])) fun σ2 H2 => tb { D with nx := Pv (i + 1), ct := Pv (i + 1), bk := D.nx } σ2 H2) (hd : ∀ σ H, Pv kvs.length σ H → D.nx σ H) :
    ∃ W : Nat → Nat → St → Hp → Prop, (∃ m, W 0 m σ H) ∧ ∀ i m σ H, W i m σ H →
      ((Iti kvs).stop i H ∧ D.nx σ H) ∨ ((Iti kvs).go i H ∧ ∃ N : St → Hp → Prop, (∀ σ' H', N σ' H' → ∃ m', m' < m ∧ W (i + 1) m' σ' H') ∧ ∀ x H', (Iti kvs).yld i H x H' → g x σ H' fun σ2 H2 => tb { D with nx := N, ct := N, bk := D.nx } σ2 H2) := by
  refine ⟨fun i m σ H => m = kvs.length - i ∧ i ≤ kvs.length ∧ Pv i σ H, ⟨kvs.length, by simp, Nat.zero_le _, h0⟩, ?_⟩
  rintro i m σ H ⟨rfl, hi, p⟩
  by_cases hlt : i < kvs.length
  · refine .inr ⟨hlt, Pv (i + 1), fun σ' H' p' => ⟨kvs.length - (i + 1), by omega, rfl, hlt, p'⟩, fun v H' y => ?_⟩
    obtain ⟨T, k, x, rfl, hT, rfl, hx⟩ := y
    exact hs i T k x σ H hx p hT
  · have e : i = kvs.length := by omega
    subst e
    exact .inl ⟨Nat.le_refl _, hd σ H p⟩
end
end L2

set_option Elab.async false
set_option linter.all false
set_option maxRecDepth 100000
set_option maxHeartbeats 4000000
namespace L2
open PySem PySem.Spec PyProof.Rows

/-! ### an exception under way -/
/-- the exception's object -/
def XAt (h : Heap) (e : Addr) (cls : Value) (dx : Option Addr) (tb : Value) : Prop := ∃ oe vs, h.get? e = some oe ∧ oe.cls = cls ∧ oe.dict = dx ∧ oe.data = .fields vs ∧ vs[1]? = some tb
/-- its newest trace entry, with the mark of the frame -/
def TbAt (h : Heap) (T : Addr) (fl : Value) : Prop := ∃ oT ts, h.get? T = some oT ∧ oT.data = .fields ts ∧ ts[3]? = some fl
section
variable {M : Model} {A : Around} {E : Value → Shared → Prop} {s : Shared}
theorem frame_not_rec {h base : Heap} {l : List Env} (hl : h.FunFrames base l) {b : Addr} (hb : b ∈ frs l) {o : Obj} (ho : h.get? b = some o) (vs : Array Value) : o.data ≠ .fields vs := by
  obtain ⟨_, o2, h2, hn⟩ := hl.mem hb
  rw [ho] at h2
  cases h2
  exact hn vs
theorem entry_new {base : Heap} {env : Env} {outer : List Env} {L e : Addr} {oe : Obj} {vs : Array Value} {hd : Value} {hn : Bool} {Q : Unit → Shared → Prop} (hfr : A.frames = some (env :: outer)) (hl : s.heap.FunFrames base (env :: outer)) (hf : env.frame = some L)
    (he : s.heap.get? e = some oe) (hdat : oe.data = .fields vs) (hsz : 1 < vs.size)
    (h : ∀ h' T, (∀ b o, s.heap.get? b = some o → b ∉ frs (env :: outer) → b ≠ e → h'.get? b = some o) → (∀ b o, s.heap.get? b = some o → b ≠ e → ∃ sl, h'.get? b = some { o with slots := sl }) → s.heap.objs.size ≤ T → T ≠ e → XAt h' e oe.cls oe.dict (.ref T) → TbAt h' T (rawInt L) →
      Q () { s with heap := h' }) :
    wpAny M A (frameOf env >>= fun a => entryPlaceOf L hn >>= fun pl => EntryCells.newEntry hd a .none (rawInt L) .none pl >>= fun b => setField (.ref e) 1 b) Q E s := by
  have ne : e ∉ frs (env :: outer) := fun z => frame_not_rec hl z he vs hdat
  refine wpAny_bind (wpAny_frameOf_fun hfr hl hf fun h1 so => wpAny_bind (wpAny_entryPlaceOf fun pl isP => ?_))
  unfold EntryCells.newEntry newFields
  refine wpAny_bind (wpAny_newObj_type ?_ (isP.sizeOk5 _ _ _ _ _))
  generalize hts : ([hd, .ref L, .none, rawInt L, .none] ++ (if pl.isEmpty then List.replicate 6 Value.none else pl)).toArray = ts
  have h3 : ts[3]? = some (rawInt L) := by rw [← hts]; simp
  have ge : h1.get? e = some oe := (so.2.1 e ne).trans he
  have lt : e < h1.objs.size := Heap.lt_size ge
  refine wpAny_setField (Heap.get?_push_of_some _ ge) hdat hsz ?_
  refine h _ h1.objs.size (fun b o hb nb nbe => ?_) (fun b o hb nbe => ?_) (Nat.le_of_eq so.1.symm) (Nat.ne_of_gt lt) ?_ ?_
  · rw [Heap.get?_update_other _ _ (Ne.symm nbe)]
    exact Heap.get?_push_of_some _ ((so.2.1 b nb).trans hb)
  · obtain ⟨sl, q⟩ := so.2.2 b o hb
    exact ⟨sl, by rw [Heap.get?_update_other _ _ (Ne.symm nbe)]; exact Heap.get?_push_of_some _ q⟩
  · have dm := Obj.data_mapFields hdat (·.setIfInBounds 1 (Value.ref h1.objs.size))
    refine ⟨_, _, Heap.get?_update_self _ (Heap.get?_push_of_some _ ge) (Obj.isFreed_of_fields dm), Obj.cls_mapFields _ _, ?_, dm, by simp [hsz]⟩
    obtain ⟨c, d, dt, sl⟩ := oe
    cases dt <;> first | rfl | cases hdat
  · exact ⟨_, ts, by rw [Heap.get?_update_other _ _ (Nat.ne_of_lt lt)]; exact Heap.get?_push_size _ rfl, rfl, h3⟩
end

/-- what may have changed: frames' slots, the records at ch -/
structure Chg (fs ch : List Addr) (h h' : Heap) : Prop where
  keep : ∀ b o, h.get? b = some o → b ∉ fs → b ∉ ch → h'.get? b = some o
  slot : ∀ b o, h.get? b = some o → b ∉ ch → ∃ sl, h'.get? b = some { o with slots := sl }
/-- new since the entry, and nobody's else -/
structure Own (X : Cx) (H : Hp) (b : Addr) : Prop where
  free : H b = none
  new : X.s₀.heap.objs.size ≤ b
  loc : b ≠ X.env.locals
  cel : ∀ x c, X.env.cells.lookup x = some c → c ≠ b
  pin : ∀ p ∈ X.pn, p.1 ≠ b
section
variable {X : Cx} {σ : St} {H : Hp} {s : Shared}
theorem Inv.chg {ch : List Addr} {h' : Heap} (I : Inv X [] σ H s) (c : Chg (frs X.stack) ch s.heap h') (hc : ∀ b ∈ ch, Own X H b) : Inv X [] σ H { s with heap := h' } := by
  refine I.call (g' := s.gens) (t' := s.toks) (d' := s.drawn) (ch := ch) (H' := H) ⟨fun b o e _ nf nc => c.keep b o e nf nc, fun b o e _ _ nc => c.slot b o e nc, fun _ _ _ n _ => n, fun b o e nc => let ⟨sl, q⟩ := c.slot b o e nc; ⟨_, q⟩, fun _ _ e => e, fun _ _ _ e => e, fun b ps e => ⟨#[], by rw [e]; simp⟩⟩ (fun b u e => ?_) I.bare fun b hb => ⟨.inr (hc b hb).new, (hc b hb).loc, (hc b hb).cel, fun p hp => (hc b hb).pin p (by simpa using hp)⟩
  refine (I.hok b u e).stay (fun c' v hh q => c.keep c' v q (fun z => ?_) fun z => ?_) (fun _ q => q) fun _ _ q => q
  · have := I.stkFree c' z
    rcases hh with rfl | hh
    · rw [this] at e; cases e
    · rw [this] at hh; cases hh
  · have := (hc c' z).free
    rcases hh with rfl | hh
    · rw [this] at e; cases e
    · rw [this] at hh; cases hh
theorem Inv.own_new (I : Inv X [] σ H s) {b : Addr} (hb : s.heap.objs.size ≤ b) : Own X H b where
  free := I.hok.fresh hb
  new := Nat.le_trans I.sz hb
  loc := Nat.ne_of_gt (Nat.lt_of_lt_of_le I.lt hb)
  cel := fun x c e z => by
    obtain ⟨v, q⟩ := I.cell x c e
    exact absurd (Nat.lt_of_lt_of_le q.lt (by rw [z]; exact hb)) (Nat.lt_irrefl _)
  pin := fun p hp z => absurd (Nat.lt_of_lt_of_le (Heap.lt_size (I.pin p (by simpa using hp)).1) (by rw [z]; exact hb)) (Nat.lt_irrefl _)
end
abbrev XS := Value → Option Addr → St → Hp → Prop
/-- an exception in this body; mk: it bears this frame's mark (tb: it has a trace) -/
def FlOk (mk : Option Bool) (fl : Value) (L : Addr) : Prop := match mk with
  | none => fl = .none ∨ fl = rawInt L
  | some true => fl = rawInt L
  | some false => fl = .none
theorem FlOk.any {mk : Option Bool} {fl : Value} {L : Addr} (h : FlOk mk fl L) : fl = .none ∨ fl = rawInt L := by
  match mk, h with
  | none, h => exact h
  | some true, h => exact .inr h
  | some false, h => exact .inl h
def XBe (X : Cx) (E : XS) (tb : Bool) (mk : Option Bool) (ev : Value) (s : Shared) : Prop := ∃ e cls dx σ H, ev = .ref e ∧ Inv X [] σ H s ∧ Own X H e ∧
  ((tb = false ∧ XAt s.heap e cls dx .none) ∨ ∃ T fl, XAt s.heap e cls dx (.ref T) ∧ Own X H T ∧ T ≠ e ∧ TbAt s.heap T fl ∧ FlOk mk fl X.env.locals) ∧ E cls dx σ H
abbrev XIn (X : Cx) (E : XS) : Value → Shared → Prop := XBe X E false none
theorem XBe.weak {X : Cx} {E : XS} {tb : Bool} {mk : Option Bool} {ev : Value} {s : Shared} (h : XBe X E tb mk ev s) : XIn X E ev s := by
  obtain ⟨e, cls, dx, σ, H, h1, h2, h3, h4, h5⟩ := h
  refine ⟨e, cls, dx, σ, H, h1, h2, h3, ?_, h5⟩
  rcases h4 with ⟨_, h4⟩ | ⟨T, fl, a, b, c, d, f⟩
  · exact .inl ⟨rfl, h4⟩
  · exact .inr ⟨T, fl, a, b, c, d, f.any⟩
section
variable {X : Cx} {E : XS} {M : Model} {A : Around} {F : Value → Shared → Prop} {s : Shared} {ev : Value} {tb : Bool} {mk : Option Bool}
theorem x_note {Q : Unit → Shared → Prop} (hA : A.frames = some X.stack) (hst : X.stack = X.env :: X.outer) (hf : X.env.frame = some X.env.locals) (h : XBe X E tb mk ev s) (hQ : ∀ s', XBe X E true (some true) ev s' → Q () s') : wpAny M A (noteFrame ev X.env) Q F s := by
  obtain ⟨e, cls, dx, σ, H, rfl, I, oe, ht, hE⟩ := h
  have fin : ∀ {s1 : Shared} {hd : Value} {ob : Obj} {vs : Array Value}, Inv X [] σ H s1 → s1.heap.get? e = some ob → ob.cls = cls → ob.dict = dx → ob.data = .fields vs → 1 < vs.size →
      wpAny M A (frameOf X.env >>= fun a => entryPlaceOf X.env.locals (hd != .none) >>= fun pl => EntryCells.newEntry hd a .none (rawInt X.env.locals) .none pl >>= fun b => setField (.ref e) 1 b) Q F s1 := by
    intro s1 hd ob vs I1 ge hcls hdx hdat hsz
    have fr := I1.stack
    rw [hst] at fr
    refine entry_new (hA.trans (by rw [hst])) fr hf ge hdat hsz fun h' T k1 k2 hT ne xa ta => ?_
    rw [hcls, hdx] at xa
    have J := I1.chg (ch := [e]) (h' := h') ⟨fun b o q nf nc => k1 b o q (by rw [← hst]; exact nf) (by simpa using nc), fun b o q nc => k2 b o q (by simpa using nc)⟩ fun b hb => by
      have : b = e := by simpa using hb
      subst this; exact oe
    exact hQ _ ⟨e, cls, dx, σ, H, rfl, J, oe, .inr ⟨T, _, xa, I1.own_new hT, ne, ta, rfl⟩, hE⟩
  unfold noteFrame
  simp only [hf]
  rcases ht with ⟨_, ob, vs, ge, hcls, hdx, hdat, h1⟩ | ⟨T, fl, ⟨ob, vs, ge, hcls, hdx, hdat, h1⟩, oT, ne, ⟨ot, ts, gT, dT, h3⟩, hfl⟩
  · refine wpAny_bind (wpAny_field ge hdat h1 ?_)
    rw [if_neg (by decide)]
    exact fin I ge hcls hdx hdat (Array.getElem?_eq_some_iff.mp h1).1
  · refine wpAny_bind (wpAny_field ge hdat h1 ?_)
    rw [if_pos (show (Value.ref T != Value.none) = true by simp)]
    refine wpAny_bind (wpAny_field gT dT h3 ?_)
    rcases hfl.any with rfl | rfl
    · rw [if_neg (show ¬ ((Value.none == rawInt X.env.locals) = true) by simp [rawInt])]
      refine wpAny_bind (wpAny_setField gT dT (Array.getElem?_eq_some_iff.mp h3).1 ?_)
      have J := I.chg (ch := [T]) (h' := s.heap.update T (Obj.mapFields (·.setIfInBounds 3 Value.none))) ⟨fun b o q _ nc => (Heap.get?_update_other _ _ (fun z => nc (by simp [z]))).trans q, fun b o q nc => ⟨o.slots, (Heap.get?_update_other _ _ (fun z => nc (by simp [z]))).trans q⟩⟩ fun b hb => by
        have : b = T := by simpa using hb
        subst this; exact oT
      exact fin J ((Heap.get?_update_other _ _ ne).trans ge) hcls hdx hdat (Array.getElem?_eq_some_iff.mp h1).1
    · rw [if_pos (show (rawInt X.env.locals == rawInt X.env.locals) = true by first | exact beq_self_eq_true _ | simp)]
      exact wpAny_pure (hQ s ⟨e, cls, dx, σ, H, rfl, I, oe, .inr ⟨T, _, ⟨ob, vs, ge, hcls, hdx, hdat, h1⟩, oT, ne, ⟨ot, ts, gT, dT, h3⟩, rfl⟩, hE⟩)
/-- the mark is set or taken away -/
theorem x_flight {Q : Unit → Shared → Prop} {fr : Option Addr} (hfr : fr = none ∨ fr = some X.env.locals) (h : XBe X E true mk ev s) (hQ : ∀ s', XBe X E true (some fr.isSome) ev s' → Q () s') : wpAny M A (setFlight ev fr) Q F s := by
  obtain ⟨e, cls, dx, σ, H, rfl, I, oe, ht, hE⟩ := h
  rcases ht with ⟨z, _⟩ | ⟨T, fl, ⟨ob, vs, ge, hcls, hdx, hdat, h1⟩, oT, ne, ⟨ot, ts, gT, dT, h3⟩, hfl⟩
  · cases z
  · have h3s := (Array.getElem?_eq_some_iff.mp h3).1
    unfold setFlight
    refine wpAny_bind (wpAny_field ge hdat h1 ?_)
    rw [if_pos (show (Value.ref T != Value.none) = true by simp)]
    refine wpAny_setField gT dT h3s (hQ _ ?_)
    generalize hx : (fr.elim Value.none fun f => rawInt f) = x
    have J := I.chg (ch := [T]) (h' := s.heap.update T (Obj.mapFields (·.setIfInBounds 3 x))) ⟨fun b o q _ nc => (Heap.get?_update_other _ _ (fun z => nc (by simp [z]))).trans q, fun b o q nc => ⟨o.slots, (Heap.get?_update_other _ _ (fun z => nc (by simp [z]))).trans q⟩⟩ fun b hb => by
      have : b = T := by simpa using hb
      subst this; exact oT
    have dm := Obj.data_mapFields dT (·.setIfInBounds 3 x)
    refine ⟨e, cls, dx, σ, H, rfl, J, oe, .inr ⟨T, x, ⟨ob, vs, (Heap.get?_update_other _ _ ne).trans ge, hcls, hdx, hdat, h1⟩, oT, ne, ⟨_, _, Heap.get?_update_self _ gT (Obj.isFreed_of_fields dm), dm, by simp [h3s]⟩, ?_⟩, hE⟩
    rcases hfr with rfl | rfl
    · exact hx.symm
    · exact hx.symm
theorem x_back {Q : Unit → Shared → Prop} (hf : X.env.frame = some X.env.locals) (h : XBe X E true mk ev s) (hQ : ∀ s', XIn X E ev s' → Q () s') :
    wpAny M A (do if (← field ev 1) == .none then unsupported "frame.own-activation:exception-without-traceback"
                  setFlight ev X.env.frame) Q F s := by
  obtain ⟨e, cls, dx, σ, H, rfl, I, oe, ht, hE⟩ := id h
  rcases ht with ⟨z, _⟩ | ⟨T, fl, ⟨ob, vs, ge, hcls, hdx, hdat, h1⟩, r⟩
  · cases z
  · refine wpAny_bind (wpAny_field ge hdat h1 ?_)
    rw [if_neg (show ¬ ((Value.ref T == Value.none) = true) by simp)]
    first
      | exact x_flight (fr := X.env.frame) (.inr hf) h fun s' q => hQ s' q.weak
      | exact wpAny_bind (wpAny_pure (x_flight (fr := X.env.frame) (.inr hf) h fun s' q => hQ s' q.weak))
/-- own loops let it through -/
theorem XBe.frames (h : XBe X E tb mk ev s) : X.A.frames = some X.stack := by
  obtain ⟨_, _, _, _, _, _, I, _⟩ := h
  exact I.ok.frames
theorem x_passes (hst : X.stack = X.env :: X.outer) (hf : X.env.frame = some X.env.locals) : PassesOwn M X.A X.env (XIn X E) := fun ev s h =>
  x_note h.frames hst hf h fun s' q => x_back hf q fun s'' z => z
end

/-! ### an exception behind a call -/
def CXF (P : Program) (w : World) : CXT := fun l H s E ev s' => ∃ e cls dx H' T, ev = .ref e ∧ s'.os = s.os ∧ AllBare s'.gens ∧ Un (frs l) [] H H' s.heap s'.heap ∧ HOk P w H' s'.heap ∧ H' e = none ∧ s.heap.objs.size ≤ e ∧
  XAt s'.heap e cls dx (.ref T) ∧ T ≠ e ∧ H' T = none ∧ s.heap.objs.size ≤ T ∧ TbAt s'.heap T .none ∧ E cls dx H'
section
variable {X : Cx} {E : XS}
theorem x_leave {EK : XK} {M : Model} {A : Around} {F : Value → Shared → Prop} {s : Shared} {ev : Value} {tb : Bool} {mk : Option Bool} (hA : A.frames = some X.stack) (hst : X.stack = X.env :: X.outer) (hf : X.env.frame = some X.env.locals) (hex : X.ex = [])
    (h : XBe X (fun cls dx _ H => EK cls dx H) tb mk ev s) : wpAny M A (leaving X.env ev) (fun _ s'' => CXF X.prog X.w X.outer X.H₀ X.s₀ EK ev s'') F s := by
  unfold leaving
  refine wpAny_bind (x_note hA hst hf h fun s1 q => x_flight (.inl rfl) q fun s2 q2 => ?_)
  obtain ⟨e, cls, dx, σ, H, rfl, I, oe, ht, hE⟩ := q2
  rcases ht with ⟨z, _⟩ | ⟨T, fl, xa, oT, ne, ta, hfl⟩
  · cases z
  · have e1 : fl = .none := hfl
    subst e1
    have b := I.base
    rw [hex] at b
    exact ⟨e, cls, dx, H, T, rfl, I.os, I.bare, b, I.hok, oe.free, oe.new, xa, ne, oT.free, oT.new, ta, hE⟩
/-- it comes out of a call -/
theorem x_come {EK : XK} {pins : List (Addr × Obj)} {σ : St} {H : Hp} {s s' : Shared} {ev : Value} (I : Inv X pins σ H s) (h : CXF X.prog X.w X.stack H s EK ev s') (hE : ∀ cls dx H', EK cls dx H' → E cls dx σ H') : XIn X E ev s' := by
  obtain ⟨e, cls, dx, H', T, rfl, os, ba, un, hok, he, le, xa, ne, hT, lT, ta, q⟩ := h
  have J := I.call' os un hok ba (fun b z => absurd z (by simp))
  have J0 : Inv X [] σ H' s' := J.pins_of fun p hp => absurd hp (by simp)
  have own : ∀ b, H' b = none → s.heap.objs.size ≤ b → Own X H' b := fun b hb lb => ⟨hb, Nat.le_trans I.sz lb, Nat.ne_of_gt (Nat.lt_of_lt_of_le I.lt lb), fun x c e z => by
    obtain ⟨v, q⟩ := I.cell x c e
    exact absurd (Nat.lt_of_lt_of_le q.lt (by rw [z]; exact lb)) (Nat.lt_irrefl _), fun p hp z => absurd (Nat.lt_of_lt_of_le (Heap.lt_size (I.pin p (List.mem_append_left _ hp)).1) (by rw [z]; exact lb)) (Nat.lt_irrefl _)⟩
  exact ⟨e, cls, dx, σ, H', rfl, J0, own e he le, .inr ⟨T, .none, xa, own T hT lT, ne, ta, .inl rfl⟩, hE _ _ _ q⟩
end
/-- the body's context where exceptions are wanted as E -/
abbrev Cx.raises (X : Cx) (E : XS) : Cx := X.wish (XIn X E)
theorem PSs.wish {X : Cx} {f : Value → Shared → Prop} {st : List Stmt} {t : TS} (h : PSs (X.wish f) st t) (hf : ∀ e s, f e s → X.xe e s) : PSs X st t := fun pins s σ H D I hw =>
  wpAny_mono (h pins s σ H D (I.wish _) hw) (fun _ _ q => q.unwish) hf
section
variable {X : Cx} {E : XS} {k : Nat} {sp : Sp} {x : Str} {p pos : Pos} {e : Expr} {es : List Expr} {t : TA}
/-- f(..) of a def that may raise -/
def tCallX (sp : Sp) (E : XS) (t : TA) : TE := fun σ H Q => t σ H fun vs H1 => sp vs H1 Q fun cls dx H' => E cls dx σ H'
theorem pe_defX (G : Def X.prog X.w X.K X.mg X.base (CXF X.prog X.w) k x sp) (hr : Room k X.A) (ha : PA (X.raises E) (e :: es) t) (hg : Gl (X.raises E) x := by rfl) (hdb : (x == ("__debug__" : Str)) = false := by decide)
    (he : starEach (e :: es) X.env = (false, eval e X.env) :: starEach es X.env := by rfl) (hpl : (backTo pos (starEach es X.env)).any (·.1) = false := by rfl) :
    PE (X.raises E) (.Call (.Name x p) (e :: es) [] pos) (tCallX sp E t) := by
  obtain ⟨f, fd, ps, F, b, c, d⟩ := G.ex
  intro pins s σ H Q I h
  refine wpAny_Call_Name_kw (ld_glob I hg c (PySem.W.callWith_K (h₀ := X.base) I.ok.mod.kin d
    (thn (ha pos pins s σ H _ I h) fun us s1 ⟨vs, H1, I1, r, q⟩ => ⟨I1.kIn, ?_⟩) he hpl) hdb)
  have hl : us.length = ps.length := by rw [← r.length]; exact F.len _ _ _ _ q
  have bd := b s1 us I1.kIn (by simpa using hl)
  rw [List.append_nil] at bd
  refine wpAny_call (codeAny_mono (F.run X.A X.stack s1 H1 ⟨us, []⟩ us vs Q (fun cls dx H' => E cls dx σ H') hr I1.unwish.env0 bd r q) fun r s' hq => ?_)
  cases r with
  | error ev => exact x_come I1.unwish hq fun _ _ _ z => z
  | ok fl =>
    cases fl with
    | ret u => exact (I1.after hq : EP (X.raises E) pins σ Q u s')
    | _ => exact False.elim hq
end
section
variable {P : Program} {w : World} {K : PySem.W.Frag} {mg : Str → Option Value} {base : Heap}
/-- a def that may raise: its body in a context that wants exceptions as E -/
theorem Fun.okX {x qual : Str} {st : Stmt} {f : Addr} {fd : FuncData} {N ps : List Str} {k : Nat} {sp : Sp} (F : Fun K x qual st f fd) (S : FnScope N ps (defScope st)) (len : ∀ vs H Q E, sp vs H Q E → vs.length = ps.length)
    (hbody : ∀ (cdv : Value) (A : Around) (outer : List Env) (s : Shared) (H : Hp) (vs : List V) (Q : VK) (E : XK), Room k (A.deeper (envOfC qual (defScope st) s.heap.objs.size f cdv)) → sp vs H Q E →
      ∃ t, PSs ((cxOf (CXF P w) P w K mg base N qual (defScope st) f cdv A outer s H E).raises fun cls dx _ H' => E cls dx H') (defBody st) t ∧ t { nx := fun _ H' => Q .non H', rt := Q } (start N vs) H) : FnOk P w K mg base (CXF P w) (k + 1) f fd ps sp := by
  obtain ⟨oc, od, kV, doc, pm, an, cdv, ct, osl, rfl, lk, hcd⟩ := F.ex
  refine fn_of lk hcd S len fun A outer s H vs Q E hr hsp => ?_
  obtain ⟨t, ht, q⟩ := hbody cdv A outer s H vs Q E hr hsp
  exact ⟨t, ht.wish fun ev s' z => x_leave z.frames rfl rfl rfl z, q⟩
/-- a def that does not raise, among those that may -/
theorem FnOk.quiet {f : Addr} {fd : FuncData} {ps : List Str} {k : Nat} {sp : Sp} (F : FnOk P w K mg base CX0 k f fd ps sp) : FnOk P w K mg base (CXF P w) k f fd ps sp :=
  ⟨F.len, fun A outer s H args us vs Q E hr he hb hv hs => codeAny_mono (F.run A outer s H args us vs Q E hr he hb hv hs) fun r s' h => by
    cases r with
    | error e => exact False.elim h
    | ok fl => cases fl <;> exact h⟩
end

/-! ### try: .. except C as n: .. -/
section
variable {X : Cx} {pins : List (Addr × Obj)} {σ : St} {H : Hp} {s : Shared}
abbrev Cx.pinTo (X : Cx) (ps : List (Addr × Obj)) : Cx := { X with pn := X.pn ++ ps }
abbrev Cx.suite (X : Cx) (ev : Value) (ps : List (Addr × Obj)) : Cx := { X with pn := X.pn ++ ps, A := X.A.mark (some ev), calm := false, xe := fun _ _ => False }
theorem Inv.pinTo (I : Inv X pins σ H s) : Inv (X.pinTo pins) [] σ H s := by
  obtain ⟨ok, a1, a2, a3, a4, a5, a6, a7, a8, a9, a10⟩ := I
  exact ⟨⟨ok.mod, ok.kind, ok.glob, ok.blt, ok.above, ok.inj, ok.has, ok.cab, ok.hd, ok.frames, ok.stk, ok.exf, ok.bs, ok.bsz, ok.noex, ok.exfs, ok.funs, ok.frf⟩, a1, a2, a3, a4, a5, a6, a7, fun p hp => a8 p (by simpa using hp), a9, a10⟩
theorem Inv.unpinTo (I : Inv (X.pinTo pins) [] σ H s) : Inv X pins σ H s := by
  obtain ⟨ok, a1, a2, a3, a4, a5, a6, a7, a8, a9, a10⟩ := I
  exact ⟨⟨ok.mod, ok.kind, ok.glob, ok.blt, ok.above, ok.inj, ok.has, ok.cab, ok.hd, ok.frames, ok.stk, ok.exf, ok.bs, ok.bsz, ok.noex, ok.exfs, ok.funs, ok.frf⟩, a1, a2, a3, a4, a5, a6, a7, fun p hp => a8 p (by simpa using hp), a9, a10⟩
theorem Inv.insuite {ev : Value} {ps : List (Addr × Obj)} (I : Inv (X.pinTo pins) ps σ H s) : Inv (X.suite ev pins) ps σ H s := by
  obtain ⟨ok, a1, a2, a3, a4, a5, a6, a7, a8, a9, a10⟩ := I
  exact ⟨⟨ok.mod, ok.kind, ok.glob, ok.blt, ok.above, ok.inj, ok.has, ok.cab, (fun z => by cases z), ok.frames, ok.stk, ok.exf, ok.bs, ok.bsz, ok.noex, ok.exfs, ok.funs, ok.frf⟩, a1, a2, a3, a4, a5, a6, a7, a8, a9, a10⟩
theorem Inv.outsuite {ev : Value} {ps : List (Addr × Obj)} (I : Inv (X.suite ev pins) ps σ H s) (h0 : X.Ok) : Inv (X.pinTo pins) ps σ H s := by
  obtain ⟨ok, a1, a2, a3, a4, a5, a6, a7, a8, a9, a10⟩ := I
  exact ⟨⟨ok.mod, ok.kind, ok.glob, ok.blt, ok.above, ok.inj, ok.has, ok.cab, h0.hd, ok.frames, ok.stk, ok.exf, ok.bs, ok.bsz, ok.noex, ok.exfs, ok.funs, ok.frf⟩, a1, a2, a3, a4, a5, a6, a7, a8, a9, a10⟩
/-- a thing of ours is told to the abstract heap -/
theorem Inv.track {e : Addr} {o : HO} (I : Inv X [] σ H s) (oe : Own X H e) (new : ObjOk X.prog X.w (upd H e o) s.heap e o) : Inv X [] σ (upd H e o) s := by
  have st : Inv X [] σ (upd H e o) { s with heap := s.heap, gens := s.gens, drawn := s.drawn, toks := s.toks } := by
    refine I.step (ch := [e]) (fun b hb => ?_) (fun b o' _ _ _ q _ => q) (fun b o' _ _ _ q _ => ⟨o'.slots, q⟩) (fun b o' hb _ n => ?_) (fun b o' _ q => ⟨o', q⟩) (fun b xs q => ?_) (fun b ob u q => ?_) (fun b ps q => ⟨#[], ?_⟩) (fun m q => q) (fun b u q => ?_) I.bare
    · have : b = e := by simpa using hb
      subst this
      exact ⟨.inr oe.new, oe.loc, oe.cel, fun p hp => oe.pin p (by simpa using hp)⟩
    · rw [upd_ne (fun z => hb (by simp [z]))]; exact n
    · rw [upd_ne (ne_of_none q oe.free)]; exact q
    · rw [upd_ne (ne_of_none q oe.free)]; exact q
    · rw [upd_ne (ne_of_none q oe.free), q]; simp
    · by_cases hb : b = e
      · subst hb
        rw [upd_same] at q
        cases q
        exact new
      · rw [upd_ne hb] at q
        exact (I.hok b u q).stay (fun _ _ _ r => r) (fun c r => by rw [upd_ne (ne_of_none r oe.free)]; exact r) fun c xs r => by rw [upd_ne (ne_of_none r oe.free)]; exact r
  exact st
end
end L2

set_option Elab.async false
set_option linter.all false
set_option maxRecDepth 100000
set_option maxHeartbeats 4000000
namespace L2
open PySem PySem.Spec PyProof.Rows
/-- an exception's object, as it is known; fr: nobody has raised it -/
def xO (fr : Bool) (cls : Value) (dx : Option Addr) (e : Addr) : HO := .ext fun h => ∃ oe vs, h.get? e = some oe ∧ oe.cls = cls ∧ oe.dict = dx ∧ oe.data = .fields vs ∧ (fr = true → ∃ a0, vs = #[a0, .none, .none, .none, .bool false, .none])
theorem xO_ok {P : Program} {w : World} {H : Hp} {h : Heap} {fr : Bool} {cls : Value} {dx : Option Addr} {e : Addr} {oe : Obj} {vs : Array Value} (h1 : h.get? e = some oe) (h2 : oe.cls = cls) (h3 : oe.dict = dx) (h4 : oe.data = .fields vs)
    (h5 : fr = true → ∃ a0, vs = #[a0, .none, .none, .none, .bool false, .none]) : ObjOk P w H h e (xO fr cls dx e) := ⟨⟨oe, vs, h1, h2, h3, h4, h5⟩, ⟨oe, h1⟩, fun _ _ ⟨o, vs, y1, y2⟩ k => ⟨o, vs, k o y1, y2⟩⟩
/-- an own class of exceptions at C; bm: its mro behind itself -/
def XCls (K : PySem.W.Frag) (C : Addr) (bm : List Value) : Prop := bm.contains (.type "BaseException") = true ∧ ∃ nm q N bs hdct sn sub ab col dd k0 k1 k2 k3 k5 newId, K.lookup C = some (excClassObj nm q C N bs bm hdct sn sub ab col dd k0 k1 k2 k3 k5 newId)
section
variable {X : Cx} {pins : List (Addr × Obj)} {σ : St} {H : Hp} {s : Shared}
theorem name_goes {M : Model} {A : Around} {E : Value → Shared → Prop} {i : Nat} {n : Str} {pos : Pos} {Q : Unit → Shared → Prop} (I : Inv X pins σ H s) (hN : X.N.Nodup) (hi : X.N[i]? = some n) (hk : X.env.scope.names.lookup n = some .local)
    (h : ∀ s', Inv X pins (σ.set i none) H s' → Q () s') : wpAny M A (do bindName X.env n .none; unbindBehindTheSuite X.env n pos) Q E s := by
  obtain ⟨m, hn, hl⟩ := id I.loc
  have hc : (X.env.scope.kind == .class || (X.env.scope.kind == .module && X.env.locals != X.env.globals)) = false := by rw [I.ok.kind]; rfl
  have old : ∀ b o, X.s₀.heap.get? b = some o → b ≠ X.env.locals := fun b o q z => by
    have := Nat.lt_of_lt_of_le (Heap.lt_size q) I.ok.above
    rw [z] at this
    exact Nat.lt_irrefl _ this
  have hiσ : i < σ.length := by rw [I.len]; exact (List.getElem?_eq_some_iff.mp hi).1
  refine wpAny_nameGoes_keeps hk hn hc fun h' v hn' hs => h _ ?_
  refine ⟨I.ok, I.os, I.bare, ⟨fun b o q n1 n2 n3 => ?_, fun b o q n1 n2 n3 => ?_, I.base.free, fun b o q n3 => ?_, I.base.tups, I.base.frzs, I.base.tbls⟩, ⟨_, hn', fun j y v' e1 e2 e3 => ?_⟩, fun y c q => ?_, I.free, I.freeC, fun p hp => ?_, fun b ob q => ?_, by simpa using I.len⟩
  · rw [← I.base.keep b o q n1 n2 n3]; exact hs.2 b (old b o q)
  · obtain ⟨sl, q1⟩ := I.base.slot b o q n1 n2 n3
    exact ⟨sl, by rw [← q1]; exact hs.2 b (old b o q)⟩
  · obtain ⟨o', q1⟩ := I.base.there b o q n3
    exact ⟨o', by rw [← q1]; exact hs.2 b (old b o q)⟩
  · by_cases hj : j = i
    · subst hj
      rw [List.getElem?_set_self hiσ] at e2
      cases e2
    · rw [List.getElem?_set_ne (Ne.symm hj)] at e2
      obtain ⟨u, r, q⟩ := hl j y v' e1 e2 e3
      have hy : y ≠ n := fun z => hj (nodup_ix hN e1 (z ▸ hi))
      refine ⟨u, r, ?_⟩
      rcases q with ⟨k, q⟩ | ⟨k, c, q, z⟩
      · exact .inl ⟨k, by simp only [hy, if_false]; exact q⟩
      · exact .inr ⟨k, c, q, z.sameBut hs (I.cne y c q)⟩
  · obtain ⟨w', z⟩ := I.cell y c q
    exact ⟨w', z.sameBut hs (I.cne y c q)⟩
  · obtain ⟨q, n1, n2, n3, d⟩ := I.pin p hp
    exact ⟨(hs.2 p.1 n2).trans q, n1, n2, n3, d⟩
  · refine (I.hok b ob q).stay (fun c w' hh r => (hs.2 c ?_).trans r) (fun _ r => r) fun _ _ r => r
    rintro rfl
    rcases hh with rfl | hh
    · rw [I.free] at q; cases q
    · rw [I.free] at hh; cases hh
end
section
variable {M : Model} {A : Around} {E : Value → Shared → Prop}
theorem exc_matches {h : Heap} {g : Array GenState} {d : Drawn} {t : Nat} {os : OsState} {e C W : Addr} {oe : Obj} {bm bw : List Value} {Q : Bool → Shared → Prop} {nm q nm' q' : Str} {N N' : Addr} {bs bs' : List Value} {hdct hdct' : Bool} {sn sn' : List Str} {sub sub' : List Value} {ab ab' : Bool} {col col' : Option Bool} {dd dd' : Option Addr} {k0 k1 k2 k3 k5 l0 l1 l2 l3 l5 : Option Value} {newId newId' : String}
    (hC : h.get? C = some (excClassObj nm q C N bs bm hdct sn sub ab col dd k0 k1 k2 k3 k5 newId)) (hW : h.get? W = some (excClassObj nm' q' W N' bs' bw hdct' sn' sub' ab' col' dd' l0 l1 l2 l3 l5 newId'))
    (he : h.get? e = some oe) (hcls : oe.cls = .ref C) (hb : bw.contains (.type "BaseException") = true) (hm : (Value.ref C :: bm).contains (.ref W) = true) (hq : Q true ⟨h, g, d, t, os⟩) : wpAny M A (excMatches (.ref e) (.ref W)) Q E ⟨h, g, d, t, os⟩ := by
  have hwB : (Value.ref W :: bw).contains (.type "BaseException") = true := by rw [List.contains_cons, hb, Bool.or_true]
  have nt := tc_notTuple
  unfold excMatches
  repeat (first | (with_reducible refine wpAny_loadPart_at he ?_; rw [hcls]) | with_reducible refine wpAny_loadPart_at hW ?_
                | (with_reducible refine wpAny_isSubtype_exc hW ?_; rw [hwB]) | (with_reducible refine wpAny_isSubtype_exc hC ?_; rw [hm]) | wp_step)
  exact hq
end

/-! ### try -/
/-- what is wanted of an exception of a try's body: C is among its class's, and the suite goes on -/
def tEx (K : PySem.W.Frag) (C : Addr) (i : Nat) (ts : TS) (D : Ends) : XS := fun cls dx σ H => (∃ Ce bm, cls = .ref Ce ∧ XCls K Ce bm ∧ (Value.ref Ce :: bm).contains (.ref C) = true) ∧
  ∀ e, H e = none → ts { nx := fun σ' H' => D.nx (σ'.set i none) H', rt := D.rt, bk := fun σ' H' => D.bk (σ'.set i none) H', ct := fun σ' H' => D.ct (σ'.set i none) H' } (σ.set i (some (.ref e))) (upd H e (xO false cls dx e))
def tTry (K : PySem.W.Frag) (C : Addr) (i : Nat) (tb : XS → TS) (ts : TS) : TS := fun D σ H => tb (tEx K C i ts D) D σ H
section
variable {X : Cx} {i : Nat} {n x : Str} {C : Addr} {bw : List Value} {body suite : List Stmt} {b0 : Stmt} {np hp pos : Pos} {tb : XS → TS} {ts : TS}
theorem SP.unpin {E : XS} {pins : List (Addr × Obj)} {D : Ends} {f : Flow} {s : Shared} (h : SP ((X.pinTo pins).raises E) [] D f s) : SP X pins D f s := by
  match f, h with
  | .next, ⟨σ, H, I, q⟩ => exact ⟨σ, H, I.unwish.unpinTo, q⟩
  | .brk, ⟨σ, H, I, q⟩ => exact ⟨σ, H, I.unwish.unpinTo, q⟩
  | .cont, ⟨σ, H, I, q⟩ => exact ⟨σ, H, I.unwish.unpinTo, q⟩
  | .ret u, ⟨v, σ, H, I, r, q⟩ => exact ⟨v, σ, H, I.unwish.unpinTo, r, q⟩
theorem ps_try (hN : X.N.Nodup) (hi : X.N[i]? = some n) (hk : X.env.scope.names.lookup n = some .local) (hg : Gl X x) (hm : X.mg x = some (.ref C)) (hC : XCls X.K C bw) (hst : X.stack = X.env :: X.outer) (hf : X.env.frame = some X.env.locals)
    (hb : ∀ EX pins, PSs ((X.pinTo pins).raises EX) body (tb EX)) (hs : ∀ e pins, PSs (X.suite (.ref e) pins) (b0 :: suite) ts) (hd : (x == ("__debug__" : Str)) = false := by decide) :
    PS X (.Try body [.ExceptHandler (some (.Name x np)) (some n) (b0 :: suite) hp] [] [] pos) (tTry X.K C i tb ts) := by
  intro pins s σ H D I h
  have ok := I.ok
  refine wpAny_Try_except (wpAny_mono (hb (tEx X.K C i ts D) pins [] s σ H D (I.pinTo.wish _) h) (fun f s1 q => ?_) fun ev s1 q => ?_)
  · have q' := SP.unpin q
    cases f with
    | next =>
      show wpAny _ _ (execs [] _) _ _ _
      exact (wpAny_execs_nil q' : _)
    | _ => exact q'
  · have q0 : XIn (X.pinTo pins) (tEx X.K C i ts D) ev s1 := q
    refine x_note (X := X.pinTo pins) q0.frames hst hf q0 fun s2 q2 => x_flight (X := X.pinTo pins) (.inl rfl) q2 fun s3 q3 => ?_
    obtain ⟨e, cls, dx, σ1, H1, rfl, I1, oe, ht, hE⟩ := id q3
    obtain ⟨⟨Ce, bm, rfl, hCe, hmro⟩, hgo⟩ := hE
    obtain ⟨hbB, nm', q', N', bs', hdct', sn', sub', ab', col', dd', l0, l1, l2, l3, l5, newId', lkW⟩ := hC
    obtain ⟨hbC, nm, qn, N, bs, hdct, sn, sub, ab, col, dd, k0, k1, k2, k3, k5, newId, lkC⟩ := hCe
    have ge : ∃ oe, s3.heap.get? e = some oe ∧ oe.cls = .ref Ce := by
      rcases ht with ⟨_, ob, vs, g1, g2, _⟩ | ⟨T, fl, ⟨ob, vs, g1, g2, _⟩, _⟩
      · exact ⟨ob, g1, g2⟩
      · exact ⟨ob, g1, g2⟩
    obtain ⟨ob, ge, gc⟩ := ge
    have gW := I1.kIn C _ lkW
    have gC := I1.kIn Ce _ lkC
    refine wpAny_handleBy_cons (codeAny_handlers_test (ld_glob (X := X.suite (.ref e) pins) (I1.insuite (X := X) (ev := .ref e)) hg hm ?_ hd)) (by intro z; cases z)
    obtain ⟨h3, g3, d3, t3, os3⟩ := s3
    refine exc_matches gC gW ge gc hbB hmro ?_
    refine codeAny_handlers_suite_as (x_flight (X := X.pinTo pins) (.inl rfl) q3 fun s4 q4 => ?_)
    obtain ⟨e', cls4, dx4, σ4, H4, ee, I4, oe4, ht4, hE4⟩ := q4
    cases ee
    obtain ⟨_, hgo4⟩ := hE4
    have xa : ∃ oe vs, s4.heap.get? e = some oe ∧ oe.cls = cls4 ∧ oe.dict = dx4 ∧ oe.data = .fields vs := by
      rcases ht4 with ⟨_, ob, vs, g1, g2, g3, g4, _⟩ | ⟨T, fl, ⟨ob, vs, g1, g2, g3, g4, _⟩, _⟩
      · exact ⟨ob, vs, g1, g2, g3, g4⟩
      · exact ⟨ob, vs, g1, g2, g3, g4⟩
    obtain ⟨oe5, vs5, x1, x2, x3, x4⟩ := xa
    have J := I4.track oe4 (o := xO false cls4 dx4 e) (xO_ok x1 x2 x3 x4 fun z => by cases z)
    refine store_ok (X := X.pinTo pins) J hN hi (.inl hk) (show RelV (.ref e) (.ref e) from rfl) (fun s5 J5 => ?_) (.inr hk)
    refine wpAny_mono (hs e pins [] s5 _ _ _ (J5.insuite (X := X) (ev := .ref e)) (hgo4 e oe4.free)) (fun f s6 q6 => ?_) fun _ _ z => z.elim
    have goes : ∀ {σ6 : St} {H6 : Hp} {R : Unit → Shared → Prop}, Inv (X.suite (.ref e) pins) [] σ6 H6 s6 → (∀ s7, Inv X pins (σ6.set i none) H6 s7 → R () s7) → wpAny (model X.prog X.w) X.A (do bindName X.env n .none; unbindBehindTheSuite X.env n hp) R X.xe s6 := fun I6 hR =>
      name_goes (X := X.pinTo pins) (I6.outsuite ok) hN hi hk fun s7 I7 => hR s7 I7.unpinTo
    match f, q6 with
    | .next, ⟨σ6, H6, I6, z⟩ => exact goes I6 fun s7 I7 => ⟨_, H6, I7, z⟩
    | .brk, ⟨σ6, H6, I6, z⟩ => exact goes I6 fun s7 I7 => ⟨_, H6, I7, z⟩
    | .cont, ⟨σ6, H6, I6, z⟩ => exact goes I6 fun s7 I7 => ⟨_, H6, I7, z⟩
    | .ret u, ⟨v, σ6, H6, I6, r, z⟩ => exact goes I6 fun s7 I7 => ⟨v, _, H6, I7, r, z⟩
end
end L2

set_option Elab.async false
set_option linter.all false
set_option maxRecDepth 100000
set_option maxHeartbeats 4000000
namespace L2
open PySem PySem.Spec PyProof.Rows

/-! ### own classes of exceptions, all above ValueError -/
abbrev vMro : List Value := [.type "ValueError", .type "Exception", .type "BaseException", .type "object"]
theorem tail_has {K : PySem.W.Frag} {bB : List Value} {v : Value} (hv : bB.contains v = true) : ∀ {l : List Value}, PySem.W.tailIn K bB l = true → l.contains v = true
  | [], e => by
    have z : bB = [] := beq_iff_eq.mp e
    rw [z] at hv
    exact hv
  | u :: r, e => by
    unfold PySem.W.tailIn at e
    rcases Bool.or_eq_true_iff.mp e with q | q
    · rw [beq_iff_eq.mp q]; exact hv
    · split at q
      · split at q
        · simp only [Bool.and_eq_true] at q
          rw [List.contains_cons, tail_has hv q.2, Bool.or_true]
        · cases q
      · cases q
structure XC (K : PySem.W.Frag) (C : Addr) (bm : List Value) : Prop where
  lk : ∃ nm q N bs sn sub ab col dd k0 k1 k2 k3 k5, K.lookup C = some (excClassObj nm q C N bs bm true sn sub ab col dd k0 k1 k2 k3 k5 "ValueError.__new__")
  tl : PySem.W.tailIn K vMro bm = true
  kp : PySem.W.keepIn K (.ref C) = true
  ga : PySem.W.findIn K (.ref C) "__getattribute__" = some (some (.builtin "BaseException.__getattribute__"))
  gh : PySem.W.findIn K (.ref C) "__getattr__" = some none
  gc : PySem.W.findIn K (.ref C) "__class__" = some (some (.builtin "object.__class__"))
  sa : PySem.W.findIn K (.ref C) "__setattr__" = some (some (.builtin "object.__setattr__"))
section
variable {K : PySem.W.Frag} {C W : Addr} {bm bw : List Value}
theorem XC.cls (c : XC K C bm) : ∃ cd, PySem.W.clsIn K C = some cd ∧ cd.mro = .ref C :: bm ∧ cd.hasDict = true := by
  obtain ⟨nm, q, N, bs, sn, sub, ab, col, dd, k0, k1, k2, k3, k5, lk⟩ := c.lk
  exact ⟨_, by unfold PySem.W.clsIn; rw [lk], rfl, rfl⟩
theorem XC.mro (c : XC K C bm) (v : Value) : PySem.W.mroIn K C v = some ((Value.ref C :: bm).contains v) := by
  obtain ⟨cd, h1, h2, _⟩ := c.cls
  unfold PySem.W.mroIn
  rw [h1, Option.bind_some, h2, if_neg (by simp)]
theorem XC.has (c : XC K C bm) {v : Value} (hv : vMro.contains v = true) : (Value.ref C :: bm).contains v = true := by rw [List.contains_cons, tail_has hv c.tl, Bool.or_true]
theorem XC.xcls (c : XC K C bm) : XCls K C bm := by
  obtain ⟨nm, q, N, bs, sn, sub, ab, col, dd, k0, k1, k2, k3, k5, lk⟩ := c.lk
  exact ⟨tail_has (by decide) c.tl, _, _, _, _, _, _, _, _, _, _, _, _, _, _, _, _, lk⟩
theorem XC.ty (c : XC K C bm) : PySem.W.typeIn K (.ref C) = some (.type "type") := by
  obtain ⟨nm, q, N, bs, sn, sub, ab, col, dd, k0, k1, k2, k3, k5, lk⟩ := c.lk
  show (K.lookup C).map (·.cls) = _
  rw [lk]
  rfl
theorem kit_xx (c : XC K C bm) (d : XC K W bw) : PySem.W.kitOne K (.ref C) (.ref W) = some ((Value.ref C :: bm).contains (.ref W)) := by
  unfold PySem.W.kitOne
  by_cases q : C = W
  · subst q
    rw [if_pos (by simp), List.contains_cons]
    simp
  · obtain ⟨cd, h1, _, _⟩ := d.cls
    rw [if_neg (by simpa using q)]
    unfold PySem.W.kitCls
    dsimp only
    rw [h1, d.ty]
    exact c.mro _
theorem kit_xv (c : XC K C bm) : PySem.W.kitOne K (.ref C) (.type "ValueError") = some true := by
  unfold PySem.W.kitOne
  rw [if_neg (by simp)]
  unfold PySem.W.kitCls
  dsimp only
  rw [if_pos (show PySem.W.kitMeta "ValueError" = true by with_unfolding_all rfl)]
  show PySem.W.mroIn K C _ = _
  rw [c.mro, c.has (by decide)]
theorem XC.tail (c : XC K C bm) {h : Heap} (X : K.In h) : OwnTail h vMro bm := PySem.W.tail_of_in X c.tl
end

/-! ### C(..) -/
abbrev xTup (us : List Value) : Obj := { cls := .type "tuple", data := .seq us.toArray }
abbrev xNew (C t : Addr) : Obj := { cls := .ref C, data := .fields #[.ref t, .none, .none, .none, .bool false, .none] }
abbrev xHp (h : Heap) (C : Addr) (us : List Value) : Heap := (h.push (xTup us)).push (xNew C h.objs.size)
section
variable {prog : Program} {w : World} {A : Around} {E : Value → Shared → Prop} {h : Heap} {g : Array GenState} {d : Drawn} {t : Nat} {os : OsState} {K : PySem.W.Frag} {C : Addr} {bm us : List Value}
theorem xHp_keep {b : Addr} {o : Obj} (e : h.get? b = some o) : (xHp h C us).get? b = some o := Heap.get?_push_of_some _ (Heap.get?_push_of_some _ e)
theorem xHp_new : (xHp h C us).get? (h.objs.size + 1) = some (xNew C h.objs.size) := by
  have := Heap.get?_push_size (h.push (xTup us)) (o := xNew C h.objs.size) rfl
  rwa [Heap.size_push] at this
theorem x_born {init : Value} {Q : Fin → Shared → Prop} (X : K.In h) (c : XC K C bm) (hu : us.length ≤ sizeLine) (hi : PySem.W.Looks (model prog w) h (typeLookup (.ref C) "__init__") (some init))
    (hb : ∀ self, PySem.W.Looks (model prog w) h (bindSpecial init self) (init, [self]))
    (go : wpAny (model prog w) A (call init (.ref (h.objs.size + 1) :: us)) (fun r s' => r = .none ∧ Q (.done (.ret (.ref (h.objs.size + 1)))) s') E ⟨xHp h C us, g, d, t, os⟩) :
    wpAny (model prog w) A (Builtin.«type.__call__» ⟨.ref C :: us, []⟩) Q E ⟨h, g, d, t, os⟩ := by
  have F := PySem.F.excBase_ValueError
  have T := c.tail X
  obtain ⟨nm, qn, N, bs, sn, sub, ab, col, dd, k0, k1, k2, k3, k5, lk⟩ := c.lk
  have cC := X _ _ lk
  repeat (first
    | with_reducible refine wpAny_loadPart_at cC ?_
    | with_reducible refine wpAny_madeBy_exc cC ?_
    | wp_step)
  refine codeAny_call_builtin_code (Code.quiet_builtin _ F.quiet) (wpAny_check_new_subT F T cC ?_)
  refine codeAny_exc_new_subT F T cC ?_ hu
  show wpAny _ _ _ _ _ _
  have c2 := xHp_keep (C := C) (us := us) cC
  have n2 : (xHp h C us).get? (h.objs.size + 1) = some (xNew C h.objs.size) := xHp_new
  have self : (Value.ref C :: bm).contains (.ref C) = true := by simp
  unfold isInstance
  repeat (first
    | with_reducible refine wpAny_loadPart_at n2 ?_
    | (with_reducible refine wpAny_isSubtype_exc c2 ?_; rw [self])
    | wp_step)
  show wpAny _ _ (typeLookup (.ref C) _) _ _ _
  refine (hi.keeps fun _ _ => xHp_keep).at ?_
  refine wpAny_holding (wpAny_bind (((hb _).keeps fun _ _ => xHp_keep).at ?_))
  refine wpAny_bind (wpAny_mono go (fun r s' z => ?_) fun _ _ z => z)
  obtain ⟨rfl, z⟩ := z
  wp_walk
  exact z
theorem x_call {init : Value} {Q : Value → Shared → Prop} (X : K.In h) (c : XC K C bm) (hu : us.length ≤ sizeLine) (hi : PySem.W.Looks (model prog w) h (typeLookup (.ref C) "__init__") (some init))
    (hb : ∀ self, PySem.W.Looks (model prog w) h (bindSpecial init self) (init, [self]))
    (go : wpAny (model prog w) (A.under (.builtin "type.__call__" ⟨.ref C :: us, []⟩)) (call init (.ref (h.objs.size + 1) :: us)) (fun r s' => r = .none ∧ Q (.ref (h.objs.size + 1)) s') E ⟨xHp h C us, g, d, t, os⟩) :
    wpAny (model prog w) A (call (.ref C) us) Q E ⟨h, g, d, t, os⟩ := by
  obtain ⟨nm, qn, N, bs, sn, sub, ab, col, dd, k0, k1, k2, k3, k5, lk⟩ := c.lk
  have cC := X _ _ lk
  have l1 := tc_lookup
  have l2 := tc_bind (.ref C)
  have ty : (⟨h, g, d, t, os⟩ : Shared).TypeIs (.ref C) "type" := ⟨_, cC, rfl⟩
  refine wpAny_call (codeAny_of_tree ?_)
  show wpAny _ _ (callAny (.ref C) _) _ _ _
  repeat (any_goals (first
    | assumption
    | with_reducible refine wpAny_loadPart_at cC ?_
    | wp_step))
  refine ⟨rfl, ?_⟩
  exact codeAny_call_builtin_at (Code.quiet_builtin _ (by decide +kernel)) entry_typeCall (wpAny_check_type_call_sub cC (x_born X c hu hi hb go))
/-- ValueError's own __init__ -/
theorem x_init0 {e a0 : Addr} {Q : Value → Shared → Prop} (X : K.In h) (c : XC K C bm) (hu : us.length ≤ sizeLine) (he : h.get? e = some (xNew C a0))
    (go : ∀ h', (∀ b o, b ≠ e → h.get? b = some o → h'.get? b = some o) → h'.get? e = some (xNew C h.objs.size) → Q .none ⟨h', g, d, t, os⟩) :
    wpAny (model prog w) A (call (.builtin "ValueError.__init__") (.ref e :: us)) Q E ⟨h, g, d, t, os⟩ := by
  have F := PySem.F.excBase_ValueError
  have T := c.tail X
  obtain ⟨nm, qn, N, bs, sn, sub, ab, col, dd, k0, k1, k2, k3, k5, lk⟩ := c.lk
  have cC := X _ _ lk
  refine wpAny_call (codeAny_call_builtin F.init.plain F.initEntry (wpAny_check_init_subT F T cC he rfl ?_))
  have n2 := Heap.get?_push_of_some (xTup us) he
  wp_walk
  refine go _ (fun b o nb q => ?_) ?_
  · rw [Heap.get?_update_other _ _ (Ne.symm nb)]
    exact Heap.get?_push_of_some _ q
  · rw [Heap.get?_update_self _ n2 rfl]
    rfl
end
end L2

set_option Elab.async false
set_option linter.all false
set_option maxRecDepth 100000
set_option maxHeartbeats 1000000
namespace L2
open PySem PySem.Spec PyProof.Rows
/-! ### its attributes -/
section
variable {prog : Program} {w : World} {A : Around} {E : Value → Shared → Prop} {s : Shared} {K : PySem.W.Frag} {C x : Addr} {bm : List Value} {ox : Obj} {od : Option Obj} {name : Str}
theorem x_by {tk : Tok} {fill ex : Bool} {Q : Value → Shared → Prop} (X : K.In s.heap) (c : XC K C bm) (I : PySem.W.InstAt s.heap x ox C od)
    (go : ∀ A', wpAny (model prog w) A' (Builtin.«object.__getattribute__» ⟨[.ref x, .str name tk], []⟩) (fun fin s' => ∃ v, fin = .done (.ret v) ∧ PySem.W.handedIn v = true ∧ Q v s') (fun _ _ => False) s) :
    wpAny (model prog w) A (getAttrBy (.ref x) (.str name tk) fill ex) Q E s := by
  have FA := PySem.F.attrBase_ValueError
  have l0 := I.type (M := model prog w)
  have l1 := PySem.W.looks_findIn (M := model prog w) X c.ga
  have l2 := PySem.W.looks_findIn (M := model prog w) X c.gh
  have nb : (Value.builtin "BaseException.__getattribute__" == Value.builtin "object.__getattribute__") = false := by decide +kernel
  have no : (onTheHeap (Value.ref C) && Value.builtin "BaseException.__getattribute__" == Value.builtin "object.__getattribute__") = false := by rw [nb]; rfl
  have ne : (ex && onTheHeap (Value.builtin "BaseException.__getattribute__")) = false := by cases ex <;> rfl
  unfold getAttrBy
  refine wpAny_holding (wpAny_bind (l0.here (wpAny_bind (l1.here ?_))))
  dsimp only
  rw [no, if_neg (by decide)]
  unfold getAttrByItsOwn
  refine wpAny_bind ?_
  show wpAny _ _ (typeLookup (.ref C) "__getattr__") _ _ _
  refine l2.here ?_
  refine wpAny_bind (wpAny_attempt (wpAny_holding ?_))
  unfold callGetattribute
  rw [ne, if_neg (by decide)]
  unfold boundAndCalled
  rw [FA.ga.bind]
  refine wpAny_bind (wpAny_pure ?_)
  show wpAny _ _ (call (.builtin "BaseException.__getattribute__") [.ref x, .str name tk]) _ _ _
  have lb : PySem.W.Looks (model prog w) s.heap (isInstance (.ref x) (.type "BaseException")) true := l0.andThen (PySem.W.looks_mroIn X (by rw [c.mro, c.has (by decide)]))
  have k1 : builtinKind "BaseException.__getattribute__" = some .slot := by decide +kernel
  have k2 : splitId "BaseException.__getattribute__" = some ("BaseException", "__getattribute__") := by decide +kernel
  refine wpAny_call (codeAny_call_builtin FA.ga.plain PySem.F.entry_bexc_ga ?_)
  refine @PySem.W.check_slot (model prog w) _ _ s "BaseException.__getattribute__" "BaseException" "__getattribute__" (.ref x) [.str name tk] [] _ k1 k2 lb (PySem.F.args_bexc_ga (.ref x) (.str name tk)) ?_
  refine wpAny_mono (go _) (fun fin s' z => ?_) fun _ _ z => z.elim
  obtain ⟨v, rfl, hv, q⟩ := z
  dsimp only
  rw [PySem.W.handedOut_of hv]
  exact wpAny_pure q
theorem get_get (K : PySem.W.Frag) : PySem.W.specialIn K (.builtin "object.__class__") "__get__" = some (some (.builtin "getset_descriptor.__get__")) := by with_unfolding_all rfl
theorem get_takes (K : PySem.W.Frag) : PySem.W.takesIn K (.builtin "object.__class__") = some true := by with_unfolding_all rfl
theorem x_class {Q : Option Value → Shared → Prop} (X : K.In s.heap) (c : XC K C bm) (I : PySem.W.InstAt s.heap x ox C od) (q : Q (some (.ref C)) { s with toks := s.toks + 1 }) : wpAny (model prog w) A (getAttr? (.ref x) "__class__") Q E s := by
  have hf : PySem.W.findObj K C od "__class__" = some (.bind (.builtin "getset_descriptor.__get__") (.builtin "object.__class__")) := by
    obtain ⟨cd, h1, _⟩ := c.cls
    unfold PySem.W.findObj
    rw [h1, Option.bind_some, c.gc, Option.bind_some]
    simp [get_get, get_takes]
  unfold getAttr? getAttrBy?
  refine wpAny_bind (wpAny_mkText ?_)
  refine wpAny_bind (wpAny_attempt (wpAny_mono (Q := fun v s' => v = .ref C ∧ Q (some (.ref C)) s') (E := fun _ _ => False) ?_ (fun v s' z => ?_) fun _ _ z => z.elim))
  · refine x_by (s := { s with toks := s.toks + 1 }) X c I fun A' => ?_
    have l0 := I.type (M := model prog w)
    have l1 := PySem.W.looks_find (M := model prog w) X I hf
    have cg : ∀ A2 R, R (.ok (.ret (.ref C))) { s with toks := s.toks + 1 } → codeAny (model prog w) A2 (.call (.builtin "getset_descriptor.__get__") ⟨[.builtin "object.__class__", .ref x, .ref C], []⟩) R { s with toks := s.toks + 1 } := fun A2 R z =>
      PySem.W.class_get (s := { s with toks := s.toks + 1 }) X I (by rw [c.mro, c.has (by decide)]) z
    obtain ⟨hh, g, d, t, os⟩ := s
    unfold Builtin.«object.__getattribute__» slotArgs
    repeat (first | with_reducible refine wpAny_call ?_ | lk)
    refine cg _ _ ?_
    exact wpAny_pure ⟨_, rfl, rfl, rfl, q⟩
  · obtain ⟨rfl, z⟩ := z
    exact wpAny_pure z
end
/-- what is known of an exception's object -/
def XKn (K : PySem.W.Frag) (H : Hp) (e C : Addr) (bm : List Value) : Prop := XC K C bm ∧ ∃ fr dx, H e = some (xO fr (.ref C) dx e) ∧ ∀ d, dx = some d → ∃ fs, H d = some (.xd fs)
theorem XKn.inst {X : Cx} {pins : List (Addr × Obj)} {σ : St} {H : Hp} {s : Shared} {e C : Addr} {bm : List Value} (I : Inv X pins σ H s) (k : XKn X.K H e C bm) : ∃ ox od, PySem.W.InstAt s.heap e ox C od := by
  obtain ⟨_, fr, dx, h1, h2⟩ := k
  obtain ⟨⟨oe, vs, g1, g2, g3, g4, _⟩, _⟩ := (show ObjOk X.prog X.w H s.heap e (xO fr (.ref C) dx e) from I.hok e _ h1)
  have nc : PySem.W.notCls oe = true := by unfold PySem.W.notCls; rw [g4]
  cases dx with
  | none => exact ⟨oe, none, g1, g2, nc, by rw [g3]; trivial⟩
  | some d =>
    obtain ⟨fs, hd⟩ := h2 d rfl
    obtain ⟨mA, ⟨o, es, ep, z, _⟩, _⟩ := (show ObjOk X.prog X.w H s.heap d (.xd fs) from I.hok d _ hd)
    exact ⟨oe, some o, g1, g2, nc, by rw [g3]; exact z⟩
def XIs (e C : Addr) (h : Heap) : Prop := ∃ ox od, PySem.W.InstAt h e ox C od
theorem kitx_x {K : PySem.W.Frag} {e C : Addr} {bm : List Value} (c : XC K C bm) : PySem.W.KitX K (.ref e) (.ref C) (XIs e C) where
  ty := fun _ _ _ ⟨_, _, I⟩ => I.type
  it := fun _ _ X _ => by
    obtain ⟨nm, q, N, bs, sn, sub, ab, col, dd, k0, k1, k2, k3, k5, lk⟩ := c.lk
    intro A' Q' E' s' k q
    unfold isType loadHead
    exact wpAny_bind (wpAny_loadPart (k _ _ (X _ _ lk)) (wpAny_pure q))
  ne := fun h tp dd its n sl X htp => by
    obtain ⟨nm, q, N, bs, sn, sub, ab, col, dd, k0, k1, k2, k3, k5, lk⟩ := c.lk
    refine Bool.eq_false_iff.mpr fun q => ?_
    have z : C = tp := Value.ref.inj (beq_iff_eq.mp q)
    subst z
    have zz := Option.some.inj ((X _ _ lk).symm.trans htp)
    have z2 := congrArg Obj.data zz
    cases z2
  ca := fun X ⟨_, _, I⟩ k => x_class X c I k
end L2

set_option Elab.async false
set_option linter.all false
set_option maxRecDepth 100000
set_option maxHeartbeats 4000000
namespace L2
open PySem PySem.Spec PyProof.Rows
/-! ### isinstance of an exception; its word -/
def rIsx (K : PySem.W.Frag) : List V → Hp → VK → Prop := fun xs H Q => ∃ e C bm c, xs = [.ref e, c] ∧ XKn K H e C bm ∧
  ((c = .ty "ValueError" ∧ Q (.bl true) H) ∨ (∃ W bw, c = .ref W ∧ XC K W bw ∧ Q (.bl ((Value.ref C :: bm).contains (.ref W))) H) ∨
    ∃ p U V bu bv, c = .ref p ∧ H p = some (.tup [.ref U, .ref V]) ∧ XC K U bu ∧ XC K V bv ∧ Q (.bl ((Value.ref C :: bm).contains (.ref U) || (Value.ref C :: bm).contains (.ref V))) H)
section
variable {X : Cx} {a c o e value : Expr} {ta tc tv : TE} {p pos pos' : Pos} {f : Str}
theorem call_isx : CallR X (.builtin "isinstance") (rIsx X.K) := by
  intro pins s σ H xs us Q I r h
  obtain ⟨e, C, bm, c, rfl, kn, h⟩ := h
  obtain ⟨u, u2, rfl, rx, r2⟩ := vals2 r
  obtain rfl : u = Value.ref e := rx
  have xi : XIs e C s.heap := kn.inst I
  have cc := kn.1
  rcases h with ⟨rfl, q⟩ | ⟨W, bw, rfl, cw, q⟩ | ⟨p, U, V, bu, bv, rfl, hp, cu, cv, q⟩
  · obtain rfl : u2 = Value.type "ValueError" := r2
    exact PySem.W.kia_one (kitx_x cc) I.kIn xi (kit_xv cc) (fun z => nomatch z) fun tk => ⟨.bl true, H, I.tok tk, rfl, q⟩
  · obtain rfl : u2 = Value.ref W := r2
    exact PySem.W.kia_one (kitx_x cc) I.kIn xi (kit_xx cc cw) (fun z => nomatch z) fun tk => ⟨.bl _, H, I.tok tk, rfl, q⟩
  · obtain rfl : u2 = Value.ref p := r2
    obtain ⟨_, its, rv, o, g1, g2, n, g3⟩ := (show ObjOk X.prog X.w H s.heap p (.tup [.ref U, .ref V]) from I.hok p _ hp)
    obtain ⟨i1, i2, rfl, e1, e2⟩ := rv.two
    obtain rfl : i1 = Value.ref U := e1
    obtain rfl : i2 = Value.ref V := e2
    obtain ⟨oc, od, da, sl⟩ := o
    dsimp only at g2 g3
    subst g2 g3
    have ka : PySem.W.kitAny X.K (.ref C) [.ref U, .ref V] = some ((Value.ref C :: bm).contains (.ref U) || (Value.ref C :: bm).contains (.ref V)) := by
      unfold PySem.W.kitAny
      rw [kit_xx cc cu]
      cases (Value.ref C :: bm).contains (.ref U) with
      | true => rfl
      | false =>
        unfold PySem.W.kitAny
        rw [kit_xx cc cv]
        cases (Value.ref C :: bm).contains (.ref V) <;> rfl
    exact PySem.W.kia_tup (kitx_x cc) I.kIn xi g1 ka (fun z => nomatch z) fun tk => ⟨.bl _, H, I.tok tk, rfl, q⟩
theorem pe_isx (hm : X.mg "isinstance" = none) (ha : PE X a ta) (hc : PE X c tc) (hg : Gl X "isinstance" := by rfl)
    (he : starEach [a, c] X.env = (false, eval a X.env) :: starEach [c] X.env := by rfl) (hpl : (backTo pos (starEach [c] X.env)).any (·.1) = false := by rfl) (he2 : starEach [c] X.env = [(false, eval c X.env)] := by rfl) :
    PE X (.Call (.Name "isinstance" p) [a, c] [] pos) (fun σ H Q => ta σ H fun x H1 => tc σ H1 fun y H2 => rIsx X.K [x, y] H2 Q) :=
  pe_callB call_isx hg hm bt_isinstance (pa_cons ha (pa_cons hc pa_nil he2) he) (by decide) (by decide) he hpl
end

/-! ### C(..), raise C(..) -/
def del (H : Hp) (e : Addr) : Hp := fun b => if b = e then none else H b
theorem del_ne {H : Hp} {e b : Addr} (h : b ≠ e) : del H e b = H b := if_neg h
theorem del_same {H : Hp} {e : Addr} : del H e e = none := if_pos rfl
theorem del_upd {H : Hp} {e : Addr} {o : HO} (h : H e = none) : del (upd H e o) e = H := by
  funext b
  by_cases q : b = e
  · subst q; rw [del_same, h]
  · rw [del_ne q, upd_ne q]
section
variable {X : Cx} {pins : List (Addr × Obj)} {σ : St} {H : Hp} {s : Shared}
theorem Inv.untrack {e : Addr} {φ : Heap → Prop} (I : Inv X pins σ H s) (hx : H e = some (.ext φ)) : Inv X pins σ (del H e) s := by
  have nn : ∀ b, H b = none → del H e b = none := fun b n => by
    by_cases q : b = e
    · rw [q]; exact del_same
    · rw [del_ne q]; exact n
  have ne : ∀ {b : Addr} {o : HO}, H b = some o → (∀ ψ, o ≠ .ext ψ) → del H e b = some o := fun {b o} q n => by
    rw [del_ne (fun z => by rw [z, hx] at q; exact n φ (Option.some.inj q).symm)]; exact q
  refine ⟨I.ok, I.os, I.bare, ⟨I.base.keep, I.base.slot, fun b o q n m => nn b (I.base.free b o q n m), I.base.there, fun b xs q => ne (I.base.tups b xs q) fun _ z => (by cases z), fun b o u q => ne (I.base.frzs b o u q) fun _ z => (by cases z), fun b ps q => ?_⟩, I.loc, I.cell, nn _ I.free, fun y c q => nn _ (I.freeC y c q), fun p hp => ?_, fun b u q => ?_, I.len⟩
  · obtain ⟨more, z⟩ := I.base.tbls b ps q
    exact ⟨more, ne z fun _ z => by cases z⟩
  · obtain ⟨a, b, c⟩ := I.pin p hp
    exact ⟨a, nn _ b, c⟩
  · by_cases z : b = e
    · rw [z, del_same] at q; cases q
    · rw [del_ne z] at q
      exact (I.hok b u q).stay (fun _ _ _ r => r) (fun c r => ne r fun _ z => by cases z) fun c xs r => ne r fun _ z => by cases z
end
section
variable {X : Cx} {C f : Addr} {bm : List Value} {k : Nat} {fd : FuncData} {ps : List Str} {sp : Sp} {x : Str} {p pos rpos : Pos} {e : Expr} {es : List Expr} {t : TA}
theorem run_x0 {pins : List (Addr × Obj)} {σ : St} {H : Hp} {s : Shared} {Q : Addr → Hp → Prop} {us : List Value} {vs : List V} (c : XC X.K C bm) (hi : PySem.W.findIn X.K (.ref C) "__init__" = some (some (.builtin "ValueError.__init__"))) (I : Inv X pins σ H s) (r : Vals vs us) (hu : vs.length ≤ sizeLine)
    (h : ∀ e, H e = none → Q e (upd H e (xO true (.ref C) none e))) :
    wpAny (model X.prog X.w) X.A (call (.ref C) us) (fun u s' => ∃ e H2, u = .ref e ∧ s.heap.objs.size ≤ e ∧ Inv X pins σ H2 s' ∧ Q e H2) X.xe s := by
  have hq := h (s.heap.objs.size + 1) (I.hok.fresh (Nat.le_succ _))
  have K0 := I.kIn
  have sz : s.heap.objs.size ≤ s.heap.objs.size + 1 := Nat.le_succ _
  have hul : us.length ≤ sizeLine := by rw [← r.length]; exact hu
  have fin : ∀ h', (∀ b o, b ≠ s.heap.objs.size + 1 → (xHp s.heap C us).get? b = some o → h'.get? b = some o) → h'.get? (s.heap.objs.size + 1) = some (xNew C (xHp s.heap C us).objs.size) →
      Inv X pins σ (upd H (s.heap.objs.size + 1) (xO true (.ref C) none (s.heap.objs.size + 1))) { s with heap := h' } := fun h' k1 k2 =>
    I.laid (a := s.heap.objs.size + 1) (o := xO true (.ref C) none (s.heap.objs.size + 1)) (t' := s.toks) (fun b u q => k1 b u (Nat.ne_of_lt (Nat.lt_succ_of_lt (Heap.lt_size q))) (xHp_keep q)) (Nat.le_succ _) (xO_ok k2 rfl rfl rfl fun _ => ⟨_, rfl⟩)
  obtain ⟨hh, g, d, tk, os⟩ := s
  have bi := PySem.F.excBase_ValueError.init.bind
  refine x_call K0 c hul (PySem.W.looks_findIn K0 hi) (fun self => PySem.W.Looks.of_pure (bi self)) ?_
  refine x_init0 (K0.keeps fun _ _ => xHp_keep) c hul xHp_new fun h' k1 k2 => ?_
  exact ⟨rfl, _, _, rfl, sz, fin h' k1 k2, hq⟩
theorem ev_exc {pins : List (Addr × Obj)} {σ : St} {H : Hp} {s : Shared} {R : List V → Hp → Prop} {Q : Value → Shared → Prop} (c : XC X.K C bm) (hg : Gl X x) (hm : X.mg x = some (.ref C)) (ha : PA X (e :: es) t) (I : Inv X pins σ H s) (h : t σ H R)
    (go : ∀ us vs s1 H1, Inv X pins σ H1 s1 → Vals vs us → R vs H1 → X.s₀.heap.objs.size ≤ s1.heap.objs.size → wpAny (model X.prog X.w) X.A (call (.ref C) us) Q X.xe s1)
    (hdb : (x == ("__debug__" : Str)) = false := by decide) (he : starEach (e :: es) X.env = (false, eval e X.env) :: starEach es X.env := by rfl) (hpl : (backTo pos (starEach es X.env)).any (·.1) = false := by rfl) :
    wpAny (model X.prog X.w) X.A (eval (.Call (.Name x p) (e :: es) [] pos) X.env) Q X.xe s := by
  refine wpAny_Call_Name_kw (ld_glob I hg hm ?_ hdb)
  exact PySem.W.callWith_K (h₀ := X.base) I.ok.mod.kin c.kp (thn (ha pos pins s σ H _ I h) fun us s1 ⟨vs, H1, I1, r, q⟩ => ⟨I1.kIn, go us vs s1 H1 I1 r q I1.sz⟩) he hpl
/-- raise of what is an exception -/
theorem x_raise {M : Model} {A : Around} {E : Value → Shared → Prop} {s : Shared} {env : Env} {v : Sem Value} {Q : Flow → Shared → Prop} {K : PySem.W.Frag} (hh : A.handled = none) (c : XC K C bm)
    (h : wpAny M A v (fun u s1 => ∃ e oe a0, u = .ref e ∧ K.In s1.heap ∧ s1.heap.get? e = some oe ∧ oe.cls = .ref C ∧ oe.data = .fields #[a0, .none, .none, .none, .bool false, .none] ∧ E u s1) E s) : wpAny M A (raiseStmt env (some v) none) Q E s := by
  have hB := c.has (v := .type "BaseException") (by decide)
  obtain ⟨nm, qn, N, bs, sn, sub, ab, col, dd, k0, k1, k2, k3, k5, lk⟩ := c.lk
  unfold raiseStmt
  refine wpAny_bind (wpAny_mono h (fun u s1 z => ?_) fun _ _ z => z)
  obtain ⟨e, oe, a0, rfl, X, he, hc, hd, hE⟩ := z
  have cC := X _ _ lk
  obtain ⟨hp, g, d, tk, os⟩ := s1
  obtain ⟨oc, odi, oda, osl⟩ := oe
  dsimp only at hc hd
  subst hc hd
  repeat (first
    | with_reducible refine wpAny_loadPart_at he ?_
    | with_reducible refine wpAny_loadPart_at cC ?_
    | (with_reducible refine wpAny_isSubtype_exc cC ?_; rw [hB])
    | wp_step)
  exact wpAny_raiseNew_none hh hE
/-- an exception that was just made leaves as E wants -/
theorem XIn.fresh {E : XS} {σ : St} {H1 H2 : Hp} {s1 s2 : Shared} {pins : List (Addr × Obj)} {e : Addr} {dx : Option Addr} (I1 : Inv X pins σ H1 s1) (I2 : Inv X pins σ H2 s2) (le : s1.heap.objs.size ≤ e) (hx : H2 e = some (xO true (.ref C) dx e)) (hE : E (.ref C) dx σ (del H2 e)) : XIn X E (.ref e) s2 := by
  obtain ⟨⟨oe, vs, g1, g2, g3, g4, g5⟩, _⟩ := (show ObjOk X.prog X.w H2 s2.heap e (xO true (.ref C) dx e) from I2.hok e _ hx)
  obtain ⟨a0, rfl⟩ := g5 rfl
  refine ⟨e, .ref C, dx, σ, del H2 e, rfl, (I2.untrack hx).pins_of fun p hp => absurd hp (by simp), ⟨del_same, Nat.le_trans I1.sz le, Nat.ne_of_gt (Nat.lt_of_lt_of_le I1.lt le), fun y c q z => ?_, fun p hp z => ?_⟩, .inl ⟨rfl, oe, _, g1, g2, g3, g4, rfl⟩, hE⟩
  · obtain ⟨v, q⟩ := I1.cell y c q
    exact absurd (Nat.lt_of_lt_of_le q.lt (by rw [z]; exact le)) (Nat.lt_irrefl _)
  · exact absurd (Nat.lt_of_lt_of_le (Heap.lt_size (I1.pin p (List.mem_append_left _ hp)).1) (by rw [z]; exact le)) (Nat.lt_irrefl _)
def tRaise0 (C : Addr) (E : XS) (t : TA) : TS := fun _ σ H => t σ H fun vs H1 => vs.length ≤ sizeLine ∧ E (.ref C) none σ H1
theorem ps_raise0 {E : XS} (hc : X.calm = true) (c : XC X.K C bm) (hi : PySem.W.findIn X.K (.ref C) "__init__" = some (some (.builtin "ValueError.__init__"))) (hm : X.mg x = some (.ref C)) (ha : PA (X.raises E) (e :: es) t) (hg : Gl X x := by rfl)
    (hdb : (x == ("__debug__" : Str)) = false := by decide) (he : starEach (e :: es) X.env = (false, eval e X.env) :: starEach es X.env := by rfl) (hpl : (backTo pos (starEach es X.env)).any (·.1) = false := by rfl) :
    PS (X.raises E) (.Raise (some (.Call (.Name x p) (e :: es) [] pos)) none rpos) (tRaise0 C E t) := by
  intro pins s σ H D I h
  rw [arm_exec_Raise]
  refine wpAny_bind (wpAny_standAt ?_)
  refine x_raise (K := X.K) (I.ok.hd hc) c (wpAny_bind (ev_exc (X := X.raises E) c hg hm ha I h (fun us vs s1 H1 I1 r ⟨z, q⟩ _ => thn (run_x0 (X := X.raises E) (Q := fun e H2 => H2 = upd H1 e (xO true (.ref C) none e) ∧ H1 e = none) c hi I1 r z fun e z => ⟨rfl, z⟩) fun u s2 ⟨e2, H2, eu, le, I2, eH, h0⟩ => ?_) hdb he hpl))
  subst eu eH
  have hx : upd H1 e2 (xO true (.ref C) none e2) e2 = some (xO true (.ref C) none e2) := upd_same
  obtain ⟨⟨oe, vs', g1, g2, g3, g4, g5⟩, _⟩ := (show ObjOk X.prog X.w _ s2.heap e2 (xO true (.ref C) none e2) from I2.hok e2 _ hx)
  obtain ⟨a0, rfl⟩ := g5 rfl
  exact wpAny_bind (wpAny_standAt (wpAny_pure ⟨e2, oe, a0, rfl, I2.kIn, g1, g2, g4, XIn.fresh I1.unwish I2.unwish le hx (by rw [del_upd h0]; exact q)⟩))
end
/-! ### a call of what a local name holds, which may raise -/
section
variable {X : Cx} {E : XS} {k : Nat} {Fam : Addr → Sp → Prop} {x : Str} {p pos : Pos} {e : Expr} {es : List Expr} {tf : TE} {t : TA}
end
end L2

set_option Elab.async false
set_option linter.all false
set_option maxRecDepth 100000
set_option maxHeartbeats 4000000
namespace L2
open PySem PySem.Spec PyProof.Rows

/-! ### a list comprehension within which others read its names: cells of its own -/
theorem cells_app : ∀ (l : List (Str × NameKind)) (n : Nat) (acc : List (Str × Addr)), cellsFrom n l acc = cellsFrom n l [] ++ acc
  | [], _, _ => rfl
  | (y, k) :: r, n, acc => by
    unfold cellsFrom
    split
    · rw [cells_app r (n + 1) ((y, n) :: acc), cells_app r (n + 1) [(y, n)], List.append_assoc]; rfl
    · exact cells_app r n acc
theorem own_mem {x : Str} {c : Addr} : ∀ {l : List (Str × NameKind)} {n : Nat} {acc : List (Str × Addr)}, (x, c) ∈ cellsFrom n l acc → (x, NameKind.cell) ∈ l ∨ (x, c) ∈ acc
  | [], _, _, h => .inr h
  | (y, k) :: r, n, acc, h => by
    unfold cellsFrom at h
    split at h
    · rename_i hk
      have hk' : k = .cell := by simpa using hk
      rcases own_mem h with q | q
      · exact .inl (List.mem_cons_of_mem _ q)
      · rcases List.mem_cons.mp q with z | z
        · cases z; subst hk'; exact .inl List.mem_cons_self
        · exact .inr z
    · rcases own_mem h with q | q
      · exact .inl (List.mem_cons_of_mem _ q)
      · exact .inr q
theorem own_has {x : Str} : ∀ {l : List (Str × NameKind)} {n : Nat} {acc : List (Str × Addr)}, ((x, NameKind.cell) ∈ l ∨ ∃ c, (x, c) ∈ acc) → ∃ c, (x, c) ∈ cellsFrom n l acc
  | [], _, _, h => by
    rcases h with h | h
    · cases h
    · exact h
  | (y, k) :: r, n, acc, h => by
    unfold cellsFrom
    split
    · rename_i hk
      refine own_has ?_
      rcases h with h | ⟨c, h⟩
      · rcases List.mem_cons.mp h with z | z
        · cases z; exact .inr ⟨n, List.mem_cons_self⟩
        · exact .inl z
      · exact .inr ⟨c, List.mem_cons_of_mem _ h⟩
    · rename_i hk
      refine own_has ?_
      rcases h with h | h
      · rcases List.mem_cons.mp h with z | z
        · cases z; exact absurd rfl hk
        · exact .inl z
      · exact .inr h
abbrev ownCs (scope : Scope) (C : Addr) : List (Str × Addr) := cellsFrom (C + 1) scope.names []
def cxCC (X : Cx) (N : List Str) (scope : Scope) (cl : List (Str × Addr)) (C : Addr) (s2 : Shared) (H2 : Hp) (fp : List Addr) : Cx := { cxC X N scope (cellsFrom (C + 1) scope.names cl) C s2 H2 fp with fn := fun x => scope.names.lookup x == some .cell }
structure CompScopeC (X : Cx) (N : List Str) (mp : List (Option Nat)) (scope : Scope) : Prop where
  kind : scope.kind = .function
  cells : ∀ y ∈ scope.names, y.2 = .cell → scope.names.lookup y.1 = some .cell
  names : ∀ y ∈ scope.names, y.2 = .local → scope.names.lookup y.1 = some .local
  len : mp.length = N.length
  out : ∀ (i j : Nat), mp[i]? = some (some j) → ∃ x, N[i]? = some x ∧ X.N[j]? = some x ∧ (X.env.scope.names.lookup x = some .cell ∨ X.env.scope.names.lookup x = some .free) ∧ scope.names.lookup x = some .free
section
variable {M : Model} {A : Around} {E : Value → Shared → Prop} {s : Shared}
theorem newEnv_cells {scope : Scope} {globals builtins : Addr} {cl : List (Str × Addr)} {qual : Str} {env : Env} {Q : Env → Shared → Prop}
    (h : Q (newEnv scope s.heap.objs.size globals (cellsFrom (s.heap.objs.size + 1) scope.names cl) qual none .none (some env) builtins) { s with heap := pushCells (s.heap.push PySem.W.emptyDict) scope.names }) :
    wpAny M A (newFunctionEnv scope globals cl [] qual none .none (some env) builtins) Q E s := by
  simp only [newFunctionEnv, Option.isSome_some, if_true]
  refine wpAny_bind (wpAny_alloc ?_)
  refine wpAny_bind (wpAny_layCells _ (fun name kind cells => by cases hkc : kind == NameKind.cell <;> simp [hkc]) _ _ _ _ ?_)
  rw [show ({ s with heap := s.heap.push { cls := .type "dict", data := .dict #[] } } : Shared).heap.objs.size = s.heap.objs.size + 1 from Heap.size_push ..]
  refine wpAny_bind (wpAny_pure ?_)
  exact wpAny_pure h
end
section
variable {X : Cx}
theorem comp_invC {pins : List (Addr × Obj)} {σ : St} {H : Hp} {s2 : Shared} {N : List Str} {mp : List (Option Nat)} {scope : Scope} {cl : List (Str × Addr)} {fp : List Addr} {h1 : Heap} {tk : Nat} (I : Inv X pins σ H s2) (S : CompScopeC X N mp scope)
    (hcl : closes X.env.cells scope.names [] = some cl) (hfp : ∀ b ∈ fp, FpOk X pins H b) (hfo : ∀ b ∈ fp, ∃ o, s2.heap.get? b = some o)
    (old : ∀ b o, s2.heap.get? b = some o → h1.get? b = some o) (hD : h1.get? s2.heap.objs.size = some { cls := .type "list", data := .seq ([] : List Value).toArray }) {m : Str → Option Value} (hC : h1.Ns (s2.heap.objs.size + 1) m) (cok : CellsOk h1 (s2.heap.objs.size + 2) (ownCs scope (s2.heap.objs.size + 1))) :
    Inv (cxCC X N scope cl (s2.heap.objs.size + 1) s2 H fp) [] (compStart0 mp σ) (upd H s2.heap.objs.size (.lst [])) { s2 with heap := h1, toks := tk } := by
  have clm : ∀ {x : Str} {c : Addr}, cl.lookup x = some c → X.env.cells.lookup x = some c := fun {x c} e => closes_mem hcl (fun p z => absurd z (by simp)) (x, c) (PySem.mem_of_lookup e)
  have hn : H s2.heap.objs.size = none := I.hok.fresh (Nat.le_refl _)
  have hnC : H (s2.heap.objs.size + 1) = none := I.hok.fresh (Nat.le_succ _)
  have cellLt : ∀ {x : Str} {c : Addr}, X.env.cells.lookup x = some c → c < s2.heap.objs.size := fun {x c} e => by
    obtain ⟨v, q⟩ := I.cell x c e
    exact q.lt
  have freeOf : ∀ x, ((relabel scope X.env).names.lookup x = some .cell ∨ (relabel scope X.env).names.lookup x = some .free) → (x, NameKind.free) ∈ scope.names ∨ (x, NameKind.cell) ∈ scope.names := fun x hx => by
    have hm : (x, NameKind.cell) ∈ (relabel scope X.env).names ∨ (x, NameKind.free) ∈ (relabel scope X.env).names := hx.elim (fun z => .inl (PySem.mem_of_lookup z)) fun z => .inr (PySem.mem_of_lookup z)
    have conv : ∀ k, (x, k) ∈ (relabel scope X.env).names → (k = .cell ∨ k = .free) → (x, NameKind.free) ∈ scope.names ∨ (x, NameKind.cell) ∈ scope.names := fun k hm hk => by
      obtain ⟨⟨n, k'⟩, hy, e⟩ := List.mem_map.mp hm
      dsimp only at e
      split at e
      · rename_i hc
        simp only [Bool.and_eq_true, beq_iff_eq] at hc
        cases e
        rw [hc.1.1] at hy
        exact .inl hy
      · cases e
        rcases hk with z | z
        · subst z; exact .inr hy
        · subst z; exact .inl hy
    exact hm.elim (fun z => conv _ z (.inl rfl)) fun z => conv _ z (.inr rfl)
  have app : ∀ x, (cellsFrom (s2.heap.objs.size + 1 + 1) scope.names cl).lookup x = ((ownCs scope (s2.heap.objs.size + 1)).lookup x).or (cl.lookup x) := fun x => by rw [cells_app, List.lookup_append]
  have two : ∀ {x : Str} {c : Addr}, (cellsFrom (s2.heap.objs.size + 1 + 1) scope.names cl).lookup x = some c → ((ownCs scope (s2.heap.objs.size + 1)).lookup x = some c ∧ (h1.IsCell c none ∧ s2.heap.objs.size + 2 ≤ c)) ∨ X.env.cells.lookup x = some c := fun {x c} e => by
    rw [app] at e
    cases eo : (ownCs scope (s2.heap.objs.size + 1)).lookup x with
    | some d =>
      rw [eo] at e
      cases e
      exact .inl ⟨rfl, cok.empty _ _ (PySem.mem_of_lookup eo)⟩
    | none =>
      rw [eo] at e
      exact .inr (clm e)
  have ownHas : ∀ {x : Str}, (x, NameKind.cell) ∈ scope.names → ∃ c, (ownCs scope (s2.heap.objs.size + 1)).lookup x = some c := fun {x} hx => by
    obtain ⟨c, hc⟩ := own_has (n := s2.heap.objs.size + 1 + 1) (acc := []) (.inl hx)
    obtain ⟨d, hd, _⟩ := lookup_of_mem hc
    exact ⟨d, hd⟩
  have ok : (cxCC X N scope cl (s2.heap.objs.size + 1) s2 H fp).Ok := by
    refine ⟨I.ok.mod, S.kind, I.ok.glob, I.ok.blt, Nat.le_succ _, fun x y c e1 e2 => ?_, fun x hx => ?_, fun x c z e => ?_, I.ok.hd, I.ok.frames, .inl rfl, fun b hb => ⟨?_, fun x c e => ?_⟩, I.bs, Nat.le_trans I.ok.bsz I.sz, fun b o e hb => ?_, fun b hb z => ?_, I.stack, I.stkFree⟩
    · rcases two e1 with ⟨o1, _, l1⟩ | o1 <;> rcases two e2 with ⟨o2, _, l2⟩ | o2
      · exact name_of_addr cok.apart (PySem.mem_of_lookup o1) (PySem.mem_of_lookup o2)
      · exact absurd (Nat.lt_of_lt_of_le (cellLt o2) (Nat.le_trans (Nat.le_add_right _ 2) l1)) (Nat.lt_irrefl _)
      · exact absurd (Nat.lt_of_lt_of_le (cellLt o1) (Nat.le_trans (Nat.le_add_right _ 2) l2)) (Nat.lt_irrefl _)
      · exact I.ok.inj x y c o1 o2
    · show ∃ c, (cellsFrom (s2.heap.objs.size + 1 + 1) scope.names cl).lookup x = some c
      rcases freeOf x hx with q | q
      · obtain ⟨c, hc⟩ := closes_has hcl (.inl q)
        obtain ⟨d, hd, _⟩ := lookup_of_mem hc
        rw [app, hd]
        cases (ownCs scope (s2.heap.objs.size + 1)).lookup x with
        | none => exact ⟨d, rfl⟩
        | some c' => exact ⟨c', rfl⟩
      · obtain ⟨c, hc⟩ := ownHas q
        exact ⟨c, by rw [app, hc]; rfl⟩
    · have z' : scope.names.lookup x = some .cell := beq_iff_eq.mp z
      obtain ⟨c', hc'⟩ := ownHas (PySem.mem_of_lookup z')
      have e' : (cellsFrom (s2.heap.objs.size + 1 + 1) scope.names cl).lookup x = some c := e
      rw [app, hc'] at e'
      cases e'
      exact Nat.le_trans (Nat.le_add_right _ 2) (cok.empty _ _ (PySem.mem_of_lookup hc')).2
    · obtain ⟨o, e⟩ := hfo b hb
      exact Nat.ne_of_lt (Nat.lt_succ_of_lt (Heap.lt_size e))
    · rcases two e with ⟨_, _, l⟩ | o
      · obtain ⟨ob, eb⟩ := hfo b hb
        exact Ne.symm (Nat.ne_of_lt (Nat.lt_of_lt_of_le (Heap.lt_size eb) (Nat.le_trans (Nat.le_add_right _ 2) l)))
      · exact (hfp b hb).2.2.2.2.1 x c o
    · rcases (hfp b hb).2.2.2.1 with z | z
      · exact I.ok.noex b o e z
      · exact absurd (Nat.lt_of_lt_of_le (Heap.lt_size e) (Nat.le_trans I.ok.bsz z)) (Nat.lt_irrefl _)
    · rcases List.mem_cons.mp (I.stkSub b z) with q | q
      · exact (hfp b hb).2.1 q
      · exact (hfp b hb).2.2.1 q
  refine ⟨ok, rfl, I.bare, Un.laid old (Nat.le_refl _) hn, ⟨m, hC, fun i x v e1 e2 e3 => ?_⟩, fun x c e => ?_, ?_, fun x c e => ?_, (fun p hp => nomatch hp), ?_, ?_⟩
  · -- a name around
    unfold compStart0 at e2
    rw [List.getElem?_map] at e2
    cases em : mp[i]? with
    | none => rw [em] at e2; cases e2
    | some o =>
      rw [em] at e2
      cases o with
      | none => cases e2
      | some j =>
        have e2' : (σ[j]?).bind id = some v := Option.some.inj e2
        obtain ⟨x', n1, n2, n3, n4⟩ := S.out i j em
        rw [show (cxCC X N scope cl (s2.heap.objs.size + 1) s2 H fp).N[i]? = N[i]? from rfl, n1] at e1
        cases e1
        have sj : σ[j]? = some (some v) := by
          cases ej : σ[j]? with
          | none => rw [ej] at e2'; cases e2'
          | some o => rw [ej] at e2'; exact congrArg some e2'
        obtain ⟨m0, hm0, hl⟩ := I.loc
        obtain ⟨u, ru, lk⟩ := hl j x v n2 sj (.inr n3)
        refine ⟨u, ru, .inr ⟨?_, ?_⟩⟩
        · have hf : (x, NameKind.free) ∈ scope.names := PySem.mem_of_lookup n4
          -- the relabelled kind
          have key : ∀ l : List (Str × NameKind), l.lookup x = some .free → ((l.map fun (n, k) => if (k == NameKind.free && X.env.scope.kind == .function && X.env.kindOf n == some .cell) then (n, NameKind.cell) else (n, k)).lookup x = some .cell ∨
              (l.map fun (n, k) => if (k == NameKind.free && X.env.scope.kind == .function && X.env.kindOf n == some .cell) then (n, NameKind.cell) else (n, k)).lookup x = some .free) := by
            intro l
            induction l with
            | nil => intro z; cases z
            | cons y r ih =>
              obtain ⟨n, k⟩ := y
              intro z
              rw [List.lookup_cons] at z
              rw [List.map_cons]
              dsimp only
              by_cases en : (x == n) = true
              · rw [en] at z
                dsimp only at z
                cases z
                split
                · exact .inl (by rw [List.lookup_cons, en])
                · exact .inr (by rw [List.lookup_cons, en])
              · have en2 : (x == n) = false := by simpa using en
                rw [en2] at z
                dsimp only at z
                split
                · rw [List.lookup_cons, en2]; exact ih z
                · rw [List.lookup_cons, en2]; exact ih z
          exact key scope.names n4
        · have hf : (x, NameKind.free) ∈ scope.names := PySem.mem_of_lookup n4
          obtain ⟨c, hc⟩ := closes_has hcl (.inl hf)
          obtain ⟨d, hd, _⟩ := lookup_of_mem hc
          rcases lk with ⟨k1, _⟩ | ⟨_, c', hc', z⟩
          · have k1' : X.env.scope.names.lookup x = some .local := k1
            rcases n3 with z | z <;> (rw [k1'] at z; cases z)
          · have e := clm hd
            rw [hc'] at e
            have e3 : c' = d := Option.some.inj e
            obtain ⟨o, ho, hdt⟩ := z
            rw [e3] at ho
            have no : (ownCs scope (s2.heap.objs.size + 1)).lookup x = none := by
              cases eo : (ownCs scope (s2.heap.objs.size + 1)).lookup x with
              | none => rfl
              | some c0 =>
                rcases own_mem (PySem.mem_of_lookup eo) with q | q
                · have := S.cells _ q rfl
                  rw [n4] at this
                  cases this
                · cases q
            exact ⟨d, by show (cellsFrom (s2.heap.objs.size + 1 + 1) scope.names cl).lookup x = some d; rw [app, no]; exact hd, o, old _ _ ho, hdt⟩
  · rcases two e with ⟨_, ic, _⟩ | q
    · exact ⟨_, ic⟩
    · obtain ⟨v, o, ho, hdt⟩ := I.cell x c q
      exact ⟨v, o, old _ _ ho, hdt⟩
  · show upd H s2.heap.objs.size (.lst []) (s2.heap.objs.size + 1) = none
    rw [upd_ne (Nat.ne_of_gt (Nat.lt_succ_self _))]; exact hnC
  · show upd H s2.heap.objs.size (.lst []) c = none
    rcases two e with ⟨_, _, l⟩ | q
    · rw [upd_ne (Nat.ne_of_gt (Nat.lt_of_lt_of_le (Nat.lt_add_of_pos_right (by decide)) l))]
      exact I.hok.fresh (Nat.le_trans (Nat.le_add_right _ 2) l)
    · rw [upd_ne (Nat.ne_of_lt (cellLt q))]
      exact I.freeC x c q
  · exact I.hok.laid old (Nat.le_refl _) ⟨by show 0 ≤ sizeLine; exact Nat.zero_le _, [], 0, .nil, hD⟩
  · show (compStart0 mp σ).length = N.length
    unfold compStart0
    rw [List.length_map]; exact S.len

theorem comp_run {elt iter tg : Expr} {ifs : List Expr} {scope : Scope} {pos : Pos} {N : List Str} {mp : List (Option Nat)} {cl : List (Str × Addr)} {wi : TI} {g : Addr → Shared → Hp → List Addr → TG} {tt : Addr → Shared → Hp → List Addr → TT} {te : Addr → Shared → Hp → List Addr → TE}
    (hc : X.calm = true) (S : CompScopeC X N mp scope) (hcl : closes X.env.cells scope.names [] = some cl) (hi : PI X tg iter wi)
    (hg : ∀ C s2 H2 fp, PG (cxCC X N scope cl C s2 H2 fp) tg (g C s2 H2 fp)) (ht : ∀ C s2 H2 fp, PTL (cxCC X N scope cl C s2 H2 fp) ifs (tt C s2 H2 fp)) (he : ∀ C s2 H2 fp, PE (cxCC X N scope cl C s2 H2 fp) elt (te C s2 H2 fp))
    (hs : ∀ x, foldedSetIterable iter X.env x = pure x)
    {use : Option (Value → Sem Unit)} {PQ : Value → Shared → Prop} {pins : List (Addr × Obj)} {s : Shared} {σ : St} {H : Hp} {Q : VK} (I : Inv X pins σ H s) (h : tComp mp wi g tt te σ H Q)
    (fin : ∀ (H2 : Hp) (s2 : Shared) (fp : List Addr) (σ' : St) (H' : Hp) (s' : Shared), Inv X pins σ H2 s2 → (∀ b ∈ fp, FpOk X pins H2 b) → Inv (cxCC X N scope cl (s2.heap.objs.size + 1) s2 H2 fp) [] σ' H' s' → Q (.ref s2.heap.objs.size) H' →
      compPost (model X.prog X.w) X.A X.xe use PQ (.ref s2.heap.objs.size) (s2.heap.objs.size + 1) (.ok .next) s') :
    wpAny (model X.prog X.w) X.A (comprehension (.ListComp elt [⟨tg, iter, ifs, 0⟩] scope pos) scope X.env (firstIterPos [⟨tg, iter, ifs, 0⟩] pos) (newList []) (firstAsync [⟨tg, iter, ifs, 0⟩]) (firstIter [⟨tg, iter, ifs, 0⟩] X.env) use) PQ X.xe s := by
  refine wpAny_comprehension_free (use := use) rfl hs (closureFor_of hcl) S.kind S.names (thn (hi pins s σ H _ I h) fun v s1 h1 => thn h1 fun itv s2 h2 => ?_)
  obtain ⟨it, fp, tn, J, H2, e, I2, T, st2, f2, h3⟩ := h2
  subst e
  refine wpAny_newObj_type (newEnv_cells ?_)
  dsimp only
  have hn2 : H2 s2.heap.objs.size = none := I2.hok.fresh (Nat.le_refl _)
  generalize hH2 : s2.heap.push { cls := .type "list", dict := none, data := .seq ([] : List Value).toArray } = G2
  have hC : G2.objs.size = s2.heap.objs.size + 1 := by rw [← hH2, Heap.size_push]
  generalize hh1 : pushCells (G2.push PySem.W.emptyDict) scope.names = h₁
  have old1 : ∀ b o, G2.get? b = some o → h₁.get? b = some o := fun b o e => by rw [← hh1]; exact pushCells_keeps _ _ b o (Heap.get?_push_of_some _ e)
  have old : ∀ b o, s2.heap.get? b = some o → h₁.get? b = some o := fun b o e => old1 b o (hH2 ▸ Heap.get?_push_of_some _ e)
  have hD1 : h₁.get? s2.heap.objs.size = some { cls := .type "list", data := .seq ([] : List Value).toArray } := old1 _ _ (hH2 ▸ Heap.get?_push_size _ rfl)
  have hns₁ : h₁.Ns (s2.heap.objs.size + 1) (fun _ => none) := by
    have e1 : h₁.get? G2.objs.size = some PySem.W.emptyDict := by rw [← hh1]; exact pushCells_keeps _ _ _ _ (Heap.get?_push_size _ rfl)
    rw [hC] at e1
    exact ⟨_, #[], _, e1, rfl, fun e he => absurd he (by simp), fun _ => rfl⟩
  have cok : CellsOk h₁ (s2.heap.objs.size + 2) (ownCs scope (s2.heap.objs.size + 1)) := by
    have := cellsFrom_ok scope.names (G2.push PySem.W.emptyDict) (s2.heap.objs.size + 2) [] ⟨fun _ _ hm => (nomatch hm), List.Pairwise.nil⟩ (by rw [Heap.size_push, hC]; exact Nat.le_refl _)
    rw [Heap.size_push, hC, hh1] at this
    exact this
  obtain ⟨W, ⟨m0, w0⟩, turn⟩ := h3 s2.heap.objs.size hn2 (s2.heap.objs.size + 1) s2 fp
  have I4 := comp_invC (tk := s2.toks) I2 S hcl f2 (fun b hb => let ⟨o, e, _⟩ := T.obj _ _ st2 b hb; ⟨o, e⟩) old hD1 hns₁ cok
  have st4 : tn 0 h₁ := T.keep _ _ _ st2 fun b hb o e => old b o e
  have stat : ∀ {pl : List (Addr × Obj)} {H' : Hp}, (∀ b ∈ fp, H' b = none) → (∀ p ∈ pl, p.1 ∉ fp) → ∀ b ∈ fp, FpOk (cxCC X N scope cl (s2.heap.objs.size + 1) s2 H2 fp) pl H' b := fun {pl H'} hn hp b hb =>
    ⟨hn b hb, (I4.ok.exf b hb).1, I4.ok.exfs b hb, .inl hb, (I4.ok.exf b hb).2, fun p z q => hp p (by simpa [cxC, cxCC] using z) (by rw [q]; exact hb)⟩
  have fr0 : ∀ b ∈ fp, (upd H2 s2.heap.objs.size (.lst [])) b = none := fun b hb => by
    obtain ⟨o, e, _⟩ := T.obj _ _ st2 b hb
    rw [upd_ne (Nat.ne_of_lt (Heap.lt_size e))]
    exact (f2 b hb).1
  have loop : codeAny (model X.prog X.w) X.A (.compLoop (.ListComp elt [⟨tg, iter, ifs, 0⟩] scope pos) 0 (.ref it) (.ref s2.heap.objs.size) (compEnvC scope (cellsFrom (s2.heap.objs.size + 1 + 1) scope.names cl) (s2.heap.objs.size + 1) X.env))
      (compPost (model X.prog X.w) X.A X.xe use PQ (.ref s2.heap.objs.size) (s2.heap.objs.size + 1)) { s2 with heap := h₁, toks := s2.toks } := by
    refine compLoop_go (fun n s' => ∃ i σ' H', Inv (cxCC X N scope cl (s2.heap.objs.size + 1) s2 H2 fp) [] σ' H' s' ∧ tn i s'.heap ∧ (∀ b ∈ fp, H' b = none) ∧ W i n σ' H') ?_ m0 ⟨0, _, _, I4, st4, fr0, w0⟩
    rintro n s3 ⟨i, σ3, H3, I3, st3, fr3, w3⟩
    rcases turn i n σ3 H3 w3 with ⟨stop, qn⟩ | ⟨go, N', hN, step⟩
    · refine (thn (T.done (cxCC X N scope cl (s2.heap.objs.size + 1) s2 H2 fp) rfl rfl rfl hc i [] s3 σ3 H3 (fun _ _ => False) I3 (stat fr3 (fun _ z => nomatch z)) st3 stop) fun r s4 ⟨hr, I4'⟩ => ?_)
      subst hr
      exact fin H2 s2 fp _ _ _ I2 f2 I4' qn
    · refine (thn (T.item (cxCC X N scope cl (s2.heap.objs.size + 1) s2 H2 fp) rfl rfl rfl hc i [] s3 σ3 H3 (fun _ _ => False) I3 (stat fr3 (fun _ z => nomatch z)) st3 go) fun r s4 ⟨u, hr, h4⟩ => ?_)
      subst hr
      refine thn h4 fun _ s5 ⟨x, H5, I5, r5, y5, st5, fr5⟩ => ?_
      have I5' := I5.pinned (pins := []) (stat fr5 (fun _ z => nomatch z)) (T.obj _ _ st5)
      refine (thn (hg (s2.heap.objs.size + 1) s2 H2 fp _ s5 σ3 H5 x u _ I5' r5 (step x H5 y5)) fun _ s6 ⟨σ6, H6, I6, q6⟩ => ?_)
      refine (thn (ht (s2.heap.objs.size + 1) s2 H2 fp _ s6 σ6 H6 _ I6 q6) fun b s7 ⟨H7, I7, q7⟩ => ?_)
      have again : ∀ {σ7 : St} {H7 : Hp} {s7 : Shared}, Inv (cxCC X N scope cl (s2.heap.objs.size + 1) s2 H2 fp) ([] ++ pinsAt fp s5.heap) σ7 H7 s7 → N' σ7 H7 → ∃ m, m < n ∧ ∃ i σ' H', Inv (cxCC X N scope cl (s2.heap.objs.size + 1) s2 H2 fp) [] σ' H' s7 ∧ tn i s7.heap ∧ (∀ b ∈ fp, H' b = none) ∧ W i m σ' H' := fun {σ7 H7 s7} I7 n7 => by
        obtain ⟨m', hm, w7⟩ := hN σ7 H7 n7
        refine ⟨m', hm, i + 1, σ7, H7, I7.unpinned, T.keep _ _ _ st5 fun b hb o e => (I7.pin (b, o) (List.mem_append_right _ (List.mem_append_right _ (mem_pinsAt hb e)))).1, fun b hb => ?_, w7⟩
        obtain ⟨o, e, d⟩ := T.obj _ _ st5 b hb
        exact (I7.pin (b, o) (List.mem_append_right _ (List.mem_append_right _ (mem_pinsAt hb e)))).2.1
      cases b with
      | false =>
        rw [if_neg Bool.false_ne_true] at q7 ⊢
        exact again I7 q7
      | true =>
        rw [if_pos rfl] at q7 ⊢
        refine (thn (he (s2.heap.objs.size + 1) s2 H2 fp _ s7 σ6 H7 _ I7 q7) fun y s8 ⟨yv, H8, I8, ry, xs, hx, hz, n8⟩ => ?_)
        refine (thn (mt_append (X := cxCC X N scope cl (s2.heap.objs.size + 1) s2 H2 fp) _ s8 σ6 H8 (.ref s2.heap.objs.size) [yv] (.ref s2.heap.objs.size) [y] (fun _ H' => N' σ6 H') I8 rfl (.cons ry .nil) ⟨_, xs, yv, rfl, rfl, hx, hz, n8⟩) fun _ s9 ⟨_, H9, I9, _, n9⟩ => ?_)
        exact again I9 n9
  have goal := codeAny_compStart_list loop (T.self X.A 0 { s2 with heap := h₁, toks := s2.toks } _ _ st4 loop)
  rw [hC]
  exact goal

/-- behind the block: the state in the context around it; C is the block's own -/
theorem comp_back {N : List Str} {scope : Scope} {cl : List (Str × Addr)} {pins : List (Addr × Obj)} {σ σ' : St} {H2 H' : Hp} {s2 s' : Shared} {fp : List Addr} {h'' : Heap} (I2 : Inv X pins σ H2 s2) (f2 : ∀ b ∈ fp, FpOk X pins H2 b) (J' : Inv (cxCC X N scope cl (s2.heap.objs.size + 1) s2 H2 fp) [] σ' H' s')
    (keepC : ∀ b o, b ≠ s2.heap.objs.size + 1 → s'.heap.get? b = some o → h''.get? b = some o) : Inv X pins σ H' { s' with heap := h'' } := by
  have u0 := J'.base
  have neC : ∀ b o, s2.heap.get? b = some o → b ≠ s2.heap.objs.size + 1 := fun b o e => Nat.ne_of_lt (Nat.lt_succ_of_lt (Heap.lt_size e))
  have u : Un (frs X.stack) fp H2 H' s2.heap h'' := ⟨fun b o e n hb hx => keepC b o (neC b o e) (u0.keep b o e n hb hx), fun b o e n hb hx => by
      obtain ⟨sl, e1⟩ := u0.slot b o e n hb hx
      exact ⟨sl, keepC b _ (neC b o e) e1⟩, u0.free, fun b o e hx => by
      obtain ⟨o', e1⟩ := u0.there b o e hx
      exact ⟨o', keepC b o' (neC b o e) e1⟩, u0.tups, u0.frzs, u0.tbls⟩
  have freeC : H' (s2.heap.objs.size + 1) = none := J'.free
  have hok : HOk X.prog X.w H' h'' := fun b o e => (J'.hok b o e).stay (fun c v hcc r => keepC c v (by
      intro z
      rcases hcc with q1 | q1
      · rw [← q1, z, freeC] at e; cases e
      · rw [z, freeC] at q1; cases q1) r) (fun _ z => z) fun _ _ z => z
  exact I2.call' (s' := { s' with heap := h'' }) J'.os u hok J'.bare fun b hb => ⟨(f2 b hb).2.2.2.1, (f2 b hb).2.1, (f2 b hb).2.2.2.2.1, (f2 b hb).2.2.2.2.2⟩
theorem pe_compC {elt iter tg : Expr} {ifs : List Expr} {scope : Scope} {pos : Pos} {N : List Str} {mp : List (Option Nat)} {cl : List (Str × Addr)} {wi : TI} {g : Addr → Shared → Hp → List Addr → TG} {tt : Addr → Shared → Hp → List Addr → TT} {te : Addr → Shared → Hp → List Addr → TE}
    (hc : X.calm = true) (S : CompScopeC X N mp scope) (hcl : closes X.env.cells scope.names [] = some cl) (hi : PI X tg iter wi)
    (hg : ∀ C s2 H2 fp, PG (cxCC X N scope cl C s2 H2 fp) tg (g C s2 H2 fp)) (ht : ∀ C s2 H2 fp, PTL (cxCC X N scope cl C s2 H2 fp) ifs (tt C s2 H2 fp)) (he : ∀ C s2 H2 fp, PE (cxCC X N scope cl C s2 H2 fp) elt (te C s2 H2 fp))
    (hs : ∀ x, foldedSetIterable iter X.env x = pure x := by intro _; rfl) :
    PE X (.ListComp elt [⟨tg, iter, ifs, 0⟩] scope pos) (tComp mp wi g tt te) := by
  intro pins s σ H Q I h
  rw [eval_ListComp]
  refine comp_run hc S hcl hi hg ht he hs I h fun H2 s2 fp σ' H' s' I2 f2 J' q => ?_
  obtain ⟨m, hm, _⟩ := id J'.loc
  exact ⟨m, hm, fun h'' sb => ⟨.ref s2.heap.objs.size, H', comp_back I2 f2 J' fun b o hb e => sb.extBut b o hb e, rfl, q⟩⟩
/-- x = [..] on one line: the name is bound ahead of the block's end -/
theorem ps_setC {i : Nat} {x : Str} {pos' spos : Pos} {elt iter tg : Expr} {ifs : List Expr} {scope : Scope} {pos : Pos} {N : List Str} {mp : List (Option Nat)} {cl : List (Str × Addr)} {wi : TI} {g : Addr → Shared → Hp → List Addr → TG} {tt : Addr → Shared → Hp → List Addr → TT} {te : Addr → Shared → Hp → List Addr → TE}
    (hN : X.N.Nodup) (hx : X.N[i]? = some x) (hl : Loc X.env.scope x) (hc : X.calm = true) (S : CompScopeC X N mp scope) (hcl : closes X.env.cells scope.names [] = some cl) (hi : PI X tg iter wi)
    (hg : ∀ C s2 H2 fp, PG (cxCC X N scope cl C s2 H2 fp) tg (g C s2 H2 fp)) (ht : ∀ C s2 H2 fp, PTL (cxCC X N scope cl C s2 H2 fp) ifs (tt C s2 H2 fp)) (he : ∀ C s2 H2 fp, PE (cxCC X N scope cl C s2 H2 fp) elt (te C s2 H2 fp))
    (hs : ∀ x, foldedSetIterable iter X.env x = pure x := by intro _; rfl)
    (hsw : swapsWith (.ListComp elt [⟨tg, iter, ifs, 0⟩] scope pos) (some (.Name x pos')) spos.line X.env = pure true := by rfl)
    (hf : X.fn x = true ∨ X.env.scope.names.lookup x = some .local := by first | exact .inl rfl | exact .inr rfl | assumption) :
    PS X (.Assign [.Name x pos'] (.ListComp elt [⟨tg, iter, ifs, 0⟩] scope pos) spos) (fun D σ H => tComp mp wi g tt te σ H fun v H1 => D.nx (σ.set i (some v)) H1) := by
  intro pins s σ H D I h
  rw [exec_Assign_Name_used _ _ _ _ hsw]
  refine wpAny_bind (wpAny_standAt ?_)
  rw [arm_evalThenUse_ListComp]
  refine wpAny_bind (wpAny_bind (thn (comp_run hc S hcl hi hg ht he hs (PQ := fun _ s' => SP X pins D .next s') I h fun H2 s2 fp σ' H' s' I2 f2 J' q => ?_) fun _ _ z => wpAny_pure (wpAny_pure z)))
  · obtain ⟨m, ⟨oC, es, ep, ho, r⟩, _⟩ := id J'.loc
    have I3 : Inv X pins σ H' s' := comp_back (h'' := s'.heap) I2 f2 J' fun b o _ e => e
    have nL : s2.heap.objs.size + 1 ≠ X.env.locals := Nat.ne_of_gt (Nat.lt_of_lt_of_le I2.lt (Nat.le_succ _))
    have nf : s2.heap.objs.size + 1 ∉ X.fs := I2.nofs (Nat.le_succ _)
    have fp := Inv.fpOk (H' := H') I2 (Nat.le_succ _) (b := s2.heap.objs.size + 1) J'.free
    have I4 : Inv X (pins ++ [(s2.heap.objs.size + 1, oC)]) σ H' s' := I3.pins_of fun p hp => by
      rcases List.mem_append.mp hp with z | z
      · exact I3.pin p (List.mem_append_right _ z)
      · have e : p = (s2.heap.objs.size + 1, oC) := by simpa using z
        subst e
        exact ⟨ho, J'.free, nL, nf, fun v z => by rw [r.1] at z; cases z⟩
    show wpAny _ _ (assign (.Name x pos') X.env _) _ _ _
    refine wpAny_bind (wpAny_standAt (wpAny_bindName (store_ok I4 hN hx hl (show RelV (.ref s2.heap.objs.size) (.ref s2.heap.objs.size) from rfl) (fun s5 I5 => ?_) hf)))
    obtain ⟨hC, _⟩ := I5.pin (s2.heap.objs.size + 1, oC) (List.mem_append_right _ (List.mem_append_right _ (by simp)))
    refine ⟨m, ⟨oC, es, ep, hC, r⟩, fun h' sb => ⟨_, H', ?_, q⟩⟩
    have I6 : Inv X pins (σ.set i (some (.ref s2.heap.objs.size))) H' s5 := I5.pins_of fun p hp => I5.pin p (List.mem_append_right _ (List.mem_append_left _ hp))
    exact I6.turned (t' := s5.toks) (it := s2.heap.objs.size + 1) (fun b o hb e => sb.extBut b o hb e) fp.1 fp.2.1 fp.2.2.2.1 fp.2.2.2.2.1 fp.2.2.2.2.2

theorem csC_of {N : List Str} {scope : Scope} (mp : List (Option Nat)) (h1 : scope.kind = .function) (h2 : ∀ y ∈ scope.names, y.2 = .cell → scope.names.lookup y.1 = some .cell) (h3 : ∀ y ∈ scope.names, y.2 = .local → scope.names.lookup y.1 = some .local) (h4 : mp.length = N.length)
    (h5 : outChk X.N X.env.scope.names N scope.names mp 0 = true) : CompScopeC X N mp scope :=
  ⟨h1, h2, h3, h4, fun i j e => by
    obtain ⟨x, a, b, c, d⟩ := outChk_ok h5 i j e
    exact ⟨x, by simpa using a, b, c, d⟩⟩
end
end L2

set_option Elab.async false
set_option linter.all false
set_option maxRecDepth 100000
set_option maxHeartbeats 1000000
namespace L2
open PySem PySem.Spec PyProof.Rows
/-- != of scalars, of a tuple and a text -/
def rNeX : R2 := fun x y H Q => rNe x y H Q ∨ ∃ p xs b, x = .ref p ∧ y = .str b ∧ H p = some (.tup xs) ∧ Q (.bl true) H
theorem op_neX {X : Cx} (hA : X.A.units + 60 < cLine) : OpR X (compareOp .NotEq) rNeX := by
  intro pins s σ H x y u v Q I ru rv h
  rcases h with h | ⟨p, xs, b, rfl, rfl, hp, q⟩
  · exact op_ne pins s σ H x y u v Q I ru rv h
  · cases ru
    obtain ⟨t, rfl⟩ := (show ∃ t, v = Value.str b t from rv)
    obtain ⟨_, its, r, tp⟩ := (show ObjOk X.prog X.w H s.heap p (.tup xs) from I.hok p _ hp)
    exact SeqAt.RcNeAt.tuple_str (A := X.A) b t (show s.heap.IsTuple p its.toArray from tp) (by omega) X.prog X.w X.xe _ ⟨.bl true, H, I, rfl, q⟩
section
variable {P : Program} {w : World} {K : PySem.W.Frag} {mg : Str → Option Value} {base : Heap}
/-- either promise -/
theorem FnOk.or {CX : CXT} {f : Addr} {fd : FuncData} {ps : List Str} {k : Nat} {sp sp' : Sp} (F : FnOk P w K mg base CX k f fd ps sp) (G : FnOk P w K mg base CX k f fd ps sp') : FnOk P w K mg base CX k f fd ps (fun vs H Q E => sp vs H Q E ∨ sp' vs H Q E) :=
  ⟨fun vs H Q E h => h.elim (F.len vs H Q E) (G.len vs H Q E), fun A outer s H args us vs Q E hr he hb hv hs => hs.elim (F.run A outer s H args us vs Q E hr he hb hv) (G.run A outer s H args us vs Q E hr he hb hv)⟩
end
end L2

set_option Elab.async false
set_option linter.all false
set_option maxRecDepth 100000
set_option maxHeartbeats 1000000
namespace L2
open PySem PySem.Spec PyProof.Rows
/-! ### a text (ASCII), sign by sign -/
def Its (z : Str) : It := ⟨fun i _ => i < (cs z).length, fun i H x H' => H' = H ∧ ∃ c, (cs z)[i]? = some c ∧ x = .str ⟨#[c]⟩, fun i _ => (cs z).length ≤ i⟩
theorem cps_get (z : Str) (i : Nat) : z.cps[i]? = (cs z)[i]? := by
  show z.cps[i]? = z.cps.toList[i]?
  simp
theorem turn_str {P : Program} {w : World} {K : PySem.W.Frag} {tg : Expr} (z : Str) (t : Tok) (it : Addr) : Turn P w K tg (Its z) [it] it (fun i h => h.IsStrIter it "str_ascii_iterator" z t i) where
  mem := by simp
  obj := fun i h st b hb => by
    have e : b = it := by simpa using hb
    subst e
    obtain ⟨o, e, c, d⟩ := st
    exact ⟨o, e, fun v z => by rw [d] at z; cases z⟩
  keep := fun i h h' ⟨o, e, r⟩ k => ⟨o, k it (by simp) o e, r⟩
  item := by
    intro X hP hw hK hc i pins s σ H E I hf st hg
    subst hP hw hK
    obtain ⟨f0, f1, f2, f3, f4, f5⟩ := hf it (by simp)
    have hx : (cs z)[i]? = some (cs z)[i] := List.getElem?_eq_getElem hg
    refine wpAny_pyNext_ascii_item st (by rw [cps_get]; exact hx) fun h' st' sb => ?_
    have I1 : Inv X pins σ H { s with heap := h', toks := s.toks + 1 } := I.turned (t' := s.toks + 1) (fun b o hb e => (sb.2 b hb).trans e) f0 f1 f3 f4 f5
    obtain ⟨o, e, c, d⟩ := id st'
    exact ⟨_, rfl, go_of (s := { s with heap := h', toks := s.toks + 1 }) e c d (by decide) ⟨.str ⟨#[(cs z)[i]]⟩, H, I1, ⟨_, rfl⟩, ⟨rfl, _, hx, rfl⟩, st', fun b hb => (hf b hb).1⟩⟩
  done := by
    intro X hP hw hK hc i pins s σ H E I hf st hg
    subst hP hw hK
    obtain ⟨f0, f1, f2, f3, f4, f5⟩ := hf it (by simp)
    exact wpAny_pyNext_ascii_end (I.ok.hd hc) st (by rw [cps_get]; exact List.getElem?_eq_none hg) fun h' eb => ⟨rfl, I.turned (t' := s.toks) (fun b o hb e => eb b o hb e) f0 f1 f3 f4 f5⟩
  self := fun _ _ _ _ _ st h => wpAny_pyIter_striter_ascii st h
section
variable {X : Cx} {tg : Expr}
def iStr (tl : TE) : TI := fun σ H R => tl σ H fun x H1 => ∃ z : Str, x = .str z ∧ (∀ c ∈ cs z, c < 128) ∧ R (Its z) H1
theorem pi_str {l : Expr} {tl : TE} (hl : PE X l tl) : PI X tg l (iStr tl) := by
  intro pins s σ H R I h
  refine thn (hl pins s σ H _ I h) fun v s1 ⟨x, H1, I1, r1, q1⟩ => ?_
  obtain ⟨z, e, ha, q⟩ := q1
  subst e
  obtain ⟨t, rfl⟩ := (show ∃ t, v = Value.str z t from r1)
  refine wpAny_pyIter_ascii (by rw [← Array.all_toList]; exact List.all_eq_true.mpr fun c hc => decide_eq_true (ha c hc)) ?_
  refine ⟨s1.heap.objs.size, [s1.heap.objs.size], _, _, H1, rfl, I1.kept (t' := s1.toks) fun b o e => Heap.get?_push_of_some _ e, turn_str z t _, ⟨_, Heap.get?_push_size _ rfl, rfl, rfl⟩, fun b hb => ?_, q⟩
  have e : b = s1.heap.objs.size := by simpa using hb
  subst e
  exact I1.fpOk (Nat.le_refl _) (I1.hok.fresh (Nat.le_refl _))
end
theorem comp_str {z : Str} {H1 : Hp} {D : Addr} {σ0 : St} {g : TG} {tt : TT} {te : TE} {R : Hp → Prop}
    (Pv : Nat → List V → St → Hp → Prop) (h0 : Pv 0 [] σ0 (upd H1 D (.lst [])))
    (hs : ∀ i c ys σ H2, (cs z)[i]? = some c → ys.length ≤ i → Pv i ys σ H2 → H2 D = some (.lst ys) → g (.str ⟨#[c]⟩) σ H2 fun σ3 H3 => tt σ3 H3 fun b H4 => if b = true then te σ3 H4 fun y H5 => ∃ zs, H5 D = some (.lst zs) ∧ zs.length < sizeLine ∧ NextC Pv D i σ3 (upd H5 D (.lst (zs ++ [y]))) else NextC Pv D i σ3 H4)
    (hd : ∀ ys σ H2, Pv (cs z).length ys σ H2 → H2 D = some (.lst ys) → R H2) :
    ∃ W : Nat → Nat → St → Hp → Prop, (∃ m, W 0 m σ0 (upd H1 D (.lst []))) ∧ ∀ i m σ2 H2, W i m σ2 H2 →
    ((Its z).stop i H2 ∧ R H2) ∨ ((Its z).go i H2 ∧ ∃ N : St → Hp → Prop, (∀ σ' H', N σ' H' → ∃ m', m' < m ∧ W (i + 1) m' σ' H') ∧ ∀ x H', (Its z).yld i H2 x H' → g x σ2 H' fun σ3 H3 => tt σ3 H3 fun b H4 =>
      if b = true then te σ3 H4 fun y H5 => ∃ xs, H5 D = some (.lst xs) ∧ xs.length < sizeLine ∧ N σ3 (upd H5 D (.lst (xs ++ [y]))) else N σ3 H4) := by
  refine ⟨fun i m σ H' => m = (cs z).length - i ∧ i ≤ (cs z).length ∧ ∃ ys, ys.length ≤ i ∧ Pv i ys σ H' ∧ H' D = some (.lst ys), ⟨(cs z).length, by simp, Nat.zero_le _, [], Nat.le_refl _, h0, upd_same⟩, ?_⟩
  rintro i m σ2 H2 ⟨rfl, hi, ys, hy, p, e⟩
  by_cases hlt : i < (cs z).length
  · refine .inr ⟨hlt, NextC Pv D i, fun σ' H' ⟨ys', l', p', e'⟩ => ⟨(cs z).length - (i + 1), by omega, rfl, hlt, ys', l', p', e'⟩, fun x' H' y => ?_⟩
    obtain ⟨e1, c, hc, e2⟩ := y
    subst e1 e2
    exact hs i c ys σ2 _ hc hy p e
  · have ei : i = (cs z).length := by omega
    subst ei
    exact .inl ⟨Nat.le_refl _, hd ys σ2 H2 p e⟩
theorem for_str {z : Str} {g : TG} {tb : TS} {D : Ends} {σ : St} {H : Hp} (Pv : Nat → St → Hp → Prop) (h0 : Pv 0 σ H)
    (hs : ∀ i c σ H, (cs z)[i]? = some c → Pv i σ H → g (.str ⟨#[c]⟩) σ H fun σ2 H2 => tb { D with nx := Pv (i + 1), ct := Pv (i + 1), bk := D.nx } σ2 H2) (hd : ∀ σ H, Pv (cs z).length σ H → D.nx σ H) :
    ∃ W : Nat → Nat → St → Hp → Prop, (∃ m, W 0 m σ H) ∧ ∀ i m σ H, W i m σ H →
      ((Its z).stop i H ∧ D.nx σ H) ∨ ((Its z).go i H ∧ ∃ N : St → Hp → Prop, (∀ σ' H', N σ' H' → ∃ m', m' < m ∧ W (i + 1) m' σ' H') ∧ ∀ x H', (Its z).yld i H x H' → g x σ H' fun σ2 H2 => tb { D with nx := N, ct := N, bk := D.nx } σ2 H2) := by
  refine ⟨fun i m σ H => m = (cs z).length - i ∧ i ≤ (cs z).length ∧ Pv i σ H, ⟨(cs z).length, by simp, Nat.zero_le _, h0⟩, ?_⟩
  rintro i m σ H ⟨rfl, hi, p⟩
  by_cases hlt : i < (cs z).length
  · refine .inr ⟨hlt, Pv (i + 1), fun σ' H' p' => ⟨(cs z).length - (i + 1), by omega, rfl, hlt, p'⟩, fun x H' y => ?_⟩
    obtain ⟨e, c, hc, e2⟩ := y
    subst e e2
    exact hs i c σ _ hc p
  · have e : i = (cs z).length := by omega
    subst e
    exact .inl ⟨Nat.le_refl _, hd σ H p⟩
theorem op_notIn_one {X : Cx} : OpR X (compareOp .NotIn) (fun x y H Q => ∃ (c : Nat) (z : Str), x = .str ⟨#[c]⟩ ∧ y = .str z ∧ Q (.bl (!decide (c ∈ cs z))) H) := by
  intro pins s σ H x y v u Q I rx ry h
  obtain ⟨c, z, rfl, rfl, q⟩ := h
  refine op_notIn_str pins s σ H _ _ v u Q I rx ry ⟨_, z, rfl, rfl, ?_⟩
  rw [StrLaws.found_one]
  exact q
end L2

set_option Elab.async false
set_option linter.all false
set_option maxRecDepth 100000
set_option maxHeartbeats 4000000
namespace L2
open PySem PySem.Spec PyProof.Rows PySem.Builtin.Str
variable {X : Cx}
/-- text.index(part), where it stands -/
theorem mt_sindex : MtR X "str.index" (fun x xs H Q => ∃ (z y : Str) (i : Nat) (rest : List Nat), x = .str z ∧ xs = [.str y] ∧ occurrences z y 0 z.length 1 = i :: rest ∧ Q (.int i) H) := by
  intro pins s σ H x xs v us Q I rx rs h
  obtain ⟨z, y, i, rest, rfl, rfl, ho, q⟩ := h
  obtain ⟨t, rfl⟩ := rx
  obtain ⟨u, rfl, ⟨t2, rfl⟩⟩ := vals1 rs
  exact call_gives F.slot_str_index (typeIs_str _ _ _) F.entry_str_index (F.args_str_index_2 _ _) (gives_str_index z y t t2 i rest ho) ⟨.int _, H, I.tok _, ⟨_, rfl⟩, q⟩
theorem bt_max : bootBuiltins "max" = some (.builtin "max") := by decide +kernel
theorem bt_min : bootBuiltins "min" = some (.builtin "min") := by decide +kernel
end L2

set_option Elab.async false
set_option linter.all false
set_option maxRecDepth 100000
set_option maxHeartbeats 4000000
namespace L2
open PySem PySem.Spec PyProof.Rows PySem.Builtin.Str
variable {X : Cx}
theorem fold_app (a : Array Nat) : ∀ (n : Nat) (b : Array Nat), ((List.replicate n a).foldl (· ++ ·) b).toList = b.toList ++ (List.replicate n a.toList).flatten
  | 0, b => by simp
  | n + 1, b => by
    rw [List.replicate_succ, List.foldl_cons, fold_app a n (b ++ a), List.replicate_succ, List.flatten_cons, Array.toList_append, List.append_assoc]
/-- text * n -/
theorem op_repS : OpR X (binaryOp .Mult) (fun x y H Q => ∃ (z : Str) (n : Nat), x = .str z ∧ y = .int (n : Int) ∧ n < 1000000 ∧ z.length * n ≤ 1000000 ∧ ∀ y : Str, cs y = (List.replicate n (cs z)).flatten → Q (.str y) H) := by
  intro pins s σ H x y v u Q I rx ry h
  obtain ⟨z, n, rfl, rfl, hn, hl, q⟩ := h
  obtain ⟨t, rfl⟩ := rx
  obtain ⟨t2, rfl⟩ := ry
  have sz := sizeLine_eq
  have hr : (decide ((n : Int) < -(2 ^ 63 : Int)) || decide ((n : Int) ≥ 2 ^ 63)) = false := by
    rw [decide_eq_false (by omega), decide_eq_false (by omega)]; rfl
  refine P.mul_str hr (fun h1 _ => ?_) (fun h1 _ => ?_) ?_
  · have h2 : ((z.length * n : Nat) : Int) ≤ 2 ^ 63 - 1 := by omega
    have h3 : (z.length : Int) ≤ (2 ^ 63 - 1) / (n : Int) := by
      rw [Int.le_ediv_iff_mul_le (by omega)]
      rw [← Int.natCast_mul]
      exact h2
    omega
  · unfold tooLong
    rw [Int.toNat_natCast]
    exact decide_eq_false (by omega)
  · split
    · rename_i h1
      have e : n = 0 := by omega
      subst e
      exact ⟨by decide, .str _, H, I.tok _, ⟨_, rfl⟩, q _ rfl⟩
    · split
      · rename_i h1 h2
        refine ⟨.str z, H, I, ⟨t, rfl⟩, q z ?_⟩
        rcases Bool.or_eq_true_iff.mp h2 with h2 | h2
        · have e : n = 1 := by have := eq_of_beq h2; omega
          subst e
          simp
        · have e : z.length = 0 := eq_of_beq h2
          have e2 : cs z = [] := List.eq_nil_of_length_eq_zero (by rw [cs_len]; exact e)
          rw [e2]
          simp
      · rw [Int.toNat_natCast]
        have e := fold_app z.cps n #[]
        rw [show (#[] : Array Nat).toList = [] from rfl, List.nil_append] at e
        refine ⟨?_, .str _, H, I.tok _, ⟨_, rfl⟩, q _ e⟩
        show Array.size (List.foldl (fun x1 x2 => x1 ++ x2) #[] (List.replicate n z.cps)) ≤ sizeLine
        rw [← Array.length_toList, e, List.length_flatten, List.map_replicate, List.sum_replicate_nat]
        show n * z.cps.toList.length ≤ _
        have : z.cps.toList.length = z.length := cs_len z
        rw [this, Nat.mul_comm]
        omega
end L2

set_option Elab.async false
set_option linter.all false
set_option maxRecDepth 100000
set_option maxHeartbeats 4000000
namespace L2
open PySem PySem.Spec PyProof.Rows PySem.Builtin.Str
variable {X : Cx}
/-- as PE, and a token has been given out behind it -/
def PEp (X : Cx) (e : Expr) (t : TE) : Prop :=
  ∀ (pins : List (Addr × Obj)) (s : Shared) (σ : St) (H : Hp) (Q : VK), Inv X pins σ H s → t σ H Q → wpAny (model X.prog X.w) X.A (eval e X.env) (fun v s' => EP X pins σ Q v s' ∧ 0 < s'.toks) X.xe s
/-- as PE, where a token has been given out ahead of it -/
def PEz (X : Cx) (e : Expr) (t : TE) : Prop :=
  ∀ (pins : List (Addr × Obj)) (s : Shared) (σ : St) (H : Hp) (Q : VK), 0 < s.toks → Inv X pins σ H s → t σ H Q → wpAny (model X.prog X.w) X.A (eval e X.env) (EP X pins σ Q) X.xe s
theorem pa_pz {e1 e2 : Expr} {es : List Expr} {t1 t2 : TE} {t : TA} (h1 : PEp X e1 t1) (h2 : PEz X e2 t2) (hr : PA X es t) (hs : starEach (e1 :: e2 :: es) X.env = (false, eval e1 X.env) :: (false, eval e2 X.env) :: starEach es X.env := by rfl) : PA X (e1 :: e2 :: es) (tCons t1 (tCons t2 t)) := by
  intro pos pins s σ H Q I h
  rw [hs]
  show wpAny _ _ (spliced ((false, eval e1 X.env) :: (false, eval e2 X.env) :: backTo pos (starEach es X.env))) _ _ s
  refine Calls.spliced_cons (thn (h1 pins s σ H _ I h) fun u s1 ⟨⟨x, H1, I1, r1, q1⟩, tk⟩ => ?_)
  refine Calls.spliced_cons (thn (h2 pins s1 σ H1 _ tk I1 q1) fun u2 s2 ⟨y, H2, I2, r2, q2⟩ => ?_)
  exact thn (hr pos pins s2 σ H2 _ I2 q2) fun us s3 ⟨xs, H3, I3, r3, q3⟩ => ⟨x :: y :: xs, H3, I3, .cons r1 (.cons r2 r3), q3⟩
theorem pe_varP {i : Nat} {x : Str} {pos : Pos} (hN : X.N[i]? = some x := by rfl) (hv : Vis X.env.scope x := by first | exact Or.inl rfl | exact Or.inr (Or.inl rfl) | exact Or.inr (Or.inr rfl)) (hd : (x == ("__debug__" : Str)) = false := by decide) (hcd : (x == ("__classdict__" : Str)) = false := by decide) {pins : List (Addr × Obj)} {s : Shared} {σ : St} {H : Hp} {Q : VK} (I : Inv X pins σ H s) (h : tVar i σ H Q) :
    wpAny (model X.prog X.w) X.A (eval (.Name x pos) X.env) (fun v s' => EP X pins σ Q v s' ∧ s' = s) X.xe s := by
  obtain ⟨v, e, h⟩ := h
  obtain ⟨m, hn, hl⟩ := I.loc
  obtain ⟨u, r, l⟩ := hl i x v hN e hv
  have fin : EP X pins σ Q u s ∧ s = s := ⟨⟨v, H, I, r, h⟩, rfl⟩
  rcases l with ⟨hk, hm⟩ | ⟨hk, c, hc, hcell⟩
  · exact wpAny_Name (wpAny_loadName_local I.ok.kind hk hn hm fin) hd
  · rcases hk with hk | hk
    · exact wpAny_Name (wpAny_loadName_cell I.ok.kind hk hc hcell fin) hd
    · exact wpAny_Name (wpAny_loadName_free I.ok.kind hk hc hcell fin hcd) hd
/-- constant + text -/
theorem pp_cat {i : Nat} {x k : Str} {j : Nat} {p1 p2 pos : Pos} (hN : X.N[i]? = some x := by rfl) (hv : Vis X.env.scope x := by first | exact Or.inl rfl | exact Or.inr (Or.inl rfl) | exact Or.inr (Or.inr rfl)) (hd : (x == ("__debug__" : Str)) = false := by decide) (hcd : (x == ("__classdict__" : Str)) = false := by decide) :
    PEp X (.BinOp (.Constant (.str k) j p1) .Add (.Name x p2) pos) (fun σ H Q => tVar i σ H fun v H1 => ∃ z, v = .str z ∧ k.length + z.length ≤ sizeLine ∧ Q (.str (k ++ z)) H1) := by
  intro pins s σ H Q I h
  refine wpAny_BinOp (Calls.Constant_str ?_)
  refine thn (pe_varP hN hv hd hcd (I.tok (s.toks + 1)) h) fun u s2 ⟨⟨v, H1, I1, r1, z, e, hz, q⟩, es⟩ => ?_
  subst e
  obtain ⟨t, rfl⟩ := r1
  have tk : 0 < s2.toks := by rw [es]; exact Nat.succ_pos _
  refine P.add_str ?_
  split
  · rename_i h0
    have : k ++ z = z := str_ext (by rw [cs_app, show cs k = [] from List.eq_nil_of_length_eq_zero (by rw [cs_len]; exact eq_of_beq h0)]; rfl)
    rw [this] at q
    exact ⟨⟨.str z, H1, I1, ⟨_, rfl⟩, q⟩, tk⟩
  · split
    · rename_i h0
      have : k ++ z = k := str_ext (by rw [cs_app, show cs z = [] from List.eq_nil_of_length_eq_zero (by rw [cs_len]; exact eq_of_beq h0), List.append_nil])
      rw [this] at q
      exact ⟨⟨.str k, H1, I1, ⟨_, rfl⟩, q⟩, tk⟩
    · refine ⟨?_, ⟨.str (k ++ z), H1, I1.tok _, ⟨_, rfl⟩, q⟩, Nat.succ_pos _⟩
      rw [← cs_len, cs_app, List.length_append, cs_len, cs_len]
      exact hz
/-- text.replace(k1, k2), two constants that differ -/
theorem pz_rep {i : Nat} {x k1 k2 : Str} {j1 j2 : Nat} {p q1 q2 apos cpos : Pos} (hyz : (k1 == k2) = false := by decide +kernel) (hN : X.N[i]? = some x := by rfl) (hv : Vis X.env.scope x := by first | exact Or.inl rfl | exact Or.inr (Or.inl rfl) | exact Or.inr (Or.inr rfl)) (hd : (x == ("__debug__" : Str)) = false := by decide) (hcd : (x == ("__classdict__" : Str)) = false := by decide)
    (hbase : attributeBase (.Name x p) "replace" X.env (eval (.Name x p) X.env) = eval (.Name x p) X.env := by rfl)
    (hline : (apos.endLine == cpos.line) = true := by rfl) :
    PEz X (.Call (.Attribute (.Name x p) "replace" apos) [.Constant (.str k1) j1 q1, .Constant (.str k2) j2 q2] [] cpos) (fun σ H Q => tVar i σ H fun v H1 => ∃ z, v = .str z ∧ z.length + (z.length + 1) * k2.length ≤ 16777216 ∧ Q (.str (Txt.replace z k1 k2)) H1) := by
  intro pins s σ H Q tk I h
  refine wpAny_Call_method_late hbase rfl hline rfl (thn (pe_varP hN hv hd hcd I h) fun v s1 ⟨⟨y, H1, I1, r1, z, e, hz, q⟩, es⟩ => ?_)
  subst e es
  obtain ⟨h1, h2⟩ := tyV_is (T := "str") I1 r1 rfl
  obtain ⟨t, rfl⟩ := r1
  refine ⟨"str", "str.replace", F.plainAttrs_str, F.slot_str_replace, F.type_str_replace, h1, h2, ?_⟩
  refine Calls.callWith_builtin rfl (Calls.evalArgs_plain ?_)
  refine Calls.spliced_cons (Calls.Constant_str (k := j1) (pos := q1) (Calls.spliced_cons (Calls.Constant_str (k := j2) (pos := q2) (Calls.spliced_nil ?_))))
  exact SC.replace (show s1.toks ≠ 0 by omega) (show s1.toks + 1 ≠ 0 by omega) (show s1.toks ≠ s1.toks + 1 by omega) hyz hz fun t' k => ⟨.str _, H1, I1.tok k, ⟨_, rfl⟩, q⟩
/-- text.replace(y, z, 1) -/
def rep1 (x y z : Str) : Str := if ((occurrences x y 0 x.length 1).isEmpty || (y.length == 0 && z.length == 0)) = true then x else glued z (partsBetween x (occurrences x y 0 x.length 1) y.length)
theorem gives_rep1 (x y z : Str) (t u v w : Tok)
    (hf : ((occurrences x y 0 x.length 1).isEmpty || (y.length == 0 && z.length == 0)) = false →
      (u == 0 || v == 0) = false ∧ (u == v) = false ∧ (y == z) = false ∧ tooLong (x.length + (occurrences x y 0 x.length 1).length * z.length) = false) :
    Gives (Builtin.«str.replace» ⟨[.str x t, .str y u, .str z v, .int 1 w], []⟩) (if ((occurrences x y 0 x.length 1).isEmpty || (y.length == 0 && z.length == 0)) = true then .val (.str x t) else .str (glued z (partsBetween x (occurrences x y 0 x.length 1) y.length))) := by
  show Gives (do
    let limit ← countLimit "str.replace" (some (.int 1 w)) (x.length + 1)
    if ((occurrences x y 0 x.length limit).isEmpty || (y.length == 0 && z.length == 0)) = true then (do rule "str.replace.nothing"; ret (.str x t)) else
          (do let same ← isSame (.str y u) (.str z v)
              if same = true then (do rule "str.replace.old-is-new"; ret (.str x t)) else
              if tooLong (x.length + (occurrences x y 0 x.length limit).length * z.length) = true then unsupported "str.replace:memory" else
              retStr (glued z (partsBetween x (occurrences x y 0 x.length limit) y.length)))) _
  rw [countLimit_int "str.replace" 1 w (x.length + 1) (by decide)]
  show Gives (if ((occurrences x y 0 x.length 1).isEmpty || (y.length == 0 && z.length == 0)) = true then (do rule "str.replace.nothing"; ret (.str x t)) else
          (do let same ← isSame (.str y u) (.str z v)
              if same = true then (do rule "str.replace.old-is-new"; ret (.str x t)) else
              if tooLong (x.length + (occurrences x y 0 x.length 1).length * z.length) = true then unsupported "str.replace:memory" else
              retStr (glued z (partsBetween x (occurrences x y 0 x.length 1) y.length)))) _
  cases hc : ((occurrences x y 0 x.length 1).isEmpty || (y.length == 0 && z.length == 0))
  · obtain ⟨h0, huv, hyz, hl⟩ := hf hc
    rw [isSame_str_other y z u v h0 huv hyz, hl]
    exact .of_eq rfl
  · exact .rule (.of_eq rfl)
theorem pz_rep1 {i : Nat} {x k1 k2 : Str} {j1 j2 j3 : Nat} {p q1 q2 q3 apos cpos : Pos} (hyz : (k1 == k2) = false := by decide +kernel) (hN : X.N[i]? = some x := by rfl) (hv : Vis X.env.scope x := by first | exact Or.inl rfl | exact Or.inr (Or.inl rfl) | exact Or.inr (Or.inr rfl)) (hd : (x == ("__debug__" : Str)) = false := by decide) (hcd : (x == ("__classdict__" : Str)) = false := by decide)
    (hbase : attributeBase (.Name x p) "replace" X.env (eval (.Name x p) X.env) = eval (.Name x p) X.env := by rfl)
    (hline : (apos.endLine == cpos.line) = true := by rfl) :
    PEz X (.Call (.Attribute (.Name x p) "replace" apos) [.Constant (.str k1) j1 q1, .Constant (.str k2) j2 q2, .Constant (.int 1) j3 q3] [] cpos) (fun σ H Q => tVar i σ H fun v H1 => ∃ z, v = .str z ∧ z.length + (z.length + 1) * k2.length ≤ 1000000 ∧ (rep1 z k1 k2).length ≤ 1000000 ∧ Q (.str (rep1 z k1 k2)) H1) := by
  intro pins s σ H Q tk I h
  refine wpAny_Call_method_late hbase rfl hline rfl (thn (pe_varP hN hv hd hcd I h) fun v s1 ⟨⟨y, H1, I1, r1, z, e, hz, hz2, q⟩, es⟩ => ?_)
  subst e es
  obtain ⟨h1, h2⟩ := tyV_is (T := "str") I1 r1 rfl
  obtain ⟨t, rfl⟩ := r1
  refine ⟨"str", "str.replace", F.plainAttrs_str, F.slot_str_replace, F.type_str_replace, h1, h2, ?_⟩
  refine Calls.callWith_builtin rfl (Calls.evalArgs_plain ?_)
  refine Calls.spliced_cons (Calls.Constant_str (k := j1) (pos := q1) (Calls.spliced_cons (Calls.Constant_str (k := j2) (pos := q2) (Calls.spliced_cons (wpAny_Constant_int (k := j3) (pos := q3) (Calls.spliced_nil ?_))))))
  have sz := sizeLine_eq
  have hl : tooLong (z.length + (occurrences z k1 0 z.length 1).length * k2.length) = false := by
    have h1 := StrLaws.occ_length_le z k1 0 z.length 1
    have h2 : (occurrences z k1 0 z.length 1).length * k2.length ≤ (z.length + 1) * k2.length := Nat.mul_le_mul_right _ (by omega)
    unfold tooLong
    exact decide_eq_false (by omega)
  refine call_gives F.slot_str_replace (typeIs_str _ _ _) F.entry_str_replace (F.args_str_replace_4 _ _ _ _) (gives_rep1 z k1 k2 t s1.toks (s1.toks + 1) _ fun _ => ⟨by simp [show s1.toks ≠ 0 from Nat.pos_iff_ne_zero.mp tk], by simp, hyz, hl⟩) ?_
  unfold rep1 at q hz2
  cases hc : ((occurrences z k1 0 z.length 1).isEmpty || (k1.length == 0 && k2.length == 0))
  · rw [hc] at q hz2
    simp only [Bool.false_eq_true, if_false] at q hz2 ⊢
    exact ⟨Nat.le_trans hz2 (by omega), .str _, H1, I1.tok _, ⟨_, rfl⟩, q⟩
  · rw [hc] at q
    simp only [if_true] at q ⊢
    exact ⟨.str _, H1, I1.tok _, ⟨_, rfl⟩, q⟩
end L2

set_option Elab.async false
set_option linter.all false
set_option maxRecDepth 100000
set_option maxHeartbeats 4000000
namespace L2
open PySem PySem.Spec PyProof.Rows
/-- held shut, so that nothing is reckoned within it -/
structure Wr (p : Prop) : Prop where
  un : p
section
variable {X : Cx} {e : Expr} {es : List Expr} {te : TE} {t : TA} {pos : Pos} {a b : Expr} {ta tb : TE}
theorem w_str {x : Str} {j : Nat} : Wr (PE X (.Constant (.str x) j pos) (tC (.str x))) := ⟨pe_str⟩
theorem w_int {i : Int} {j : Nat} : Wr (PE X (.Constant (.int i) j pos) (tC (.int i))) := ⟨pe_int⟩
theorem w_op {op : Operator} {r : R2} (ho : OpR X (binaryOp op) r) (ha : Wr (PE X a ta)) (hb : Wr (PE X b tb)) : Wr (PE X (.BinOp a op b pos) (tOp r ta tb)) := ⟨pe_op ho ha.un hb.un⟩
theorem w_nil : Wr (PA X [] tNil) := ⟨pa_nil⟩
theorem w_cons (ha : Wr (PE X e te)) (hr : Wr (PA X es t)) (hs : starEach (e :: es) X.env = (false, eval e X.env) :: starEach es X.env := by rfl) : Wr (PA X (e :: es) (tCons te t)) := ⟨pa_cons ha.un hr.un hs⟩
theorem w_lst (h : Wr (PA X es t)) : Wr (PE X (.List es pos) (tLst t)) := ⟨pe_lst h.un⟩
theorem w_set {i : Nat} {x : Str} {pos' : Pos} (hN : X.N.Nodup) (hi : X.N[i]? = some x) (hx : Loc X.env.scope x) (he : Wr (PE X e te)) (hs : swapsWith e (some (.Name x pos')) pos.line X.env = pure false := by rfl) (hf : X.fn x = true ∨ X.env.scope.names.lookup x = some .local := by first | exact .inl rfl | exact .inr rfl | assumption) :
    Wr (PS X (.Assign [.Name x pos'] e pos) (tAsg te (gName i))) := ⟨ps_set hN hi hx he.un hs hf⟩
theorem wss_cons {st : Stmt} {rest : List Stmt} {t u : TS} (h1 : Wr (PS X st t)) (h2 : Wr (PSs X rest u)) : Wr (PSs X (st :: rest) (tSeq t u)) := ⟨pss_cons h1.un h2.un⟩
theorem wss_one {st : Stmt} {t : TS} (h1 : Wr (PS X st t)) : Wr (PSs X [st] t) := ⟨pss_one h1.un⟩
end
section
variable {P : Program} {w : World} {K : PySem.W.Frag} {mg : Str → Option Value} {base : Heap}
theorem Fun.okW {x qual : Str} {st : Stmt} {f : Addr} {fd : FuncData} {N ps : List Str} {k : Nat} {sp : Sp} (F : Fun K x qual st f fd) (S : FnScope N ps (defScope st)) (len : ∀ vs H Q E, sp vs H Q E → vs.length = ps.length)
    (hb : ∀ (cdv : Value) (A : Around) (outer : List Env) (s : Shared) (H : Hp) (vs : List V) (Q : VK) (E : XK), Room k (A.deeper (envOfC qual (defScope st) s.heap.objs.size f cdv)) → sp vs H Q E →
      ∃ t, Wr (PSs (cxOf CX0 P w K mg base N qual (defScope st) f cdv A outer s H E).nox (defBody st) t) ∧ t { nx := fun _ H' => Q .non H', rt := Q } (start N vs) H) : FnOk P w K mg base CX0 (k + 1) f fd ps sp :=
  F.ok S len fun cdv A outer s H vs Q E hr h => by
    obtain ⟨t, h1, q⟩ := hb cdv A outer s H vs Q E hr h
    exact ⟨t, h1.un, q⟩
end
end L2

set_option Elab.async false
set_option linter.all false
set_option maxRecDepth 100000
namespace Law
open PySem L2

def Keep (S : List Addr) (H H' : Hp) : Prop := ∀ b o, H b = some o → b ∉ S → H' b = some o
theorem Keep.trans {S : List Addr} {H H1 H2 : Hp} (a : Keep S H H1) (b : Keep S H1 H2) : Keep S H H2 := fun c o h n => b c o (a c o h n) n
theorem Keep.new {S : List Addr} {H : Hp} {p : Addr} {o : HO} (h : H p = none) : Keep S H (upd H p o) := fun b u q _ => by rw [upd_ne (ne_of_none q h)]; exact q
theorem Keep.upd {S : List Addr} {H : Hp} {p : Addr} {o : HO} (h : p ∈ S) : Keep S H (upd H p o) := fun b u q n => by
  have hb : b ≠ p := fun e => n (by rw [e]; exact h)
  rw [upd_ne hb]; exact q
theorem Same.new {H : Hp} {p : Addr} {o : HO} (h : H p = none) : Same H (L2.upd H p o) := fun b u q => by rw [upd_ne (ne_of_none q h)]; exact q

/-- tuples stay -/
def KT (H H' : Hp) : Prop := ∀ p xs, H p = some (.tup xs) → H' p = some (.tup xs)
theorem KT.trans {H H1 H2 : Hp} (a : KT H H1) (b : KT H1 H2) : KT H H2 := fun p xs h => b p xs (a p xs h)
theorem KT.same {H H' : Hp} (a : Same H H') : KT H H' := fun p xs h => a p _ h
theorem KT.upd {H : Hp} {p : Addr} {o : HO} {ys : List V} (h : H p = some (.lst ys)) : KT H (L2.upd H p o) := fun b xs q => by
  rw [upd_ne]; · exact q
  · intro e; subst e; rw [h] at q; cases q
theorem KT.new {H : Hp} {p : Addr} {o : HO} (h : H p = none) : KT H (L2.upd H p o) := KT.same (Same.new h)

/-! the deck of drawn cells -/
def DeckAt (H : Hp) (d c : Addr) : Prop := ∃ (cells : List Int) (a seed : Int), H d = some (.lst [.ref c, .int a, .int seed]) ∧ H c = some (.lst (cells.map V.int)) ∧ 0 < cells.length
theorem DeckAt.kt {H H' : Hp} {d c : Addr} (D : DeckAt H d c) (k : Keep [d, c] H H') : KT H H' := by
  obtain ⟨cells, a, seed, h1, h2, _⟩ := D
  intro p xs h
  refine k p _ h ?_
  intro m
  rcases List.mem_cons.mp m with e | m
  · subst e; rw [h1] at h; cases h
  · rcases List.mem_cons.mp m with e | m
    · subst e; rw [h2] at h; cases h
    · cases m
theorem DeckAt.ne {H : Hp} {d c : Addr} (D : DeckAt H d c) : d ≠ c := by
  obtain ⟨cells, a, seed, h1, h2, h3⟩ := D
  intro e; subst e; rw [h1] at h2
  cases cells with
  | nil => cases h3
  | cons n r => cases h2
theorem DeckAt.same {H H' : Hp} {d c : Addr} (D : DeckAt H d c) (s : Same H H') : DeckAt H' d c := by
  obtain ⟨cells, a, seed, h1, h2, h3⟩ := D
  exact ⟨cells, a, seed, s _ _ h1, s _ _ h2, h3⟩
theorem DeckAt.new {H : Hp} {d c p : Addr} {o : HO} (D : DeckAt H d c) (h : H p = none) : DeckAt (L2.upd H p o) d c := D.same (Same.new h)

theorem DeckAt.nin {H : Hp} {d c p : Addr} (D : DeckAt H d c) (h : H p = none) : p ∉ [d, c] := by
  obtain ⟨cells, a, seed, h1, h2, _⟩ := D
  intro m
  rcases List.mem_cons.mp m with e | m
  · subst e; rw [h1] at h; cases h
  · rcases List.mem_cons.mp m with e | m
    · subst e; rw [h2] at h; cases h
    · cases m
theorem atI_mem {α : Type} {xs : List α} {r : Int} (h0 : 0 ≤ r) (h1 : r < (xs.length : Int)) : ∃ v, atI xs r = some v ∧ v ∈ xs := by
  have hl : r.toNat < xs.length := by omega
  have e : r = ((r.toNat : Nat) : Int) := by omega
  have h : atI xs ((r.toNat : Nat) : Int) = some xs[r.toNat] := atI_nat (List.getElem?_eq_getElem hl)
  rw [← e] at h
  exact ⟨xs[r.toNat], h, List.getElem_mem hl⟩
theorem ixN_of {n : Nat} {k : Int} (h0 : 0 ≤ k) (h1 : k < (n : Int)) : ixN n k = some k.toNat := by
  unfold ixN
  rw [if_pos h0, if_pos h1]
theorem cut_all {xs : List V} {k : Nat} (h : xs.length ≤ k) : cutV xs none (some (k : Int)) = xs := by
  unfold cutV
  rw [HT.sIx_none, HT.sIx_nat, List.drop_zero]
  exact List.take_of_length_le (by omega)

theorem set_int {cells : List Int} {j : Nat} {z : Int} : (cells.map V.int).set j (V.int z) = (cells.set j z).map V.int := by rw [List.map_set]
def spTake : Sp := fun vs H Q _ => ∃ (d c : Addr) (many : Int), vs = [.ref d, .int many] ∧ DeckAt H d c ∧ 0 < many ∧ many < 1073741824 ∧
  ∀ (r : Int) (H' : Hp), 0 ≤ r → r < many → Keep [d, c] H H' → DeckAt H' d c → Q (.int r) H'
/-- an int between 1 and top is drawn -/
def spDraw (top : Int) : Sp := fun vs H Q _ => ∃ (d c : Addr), vs = [.ref d] ∧ DeckAt H d c ∧
  ∀ (r : Int) (H' : Hp), 1 ≤ r → r ≤ top → Keep [d, c] H H' → DeckAt H' d c → Q (.int r) H'
def spDeck (K : PySem.W.Frag) : Sp := fun vs H Q _ => ∃ (a : Addr) (ns : List Int), vs = [.ref a] ∧ SqL K H a (ns.map V.int) ∧ ns.length ≤ 63 ∧
  ∀ (d c : Addr) (H' : Hp), Same H H' → H d = none → H c = none → DeckAt H' d c → Q (.ref d) H'

/-- the names of Python's own that the text asks -/
structure Blt (mg : Str → Option Value) : Prop where
  len : mg "len" = none
  sum : mg "sum" = none
  range : mg "range" = none
  isinstance : mg "isinstance" = none
  int : mg "int" = none
  str : mg "str" = none
  bool : mg "bool" = none
  tuple : mg "tuple" = none
  zip : mg "zip" = none
end Law

set_option Elab.async false
set_option linter.all false
set_option maxRecDepth 100000
namespace Law
open PySem L2

def okWord (w : Str) : Prop := w = "plus" ∨ w = "less" ∨ w = "times" ∨ w = "share"
instance okWordDec (w : Str) : Decidable (okWord w) := by unfold okWord; infer_instance
inductive Way where
  | num (n : Int)
  | op (w : Str) (a b : Way)
def Way.size : Way → Nat
  | .num _ => 1
  | .op _ a b => a.size + b.size
def Way.ht : Way → Nat
  | .num _ => 0
  | .op _ a b => max a.ht b.ht + 1
def Way.ok (m : Int) : Way → Prop
  | .num n => 1 ≤ n ∧ n ≤ m
  | .op w a b => okWord w ∧ a.ok m ∧ b.ok m
theorem Way.size_pos (x : Way) : 1 ≤ x.size := by
  induction x with
  | num n => exact Nat.le_refl _
  | op w a b iha ihb => show 1 ≤ a.size + b.size; omega
theorem Way.ht_lt (x : Way) : x.ht < x.size := by
  induction x with
  | num n => exact Nat.le_refl _
  | op w a b iha ihb =>
    have := a.size_pos; have := b.size_pos
    show max a.ht b.ht + 1 < a.size + b.size; omega
/-! in the heap -/
inductive WayIn (H : Hp) : V → Way → Prop where
  | num (n : Int) : WayIn H (.int n) (.num n)
  | op {p : Addr} {w : Str} {x y : V} {a b : Way} (h : H p = some (.tup [.str w, x, y])) (ha : WayIn H x a) (hb : WayIn H y b) : WayIn H (.ref p) (.op w a b)
theorem WayIn.kt {H H' : Hp} {v : V} {x : Way} (h : WayIn H v x) (k : KT H H') : WayIn H' v x := by
  induction h with
  | num n => exact .num n
  | op h ha hb iha ihb => exact .op (k _ _ h) iha ihb

/-! the steps of a way -/
/-! promises of the defs -/
def spAny (n : Nat) : Sp := fun vs H Q _ => ∃ (d c : Addr) (many : Int), vs = [.ref d, .int many] ∧ DeckAt H d c ∧ 1 ≤ many ∧ many ≤ 8 ∧ many ≤ (n : Int) ∧
  ∀ (v : V) (x : Way) (H' : Hp), WayIn H' v x → x.ok 1000000 → (x.size : Int) = many → Keep [d, c] H H' → DeckAt H' d c → Q v H'
/-- the law: a list of at most 63 ints is handed in, True comes out -/
def spLaw (K : PySem.W.Frag) : Sp := fun vs H Q _ => ∃ (a : Addr) (ns : List Int), vs = [.ref a] ∧ SqL K H a (ns.map V.int) ∧ ns.length ≤ 63 ∧ ∀ H', Q (.bl true) H'
theorem mkDef {P : Program} {w : World} {K : PySem.W.Frag} {mg : Str → Option Value} {base : Heap} {CX : CXT} {k : Nat} {x : Str} {sp : Sp} {f : Addr} {fd : FuncData} {ps : List Str} (a : FnOk P w K mg base CX k f fd ps sp) (b : Binds K fd ps []) (c : mg x = some (.ref f)) (d : PySem.W.keepIn K (.ref f) = true) : Def P w K mg base CX k x sp := ⟨f, fd, ps, a, b, c, d⟩

end Law

set_option Elab.async false
set_option linter.all false
set_option maxRecDepth 100000
namespace L2
open PySem PySem.Spec PyProof.Rows
/-- o[i] = .., any i (a slice, too) -/
theorem pg_subA {X : Cx} {pos : Pos} {o i : Expr} {to ti : TE} {t : TSet} (ho : PE X o to) (hi : PE X i ti) (hs : PSet X t) : PG X (.Subscript o i pos) (gSub to ti t) := by
  intro pins s σ H v u Q I r h
  refine PySem.W.kas_sub (thn (ho pins s σ H _ I h) fun ov s1 ⟨x, H1, I1, r1, q1⟩ => thn (hi pins s1 σ H1 _ I1 q1) fun iv s2 ⟨y, H2, I2, r2, q2⟩ => thn (hs pins s2 σ H2 x y v ov iv u _ I2 r1 r2 r q2) fun _ s3 ⟨H3, I3, q3⟩ => ⟨σ, H3, I3, q3⟩)
end L2
namespace Law
open PySem L2 PySem.NumText PyProof.Rows

/-! texts of ways -/
def mkS (l : List Nat) : Str := ⟨l.toArray⟩
theorem cs_mkS (l : List Nat) : cs (mkS l) = l := by show l.toArray.toList = l; simp
theorem mkS_cs (x : Str) : mkS (cs x) = x := str_ext (cs_mkS _)
theorem mkS_eq {x : Str} {l : List Nat} (h : cs x = l) : x = mkS l := by rw [← h, mkS_cs]
theorem len_mkS (l : List Nat) : (mkS l).length = l.length := by rw [← cs_len, cs_mkS]
def isF (c : Nat) : Bool := decide (c ∈ cs ("0123456789" : Str))
theorem isF_iff (c : Nat) : isF c = true ↔ 48 ≤ c ∧ c ≤ 57 := by
  unfold isF
  rw [decide_eq_true_iff, show cs ("0123456789" : Str) = List.range' 48 10 by decide +kernel, List.mem_range'_1]
  exact ⟨fun h => ⟨h.1, Nat.le_of_lt_succ h.2⟩, fun h => ⟨h.1, Nat.lt_succ_of_le h.2⟩⟩
/-- a number's figures -/
def dig (n : Int) : List Nat := cs (Str.ofString (toString n))
def topN : Int := 10 ^ 63
theorem dig_nat (m : Nat) : dig (m : Int) = (Nat.toDigits 10 m).map Char.toNat := PySem.W.KIN.signs_num m
theorem dig_head : ∀ m : Nat, 1 ≤ m → ∃ c r, (Nat.toDigits 10 m).map Char.toNat = c :: r ∧ c ≠ 48 := by
  intro m
  induction m using Nat.strongRecOn with
  | _ m ih =>
    intro h1
    by_cases h : m < 10
    · rw [Nat.toDigits_of_lt_base h]
      refine ⟨_, _, rfl, ?_⟩
      have : ∀ k : Nat, k < 10 → 1 ≤ k → (Nat.digitChar k).toNat ≠ 48 := by decide
      exact this m h h1
    · have hm : m % 10 < 10 := Nat.mod_lt m (by decide)
      have t : Nat.toDigits 10 (m / 10) ++ Nat.toDigits 10 (m % 10) = Nat.toDigits 10 (10 * (m / 10) + m % 10) := Nat.toDigits_append_toDigits (by decide) (by omega) hm
      rw [Nat.div_add_mod] at t
      obtain ⟨c, r, e, hc⟩ := ih (m / 10) (by omega) (by omega)
      refine ⟨c, r ++ (Nat.toDigits 10 (m % 10)).map Char.toNat, ?_, hc⟩
      rw [← t, List.map_append, e]
      rfl
theorem dig_facts {n : Int} (h0 : 1 ≤ n) (h1 : n < topN) : AllDigits (dig n) ∧ (∃ c r, dig n = c :: r ∧ c ≠ 48) ∧ (dig n).length ≤ 63 ∧ ((digitsVal (dig n) : Nat) : Int) = n := by
  obtain ⟨m, rfl⟩ := Int.eq_ofNat_of_zero_le (show 0 ≤ n by omega)
  have hm : m < 10 ^ 63 := by
    have : ((m : Nat) : Int) < ((10 ^ 63 : Nat) : Int) := by simpa [topN] using h1
    exact Int.ofNat_lt.mp this
  rw [dig_nat]
  refine ⟨?_, dig_head m (by omega), ?_, by rw [PySem.W.KIN.val_back]⟩
  · intro c hc
    obtain ⟨ch, hch, e⟩ := List.mem_map.mp hc
    have r := digit_range (Nat.isDigit_of_mem_toDigits (by decide) (by decide) hch)
    rw [← e]
    exact r
  · rw [List.length_map]
    exact toDigits_len_pow (by decide) (by decide) hm
theorem cs_len_app (x y : Str) : (x ++ y).length = x.length + y.length := by
  rw [← cs_len, cs_app, List.length_append, cs_len, cs_len]
def sgnC (w : Str) : Nat := if w = "plus" then 43 else if w = "less" then 45 else if w = "times" then 42 else 47
def sgn (w : Str) : List Nat := [32, sgnC w, 32]
def par : Way → List Nat
  | .num n => dig n
  | .op w a b => 40 :: (par a ++ (sgn w ++ (par b ++ [41])))
def txt : Way → List Nat
  | .num n => dig n
  | .op w a b => par a ++ (sgn w ++ par b)
def toks : Way → List V
  | .num n => [.int n]
  | .op w a b => .str "(" :: (toks a ++ (.str w :: (toks b ++ [.str ")"])))
/-- no figure stands first -/
def Stop (l : List Nat) : Prop := ∀ c r, l = c :: r → isF c = false
theorem take_fig : ∀ {d r : List Nat}, (∀ c ∈ d, isF c = true) → Stop r → (d ++ r).takeWhile isF = d
  | [], r, _, h => by
    cases r with
    | nil => rfl
    | cons c r => rw [List.nil_append, List.takeWhile_cons, h c r rfl]; rfl
  | c :: d, r, h, hs => by
    rw [List.cons_append, List.takeWhile_cons, h c (List.mem_cons_self ..)]
    show c :: (d ++ r).takeWhile isF = c :: d
    rw [take_fig (fun x hx => h x (List.mem_cons_of_mem _ hx)) hs]
/-- what stands first, and how many signs it has -/
def tokAt : List Nat → Option (V × Nat)
  | [] => none
  | c :: r => if c = 40 ∨ c = 41 then some (.str ⟨#[c]⟩, 1)
    else if isF c = true then (if c ≠ 48 ∧ ((c :: r).takeWhile isF).length < 64 then some (.int ((digitsVal ((c :: r).takeWhile isF) : Nat) : Int), ((c :: r).takeWhile isF).length) else none)
    else if (c :: r).take 3 = sgn "plus" then some (.str "plus", 3)
    else if (c :: r).take 3 = sgn "less" then some (.str "less", 3)
    else if (c :: r).take 3 = sgn "times" then some (.str "times", 3)
    else if (c :: r).take 3 = sgn "share" then some (.str "share", 3)
    else none
inductive Lex : List Nat → List V → Prop where
  | nil : Lex [] []
  | cons {l : List Nat} {v : V} {k : Nat} {ts : List V} (h : tokAt l = some (v, k)) (hk : 1 ≤ k) (hr : Lex (l.drop k) ts) : Lex l (v :: ts)
theorem tok_open (r : List Nat) : tokAt (40 :: r) = some (.str "(", 1) := rfl
theorem tok_close (r : List Nat) : tokAt (41 :: r) = some (.str ")", 1) := rfl
theorem tok_sgn {w : Str} (h : okWord w) (r : List Nat) : tokAt (sgn w ++ r) = some (.str w, 3) := by
  rcases h with rfl | rfl | rfl | rfl <;> rfl
theorem tok_dig {n : Int} (h0 : 1 ≤ n) (h1 : n < topN) {r : List Nat} (hs : Stop r) : tokAt (dig n ++ r) = some (.int n, (dig n).length) := by
  obtain ⟨ha, ⟨c, t, e, hc⟩, hl, hv⟩ := dig_facts h0 h1
  have tw : (dig n ++ r).takeWhile isF = dig n := take_fig (fun c hc => (isF_iff c).mpr (ha c hc)) hs
  have h48 := ha c (by rw [e]; exact List.mem_cons_self ..)
  have fc : isF c = true := (isF_iff c).mpr h48
  have e2 : dig n ++ r = c :: (t ++ r) := by rw [e]; rfl
  rw [e2] at tw ⊢
  unfold tokAt
  dsimp only
  rw [if_neg (by omega), if_pos fc, tw, if_pos ⟨hc, by omega⟩, hv]
theorem stop_sgn (w : Str) (r : List Nat) : Stop (sgn w ++ r) := by
  intro c t e
  cases e
  decide +kernel
theorem stop_close (r : List Nat) : Stop (41 :: r) := by
  intro c t e
  cases e
  decide +kernel
theorem lex_par {m : Int} (hm : m < topN) : ∀ {x : Way}, x.ok m → ∀ {r : List Nat} {ts : List V}, Stop r → Lex r ts → Lex (par x ++ r) (toks x ++ ts) := by
  intro x
  induction x with
  | num n =>
    intro ⟨h0, h1⟩ r ts hs hr
    have hn : n < topN := by omega
    obtain ⟨_, ⟨c, t, e, _⟩, _⟩ := dig_facts h0 hn
    refine .cons (tok_dig h0 hn hs) (by rw [e]; exact Nat.succ_le_succ (Nat.zero_le _)) ?_
    show Lex ((dig n ++ r).drop (dig n).length) ([] ++ ts)
    rw [List.drop_left]
    exact hr
  | op w a b iha ihb =>
    intro ⟨hw, ha, hb⟩ r ts hs hr
    have e : par (.op w a b) ++ r = 40 :: (par a ++ (sgn w ++ (par b ++ (41 :: r)))) := by simp [par]
    have e2 : toks (.op w a b) ++ ts = .str "(" :: (toks a ++ (.str w :: (toks b ++ (.str ")" :: ts)))) := by simp [toks]
    rw [e, e2]
    refine .cons (tok_open _) (Nat.le_refl _) ?_
    show Lex (par a ++ (sgn w ++ (par b ++ (41 :: r)))) _
    refine iha ha (stop_sgn _ _) (.cons (tok_sgn hw _) (by decide) ?_)
    show Lex (par b ++ (41 :: r)) _
    exact ihb hb (stop_close _) (.cons (tok_close _) (Nat.le_refl _) hr)
theorem par_len {m : Int} (hm : m < topN) : ∀ {x : Way}, x.ok m → (par x).length + 5 ≤ 70 * x.size := by
  intro x
  induction x with
  | num n =>
    intro ⟨h0, h1⟩
    have := (dig_facts h0 (show n < topN by omega)).2.2.1
    show (dig n).length + 5 ≤ 70 * 1
    omega
  | op w a b iha ihb =>
    intro ⟨hw, ha, hb⟩
    have h1 := iha ha
    have h2 := ihb hb
    have e : (par (.op w a b)).length = (par a).length + (par b).length + 5 := by simp [par, sgn]; omega
    have e2 : (Way.op w a b).size = a.size + b.size := rfl
    omega
theorem par_txt (w : Str) (a b : Way) : par (.op w a b) = 40 :: (txt (.op w a b) ++ [41]) := by simp [par, txt]
theorem txt_len {m : Int} (hm : m < topN) {x : Way} (h : x.ok m) : (txt x).length ≤ 70 * x.size := by
  have := par_len hm h
  cases x with
  | num n => exact Nat.le_trans (Nat.le_add_right _ _) this
  | op w a b => rw [par_txt] at this; simp at this; omega
/-! way_shown's pile -/
/-! read_way's pile -/
inductive Item where
  | br
  | wd (w : Str)
  | wy (x : Way)
inductive ItemIn (H : Hp) : V → Item → Prop where
  | br : ItemIn H (.str "(") .br
  | wd {w : Str} (h : okWord w) : ItemIn H (.str w) (.wd w)
  | wy {v : V} {x : Way} (h : WayIn H v x) : ItemIn H v (.wy x)
theorem ItemIn.kt {H H' : Hp} {v : V} {i : Item} (h : ItemIn H v i) (k : KT H H') : ItemIn H' v i := by
  cases h with
  | br => exact .br
  | wd h => exact .wd h
  | wy h => exact .wy (h.kt k)
def closeIt : List Item → Option (List Item)
  | .wy b :: .wd w :: .wy a :: .br :: st => some (.wy (.op w a b) :: st)
  | _ => none
theorem closeIt_some {st st2 : List Item} (h : closeIt st = some st2) : ∃ (w : Str) (a b : Way) (r : List Item), st = .wy b :: .wd w :: .wy a :: .br :: r ∧ st2 = .wy (.op w a b) :: r := by
  unfold closeIt at h
  split at h
  · cases h; exact ⟨_, _, _, _, rfl, rfl⟩
  · cases h
def parse : List V → List Item → Option (List Item)
  | [], st => some st
  | .int n :: r, st => parse r (.wy (.num n) :: st)
  | .str w :: r, st => if w = "(" then parse r (.br :: st) else if w = ")" then (closeIt st).bind (parse r) else if okWord w then parse r (.wd w :: st) else none
  | _, _ => none
theorem parse_int (n : Int) (r : List V) (st : List Item) : parse (.int n :: r) st = parse r (.wy (.num n) :: st) := by rw [parse]
theorem parse_str (w : Str) (r : List V) (st : List Item) : parse (.str w :: r) st = if w = "(" then parse r (.br :: st) else if w = ")" then (closeIt st).bind (parse r) else if okWord w then parse r (.wd w :: st) else none := by rw [parse]
theorem parse_some {y : V} {r : List V} {st out : List Item} (h : parse (y :: r) st = some out) : (∃ n : Int, y = .int n ∧ parse r (.wy (.num n) :: st) = some out) ∨ (y = .str "(" ∧ parse r (.br :: st) = some out) ∨
    (∃ (w : Str) (a b : Way) (st2 : List Item), y = .str ")" ∧ st = .wy b :: .wd w :: .wy a :: .br :: st2 ∧ parse r (.wy (.op w a b) :: st2) = some out) ∨ ∃ w : Str, y = .str w ∧ w ≠ "(" ∧ w ≠ ")" ∧ okWord w ∧ parse r (.wd w :: st) = some out := by
  cases y with
  | int n => rw [parse_int] at h; exact .inl ⟨n, rfl, h⟩
  | str w =>
    rw [parse_str] at h
    split at h
    · rename_i e; subst e; exact .inr (.inl ⟨rfl, h⟩)
    · split at h
      · rename_i e; subst e
        cases hc : closeIt st with
        | none => rw [hc] at h; cases h
        | some st2 =>
          rw [hc] at h
          obtain ⟨w, a, b, r2, e1, e2⟩ := closeIt_some hc
          subst e2
          exact .inr (.inr (.inl ⟨w, a, b, r2, rfl, e1, h⟩))
      · split at h
        · rename_i n1 n2 hw
          exact .inr (.inr (.inr ⟨w, rfl, n1, n2, hw, h⟩))
        · cases h
  | _ => unfold parse at h; cases h
theorem okWord_ne {w : Str} (h : okWord w) : w ≠ "(" ∧ w ≠ ")" := by
  rcases h with rfl | rfl | rfl | rfl <;> decide
theorem parse_toks {m : Int} : ∀ {x : Way}, x.ok m → ∀ (r : List V) (st : List Item), parse (toks x ++ r) st = parse r (.wy x :: st) := by
  intro x
  induction x with
  | num n => intro _ r st; exact parse_int n r st
  | op w a b iha ihb =>
    intro ⟨hw, ha, hb⟩ r st
    have e2 : toks (.op w a b) ++ r = .str "(" :: (toks a ++ (.str w :: (toks b ++ (.str ")" :: r)))) := by simp [toks]
    obtain ⟨n1, n2⟩ := okWord_ne hw
    rw [e2, parse_str, if_pos rfl, iha ha, parse_str, if_neg n1, if_neg n2, if_pos hw, ihb hb, parse_str, if_neg (by decide), if_pos rfl]
    rfl
theorem toks_len (x : Way) : (toks x).length + 3 = 4 * x.size := by
  induction x with
  | num n => rfl
  | op w a b iha ihb =>
    have e : (toks (.op w a b)).length = (toks a).length + (toks b).length + 3 := by simp [toks]; omega
    have e2 : (Way.op w a b).size = a.size + b.size := rfl
    omega

/-! a way as plain data -/
def wd : Way → D
  | .num n => .int n
  | .op w a b => .tup [.str w, wd a, wd b]
mutual
/-- plain data, all of it in the heap -/
def Dat (H : Hp) : D → V → Prop
  | .non, v => v = .non
  | .bl b, v => v = .bl b
  | .int i, v => v = .int i
  | .str x, v => v = .str x
  | .tup ds, v => ∃ p xs, v = .ref p ∧ H p = some (.tup xs) ∧ Dats H ds xs
  | .lst ds, v => False
def Dats (H : Hp) : List D → List V → Prop
  | [], xs => xs = []
  | d :: ds, xs => ∃ x r, xs = x :: r ∧ Dat H d x ∧ Dats H ds r
end
mutual
theorem Dat.kt {H H' : Hp} (k : KT H H') : ∀ (d : D) {v : V}, Dat H d v → Dat H' d v
  | .non, v, h => by unfold Dat at h ⊢; exact h
  | .bl b, v, h => by unfold Dat at h ⊢; exact h
  | .int b, v, h => by unfold Dat at h ⊢; exact h
  | .str b, v, h => by unfold Dat at h ⊢; exact h
  | .tup ds, v, h => by
    unfold Dat at h ⊢
    obtain ⟨p, xs, e, hp, hs⟩ := h
    exact ⟨p, xs, e, k _ _ hp, Dats.kt k ds hs⟩
  | .lst ds, v, h => by unfold Dat at h; exact h.elim
theorem Dats.kt {H H' : Hp} (k : KT H H') : ∀ (ds : List D) {vs : List V}, Dats H ds vs → Dats H' ds vs
  | [], vs, h => by unfold Dats at h ⊢; exact h
  | d :: ds, vs, h => by
    unfold Dats at h ⊢
    obtain ⟨x, r, e, h1, h2⟩ := h
    exact ⟨x, r, e, Dat.kt k d h1, Dats.kt k ds h2⟩
end
theorem Dats.len {H : Hp} : ∀ {ds : List D} {xs : List V}, Dats H ds xs → ds.length = xs.length
  | [], xs, h => by unfold Dats at h; subst h; rfl
  | d :: ds, xs, h => by
    unfold Dats at h
    obtain ⟨x, r, rfl, _, h⟩ := h
    rw [List.length_cons, List.length_cons, Dats.len h]
theorem Dats.at {H : Hp} : ∀ {ds : List D} {xs : List V} {j : Nat} {x : V}, Dats H ds xs → xs[j]? = some x → ∃ d, ds[j]? = some d ∧ Dat H d x
  | [], xs, j, x, h, e => by unfold Dats at h; subst h; cases e
  | a :: ds, xs, j, x, h, e => by
    unfold Dats at h
    obtain ⟨y, r, rfl, h1, h2⟩ := h
    match j, e with
    | 0, e => cases e; exact ⟨a, rfl, h1⟩
    | j + 1, e => exact Dats.at (ds := ds) (j := j) h2 (by simpa using e)
theorem WayIn.dat {H : Hp} {v : V} {x : Way} (h : WayIn H v x) : Dat H (wd x) v := by
  induction h with
  | num n => unfold wd Dat; rfl
  | op h ha hb iha ihb =>
    unfold wd Dat
    refine ⟨_, _, rfl, h, ?_⟩
    unfold Dats; refine ⟨_, _, rfl, by unfold Dat; rfl, ?_⟩
    unfold Dats; refine ⟨_, _, rfl, iha, ?_⟩
    unfold Dats; refine ⟨_, _, rfl, ihb, ?_⟩
    unfold Dats; rfl
mutual
/-- of whole numbers, texts and tuples alone -/
def pureD : D → Bool
  | .int _ => true
  | .str _ => true
  | .tup l => pureDs l
  | _ => false
def pureDs : List D → Bool
  | [] => true
  | d :: r => pureD d && pureDs r
end
theorem wd_pure (x : Way) : pureD (wd x) = true := by
  induction x with
  | num n => rfl
  | op w a b iha ihb => simp [wd, pureD, pureDs, iha, ihb]
theorem wd_dep (x : Way) : (wd x).dep = x.ht := by
  induction x with
  | num n => rfl
  | op w a b iha ihb => simp [wd, D.dep, deps, iha, ihb, Way.ht]
theorem pureDs_get : ∀ {l : List D} {j : Nat} {d : D}, pureDs l = true → l[j]? = some d → pureD d = true
  | [], j, d, _, e => by cases e
  | a :: l, j, d, h, e => by
    unfold pureDs at h
    rw [Bool.and_eq_true] at h
    match j, e with
    | 0, e => cases e; exact h.1
    | j + 1, e => exact pureDs_get (l := l) (j := j) h.2 (by simpa using e)

/-! promises -/
def spNumberOf : Sp := fun vs H Q _ => ∃ z : Str, vs = [.str z] ∧ AllDigits (cs z) ∧ (∃ c r, cs z = c :: r ∧ c ≠ 48) ∧ z.length < 64 ∧ ∀ H', Same H H' → Q (.int ((digitsVal (cs z) : Nat) : Int)) H'
def spFigEnd : Sp := fun vs H Q _ => ∃ (z : Str) (k : Nat), vs = [.str z, .int k] ∧ k ≤ z.length ∧ z.length ≤ 10000 ∧ Q (.int ((k + (((cs z).drop k).takeWhile isF).length : Nat) : Int)) H
def spIsFig : Sp := fun vs H Q _ => ∃ z : Str, vs = [.str z] ∧ z.length ≤ 10000 ∧ ∀ b : Bool, (b = true ↔ cs z ≠ [] ∧ ((cs z).takeWhile isF).length = (cs z).length) → Q (.bl b) H
def spPieceAt : Sp := fun vs H Q _ => ∃ (z : Str) (k : Nat) (v : V) (n : Nat), vs = [.str z, .int k] ∧ z.length ≤ 10000 ∧ tokAt ((cs z).drop k) = some (v, n) ∧ ∀ (t : Addr) (H' : Hp), Same H H' → H' t = some (.tup [v, .int ((k + n : Nat) : Int)]) → Q (.ref t) H'
def spPieces : Sp := fun vs H Q _ => ∃ (z : Str) (ts : List V), vs = [.str z] ∧ z.length ≤ 10000 ∧ Lex (cs z) ts ∧ ∀ (r : Addr) (H' : Hp), Same H H' → H' r = some (.lst ts) → Q (.ref r) H'
def spClosed : Sp := fun vs H Q _ => ∃ (p : Addr) (pre : List V) (a b : V) (wd : Str) (x y : Way), vs = [.ref p] ∧ H p = some (.lst (pre ++ [.str "(", a, .str wd, b])) ∧ okWord wd ∧ WayIn H a x ∧ WayIn H b y ∧ ∀ (t : Addr) (H' : Hp), Same H H' → H' t = some (.tup [.str wd, a, b]) → Q (.ref t) H'
def spIsWord : Sp := fun vs H Q _ => ∃ wd : Str, vs = [.str wd] ∧ okWord wd ∧ Q (.bl true) H
def spIsWay : Sp := fun vs H Q _ => ∃ (v : V) (x : Way), vs = [v] ∧ WayIn H v x ∧ Q (.bl true) H
def spRead : Sp := fun vs H Q _ => ∃ (x : Way) (m : Int), vs = [.str (mkS (txt x))] ∧ x.ok m ∧ m < topN ∧ x.size ≤ 100 ∧ ∀ (v : V) (H' : Hp), Same H H' → WayIn H' v x → Q v H'
def spText (n : Nat) : Sp := fun vs H Q _ => ∃ (v : V) (x : Way) (m : Int), vs = [v] ∧ WayIn H v x ∧ x.ok m ∧ m < topN ∧ x.size ≤ 100 ∧ x.ht < n ∧ ∀ H', Same H H' → Q (.str (mkS (txt x))) H'
def spSame (n : Nat) : Sp := fun vs H Q _ => ∃ (v u : V) (d : D), vs = [v, u] ∧ Dat H d v ∧ Dat H d u ∧ pureD d = true ∧ d.dep < n ∧ ∀ H', Same H H' → Q (.bl true) H'
end Law

set_option Elab.async false
set_option linter.all false
set_option maxRecDepth 100000
namespace Law
open PySem L2 PySem.NumText PyProof.Rows
/-- figures of a number are all there are of it -/
theorem dig_step (m c : Nat) (hm : 1 ≤ m) (hc : c < 10) : (Nat.toDigits 10 (10 * m + c)).map Char.toNat = (Nat.toDigits 10 m).map Char.toNat ++ [c + 48] := by
  rw [Nat.toDigits_of_base_le (by decide) (by omega)]
  rw [show (10 * m + c) / 10 = m by omega, show (10 * m + c) % 10 = c by omega, List.map_append]
  congr 1
  match c, hc with
  | 0, _ => rfl
  | 1, _ => rfl
  | 2, _ => rfl
  | 3, _ => rfl
  | 4, _ => rfl
  | 5, _ => rfl
  | 6, _ => rfl
  | 7, _ => rfl
  | 8, _ => rfl
  | 9, _ => rfl
theorem dig_fold : ∀ (r : List Nat) (m : Nat), 1 ≤ m → AllDigits r → (Nat.toDigits 10 (r.foldl (fun acc c => acc * 10 + (c - 48)) m)).map Char.toNat = (Nat.toDigits 10 m).map Char.toNat ++ r
  | [], m, _, _ => by rw [List.foldl_nil, List.append_nil]
  | a :: r, m, hm, h => by
    have ha := h a (List.mem_cons_self ..)
    rw [List.foldl_cons, dig_fold r (m * 10 + (a - 48)) (by omega) (fun x hx => h x (List.mem_cons_of_mem _ hx)), show m * 10 + (a - 48) = 10 * m + (a - 48) by omega, dig_step m (a - 48) hm (by omega), show a - 48 + 48 = a by omega, List.append_assoc]
    rfl
theorem dig_back {c : Nat} {r : List Nat} (h : AllDigits (c :: r)) (hc : c ≠ 48) : dig ((digitsVal (c :: r) : Nat) : Int) = c :: r ∧ 1 ≤ digitsVal (c :: r) := by
  have h1 := h c (List.mem_cons_self ..)
  have hr : AllDigits r := fun x hx => h x (List.mem_cons_of_mem _ hx)
  have e : digitsVal (c :: r) = r.foldl (fun acc c => acc * 10 + (c - 48)) (c - 48) := by
    show List.foldl _ (0 * 10 + (c - 48)) r = _
    rw [Nat.zero_mul, Nat.zero_add]
  have f := dig_fold r (c - 48) (by omega) hr
  rw [← e] at f
  have b : (Nat.toDigits 10 (c - 48)).map Char.toNat = [c] := by
    have : c = 49 ∨ c = 50 ∨ c = 51 ∨ c = 52 ∨ c = 53 ∨ c = 54 ∨ c = 55 ∨ c = 56 ∨ c = 57 := by omega
    rcases this with rfl | rfl | rfl | rfl | rfl | rfl | rfl | rfl | rfl <;> rfl
  rw [b] at f
  refine ⟨by rw [dig_nat]; exact f, ?_⟩
  have mono : ∀ (r : List Nat) (m : Nat), m ≤ r.foldl (fun acc c => acc * 10 + (c - 48)) m := by
    intro r
    induction r with
    | nil => intro m; exact Nat.le_refl _
    | cons a r ih => intro m; rw [List.foldl_cons]; exact Nat.le_trans (by omega) (ih _)
  rw [e]
  exact Nat.le_trans (by omega) (mono r (c - 48))

/-! what stands on the pile, spelled -/
def Item.sp : Item → List Nat
  | .br => [40]
  | .wd w => sgn w
  | .wy x => par x
def spell (il : List Item) : List Nat := (il.reverse.map Item.sp).flatten
theorem spell_cons (it : Item) (il : List Item) : spell (it :: il) = spell il ++ it.sp := by
  unfold spell
  rw [List.reverse_cons, List.map_append, List.flatten_append]
  simp
/-- numbers from 1 on, each of fewer than 64 figures -/
def Way.pos : Way → Prop
  | .num n => 1 ≤ n ∧ n < topN
  | .op w a b => okWord w ∧ a.pos ∧ b.pos
def Item.pos : Item → Prop
  | .wy x => x.pos
  | .wd w => okWord w
  | .br => True
theorem val_lt : ∀ (r : List Nat) (m : Nat), AllDigits r → r.foldl (fun acc c => acc * 10 + (c - 48)) m < (m + 1) * 10 ^ r.length
  | [], m, _ => by simp
  | a :: r, m, h => by
    have ha := h a (List.mem_cons_self ..)
    rw [List.foldl_cons, List.length_cons, Nat.pow_succ]
    refine Nat.lt_of_lt_of_le (val_lt r _ fun x hx => h x (List.mem_cons_of_mem _ hx)) ?_
    have : m * 10 + (a - 48) + 1 ≤ (m + 1) * 10 := by omega
    calc (m * 10 + (a - 48) + 1) * 10 ^ r.length ≤ ((m + 1) * 10) * 10 ^ r.length := Nat.mul_le_mul_right _ this
      _ = (m + 1) * (10 ^ r.length * 10) := by rw [Nat.mul_assoc, Nat.mul_comm 10]
theorem val_top {d : List Nat} (h : AllDigits d) (hl : d.length < 64) : ((digitsVal d : Nat) : Int) < topN := by
  have h1 := val_lt d 0 h
  rw [Nat.zero_add, Nat.one_mul] at h1
  have h2 : (10 : Nat) ^ d.length ≤ 10 ^ 63 := Nat.pow_le_pow_right (by decide) (by omega)
  have h3 : digitsVal d < 10 ^ 63 := Nat.lt_of_lt_of_le h1 h2
  have : ((digitsVal d : Nat) : Int) < ((10 ^ 63 : Nat) : Int) := Int.ofNat_lt.mpr h3
  simpa [topN] using this
theorem takeWhile_take : ∀ l : List Nat, l.take (l.takeWhile isF).length = l.takeWhile isF
  | [] => rfl
  | c :: r => by
    rw [List.takeWhile_cons]
    cases h : isF c with
    | true =>
      show (c :: r).take ((r.takeWhile isF).length + 1) = c :: r.takeWhile isF
      rw [List.take_succ_cons, takeWhile_take r]
    | false => rfl
theorem takeWhile_digits : ∀ l : List Nat, AllDigits (l.takeWhile isF)
  | [] => fun c h => by cases h
  | c :: r => by
    rw [List.takeWhile_cons]
    cases h : isF c with
    | true =>
      intro d hd
      rcases List.mem_cons.mp hd with rfl | hd
      · exact (isF_iff d).mp h
      · exact takeWhile_digits r d hd
    | false => intro d hd; cases hd
theorem tok_spell {l : List Nat} {v : V} {k : Nat} (h : tokAt l = some (v, k)) : (v = .str "(" ∧ l.take k = [40]) ∨ (v = .str ")" ∧ l.take k = [41]) ∨ (∃ n : Int, v = .int n ∧ 1 ≤ n ∧ n < topN ∧ l.take k = dig n) ∨ ∃ w : Str, okWord w ∧ v = .str w ∧ l.take k = sgn w := by
  cases l with
  | nil => cases h
  | cons c r =>
    unfold tokAt at h
    dsimp only at h
    split at h
    · rename_i e
      cases h
      rcases e with rfl | rfl
      · exact .inl ⟨rfl, rfl⟩
      · exact .inr (.inl ⟨rfl, rfl⟩)
    split at h
    · rename_i hf
      split at h
      · rename_i hg
        cases h
        have ad := takeWhile_digits (c :: r)
        have tt := takeWhile_take (c :: r)
        have hl := hg.2
        have ec : (c :: r).takeWhile isF = c :: r.takeWhile isF := by rw [List.takeWhile_cons, hf]; rfl
        rw [tt]
        rw [ec] at ad hl ⊢
        obtain ⟨b1, b2⟩ := dig_back ad hg.1
        exact .inr (.inr (.inl ⟨_, rfl, by omega, val_top ad hl, b1.symm⟩))
      · cases h
    split at h
    · rename_i e; cases h; exact .inr (.inr (.inr ⟨_, .inl rfl, rfl, e⟩))
    split at h
    · rename_i e; cases h; exact .inr (.inr (.inr ⟨_, .inr (.inl rfl), rfl, e⟩))
    split at h
    · rename_i e; cases h; exact .inr (.inr (.inr ⟨_, .inr (.inr (.inl rfl)), rfl, e⟩))
    split at h
    · rename_i e; cases h; exact .inr (.inr (.inr ⟨_, .inr (.inr (.inr rfl)), rfl, e⟩))
    · cases h
theorem parse_sound {l : List Nat} {ts : List V} (h : Lex l ts) : ∀ (il out : List Item), (∀ it ∈ il, it.pos) → parse ts il = some out → spell out = spell il ++ l ∧ ∀ it ∈ out, it.pos := by
  induction h with
  | nil =>
    intro il out hp he
    rw [parse] at he
    cases he
    exact ⟨by rw [List.append_nil], hp⟩
  | @cons l v k ts ht hk hr ih =>
    intro il out hp he
    have el : l = l.take k ++ l.drop k := (List.take_append_drop k l).symm
    have go : ∀ it : Item, it.pos → it.sp = l.take k → parse ts (it :: il) = some out → spell out = spell il ++ l ∧ ∀ it ∈ out, it.pos := fun it hi hs hq => by
      obtain ⟨a, b⟩ := ih (it :: il) out (fun j hj => (List.mem_cons.mp hj).elim (fun z => z ▸ hi) (hp j)) hq
      refine ⟨?_, b⟩
      rw [a, spell_cons, hs, List.append_assoc, List.take_append_drop]
    rcases tok_spell ht with ⟨rfl, e⟩ | ⟨rfl, e⟩ | ⟨n, rfl, n1, n2, e⟩ | ⟨w, hw, rfl, e⟩
    · rw [parse_str, if_pos rfl] at he
      exact go .br trivial e.symm he
    · rw [parse_str, if_neg (by decide), if_pos rfl] at he
      cases hc : closeIt il with
      | none => rw [hc] at he; cases he
      | some st2 =>
        rw [hc] at he
        obtain ⟨w, a, b, r, rfl, rfl⟩ := closeIt_some hc
        have pa : a.pos := hp (.wy a) (by simp)
        have pb : b.pos := hp (.wy b) (by simp)
        have pw : okWord w := hp (.wd w) (by simp)
        obtain ⟨x, y⟩ := ih (.wy (.op w a b) :: r) out (fun j hj => (List.mem_cons.mp hj).elim (fun z => by rw [z]; exact ⟨pw, pa, pb⟩) fun z => hp j (by simp [z])) he
        refine ⟨?_, y⟩
        rw [x, spell_cons, spell_cons, spell_cons, spell_cons, spell_cons]
        conv => rhs; rw [el, e]
        simp [Item.sp, par]
    · rw [parse_int] at he
      exact go (.wy (.num n)) ⟨n1, n2⟩ e.symm he
    · obtain ⟨n1, n2⟩ := okWord_ne hw
      rw [parse_str, if_neg n1, if_neg n2, if_pos hw] at he
      exact go (.wd w) hw e.symm he
/-- what the program reads with brackets about it is a way's text -/
theorem read_sound {l : List Nat} {ts : List V} {it : Item} (h : Lex (40 :: (l ++ [41])) ts) (hp : parse ts [] = some [it]) : ∃ w a b, (Way.op w a b).pos ∧ l = txt (.op w a b) := by
  obtain ⟨a, b⟩ := parse_sound h [] [it] (fun j hj => by cases hj) hp
  have e : it.sp = 40 :: (l ++ [41]) := by simpa [spell] using a
  cases it with
  | br => cases l <;> cases e
  | wd w => cases e
  | wy x =>
    cases x with
    | num n =>
      have hn : 1 ≤ n ∧ n < topN := b (.wy (.num n)) (by simp)
      obtain ⟨_, ⟨c, r, ec, _⟩, _⟩ := dig_facts hn.1 hn.2
      have ad := (dig_facts hn.1 hn.2).1
      have e' : dig n = 40 :: (l ++ [41]) := e
      have := ad 40 (by rw [e']; simp)
      omega
    | op w a' b' =>
      refine ⟨w, a', b', b (.wy (.op w a' b')) (by simp), ?_⟩
      have e' : 40 :: (par a' ++ (sgn w ++ (par b' ++ [41]))) = 40 :: (l ++ [41]) := e
      have e2 := List.cons.inj e'
      have e3 : (par a' ++ (sgn w ++ par b')) ++ [41] = l ++ [41] := by rw [← e2.2]; simp
      exact (List.append_cancel_right e3).symm
end Law

set_option Elab.async false
set_option linter.all false
set_option maxRecDepth 100000
namespace Law
open PySem L2 PySem.NumText PyProof.Rows
/-! the law's own reading: depth by brackets, parted at the only sign in none -/
def isSg (c : Nat) : Bool := c == 43 || c == 45 || c == 42 || c == 47
def stepD (c : Nat) (d : Int) : Int := d + (if c = 40 then 1 else 0) - (if c = 41 then 1 else 0)
def scan : List Nat → Nat → Int → Option (Int × List Nat)
  | [], _, d => some (d, [])
  | c :: r, i, d => if stepD c d < 0 then none else (scan r (i + 1) (stepD c d)).map fun p => (p.1, if stepD c d = 0 ∧ isSg c = true then i :: p.2 else p.2)
def numR (l : List Nat) : Option Way := match l with
  | [] => none
  | c :: r => if c ≠ 48 ∧ (c :: r).all isF = true then some (.num ((digitsVal (c :: r) : Nat) : Int)) else none
def partR (rd : List Nat → Option Way) (l : List Nat) : Option Way := if l.take 1 ≠ [40] ∨ l.drop (l.length - 1) ≠ [41] then numR l else match rd ((l.drop 1).dropLast) with
  | some (.op w a b) => some (.op w a b)
  | _ => none
def wordC (c : Nat) : Str := if c = 43 then "plus" else if c = 45 then "less" else if c = 42 then "times" else "share"
def readR : Nat → List Nat → Option Way
  | 0, _ => none
  | n + 1, l => match scan l 0 0 with
    | none => none
    | some (_, []) => numR l
    | some (d, at_ :: more) => if more ≠ [] ∨ d ≠ 0 ∨ at_ = 0 ∨ l[at_ - 1]? ≠ some 32 ∨ l[at_ + 1]? ≠ some 32 then none else match partR (readR n) (l.take (at_ - 1)), partR (readR n) (l.drop (at_ + 2)) with
      | some a, some b => some (.op (wordC (l.getD at_ 0)) a b)
      | _, _ => none
theorem stepD_dig {c : Nat} (h : isF c = true) (d : Int) : stepD c d = d ∧ isSg c = false := by
  have := (isF_iff c).mp h
  unfold stepD isSg
  rw [if_neg (by omega), if_neg (by omega)]
  refine ⟨by omega, ?_⟩
  simp
  omega
theorem map_same {p : Option (Int × List Nat)} : p.map (fun q => (q.1, q.2)) = p := by cases p <;> rfl
theorem scan_step {c : Nat} {r : List Nat} {i : Nat} {d : Int} (h0 : 0 ≤ stepD c d) (hs : stepD c d ≠ 0 ∨ isSg c = false) : scan (c :: r) i d = scan r (i + 1) (stepD c d) := by
  rw [scan, if_neg (by omega)]
  have hn : ¬ (stepD c d = 0 ∧ isSg c = true) := fun z => hs.elim (fun q => q z.1) fun q => by rw [q] at z; cases z.2
  simp only [hn, if_false]
  exact map_same
theorem scan_digits : ∀ (ds r : List Nat) (i : Nat) (d : Int), (∀ c ∈ ds, isF c = true) → 0 ≤ d → scan (ds ++ r) i d = scan r (i + ds.length) d
  | [], r, i, d, _, _ => rfl
  | c :: ds, r, i, d, h, h0 => by
    obtain ⟨e1, e2⟩ := stepD_dig (h c (List.mem_cons_self ..)) d
    rw [List.cons_append, scan_step (by omega) (.inr e2), e1, scan_digits ds r (i + 1) d (fun x hx => h x (List.mem_cons_of_mem _ hx)) h0, List.length_cons]
    congr 1
    omega
theorem sgnC_is (w : Str) : sgnC w = 43 ∨ sgnC w = 45 ∨ sgnC w = 42 ∨ sgnC w = 47 := by
  unfold sgnC
  split
  · exact .inl rfl
  split
  · exact .inr (.inl rfl)
  split
  · exact .inr (.inr (.inl rfl))
  · exact .inr (.inr (.inr rfl))
theorem stepD_sg {w : Str} (d : Int) : stepD (sgnC w) d = d ∧ isSg (sgnC w) = true := by
  rcases sgnC_is w with e | e | e | e <;> rw [e] <;> exact ⟨by unfold stepD; simp, rfl⟩
theorem scan_sgn (w : Str) (r : List Nat) (i : Nat) (d : Int) (h : 1 ≤ d) : scan (sgn w ++ r) i d = scan r (i + 3) d := by
  obtain ⟨e1, e2⟩ := stepD_sg (w := w) d
  have s32 : stepD 32 d = d := by unfold stepD; simp
  show scan (32 :: sgnC w :: 32 :: r) i d = _
  rw [scan_step (by rw [s32]; omega) (.inr rfl), s32, scan_step (by rw [e1]; omega) (.inl (by rw [e1]; omega)), e1, scan_step (by rw [s32]; omega) (.inr rfl), s32]
theorem scan_par : ∀ {x : Way}, x.pos → ∀ (r : List Nat) (i : Nat) (d : Int), 0 ≤ d → scan (par x ++ r) i d = scan r (i + (par x).length) d := by
  intro x
  induction x with
  | num n =>
    intro h r i d h0
    have ad := (dig_facts h.1 h.2).1
    exact scan_digits (dig n) r i d (fun c hc => (isF_iff c).mpr (ad c hc)) h0
  | op w a b iha ihb =>
    intro ⟨_, ha, hb⟩ r i d h0
    have e : par (.op w a b) ++ r = 40 :: (par a ++ (sgn w ++ (par b ++ (41 :: r)))) := by simp [par]
    have s40 : stepD 40 d = d + 1 := by unfold stepD; simp
    have s41 : stepD 41 (d + 1) = d := by unfold stepD; simp
    rw [e, scan_step (by rw [s40]; omega) (.inr rfl), s40, iha ha _ _ _ (by omega), scan_sgn w _ _ _ (by omega), ihb hb _ _ _ (by omega), scan_step (by rw [s41]; omega) (.inr rfl), s41]
    congr 1
    simp [par, sgn]
    omega
theorem scan_txt {w : Str} {a b : Way} (ha : a.pos) (hb : b.pos) : scan (txt (.op w a b)) 0 0 = some (0, [(par a).length + 1]) := by
  obtain ⟨e1, e2⟩ := stepD_sg (w := w) 0
  have s32 : stepD 32 0 = 0 := by unfold stepD; simp
  show scan (par a ++ (32 :: sgnC w :: 32 :: par b)) 0 0 = _
  rw [scan_par ha _ _ _ (by decide), scan_step (by rw [s32]; decide) (.inr rfl), s32]
  have fin : scan (32 :: par b) (0 + (par a).length + 1 + 1) 0 = some (0, []) := by
    rw [scan_step (by rw [s32]; decide) (.inr rfl), s32]
    have := scan_par hb [] (0 + (par a).length + 1 + 1 + 1) 0 (by decide)
    rw [List.append_nil] at this
    rw [this, scan]
  rw [scan, if_neg (by rw [e1]; decide), e1, fin]
  simp [e2]
theorem wordC_sg {w : Str} (h : okWord w) : wordC (sgnC w) = w := by
  rcases h with rfl | rfl | rfl | rfl <;> decide +kernel
theorem numR_dig {n : Int} (h0 : 1 ≤ n) (h1 : n < topN) : numR (dig n) = some (.num n) := by
  obtain ⟨ad, ⟨c, r, e, hc⟩, _, hv⟩ := dig_facts h0 h1
  rw [e] at ad hv ⊢
  unfold numR
  dsimp only
  rw [if_pos ⟨hc, List.all_eq_true.mpr fun x hx => (isF_iff x).mpr (ad x hx)⟩, hv]
theorem partR_par {rd : List Nat → Option Way} {x : Way} (h : x.pos) (hr : ∀ w a b, x = .op w a b → rd (txt x) = some x) : partR rd (par x) = some x := by
  cases x with
  | num n =>
    obtain ⟨ad, ⟨c, r, e, hc⟩, _, hv⟩ := dig_facts h.1 h.2
    have hc2 := ad c (by rw [e]; exact List.mem_cons_self ..)
    unfold partR
    rw [if_pos (.inl (by show (dig n).take 1 ≠ _; rw [e]; simp; omega))]
    exact numR_dig h.1 h.2
  | op w a b =>
    have e : par (.op w a b) = 40 :: (txt (.op w a b) ++ [41]) := by simp [par, txt]
    unfold partR
    rw [e]
    rw [if_neg (by simp)]
    have e2 : (List.drop 1 (40 :: (txt (.op w a b) ++ [41]))).dropLast = txt (.op w a b) := by simp
    rw [e2, hr w a b rfl]
theorem readR_txt : ∀ (n : Nat) {x : Way}, x.pos → x.ht < n → readR n (txt x) = some x
  | 0, x, _, h => by omega
  | n + 1, x, hp, h => by
    cases x with
    | num k =>
      have ad := (dig_facts hp.1 hp.2).1
      have sc : scan (txt (.num k)) 0 0 = some (0, []) := by
        have := scan_digits (dig k) [] 0 0 (fun c hc => (isF_iff c).mpr (ad c hc)) (by decide)
        rw [List.append_nil] at this
        show scan (dig k) 0 0 = _
        rw [this, scan]
      rw [readR, sc]
      exact numR_dig hp.1 hp.2
    | op w a b =>
      obtain ⟨hw, ha, hb⟩ := hp
      have hh : max a.ht b.ht + 1 < n + 1 := h
      rw [readR, scan_txt ha hb]
      dsimp only
      have lt : txt (.op w a b) = par a ++ (32 :: sgnC w :: 32 :: par b) := rfl
      have g1 : (txt (.op w a b))[(par a).length + 1 - 1]? = some 32 := by rw [lt]; simp
      have g2 : (txt (.op w a b))[(par a).length + 1 + 1]? = some 32 := by rw [lt, List.getElem?_append_right (by omega), show (par a).length + 1 + 1 - (par a).length = 2 by omega]; rfl
      have g3 : (txt (.op w a b)).getD ((par a).length + 1) 0 = sgnC w := by rw [lt, List.getD_eq_getElem?_getD, List.getElem?_append_right (by omega), show (par a).length + 1 - (par a).length = 1 by omega]; rfl
      have t1 : (txt (.op w a b)).take ((par a).length + 1 - 1) = par a := by rw [lt]; simp
      have t2 : (txt (.op w a b)).drop ((par a).length + 1 + 2) = par b := by rw [lt, List.drop_append, List.drop_eq_nil_of_le (by omega), show (par a).length + 1 + 2 - (par a).length = 3 by omega]; rfl
      rw [if_neg (by rw [g1, g2]; simp), t1, t2, partR_par ha fun _ _ _ e => readR_txt n ha (by omega), partR_par hb fun _ _ _ e => readR_txt n hb (by omega), g3, wordC_sg hw]
def Runs (l : List Nat) : Prop := ∀ k, ((l.drop k).takeWhile isF).length < 64
theorem Runs.drop {l : List Nat} (h : Runs l) (m : Nat) : Runs (l.drop m) := fun k => by rw [List.drop_drop]; exact h _
theorem while_take : ∀ (l : List Nat) (m : Nat), ((l.take m).takeWhile isF).length ≤ (l.takeWhile isF).length
  | [], m => by simp
  | c :: r, 0 => by simp
  | c :: r, m + 1 => by
    rw [List.take_succ_cons, List.takeWhile_cons, List.takeWhile_cons]
    cases isF c with
    | false => exact Nat.le_refl _
    | true => exact Nat.succ_le_succ (while_take r m)
theorem Runs.take {l : List Nat} (h : Runs l) (m : Nat) : Runs (l.take m) := fun k => by
  rw [List.drop_take]
  exact Nat.lt_of_le_of_lt (while_take _ _) (h k)
theorem numR_sound {l : List Nat} {x : Way} (hr : Runs l) (h : numR l = some x) : x.pos ∧ l = par x ∧ ∃ n, x = .num n := by
  cases l with
  | nil => cases h
  | cons c r =>
    unfold numR at h
    dsimp only at h
    split at h
    · rename_i hg
      cases h
      have al := List.all_eq_true.mp hg.2
      have ad : AllDigits (c :: r) := fun y hy => (isF_iff y).mp (al y hy)
      have len : (c :: r).length < 64 := by
        have := hr 0
        rw [List.drop_zero] at this
        have tw : (c :: r).takeWhile isF = c :: r := by
          have := take_fig (d := c :: r) (r := []) (fun y hy => al y hy) (fun c r e => by cases e)
          rwa [List.append_nil] at this
        rwa [tw] at this
      obtain ⟨b1, b2⟩ := dig_back ad hg.1
      exact ⟨⟨by omega, val_top ad len⟩, b1.symm, _, rfl⟩
    · cases h
theorem partR_sound {rd : List Nat → Option Way} {l : List Nat} {x : Way} (hr : Runs l) (hrd : ∀ l' x', Runs l' → rd l' = some x' → x'.pos ∧ l' = txt x') (h : partR rd l = some x) : x.pos ∧ l = par x := by
  unfold partR at h
  split at h
  · obtain ⟨a, b, _⟩ := numR_sound hr h
    exact ⟨a, b⟩
  · rename_i hg
    have g1 : l.take 1 = [40] := Classical.byContradiction fun z => hg (.inl z)
    have g2 : l.drop (l.length - 1) = [41] := Classical.byContradiction fun z => hg (.inr z)
    split at h
    · rename_i w a b hq
      cases h
      have hr2 : Runs ((l.drop 1).dropLast) := by rw [List.dropLast_eq_take]; exact (hr.drop 1).take _
      obtain ⟨p1, p2⟩ := hrd _ _ hr2 hq
      refine ⟨p1, ?_⟩
      have e : par (.op w a b) = 40 :: (txt (.op w a b) ++ [41]) := by simp [par, txt]
      rw [e, ← p2]
      cases l with
      | nil => cases g1
      | cons c t =>
        have ec : c = 40 := by simpa using g1
        subst ec
        cases t with
        | nil => cases g2
        | cons c2 t2 =>
          show 40 :: (c2 :: t2) = 40 :: ((c2 :: t2).dropLast ++ [41])
          congr 1
          have e2 : (c2 :: t2).drop ((c2 :: t2).length - 1) = [41] := by simpa using g2
          rw [List.dropLast_eq_take]
          conv => lhs; rw [← List.take_append_drop ((c2 :: t2).length - 1) (c2 :: t2), e2]
    · cases h
theorem scan_mem : ∀ {l : List Nat} {i : Nat} {d e : Int} {s : List Nat}, scan l i d = some (e, s) → ∀ j ∈ s, i ≤ j ∧ ∃ c, l[j - i]? = some c ∧ isSg c = true
  | [], i, d, e, s, h, j, hj => by cases h; cases hj
  | c :: r, i, d, e, s, h, j, hj => by
    rw [scan] at h
    split at h
    · cases h
    · cases hq : scan r (i + 1) (stepD c d) with
      | none => rw [hq] at h; cases h
      | some p =>
        rw [hq] at h
        have h' := Option.some.inj h
        have tail : ∀ j ∈ p.2, i ≤ j ∧ ∃ c', (c :: r)[j - i]? = some c' ∧ isSg c' = true := fun j hj => by
          obtain ⟨a, c', b1, b2⟩ := scan_mem (l := r) (i := i + 1) hq j hj
          refine ⟨by omega, c', ?_, b2⟩
          rw [show j - i = (j - (i + 1)) + 1 by omega, List.getElem?_cons_succ]
          exact b1
        have es : s = if stepD c d = 0 ∧ isSg c = true then i :: p.2 else p.2 := (congrArg Prod.snd h').symm
        rw [es] at hj
        split at hj
        · rename_i hg
          rcases List.mem_cons.mp hj with rfl | hj
          · exact ⟨Nat.le_refl _, c, by rw [Nat.sub_self]; rfl, hg.2⟩
          · exact tail j hj
        · exact tail j hj
theorem isSg_word {c : Nat} (h : isSg c = true) : okWord (wordC c) ∧ sgnC (wordC c) = c := by
  have : c = 43 ∨ c = 45 ∨ c = 42 ∨ c = 47 := by
    unfold isSg at h
    simp at h
    omega
  rcases this with rfl | rfl | rfl | rfl
  · exact ⟨.inl (by decide +kernel), by decide +kernel⟩
  · exact ⟨.inr (.inl (by decide +kernel)), by decide +kernel⟩
  · exact ⟨.inr (.inr (.inl (by decide +kernel))), by decide +kernel⟩
  · exact ⟨.inr (.inr (.inr (by decide +kernel))), by decide +kernel⟩
theorem readR_sound : ∀ (n : Nat) (l : List Nat) (x : Way), Runs l → readR n l = some x → x.pos ∧ l = txt x
  | 0, l, x, _, h => by cases h
  | n + 1, l, x, hr, h => by
    rw [readR] at h
    cases hs : scan l 0 0 with
    | none => rw [hs] at h; cases h
    | some p =>
      obtain ⟨d, s⟩ := p
      rw [hs] at h
      cases s with
      | nil =>
        obtain ⟨a, b, k, rfl⟩ := numR_sound hr h
        exact ⟨a, b⟩
      | cons at_ more =>
        dsimp only at h
        split at h
        · cases h
        · rename_i hg
          have g0 : at_ ≠ 0 := fun z => hg (.inr (.inr (.inl z)))
          have g1 : l[at_ - 1]? = some 32 := Classical.byContradiction fun z => hg (.inr (.inr (.inr (.inl z))))
          have g2 : l[at_ + 1]? = some 32 := Classical.byContradiction fun z => hg (.inr (.inr (.inr (.inr z))))
          obtain ⟨_, c, hc, hsg⟩ := scan_mem hs at_ (List.mem_cons_self ..)
          rw [Nat.sub_zero] at hc
          split at h
          · rename_i a b ha hb
            cases h
            obtain ⟨pa, ea⟩ := partR_sound (hr.take _) (fun l' x' => readR_sound n l' x') ha
            obtain ⟨pb, eb⟩ := partR_sound (hr.drop _) (fun l' x' => readR_sound n l' x') hb
            have ec : l.getD at_ 0 = c := by rw [List.getD_eq_getElem?_getD, hc]; rfl
            rw [ec]
            obtain ⟨ow, es⟩ := isSg_word hsg
            refine ⟨⟨ow, pa, pb⟩, ?_⟩
            show l = par a ++ (32 :: sgnC (wordC c) :: 32 :: par b)
            rw [es, ← ea, ← eb]
            have s1 : l.drop (at_ - 1) = 32 :: l.drop at_ := by
              have := List.drop_eq_getElem_cons (List.getElem?_eq_some_iff.mp g1).1
              rw [this, (List.getElem?_eq_some_iff.mp g1).2, show at_ - 1 + 1 = at_ by omega]
            have s2 : l.drop at_ = c :: l.drop (at_ + 1) := by
              have := List.drop_eq_getElem_cons (List.getElem?_eq_some_iff.mp hc).1
              rw [this, (List.getElem?_eq_some_iff.mp hc).2]
            have s3 : l.drop (at_ + 1) = 32 :: l.drop (at_ + 2) := by
              have := List.drop_eq_getElem_cons (List.getElem?_eq_some_iff.mp g2).1
              rw [this, (List.getElem?_eq_some_iff.mp g2).2]
            conv => lhs; rw [← List.take_append_drop (at_ - 1) l, s1, s2, s3]
          · cases h
end Law

set_option Elab.async false
set_option linter.all false
set_option maxRecDepth 100000
set_option maxHeartbeats 4000000
namespace Law
open PySem L2
def top (i : Nat) : Stmt := PySem.Challenge.pw_ledtowish_k05_texts_of_none.main.body.getD i (.Pass ⟨0, 0, 0, 0⟩)
section
variable {P : Program} {w : World} {K : PySem.W.Frag} {mg : Str → Option Value} {base : Heap}
theorem bt_ValueError : bootBuiltins "ValueError" = some (.type "ValueError") := by decide +kernel
/-- the four classes -/
structure Refs (P : Program) (w : World) (K : PySem.W.Frag) (mg : Str → Option Value) (base : Heap) (W T S N : Addr) (bT bS bN : List Value) : Prop where
  cW : XC K W vMro
  cT : XC K T bT
  cS : XC K S bS
  cN : XC K N bN
  gW : mg "WishError" = some (.ref W)
  gT : mg "NoText" = some (.ref T)
  gS : mg "NoAsk" = some (.ref S)
  gN : mg "NoWay" = some (.ref N)
  iT : PySem.W.findIn K (.ref T) "__init__" = some (some (.builtin "ValueError.__init__"))
  tW : (Value.ref T :: bT).contains (.ref W) = true
  tS : (Value.ref T :: bT).contains (.ref S) = false
  tN : (Value.ref T :: bT).contains (.ref N) = false
variable {W T S N : Addr} {bT bS bN : List Value}
abbrev s_number_of : Stmt := top 8
theorem sc_number_of : FnScope ["figures", "first", "number", "at"] ["figures"] (defScope s_number_of) := ⟨rfl, rfl, rfl, by decide +kernel, rfl, by decide +kernel, by decide +kernel⟩
theorem zero_digits {x : Str} (h : PySem.NumText.AllDigits (cs x)) (hl : x.length < 64) : PySem.intText? (("0" : Str) ++ x) = some ((PySem.NumText.digitsVal (cs x) : Nat) : Int) := by
  have e : cs (("0" : Str) ++ x) = 48 :: cs x := by rw [cs_app]; rfl
  have h2 : PySem.NumText.AllDigits (cs (("0" : Str) ++ x)) := by
    rw [e]
    intro c hc
    rcases List.mem_cons.mp hc with rfl | hc
    · decide
    · exact h c hc
  have h3 := PySem.intText_digits h2 (by rw [show (("0" : Str) ++ x).cps.toList = 48 :: cs x from e]; simp) (by rw [← cs_len, e]; simp only [List.length_cons]; rw [cs_len]; omega)
  rw [h3, show (("0" : Str) ++ x).cps.toList = 48 :: cs x from e]
  rfl
theorem cutG_all {l : List Nat} : cutG l none (some (l.length : Int)) = l := by
  unfold cutG
  rw [HT.sIx_none, HT.sIx_nat, List.drop_zero]
  exact List.take_of_length_le (by omega)
theorem ok_number_of {f : Addr} {fd : FuncData} (F : Fun K "number_of" "number_of" s_number_of f fd) (B : Blt mg) : FnOk P w K mg base CX0 1 f fd ["figures"] spNumberOf := by
  refine F.ok sc_number_of (fun vs H Q E h => ?_) (fun cdv A outer s H vs Q E hr h => ?_)
  · obtain ⟨n, rfl, _⟩ := h
    rfl
  obtain ⟨z, rfl, hd, ⟨c, r, hz, hc⟩, hl, q⟩ := h
  have big : z.length ≤ sizeLine := Nat.le_of_lt (small1000 (by omega))
  have lz : (cs z).length = z.length := cs_len z
  refine ⟨_, (pss_cons (ps_if (pt_val (pe_bm PySem.F.plainAttrs_str PySem.F.slot_str_startswith PySem.F.type_str_startswith mt_startswith (pv 0) (pa_cons pe_str pa_nil))) (pss_one ps_never) pss_nil)
      (pss_cons (ps_set (i := 1) sc_number_of.nd rfl (by first | exact Or.inl rfl | exact Or.inr rfl) (pe_op op_mod (pe_callB call_len_str rfl B.len bt_len (pa_cons (pv 0) pa_nil)) pe_int))
      (pss_cons (ps_set (i := 2) sc_number_of.nd rfl (by first | exact Or.inl rfl | exact Or.inr rfl) (pe_callTy call_int_text rfl B.int bt_int (pa_cons (pe_op op_add_str pe_str (pe_slice sl_str (pv 0) po_none (po_some (pv 1)))) pa_nil)))
      (pss_cons (ps_for PassesOwn.never rfl (pi_range3e B.range (pa_cons (pv 1) (pa_cons (pe_callB call_len_str rfl B.len bt_len (pa_cons (pv 0) pa_nil)) (pa_cons pe_int pa_nil)))) (pg_name (i := 3) sc_number_of.nd rfl (by first | exact Or.inl rfl | exact Or.inr rfl)) (pss_one (ps_set (i := 2) sc_number_of.nd rfl (by first | exact Or.inl rfl | exact Or.inr rfl) (pe_op op_add (pe_op op_mul (pv 2) (pe_op op_pow pe_int pe_int)) (pe_callTy call_int_text rfl B.int bt_int (pa_cons (pe_slice sl_str (pv 0) (po_some (pv 3)) (po_some (pe_op op_add (pv 3) pe_int))) pa_nil))))))
      (pss_one (ps_ret (pv 2))))))), ?_⟩
  refine ⟨_, rfl, rfl, z, "0", rfl, rfl, _, rfl, ?_⟩
  have hs : (decide (0 + ("0" : Str).length ≤ z.length) && PySem.Builtin.Str.subAt z "0" 0) = false := by
    have h := (PySem.StrLaws.subAt_one z 48 0)
    rw [Bool.eq_false_iff]
    intro e
    rw [Bool.and_eq_true, decide_eq_true_iff] at e
    have := h.mp e
    rw [show z.cps.toList = c :: r from hz] at this
    exact hc (Option.some.inj this)
  rw [hs]
  refine iteF ?_
  refine ⟨_, rfl, z, rfl, big, _, _, rfl, rfl, (by show (0 : Int) < 64; decide), ?_⟩
  have hm : ((z.length : Nat) : Int) % 64 = (z.length : Int) := by omega
  dsimp only
  rw [hm]
  refine ⟨_, rfl, _, rfl, _, rfl, z, rfl, big, fun y hy => ?_⟩
  have ey : y = z := str_ext (by rw [hy, ← cs_len]; exact cutG_all)
  subst ey
  refine ⟨_, _, rfl, rfl, ?_, _, _, rfl, zero_digits hd hl, ?_, ?_⟩
  · show 1 + y.length ≤ sizeLine
    have := small1000 (n := 1 + y.length) (by omega)
    omega
  · show (("0" : Str) ++ y).length ≤ 640
    rw [← cs_len, cs_app, List.length_append, cs_len, cs_len]
    show 1 + y.length ≤ 640
    omega
  refine ⟨_, rfl, _, rfl, _, rfl, big, _, _, _, rfl, ⟨by omega, by omega, by omega, by omega, by decide, by decide⟩, ?_⟩
  refine for_range (n := 0) (fun i σ H' => ∃ o : Option V, σ = [some (.str y), some (.int y.length), some (.int ((PySem.NumText.digitsVal (cs y) : Nat) : Int)), o] ∧ H' = H) ⟨_, rfl, rfl⟩ ?_ ?_
  · intro i σ H' hi
    exact absurd hi (Nat.not_lt_zero _)
  · rintro σ H' ⟨o, rfl, rfl⟩
    exact ⟨_, rfl, q _ (Same.refl _)⟩
abbrev s_figures_end : Stmt := top 11
theorem sc_figures_end : FnScope ["text", "at"] ["text", "at"] (defScope s_figures_end) := ⟨rfl, rfl, rfl, by decide +kernel, rfl, by decide +kernel, by decide +kernel⟩
theorem ok_figures_end {f : Addr} {fd : FuncData} {tF : Tok} (F : Fun K "figures_end" "figures_end" s_figures_end f fd) (B : Blt mg) (mF : mg "FIGURES" = some (.str "0123456789" tF)) : FnOk P w K mg base CX0 1 f fd ["text", "at"] spFigEnd := by
  refine F.ok sc_figures_end (fun vs H Q E h => ?_) (fun cdv A outer s H vs Q E hr h => ?_)
  · obtain ⟨z, k, rfl, _⟩ := h
    rfl
  obtain ⟨z, k, rfl, hk, hl, q⟩ := h
  have big : z.length ≤ sizeLine := by rw [sizeLine_eq]; omega
  have lz : (cs z).length = z.length := cs_len z
  refine ⟨_, (pss_cons (ps_while PassesOwn.never (PW.pt (pw_and (pt_cmpR op_lt (pv 1) (pe_callB call_len_str rfl B.len bt_len (pa_cons (pv 0) pa_nil)) (nomark _)) (pw_and1 (pt_cmpR op_in_one (pe_ix ix_str (pv 0) (pv 1) (fun _ _ => rfl)) (pe_glob (v := .str "0123456789") rfl mF ⟨_, rfl⟩) rfl)))) (pss_one (ps_aug (i := 1) sc_figures_end.nd rfl (by first | exact Or.inl rfl | exact Or.inr rfl) pe_int ip_add)))
      (pss_one (ps_ret (pv 1)))), ?_⟩
  refine ⟨fun m σ H' => ∃ j : Nat, σ = [some (.str z), some (.int j)] ∧ H = H' ∧ j ≤ z.length ∧ m = z.length - j ∧ j + (((cs z).drop j).takeWhile isF).length = k + (((cs z).drop k).takeWhile isF).length, ⟨_, k, rfl, rfl, hk, rfl, rfl⟩, ?_⟩
  rintro m σ H' ⟨j, rfl, rfl, hj, rfl, ej⟩
  refine ⟨_, rfl, _, rfl, z, rfl, big, _, _, rfl, rfl, _, rfl, ?_⟩
  refine ite2 (fun e => ?_) (fun e => ?_)
  · have hj2 : j < z.length := by have := of_decide_eq_true e; omega
    have hjc : j < (cs z).length := by omega
    have hat : atI z.cps.toList (j : Int) = some (cs z)[j] := atI_nat (List.getElem?_eq_getElem hjc)
    have ed : (cs z).drop j = (cs z)[j] :: (cs z).drop (j + 1) := List.drop_eq_getElem_cons hjc
    refine ⟨_, rfl, _, rfl, z, _, _, rfl, rfl, big, hat, _, _, rfl, rfl, _, rfl, ?_⟩
    refine ite2 (fun e2 => ?_) (fun e2 => ?_)
    · refine ⟨fun σ' H' => ∃ m', m' < z.length - j ∧ ∃ j : Nat, σ' = [some (.str z), some (.int j)] ∧ H = H' ∧ j ≤ z.length ∧ m' = z.length - j ∧ j + (((cs z).drop j).takeWhile isF).length = k + (((cs z).drop k).takeWhile isF).length, fun σ' H' h => h, ?_⟩
      refine ⟨_, rfl, _, _, rfl, rfl, z.length - (j + 1), by omega, j + 1, rfl, rfl, by omega, rfl, ?_⟩
      rw [ed, List.takeWhile_cons, show isF (cs z)[j] = true from e2] at ej
      have : ((cs z)[j] :: List.takeWhile isF (List.drop (j + 1) (cs z))).length = (List.takeWhile isF (List.drop (j + 1) (cs z))).length + 1 := rfl
      have ej' : j + ((cs z)[j] :: List.takeWhile isF (List.drop (j + 1) (cs z))).length = k + (((cs z).drop k).takeWhile isF).length := ej
      omega
    · have hf : isF (cs z)[j] = false := Bool.eq_false_iff.mpr e2
      rw [ed, List.takeWhile_cons, hf] at ej
      have ej' : j + 0 = k + (((cs z).drop k).takeWhile isF).length := ej
      rw [← ej'] at q
      exact ⟨_, rfl, q⟩
  · have hj2 : ¬ j < z.length := fun x => e (decide_eq_true (by omega))
    rw [List.drop_eq_nil_of_le (show (cs z).length ≤ j by omega)] at ej
    have ej' : j + 0 = k + (((cs z).drop k).takeWhile isF).length := ej
    rw [← ej'] at q
    refine iteF ?_
    exact ⟨_, rfl, q⟩
abbrev s_is_figures : Stmt := top 10
theorem sc_is_figures : FnScope ["text"] ["text"] (defScope s_is_figures) := ⟨rfl, rfl, rfl, by decide +kernel, rfl, by decide +kernel, by decide +kernel⟩
theorem ok_is_figures {f : Addr} {fd : FuncData} (F : Fun K "is_figures" "is_figures" s_is_figures f fd) (B : Blt mg) (Gend : Def P w K mg base CX0 1 "figures_end" spFigEnd) : FnOk P w K mg base CX0 2 f fd ["text"] spIsFig := by
  refine F.ok sc_is_figures (fun vs H Q E h => ?_) (fun cdv A outer s H vs Q E hr h => ?_)
  · obtain ⟨z, rfl, _⟩ := h
    rfl
  obtain ⟨z, rfl, hl, q⟩ := h
  have big : z.length ≤ sizeLine := by rw [sizeLine_eq]; omega
  have lz : (cs z).length = z.length := cs_len z
  refine ⟨_, (pss_one (ps_ret (pe_and (pe_cmpR op_ne (pv 0) pe_str (nomark _)) (pe_one (pe_cmpR op_eq (pe_def Gend (hr.mono (by omega)) (pa_cons (pv 0) (pa_cons pe_int pa_nil))) (pe_callB call_len_str rfl B.len bt_len (pa_cons (pv 0) pa_nil)) (nomark _)))))), ?_⟩
  refine ⟨_, rfl, rfl, _, rfl, ?_⟩
  refine ite2 (fun e => ?_) (fun e => ?_)
  · refine ⟨_, rfl, z, 0, rfl, Nat.zero_le _, hl, _, rfl, z, rfl, big, rfl, ?_⟩
    refine q _ ?_
    have ne : cs z ≠ [] := fun h => by
      have ez : z = "" := str_ext (by rw [h]; rfl)
      rw [ez] at e
      exact absurd e (by decide)
    rw [decide_eq_true_iff, List.drop_zero, lz]
    constructor
    · intro h
      have := V.int.inj h
      exact ⟨ne, by omega⟩
    · intro h
      have := h.2
      exact congrArg V.int (by omega)
  · refine q false ⟨fun h => (Bool.false_ne_true h).elim, fun h => ?_⟩
    have ez : z = "" := by
      have h2 := Decidable.of_not_not (fun h2 => e (by simp [h2]) : ¬ ¬ (V.str z = V.str ""))
      exact V.str.inj h2
    rw [ez] at h
    exact absurd rfl h.1
abbrev s_is_word : Stmt := top 15
theorem sc_is_word : FnScope ["piece"] ["piece"] (defScope s_is_word) := ⟨rfl, rfl, rfl, by decide +kernel, rfl, by decide +kernel, by decide +kernel⟩
theorem ok_is_word {f : Addr} {fd : FuncData} (F : Fun K "is_word" "is_word" s_is_word f fd) (B : Blt mg) : FnOk P w K mg base CX0 1 f fd ["piece"] spIsWord := by
  refine F.ok sc_is_word (fun vs H Q E h => ?_) (fun cdv A outer s H vs Q E hr h => ?_)
  · obtain ⟨z, rfl, _⟩ := h
    rfl
  obtain ⟨z, rfl, hw, q⟩ := h
  refine ⟨_, (pss_one (ps_ret (pe_and (pe_isin B.isinstance B.str bt_str (pv 0)) (pe_one (pe_cmpR op_ne (pv 0) pe_str (nomark _)))))), ?_⟩
  refine ⟨_, rfl, _, _, TyOf.str _, kit_str_str _, _, rfl, iteT ?_⟩
  refine ⟨_, rfl, rfl, ?_⟩
  have e : (!decide (V.str z = V.str "(")) = true := by
    have := (okWord_ne hw).1
    simp [this]
  rw [e]
  exact q
abbrev s_is_way : Stmt := top 16
theorem sc_is_way : FnScope ["piece"] ["piece"] (defScope s_is_way) := ⟨rfl, rfl, rfl, by decide +kernel, rfl, by decide +kernel, by decide +kernel⟩
theorem ok_is_way {f : Addr} {fd : FuncData} (F : Fun K "is_way" "is_way" s_is_way f fd) (B : Blt mg) : FnOk P w K mg base CX0 1 f fd ["piece"] spIsWay := by
  refine F.ok sc_is_way (fun vs H Q E h => ?_) (fun cdv A outer s H vs Q E hr h => ?_)
  · obtain ⟨z, x, rfl, _⟩ := h
    rfl
  obtain ⟨v, x, rfl, hw, q⟩ := h
  refine ⟨_, (pss_one (ps_ret (pe_not (pe_isin B.isinstance B.str bt_str (pv 0))))), ?_⟩
  cases hw with
  | num n => exact ⟨_, rfl, _, _, TyOf.int _, kit_int_str _, _, rfl, q⟩
  | op h ha hb => exact ⟨_, rfl, _, _, TyOf.tup h, kit_tup_str _, _, rfl, q⟩
theorem cutG_nat {l : List Nat} {a b : Nat} (h : a ≤ l.length) : cutG l (some (a : Int)) (some (b : Int)) = (l.drop a).take (b - a) := by
  unfold cutG
  rw [HT.sIx_nat, HT.sIx_nat, show min a l.length = a by omega]
  rcases Nat.le_total b l.length with hb | hb
  · rw [show min b l.length = b by omega]
  · rw [show min b l.length = l.length by omega, List.take_of_length_le (by rw [List.length_drop]; omega), List.take_of_length_le (by rw [List.length_drop]; omega)]
def kvS : List (Str × V) := [("plus", .str " + "), ("less", .str " - "), ("times", .str " * "), ("share", .str " / ")]
theorem take_while : ∀ l : List Nat, l.take (l.takeWhile isF).length = l.takeWhile isF
  | [] => rfl
  | c :: r => by
    rw [List.takeWhile_cons]
    cases h : isF c with
    | true =>
      show (c :: r).take ((r.takeWhile isF).length + 1) = c :: r.takeWhile isF
      rw [List.take_succ_cons, take_while r]
    | false => rfl
theorem while_digits : ∀ l : List Nat, PySem.NumText.AllDigits (l.takeWhile isF)
  | [] => fun c h => by cases h
  | c :: r => by
    rw [List.takeWhile_cons]
    cases h : isF c with
    | true =>
      intro d hd
      rcases List.mem_cons.mp hd with rfl | hd
      · exact (isF_iff d).mp h
      · exact while_digits r d hd
    | false => intro d hd; cases hd
abbrev s_piece_at : Stmt := top 13
theorem sc_piece_at : FnScope ["text", "at", "end", "word", "sign"] ["text", "at"] (defScope s_piece_at) := ⟨rfl, rfl, rfl, by decide +kernel, rfl, by decide +kernel, by decide +kernel⟩
theorem ok_piece_at {f : Addr} {fd : FuncData} {tF : Tok} {dS : Addr} (F : Fun K "piece_at" "piece_at" s_piece_at f fd) (B : Blt mg) (mF : mg "FIGURES" = some (.str "0123456789" tF)) (mS : mg "SIGNS" = some (.ref dS)) (TS : TopItems w K dS kvS)
    (Gnum : Def P w K mg base CX0 1 "number_of" spNumberOf) (Gend : Def P w K mg base CX0 1 "figures_end" spFigEnd) : FnOk P w K mg base CX0 2 f fd ["text", "at"] spPieceAt := by
  refine F.ok sc_piece_at (fun vs H Q E h => ?_) (fun cdv A outer s H vs Q E hr h => ?_)
  · obtain ⟨z, k, v, n, rfl, _⟩ := h
    rfl
  obtain ⟨z, k, v, n, rfl, hl, ht, q⟩ := h
  have big : z.length ≤ sizeLine := by rw [sizeLine_eq]; omega
  have lz : (cs z).length = z.length := cs_len z
  have hk : k < (cs z).length := by
    rcases Nat.lt_or_ge k (cs z).length with h | h
    · exact h
    · rw [List.drop_eq_nil_of_le h] at ht
      cases ht
  have ed : (cs z).drop k = (cs z)[k] :: (cs z).drop (k + 1) := List.drop_eq_getElem_cons hk
  have hat : atI z.cps.toList (k : Int) = some (cs z)[k] := atI_nat (List.getElem?_eq_getElem hk)
  generalize hc : (cs z)[k] = c at ed hat
  generalize hrr : (cs z).drop (k + 1) = r at ed
  refine ⟨_, (pss_cons (ps_if (pt_cmpR op_in_one (pe_ix ix_str (pv 0) (pv 1) (fun _ _ => rfl)) pe_str rfl) (pss_one (ps_ret (pe_tup (pa_cons (pe_ix ix_str (pv 0) (pv 1) (fun _ _ => rfl)) (pa_cons (pe_op op_add (pv 1) pe_int) pa_nil))))) pss_nil)
      (pss_cons (ps_if (pt_cmpR op_in_one (pe_ix ix_str (pv 0) (pv 1) (fun _ _ => rfl)) (pe_glob (v := .str "0123456789") rfl mF ⟨_, rfl⟩) rfl) (pss_cons (ps_set (i := 2) sc_piece_at.nd rfl (by first | exact Or.inl rfl | exact Or.inr rfl) (pe_def Gend (hr.mono (by omega)) (pa_cons (pv 0) (pa_cons (pv 1) pa_nil))))
      (pss_one (ps_ret (pe_tup (pa_cons (pe_def Gnum (hr.mono (by omega)) (pa_cons (pe_slice sl_str (pv 0) (po_some (pv 1)) (po_some (pv 2))) pa_nil)) (pa_cons (pv 2) pa_nil)))))) pss_nil)
      (pss_cons (ps_for PassesOwn.never rfl (pi_items mS TS) (pg_tup rfl (pgs_cons (pg_name (i := 3) sc_piece_at.nd rfl (by first | exact Or.inl rfl | exact Or.inr rfl)) (pgs_cons (pg_name (i := 4) sc_piece_at.nd rfl (by first | exact Or.inl rfl | exact Or.inr rfl)) pgs_nil))) (pss_one (ps_if (pt_cmpR op_eq (pe_slice sl_str (pv 0) (po_some (pv 1)) (po_some (pe_op op_add (pv 1) pe_int))) (pv 4) (nomark _)) (pss_one (ps_ret (pe_tup (pa_cons (pv 3) (pa_cons (pe_op op_add (pv 1) pe_int) pa_nil))))) pss_nil)))
      (pss_one ps_never)))), ?_⟩
  refine ⟨_, rfl, _, rfl, z, _, _, rfl, rfl, big, hat, _, _, rfl, rfl, _, rfl, ?_⟩
  rw [ed] at ht
  unfold tokAt at ht
  dsimp only at ht
  refine ite2 (fun e => ?_) (fun e => ?_)
  · have e1 : c = 40 ∨ c = 41 := by
      have := of_decide_eq_true e
      rw [show cs ("()" : Str) = [40, 41] by decide +kernel] at this
      simpa using this
    rw [if_pos e1] at ht
    cases ht
    refine ⟨_, rfl, _, rfl, z, _, _, rfl, rfl, big, hat, _, rfl, _, _, rfl, rfl, (by show 2 ≤ sizeLine; decide), fun t ht => ?_⟩
    exact q t _ (Same.new ht) upd_same
  have e1 : ¬ (c = 40 ∨ c = 41) := fun h => e (decide_eq_true (by rw [show cs ("()" : Str) = [40, 41] by decide +kernel]; simpa using h))
  rw [if_neg e1] at ht
  refine ⟨_, rfl, _, rfl, z, _, _, rfl, rfl, big, hat, _, _, rfl, rfl, _, rfl, ?_⟩
  refine ite2 (fun e2 => ?_) (fun e2 => ?_)
  · rw [if_pos (show isF c = true from e2)] at ht
    split at ht
    · rename_i hg
      cases ht
      rw [← ed] at hg q
      refine ⟨_, rfl, _, rfl, z, k, rfl, by omega, hl, ?_⟩
      refine ⟨_, rfl, _, rfl, _, rfl, _, rfl, _, rfl, z, rfl, big, fun y hy => ?_⟩
      have ey : cs y = ((cs z).drop k).takeWhile isF := by
        rw [hy, cutG_nat (by omega), show k + (((cs z).drop k).takeWhile isF).length - k = (((cs z).drop k).takeWhile isF).length by omega, take_while]
      refine ⟨y, rfl, by rw [ey]; exact while_digits _, ⟨c, r.takeWhile isF, ?_, hg.1⟩, by rw [← cs_len, ey]; exact hg.2, fun H' s' => ?_⟩
      · rw [ey, ed, List.takeWhile_cons, show isF c = true from e2]; rfl
      rw [ey]
      refine ⟨_, rfl, (by show 2 ≤ sizeLine; decide), fun t ht => ?_⟩
      exact q t _ (s'.trans (Same.new ht)) upd_same
    · cases ht
  rw [if_neg (show ¬ isF c = true from e2), ← ed] at ht
  refine for_items (kvs := kvS) (fun i σ H' => ∃ o1 o2 : Option V, σ = [some (.str z), some (.int k), none, o1, o2] ∧ Same H H' ∧ (0 < i → ((cs z).drop k).take 3 ≠ sgn "plus") ∧ (1 < i → ((cs z).drop k).take 3 ≠ sgn "less") ∧ (2 < i → ((cs z).drop k).take 3 ≠ sgn "times") ∧ (3 < i → ((cs z).drop k).take 3 ≠ sgn "share")) ⟨none, none, rfl, Same.refl _, by omega, by omega, by omega, by omega⟩ ?_ ?_
  · rintro i T wd x σ H' hi ⟨o1, o2, rfl, sH, n1, n2, n3, n4⟩ hT
    have hx : ∃ sg : Str, x = .str sg ∧ cs sg = sgn wd ∧ ((i = 0 ∧ wd = "plus") ∨ (i = 1 ∧ wd = "less") ∨ (i = 2 ∧ wd = "times") ∨ (i = 3 ∧ wd = "share")) := by
      match i, hi with
      | 0, hi => cases hi; exact ⟨_, rfl, by decide +kernel, .inl ⟨rfl, rfl⟩⟩
      | 1, hi => cases hi; exact ⟨_, rfl, by decide +kernel, .inr (.inl ⟨rfl, rfl⟩)⟩
      | 2, hi => cases hi; exact ⟨_, rfl, by decide +kernel, .inr (.inr (.inl ⟨rfl, rfl⟩))⟩
      | 3, hi => cases hi; exact ⟨_, rfl, by decide +kernel, .inr (.inr (.inr ⟨rfl, rfl⟩))⟩
      | i + 4, hi => cases hi
    obtain ⟨sg, rfl, hsg, hcase⟩ := hx
    refine ⟨T, _, rfl, SqT.of upd_same, rfl, _, _, rfl, _, _, rfl, rfl, ?_⟩
    refine ⟨_, rfl, _, rfl, _, rfl, _, rfl, _, _, rfl, rfl, _, rfl, z, rfl, big, fun y hy => ⟨_, rfl, rfl, _, rfl, ?_⟩⟩
    have ey : cs y = ((cs z).drop k).take 3 := by
      rw [hy]
      have := cutG_nat (l := cs z) (a := k) (b := k + 3) (by omega)
      rw [show k + 3 - k = 3 by omega] at this
      exact this
    refine ite2 (fun e3 => ?_) (fun e3 => ?_)
    · have e4 : y = sg := V.str.inj (of_decide_eq_true e3)
      subst e4
      rw [hsg] at ey
      have e5 : v = .str wd ∧ n = 3 := by
        rcases hcase with ⟨rfl, rfl⟩ | ⟨rfl, rfl⟩ | ⟨rfl, rfl⟩ | ⟨rfl, rfl⟩
        · rw [if_pos ey.symm] at ht; cases ht; exact ⟨rfl, rfl⟩
        · rw [if_neg (n1 (by omega)), if_pos ey.symm] at ht; cases ht; exact ⟨rfl, rfl⟩
        · rw [if_neg (n1 (by omega)), if_neg (n2 (by omega)), if_pos ey.symm] at ht; cases ht; exact ⟨rfl, rfl⟩
        · rw [if_neg (n1 (by omega)), if_neg (n2 (by omega)), if_neg (n3 (by omega)), if_pos ey.symm] at ht; cases ht; exact ⟨rfl, rfl⟩
      obtain ⟨rfl, rfl⟩ := e5
      refine ⟨_, rfl, _, rfl, _, _, rfl, rfl, (by show 2 ≤ sizeLine; decide), fun t ht => ?_⟩
      exact q t _ (sH.trans ((Same.new hT).trans (Same.new ht))) upd_same
    · have e4 : ((cs z).drop k).take 3 ≠ sgn wd := fun h => e3 (decide_eq_true (congrArg V.str (str_ext (by rw [ey, hsg]; exact h))))
      refine ⟨_, _, rfl, sH.trans (Same.new hT), ?_⟩
      rcases hcase with ⟨rfl, rfl⟩ | ⟨rfl, rfl⟩ | ⟨rfl, rfl⟩ | ⟨rfl, rfl⟩
      · exact ⟨fun _ => e4, by omega, by omega, by omega⟩
      · exact ⟨fun _ => n1 (by omega), fun _ => e4, by omega, by omega⟩
      · exact ⟨fun _ => n1 (by omega), fun _ => n2 (by omega), fun _ => e4, by omega⟩
      · exact ⟨fun _ => n1 (by omega), fun _ => n2 (by omega), fun _ => n3 (by omega), fun _ => e4⟩
  · rintro σ H' ⟨o1, o2, rfl, sH, n1, n2, n3, n4⟩
    rw [if_neg (n1 (by decide)), if_neg (n2 (by decide)), if_neg (n3 (by decide)), if_neg (n4 (by decide))] at ht
    cases ht
abbrev s_pieces_of : Stmt := top 12
theorem sc_pieces_of : FnScope ["text", "pieces", "at", "piece"] ["text"] (defScope s_pieces_of) := ⟨rfl, rfl, rfl, by decide +kernel, rfl, by decide +kernel, by decide +kernel⟩
theorem lex_len : ∀ {l : List Nat} {ts : List V}, Lex l ts → ts.length ≤ l.length := by
  intro l ts h
  induction h with
  | nil => exact Nat.le_refl _
  | cons h hk hr ih =>
    rename_i l v k ts
    rw [List.length_drop] at ih
    rw [List.length_cons]
    have : l ≠ [] := fun e => by rw [e] at h; cases h
    have : 0 < l.length := List.length_pos_iff.mpr this
    omega
theorem ok_pieces_of {f : Addr} {fd : FuncData} (F : Fun K "pieces_of" "pieces_of" s_pieces_of f fd) (B : Blt mg) (Gpiece : Def P w K mg base CX0 2 "piece_at" spPieceAt) : FnOk P w K mg base CX0 3 f fd ["text"] spPieces := by
  refine F.ok sc_pieces_of (fun vs H Q E h => ?_) (fun cdv A outer s H vs Q E hr h => ?_)
  · obtain ⟨z, ts, rfl, _⟩ := h
    rfl
  obtain ⟨z, ts, rfl, hl, hx, q⟩ := h
  have big : z.length ≤ sizeLine := by rw [sizeLine_eq]; omega
  have lz : (cs z).length = z.length := cs_len z
  have lt := lex_len hx
  refine ⟨_, (pss_cons (ps_set (i := 1) sc_pieces_of.nd rfl (by first | exact Or.inl rfl | exact Or.inr rfl) (pe_lst pa_nil))
      (pss_cons (ps_set (i := 2) sc_pieces_of.nd rfl (by first | exact Or.inl rfl | exact Or.inr rfl) pe_int)
      (pss_cons (ps_while PassesOwn.never (pt_cmpR op_lt (pv 2) (pe_callB call_len_str rfl B.len bt_len (pa_cons (pv 0) pa_nil)) (nomark _)) (pss_cons (ps_asg (pe_def Gpiece (hr.mono (by omega)) (pa_cons (pv 0) (pa_cons (pv 2) pa_nil))) (pg_tup rfl (pgs_cons (pg_name (i := 3) sc_pieces_of.nd rfl (by first | exact Or.inl rfl | exact Or.inr rfl)) (pgs_cons (pg_name (i := 2) sc_pieces_of.nd rfl (by first | exact Or.inl rfl | exact Or.inr rfl)) pgs_nil))))
      (pss_one (ps_expr (pe_bm PySem.F.plainAttrs_list PySem.F.slot_list_append PySem.F.type_list_append mt_append (pv 1) (pa_cons (pv 3) pa_nil))))))
      (pss_one (ps_ret (pv 1)))))), ?_⟩
  refine ⟨(by show 0 ≤ sizeLine; decide), fun p hp => ?_⟩
  refine ⟨fun m σ H' => ∃ (k : Nat) (t1 t2 : List V) (o : Option V), σ = [some (.str z), some (.ref p), some (.int k), o] ∧ Same H H' ∧ H' p = some (.lst t1) ∧ Lex ((cs z).drop k) t2 ∧ t1 ++ t2 = ts ∧ m = t2.length, ⟨_, 0, [], ts, none, rfl, Same.new hp, upd_same, hx, rfl, rfl⟩, ?_⟩
  rintro m σ H' ⟨k, t1, t2, o, rfl, sH, hP, lx, et, rfl⟩
  refine ⟨_, rfl, _, rfl, z, rfl, big, _, _, rfl, rfl, _, rfl, ?_⟩
  refine ite2 (fun e => ?_) (fun e => ?_)
  · have hk : k < (cs z).length := by have := of_decide_eq_true e; omega
    generalize hD : (cs z).drop k = l at lx
    cases lx with
    | nil =>
      have := congrArg List.length hD
      rw [List.length_drop] at this
      have h0 : (cs z).length - k = 0 := this
      omega
    | @cons _ v n t2' h hn hr2 =>
      refine ⟨fun σ' H' => ∃ m', m' < (v :: t2').length ∧ ∃ (k : Nat) (t1 t2 : List V) (o : Option V), σ' = [some (.str z), some (.ref p), some (.int k), o] ∧ Same H H' ∧ H' p = some (.lst t1) ∧ Lex ((cs z).drop k) t2 ∧ t1 ++ t2 = ts ∧ m' = t2.length, fun σ' H' h => h, ?_⟩
      refine ⟨_, rfl, _, rfl, z, k, v, n, rfl, hl, by rw [hD]; exact h, fun t H2 s2 h2 => ?_⟩
      refine ⟨t, _, rfl, SqT.of h2, rfl, _, _, rfl, _, _, rfl, rfl, ?_⟩
      have lt1 : t1.length ≤ 10000 := by rw [← et, List.length_append] at lt; omega
      refine ⟨_, rfl, .inl ⟨rfl, _, SqL.of (s2 _ _ hP)⟩, _, rfl, p, t1, v, rfl, rfl, s2 _ _ hP, (by rw [sizeLine_eq]; omega), ?_⟩
      refine ⟨t2'.length, Nat.lt_succ_self _, k + n, t1 ++ [v], t2', _, rfl, ?_, upd_same, ?_, by rw [List.append_assoc]; exact et, rfl⟩
      · exact fun b o e => by rw [upd_ne (ne_of_none e hp)]; exact s2 _ _ (sH b o e)
      · rw [← hD, List.drop_drop] at hr2; exact hr2
  · have hk : ¬ k < (cs z).length := fun h => e (decide_eq_true (by omega))
    rw [List.drop_eq_nil_of_le (by omega)] at lx
    have e2 : t2 = [] := by
      cases lx with
      | nil => rfl
      | cons h _ _ => cases h
    subst e2
    rw [List.append_nil] at et
    subst et
    exact ⟨_, rfl, q p _ sH hP⟩
abbrev s_way_closed : Stmt := top 14
theorem sc_way_closed : FnScope ["held", "bracket", "first", "word", "second"] ["held"] (defScope s_way_closed) := ⟨rfl, rfl, rfl, by decide +kernel, rfl, by decide +kernel, by decide +kernel⟩
theorem cut_last4 {pre four : List V} (h : four.length = 4) : cutV (pre ++ four) (some (-4)) none = four := by
  unfold cutV
  have e : HT.sIx (pre ++ four).length 0 (some (-4)) = pre.length := by
    show (if (-4 : Int) < 0 then ((-4 : Int) + ((pre ++ four).length : Int)).toNat else min (-4 : Int).toNat (pre ++ four).length) = _
    rw [if_pos (by decide), List.length_append, h]
    omega
  rw [e, HT.sIx_none, List.drop_left, List.length_append, h]
  exact List.take_of_length_le (by omega)
theorem ok_way_closed {f : Addr} {fd : FuncData} (F : Fun K "way_closed" "way_closed" s_way_closed f fd) (B : Blt mg) (Gword : Def P w K mg base CX0 1 "is_word" spIsWord) (Gway : Def P w K mg base CX0 1 "is_way" spIsWay) : FnOk P w K mg base CX0 2 f fd ["held"] spClosed := by
  refine F.ok sc_way_closed (fun vs H Q E h => ?_) (fun cdv A outer s H vs Q E hr h => ?_)
  · obtain ⟨p, pre, a, b, wd, x, y, rfl, _⟩ := h
    rfl
  obtain ⟨p, pre, a, b, wd, x, y, rfl, hp, hw, ha, hb, q⟩ := h
  refine ⟨_, (pss_cons (ps_if (pt_cmpR op_lt (pe_callB call_len_seq rfl B.len bt_len (pa_cons (pv 0) pa_nil)) pe_int (nomark _)) (pss_one ps_never) pss_nil)
      (pss_cons (ps_asg (pe_slice sl_list (pv 0) (po_some (pe_un un_neg pe_int)) po_none) (pg_lst rfl (pgs_cons (pg_name (i := 1) sc_way_closed.nd rfl (by first | exact Or.inl rfl | exact Or.inr rfl)) (pgs_cons (pg_name (i := 2) sc_way_closed.nd rfl (by first | exact Or.inl rfl | exact Or.inr rfl)) (pgs_cons (pg_name (i := 3) sc_way_closed.nd rfl (by first | exact Or.inl rfl | exact Or.inr rfl)) (pgs_cons (pg_name (i := 4) sc_way_closed.nd rfl (by first | exact Or.inl rfl | exact Or.inr rfl)) pgs_nil))))))
      (pss_cons (ps_if (PW.pt (pw_or (pt_cmpR op_ne (pv 1) pe_str (nomark _)) (pw_or (pt_not (pt_val (pe_def Gword (hr.mono (by omega)) (pa_cons (pv 3) pa_nil)))) (pw_or (pt_not (pt_val (pe_def Gway (hr.mono (by omega)) (pa_cons (pv 2) pa_nil)))) (pw_or1 (pt_not (pt_val (pe_def Gway (hr.mono (by omega)) (pa_cons (pv 4) pa_nil))))))))) (pss_one ps_never) pss_nil)
      (pss_one (ps_ret (pe_tup (pa_cons (pv 3) (pa_cons (pv 2) (pa_cons (pv 4) pa_nil))))))))), ?_⟩
  refine ⟨_, rfl, p, _, rfl, .inl (SqL.of hp), _, _, rfl, rfl, _, rfl, ?_⟩
  refine (show (if _ then _ else _ : Prop) from ?_)
  rw [if_neg (by rw [decide_eq_true_iff, List.length_append]; show ¬ (((pre.length + 4 : Nat) : Int) < 4); omega)]
  refine ⟨_, rfl, _, rfl, _, rfl, p, _, rfl, SqL.of hp, fun r hr' => ?_⟩
  rw [cut_last4 rfl]
  refine ⟨r, _, rfl, SqL.of upd_same, rfl, _, _, rfl, _, _, rfl, _, _, rfl, _, _, rfl, rfl, ?_⟩
  refine ⟨_, rfl, rfl, _, rfl, iteF ?_⟩
  refine ⟨_, rfl, wd, rfl, hw, _, rfl, iteF ?_⟩
  refine ⟨_, rfl, a, x, rfl, ha.kt (KT.new hr'), _, rfl, iteF ?_⟩
  refine ⟨_, rfl, b, y, rfl, hb.kt (KT.new hr'), _, rfl, iteF ?_⟩
  refine ⟨_, rfl, _, rfl, _, rfl, (by show 3 ≤ sizeLine; decide), fun t ht => ?_⟩
  exact q t _ ((Same.new hr').trans (Same.new ht)) upd_same
/-! where there is no text of a way -/
def spNumBad (T : Addr) : Sp := fun vs H _ E => ∃ (z : Str) (r : List Nat), vs = [.str z] ∧ cs z = 48 :: r ∧ ∀ H', Same H H' → E (.ref T) none H'
theorem ok_number_bad {f : Addr} {fd : FuncData} (F : Fun K "number_of" "number_of" s_number_of f fd) (B : Blt mg) (R : Refs P w K mg base W T S N bT bS bN) : FnOk P w K mg base (CXF P w) 1 f fd ["figures"] (spNumBad T) := by
  refine F.okX (k := 0) sc_number_of (fun vs H Q E h => ?_) (fun cdv A outer s H vs Q E hr h => ?_)
  · obtain ⟨z, r, rfl, _⟩ := h
    rfl
  obtain ⟨z, r, rfl, hz, q⟩ := h
  refine ⟨_, (pss_cons (ps_if (pt_val (pe_bm PySem.F.plainAttrs_str PySem.F.slot_str_startswith PySem.F.type_str_startswith mt_startswith (pv 0) (pa_cons pe_str pa_nil))) (pss_one (ps_raise0 rfl R.cT R.iT R.gT (pa_cons pe_str pa_nil))) pss_nil)
      (pss_cons (ps_set (i := 1) sc_number_of.nd rfl (by first | exact Or.inl rfl | exact Or.inr rfl) (pe_op op_mod (pe_callB call_len_str rfl B.len bt_len (pa_cons (pv 0) pa_nil)) pe_int))
      (pss_cons (ps_set (i := 2) sc_number_of.nd rfl (by first | exact Or.inl rfl | exact Or.inr rfl) (pe_callTy call_int_text rfl B.int bt_int (pa_cons (pe_op op_add_str pe_str (pe_slice sl_str (pv 0) po_none (po_some (pv 1)))) pa_nil)))
      (pss_cons (ps_for (x_passes rfl rfl) rfl (pi_range3e B.range (pa_cons (pv 1) (pa_cons (pe_callB call_len_str rfl B.len bt_len (pa_cons (pv 0) pa_nil)) (pa_cons pe_int pa_nil)))) (pg_name (i := 3) sc_number_of.nd rfl (by first | exact Or.inl rfl | exact Or.inr rfl)) (pss_one (ps_set (i := 2) sc_number_of.nd rfl (by first | exact Or.inl rfl | exact Or.inr rfl) (pe_op op_add (pe_op op_mul (pv 2) (pe_op op_pow pe_int pe_int)) (pe_callTy call_int_text rfl B.int bt_int (pa_cons (pe_slice sl_str (pv 0) (po_some (pv 3)) (po_some (pe_op op_add (pv 3) pe_int))) pa_nil))))))
      (pss_one (ps_ret (pv 2))))))), ?_⟩
  refine ⟨_, rfl, rfl, z, "0", rfl, rfl, _, rfl, ?_⟩
  have hs : (decide (0 + ("0" : Str).length ≤ z.length) && PySem.Builtin.Str.subAt z "0" 0) = true := by
    have h := (PySem.StrLaws.subAt_one z 48 0).mpr (by rw [show z.cps.toList = 48 :: r from hz]; rfl)
    rw [Bool.and_eq_true, decide_eq_true_iff]
    exact h
  rw [hs]
  refine iteT ?_
  exact ⟨(by show 1 ≤ sizeLine; decide), q H (Same.refl _)⟩
/-- number_of, whatever the figures -/
def spNumX (T : Addr) : Sp := fun vs H Q E => spNumberOf vs H Q E ∨ spNumBad T vs H Q E
def spPieceBad (T : Addr) : Sp := fun vs H _ E => ∃ (z : Str) (k : Nat), vs = [.str z, .int k] ∧ z.length ≤ 10000 ∧ k < z.length ∧ (((cs z).drop k).takeWhile isF).length < 64 ∧ tokAt ((cs z).drop k) = none ∧ ∀ H', Same H H' → E (.ref T) none H'
theorem ok_piece_bad {f : Addr} {fd : FuncData} {tF : Tok} {dS : Addr} (F : Fun K "piece_at" "piece_at" s_piece_at f fd) (B : Blt mg) (R : Refs P w K mg base W T S N bT bS bN) (mF : mg "FIGURES" = some (.str "0123456789" tF)) (mS : mg "SIGNS" = some (.ref dS)) (TS : TopItems w K dS kvS)
    (GnumX : Def P w K mg base (CXF P w) 1 "number_of" (spNumX T)) (Gend : Def P w K mg base CX0 1 "figures_end" spFigEnd) : FnOk P w K mg base (CXF P w) 2 f fd ["text", "at"] (spPieceBad T) := by
  refine F.okX (k := 1) sc_piece_at (fun vs H Q E h => ?_) (fun cdv A outer s H vs Q E hr h => ?_)
  · obtain ⟨z, k, rfl, _⟩ := h
    rfl
  obtain ⟨z, k, rfl, hl, hkz, h64, ht, q⟩ := h
  have big : z.length ≤ sizeLine := by rw [sizeLine_eq]; omega
  have lz : (cs z).length = z.length := cs_len z
  have hk : k < (cs z).length := by omega
  have ed : (cs z).drop k = (cs z)[k] :: (cs z).drop (k + 1) := List.drop_eq_getElem_cons hk
  have hat : atI z.cps.toList (k : Int) = some (cs z)[k] := atI_nat (List.getElem?_eq_getElem hk)
  generalize hc : (cs z)[k] = c at ed hat
  generalize hrr : (cs z).drop (k + 1) = r at ed
  refine ⟨_, (pss_cons (ps_if (pt_cmpR op_in_one (pe_ix ix_str (pv 0) (pv 1) (fun _ _ => rfl)) pe_str rfl) (pss_one (ps_ret (pe_tup (pa_cons (pe_ix ix_str (pv 0) (pv 1) (fun _ _ => rfl)) (pa_cons (pe_op op_add (pv 1) pe_int) pa_nil))))) pss_nil)
      (pss_cons (ps_if (pt_cmpR op_in_one (pe_ix ix_str (pv 0) (pv 1) (fun _ _ => rfl)) (pe_glob (v := .str "0123456789") rfl mF ⟨_, rfl⟩) rfl) (pss_cons (ps_set (i := 2) sc_piece_at.nd rfl (by first | exact Or.inl rfl | exact Or.inr rfl) (pe_def Gend (hr.mono (by omega)) (pa_cons (pv 0) (pa_cons (pv 1) pa_nil))))
      (pss_one (ps_ret (pe_tup (pa_cons (pe_defX GnumX (hr.mono (by omega)) (pa_cons (pe_slice sl_str (pv 0) (po_some (pv 1)) (po_some (pv 2))) pa_nil)) (pa_cons (pv 2) pa_nil)))))) pss_nil)
      (pss_cons (ps_for (x_passes rfl rfl) rfl (pi_items mS TS) (pg_tup rfl (pgs_cons (pg_name (i := 3) sc_piece_at.nd rfl (by first | exact Or.inl rfl | exact Or.inr rfl)) (pgs_cons (pg_name (i := 4) sc_piece_at.nd rfl (by first | exact Or.inl rfl | exact Or.inr rfl)) pgs_nil))) (pss_one (ps_if (pt_cmpR op_eq (pe_slice sl_str (pv 0) (po_some (pv 1)) (po_some (pe_op op_add (pv 1) pe_int))) (pv 4) (nomark _)) (pss_one (ps_ret (pe_tup (pa_cons (pv 3) (pa_cons (pe_op op_add (pv 1) pe_int) pa_nil))))) pss_nil)))
      (pss_one (ps_raise0 rfl R.cT R.iT R.gT (pa_cons pe_str pa_nil)))))), ?_⟩
  refine ⟨_, rfl, _, rfl, z, _, _, rfl, rfl, big, hat, _, _, rfl, rfl, _, rfl, ?_⟩
  rw [ed] at ht
  unfold tokAt at ht
  dsimp only at ht
  have e1 : ¬ (c = 40 ∨ c = 41) := fun h => by rw [if_pos h] at ht; cases ht
  rw [if_neg e1] at ht
  refine ite2 (fun e => ?_) (fun _ => ?_)
  · refine absurd ?_ e1
    have := of_decide_eq_true e
    rw [show cs ("()" : Str) = [40, 41] by decide +kernel] at this
    simpa using this
  refine ⟨_, rfl, _, rfl, z, _, _, rfl, rfl, big, hat, _, _, rfl, rfl, _, rfl, ?_⟩
  refine ite2 (fun e2 => ?_) (fun e2 => ?_)
  · rw [if_pos (show isF c = true from e2), ← ed] at ht
    have c48 : c = 48 := by
      rcases Decidable.em (c = 48) with h | h
      · exact h
      · rw [if_pos ⟨h, h64⟩] at ht; cases ht
    refine ⟨_, rfl, _, rfl, z, k, rfl, by omega, hl, ?_⟩
    refine ⟨_, rfl, _, rfl, _, rfl, _, rfl, _, rfl, z, rfl, big, fun y hy => ?_⟩
    have ey : cs y = ((cs z).drop k).takeWhile isF := by
      rw [hy, cutG_nat (by omega), show k + (((cs z).drop k).takeWhile isF).length - k = (((cs z).drop k).takeWhile isF).length by omega, take_while]
    refine .inr ⟨y, r.takeWhile isF, rfl, ?_, fun H' s' => q H' s'⟩
    rw [ey, ed, List.takeWhile_cons, show isF c = true from e2, c48]
    rfl
  rw [if_neg (show ¬ isF c = true from e2), ← ed] at ht
  have m1 : ((cs z).drop k).take 3 ≠ sgn "plus" := fun h => by rw [if_pos h] at ht; cases ht
  rw [if_neg m1] at ht
  have m2 : ((cs z).drop k).take 3 ≠ sgn "less" := fun h => by rw [if_pos h] at ht; cases ht
  rw [if_neg m2] at ht
  have m3 : ((cs z).drop k).take 3 ≠ sgn "times" := fun h => by rw [if_pos h] at ht; cases ht
  rw [if_neg m3] at ht
  have m4 : ((cs z).drop k).take 3 ≠ sgn "share" := fun h => by rw [if_pos h] at ht; cases ht
  refine for_items (kvs := kvS) (fun i σ H' => ∃ o1 o2 : Option V, σ = [some (.str z), some (.int k), none, o1, o2] ∧ Same H H') ⟨_, _, rfl, Same.refl H⟩ ?_ ?_
  · rintro i T' wd x σ H' hi ⟨o1, o2, rfl, sH⟩ hT
    have hx : ∃ sg : Str, x = .str sg ∧ cs sg = sgn wd ∧ ((cs z).drop k).take 3 ≠ sgn wd := by
      match i, hi with
      | 0, hi => cases hi; exact ⟨_, rfl, by decide +kernel, m1⟩
      | 1, hi => cases hi; exact ⟨_, rfl, by decide +kernel, m2⟩
      | 2, hi => cases hi; exact ⟨_, rfl, by decide +kernel, m3⟩
      | 3, hi => cases hi; exact ⟨_, rfl, by decide +kernel, m4⟩
      | i + 4, hi => cases hi
    obtain ⟨sg, rfl, hsg, hne⟩ := hx
    refine ⟨T', _, rfl, SqT.of upd_same, rfl, _, _, rfl, _, _, rfl, rfl, ?_⟩
    refine ⟨_, rfl, _, rfl, _, rfl, _, rfl, _, _, rfl, rfl, _, rfl, z, rfl, big, fun y hy => ⟨_, rfl, rfl, _, rfl, ?_⟩⟩
    have ey : cs y = ((cs z).drop k).take 3 := by
      rw [hy]
      have := cutG_nat (l := cs z) (a := k) (b := k + 3) (by omega)
      rw [show k + 3 - k = 3 by omega] at this
      exact this
    refine ite2 (fun e3 => ?_) (fun e3 => ?_)
    · have e4 : y = sg := V.str.inj (of_decide_eq_true e3)
      subst e4
      rw [hsg] at ey
      exact absurd ey.symm hne
    · exact ⟨_, _, rfl, sH.trans (Same.new hT)⟩
  · rintro σ H' ⟨o1, o2, rfl, sH⟩
    exact ⟨(by show 1 ≤ sizeLine; decide), q H' sH⟩
def spPieceX (T : Addr) : Sp := fun vs H Q E => spPieceAt vs H Q E ∨ spPieceBad T vs H Q E
theorem tok_pos {l : List Nat} {v : V} {n : Nat} (h : tokAt l = some (v, n)) : 1 ≤ n ∧ n ≤ l.length := by
  cases l with
  | nil => cases h
  | cons c r =>
    have tl : ∀ {m : Nat} {w : Str}, (c :: r).take 3 = sgn w → m = 3 → 1 ≤ m ∧ m ≤ (c :: r).length := fun {m w} e em => by
      have := congrArg List.length e
      simp [sgn] at this
      subst em
      refine ⟨by decide, ?_⟩
      rw [List.length_cons]
      omega
    unfold tokAt at h
    dsimp only at h
    split at h
    · cases h; exact ⟨by decide, by simp⟩
    split at h
    · rename_i hf
      split at h
      · cases h
        rw [List.takeWhile_cons, hf]
        refine ⟨by simp, ?_⟩
        have := (List.takeWhile_sublist isF (l := r)).length_le
        show (c :: r.takeWhile isF).length ≤ _
        simp only [List.length_cons]
        omega
      · cases h
    split at h
    · rename_i e; cases h; exact tl e rfl
    split at h
    · rename_i e; cases h; exact tl e rfl
    split at h
    · rename_i e; cases h; exact tl e rfl
    split at h
    · rename_i e; cases h; exact tl e rfl
    · cases h
def spPiecesBad (T : Addr) : Sp := fun vs H _ E => ∃ (z : Str), vs = [.str z] ∧ z.length ≤ 10000 ∧ (∀ k, (((cs z).drop k).takeWhile isF).length < 64) ∧ (∀ ts, ¬ Lex (cs z) ts) ∧ ∀ H', Same H H' → E (.ref T) none H'
theorem ok_pieces_bad {f : Addr} {fd : FuncData} (F : Fun K "pieces_of" "pieces_of" s_pieces_of f fd) (B : Blt mg) (GpieceX : Def P w K mg base (CXF P w) 2 "piece_at" (spPieceX T)) : FnOk P w K mg base (CXF P w) 3 f fd ["text"] (spPiecesBad T) := by
  refine F.okX (k := 2) sc_pieces_of (fun vs H Q E h => ?_) (fun cdv A outer s H vs Q E hr h => ?_)
  · obtain ⟨z, rfl, _⟩ := h
    rfl
  obtain ⟨z, rfl, hl, h64, hx, q⟩ := h
  have big : z.length ≤ sizeLine := by rw [sizeLine_eq]; omega
  have lz : (cs z).length = z.length := cs_len z
  refine ⟨_, (pss_cons (ps_set (i := 1) sc_pieces_of.nd rfl (by first | exact Or.inl rfl | exact Or.inr rfl) (pe_lst pa_nil))
      (pss_cons (ps_set (i := 2) sc_pieces_of.nd rfl (by first | exact Or.inl rfl | exact Or.inr rfl) pe_int)
      (pss_cons (ps_while (x_passes rfl rfl) (pt_cmpR op_lt (pv 2) (pe_callB call_len_str rfl B.len bt_len (pa_cons (pv 0) pa_nil)) (nomark _)) (pss_cons (ps_asg (pe_defX GpieceX (hr.mono (by omega)) (pa_cons (pv 0) (pa_cons (pv 2) pa_nil))) (pg_tup rfl (pgs_cons (pg_name (i := 3) sc_pieces_of.nd rfl (by first | exact Or.inl rfl | exact Or.inr rfl)) (pgs_cons (pg_name (i := 2) sc_pieces_of.nd rfl (by first | exact Or.inl rfl | exact Or.inr rfl)) pgs_nil))))
      (pss_one (ps_expr (pe_bm PySem.F.plainAttrs_list PySem.F.slot_list_append PySem.F.type_list_append mt_append (pv 1) (pa_cons (pv 3) pa_nil))))))
      (pss_one (ps_ret (pv 1)))))), ?_⟩
  refine ⟨(by show 0 ≤ sizeLine; decide), fun p hp => ?_⟩
  refine ⟨fun m σ H' => ∃ (k : Nat) (t1 : List V) (o : Option V), σ = [some (.str z), some (.ref p), some (.int k), o] ∧ Same H H' ∧ H' p = some (.lst t1) ∧ t1.length ≤ k ∧ k ≤ z.length ∧ (∀ ts, ¬ Lex ((cs z).drop k) ts) ∧ m = z.length - k, ⟨_, 0, [], none, rfl, Same.new hp, upd_same, Nat.le_refl _, Nat.zero_le _, hx, rfl⟩, ?_⟩
  rintro m σ H' ⟨k, t1, o, rfl, sH, hP, lk, kz, nx, rfl⟩
  refine ⟨_, rfl, _, rfl, z, rfl, big, _, _, rfl, rfl, _, rfl, ?_⟩
  have hk : k < z.length := by
    rcases Nat.lt_or_ge k z.length with h | h
    · exact h
    · exact absurd (by rw [List.drop_eq_nil_of_le (by omega)]; exact Lex.nil) (nx [])
  rw [decide_eq_true (show ((k : Nat) : Int) < ((z.length : Nat) : Int) by omega)]
  refine iteT ?_
  refine ⟨fun σ' H' => ∃ m', m' < z.length - k ∧ ∃ (k : Nat) (t1 : List V) (o : Option V), σ' = [some (.str z), some (.ref p), some (.int k), o] ∧ Same H H' ∧ H' p = some (.lst t1) ∧ t1.length ≤ k ∧ k ≤ z.length ∧ (∀ ts, ¬ Lex ((cs z).drop k) ts) ∧ m' = z.length - k, fun σ' H' h => h, ?_⟩
  cases ht : tokAt ((cs z).drop k) with
  | none => exact ⟨_, rfl, _, rfl, .inr ⟨z, k, rfl, hl, hk, h64 k, ht, fun H2 s2 => q H2 (sH.trans s2)⟩⟩
  | some vn =>
    obtain ⟨v, n⟩ := vn
    obtain ⟨n1, n2⟩ := tok_pos ht
    rw [List.length_drop] at n2
    refine ⟨_, rfl, _, rfl, .inl ⟨z, k, v, n, rfl, hl, ht, fun t H2 s2 h2 => ?_⟩⟩
    refine ⟨t, _, rfl, SqT.of h2, rfl, _, _, rfl, _, _, rfl, rfl, ?_⟩
    refine ⟨_, rfl, .inl ⟨rfl, _, SqL.of (s2 _ _ hP)⟩, _, rfl, p, t1, v, rfl, rfl, s2 _ _ hP, (by rw [sizeLine_eq]; omega), ?_⟩
    refine ⟨z.length - (k + n), by omega, k + n, t1 ++ [v], _, rfl, ?_, upd_same, by rw [List.length_append]; show t1.length + 1 ≤ k + n; omega, by omega, fun ts hts => nx (v :: ts) (.cons ht n1 (by rw [List.drop_drop]; exact hts)), rfl⟩
    exact fun b o e => by rw [upd_ne (ne_of_none e hp)]; exact s2 _ _ (sH b o e)
def spPiecesX (T : Addr) : Sp := fun vs H Q E => spPieces vs H Q E ∨ spPiecesBad T vs H Q E
end
end Law

set_option Elab.async false
set_option linter.all false
set_option maxRecDepth 100000
set_option maxHeartbeats 4000000
namespace Law
open PySem L2
section
variable {P : Program} {w : World} {K : PySem.W.Frag} {mg : Str → Option Value} {base : Heap} {W T S N : Addr} {bT bS bN : List Value}
def Item.isWd : Item → Bool
  | .wd _ => true
  | _ => false
def Item.isWy : Item → Bool
  | .wy _ => true
  | _ => false
theorem ItemIn.kind {H : Hp} {v : V} {it : Item} (h : ItemIn H v it) : (∃ w : Str, v = .str w ∧ it.isWy = false ∧ ((w = "(" ∧ it = .br) ∨ (w ≠ "(" ∧ it = .wd w))) ∨ (it.isWy = true ∧ it.isWd = false ∧ ((∃ n, v = .int n) ∨ ∃ p xs, v = .ref p ∧ H p = some (.tup xs))) := by
  cases h with
  | br => exact .inl ⟨_, rfl, rfl, .inl ⟨rfl, rfl⟩⟩
  | wd h => exact .inl ⟨_, rfl, rfl, .inr ⟨(okWord_ne h).1, rfl⟩⟩
  | wy h =>
    cases h with
    | num n => exact .inr ⟨rfl, rfl, .inl ⟨n, rfl⟩⟩
    | op h _ _ => exact .inr ⟨rfl, rfl, .inr ⟨_, _, rfl, h⟩⟩
def spIsWordA : Sp := fun vs H Q _ => ∃ (v : V) (it : Item), vs = [v] ∧ ItemIn H v it ∧ Q (.bl it.isWd) H
def spIsWayA : Sp := fun vs H Q _ => ∃ (v : V) (it : Item), vs = [v] ∧ ItemIn H v it ∧ Q (.bl it.isWy) H
theorem ok_is_wordA {f : Addr} {fd : FuncData} (F : Fun K "is_word" "is_word" s_is_word f fd) (B : Blt mg) : FnOk P w K mg base CX0 1 f fd ["piece"] spIsWordA := by
  refine F.ok sc_is_word (fun vs H Q E h => ?_) (fun cdv A outer s H vs Q E hr h => ?_)
  · obtain ⟨v, it, rfl, _⟩ := h
    rfl
  obtain ⟨v, it, rfl, hi, q⟩ := h
  refine ⟨_, (pss_one (ps_ret (pe_and (pe_isin B.isinstance B.str bt_str (pv 0)) (pe_one (pe_cmpR op_ne (pv 0) pe_str (nomark _)))))), ?_⟩
  rcases hi.kind with ⟨w', rfl, _, h⟩ | ⟨_, hd, h⟩
  · refine ⟨_, rfl, _, _, TyOf.str _, kit_str_str _, _, rfl, iteT ?_⟩
    refine ⟨_, rfl, rfl, ?_⟩
    rcases h with ⟨rfl, rfl⟩ | ⟨hw, rfl⟩
    · exact q
    · rw [decide_eq_false (fun z => hw (V.str.inj z))]
      exact q
  · rw [hd] at q
    rcases h with ⟨n, rfl⟩ | ⟨p, xs, rfl, hp⟩
    · exact ⟨_, rfl, _, _, TyOf.int _, kit_int_str _, _, rfl, iteF q⟩
    · exact ⟨_, rfl, _, _, TyOf.tup hp, kit_tup_str _, _, rfl, iteF q⟩
theorem ok_is_wayA {f : Addr} {fd : FuncData} (F : Fun K "is_way" "is_way" s_is_way f fd) (B : Blt mg) : FnOk P w K mg base CX0 1 f fd ["piece"] spIsWayA := by
  refine F.ok sc_is_way (fun vs H Q E h => ?_) (fun cdv A outer s H vs Q E hr h => ?_)
  · obtain ⟨v, it, rfl, _⟩ := h
    rfl
  obtain ⟨v, it, rfl, hi, q⟩ := h
  refine ⟨_, (pss_one (ps_ret (pe_not (pe_isin B.isinstance B.str bt_str (pv 0))))), ?_⟩
  rcases hi.kind with ⟨w', rfl, hy, h⟩ | ⟨hy, hd, h⟩
  · rw [hy] at q
    exact ⟨_, rfl, _, _, TyOf.str _, kit_str_str _, _, rfl, q⟩
  · rw [hy] at q
    rcases h with ⟨n, rfl⟩ | ⟨p, xs, rfl, hp⟩
    · exact ⟨_, rfl, _, _, TyOf.int _, kit_int_str _, _, rfl, q⟩
    · exact ⟨_, rfl, _, _, TyOf.tup hp, kit_tup_str _, _, rfl, q⟩
def spClosedBad (T : Addr) : Sp := fun vs H _ E => ∃ (p : Addr) (vl : List V) (il : List Item), vs = [.ref p] ∧ H p = some (.lst vl.reverse) ∧ Paired (ItemIn H) vl il ∧ closeIt il = none ∧ ∀ H', Same H H' → E (.ref T) none H'
theorem pr_consL {α β : Type} {F : α → β → Prop} {ys : List β} {xs : List α} (h : Paired F xs ys) {n : Nat} (hn : n + 1 ≤ xs.length) : ∃ x r b bs, xs = x :: r ∧ ys = b :: bs ∧ F x b ∧ Paired F r bs ∧ n ≤ r.length := by
  cases h with
  | nil => exact absurd hn (Nat.not_succ_le_zero n)
  | cons a r => exact ⟨_, _, _, _, rfl, rfl, a, r, Nat.le_of_succ_le_succ hn⟩
theorem four_pr {H : Hp} {vl : List V} {il : List Item} (h : Paired (ItemIn H) vl il) (h4 : 4 ≤ vl.length) : ∃ (v1 v2 v3 v4 : V) (vs : List V) (i1 i2 i3 i4 : Item) (is : List Item), vl = v1 :: v2 :: v3 :: v4 :: vs ∧ il = i1 :: i2 :: i3 :: i4 :: is ∧ ItemIn H v1 i1 ∧ ItemIn H v2 i2 ∧ ItemIn H v3 i3 ∧ ItemIn H v4 i4 ∧ Paired (ItemIn H) vs is := by
  obtain ⟨v1, r1, i1, s1, e1, f1, a1, p1, n1⟩ := pr_consL h h4
  obtain ⟨v2, r2, i2, s2, e2, f2, a2, p2, n2⟩ := pr_consL p1 n1
  obtain ⟨v3, r3, i3, s3, e3, f3, a3, p3, n3⟩ := pr_consL p2 n2
  obtain ⟨v4, r4, i4, s4, e4, f4, a4, p4, n4⟩ := pr_consL p3 n3
  exact ⟨v1, v2, v3, v4, r4, i1, i2, i3, i4, s4, by rw [e1, e2, e3, e4], by rw [f1, f2, f3, f4], a1, a2, a3, a4, p4⟩
theorem ok_closed_bad {f : Addr} {fd : FuncData} (F : Fun K "way_closed" "way_closed" s_way_closed f fd) (B : Blt mg) (R : Refs P w K mg base W T S N bT bS bN) (GwordX : Def P w K mg base (CXF P w) 1 "is_word" spIsWordA) (GwayX : Def P w K mg base (CXF P w) 1 "is_way" spIsWayA) : FnOk P w K mg base (CXF P w) 2 f fd ["held"] (spClosedBad T) := by
  refine F.okX (k := 1) sc_way_closed (fun vs H Q E h => ?_) (fun cdv A outer s H vs Q E hr h => ?_)
  · obtain ⟨p, vl, il, rfl, _⟩ := h
    rfl
  obtain ⟨p, vl, il, rfl, hp, pr, hc, q⟩ := h
  refine ⟨_, (pss_cons (ps_if (pt_cmpR op_lt (pe_callB call_len_seq rfl B.len bt_len (pa_cons (pv 0) pa_nil)) pe_int (nomark _)) (pss_one (ps_raise0 rfl R.cT R.iT R.gT (pa_cons pe_str pa_nil))) pss_nil)
      (pss_cons (ps_asg (pe_slice sl_list (pv 0) (po_some (pe_un un_neg pe_int)) po_none) (pg_lst rfl (pgs_cons (pg_name (i := 1) sc_way_closed.nd rfl (by first | exact Or.inl rfl | exact Or.inr rfl)) (pgs_cons (pg_name (i := 2) sc_way_closed.nd rfl (by first | exact Or.inl rfl | exact Or.inr rfl)) (pgs_cons (pg_name (i := 3) sc_way_closed.nd rfl (by first | exact Or.inl rfl | exact Or.inr rfl)) (pgs_cons (pg_name (i := 4) sc_way_closed.nd rfl (by first | exact Or.inl rfl | exact Or.inr rfl)) pgs_nil))))))
      (pss_cons (ps_if (PW.pt (pw_or (pt_cmpR (op_neX (hu60 hr)) (pv 1) pe_str (nomark _)) (pw_or (pt_not (pt_val (pe_defX GwordX (hr.mono (by omega)) (pa_cons (pv 3) pa_nil)))) (pw_or (pt_not (pt_val (pe_defX GwayX (hr.mono (by omega)) (pa_cons (pv 2) pa_nil)))) (pw_or1 (pt_not (pt_val (pe_defX GwayX (hr.mono (by omega)) (pa_cons (pv 4) pa_nil))))))))) (pss_one (ps_raise0 rfl R.cT R.iT R.gT (pa_cons pe_str pa_nil))) pss_nil)
      (pss_one (ps_ret (pe_tup (pa_cons (pv 3) (pa_cons (pv 2) (pa_cons (pv 4) pa_nil))))))))), ?_⟩
  refine ⟨_, rfl, p, _, rfl, .inl (SqL.of hp), _, _, rfl, rfl, _, rfl, ?_⟩
  refine ite2 (fun e => ?_) (fun e => ?_)
  · exact ⟨(by show 1 ≤ sizeLine; decide), q H (Same.refl H)⟩
  have h4 : 4 ≤ vl.length := by
    have : ¬ (((vl.reverse.length : Nat) : Int) < 4) := fun z => e (decide_eq_true z)
    rw [List.length_reverse] at this
    omega
  obtain ⟨v1, v2, v3, v4, vs, i1, i2, i3, i4, is, rfl, rfl, p1, p2, p3, p4, pr⟩ := four_pr pr h4
  have erev : (v1 :: v2 :: v3 :: v4 :: vs).reverse = vs.reverse ++ [v4, v3, v2, v1] := by simp
  rw [erev] at hp
  refine ⟨_, rfl, _, rfl, _, rfl, p, _, rfl, SqL.of hp, fun r hr' => ?_⟩
  rw [cut_last4 rfl]
  refine ⟨r, _, rfl, SqL.of upd_same, rfl, _, _, rfl, _, _, rfl, _, _, rfl, _, _, rfl, rfl, ?_⟩
  have kt : KT H (upd H r (.lst [v4, v3, v2, v1])) := KT.new hr'
  have bad : 1 ≤ sizeLine ∧ E (.ref T) none (upd H r (.lst [v4, v3, v2, v1])) := ⟨by decide, q _ (Same.new hr')⟩
  have key : (i4 = .br ∧ ((v4 : V) = .str "(")) ∨ (i4 ≠ .br ∧ ((∃ w' : Str, v4 = .str w' ∧ w' ≠ "(") ∨ (∃ n, v4 = .int n) ∨ ∃ p' xs, v4 = .ref p' ∧ H p' = some (.tup xs))) := by
    rcases p4.kind with ⟨w', rfl, _, h⟩ | ⟨hy, hd, h⟩
    · rcases h with ⟨rfl, rfl⟩ | ⟨hw, rfl⟩
      · exact .inl ⟨rfl, rfl⟩
      · exact .inr ⟨(fun z => by cases z), .inl ⟨_, rfl, hw⟩⟩
    · have n4 : i4 ≠ .br := fun z => by rw [z] at hy; cases hy
      rcases h with ⟨n, rfl⟩ | ⟨p', xs, rfl, hp'⟩
      · exact .inr ⟨n4, .inr (.inl ⟨n, rfl⟩)⟩
      · exact .inr ⟨n4, .inr (.inr ⟨p', xs, rfl, hp'⟩)⟩
  rcases key with ⟨e4, ev4⟩ | ⟨n4, h⟩
  · subst ev4
    refine ⟨_, rfl, .inl ⟨rfl, _, rfl, iteF ?_⟩⟩
    refine ⟨_, rfl, v2, i2, rfl, p2.kt kt, _, rfl, ?_⟩
    cases h2 : i2.isWd with
    | false => exact iteT (iteT bad)
    | true =>
      refine iteF ⟨_, rfl, v3, i3, rfl, p3.kt kt, _, rfl, ?_⟩
      cases h3 : i3.isWy with
      | false => exact iteT (iteT bad)
      | true =>
        refine iteF ⟨_, rfl, v1, i1, rfl, p1.kt kt, _, rfl, ?_⟩
        cases h1 : i1.isWy with
        | false => exact iteT bad
        | true =>
          exfalso
          subst e4
          cases i1 with
          | wy x1 =>
            cases i2 with
            | wd w2 =>
              cases i3 with
              | wy x3 => cases hc
              | _ => cases h3
            | _ => cases h2
          | _ => cases h1
  · rcases h with ⟨w', rfl, hw⟩ | ⟨n, rfl⟩ | ⟨p', xs, rfl, hp'⟩
    · refine ⟨_, rfl, .inl ⟨rfl, _, rfl, ?_⟩⟩
      rw [decide_eq_false (fun z => hw (V.str.inj z))]
      exact iteT (iteT bad)
    · refine ⟨_, rfl, .inl ⟨rfl, _, rfl, ?_⟩⟩
      rw [decide_eq_false (fun z => by cases z)]
      exact iteT (iteT bad)
    · exact ⟨_, rfl, .inr ⟨p', xs, _, rfl, rfl, kt _ _ hp', _, rfl, iteT (iteT bad)⟩⟩
def spClosedX (T : Addr) : Sp := fun vs H Q E => spClosed vs H Q E ∨ spClosedBad T vs H Q E
theorem tok_kind {l : List Nat} {v : V} {n : Nat} (h : tokAt l = some (v, n)) : (∃ n, v = .int n) ∨ v = .str "(" ∨ v = .str ")" ∨ ∃ w : Str, okWord w ∧ v = .str w := by
  cases l with
  | nil => cases h
  | cons c r =>
    unfold tokAt at h
    dsimp only at h
    split at h
    · rename_i e
      cases h
      rcases e with rfl | rfl
      · exact .inr (.inl rfl)
      · exact .inr (.inr (.inl rfl))
    split at h
    · split at h
      · cases h; exact .inl ⟨_, rfl⟩
      · cases h
    split at h
    · cases h; exact .inr (.inr (.inr ⟨_, .inl rfl, rfl⟩))
    split at h
    · cases h; exact .inr (.inr (.inr ⟨_, .inr (.inl rfl), rfl⟩))
    split at h
    · cases h; exact .inr (.inr (.inr ⟨_, .inr (.inr (.inl rfl)), rfl⟩))
    split at h
    · cases h; exact .inr (.inr (.inr ⟨_, .inr (.inr (.inr rfl)), rfl⟩))
    · cases h
theorem lex_kind {l : List Nat} {ts : List V} (h : Lex l ts) : ∀ y ∈ ts, (∃ n, y = .int n) ∨ y = .str "(" ∨ y = .str ")" ∨ ∃ w : Str, okWord w ∧ y = .str w := by
  induction h with
  | nil => intro y hy; cases hy
  | cons h hk hr ih =>
    intro y hy
    rcases List.mem_cons.mp hy with rfl | hy
    · exact tok_kind h
    · exact ih y hy
def Figs (z : Str) : Prop := cs z ≠ [] ∧ ((cs z).takeWhile isF).length = (cs z).length
def BadT (z : Str) : Prop := (Figs z ∧ ∃ r, cs z = 48 :: r) ∨ (¬ Figs z ∧ ((∀ ts, ¬ Lex (40 :: (cs z ++ [41])) ts) ∨ ∃ ts, Lex (40 :: (cs z ++ [41])) ts ∧ ∀ x, parse ts [] ≠ some [x]))
def spReadBad (T : Addr) : Sp := fun vs H _ E => ∃ (z : Str), vs = [.str z] ∧ z.length ≤ 5000 ∧ (∀ k, (((40 :: (cs z ++ [41])).drop k).takeWhile isF).length < 64) ∧ BadT z ∧ ∀ H', Same H H' → E (.ref T) none H'
theorem pr_cons {α β : Type} {F : α → β → Prop} {xs : List α} {b : β} {bs : List β} (h : Paired F xs (b :: bs)) : ∃ x r, xs = x :: r ∧ F x b ∧ Paired F r bs := by
  cases h with
  | cons a r => exact ⟨_, _, rfl, a, r⟩
theorem it_wy {H : Hp} {v : V} {x : Way} (h : ItemIn H v (.wy x)) : WayIn H v x := by
  cases h with
  | wy a => exact a
theorem it_wd {H : Hp} {v : V} {w : Str} (h : ItemIn H v (.wd w)) : v = .str w ∧ okWord w := by
  cases h with
  | wd a => exact ⟨rfl, a⟩
theorem it_br {H : Hp} {v : V} (h : ItemIn H v .br) : v = .str "(" := by
  cases h with
  | br => rfl
theorem close_pr {H : Hp} {vl : List V} {w : Str} {a b : Way} {r : List Item} (h : Paired (ItemIn H) vl (.wy b :: .wd w :: .wy a :: .br :: r)) : ∃ (v1 v3 : V) (vl4 : List V), vl = v1 :: .str w :: v3 :: .str "(" :: vl4 ∧ WayIn H v1 b ∧ okWord w ∧ WayIn H v3 a ∧ Paired (ItemIn H) vl4 r := by
  obtain ⟨v1, r1, e1, h1, p1⟩ := pr_cons h
  obtain ⟨v2, r2, e2, h2, p2⟩ := pr_cons p1
  obtain ⟨v3, r3, e3, h3, p3⟩ := pr_cons p2
  obtain ⟨v4, r4, e4, h4, p4⟩ := pr_cons p3
  obtain ⟨f2, hw⟩ := it_wd h2
  have f4 := it_br h4
  exact ⟨v1, v3, r4, by rw [e1, e2, e3, e4, f2, f4], it_wy h1, hw, it_wy h3, p4⟩
abbrev s_read_way : Stmt := top 9
theorem sc_read_way : FnScope ["text", "held", "piece"] ["text"] (defScope s_read_way) := ⟨rfl, rfl, rfl, by decide +kernel, rfl, by decide +kernel, by decide +kernel⟩
theorem last4 (n : Nat) (h : 4 ≤ n) : HT.sIx n 0 (some (-4)) = n - 4 := by
  show (if (-4 : Int) < 0 then ((-4 : Int) + (n : Int)).toNat else min (-4 : Int).toNat n) = n - 4
  rw [if_pos (by decide)]
  omega
theorem ok_read_bad {f : Addr} {fd : FuncData} (F : Fun K "read_way" "read_way" s_read_way f fd) (B : Blt mg) (R : Refs P w K mg base W T S N bT bS bN) (Gisf : Def P w K mg base CX0 2 "is_figures" spIsFig) (GnumX : Def P w K mg base (CXF P w) 1 "number_of" (spNumX T))
    (GpiecesX : Def P w K mg base (CXF P w) 3 "pieces_of" (spPiecesX T)) (GclosedX : Def P w K mg base (CXF P w) 2 "way_closed" (spClosedX T)) : FnOk P w K mg base (CXF P w) 4 f fd ["text"] (spReadBad T) := by
  refine F.okX (k := 3) sc_read_way (fun vs H Q E h => ?_) (fun cdv A outer s H vs Q E hr h => ?_)
  · obtain ⟨z, rfl, _⟩ := h
    rfl
  obtain ⟨z, rfl, hl, h64, hbad, q⟩ := h
  have sz : sizeLine = 16777216 := sizeLine_eq
  refine ⟨_, (pss_cons (ps_if (pt_val (pe_def Gisf (hr.mono (by omega)) (pa_cons (pv 0) pa_nil))) (pss_one (ps_ret (pe_defX GnumX (hr.mono (by omega)) (pa_cons (pv 0) pa_nil)))) pss_nil)
      (pss_cons (ps_set (i := 1) sc_read_way.nd rfl (by first | exact Or.inl rfl | exact Or.inr rfl) (pe_lst pa_nil))
      (pss_cons (ps_for (x_passes rfl rfl) rfl (pi_list (pe_defX GpiecesX (hr.mono (by omega)) (pa_cons (pe_op op_add_str (pe_op op_add_str pe_str (pv 0)) pe_str) pa_nil))) (pg_name (i := 2) sc_read_way.nd rfl (by first | exact Or.inl rfl | exact Or.inr rfl)) (pss_one (ps_if (pt_cmpR op_eq (pv 2) pe_str (nomark _)) (pss_one (ps_asg (pe_lst (pa_cons (pe_defX GclosedX (hr.mono (by omega)) (pa_cons (pv 1) pa_nil)) pa_nil)) (pg_subA (pv 1) (pe_sliceO (po_some (pe_un un_neg pe_int)) po_none) set_sl))) (pss_one (ps_expr (pe_bm PySem.F.plainAttrs_list PySem.F.slot_list_append PySem.F.type_list_append mt_append (pv 1) (pa_cons (pv 2) pa_nil)))))))
      (pss_cons (ps_if (pt_cmpR op_ne (pe_callB call_len_seq rfl B.len bt_len (pa_cons (pv 1) pa_nil)) pe_int (nomark _)) (pss_one (ps_raise0 rfl R.cT R.iT R.gT (pa_cons pe_str pa_nil))) pss_nil)
      (pss_one (ps_ret (pe_ix ix_list (pv 1) pe_int (fun _ _ => rfl)))))))), ?_⟩
  refine ⟨_, rfl, _, rfl, by omega, fun b hb => ⟨_, rfl, ?_⟩⟩
  rcases hbad with ⟨hf, r, hz⟩ | ⟨hf, hbad⟩
  · have eb : b = true := hb.mpr hf
    subst eb
    exact iteT ⟨_, rfl, .inr ⟨z, r, rfl, hz, fun H' s' => q H' s'⟩⟩
  have eb : b = false := by
    rw [Bool.eq_false_iff]
    exact fun e => hf (hb.mp e)
  subst eb
  refine iteF ?_
  refine ⟨(by show 0 ≤ sizeLine; decide), fun hd hhd => ?_⟩
  refine ⟨_, rfl, _, _, rfl, rfl, (by show 1 + z.length ≤ sizeLine; omega), _, _, rfl, rfl, (by rw [cs_len_app]; show 1 + z.length + 1 ≤ sizeLine; omega), ?_⟩
  have ecs : cs ((("(" : Str) ++ z) ++ (")" : Str)) = 40 :: (cs z ++ [41]) := by
    rw [cs_app, cs_app]; rfl
  have elen : ((("(" : Str) ++ z) ++ (")" : Str)).length ≤ 10000 := by rw [cs_len_app, cs_len_app]; show 1 + z.length + 1 ≤ 10000; omega
  rcases hbad with hbad | ⟨ts, lx, hp0⟩
  · exact .inr ⟨_, rfl, elen, by rw [ecs]; exact h64, by rw [ecs]; exact hbad, fun H' s' => q H' ((Same.new hhd).trans s')⟩
  have tl := lex_len lx
  have tl2 : ts.length ≤ 10000 := by
    have : (40 :: (cs z ++ [41])).length = z.length + 2 := by rw [List.length_cons, List.length_append, cs_len]; rfl
    omega
  refine .inl ⟨_, ts, rfl, elen, by rw [ecs]; exact lx, fun r H1 s1 hr1 => ?_⟩
  have h0 : H1 hd = some (.lst []) := s1 _ _ upd_same
  have nhr : hd ≠ r := fun e => by
    subst e
    rw [h0] at hr1
    injection hr1 with hr1
    injection hr1 with hr1
    subst hr1
    cases lx
  have kinds := lex_kind lx
  refine ⟨r, rfl, ⟨_, SqL.of hr1⟩, for_list (K := K) (a := r) (xs := ts) (fun i σ H' => ∃ (vl : List V) (il : List Item) (o : Option V), σ = [some (.str z), some (.ref hd), o] ∧ Same H H' ∧ H' r = some (.lst ts) ∧ H' hd = some (.lst vl.reverse) ∧ Paired (ItemIn H') vl il ∧ (∀ x, parse (ts.drop i) il ≠ some [x]) ∧ vl.length ≤ i)
    ⟨[], [], none, rfl, (Same.new hhd).trans s1, hr1, h0, .nil, hp0, Nat.le_refl _⟩ (fun i σ H' _ ⟨_, _, _, _, _, g, _⟩ => SqL.of g) ?_ ?_⟩
  · rintro i y σ H' hi ⟨vl, il, o, rfl, sH, hR, hP, pr, hrun, hlen⟩
    have hil : i < ts.length := (List.getElem?_eq_some_iff.mp hi).1
    have ed : ts.drop i = y :: ts.drop (i + 1) := by
      rw [List.drop_eq_getElem_cons hil, (List.getElem?_eq_some_iff.mp hi).2]
    rw [ed] at hrun
    have big : ∀ k : Nat, k ≤ 10000 → k < sizeLine := fun k hk => by omega
    have push : ∀ (v : V) (it : Item), ItemIn H' v it → (∀ x, parse (ts.drop (i + 1)) (it :: il) ≠ some [x]) → ∃ (vl' : List V) (il' : List Item) (o : Option V), [some (V.str z), some (V.ref hd), some v] = [some (V.str z), some (V.ref hd), o] ∧ Same H (upd H' hd (.lst (vl.reverse ++ [v]))) ∧ upd H' hd (.lst (vl.reverse ++ [v])) r = some (.lst ts) ∧ upd H' hd (.lst (vl.reverse ++ [v])) hd = some (.lst vl'.reverse) ∧ Paired (ItemIn (upd H' hd (.lst (vl.reverse ++ [v])))) vl' il' ∧ (∀ x, parse (ts.drop (i + 1)) il' ≠ some [x]) ∧ vl'.length ≤ i + 1 := fun v it hv hr2 =>
      ⟨v :: vl, it :: il, _, rfl, fun b o e => by rw [upd_ne (ne_of_none e hhd)]; exact sH b o e, by rw [upd_ne nhr.symm]; exact hR, by rw [upd_same, List.reverse_cons], Paired.mapP (Paired.cons hv pr) fun _ _ h => h.kt (KT.upd hP), hr2, Nat.succ_le_succ hlen⟩
    rcases kinds y (List.mem_of_getElem? hi) with ⟨n, rfl⟩ | rfl | rfl | ⟨w2, hw2, rfl⟩
    · refine ⟨_, rfl, rfl, _, rfl, ?_⟩
      rw [decide_eq_false (fun e => by cases e)]
      refine iteF ?_
      refine ⟨_, rfl, .inl ⟨rfl, _, SqL.of hP⟩, _, rfl, hd, _, _, rfl, rfl, hP, big _ (by rw [List.length_reverse]; omega), ?_⟩
      exact push _ (.wy (.num n)) (.wy (.num n)) fun x => by rw [← parse_int]; exact hrun x
    · refine ⟨_, rfl, rfl, _, rfl, ?_⟩
      rw [decide_eq_false (fun e => absurd (V.str.inj e) (by decide))]
      refine iteF ?_
      refine ⟨_, rfl, .inl ⟨rfl, _, SqL.of hP⟩, _, rfl, hd, _, _, rfl, rfl, hP, big _ (by rw [List.length_reverse]; omega), ?_⟩
      exact push _ .br .br fun x => by have := hrun x; rw [parse_str, if_pos rfl] at this; exact this
    · refine ⟨_, rfl, rfl, _, rfl, iteT ?_⟩
      cases hcl : closeIt il with
      | none => exact ⟨_, rfl, .inr ⟨hd, vl, il, rfl, hP, pr, hcl, fun H2 s2 => q H2 (sH.trans s2)⟩⟩
      | some st2 =>
        obtain ⟨w2, a2, b2, il2, rfl, rfl⟩ := closeIt_some hcl
        obtain ⟨v1, v3, vl4, rfl, w1, hw2, w3, pr⟩ := close_pr pr
        have erev : (v1 :: V.str w2 :: v3 :: V.str "(" :: vl4).reverse = vl4.reverse ++ [.str "(", v3, .str w2, v1] := by simp
        rw [erev] at hP
        have ln4 : vl4.length + 4 ≤ i := hlen
        refine ⟨_, rfl, .inl ⟨hd, _, _, _, _, _, _, rfl, hP, hw2, w3, w1, fun t H2 s2 ht => ?_⟩⟩
        refine ⟨(by show 1 ≤ sizeLine; decide), fun lq hlq => ?_⟩
        refine ⟨_, rfl, _, rfl, _, rfl, fun sl hsl => ?_⟩
        have hP3 : (upd (upd H2 lq (.lst [.ref t])) sl (slO (some (-4)) none sl)) hd = some (.lst (vl4.reverse ++ [.str "(", v3, .str w2, v1])) := Same.new hsl _ _ (Same.new hlq _ _ (s2 _ _ hP))
        have hQ3 : (upd (upd H2 lq (.lst [.ref t])) sl (slO (some (-4)) none sl)) lq = some (.lst [.ref t]) := Same.new hsl _ _ upd_same
        have nhq : hd ≠ lq := fun e => by subst e; rw [s2 _ _ hP] at hlq; cases hlq
        have nle : (vl4.reverse ++ [V.str "(", v3, V.str w2, v1]).length = vl4.length + 4 := by simp
        refine ⟨hd, lq, sl, _, _, some (-4), none, rfl, rfl, rfl, hP3, hQ3, nhq, upd_same, ?_, ?_, ?_⟩
        · rw [nle, last4 _ (by omega), HT.sIx_none]; omega
        · rw [nle]; show vl4.length + 4 + 1 ≤ sizeLine; omega
        · rw [nle, last4 _ (by omega), HT.sIx_none, ← nle, List.drop_length, nle]
          rw [show vl4.length + 4 - 4 = vl4.reverse.length by rw [List.length_reverse]; omega, List.take_left, List.append_nil]
          have kt : KT H' (upd (upd (upd H2 lq (.lst [.ref t])) sl (slO (some (-4)) none sl)) hd (.lst (vl4.reverse ++ [.ref t]))) := (KT.same (s2.trans ((Same.new hlq).trans (Same.new hsl)))).trans (KT.upd hP3)
          have hT : (upd (upd (upd H2 lq (.lst [.ref t])) sl (slO (some (-4)) none sl)) hd (.lst (vl4.reverse ++ [.ref t]))) t = some (.tup [.str w2, v3, v1]) := by
            have := KT.upd (o := .lst (vl4.reverse ++ [.ref t])) hP3
            exact this _ _ (Same.new hsl _ _ (Same.new hlq _ _ ht))
          refine ⟨.ref t :: vl4, .wy (.op w2 a2 b2) :: il2, _, rfl, ?_, ?_, ?_, ?_, fun x => ?_, by show vl4.length + 1 ≤ i + 1; omega⟩
          · exact fun b o e => by rw [upd_ne (ne_of_none e hhd)]; exact Same.new hsl _ _ (Same.new hlq _ _ (s2 _ _ (sH b o e)))
          · rw [upd_ne nhr.symm]; exact Same.new hsl _ _ (Same.new hlq _ _ (s2 _ _ hR))
          · rw [upd_same, List.reverse_cons]
          · exact .cons (.wy (.op hT (w3.kt kt) (w1.kt kt))) (Paired.mapP pr fun _ _ h => h.kt kt)
          · have := hrun x
            rw [parse_str, if_neg (by decide), if_pos rfl, hcl] at this
            exact this
    · obtain ⟨n1, n2⟩ := okWord_ne hw2
      refine ⟨_, rfl, rfl, _, rfl, ?_⟩
      rw [decide_eq_false (fun e => n2 (V.str.inj e))]
      refine iteF ?_
      refine ⟨_, rfl, .inl ⟨rfl, _, SqL.of hP⟩, _, rfl, hd, _, _, rfl, rfl, hP, big _ (by rw [List.length_reverse]; omega), ?_⟩
      exact push _ (.wd w2) (.wd hw2) fun x => by have := hrun x; rw [parse_str, if_neg n1, if_neg n2, if_pos hw2] at this; exact this
  · rintro σ H' ⟨vl, il, o, rfl, sH, hR, hP, pr, hrun, hlen⟩
    rw [List.drop_length] at hrun
    have n1 : vl.length ≠ 1 := fun e => by
      rw [pr.length] at e
      match il, e with
      | [x], _ => exact hrun x (by rw [parse])
    refine ⟨_, rfl, hd, _, rfl, .inl (SqL.of hP), rfl, _, rfl, ?_⟩
    rw [decide_eq_false (fun e => n1 (by have := V.int.inj e; rw [List.length_reverse] at this; omega))]
    exact iteT ⟨(by show 1 ≤ sizeLine; decide), q H' sH⟩
end
end Law

set_option Elab.async false
set_option linter.all false
set_option maxRecDepth 100000
set_option maxHeartbeats 4000000
namespace Law
open PySem L2
section
variable {P : Program} {w : World} {K : PySem.W.Frag} {mg : Str → Option Value} {base : Heap}
/-- the way, or None -/
def DueIn (H : Hp) (v : V) : Option Way → Prop
  | none => v = .non
  | some x => WayIn H v x
def spNR : Sp := fun vs H Q _ => ∃ z : Str, vs = [.str z] ∧ (∀ c ∈ cs z, c < 128) ∧ z.length ≤ 600 ∧ ∀ (v : V) (H' : Hp), Same H H' → DueIn H' v (numR (cs z)) → Q v H'
abbrev s_law_number_read : Stmt := top 28
theorem sc_law_number_read : FnScope ["text"] ["text"] (defScope s_law_number_read) := ⟨rfl, rfl, rfl, by decide +kernel, rfl, by decide +kernel, by decide +kernel⟩
theorem ok_number_read {f : Addr} {fd : FuncData} (F : Fun K "_law_number_read" "_law_number_read" s_law_number_read f fd) (B : Blt mg) : FnOk P w K mg base CX0 1 f fd ["text"] spNR := by
  refine F.ok sc_law_number_read (fun vs H Q E h => ?_) (fun cdv A outer s H vs Q E hr h => ?_)
  · obtain ⟨z, rfl, _⟩ := h
    rfl
  obtain ⟨z, rfl, ha, hl, q⟩ := h
  have big : z.length ≤ sizeLine := Nat.le_of_lt (small1000 (by omega))
  have lz : (cs z).length = z.length := cs_len z
  refine ⟨_, (pss_cons (ps_if (PW.pt (pw_or (pt_cmpR op_eq (pv 0) pe_str (nomark _)) (pw_or (pt_cmpR op_eq (pe_ix ix_str (pv 0) pe_int (fun _ _ => rfl)) pe_str (nomark _)) (pw_or1 (pt_cmpR (op_neNil (hu60 hr)) (pe_compC (N := ["sign"]) rfl (csC_of [none] rfl (by decide +kernel) (by decide +kernel) rfl rfl) rfl (pi_str (pv 0)) (fun _ _ _ _ => (pg_name (i := 0) (show (["sign"] : List Str).Nodup by decide +kernel) rfl (by first | exact Or.inl rfl | exact Or.inr rfl))) (fun _ _ _ _ => (ptl_one (pt_cmpR op_notIn_one (pv 0) pe_str rfl))) (fun _ _ _ _ => (pv 0))) (pe_lst pa_nil) (nomark _)))))) (pss_one (ps_ret pe_non)) pss_nil)
      (pss_one (ps_ret (pe_callTy call_int_text rfl B.int bt_int (pa_cons (pv 0) pa_nil))))), ?_⟩
  refine ⟨_, rfl, rfl, _, rfl, ?_⟩
  cases hz : cs z with
  | nil =>
    rw [hz] at q
    have e : z = "" := str_ext (by rw [hz]; rfl)
    subst e
    exact iteT (iteT (q .non H (Same.refl H) rfl))
  | cons c r =>
    have ne : ¬ V.str z = V.str "" := fun e => by
      have e2 := congrArg cs (V.str.inj e)
      rw [hz] at e2
      cases e2
    rw [decide_eq_false ne]
    refine iteF ?_
    have hat : atI z.cps.toList 0 = some c := atI_nat (j := 0) (by show (cs z)[0]? = some c; rw [hz]; rfl)
    refine ⟨_, rfl, z, 0, c, rfl, rfl, big, hat, rfl, _, rfl, ?_⟩
    have e0 : (V.str ⟨#[c]⟩ = V.str "0") ↔ c = 48 := by
      refine ⟨fun e => ?_, fun e => by subst e; rfl⟩
      have e2 := congrArg cs (V.str.inj e)
      exact (List.cons.inj e2).1
    by_cases hc : c = 48
    · rw [decide_eq_true (e0.mpr hc)]
      have hq : numR (cs z) = none := by rw [hz]; unfold numR; dsimp only; rw [if_neg (fun g => g.1 hc)]
      exact iteT (iteT (q .non H (Same.refl H) (by rw [hq]; rfl)))
    · rw [decide_eq_false (fun e => hc (e0.mp e))]
      refine iteF ?_
      refine ⟨_, rfl, z, rfl, ha, fun Dl hD C s3 fp => comp_str (z := z) (fun i ys σ H' => ∃ o, σ = [o] ∧ Same H H' ∧ ys = (((cs z).take i).filter fun c => !isF c).map fun c => V.str ⟨#[c]⟩) ⟨none, rfl, Same.new hD, rfl⟩ ?_ ?_⟩
      · rintro i c2 ys σ H' hi hly ⟨o, rfl, sH, ey⟩ eD
        have tk : (cs z).take (i + 1) = (cs z).take i ++ [c2] := by rw [List.take_add_one, hi]; rfl
        have il : i < (cs z).length := (List.getElem?_eq_some_iff.mp hi).1
        refine ⟨_, rfl, c2, _, rfl, rfl, _, rfl, ?_⟩
        cases hf : isF c2 with
        | true =>
          rw [show decide (c2 ∈ cs ("0123456789" : Str)) = true from hf]
          refine iteF ⟨ys, Nat.le_succ_of_le hly, ⟨_, rfl, sH, ?_⟩, eD⟩
          rw [tk, List.filter_append, ey]
          simp [hf]
        | false =>
          rw [show decide (c2 ∈ cs ("0123456789" : Str)) = false from hf]
          refine iteT ⟨_, rfl, ys, eD, small1000 (by omega), _, by rw [List.length_append]; exact Nat.add_le_add_right hly 1, ⟨_, rfl, fun b o eb => ?_, ?_⟩, upd_same⟩
          · rw [upd_ne (ne_of_none eb hD)]; exact sH b o eb
          · rw [tk, List.filter_append, ey]
            simp [hf]
      · rintro ys σ H' ⟨o, rfl, sH, ey⟩ eD
        rw [List.take_length] at ey
        refine ⟨(by show 0 ≤ sizeLine; decide), fun p2 hp2 => ⟨Dl, p2, ys, rfl, rfl, SqL.of (Same.new hp2 _ _ eD), SqL.of upd_same, _, rfl, ?_⟩⟩
        have S2 : Same H (upd H' p2 (.lst [])) := sH.trans (Same.new hp2)
        by_cases hall : (c :: r).all isF = true
        · have e2 : ys = [] := by
            rw [ey, hz, List.filter_eq_nil_iff.mpr fun y hy => by simp [List.all_eq_true.mp hall y hy]]
            rfl
          subst e2
          refine iteF ?_
          have ad : PySem.NumText.AllDigits (cs z) := by rw [hz]; exact fun y hy => (isF_iff y).mp (List.all_eq_true.mp hall y hy)
          have it := PySem.intText_digits ad (by rw [show z.cps.toList = c :: r from hz]; simp) (by omega)
          refine ⟨_, rfl, z, _, rfl, it, by omega, ?_⟩
          have hq : numR (cs z) = some (.num ((PySem.NumText.digitsVal (cs z) : Nat) : Int)) := by rw [hz]; unfold numR; dsimp only; rw [if_pos ⟨hc, hall⟩]
          exact q _ _ S2 (by rw [hq]; exact .num _)
        · have hq : numR (cs z) = none := by rw [hz]; unfold numR; dsimp only; rw [if_neg (fun g => hall g.2)]
          have e2 : ys ≠ [] := fun e => by
            rw [ey] at e
            have e3 := List.map_eq_nil_iff.mp e
            rw [hz] at e3
            exact hall (List.all_eq_true.mpr fun y hy => by simpa using List.filter_eq_nil_iff.mp e3 y hy)
          have e4 : (!ys.isEmpty) = true := by cases ys with | nil => exact absurd rfl e2 | cons _ _ => rfl
          rw [e4]
          exact iteT (q .non _ S2 (by rw [hq]; rfl))
end
end Law

set_option Elab.async false
set_option linter.all false
set_option maxRecDepth 100000
set_option maxHeartbeats 4000000
namespace Law
open PySem L2
section
variable {P : Program} {w : World} {K : PySem.W.Frag} {mg : Str → Option Value} {base : Heap}
def spLR (n : Nat) : Sp := fun vs H Q _ => ∃ z : Str, vs = [.str z] ∧ (∀ c ∈ cs z, c < 128) ∧ z.length ≤ 600 ∧ z.length + 5 ≤ 5 * n ∧ ∀ (v : V) (H' : Hp), Same H H' → DueIn H' v (readR n (cs z)) → Q v H'
def spPR (n : Nat) : Sp := fun vs H Q _ => ∃ z : Str, vs = [.str z] ∧ (∀ c ∈ cs z, c < 128) ∧ z.length ≤ 600 ∧ z.length + 3 ≤ 5 * n ∧ ∀ (v : V) (H' : Hp), Same H H' → DueIn H' v (partR (readR n) (cs z)) → Q v H'
theorem kit_non_int (K : PySem.W.Frag) : PySem.W.kitOne K (.type "NoneType") (.type "int") = some false := by with_unfolding_all rfl
theorem cutG_one {l : List Nat} : cutG l none (some 1) = l.take 1 := by
  unfold cutG
  rw [HT.sIx_none, show (some (1 : Int)) = some ((1 : Nat) : Int) from rfl, HT.sIx_nat, List.drop_zero]
  cases l with
  | nil => rfl
  | cons c r => rw [show min 1 (c :: r).length - 0 = 1 by simp]
theorem neg1 (n d : Nat) : HT.sIx n d (some (-1)) = n - 1 := by
  unfold HT.sIx
  simp
  omega
theorem cutG_last {l : List Nat} : cutG l (some (-1)) none = l.drop (l.length - 1) := by
  unfold cutG
  rw [HT.sIx_none, neg1, List.take_of_length_le (by rw [List.length_drop]; exact Nat.le_refl _)]
theorem cutG_in {l : List Nat} (h : 2 ≤ l.length) : cutG l (some 1) (some (-1)) = (l.drop 1).dropLast := by
  unfold cutG
  rw [neg1, show (some (1 : Int)) = some ((1 : Nat) : Int) from rfl, HT.sIx_nat, show min 1 l.length = 1 by omega, List.dropLast_eq_take, List.length_drop]
abbrev s_law_part_read : Stmt := top 29
theorem sc_law_part_read : FnScope ["text", "found"] ["text"] (defScope s_law_part_read) := ⟨rfl, rfl, rfl, by decide +kernel, rfl, by decide +kernel, by decide +kernel⟩
theorem ok_part_read {n : Nat} {f : Addr} {fd : FuncData} (F : Fun K "_law_part_read" "_law_part_read" s_law_part_read f fd) (B : Blt mg) (Gnr : Def P w K mg base CX0 1 "_law_number_read" spNR) (Glr : Def P w K mg base CX0 (2 * n + 2) "_law_read" (spLR n)) : FnOk P w K mg base CX0 (2 * n + 3) f fd ["text"] (spPR n) := by
  refine F.ok sc_law_part_read (fun vs H Q E h => ?_) (fun cdv A outer s H vs Q E hr h => ?_)
  · obtain ⟨z, rfl, _⟩ := h
    rfl
  obtain ⟨z, rfl, ha, hl, hn, q⟩ := h
  have big : z.length ≤ sizeLine := Nat.le_of_lt (small1000 (by omega))
  have lz : (cs z).length = z.length := cs_len z
  refine ⟨_, (pss_cons (ps_if (PW.pt (pw_or (pt_cmpR op_ne (pe_slice sl_str (pv 0) po_none (po_some pe_int)) pe_str (nomark _)) (pw_or1 (pt_cmpR op_ne (pe_slice sl_str (pv 0) (po_some (pe_un un_neg pe_int)) po_none) pe_str (nomark _))))) (pss_one (ps_ret (pe_def Gnr (hr.mono (by omega)) (pa_cons (pv 0) pa_nil)))) pss_nil)
      (pss_cons (ps_set (i := 1) sc_law_part_read.nd rfl (by first | exact Or.inl rfl | exact Or.inr rfl) (pe_def Glr (hr.mono (by omega)) (pa_cons (pe_slice sl_str (pv 0) (po_some pe_int) (po_some (pe_un un_neg pe_int))) pa_nil)))
      (pss_one (ps_ret (pe_ix ix_list (pe_lst (pa_cons (pv 1) (pa_cons pe_non pa_nil))) (pe_callTy call_int1 rfl B.int bt_int (pa_cons (pe_isin B.isinstance B.int bt_int (pv 1)) pa_nil)) (fun _ _ => rfl)))))), ?_⟩
  have cut1 : ∀ y : Str, cs y = cutG (cs z) none (some 1) → ((V.str y = V.str "(") ↔ (cs z).take 1 = [40]) := fun y hy => by
    rw [cutG_one] at hy
    refine ⟨fun e => ?_, fun e => ?_⟩
    · rw [← hy, V.str.inj e]; rfl
    · exact congrArg V.str (str_ext (by rw [hy, e]; rfl))
  have cut2 : ∀ y : Str, cs y = cutG (cs z) (some (-1)) none → ((V.str y = V.str ")") ↔ (cs z).drop ((cs z).length - 1) = [41]) := fun y hy => by
    rw [cutG_last] at hy
    refine ⟨fun e => ?_, fun e => ?_⟩
    · rw [← hy, V.str.inj e]; rfl
    · exact congrArg V.str (str_ext (by rw [hy, e]; rfl))
  refine ⟨_, rfl, _, rfl, z, rfl, big, fun y1 hy1 => ⟨rfl, _, rfl, ?_⟩⟩
  by_cases h1 : (cs z).take 1 = [40]
  · rw [decide_eq_true ((cut1 y1 hy1).mpr h1)]
    refine iteF ?_
    refine ⟨_, rfl, _, rfl, _, rfl, z, rfl, big, fun y2 hy2 => ⟨rfl, _, rfl, ?_⟩⟩
    by_cases h2 : (cs z).drop ((cs z).length - 1) = [41]
    · rw [decide_eq_true ((cut2 y2 hy2).mpr h2)]
      refine iteF ?_
      have l2 : 2 ≤ (cs z).length := by
        cases hz : cs z with
        | nil => rw [hz] at h1; cases h1
        | cons c r =>
          cases r with
          | nil =>
            rw [hz] at h1 h2
            have e1 : c = 40 := by simpa using h1
            have e2 : c = 41 := by simpa using h2
            omega
          | cons c2 r2 => simp
      have g0 : ¬ ((cs z).take 1 ≠ [40] ∨ (cs z).drop ((cs z).length - 1) ≠ [41]) := fun g => g.elim (fun g => g h1) fun g => g h2
      refine ⟨_, rfl, _, rfl, _, rfl, _, rfl, z, rfl, big, fun y3 hy3 => ?_⟩
      rw [cutG_in l2] at hy3
      have l3 : y3.length = z.length - 2 := by
        rw [← cs_len y3, hy3, List.length_dropLast, List.length_drop, lz]
        omega
      refine ⟨y3, rfl, fun c hc => ha c ?_, by omega, by omega, fun v H1 s1 hv => ?_⟩
      · rw [hy3] at hc
        exact List.mem_of_mem_drop (List.dropLast_subset _ hc)
      rw [hy3] at hv
      refine ⟨_, rfl, (by show 2 ≤ sizeLine; decide), fun p hpn => ?_⟩
      have s2 : Same H (upd H1 p (.lst [v, .non])) := s1.trans (Same.new hpn)
      cases hq : readR n (((cs z).drop 1).dropLast) with
      | none =>
        rw [hq] at hv
        have hp : partR (readR n) (cs z) = none := by unfold partR; rw [if_neg g0, hq]
        rw [hp] at q
        have ev : v = .non := hv
        subst ev
        refine ⟨_, rfl, _, _, TyOf.non, kit_non_int _, .inr ⟨_, rfl, ?_⟩⟩
        exact ⟨p, _, _, _, rfl, rfl, SqL.of upd_same, rfl, q _ _ s2 rfl⟩
      | some x =>
        rw [hq] at hv
        have hv' : WayIn H1 v x := hv
        cases x with
        | num k =>
          cases hv'
          have hp : partR (readR n) (cs z) = none := by unfold partR; rw [if_neg g0, hq]
          rw [hp] at q
          refine ⟨_, rfl, _, _, TyOf.int _, kit_int_int _, .inr ⟨_, rfl, ?_⟩⟩
          exact ⟨p, _, _, _, rfl, rfl, SqL.of upd_same, rfl, q _ _ s2 rfl⟩
        | op w a b =>
          have hp : partR (readR n) (cs z) = some (.op w a b) := by unfold partR; rw [if_neg g0, hq]
          rw [hp] at q
          have hk := hv'.kt (KT.same (Same.new (o := .lst [v, .non]) hpn))
          cases hv' with
          | @op p2 _ x y _ _ h ha hb =>
          refine ⟨_, rfl, _, _, TyOf.tup (Same.new hpn _ _ h), kit_tup_int _, .inr ⟨_, rfl, ?_⟩⟩
          exact ⟨p, _, _, _, rfl, rfl, SqL.of upd_same, rfl, q _ _ s2 hk⟩
    · rw [decide_eq_false (fun e => h2 ((cut2 y2 hy2).mp e))]
      have hp : partR (readR n) (cs z) = numR (cs z) := by
        unfold partR
        rw [if_pos (.inr h2)]
      rw [hp] at q
      exact iteT ⟨_, rfl, z, rfl, ha, hl, q⟩
  · rw [decide_eq_false (fun e => h1 ((cut1 y1 hy1).mp e))]
    have hp : partR (readR n) (cs z) = numR (cs z) := by
      unfold partR
      rw [if_pos (.inl h1)]
    rw [hp] at q
    exact iteT (iteT ⟨_, rfl, z, rfl, ha, hl, q⟩)
end
end Law

set_option Elab.async false
set_option linter.all false
set_option maxRecDepth 100000
set_option maxHeartbeats 4000000
namespace Law
open PySem L2
section
variable {P : Program} {w : World} {K : PySem.W.Frag} {mg : Str → Option Value} {base : Heap}
theorem cutG_pre {l : List Nat} {a : Nat} (h : a ≤ l.length) : cutG l none (some (a : Int)) = l.take a := by
  unfold cutG
  rw [HT.sIx_none, HT.sIx_nat, List.drop_zero, Nat.min_eq_left h, Nat.sub_zero]
theorem cutG_suf {l : List Nat} {a : Nat} : cutG l (some (a : Int)) none = l.drop a := by
  unfold cutG
  rw [HT.sIx_none, HT.sIx_nat]
  by_cases h : a ≤ l.length
  · rw [Nat.min_eq_left h, List.take_of_length_le (by rw [List.length_drop]; exact Nat.le_refl _)]
  · rw [Nat.min_eq_right (by omega), List.drop_of_length_le (Nat.le_refl _), List.drop_of_length_le (by omega), List.take_nil]
theorem cutG_at {l : List Nat} {a : Nat} : cutG l (some (a : Int)) (some ((a + 1 : Nat) : Int)) = l[a]?.toList := by
  unfold cutG
  rw [HT.sIx_nat, HT.sIx_nat]
  by_cases h : a < l.length
  · rw [Nat.min_eq_left (by omega), Nat.min_eq_left (by omega), Nat.add_sub_cancel_left, List.drop_eq_getElem_cons h, List.getElem?_eq_getElem h]
    rfl
  · rw [List.getElem?_eq_none (by omega), show min (a + 1) l.length - min a l.length = 0 by omega]
    rfl
theorem sg_in {c : Nat} : decide (c ∈ cs ("+-*/" : Str)) = isSg c := by
  have e : cs ("+-*/" : Str) = [43, 45, 42, 47] := by decide +kernel
  rw [e]
  unfold isSg
  simp [Bool.or_assoc]
  rfl
theorem one_eq {c k : Nat} {x : Str} (hx : cs x = [k]) : (V.str ⟨#[c]⟩ = V.str x) ↔ c = k := by
  refine ⟨fun e => ?_, fun e => ?_⟩
  · have e2 := congrArg cs (V.str.inj e)
    rw [hx] at e2
    exact (List.cons.inj e2).1
  · subst e
    exact congrArg V.str (str_ext hx.symm)
theorem sg_pick {c : Nat} (h : isSg c = true) : ∃ (i : Nat) (rest : List Nat), PySem.Builtin.Str.occurrences ("+-*/" : Str) ⟨#[c]⟩ 0 ("+-*/" : Str).length 1 = i :: rest ∧ atI [V.str "plus", V.str "less", V.str "times", V.str "share"] (i : Int) = some (V.str (wordC c)) := by
  have : c = 43 ∨ c = 45 ∨ c = 42 ∨ c = 47 := by
    unfold isSg at h
    simp at h
    omega
  rcases this with rfl | rfl | rfl | rfl
  · exact ⟨0, [], by decide +kernel, by rfl⟩
  · exact ⟨1, [], by decide +kernel, by rfl⟩
  · exact ⟨2, [], by decide +kernel, by rfl⟩
  · exact ⟨3, [], by decide +kernel, by rfl⟩
theorem toL_one {o : Option Nat} {k : Nat} {y x : Str} (hx : cs x = [k]) (hy : cs y = o.toList) : (V.str y = V.str x) ↔ o = some k := by
  refine ⟨fun e => ?_, fun e => ?_⟩
  · have e2 := congrArg cs (V.str.inj e)
    rw [hx, hy] at e2
    cases o with
    | none => cases e2
    | some c => exact congrArg some (List.cons.inj e2).1
  · subst e
    exact congrArg V.str (str_ext (hy.trans hx.symm))
theorem DueIn.notNon {H : Hp} {v : V} {x : Way} (h : DueIn H v (some x)) : v ≠ .non := by
  have h' : WayIn H v x := h
  cases h' <;> exact fun e => by cases e
abbrev s_law_read : Stmt := top 30
theorem sc_law_read : FnScope ["text", "depth", "signs", "at", "one", "other"] ["text"] (defScope s_law_read) := ⟨rfl, rfl, rfl, by decide +kernel, rfl, by decide +kernel, by decide +kernel⟩
theorem ok_read_step {n : Nat} {f : Addr} {fd : FuncData} (F : Fun K "_law_read" "_law_read" s_law_read f fd) (B : Blt mg) (Bmax : mg "max" = none) (Gnr : Def P w K mg base CX0 1 "_law_number_read" spNR) (Gpr : Def P w K mg base CX0 (2 * n + 3) "_law_part_read" (spPR n)) : FnOk P w K mg base CX0 (2 * n + 4) f fd ["text"] (spLR (n + 1)) := by
  refine F.ok sc_law_read (fun vs H Q E h => ?_) (fun cdv A outer s H vs Q E hr h => ?_)
  · obtain ⟨z, rfl, _⟩ := h
    rfl
  obtain ⟨z, rfl, ha, hl, hn, q⟩ := h
  have big : z.length ≤ sizeLine := Nat.le_of_lt (small1000 (by omega))
  have lz : (cs z).length = z.length := cs_len z
  have o1 : cs ("(" : Str) = [40] := rfl
  have o2 : cs (")" : Str) = [41] := rfl
  have o3 : cs (" " : Str) = [32] := rfl
  refine ⟨_, (pss_cons (ps_set (i := 1) sc_law_read.nd rfl (by first | exact Or.inl rfl | exact Or.inr rfl) pe_int)
      (pss_cons (ps_set (i := 2) sc_law_read.nd rfl (by first | exact Or.inl rfl | exact Or.inr rfl) (pe_lst pa_nil))
      (pss_cons (ps_for PassesOwn.never rfl (pi_range1 rfl B.range (pa_cons (pe_callB call_len_str rfl B.len bt_len (pa_cons (pv 0) pa_nil)) pa_nil)) (pg_name (i := 3) sc_law_read.nd rfl (by first | exact Or.inl rfl | exact Or.inr rfl)) (pss_cons (ps_set (i := 1) sc_law_read.nd rfl (by first | exact Or.inl rfl | exact Or.inr rfl) (pe_op op_sub (pe_op op_add (pv 1) (pe_callTy call_int1 rfl B.int bt_int (pa_cons (pe_cmpR op_eq (pe_ix ix_str (pv 0) (pv 3) (fun _ _ => rfl)) pe_str (nomark _)) pa_nil))) (pe_callTy call_int1 rfl B.int bt_int (pa_cons (pe_cmpR op_eq (pe_ix ix_str (pv 0) (pv 3) (fun _ _ => rfl)) pe_str (nomark _)) pa_nil))))
      (pss_cons (ps_if (pt_cmpR op_lt (pv 1) pe_int (nomark _)) (pss_one (ps_ret pe_non)) pss_nil)
      (pss_one (ps_if (PW.pt (pw_and (pt_cmpR op_eq (pv 1) pe_int (nomark _)) (pw_and1 (pt_cmpR op_in_one (pe_ix ix_str (pv 0) (pv 3) (fun _ _ => rfl)) pe_str rfl)))) (pss_one (ps_expr (pe_bm PySem.F.plainAttrs_list PySem.F.slot_list_append PySem.F.type_list_append mt_append (pv 2) (pa_cons (pv 3) pa_nil)))) pss_nil)))))
      (pss_cons (ps_if (pt_cmpR (op_eqNil (hu60 hr)) (pv 2) (pe_lst pa_nil) (nomark _)) (pss_one (ps_ret (pe_def Gnr (hr.mono (by omega)) (pa_cons (pv 0) pa_nil)))) pss_nil)
      (pss_cons (ps_set (i := 3) sc_law_read.nd rfl (by first | exact Or.inl rfl | exact Or.inr rfl) (pe_ix ix_list (pv 2) pe_int (fun _ _ => rfl)))
      (pss_cons (ps_if (PW.pt (pw_or (pt_cmpR op_gt (pe_callB call_len_seq rfl B.len bt_len (pa_cons (pv 2) pa_nil)) pe_int (nomark _)) (pw_or (pt_cmpR op_ne (pv 1) pe_int (nomark _)) (pw_or (pt_cmpR op_ne (pe_slice sl_str (pv 0) (po_some (pe_callB (call_max2 rfl) rfl Bmax bt_max (pa_cons pe_int (pa_cons (pe_op op_sub (pv 3) pe_int) pa_nil)))) (po_some (pv 3))) pe_str (nomark _)) (pw_or1 (pt_cmpR op_ne (pe_slice sl_str (pv 0) (po_some (pe_op op_add (pv 3) pe_int)) (po_some (pe_op op_add (pv 3) pe_int))) pe_str (nomark _))))))) (pss_one (ps_ret pe_non)) pss_nil)
      (pss_cons (ps_set (i := 4) sc_law_read.nd rfl (by first | exact Or.inl rfl | exact Or.inr rfl) (pe_def Gpr (hr.mono (by omega)) (pa_cons (pe_slice sl_str (pv 0) po_none (po_some (pe_op op_sub (pv 3) pe_int))) pa_nil)))
      (pss_cons (ps_set (i := 5) sc_law_read.nd rfl (by first | exact Or.inl rfl | exact Or.inr rfl) (pe_def Gpr (hr.mono (by omega)) (pa_cons (pe_slice sl_str (pv 0) (po_some (pe_op op_add (pv 3) pe_int)) po_none) pa_nil)))
      (pss_cons (ps_if (PW.pt (pw_or (pt_cmpR op_isN (pv 4) pe_non (nomark _)) (pw_or1 (pt_cmpR op_isN (pv 5) pe_non (nomark _))))) (pss_one (ps_ret pe_non)) pss_nil)
      (pss_one (ps_ret (pe_tup (pa_cons (pe_ix ix_list (pe_lst (pa_cons pe_str (pa_cons pe_str (pa_cons pe_str (pa_cons pe_str pa_nil))))) (pe_bm PySem.F.plainAttrs_str PySem.F.slot_str_index PySem.F.type_str_index mt_sindex pe_str (pa_cons (pe_ix ix_str (pv 0) (pv 3) (fun _ _ => rfl)) pa_nil)) (fun _ _ => rfl)) (pa_cons (pv 4) (pa_cons (pv 5) pa_nil))))))))))))))), ?_⟩
  refine ⟨(by show 0 ≤ sizeLine; decide), fun p hp => ?_⟩
  refine ⟨_, rfl, z, rfl, big, (z.length : Int), rfl, by omega, by omega, for_range (n := z.length) (fun k σ H' => ∃ (d : Int) (sg : List Nat) (o : Option V), σ = [some (.str z), some (.int d), some (.ref p), o, none, none] ∧ Same H H' ∧ H' p = some (.lst (sg.map fun j : Nat => V.int (j : Int))) ∧ sg.length ≤ k ∧ scan (cs z) 0 0 = (scan ((cs z).drop k) k d).map fun r => (r.1, sg ++ r.2)) ⟨0, [], none, rfl, Same.new hp, upd_same, Nat.le_refl _, ?_⟩ ?_ ?_⟩
  · rw [List.drop_zero]
    simp only [List.nil_append]
    exact map_same.symm
  · rintro i σ H' hi ⟨d, sg, o, rfl, sH, hP, hlen, hsc⟩
    rw [Int.zero_add]
    have il : i < (cs z).length := by omega
    obtain ⟨c, hc⟩ : ∃ c, (cs z)[i]? = some c := ⟨_, List.getElem?_eq_getElem il⟩
    have hat : atI z.cps.toList (i : Int) = some c := atI_nat (j := i) hc
    have dr : (cs z).drop i = c :: (cs z).drop (i + 1) := by
      rw [List.drop_eq_getElem_cons il, ← (List.getElem?_eq_some_iff.mp hc).2]
    rw [dr] at hsc
    refine ⟨_, rfl, _, rfl, _, rfl, z, i, c, rfl, rfl, big, hat, rfl, .inr ⟨_, rfl, _, _, rfl, rfl, ?_⟩⟩
    refine ⟨_, rfl, _, rfl, z, i, c, rfl, rfl, big, hat, rfl, .inr ⟨_, rfl, _, _, rfl, rfl, ?_⟩⟩
    have ed : d + (if decide (V.str ⟨#[c]⟩ = V.str "(") = true then 1 else 0) - (if decide (V.str ⟨#[c]⟩ = V.str ")") = true then 1 else 0) = stepD c d := by
      unfold stepD
      simp only [one_eq o1, one_eq o2, decide_eq_true_eq]
    show gName 1 (V.int (d + (if decide (V.str ⟨#[c]⟩ = V.str "(") = true then 1 else 0) - (if decide (V.str ⟨#[c]⟩ = V.str ")") = true then 1 else 0))) _ _ _
    rw [ed]
    rw [scan] at hsc
    refine ⟨_, rfl, _, _, rfl, rfl, _, rfl, ?_⟩
    by_cases hneg : stepD c d < 0
    · rw [decide_eq_true hneg]
      rw [if_pos hneg] at hsc
      have hq : readR (n + 1) (cs z) = none := by rw [readR, hsc]; rfl
      exact iteT (q .non H' sH (by rw [hq]; rfl))
    · rw [decide_eq_false hneg]
      refine iteF ?_
      rw [if_neg hneg] at hsc
      refine ⟨_, rfl, rfl, _, rfl, ?_⟩
      by_cases h0 : stepD c d = 0
      · rw [decide_eq_true (congrArg V.int h0)]
        refine iteT ?_
        refine ⟨_, rfl, _, rfl, z, i, c, rfl, rfl, big, hat, c, _, rfl, rfl, _, rfl, ?_⟩
        rw [sg_in]
        cases hs : isSg c with
        | true =>
          refine iteT ?_
          refine ⟨_, rfl, .inl ⟨rfl, _, SqL.of hP⟩, _, rfl, p, _, _, rfl, rfl, hP, by rw [List.length_map]; exact small1000 (by omega), ?_⟩
          refine ⟨stepD c d, sg ++ [i], _, rfl, fun b o eb => ?_, ?_, by rw [List.length_append]; exact Nat.succ_le_succ hlen, ?_⟩
          · rw [upd_ne (ne_of_none eb hp)]
            exact sH b o eb
          · rw [upd_same, List.map_append]
            rfl
          · rw [hsc, Option.map_map]
            congr 1
            funext r
            simp [h0, hs]
        | false =>
          refine iteF ?_
          refine ⟨stepD c d, sg, _, rfl, sH, hP, Nat.le_succ_of_le hlen, ?_⟩
          rw [hsc, Option.map_map]
          congr 1
          funext r
          simp [hs]
      · rw [decide_eq_false (fun e => h0 (V.int.inj e))]
        refine iteF (iteF ?_)
        refine ⟨stepD c d, sg, _, rfl, sH, hP, Nat.le_succ_of_le hlen, ?_⟩
        rw [hsc, Option.map_map]
        congr 1
        funext r
        simp [h0]
  · rintro σ H' ⟨d, sg, o, rfl, sH, hP, hlen, hsc⟩
    rw [List.drop_of_length_le (by omega)] at hsc
    have hsc2 : scan (cs z) 0 0 = some (d, sg) := by
      rw [hsc]
      show some (d, sg ++ []) = _
      rw [List.append_nil]
    refine ⟨_, rfl, (by show 0 ≤ sizeLine; decide), fun pe hpe => ⟨p, pe, _, rfl, rfl, SqL.of (Same.new hpe _ _ hP), SqL.of upd_same, _, rfl, ?_⟩⟩
    have sE : Same H (upd H' pe (.lst [])) := sH.trans (Same.new hpe)
    have hPe : (upd H' pe (.lst [])) p = some (.lst (sg.map fun j : Nat => V.int (j : Int))) := Same.new hpe _ _ hP
    cases sg with
    | nil =>
      have hq : readR (n + 1) (cs z) = numR (cs z) := by rw [readR, hsc2]
      rw [hq] at q
      exact iteT ⟨_, rfl, z, rfl, ha, hl, fun v H2 s2 hv => q v H2 (sE.trans s2) hv⟩
    | cons at_ more =>
      refine iteF ?_
      obtain ⟨_, c, hc, hsg⟩ := scan_mem hsc2 at_ (List.mem_cons_self ..)
      rw [Nat.sub_zero] at hc
      have il : at_ < (cs z).length := (List.getElem?_eq_some_iff.mp hc).1
      refine ⟨_, rfl, p, _, 0, V.int (at_ : Int), rfl, rfl, SqL.of hPe, atI_nat (j := 0) rfl, ?_⟩
      have rd : readR (n + 1) (cs z) = if more ≠ [] ∨ d ≠ 0 ∨ at_ = 0 ∨ (cs z)[at_ - 1]? ≠ some 32 ∨ (cs z)[at_ + 1]? ≠ some 32 then none else (partR (readR n) ((cs z).take (at_ - 1))).bind fun a => (partR (readR n) ((cs z).drop (at_ + 2))).bind fun b => some (.op (wordC c) a b) := by
        rw [readR, hsc2]
        have ec : (cs z).getD at_ 0 = c := by rw [List.getD_eq_getElem?_getD, hc]; rfl
        dsimp only
        rw [ec]
        split
        · rfl
        · cases partR (readR n) ((cs z).take (at_ - 1)) with
          | none => rfl
          | some a => cases partR (readR n) ((cs z).drop (at_ + 2)) <;> rfl
      have bad : (more ≠ [] ∨ d ≠ 0 ∨ at_ = 0 ∨ (cs z)[at_ - 1]? ≠ some 32 ∨ (cs z)[at_ + 1]? ≠ some 32) → Q .non (upd H' pe (.lst [])) := fun g => q _ _ sE (by rw [rd, if_pos g]; rfl)
      refine ⟨_, rfl, p, _, rfl, .inl (SqL.of hPe), _, _, rfl, rfl, _, rfl, ?_⟩
      cases more with
      | cons m1 m2 =>
        rw [decide_eq_true (by simp; omega)]
        exact iteT (iteT (bad (.inl (by simp))))
      | nil =>
        rw [decide_eq_false (by simp)]
        refine iteF ?_
        refine ⟨_, rfl, rfl, _, rfl, ?_⟩
        by_cases hd : d = 0
        · rw [decide_eq_true (congrArg V.int hd)]
          refine iteF ?_
          refine ⟨_, rfl, _, rfl, _, _, rfl, rfl, _, _, rfl, _, rfl, _, rfl, _, rfl, z, rfl, big, fun y hy => ⟨rfl, _, rfl, ?_⟩⟩
          by_cases a0 : at_ = 0
          · subst a0
            have ey : cs y = (none : Option Nat).toList := hy
            rw [decide_eq_false (fun e => by have := (toL_one o3 ey).mp e; cases this)]
            exact iteT (iteT (bad (.inr (.inr (.inl rfl)))))
          have em : (if (at_ : Int) - 1 > 0 then (at_ : Int) - 1 else 0) = ((at_ - 1 : Nat) : Int) := by split <;> omega
          rw [em, show ((at_ : Nat) : Int) = ((at_ - 1 + 1 : Nat) : Int) by omega, cutG_at] at hy
          by_cases h3 : (cs z)[at_ - 1]? = some 32
          · rw [decide_eq_true ((toL_one o3 hy).mpr h3)]
            refine iteF ?_
            refine ⟨_, rfl, _, rfl, _, _, rfl, rfl, _, rfl, _, rfl, _, _, rfl, rfl, _, rfl, z, rfl, big, fun y2 hy2 => ⟨rfl, _, rfl, ?_⟩⟩
            rw [show (at_ : Int) + 1 = ((at_ + 1 : Nat) : Int) by omega, show (at_ : Int) + 2 = ((at_ + 1 + 1 : Nat) : Int) by omega, cutG_at] at hy2
            by_cases h4 : (cs z)[at_ + 1]? = some 32
            · rw [decide_eq_true ((toL_one o3 hy2).mpr h4)]
              refine iteF ?_
              have i2 : at_ + 1 < (cs z).length := (List.getElem?_eq_some_iff.mp h4).1
              have g0 : ¬ (([] : List Nat) ≠ [] ∨ d ≠ 0 ∨ at_ = 0 ∨ (cs z)[at_ - 1]? ≠ some 32 ∨ (cs z)[at_ + 1]? ≠ some 32) := by
                simp [hd, a0, h3, h4]
              rw [if_neg g0] at rd
              rw [rd] at q
              refine ⟨_, rfl, _, rfl, _, _, rfl, rfl, _, rfl, z, rfl, big, fun y3 hy3 => ?_⟩
              rw [show (at_ : Int) - 1 = ((at_ - 1 : Nat) : Int) by omega, cutG_pre (by omega)] at hy3
              have l3 : y3.length = at_ - 1 := by rw [← cs_len y3, hy3, List.length_take]; omega
              refine ⟨y3, rfl, fun c hc => ha c (by rw [hy3] at hc; exact List.mem_of_mem_take hc), by omega, by omega, fun v1 H1 s1 hv1 => ?_⟩
              rw [hy3] at hv1
              refine ⟨_, rfl, _, rfl, _, _, rfl, rfl, _, rfl, z, rfl, big, fun y4 hy4 => ?_⟩
              rw [show (at_ : Int) + 2 = ((at_ + 2 : Nat) : Int) by omega, cutG_suf] at hy4
              have l4 : y4.length = z.length - (at_ + 2) := by rw [← cs_len y4, hy4, List.length_drop, lz]
              refine ⟨y4, rfl, fun c hc => ha c (by rw [hy4] at hc; exact List.mem_of_mem_drop hc), by omega, by omega, fun v2 H2 s2 hv2 => ?_⟩
              rw [hy4] at hv2
              refine ⟨_, rfl, rfl, _, rfl, ?_⟩
              cases e1 : partR (readR n) ((cs z).take (at_ - 1)) with
              | none =>
                rw [e1] at hv1 q
                rw [decide_eq_true (show v1 = .non from hv1)]
                exact iteT (iteT (q _ _ (sE.trans (s1.trans s2)) rfl))
              | some a =>
                rw [e1] at hv1 q
                rw [decide_eq_false hv1.notNon]
                refine iteF ?_
                refine ⟨_, rfl, rfl, _, rfl, ?_⟩
                cases e2 : partR (readR n) ((cs z).drop (at_ + 2)) with
                | none =>
                  rw [e2] at hv2 q
                  rw [decide_eq_true (show v2 = .non from hv2)]
                  exact iteT (q _ _ (sE.trans (s1.trans s2)) rfl)
                | some b =>
                  rw [e2] at hv2 q
                  rw [decide_eq_false hv2.notNon]
                  refine iteF ?_
                  obtain ⟨i, rest, ho, hw⟩ := sg_pick hsg
                  refine ⟨(by show 4 ≤ sizeLine; decide), fun pl hpl => ⟨rfl, _, rfl, _, rfl, z, at_, c, rfl, rfl, big, atI_nat (j := at_) hc, _, _, i, rest, rfl, rfl, ho, pl, _, _, _, rfl, rfl, SqL.of upd_same, hw, _, rfl, _, rfl, (by show 3 ≤ sizeLine; decide), fun pt hpt => ?_⟩⟩
                  have w1 : WayIn H1 v1 a := hv1
                  have w2 : WayIn H2 v2 b := hv2
                  have sL := (Same.new (o := .lst [V.str "plus", V.str "less", V.str "times", V.str "share"]) hpl).trans (Same.new (o := .tup [V.str (wordC c), v1, v2]) hpt)
                  exact q (.ref pt) _ (sE.trans (s1.trans (s2.trans sL))) (WayIn.op upd_same (w1.kt (KT.same (s2.trans sL))) (w2.kt (KT.same sL)))
            · rw [decide_eq_false (fun e => h4 ((toL_one o3 hy2).mp e))]
              exact iteT (bad (.inr (.inr (.inr (.inr h4)))))
          · rw [decide_eq_false (fun e => h3 ((toL_one o3 hy).mp e))]
            exact iteT (iteT (bad (.inr (.inr (.inr (.inl h3))))))
        · rw [decide_eq_false (fun e => hd (V.int.inj e))]
          exact iteT (iteT (bad (.inr (.inl hd))))
end
end Law

set_option Elab.async false
set_option linter.all false
set_option maxRecDepth 100000
set_option maxHeartbeats 4000000
namespace Law
open PySem L2
section
variable {P : Program} {w : World} {K : PySem.W.Frag} {mg : Str → Option Value} {base : Heap}
theorem ok_law_read {f f2 : Addr} {fd fd2 : FuncData} (F : Fun K "_law_read" "_law_read" s_law_read f fd) (b : Binds K fd ["text"] []) (m : mg "_law_read" = some (.ref f)) (F2 : Fun K "_law_part_read" "_law_part_read" s_law_part_read f2 fd2) (b2 : Binds K fd2 ["text"] []) (m2 : mg "_law_part_read" = some (.ref f2))
    (B : Blt mg) (Bmax : mg "max" = none) (Gnr : Def P w K mg base CX0 1 "_law_number_read" spNR) : ∀ n, FnOk P w K mg base CX0 (2 * n + 2) f fd ["text"] (spLR n)
  | 0 => by
    have no : ∀ vs H Q E, ¬ spLR 0 vs H Q E := fun vs H Q E h => by
      obtain ⟨z, _, _, _, h, _⟩ := h
      omega
    exact ⟨fun vs H Q E h => absurd h (no vs H Q E), fun A outer s H args us vs Q E _ _ _ _ h => absurd h (no vs H Q E)⟩
  | n + 1 => ok_read_step F B Bmax Gnr (mkDef (ok_part_read F2 B Gnr (mkDef (ok_law_read F b m F2 b2 m2 B Bmax Gnr n) b m F.kp)) b2 m2 F2.kp)
def Way.top : Way → Int
  | .num n => n
  | .op _ a b => if b.top > a.top then b.top else a.top
def spGr (n : Nat) : Sp := fun vs H Q _ => ∃ (v : V) (x : Way), vs = [v] ∧ WayIn H v x ∧ x.ht < n ∧ ∀ (H' : Hp), Same H H' → Q (.int x.top) H'
abbrev s_law_greatest : Stmt := top 31
theorem sc_law_greatest : FnScope ["way"] ["way"] (defScope s_law_greatest) := ⟨rfl, rfl, rfl, by decide +kernel, rfl, by decide +kernel, by decide +kernel⟩
theorem ok_gr_step {n : Nat} {f : Addr} {fd : FuncData} (F : Fun K "_law_greatest" "_law_greatest" s_law_greatest f fd) (B : Blt mg) (Bmax : mg "max" = none) (Ggr : Def P w K mg base CX0 (n + 1) "_law_greatest" (spGr n)) : FnOk P w K mg base CX0 (n + 2) f fd ["way"] (spGr (n + 1)) := by
  refine F.ok sc_law_greatest (fun vs H Q E h => ?_) (fun cdv A outer s H vs Q E hr h => ?_)
  · obtain ⟨v, x, rfl, _⟩ := h
    rfl
  obtain ⟨v, x, rfl, hx, hn, q⟩ := h
  refine ⟨_, (pss_cons (ps_if (pt_val (pe_isin B.isinstance B.int bt_int (pv 0))) (pss_one (ps_ret (pv 0))) pss_nil)
      (pss_one (ps_ret (pe_callB (call_max2 rfl) rfl Bmax bt_max (pa_cons (pe_def Ggr (hr.mono (by omega)) (pa_cons (pe_ix ix_tup (pv 0) pe_int (fun _ _ => rfl)) pa_nil)) (pa_cons (pe_def Ggr (hr.mono (by omega)) (pa_cons (pe_ix ix_tup (pv 0) pe_int (fun _ _ => rfl)) pa_nil)) pa_nil)))))), ?_⟩
  cases hx with
  | num k =>
    refine ⟨_, rfl, _, _, TyOf.int _, kit_int_int _, _, rfl, iteT ⟨_, rfl, ?_⟩⟩
    exact q H (Same.refl H)
  | @op p wd x y a b h ha hb =>
    have hta : a.ht < n := by have : max a.ht b.ht + 1 < n + 1 := hn; omega
    have htb : b.ht < n := by have : max a.ht b.ht + 1 < n + 1 := hn; omega
    refine ⟨_, rfl, _, _, TyOf.tup h, kit_tup_int _, _, rfl, iteF ?_⟩
    refine ⟨_, rfl, p, _, _, x, rfl, rfl, SqT.of h, rfl, x, a, rfl, ha, hta, fun H1 s1 => ?_⟩
    refine ⟨_, rfl, p, _, _, y, rfl, rfl, SqT.of (s1 _ _ h), rfl, y, b, rfl, hb.kt (KT.same s1), htb, fun H2 s2 => ?_⟩
    exact ⟨_, _, rfl, q _ (s1.trans s2)⟩
theorem ok_greatest {f : Addr} {fd : FuncData} (F : Fun K "_law_greatest" "_law_greatest" s_law_greatest f fd) (b : Binds K fd ["way"] []) (m : mg "_law_greatest" = some (.ref f)) (B : Blt mg) (Bmax : mg "max" = none) : ∀ n, FnOk P w K mg base CX0 (n + 1) f fd ["way"] (spGr n)
  | 0 => by
    have no : ∀ vs H Q E, ¬ spGr 0 vs H Q E := fun vs H Q E h => by
      obtain ⟨v, x, _, _, h, _⟩ := h
      omega
    exact ⟨fun vs H Q E h => absurd h (no vs H Q E), fun A outer s H args us vs Q E _ _ _ _ h => absurd h (no vs H Q E)⟩
  | n + 1 => ok_gr_step F B Bmax (mkDef (ok_greatest F b m B Bmax n) b m F.kp)
end
end Law

set_option Elab.async false
set_option linter.all false
set_option maxRecDepth 100000
namespace Law
open PySem L2 PySem.NumText PyProof.Rows
theorem while_41 : ∀ l : List Nat, (l ++ [41]).takeWhile isF = l.takeWhile isF
  | [] => rfl
  | c :: r => by
    rw [List.cons_append, List.takeWhile_cons, List.takeWhile_cons, while_41 r]
theorem Runs.framed {l : List Nat} (h : Runs l) (k : Nat) : (((40 :: (l ++ [41])).drop k).takeWhile isF).length < 64 := by
  cases k with
  | zero => exact Nat.zero_lt_of_lt (h 0)
  | succ k =>
    rw [List.drop_succ_cons, List.drop_append]
    cases hj : k - l.length with
    | zero =>
      rw [List.drop_zero, while_41]
      exact h k
    | succ j =>
      rw [List.drop_succ_cons, List.drop_nil, List.append_nil]
      exact h k
theorem dig_one {n : Int} (h0 : 1 ≤ n) (h1 : n < topN) : 1 ≤ (dig n).length := by
  obtain ⟨_, ⟨c, r, e, _⟩, _, _⟩ := dig_facts h0 h1
  rw [e]
  simp
theorem par_ht : ∀ {x : Way}, x.pos → 5 * x.ht + 1 ≤ (par x).length ∧ 6 * x.size ≤ (par x).length + 5 := by
  intro x
  induction x with
  | num n =>
    intro h
    have := dig_one h.1 h.2
    have e : (par (.num n)).length = (dig n).length := rfl
    rw [e]
    have e1 : (Way.num n).ht = 0 := rfl
    have e2 : (Way.num n).size = 1 := rfl
    omega
  | op w a b iha ihb =>
    intro ⟨_, ha, hb⟩
    have h1 := iha ha
    have h2 := ihb hb
    have e1 : (Way.op w a b).ht = max a.ht b.ht + 1 := rfl
    have e2 : (Way.op w a b).size = a.size + b.size := rfl
    have e : (par (.op w a b)).length = (par a).length + (par b).length + 5 := by
      simp [par, sgn]
      omega
    omega
theorem txt_ht {x : Way} (h : x.pos) : 5 * x.ht ≤ (txt x).length ∧ 6 * x.size ≤ (txt x).length + 7 := by
  cases x with
  | num n =>
    have := par_ht h
    have e : (txt (.num n)).length = (par (.num n)).length := rfl
    omega
  | op w a b =>
    have h1 := par_ht h.2.1
    have h2 := par_ht h.2.2
    have e1 : (Way.op w a b).ht = max a.ht b.ht + 1 := rfl
    have e2 : (Way.op w a b).size = a.size + b.size := rfl
    have e : (txt (.op w a b)).length = (par a).length + (par b).length + 3 := by
      simp [txt, sgn]
      omega
    omega
theorem pos_ok {x : Way} (h : x.pos) : x.ok (topN - 1) := by
  induction x with
  | num n => exact ⟨h.1, by have := h.2; omega⟩
  | op w a b iha ihb => exact ⟨h.1, iha h.2.1, ihb h.2.2⟩
/-- where the law's own reading finds no way, the program refuses the text -/
theorem due_bad {z : Str} {n : Nat} (hr : Runs (cs z)) (hn : z.length + 5 ≤ 5 * n) (h : readR n (cs z) = none) : BadT z := by
  have lz : (cs z).length = z.length := cs_len z
  have no : ∀ x : Way, x.pos → cs z ≠ txt x := fun x hp e => by
    have h1 := (txt_ht hp).1
    rw [← e, lz] at h1
    rw [e, readR_txt n hp (by omega)] at h
    cases h
  by_cases hf : Figs z
  · refine .inl ⟨hf, ?_⟩
    obtain ⟨hne, hw⟩ := hf
    cases hz : cs z with
    | nil => exact absurd hz hne
    | cons c r =>
      by_cases hc : c = 48
      · exact ⟨r, by rw [hc]⟩
      · exfalso
        have tw : (cs z).takeWhile isF = cs z := (List.takeWhile_sublist isF).eq_of_length hw
        have al : ∀ y ∈ cs z, isF y = true := fun y hy => by
          rw [← tw] at hy
          exact List.all_eq_true.mp List.all_takeWhile y hy
        have len : (c :: r).length < 64 := by
          have := hr 0
          rw [List.drop_zero, tw, hz] at this
          exact this
        rw [hz] at al
        have ad : AllDigits (c :: r) := fun y hy => (isF_iff y).mp (al y hy)
        obtain ⟨b1, b2⟩ := dig_back ad hc
        exact no (.num ((digitsVal (c :: r) : Nat) : Int)) ⟨by omega, val_top ad len⟩ (by rw [hz]; exact b1.symm)
  · refine .inr ⟨hf, ?_⟩
    by_cases hL : ∃ ts, Lex (40 :: (cs z ++ [41])) ts
    · obtain ⟨ts, hL⟩ := hL
      refine .inr ⟨ts, hL, fun x hx => ?_⟩
      obtain ⟨w, a, b, hp, e⟩ := read_sound hL hx
      exact no _ hp e
    · exact .inl fun ts ht => hL ⟨ts, ht⟩
end Law

set_option Elab.async false
set_option linter.all false
set_option maxRecDepth 100000
set_option maxHeartbeats 4000000
namespace Law
open PySem L2
section
variable {P : Program} {w : World} {K : PySem.W.Frag} {mg : Str → Option Value} {base : Heap} {W T S N : Addr} {bT bS bN : List Value}
def spReadX (T : Addr) : Sp := fun vs H Q E => spRead vs H Q E ∨ spReadBad T vs H Q E
abbrev s_law_right : Stmt := top 32
theorem sc_law_right : FnScope ["text", "due", "again", "caught", "found", "e"] ["text"] (defScope s_law_right) := ⟨rfl, rfl, rfl, by decide +kernel, rfl, by decide +kernel, by decide +kernel⟩
def spRight : Sp := fun vs H Q _ => ∃ z : Str, vs = [.str z] ∧ (∀ c ∈ cs z, c < 128) ∧ z.length ≤ 555 ∧ Runs (cs z) ∧ ∀ H', Same H H' → Q (.bl true) H'
theorem ok_law_right {f : Addr} {fd : FuncData} (F : Fun K "_law_right" "_law_right" s_law_right f fd) (B : Blt mg) (R : Refs P w K mg base W T S N bT bS bN) (Glr : Def P w K mg base CX0 226 "_law_read" (spLR 112)) (Ggr : Def P w K mg base CX0 131 "_law_greatest" (spGr 130)) (Gsame : Def P w K mg base CX0 130 "_law_same" (spSame 130)) (GreadX : Def P w K mg base (CXF P w) 4 "read_way" (spReadX T)) (zValueError : mg "ValueError" = none) : FnOk P w K mg base CX0 227 f fd ["text"] spRight := by
  refine F.ok (k := 226) sc_law_right (fun vs H Q E h => ?_) (fun cdv A outer s H vs Q E hr h => ?_)
  · obtain ⟨z, rfl, _⟩ := h
    rfl
  obtain ⟨z, rfl, ha, hl, hr2, q⟩ := h
  have lz : (cs z).length = z.length := cs_len z
  refine ⟨_, (pss_cons (ps_set (i := 1) sc_law_right.nd rfl (by first | exact Or.inl rfl | exact Or.inr rfl) (pe_def Glr (hr.mono (by omega)) (pa_cons (pv 0) pa_nil)))
      (pss_cons (ps_if (PW.pt (pw_and (pt_cmpR op_notN (pv 1) pe_non (nomark _)) (pw_and1 (pt_cmpR op_gt (pe_def Ggr (hr.mono (by omega)) (pa_cons (pv 1) pa_nil)) (pe_op op_pow pe_int pe_int) (nomark _))))) (pss_one (ps_ret pe_bl)) pss_nil)
      (pss_cons (ps_for PassesOwn.never rfl (pi_range1 rfl B.range (pa_cons pe_int pa_nil)) (pg_name (i := 2) sc_law_right.nd rfl (by first | exact Or.inl rfl | exact Or.inr rfl)) (pss_cons (ps_set (i := 3) sc_law_right.nd rfl (by first | exact Or.inl rfl | exact Or.inr rfl) pe_non)
      (pss_cons (ps_set (i := 4) sc_law_right.nd rfl (by first | exact Or.inl rfl | exact Or.inr rfl) pe_non)
      (pss_cons (ps_try (i := 5) sc_law_right.nd rfl rfl rfl R.gW R.cW.xcls rfl rfl (fun EX pins => (pss_one (ps_set (i := 4) sc_law_right.nd rfl (by first | exact Or.inl rfl | exact Or.inr rfl) (pe_defX GreadX (hr.mono (by omega)) (pa_cons (pv 0) pa_nil))))) (fun _ pins => (pss_one (ps_set (i := 3) sc_law_right.nd rfl (by first | exact Or.inl rfl | exact Or.inr rfl) (pv 5)))))
      (pss_cons (ps_if (PW.pt (pw_and (pt_cmpR op_notN (pv 1) pe_non (nomark _)) (pw_and1 (pt_not (pt_val (pe_def Gsame (hr.mono (by omega)) (pa_cons (pv 4) (pa_cons (pv 1) pa_nil)))))))) (pss_one (ps_ret pe_bl)) pss_nil)
      (pss_cons (ps_if (PW.pt (pw_and (pt_cmpR op_isN (pv 1) pe_non (nomark _)) (pw_and1 (PW.pt (pw_or (pt_not (pt_val (pe_isx B.isinstance (pv 3) (pe_glob (v := .ref T) rfl R.gT rfl)))) (pw_or1 (pt_val (pe_isx B.isinstance (pv 3) (pe_tup (pa_cons (pe_glob (v := .ref S) rfl R.gS rfl) (pa_cons (pe_glob (v := .ref N) rfl R.gN rfl) pa_nil))))))))))) (pss_one (ps_ret pe_bl)) pss_nil)
      (pss_one (ps_if (PW.pt (pw_and (pt_cmpR op_isN (pv 1) pe_non (nomark _)) (pw_and1 (pt_not (pt_val (pe_isx B.isinstance (pv 3) (pe_bltn (v := .ty "ValueError") rfl zValueError bt_ValueError rfl))))))) (pss_one (ps_ret pe_bl)) pss_nil))))))))
      (pss_one (ps_ret pe_bl))))), ?_⟩
  refine ⟨_, rfl, z, rfl, ha, by omega, by omega, fun v H1 s1 hv => ?_⟩
  cases ed : readR 112 (cs z) with
  | some x =>
    rw [ed] at hv
    have hw : WayIn H1 v x := hv
    obtain ⟨hp, ez⟩ := readR_sound 112 (cs z) x hr2 ed
    obtain ⟨b1, b2⟩ := txt_ht hp
    rw [← ez, lz] at b1 b2
    refine ⟨_, rfl, rfl, _, rfl, ?_⟩
    rw [decide_eq_false hv.notNon]
    refine iteT ?_
    refine ⟨_, rfl, v, x, rfl, hw, by omega, fun H2 s2 => ⟨_, _, rfl, rfl, ⟨by decide, by decide, by decide⟩, _, _, rfl, rfl, _, rfl, ?_⟩⟩
    by_cases hbig : (10 : Int) ^ (6 : Int).toNat < x.top
    · rw [decide_eq_true hbig]
      exact iteT (q _ (s1.trans s2))
    rw [decide_eq_false hbig]
    refine iteF ?_
    refine ⟨2, rfl, by decide, by decide, for_range (n := 2) (fun i σ H' => ∃ (z1 z2 z3 z4 : Option V), σ = [some (.str z), some v, z1, z2, z3, z4] ∧ Same H1 H') ⟨none, none, none, none, rfl, s2⟩ ?_ ?_⟩
    · rintro i σ H' hi ⟨z1, z2, z3, z4, rfl, sH⟩
      refine ⟨_, rfl, .inl ⟨x, topN - 1, ?_, pos_ok hp, by omega, by omega, fun v2 H3 s3 w3 => ?_⟩⟩
      · show [V.str z] = [V.str (mkS (txt x))]
        exact congrArg (fun t => [V.str t]) (str_ext (ez.trans (by simp [mkS])))
      refine ⟨_, rfl, rfl, _, rfl, ?_⟩
      rw [decide_eq_false hv.notNon]
      refine iteT ?_
      refine ⟨_, rfl, _, rfl, v2, v, wd x, rfl, w3.dat, (hw.kt (KT.same (sH.trans s3))).dat, wd_pure x, by rw [wd_dep]; omega, fun H4 s4 => ⟨_, rfl, iteF ?_⟩⟩
      refine ⟨_, rfl, rfl, _, rfl, ?_⟩
      rw [decide_eq_false hv.notNon]
      refine iteF (iteF ?_)
      refine ⟨_, rfl, rfl, _, rfl, ?_⟩
      rw [decide_eq_false hv.notNon]
      refine iteF (iteF ?_)
      exact ⟨_, _, _, _, rfl, sH.trans (s3.trans s4)⟩
    · rintro σ H' ⟨z1, z2, z3, z4, rfl, sH⟩
      exact q _ (s1.trans sH)
  | none =>
    rw [ed] at hv
    have ev : v = .non := hv
    subst ev
    have hb := due_bad hr2 (by omega) ed
    refine ⟨_, rfl, rfl, _, rfl, iteF (iteF ?_)⟩
    refine ⟨2, rfl, by decide, by decide, for_range (n := 2) (fun i σ H' => ∃ (z1 z2 z3 z4 : Option V), σ = [some (.str z), some .non, z1, z2, z3, z4] ∧ Same H1 H') ⟨none, none, none, none, rfl, Same.refl _⟩ ?_ ?_⟩
    · rintro i σ H' hi ⟨z1, z2, z3, z4, rfl, sH⟩
      refine ⟨_, rfl, .inr ⟨z, rfl, by omega, hr2.framed, hb, fun H2 s2 => ?_⟩⟩
      refine ⟨⟨T, bT, rfl, R.cT.xcls, R.tW⟩, fun e he => ?_⟩
      have hxe : upd H2 e (xO false (.ref T) none e) e = some (xO false (.ref T) none e) := upd_same
      have kn : XKn K (upd H2 e (xO false (.ref T) none e)) e T bT := ⟨R.cT, false, none, hxe, fun d z => by cases z⟩
      have sx : Same H1 (upd H2 e (xO false (.ref T) none e)) := sH.trans (s2.trans (Same.new he))
      have cTT : (Value.ref T :: bT).contains (.ref T) = true := by simp
      refine ⟨_, rfl, ?_⟩
      refine ⟨_, rfl, rfl, _, rfl, iteF (iteF ?_)⟩
      refine ⟨_, rfl, rfl, _, rfl, iteT ?_⟩
      refine ⟨_, rfl, e, T, bT, _, rfl, kn, .inr (.inl ⟨T, bT, rfl, R.cT, ?_⟩)⟩
      rw [cTT]
      refine ⟨_, rfl, iteF ?_⟩
      refine ⟨_, rfl, (by show 2 ≤ sizeLine; decide), fun p hp => ?_⟩
      have kn2 : XKn K (upd (upd H2 e (xO false (.ref T) none e)) p (.tup [.ref S, .ref N])) e T bT := ⟨R.cT, false, none, Same.new hp _ _ hxe, fun d z => by cases z⟩
      refine ⟨e, T, bT, _, rfl, kn2, .inr (.inr ⟨p, S, N, bS, bN, rfl, upd_same, R.cS, R.cN, ?_⟩)⟩
      rw [R.tS, R.tN]
      refine ⟨_, rfl, iteF ?_⟩
      refine ⟨_, rfl, rfl, _, rfl, iteT ?_⟩
      refine ⟨_, rfl, e, T, bT, _, rfl, kn2, .inl ⟨rfl, _, rfl, iteF ?_⟩⟩
      exact ⟨_, _, _, _, rfl, sx.trans (Same.new hp)⟩
    · rintro σ H' ⟨z1, z2, z3, z4, rfl, sH⟩
      exact q _ (s1.trans sH)
end
end Law

set_option Elab.async false
set_option linter.all false
set_option maxRecDepth 100000
set_option maxHeartbeats 4000000
namespace Law
open PySem L2
section
variable {P : Program} {w : World} {K : PySem.W.Frag} {mg : Str → Option Value} {base : Heap} {W T S N : Addr} {bT bS bN : List Value}
def spSpoilt : Sp := fun vs H Q _ => ∃ (d c : Addr) (z : Str), vs = [.ref d, .str z] ∧ DeckAt H d c ∧ (∀ k ∈ cs z, k < 128) ∧ z.length ≤ 580 ∧ ∀ (y : Str) (H' : Hp), (∀ k ∈ cs y, k < 128) → y.length ≤ z.length + 1 → Keep [d, c] H H' → DeckAt H' d c → Q (.str y) H'
abbrev wideT : Str := (" !\"#$&'()*+,-./0123456789:;<=>?@ABCDEFGHIJKLMNOP" : Str) ++ ("QRSTUVWXYZ[\\]^_`abcdefghijklmnopqrstuvwxyz{|}~" : Str)
abbrev s_law_spoilt : Stmt := top 33
theorem sc_law_spoilt : FnScope ["deck", "text", "at", "wide", "menu", "sign", "way"] ["deck", "text"] (defScope s_law_spoilt) := ⟨rfl, rfl, rfl, by decide +kernel, rfl, by decide +kernel, by decide +kernel⟩
theorem ok_spoilt {f : Addr} {fd : FuncData} (F : Fun K "_law_spoilt" "_law_spoilt" s_law_spoilt f fd) (B : Blt mg) (Gtake : Def P w K mg base CX0 1 "_law_take" spTake) : FnOk P w K mg base CX0 2 f fd ["deck", "text"] spSpoilt := by
  refine F.ok sc_law_spoilt (fun vs H Q E h => ?_) (fun cdv A outer s H vs Q E hr h => ?_)
  · obtain ⟨d, c, z, rfl, _⟩ := h
    rfl
  obtain ⟨d, c, z, rfl, D, ha, hl, q⟩ := h
  have big : z.length ≤ sizeLine := Nat.le_of_lt (small1000 (by omega))
  have lz : (cs z).length = z.length := cs_len z
  refine ⟨_, (pss_cons (ps_set (i := 2) sc_law_spoilt.nd rfl (by first | exact Or.inl rfl | exact Or.inr rfl) (pe_def Gtake (hr.mono (by omega)) (pa_cons (pv 0) (pa_cons (pe_op op_add (pe_callB call_len_str rfl B.len bt_len (pa_cons (pv 1) pa_nil)) pe_int) pa_nil))))
      (pss_cons (ps_set (i := 3) sc_law_spoilt.nd rfl (by first | exact Or.inl rfl | exact Or.inr rfl) pe_str)
      (pss_cons (ps_set (i := 3) sc_law_spoilt.nd rfl (by first | exact Or.inl rfl | exact Or.inr rfl) (pe_op op_add_str (pv 3) pe_str))
      (pss_cons (ps_set (i := 4) sc_law_spoilt.nd rfl (by first | exact Or.inl rfl | exact Or.inr rfl) (pe_ix ix_list (pe_lst (pa_cons pe_str (pa_cons (pv 3) pa_nil))) (pe_def Gtake (hr.mono (by omega)) (pa_cons (pv 0) (pa_cons pe_int pa_nil))) (fun _ _ => rfl)))
      (pss_cons (ps_set (i := 5) sc_law_spoilt.nd rfl (by first | exact Or.inl rfl | exact Or.inr rfl) (pe_ix ix_str (pv 4) (pe_def Gtake (hr.mono (by omega)) (pa_cons (pv 0) (pa_cons (pe_callB call_len_str rfl B.len bt_len (pa_cons (pv 4) pa_nil)) pa_nil))) (fun _ _ => rfl)))
      (pss_cons (ps_set (i := 6) sc_law_spoilt.nd rfl (by first | exact Or.inl rfl | exact Or.inr rfl) (pe_def Gtake (hr.mono (by omega)) (pa_cons (pv 0) (pa_cons pe_int pa_nil))))
      (pss_cons (ps_if (pt_cmpR op_eq (pv 6) pe_int (nomark _)) (pss_one (ps_ret (pe_op op_add_str (pe_slice sl_str (pv 1) po_none (po_some (pv 2))) (pe_slice sl_str (pv 1) (po_some (pe_op op_add (pv 2) pe_int)) po_none)))) pss_nil)
      (pss_cons (ps_if (pt_cmpR op_eq (pv 6) pe_int (nomark _)) (pss_one (ps_ret (pe_op op_add_str (pe_op op_add_str (pe_slice sl_str (pv 1) po_none (po_some (pv 2))) (pv 5)) (pe_slice sl_str (pv 1) (po_some (pv 2)) po_none)))) pss_nil)
      (pss_cons (ps_if (pt_cmpR op_eq (pv 6) pe_int (nomark _)) (pss_one (ps_ret (pe_op op_add_str (pe_op op_add_str (pe_slice sl_str (pv 1) po_none (po_some (pv 2))) (pe_slice sl_str (pv 1) (po_some (pv 2)) (po_some (pe_op op_add (pv 2) pe_int)))) (pe_slice sl_str (pv 1) (po_some (pv 2)) po_none)))) pss_nil)
      (pss_one (ps_ret (pe_op op_add_str (pe_op op_add_str (pe_slice sl_str (pv 1) po_none (po_some (pv 2))) (pv 5)) (pe_slice sl_str (pv 1) (po_some (pe_op op_add (pv 2) pe_int)) po_none))))))))))))), ?_⟩
  refine ⟨_, rfl, _, rfl, z, rfl, big, _, _, rfl, rfl, d, c, _, rfl, D, by omega, by omega, fun r H1 a1 b1 k1 D1 => ?_⟩
  obtain ⟨a, rfl⟩ : ∃ a : Nat, r = (a : Int) := ⟨r.toNat, by omega⟩
  have al : a ≤ (cs z).length := by omega
  refine ⟨_, rfl, _, _, rfl, rfl, (by decide +kernel), ?_⟩
  refine ⟨_, rfl, (by show 2 ≤ sizeLine; decide), fun p hp => ?_⟩
  refine ⟨_, rfl, d, c, 2, rfl, D1.same (Same.new hp), by decide, by decide, fun r2 H2 a2 b2 k2 D2 => ?_⟩
  have hP2 : H2 p = some (.lst [V.str "0123456789+-*/()  ().ax", V.str wideT]) := k2 _ _ upd_same (D1.nin hp)
  obtain ⟨mn, hmn, m0, ml, ma⟩ : ∃ mn : Str, atI [V.str "0123456789+-*/()  ().ax", V.str wideT] r2 = some (V.str mn) ∧ 0 < mn.length ∧ mn.length ≤ 200 ∧ ∀ k ∈ cs mn, k < 128 := by
    rcases (show r2 = 0 ∨ r2 = 1 by omega) with rfl | rfl
    · exact ⟨_, rfl, by decide +kernel, by decide +kernel, by decide +kernel⟩
    · exact ⟨_, rfl, by decide +kernel, by decide +kernel, by decide +kernel⟩
  refine ⟨p, _, _, _, rfl, rfl, SqL.of hP2, hmn, ?_⟩
  have bm : mn.length ≤ sizeLine := Nat.le_of_lt (small1000 (by omega))
  refine ⟨_, rfl, _, rfl, _, rfl, mn, rfl, bm, d, c, _, rfl, D2, by omega, by omega, fun r3 H3 a3 b3 k3 D3 => ?_⟩
  obtain ⟨j, rfl⟩ : ∃ j : Nat, r3 = (j : Int) := ⟨r3.toNat, by omega⟩
  have jl : j < (cs mn).length := by rw [cs_len]; omega
  obtain ⟨sc, hsc⟩ : ∃ sc, (cs mn)[j]? = some sc := ⟨_, List.getElem?_eq_getElem jl⟩
  have sa : sc < 128 := ma sc (List.mem_of_getElem? hsc)
  refine ⟨mn, j, sc, rfl, rfl, bm, atI_nat (j := j) hsc, ?_⟩
  refine ⟨_, rfl, d, c, 4, rfl, D3, by decide, by decide, fun r4 H4 a4 b4 k4 D4 => ?_⟩
  have kk : Keep [d, c] H H4 := k1.trans ((Keep.new hp).trans (k2.trans (k3.trans k4)))
  have tk : ∀ y : Str, cs y = cutG (cs z) none (some (a : Int)) → cs y = (cs z).take a := fun y e => e.trans (cutG_pre al)
  have dk : ∀ y : Str, cs y = cutG (cs z) (some (a : Int)) none → cs y = (cs z).drop a := fun y e => e.trans cutG_suf
  have dk1 : ∀ y : Str, cs y = cutG (cs z) (some ((a : Int) + 1)) none → cs y = (cs z).drop (a + 1) := fun y e => e.trans (cutG_suf (a := a + 1))
  have at1 : ∀ y : Str, cs y = cutG (cs z) (some (a : Int)) (some ((a : Int) + 1)) → cs y = (cs z)[a]?.toList := fun y e => e.trans (cutG_at (a := a))
  have ta : ∀ k ∈ (cs z).take a, k < 128 := fun k h => ha k (List.mem_of_mem_take h)
  have da : ∀ m, ∀ k ∈ (cs z).drop m, k < 128 := fun m k h => ha k (List.mem_of_mem_drop h)
  have lt : ((cs z).take a).length = a := by rw [List.length_take]; omega
  have oa : ∀ k ∈ (cs z)[a]?.toList, k < 128 := fun k h => ha k (by
    cases hq : (cs z)[a]? with
    | none => rw [hq] at h; cases h
    | some x => rw [hq] at h; rw [List.mem_singleton.mp h]; exact List.mem_of_getElem? hq)
  have ol : (cs z)[a]?.toList.length ≤ 1 := by cases (cs z)[a]? <;> simp
  have nn : ∀ y : Str, y.length = (cs y).length := fun y => (cs_len y).symm
  have fin : ∀ (y : Str) (l1 l2 l3 : List Nat), cs y = l1 ++ (l2 ++ l3) → (∀ k ∈ l1, k < 128) → (∀ k ∈ l2, k < 128) → (∀ k ∈ l3, k < 128) → l1.length + l2.length + l3.length ≤ z.length + 1 → Q (.str y) H4 := fun y l1 l2 l3 e h1 h2 h3 hn => by
    refine q y H4 (fun k hk => ?_) ?_ kk D4
    · rw [e] at hk
      rcases List.mem_append.mp hk with hk | hk
      · exact h1 k hk
      rcases List.mem_append.mp hk with hk | hk
      · exact h2 k hk
      · exact h3 k hk
    · rw [nn, e, List.length_append, List.length_append]; omega
  have sz : 1000 < sizeLine := by rw [sizeLine_eq]; decide
  clear m0 ml ma b1 a1 b2 a2 b3 a3 jl hsc
  have l0 : ((cs z).drop a).length = z.length - a := by rw [List.length_drop, lz]
  have l1 : ((cs z).drop (a + 1)).length = z.length - (a + 1) := by rw [List.length_drop, lz]
  refine ⟨_, rfl, rfl, _, rfl, ?_⟩
  by_cases w0 : r4 = 0
  · rw [decide_eq_true (congrArg V.int w0)]
    refine iteT ?_
    refine ⟨_, rfl, _, rfl, _, rfl, z, rfl, big, fun y1 hy1 => ⟨_, rfl, _, rfl, _, _, rfl, rfl, _, rfl, z, rfl, big, fun y2 hy2 => ?_⟩⟩
    have e1 := tk y1 hy1
    have e2 := dk1 y2 hy2
    refine ⟨_, _, rfl, rfl, by rw [nn y1, nn y2, e1, e2]; omega, fin _ ((cs z).take a) [] ((cs z).drop (a + 1)) (by rw [cs_app, e1, e2]; rfl) ta (fun k h => by cases h) (da _) (by rw [List.length_nil]; omega)⟩
  rw [decide_eq_false (fun e => w0 (V.int.inj e))]
  refine iteF ⟨_, rfl, rfl, _, rfl, ?_⟩
  by_cases w1 : r4 = 1
  · rw [decide_eq_true (congrArg V.int w1)]
    refine iteT ?_
    refine ⟨_, rfl, _, rfl, _, rfl, z, rfl, big, fun y1 hy1 => ?_⟩
    have e1 := tk y1 hy1
    refine ⟨_, rfl, _, _, rfl, rfl, by rw [nn y1, e1, lt]; exact Nat.le_of_lt (Nat.lt_of_le_of_lt (by show a + 1 ≤ 1000; omega) sz), ?_⟩
    refine ⟨_, rfl, _, rfl, _, rfl, z, rfl, big, fun y2 hy2 => ?_⟩
    have e2 := dk y2 hy2
    exact ⟨_, _, rfl, rfl, by rw [nn, nn y2, cs_app, List.length_append, e1, e2]; show _ + 1 + _ ≤ _; omega, fin _ ((cs z).take a) [sc] ((cs z).drop a) (by rw [cs_app, cs_app, e1, e2, List.append_assoc]) ta (fun k h => by rw [List.mem_singleton.mp h]; exact sa) (da _) (by show _ + 1 + _ ≤ _; omega)⟩
  rw [decide_eq_false (fun e => w1 (V.int.inj e))]
  refine iteF ⟨_, rfl, rfl, _, rfl, ?_⟩
  by_cases w2 : r4 = 2
  · rw [decide_eq_true (congrArg V.int w2)]
    refine iteT ?_
    refine ⟨_, rfl, _, rfl, _, rfl, z, rfl, big, fun y1 hy1 => ?_⟩
    have e1 := tk y1 hy1
    refine ⟨_, rfl, _, rfl, _, rfl, _, rfl, _, _, rfl, rfl, _, rfl, z, rfl, big, fun y3 hy3 => ?_⟩
    have e3 := at1 y3 hy3
    refine ⟨_, _, rfl, rfl, by rw [nn y1, nn y3, e1, e3]; omega, ?_⟩
    refine ⟨_, rfl, _, rfl, _, rfl, z, rfl, big, fun y2 hy2 => ?_⟩
    have e2 := dk y2 hy2
    exact ⟨_, _, rfl, rfl, by rw [nn, nn y2, cs_app, List.length_append, e1, e2, e3]; omega, fin _ ((cs z).take a) (cs z)[a]?.toList ((cs z).drop a) (by rw [cs_app, cs_app, e1, e2, e3, List.append_assoc]) ta oa (da _) (by omega)⟩
  rw [decide_eq_false (fun e => w2 (V.int.inj e))]
  refine iteF ?_
  refine ⟨_, rfl, _, rfl, _, rfl, z, rfl, big, fun y1 hy1 => ?_⟩
  have e1 := tk y1 hy1
  refine ⟨_, rfl, _, _, rfl, rfl, by rw [nn y1, e1, lt]; exact Nat.le_of_lt (Nat.lt_of_le_of_lt (by show a + 1 ≤ 1000; omega) sz), ?_⟩
  refine ⟨_, rfl, _, rfl, _, _, rfl, rfl, _, rfl, z, rfl, big, fun y2 hy2 => ?_⟩
  have e2 := dk1 y2 hy2
  exact ⟨_, _, rfl, rfl, by rw [nn, nn y2, cs_app, List.length_append, e1, e2]; show _ + 1 + _ ≤ _; omega, fin _ ((cs z).take a) [sc] ((cs z).drop (a + 1)) (by rw [cs_app, cs_app, e1, e2, List.append_assoc]) ta (fun k h => by rw [List.mem_singleton.mp h]; exact sa) (da _) (by show _ + 1 + _ ≤ _; omega)⟩
end
end Law

set_option Elab.async false
set_option linter.all false
set_option maxRecDepth 100000
set_option maxHeartbeats 4000000
namespace Law
open PySem L2
section
variable {P : Program} {w : World} {K : PySem.W.Frag} {mg : Str → Option Value} {base : Heap} {W T S N : Addr} {bT bS bN : List Value}
def spBounded : Sp := fun vs H Q _ => ∃ (d c : Addr) (z : Str), vs = [.ref d, .str z] ∧ DeckAt H d c ∧ (∀ k ∈ cs z, k < 128) ∧ z.length ≤ 580 ∧ Runs (cs z) ∧ ∀ (y : Str) (H' : Hp), (∀ k ∈ cs y, k < 128) → y.length ≤ z.length + 1 → Runs (cs y) → Keep [d, c] H H' → DeckAt H' d c → Q (.str y) H'
def bound : Nat → List Nat → Bool
  | _, [] => true
  | r, c :: t => if 7 < (if isF c = true then r + 1 else 0) then false else bound (if isF c = true then r + 1 else 0) t
theorem bound_runs : ∀ (l : List Nat) (r : Nat), r ≤ 7 → bound r l = true → r + (l.takeWhile isF).length ≤ 7 ∧ ∀ k, ((l.drop k).takeWhile isF).length ≤ 7
  | [], r, hr, _ => ⟨by simpa using hr, fun k => by simp⟩
  | c :: t, r, hr, h => by
    rw [bound] at h
    cases hc : isF c with
    | true =>
      simp only [hc, if_true] at h
      split at h
      · cases h
      · have ih := bound_runs t (r + 1) (by omega) h
        have e : ((c :: t).takeWhile isF).length = (t.takeWhile isF).length + 1 := by rw [List.takeWhile_cons, hc]; rfl
        refine ⟨by omega, fun k => ?_⟩
        cases k with
        | zero => rw [List.drop_zero]; omega
        | succ k => exact ih.2 k
    | false =>
      simp only [hc] at h
      have ih := bound_runs t 0 (by omega) (by simpa using h)
      have e : ((c :: t).takeWhile isF).length = 0 := by rw [List.takeWhile_cons, hc]; rfl
      refine ⟨by omega, fun k => ?_⟩
      cases k with
      | zero => rw [List.drop_zero]; omega
      | succ k => exact ih.2 k
theorem bound_Runs {l : List Nat} (h : bound 0 l = true) : Runs l := fun k => Nat.lt_of_le_of_lt ((bound_runs l 0 (by omega) h).2 k) (by omega)
abbrev s_law_bounded : Stmt := top 34
theorem sc_law_bounded : FnScope ["deck", "text", "found", "run", "sign"] ["deck", "text"] (defScope s_law_bounded) := ⟨rfl, rfl, rfl, by decide +kernel, rfl, by decide +kernel, by decide +kernel⟩
theorem ok_bounded {f : Addr} {fd : FuncData} (F : Fun K "_law_bounded" "_law_bounded" s_law_bounded f fd) (B : Blt mg) (Gspoilt : Def P w K mg base CX0 2 "_law_spoilt" spSpoilt) : FnOk P w K mg base CX0 3 f fd ["deck", "text"] spBounded := by
  refine F.ok sc_law_bounded (fun vs H Q E h => ?_) (fun cdv A outer s H vs Q E hr h => ?_)
  · obtain ⟨d, c, z, rfl, _⟩ := h
    rfl
  obtain ⟨d, c, z, rfl, D, ha, hl, hR, q⟩ := h
  refine ⟨_, (pss_cons (ps_set (i := 2) sc_law_bounded.nd rfl (by first | exact Or.inl rfl | exact Or.inr rfl) (pe_def Gspoilt (hr.mono (by omega)) (pa_cons (pv 0) (pa_cons (pv 1) pa_nil))))
      (pss_cons (ps_set (i := 3) sc_law_bounded.nd rfl (by first | exact Or.inl rfl | exact Or.inr rfl) pe_int)
      (pss_cons (ps_for PassesOwn.never rfl (pi_str (pv 2)) (pg_name (i := 4) sc_law_bounded.nd rfl (by first | exact Or.inl rfl | exact Or.inr rfl)) (pss_cons (ps_set (i := 3) sc_law_bounded.nd rfl (by first | exact Or.inl rfl | exact Or.inr rfl) (pe_ix ix_list (pe_lst (pa_cons pe_int (pa_cons (pe_op op_add (pv 3) pe_int) pa_nil))) (pe_callTy call_int1 rfl B.int bt_int (pa_cons (pe_cmpR op_in_one (pv 4) pe_str rfl) pa_nil)) (fun _ _ => rfl)))
      (pss_one (ps_if (pt_cmpR op_gt (pv 3) pe_int (nomark _)) (pss_one (ps_ret (pv 1))) pss_nil))))
      (pss_one (ps_ret (pv 2)))))), ?_⟩
  refine ⟨_, rfl, _, rfl, d, c, z, rfl, D, ha, hl, fun y H1 ya yl k1 D1 => ?_⟩
  refine ⟨_, rfl, y, rfl, ya, for_str (z := y) (fun i σ H' => ∃ (r : Nat) (o : Option V), σ = [some (.ref d), some (.str z), some (.str y), some (.int (r : Int)), o] ∧ Keep [d, c] H H' ∧ DeckAt H' d c ∧ r ≤ 7 ∧ (bound r ((cs y).drop i) = true → bound 0 (cs y) = true)) ⟨0, none, rfl, k1, D1, by omega, fun h => by rwa [List.drop_zero] at h⟩ ?_ ?_⟩
  · rintro i k σ H' hi ⟨r, o, rfl, kk, D2, hr7, hb⟩
    have il : i < (cs y).length := (List.getElem?_eq_some_iff.mp hi).1
    have dr : (cs y).drop i = k :: (cs y).drop (i + 1) := by
      rw [List.drop_eq_getElem_cons il, ← (List.getElem?_eq_some_iff.mp hi).2]
    rw [dr, bound] at hb
    refine ⟨_, rfl, _, _, rfl, rfl, (by show 2 ≤ sizeLine; decide), fun p hp => ?_⟩
    have kp : Keep [d, c] H (upd H' p (.lst [V.int 0, V.int ((r : Int) + 1)])) := kk.trans (Keep.new hp)
    have Dp := D2.new (o := .lst [V.int 0, V.int ((r : Int) + 1)]) hp
    refine ⟨_, rfl, k, _, rfl, rfl, .inr ⟨_, rfl, ?_⟩⟩
    cases hf : isF k with
    | true =>
      rw [show decide (k ∈ cs ("0123456789" : Str)) = true from hf]
      rw [hf, if_pos rfl] at hb
      refine ⟨p, _, _, V.int ((r : Int) + 1), rfl, rfl, SqL.of upd_same, rfl, ?_⟩
      refine ⟨_, rfl, _, _, rfl, rfl, _, rfl, ?_⟩
      by_cases h8 : (7 : Int) < (r : Int) + 1
      · rw [decide_eq_true h8]
        exact iteT ⟨_, rfl, q z _ ha (by omega) hR kp Dp⟩
      · rw [decide_eq_false h8]
        rw [if_neg (by omega)] at hb
        exact iteF ⟨r + 1, _, rfl, kp, Dp, by omega, hb⟩
    | false =>
      rw [show decide (k ∈ cs ("0123456789" : Str)) = false from hf]
      have f0 : (if false = true then r + 1 else 0) = 0 := if_neg (by decide)
      rw [hf, f0, if_neg (by omega)] at hb
      refine ⟨p, _, _, V.int 0, rfl, rfl, SqL.of upd_same, rfl, ?_⟩
      refine ⟨_, rfl, _, _, rfl, rfl, _, rfl, iteF ?_⟩
      exact ⟨0, _, rfl, kp, Dp, by omega, hb⟩
  · rintro σ H' ⟨r, o, rfl, kk, D2, hr7, hb⟩
    rw [List.drop_length] at hb
    exact ⟨_, rfl, q y _ ya yl (bound_Runs (hb rfl)) kk D2⟩
end
end Law

set_option Elab.async false
set_option linter.all false
set_option maxRecDepth 100000
set_option maxHeartbeats 4000000
namespace Law
open PySem L2 PySem.Builtin.Str
def figs (l : List Nat) : Nat := (l.filter isF).length
theorem figs_app (a b : List Nat) : figs (a ++ b) = figs a + figs b := by simp [figs]
theorem figs_cons (c : Nat) (l : List Nat) : figs (c :: l) = (if isF c = true then 1 else 0) + figs l := by
  unfold figs
  rw [List.filter_cons]
  split <;> simp <;> omega
theorem while_figs : ∀ l : List Nat, (l.takeWhile isF).length ≤ figs l
  | [] => by simp [figs]
  | c :: t => by
    have ih := while_figs t
    rw [figs_cons, List.takeWhile_cons]
    split
    · rw [List.length_cons]; omega
    · simp
theorem drop_figs : ∀ (l : List Nat) (k : Nat), figs (l.drop k) ≤ figs l
  | l, k => by
    have e := figs_app (l.take k) (l.drop k)
    rw [List.take_append_drop] at e
    omega
theorem figs_runs {l : List Nat} (h : figs l < 64) : Runs l := fun k => Nat.lt_of_le_of_lt (Nat.le_trans (while_figs _) (drop_figs l k)) h
structure Odd (z : Str) (n f : Nat) : Prop where
  asc : ∀ k ∈ cs z, k < 128
  len : z.length ≤ n
  fig : figs (cs z) ≤ f
theorem Odd.cat {x y : Str} {n m f g : Nat} (a : Odd x n f) (b : Odd y m g) : Odd (x ++ y) (n + m) (f + g) where
  asc := fun k h => by
    rw [cs_app] at h
    rcases List.mem_append.mp h with h | h
    · exact a.asc k h
    · exact b.asc k h
  len := by rw [cs_len_app]; exact Nat.add_le_add a.len b.len
  fig := by rw [cs_app, figs_app]; exact Nat.add_le_add a.fig b.fig
theorem Odd.runs {z : Str} {n f : Nat} (a : Odd z n f) (h : f < 64) : Runs (cs z) := figs_runs (Nat.lt_of_le_of_lt a.fig h)
theorem Odd.mono {z : Str} {n f m g : Nat} (a : Odd z n f) (h : n ≤ m) (h2 : f ≤ g) : Odd z m g := ⟨a.asc, Nat.le_trans a.len h, Nat.le_trans a.fig h2⟩
theorem dig_small {n : Int} (h0 : 1 ≤ n) (h1 : n ≤ 1000000) : (dig n).length ≤ 7 ∧ ∀ k ∈ dig n, k < 128 := by
  have f := dig_facts h0 (show n < topN from Int.lt_of_le_of_lt h1 (by decide +kernel))
  refine ⟨?_, fun k hk => Nat.lt_of_le_of_lt (f.1 k hk).2 (by decide)⟩
  obtain ⟨m, rfl⟩ := Int.eq_ofNat_of_zero_le (show 0 ≤ n by omega)
  have hm : m < 10 ^ 7 := by omega
  rw [dig_nat, List.length_map]
  exact toDigits_len_pow (by decide) (by decide) hm
theorem sgn_odd (w : Str) : (∀ k ∈ sgn w, k < 128) ∧ figs (sgn w) = 0 := by
  unfold sgn
  rcases sgnC_is w with h | h | h | h <;> rw [h] <;> decide +kernel
theorem par_odd : ∀ {x : Way}, x.ok 1000000 → (∀ k ∈ par x, k < 128) ∧ figs (par x) ≤ 7 * x.size := by
  intro x
  induction x with
  | num n =>
    intro h
    have d := dig_small h.1 h.2
    refine ⟨d.2, ?_⟩
    show figs (dig n) ≤ 7 * 1
    exact Nat.le_trans (List.length_filter_le _ _) d.1
  | op w a b iha ihb =>
    intro h
    obtain ⟨_, ha, hb⟩ := h
    have sa := iha ha
    have sb := ihb hb
    have sg := sgn_odd w
    rw [par_txt]
    have e : txt (.op w a b) = par a ++ (sgn w ++ par b) := by simp [txt]
    rw [e]
    refine ⟨fun k hk => ?_, ?_⟩
    · rcases List.mem_cons.mp hk with rfl | hk
      · decide
      rcases List.mem_append.mp hk with hk | hk
      · rcases List.mem_append.mp hk with hk | hk
        · exact sa.1 k hk
        rcases List.mem_append.mp hk with hk | hk
        · exact sg.1 k hk
        · exact sb.1 k hk
      · rw [List.mem_singleton.mp hk]; decide
    · rw [figs_cons, figs_app, figs_app, figs_app, sg.2]
      have e1 : figs [41] = 0 := by decide +kernel
      have e2 : isF 40 = false := by decide +kernel
      rw [e1, e2]
      show (if false = true then 1 else 0) + _ ≤ 7 * (a.size + b.size)
      rw [if_neg (by decide)]
      omega
theorem txt_odd {x : Way} (h : x.ok 1000000) (hs : x.size ≤ 7) : Odd (mkS (txt x)) 490 49 := by
  have p := par_odd h
  have l := txt_len (show (1000000 : Int) < topN by decide +kernel) h
  refine ⟨?_, by rw [len_mkS]; omega, ?_⟩
  · rw [cs_mkS]
    cases x with
    | num n => exact p.1
    | op w a b =>
      intro k hk
      exact p.1 k (by rw [par_txt]; exact List.mem_cons_of_mem _ (List.mem_append_left _ hk))
  · rw [cs_mkS]
    cases x with
    | num n => exact Nat.le_trans p.2 (by omega)
    | op w a b =>
      have h2 := p.2
      rw [par_txt, figs_cons, figs_app] at h2
      omega
theorem strike_odd {z : Str} {n f : Nat} (h : Odd z n f) : Odd (Txt.replace z " " "") n f := by
  have e : cs (Txt.replace z " " "") = (cs z).filter (· != 32) := PyProof.Rows.replace_strikes z 32
  refine ⟨fun k hk => ?_, ?_, ?_⟩
  · rw [e] at hk
    exact h.asc k (List.mem_filter.mp hk).1
  · rw [← cs_len, e]
    refine Nat.le_trans (List.length_filter_le _ _) ?_
    rw [cs_len]; exact h.len
  · rw [e]
    refine Nat.le_trans ?_ h.fig
    unfold figs
    rw [List.filter_filter, ← List.countP_eq_length_filter, ← List.countP_eq_length_filter]
    exact List.countP_mono_left fun a _ q => (Bool.and_eq_true_iff.mp q).1
theorem rep1_odd {z : Str} {n f : Nat} (h : Odd z n f) : Odd (rep1 z " " "  ") (n + 2) f := by
  unfold rep1
  split
  · exact h.mono (by omega) (Nat.le_refl _)
  rename_i hc
  have hl := StrLaws.occ_length_le z " " 0 z.length 1
  obtain ⟨i, ho⟩ : ∃ i, occurrences z " " 0 z.length 1 = [i] := by
    cases ho : occurrences z " " 0 z.length 1 with
    | nil => rw [ho] at hc; exact absurd rfl hc
    | cons a t =>
      rw [ho, List.length_cons] at hl
      have : t = [] := List.eq_nil_of_length_eq_zero (by omega)
      exact ⟨a, by rw [this]⟩
  rw [ho]
  have lz : (cs z).length = z.length := cs_len z
  have e : cs (glued "  " (partsBetween z [i] (" " : Str).length)) = (cs z).take i ++ ([32, 32] ++ (cs z).drop (i + 1)) := by
    show ((z.cps.extract 0 i ++ ("  " : Str).cps) ++ z.cps.extract (i + 1) z.length).toList = _
    rw [Array.toList_append, Array.toList_append, Array.toList_extract, Array.toList_extract, List.append_assoc]
    show List.take (i - 0) (List.drop 0 (cs z)) ++ ([32, 32] ++ List.take (z.length - (i + 1)) (List.drop (i + 1) (cs z))) = _
    rw [List.drop_zero, Nat.sub_zero, List.take_of_length_le (l := List.drop (i + 1) (cs z)) (by rw [List.length_drop]; omega)]
  have l0 := h.len
  refine ⟨fun k hk => ?_, ?_, ?_⟩
  · rw [e] at hk
    rcases List.mem_append.mp hk with hk | hk
    · exact h.asc k (List.mem_of_mem_take hk)
    rcases List.mem_append.mp hk with hk | hk
    · exact (show ∀ k ∈ [32, 32], k < 128 by decide) k hk
    · exact h.asc k (List.mem_of_mem_drop hk)
  · rw [← cs_len, e, List.length_append, List.length_append, List.length_take, List.length_drop, lz]
    show _ + (2 + _) ≤ _
    omega
  · rw [e, figs_app, figs_app]
    have e1 : figs [32, 32] = 0 := by decide +kernel
    have e2 := figs_app ((cs z).take i) ((cs z).drop i)
    rw [List.take_append_drop] at e2
    have e3 := drop_figs ((cs z).drop i) 1
    rw [List.drop_drop] at e3
    have := h.fig
    omega
theorem rep_odd {y : Str} {n m : Nat} {l : List Nat} (e : cs y = (List.replicate n l).flatten) (ha : ∀ k ∈ l, k < 128) (hf : figs l = 0) (hl : l.length * n ≤ m) : Odd y m 0 := by
  refine ⟨fun k hk => ?_, ?_, ?_⟩
  · rw [e] at hk
    obtain ⟨t, ht, hk⟩ := List.mem_flatten.mp hk
    rw [(List.mem_replicate.mp ht).2] at hk
    exact ha k hk
  · rw [← cs_len, e, List.length_flatten, List.map_replicate, List.sum_replicate_nat, Nat.mul_comm]
    exact hl
  · rw [e]
    clear e hl
    induction n with
    | zero => exact Nat.le_refl _
    | succ n ih => rw [List.replicate_succ, List.flatten_cons, figs_app, hf]; omega
end Law

set_option Elab.async false
set_option linter.all false
set_option maxRecDepth 100000
set_option maxHeartbeats 4000000
namespace Law
open PySem L2
section
variable {P : Program} {w : World} {K : PySem.W.Frag} {mg : Str → Option Value} {base : Heap} {W T S N : Addr} {bT bS bN : List Value}
def jn (sp : List Nat) : List Nat → List Nat
  | [] => []
  | [c] => [c]
  | c :: r => c :: (sp ++ jn sp r)
theorem cs_jn (sep : Str) : ∀ fs : List Nat, cs (Str.join sep (fs.map fun c => mkS [c])) = jn (cs sep) fs
  | [] => rfl
  | [c] => cs_mkS [c]
  | c :: d :: r => by
    have ih := cs_jn sep (d :: r)
    show cs (mkS [c] ++ sep ++ Str.join sep ((d :: r).map fun c => mkS [c])) = c :: (cs sep ++ jn (cs sep) (d :: r))
    rw [cs_app, cs_app, ih, cs_mkS, List.append_assoc]
    rfl
theorem join_cs (sep : Str) (fs : List Nat) : cs (Txt.join sep (fs.map fun c => mkS [c])) = jn (cs sep) fs :=
  (congrArg cs (PySem.StrLaws.glued_eq_join sep _)).trans (cs_jn sep fs)
theorem jn_odd {sp : List Nat} (h3 : sp.length = 3) (ha : ∀ k ∈ sp, k < 128) (hf : figs sp = 0) : ∀ fs : List Nat, (∀ c ∈ fs, isF c = true) → (∀ k ∈ jn sp fs, k < 128) ∧ (jn sp fs).length ≤ 4 * fs.length ∧ figs (jn sp fs) ≤ fs.length
  | [], _ => ⟨fun k h => (by cases h), Nat.le_refl _, Nat.le_refl _⟩
  | [c], h => by
    have hc := (isF_iff c).mp (h c (List.mem_singleton.mpr rfl))
    refine ⟨fun k hk => ?_, (by show 1 ≤ 4; decide), List.length_filter_le _ _⟩
    rw [List.mem_singleton.mp hk]; omega
  | c :: d :: r, h => by
    have hc := (isF_iff c).mp (h c (List.mem_cons_self ..))
    obtain ⟨i1, i2, i3⟩ := jn_odd h3 ha hf (d :: r) fun k hk => h k (List.mem_cons_of_mem _ hk)
    show (∀ k ∈ c :: (sp ++ jn sp (d :: r)), k < 128) ∧ (c :: (sp ++ jn sp (d :: r))).length ≤ _ ∧ figs (c :: (sp ++ jn sp (d :: r))) ≤ _
    refine ⟨fun k hk => ?_, ?_, ?_⟩
    · rcases List.mem_cons.mp hk with rfl | hk
      · omega
      rcases List.mem_append.mp hk with hk | hk
      · exact ha k hk
      · exact i1 k hk
    · rw [List.length_cons, List.length_append, h3, List.length_cons (a := c)]; omega
    · rw [figs_cons, figs_app, hf, List.length_cons (a := c)]
      split <;> omega
theorem join_odd {sep : Str} (h3 : (cs sep).length = 3) (ha : ∀ k ∈ cs sep, k < 128) (hf : figs (cs sep) = 0) {fs : List Nat} (h : ∀ c ∈ fs, isF c = true) : Odd (Txt.join sep (fs.map fun c => mkS [c])) (4 * fs.length) fs.length := by
  obtain ⟨a, b, c⟩ := jn_odd h3 ha hf fs h
  rw [← join_cs] at a b c
  exact ⟨a, by rw [← cs_len]; exact b, c⟩
theorem bound_jn {s : Nat} (hs : isF s = false) : ∀ (fs : List Nat) (r : Nat), r ≤ 6 → (∀ c ∈ fs, isF c = true) → bound r (jn [32, s, 32] fs) = true
  | [], _, _, _ => rfl
  | [c], r, hr, h => by
    have hc := h c (List.mem_singleton.mpr rfl)
    show bound r [c] = true
    rw [bound, hc, if_pos rfl, if_neg (by omega)]
    rfl
  | c :: d :: t, r, hr, h => by
    have hc := h c (List.mem_cons_self ..)
    have ih := bound_jn hs (d :: t) 0 (by omega) fun k hk => h k (List.mem_cons_of_mem _ hk)
    have h32 : isF 32 = false := by decide +kernel
    have f0 : ∀ n : Nat, (if false = true then n + 1 else 0) = 0 := fun n => if_neg (by decide)
    show bound r (c :: 32 :: s :: 32 :: jn [32, s, 32] (d :: t)) = true
    rw [bound, hc, if_pos rfl, if_neg (by omega), bound, h32, f0, if_neg (by decide), bound, hs, f0, if_neg (by decide), bound, h32, f0, if_neg (by decide)]
    exact ih
theorem str_fig0 : ∀ n : Fin 9, ((1 : Int) + ((n.1 : Nat) : Int)).natAbs.log2 < 1920 ∧ isF (49 + n.1) = true ∧ cs (Str.ofString (toString ((1 : Int) + ((n.1 : Nat) : Int)))) = [49 + n.1] := by decide +kernel
theorem str_fig {r : Int} (h0 : 0 ≤ r) (h9 : r < 9) : (1 + r).natAbs.log2 < 1920 ∧ ∃ c, isF c = true ∧ Str.ofString (toString (1 + r)) = mkS [c] := by
  obtain ⟨n, rfl⟩ := Int.eq_ofNat_of_zero_le h0
  have h := str_fig0 ⟨n, by omega⟩
  exact ⟨h.1, _, h.2.1, mkS_eq h.2.2⟩
theorem cut_fig (fs : List Nat) (k : Nat) (h : (∀ c ∈ fs, isF c = true)) : ∃ gs : List Nat, cutV (fs.map fun c => V.str (mkS [c])) none (some (k : Int)) = gs.map (fun c => V.str (mkS [c])) ∧ (∀ c ∈ gs, isF c = true) ∧ gs.length ≤ k := by
  refine ⟨(fs.drop (HT.sIx fs.length 0 none)).take (HT.sIx fs.length fs.length (some (k : Int)) - HT.sIx fs.length 0 none), ?_, fun c hc => h c (List.mem_of_mem_drop (List.mem_of_mem_take hc)), ?_⟩
  · unfold cutV
    rw [List.length_map, List.map_take, List.map_drop]
  · rw [List.length_take]
    have := HT.sIx_nat fs.length fs.length k
    omega
theorem sum_fig : ∀ fs : List Nat, ((fs.map fun c => mkS [c]).map (fun z : Str => z.length)).sum = fs.length
  | [] => rfl
  | c :: r => by
    rw [List.map_cons, List.map_cons, List.sum_cons, sum_fig r, List.length_cons, len_mkS]
    show 1 + r.length = r.length + 1
    omega
theorem join_fits {fs : List Nat} {sep : Str} (h : fs.length ≤ 100) (hs : sep.length = 3) : ((fs.map fun c => mkS [c]).map (fun z : Str => z.length)).sum + (fs.map fun c => mkS [c]).length * sep.length ≤ 16777216 := by
  rw [sum_fig, List.length_map, hs]; omega
theorem map_fig (fs : List Nat) : (fs.map fun c => mkS [c]).map V.str = fs.map fun c => V.str (mkS [c]) := by rw [List.map_map]; rfl
theorem DeckAt.put {H : Hp} {d c p : Addr} {o : HO} (D : DeckAt H d c) (h : p ∉ [d, c]) : DeckAt (upd H p o) d c := by
  obtain ⟨cells, a, seed, h1, h2, h3⟩ := D
  have nd : d ≠ p := fun e => h (e ▸ List.mem_cons_self ..)
  have nc : c ≠ p := fun e => h (e ▸ List.mem_cons_of_mem _ (List.mem_cons_self ..))
  exact ⟨cells, a, seed, by rw [upd_ne nd]; exact h1, by rw [upd_ne nc]; exact h2, h3⟩
theorem topM : (1000000 : Int) < topN := by decide +kernel
def Fit (v : V) : Prop := ∃ z : Str, v = .str z ∧ (∀ c ∈ cs z, c < 128) ∧ z.length ≤ 555 ∧ Runs (cs z)
def Fits (xs : List V) : Prop := ∀ v ∈ xs, Fit v
theorem Fits.nil : Fits [] := fun v h => by cases h
theorem Fits.cons {v : V} {xs : List V} (a : Fit v) (b : Fits xs) : Fits (v :: xs) := fun u h => by
  rcases List.mem_cons.mp h with rfl | h
  · exact a
  · exact b u h
theorem Fits.app {xs ys : List V} (a : Fits xs) (b : Fits ys) : Fits (xs ++ ys) := fun u h => by
  rcases List.mem_append.mp h with h | h
  · exact a u h
  · exact b u h
theorem Odd.fit {z : Str} {n f : Nat} (a : Odd z n f) (h : n ≤ 555 := by decide) (h2 : f < 64 := by decide) : Fit (.str z) := ⟨z, rfl, a.asc, Nat.le_trans a.len h, a.runs h2⟩
theorem Odd.two {x y : Str} {n m f g : Nat} (a : Odd x n f) (b : Odd y m g) (h : n + m ≤ 1000 := by decide) : x.length + y.length ≤ sizeLine :=
  Nat.le_of_lt (small1000 (Nat.le_trans (Nat.add_le_add a.len b.len) h))
abbrev s_law : Stmt := top 35
theorem sc_law : FnScope ["script", "deck", "turn", "text", "some", "odd", "again", "many", "parts"] ["script"] (defScope s_law) := ⟨rfl, rfl, rfl, by decide +kernel, rfl, by decide +kernel, by decide +kernel⟩
theorem ok_law {f : Addr} {fd : FuncData} (F : Fun K "law" "law" s_law f fd) (B : Blt mg) (Bmin : mg "min" = none) (Gdeck : Def P w K mg base CX0 1 "_law_deck" (spDeck K)) (Gtake : Def P w K mg base CX0 1 "_law_take" spTake) (Gsize : Def P w K mg base CX0 2 "_law_size" (spDraw 8)) (Gany : Def P w K mg base CX0 11 "_law_any_way" (spAny 8))
    (Gtext : Def P w K mg base CX0 10 "_law_text" (spText 10)) (Gright : Def P w K mg base CX0 227 "_law_right" spRight) (Gbounded : Def P w K mg base CX0 3 "_law_bounded" spBounded) : FnOk P w K mg base CX0 228 f fd ["script"] (spLaw K) := by
  refine F.okW (k := 227) sc_law (fun vs H Q E h => ?_) (fun cdv A outer s H vs Q E hr h => ?_)
  · obtain ⟨a, ns, rfl, _⟩ := h
    rfl
  obtain ⟨a, ns, rfl, hS, hl, q⟩ := h
  refine ⟨_, (wss_cons (Wr.mk (ps_set (i := 1) sc_law.nd rfl (by first | exact Or.inl rfl | exact Or.inr rfl) (pe_def Gdeck (hr.mono (by omega)) (pa_cons (pv 0) pa_nil))))
      (wss_cons (Wr.mk (ps_for PassesOwn.never rfl (pi_range1 rfl B.range (pa_cons pe_int pa_nil)) (pg_name (i := 2) sc_law.nd rfl (by first | exact Or.inl rfl | exact Or.inr rfl)) (pss_cons (ps_set (i := 3) sc_law.nd rfl (by first | exact Or.inl rfl | exact Or.inr rfl) (pe_def Gtext (hr.mono (by omega)) (pa_cons (pe_def Gany (hr.mono (by omega)) (pa_cons (pv 1) (pa_cons (pe_callB (call_min2 rfl) rfl Bmin bt_min (pa_cons pe_int (pa_cons (pe_def Gsize (hr.mono (by omega)) (pa_cons (pv 1) pa_nil)) pa_nil))) pa_nil))) pa_nil)))
      (pss_cons (ps_set (i := 4) sc_law.nd rfl (by first | exact Or.inl rfl | exact Or.inr rfl) (pe_lst (pa_cons (pe_op op_add_str (pe_op op_add_str pe_str (pv 3)) pe_str) (pa_cons (pe_op op_add_str pe_str (pv 3)) (pa_cons (pe_op op_add_str (pv 3) pe_str) (pa_cons (pe_op op_add_str (pv 3) pe_str) (pa_pz (pp_cat (i := 3)) (pz_rep (i := 3)) pa_nil)))))))
      (pss_cons (ps_set (i := 4) sc_law.nd rfl (by first | exact Or.inl rfl | exact Or.inr rfl) (pe_op op_cat (pv 4) (pe_lst (pa_cons (pe_op op_add_str (pv 3) pe_str) (pa_pz (pp_cat (i := 3)) (pz_rep1 (i := 3)) (pa_cons (pe_op op_add_str (pe_op op_add_str pe_str (pv 3)) pe_str) pa_nil))))))
      (pss_cons (ps_set (i := 4) sc_law.nd rfl (by first | exact Or.inl rfl | exact Or.inr rfl) (pe_op op_cat (pv 4) (pe_lst (pa_cons (pe_op op_add_str (pe_op op_add_str pe_str (pv 3)) pe_str) (pa_cons (pe_op op_add_str (pe_op op_add_str pe_str (pv 3)) pe_str) pa_nil)))))
      (pss_cons (ps_for PassesOwn.never rfl (pi_list (pv 4)) (pg_name (i := 5) sc_law.nd rfl (by first | exact Or.inl rfl | exact Or.inr rfl)) (pss_one (ps_if (pt_not (pt_val (pe_def Gright (hr.mono (by omega)) (pa_cons (pv 5) pa_nil)))) (pss_one (ps_ret pe_bl)) pss_nil)))
      (pss_one (ps_for PassesOwn.never rfl (pi_range1 rfl B.range (pa_cons pe_int pa_nil)) (pg_name (i := 6) sc_law.nd rfl (by first | exact Or.inl rfl | exact Or.inr rfl)) (pss_cons (ps_if (pt_not (pt_val (pe_def Gright (hr.mono (by omega)) (pa_cons (pv 3) pa_nil)))) (pss_one (ps_ret pe_bl)) pss_nil)
      (pss_one (ps_set (i := 3) sc_law.nd rfl (by first | exact Or.inl rfl | exact Or.inr rfl) (pe_def Gbounded (hr.mono (by omega)) (pa_cons (pv 1) (pa_cons (pv 3) pa_nil)))))))))))))))
      (wss_cons (Wr.mk (ps_set (i := 7) sc_law.nd rfl (by first | exact Or.inl rfl | exact Or.inr rfl) (pe_def Gtake (hr.mono (by omega)) (pa_cons (pv 1) (pa_cons pe_int pa_nil)))))
      (wss_cons (w_set (i := 4) sc_law.nd rfl (by first | exact Or.inl rfl | exact Or.inr rfl) (w_lst (w_cons w_str (w_cons w_str (w_cons w_str (w_cons w_str (w_cons w_str (w_cons w_str (w_cons w_str (w_cons w_str (w_cons (w_op op_repS w_str w_int) (w_cons w_str (w_cons w_str (w_cons w_str (w_cons w_str (w_cons w_str w_nil))))))))))))))))
      (wss_cons (Wr.mk (ps_set (i := 4) sc_law.nd rfl (by first | exact Or.inl rfl | exact Or.inr rfl) (pe_op op_cat (pv 4) (Wr.un (w_lst (w_cons w_str (w_cons w_str (w_cons w_str (w_cons w_str (w_cons w_str (w_cons w_str (w_cons w_str (w_cons w_str w_nil)))))))))))))
      (wss_cons (Wr.mk (ps_setC (i := 8) sc_law.nd rfl (by first | exact Or.inl rfl | exact Or.inr rfl) (N := ["k", "deck"]) rfl (csC_of [none, some 1] rfl (by decide +kernel) (by decide +kernel) rfl rfl) rfl (pi_range1 rfl B.range (pa_cons (pe_op op_add pe_int (pe_def Gtake (hr.mono (by omega)) (pa_cons (pv 1) (pa_cons pe_int pa_nil)))) pa_nil)) (fun _ _ _ _ => (pg_name (i := 0) (show (["k", "deck"] : List Str).Nodup by decide +kernel) rfl (by first | exact Or.inl rfl | exact Or.inr rfl))) (fun _ _ _ _ => ptl_nil) (fun _ _ _ _ => (pe_callTy call_str_int rfl B.str bt_str (pa_cons (pe_op op_add pe_int (pe_def Gtake (hr.mono (by omega)) (pa_cons (pv 1) (pa_cons pe_int pa_nil)))) pa_nil)))))
      (wss_cons (Wr.mk (ps_set (i := 4) sc_law.nd rfl (by first | exact Or.inl rfl | exact Or.inr rfl) (pe_op op_cat (pv 4) (pe_lst (pa_cons (pe_bm PySem.F.plainAttrs_str PySem.F.slot_str_join PySem.F.type_str_join mt_join pe_str (pa_cons (pv 8) pa_nil)) (pa_cons (pe_op op_add_str (pe_bm PySem.F.plainAttrs_str PySem.F.slot_str_join PySem.F.type_str_join mt_join pe_str (pa_cons (pe_slice sl_list (pv 8) po_none (po_some pe_int)) pa_nil)) pe_str) (pa_cons (pe_op op_repS pe_str pe_int) (pa_cons (pe_bm PySem.F.plainAttrs_str PySem.F.slot_str_join PySem.F.type_str_join mt_join pe_str (pa_cons (pe_slice sl_list (pv 8) po_none (po_some pe_int)) pa_nil)) pa_nil))))))))
      (wss_cons (Wr.mk (ps_for PassesOwn.never rfl (pi_list (pe_op op_cat (pv 4) (pe_lst (pa_cons (pe_op op_add_str (pe_op op_add_str (pe_op op_repS pe_str (pv 7)) pe_str) (pe_op op_repS pe_str (pv 7))) pa_nil)))) (pg_name (i := 3) sc_law.nd rfl (by first | exact Or.inl rfl | exact Or.inr rfl)) (pss_one (ps_if (pt_not (pt_val (pe_def Gright (hr.mono (by omega)) (pa_cons (pv 3) pa_nil)))) (pss_one (ps_ret pe_bl)) pss_nil))))
      (wss_one (Wr.mk (ps_ret pe_bl))))))))))), ?_⟩
  refine ⟨_, rfl, a, ns, rfl, hS, hl, fun d c H1 s1 nd nc D => ?_⟩
  refine ⟨6, rfl, by decide, by decide, for_range (n := 6) (fun i σ H' => ∃ (z1 z2 z3 z4 z5 : Option V), σ = [some (.ref a), some (.ref d), z1, z2, z3, z4, z5, none, none] ∧ DeckAt H' d c) ⟨none, none, none, none, none, rfl, D⟩ ?_ ?_⟩
  · rintro i σ H' hi ⟨z1, z2, z3, z4, z5, rfl, D'⟩
    refine ⟨_, rfl, _, rfl, d, c, rfl, D', fun r H2 r1 r2 k2 D2 => ⟨7, r, rfl, d, c, _, rfl, D2, by split <;> omega, by split <;> omega, by split <;> omega, fun v x H3 hw ho hz k3 D3 => ?_⟩⟩
    have sp := x.size_pos
    have hs7 : x.size ≤ 7 := by split at hz <;> omega
    have hh := x.ht_lt
    refine ⟨v, x, 1000000, rfl, hw, ho, topM, by omega, by omega, fun H4 s4 => ?_⟩
    have O := txt_odd ho hs7
    generalize mkS (txt x) = z at O ⊢
    have D4 := D3.same s4
    have ob : Odd "(" 1 0 := ⟨by decide +kernel, by decide +kernel, by decide +kernel⟩
    have oc : Odd ")" 1 0 := ⟨by decide +kernel, by decide +kernel, by decide +kernel⟩
    have os : Odd " " 1 0 := ⟨by decide +kernel, by decide +kernel, by decide +kernel⟩
    have op1 : Odd " + 1" 4 1 := ⟨by decide +kernel, by decide +kernel, by decide +kernel⟩
    have o1p : Odd "1 + " 4 1 := ⟨by decide +kernel, by decide +kernel, by decide +kernel⟩
    have o0 : Odd "0" 1 1 := ⟨by decide +kernel, by decide +kernel, by decide +kernel⟩
    have oc1 : Odd ") + 1" 5 1 := ⟨by decide +kernel, by decide +kernel, by decide +kernel⟩
    have o2b : Odd "2 * (" 5 1 := ⟨by decide +kernel, by decide +kernel, by decide +kernel⟩
    have obb : Odd "((" 2 0 := ⟨by decide +kernel, by decide +kernel, by decide +kernel⟩
    have occ : Odd "))" 2 0 := ⟨by decide +kernel, by decide +kernel, by decide +kernel⟩
    have zl := O.len
    refine ⟨_, rfl, _, _, rfl, rfl, ob.two O, _, _, rfl, rfl, (ob.cat O).two oc, ?_⟩
    refine ⟨_, rfl, _, _, rfl, rfl, os.two O, ?_⟩
    refine ⟨_, rfl, _, _, rfl, rfl, O.two os, ?_⟩
    refine ⟨_, rfl, _, _, rfl, rfl, O.two op1, ?_⟩
    refine ⟨_, rfl, _, rfl, o1p.two O, ?_⟩
    refine ⟨_, rfl, _, rfl, by show z.length + (z.length + 1) * 0 ≤ _; omega, ?_⟩
    refine ⟨(by show 6 ≤ sizeLine; decide), fun p1 hp1 => ?_⟩
    refine ⟨_, rfl, _, rfl, _, _, rfl, rfl, O.two o0, ?_⟩
    refine ⟨_, rfl, _, rfl, o0.two O, ?_⟩
    have O1 := rep1_odd O
    refine ⟨_, rfl, _, rfl, by show z.length + (z.length + 1) * 2 ≤ _; omega, Nat.le_trans O1.len (by decide), ?_⟩
    refine ⟨_, rfl, _, _, rfl, rfl, ob.two O, _, _, rfl, rfl, (ob.cat O).two oc1, ?_⟩
    refine ⟨(by show 4 ≤ sizeLine; decide), fun p2 hp2 => ?_⟩
    have e1 := Same.new (o := .lst [V.str (z ++ "0"), V.str ("0" ++ z), V.str (rep1 z " " "  "), V.str ("(" ++ z ++ ") + 1")]) hp2 p1 _ upd_same
    refine ⟨p1, p2, _, _, rfl, rfl, e1, upd_same, (by show 10 ≤ sizeLine; decide), fun p3 hp3 => ?_⟩
    refine ⟨_, rfl, _, rfl, _, _, rfl, rfl, o2b.two O, _, _, rfl, rfl, (o2b.cat O).two oc, ?_⟩
    refine ⟨_, rfl, _, _, rfl, rfl, obb.two O, _, _, rfl, rfl, (obb.cat O).two occ, ?_⟩
    refine ⟨(by show 2 ≤ sizeLine; decide), fun p4 hp4 => ?_⟩
    have e3 := Same.new (o := .lst [V.str ("2 * (" ++ z ++ ")"), V.str ("((" ++ z ++ "))")]) hp4 p3 _ upd_same
    refine ⟨p3, p4, _, _, rfl, rfl, e3, upd_same, (by show 12 ≤ sizeLine; decide), fun p5 hp5 => ?_⟩
    have fits : Fits ([V.str ("(" ++ z ++ ")"), V.str (" " ++ z), V.str (z ++ " "), V.str (z ++ " + 1"), V.str ("1 + " ++ z), V.str (Txt.replace z " " "")] ++ [V.str (z ++ "0"), V.str ("0" ++ z), V.str (rep1 z " " "  "), V.str ("(" ++ z ++ ") + 1")] ++ [V.str ("2 * (" ++ z ++ ")"), V.str ("((" ++ z ++ "))")]) :=
      Fits.app (Fits.app (.cons ((ob.cat O).cat oc).fit (.cons (os.cat O).fit (.cons (O.cat os).fit (.cons (O.cat op1).fit (.cons (o1p.cat O).fit (.cons (strike_odd O).fit .nil))))))
        (.cons (O.cat o0).fit (.cons (o0.cat O).fit (.cons O1.fit (.cons ((ob.cat O).cat oc1).fit .nil)))))
        (.cons ((o2b.cat O).cat oc).fit (.cons ((obb.cat O).cat occ).fit .nil))
    revert fits hp5
    generalize ([V.str ("(" ++ z ++ ")"), V.str (" " ++ z), V.str (z ++ " "), V.str (z ++ " + 1"), V.str ("1 + " ++ z), V.str (Txt.replace z " " "")] ++ [V.str (z ++ "0"), V.str ("0" ++ z), V.str (rep1 z " " "  "), V.str ("(" ++ z ++ ") + 1")] ++ [V.str ("2 * (" ++ z ++ ")"), V.str ("((" ++ z ++ "))")]) = L
    intro hp5 fits
    refine ⟨_, rfl, p5, rfl, ⟨_, SqL.of upd_same⟩, for_list (K := K) (a := p5) (xs := L) (fun j σ H' => ∃ o, σ = [some (.ref a), some (.ref d), some (.int (0 + (i : Int))), some (.str z), some (.ref p5), o, z5, none, none] ∧ DeckAt H' d c ∧ H' p5 = some (.lst L)) ⟨_, rfl, ((((D4.new hp1).new hp2).new hp3).new hp4).new hp5, upd_same⟩ (fun j σ H' _ ⟨_, _, _, g⟩ => SqL.of g) ?_ ?_⟩
    · rintro j y σ H' hj ⟨o, rfl, DD, gg⟩
      obtain ⟨u, rfl, ua, ul, ur⟩ := fits y (List.mem_of_getElem? hj)
      exact ⟨_, rfl, u, rfl, ua, ul, ur, fun H'' s'' => ⟨_, rfl, iteF ⟨_, rfl, DD.same s'', s'' _ _ gg⟩⟩⟩
    rintro σ H' ⟨o, rfl, DD, gg⟩
    refine ⟨5, rfl, by decide, by decide, for_range (n := 5) (fun j σ H' => ∃ (y : Str) (o2 : Option V), σ = [some (.ref a), some (.ref d), some (.int (0 + (i : Int))), some (.str y), some (.ref p5), o, o2, none, none] ∧ DeckAt H' d c ∧ (∀ k ∈ cs y, k < 128) ∧ y.length ≤ 490 + j ∧ Runs (cs y)) ⟨z, _, rfl, DD, O.asc, zl, O.runs (by decide)⟩ ?_ ?_⟩
    · rintro j σ H' hj ⟨y, o2, rfl, DD, ya, yl, yr⟩
      refine ⟨_, rfl, y, rfl, ya, by omega, yr, fun H'' s'' => ⟨_, rfl, iteF ?_⟩⟩
      refine ⟨_, rfl, _, rfl, d, c, y, rfl, DD.same s'', ya, by omega, yr, fun y2 H3 ya2 yl2 yr2 k3 D3 => ?_⟩
      exact ⟨y2, _, rfl, D3, ya2, by omega, yr2⟩
    · rintro σ H' ⟨y, o2, rfl, DD, _⟩
      exact ⟨_, _, _, _, _, rfl, DD⟩
  · rintro σ H' ⟨z1, z2, z3, z4, z5, rfl, D'⟩
    refine ⟨_, rfl, d, c, 190, rfl, D', by decide, by decide, fun r H2 r0 r1 k2 D2 => ?_⟩
    obtain ⟨m, rfl⟩ : ∃ m : Nat, r = (m : Int) := ⟨r.toNat, by omega⟩
    have hm : m < 190 := by omega
    refine ⟨_, 400, rfl, rfl, by decide, by decide +kernel, fun yb hyb => ?_⟩
    refine ⟨(by show 14 ≤ sizeLine; decide), fun p1 hp1 => ?_⟩
    refine ⟨_, rfl, (by show 8 ≤ sizeLine; decide), fun p2 hp2 => ?_⟩
    refine ⟨p1, p2, _, _, rfl, rfl, Same.new hp2 _ _ upd_same, upd_same, (by show 22 ≤ sizeLine; decide), fun p3 hp3 => ?_⟩
    have fb : Fit (.str yb) := (rep_odd (m := 400) hyb (by decide +kernel) (by decide +kernel) (by decide +kernel)).fit
    have fits : Fits ([V.str "", V.str " ", V.str "+", V.str "1 +", V.str "+ 1", V.str "()", V.str "(1)", V.str "1 + (2)", V.str yb, V.str "1+1", V.str "0", V.str "0 + 1", V.str "3 * 0", V.str "01"] ++ [V.str "1_0", V.str "1_000 + 2", V.str "6 : 2", V.str "2 X 3", V.str "[1 + 2] * 3", V.str "1,000 + 5", V.str "2 ^ 3", V.str "1 + 2 = 3"]) := by
      have k : ∀ z : Str, (cs z).all (fun c => decide (c < 128)) = true → decide (z.length ≤ 40) = true → decide (figs (cs z) ≤ 40) = true → Fit (.str z) := fun z h1 h2 h3 =>
        Odd.fit (n := 40) (f := 40) ⟨fun c hc => of_decide_eq_true (List.all_eq_true.mp h1 c hc), of_decide_eq_true h2, of_decide_eq_true h3⟩
      refine Fits.app (.cons ?_ (.cons ?_ (.cons ?_ (.cons ?_ (.cons ?_ (.cons ?_ (.cons ?_ (.cons ?_ (.cons fb (.cons ?_ (.cons ?_ (.cons ?_ (.cons ?_ (.cons ?_ .nil)))))))))))))) (.cons ?_ (.cons ?_ (.cons ?_ (.cons ?_ (.cons ?_ (.cons ?_ (.cons ?_ (.cons ?_ .nil)))))))) <;> exact k _ (by decide +kernel) (by decide +kernel) (by decide +kernel)
    have ll : ([V.str "", V.str " ", V.str "+", V.str "1 +", V.str "+ 1", V.str "()", V.str "(1)", V.str "1 + (2)", V.str yb, V.str "1+1", V.str "0", V.str "0 + 1", V.str "3 * 0", V.str "01"] ++ [V.str "1_0", V.str "1_000 + 2", V.str "6 : 2", V.str "2 X 3", V.str "[1 + 2] * 3", V.str "1,000 + 5", V.str "2 ^ 3", V.str "1 + 2 = 3"] : List V).length ≤ 22 := Nat.le_refl 22
    revert hp3 fits ll
    generalize ([V.str "", V.str " ", V.str "+", V.str "1 +", V.str "+ 1", V.str "()", V.str "(1)", V.str "1 + (2)", V.str yb, V.str "1+1", V.str "0", V.str "0 + 1", V.str "3 * 0", V.str "01"] ++ [V.str "1_0", V.str "1_000 + 2", V.str "6 : 2", V.str "2 X 3", V.str "[1 + 2] * 3", V.str "1,000 + 5", V.str "2 ^ 3", V.str "1 + 2 = 3"]) = L
    intro hp3 fits ll
    have D4 := ((D2.new hp1).new hp2).new (o := .lst L) hp3
    generalize hH4 : upd (upd (upd H2 p1 _) p2 _) p3 (.lst L) = H4 at D4 ⊢
    have g4 : H4 p3 = some (.lst L) := by rw [← hH4]; exact upd_same
    have np3 : p3 ∉ [d, c] := ((D2.new hp1).new hp2).nin hp3
    clear hH4 hp3 hp2 hp1
    refine ⟨_, rfl, d, c, 88, rfl, D4, by decide, by decide, fun r5 H5 a5 b5 k5 D5 => ?_⟩
    obtain ⟨n, rfl⟩ : ∃ n : Nat, r5 = (n : Int) := ⟨r5.toNat, by omega⟩
    have hn : n < 88 := by omega
    have g5 := k5 _ _ g4 np3
    have nDp : ∀ {q : Addr}, H5 q = none → q ∉ [d, c] := fun h => D5.nin h
    refine ⟨_, _, rfl, rfl, _, rfl, by omega, by omega, fun Dp hDp C s2 fp => comp_range (tt := fun _ H Q => Q true H) (lo := 0) (n := (3 + (n : Int)).toNat) (fun i ys σ H' => ∃ (z : Option V) (fs : List Nat), σ = [z, some (.ref d)] ∧ DeckAt H' d c ∧ H' p3 = some (.lst L) ∧ ys = fs.map (fun c => V.str (mkS [c])) ∧ (∀ c ∈ fs, isF c = true) ∧ fs.length ≤ i) ⟨none, [], rfl, D5.new hDp, Same.new hDp _ _ g5, rfl, (fun c h => by cases h), Nat.zero_le _⟩ ?_ ?_⟩
    · rintro i ys σ H' hi hl ⟨z, fs, rfl, DD, gg, ey, hf, fl⟩ e
      unfold gName
      dsimp only
      rw [if_pos rfl]
      refine ⟨_, rfl, d, c, 9, rfl, DD, by decide, by decide, fun r6 H6 a6 b6 k6 D6 => ?_⟩
      obtain ⟨lg, cf, hcf, ecf⟩ := str_fig a6 b6
      refine ⟨_, _, rfl, rfl, _, rfl, lg, ?_⟩
      refine ⟨ys, k6 _ _ e (nDp hDp), small1000 (by omega), _, by rw [List.length_append]; exact Nat.add_le_add_right hl 1, ⟨_, fs ++ [cf], rfl, D6.put (nDp hDp), ?_, ?_, ?_, ?_⟩, upd_same⟩
      · rw [upd_ne (ne_of_none g5 hDp)]; exact k6 _ _ gg np3
      · rw [List.map_append, ← ey]
        show ys ++ [V.str (Str.ofString (toString (1 + r6)))] = ys ++ [V.str (mkS [cf])]
        rw [ecf]
      · intro c hc
        rcases List.mem_append.mp hc with hc | hc
        · exact hf c hc
        · rw [List.mem_singleton.mp hc]; exact hcf
      · rw [List.length_append]; exact Nat.add_le_add_right fl 1
    · rintro ys σ H' ⟨z, fs, rfl, DD, gg, ey, hf, fl⟩ e
      subst ey
      have fl2 : fs.length ≤ 90 := by omega
      have eq : ∀ {H'' : Hp}, Same H' H'' → SqL K H'' Dp ((fs.map fun c => mkS [c]).map V.str) := fun s => by rw [map_fig]; exact SqL.of (s _ _ e)
      refine ⟨_, rfl, rfl, _, rfl, " + ", Dp, _, rfl, rfl, eq (Same.refl _), join_fits (by omega) (by decide +kernel), ?_⟩
      obtain ⟨g5s, c5, f5, l5⟩ := cut_fig fs 5 hf
      obtain ⟨g3s, c3, f3, l3⟩ := cut_fig fs 3 hf
      have j1 := join_odd (sep := " + ") (by decide +kernel) (by decide +kernel) (by decide +kernel) hf
      have r1 : Runs (cs (Txt.join " + " (fs.map fun c => mkS [c]))) := by
        rw [join_cs]
        exact bound_Runs (bound_jn (s := 43) (by decide +kernel) fs 0 (by decide) hf)
      have j2 := (join_odd (sep := " - ") (by decide +kernel) (by decide +kernel) (by decide +kernel) f5).mono (m := 20) (g := 5) (by omega) l5
      have j3 := (join_odd (sep := " * ") (by decide +kernel) (by decide +kernel) (by decide +kernel) f3).mono (m := 12) (g := 3) (by omega) l3
      have o2 : Odd " * 2" 4 1 := ⟨by decide +kernel, by decide +kernel, by decide +kernel⟩
      refine ⟨rfl, _, rfl, _, rfl, Dp, _, rfl, SqL.of e, fun q1 hq1 => ?_⟩
      refine ⟨" - ", q1, g5s.map (fun c => mkS [c]), rfl, rfl, by rw [map_fig, ← c5]; exact SqL.of upd_same, join_fits (by omega) (by decide +kernel), ?_⟩
      refine ⟨_, _, rfl, rfl, j2.two o2, ?_⟩
      refine ⟨_, 70, rfl, rfl, by decide, by decide +kernel, fun y7 hy7 => ?_⟩
      refine ⟨rfl, _, rfl, _, rfl, Dp, _, rfl, SqL.of (Same.new hq1 _ _ e), fun q2 hq2 => ?_⟩
      refine ⟨" * ", q2, g3s.map (fun c => mkS [c]), rfl, rfl, by rw [map_fig, ← c3]; exact SqL.of upd_same, join_fits (by omega) (by decide +kernel), ?_⟩
      refine ⟨(by show 4 ≤ sizeLine; decide), fun p9 hp9 => ?_⟩
      have g9 := Same.new (o := .lst [V.str (Txt.join " + " (fs.map fun c => mkS [c])), V.str (Txt.join " - " (g5s.map fun c => mkS [c]) ++ " * 2"), V.str y7, V.str (Txt.join " * " (g3s.map fun c => mkS [c]))]) hp9 _ _ (Same.new hq2 _ _ (Same.new hq1 _ _ gg))
      refine ⟨p3, p9, _, _, rfl, rfl, g9, upd_same, Nat.le_of_lt (small1000 (by show L.length + 4 ≤ 1000; omega)), fun p10 hp10 => ?_⟩
      have f70 : Fit (.str y7) := ⟨y7, rfl, by rw [hy7]; decide +kernel, by rw [← cs_len, hy7]; decide +kernel, by rw [hy7]; exact bound_Runs (by decide +kernel)⟩
      have fits2 : Fits (L ++ [V.str (Txt.join " + " (fs.map fun c => mkS [c])), V.str (Txt.join " - " (g5s.map fun c => mkS [c]) ++ " * 2"), V.str y7, V.str (Txt.join " * " (g3s.map fun c => mkS [c]))]) :=
        fits.app (.cons ⟨_, rfl, j1.asc, Nat.le_trans j1.len (by omega), r1⟩ (.cons (j2.cat o2).fit (.cons f70 (.cons j3.fit .nil))))
      have ob : Odd "(" 1 0 := ⟨by decide +kernel, by decide +kernel, by decide +kernel⟩
      refine ⟨_, rfl, _, rfl, _, m, rfl, rfl, by omega, by show 1 * m ≤ _; omega, fun u1 hu1 => ?_⟩
      have w1 := rep_odd (m := 190) hu1 (by decide +kernel) (by decide +kernel) (by show 1 * m ≤ _; omega)
      have w0 : Odd "1" 1 1 := ⟨by decide +kernel, by decide +kernel, by decide +kernel⟩
      refine ⟨_, _, rfl, rfl, w1.two w0, _, rfl, _, m, rfl, rfl, by omega, by show 1 * m ≤ _; omega, fun u2 hu2 => ?_⟩
      have w2 := rep_odd (m := 190) hu2 (by decide +kernel) (by decide +kernel) (by show 1 * m ≤ _; omega)
      refine ⟨_, _, rfl, rfl, (w1.cat w0).two w2, (by show 1 ≤ sizeLine; decide), fun p11 hp11 => ?_⟩
      have g10 := Same.new (o := .lst [V.str (u1 ++ "1" ++ u2)]) hp11 p10 _ upd_same
      refine ⟨p10, p11, _, _, rfl, rfl, g10, upd_same, Nat.le_of_lt (small1000 (by rw [List.length_append]; show L.length + 4 + 1 ≤ 1000; omega)), fun p12 hp12 => ?_⟩
      have fits3 := fits2.app (.cons ((w1.cat w0).cat w2).fit .nil)
      revert fits3
      generalize (L ++ [V.str (Txt.join " + " (fs.map fun c => mkS [c])), V.str (Txt.join " - " (g5s.map fun c => mkS [c]) ++ " * 2"), V.str y7, V.str (Txt.join " * " (g3s.map fun c => mkS [c]))] ++ [V.str (u1 ++ "1" ++ u2)]) = LL
      intro fits3
      refine ⟨p12, rfl, ⟨_, SqL.of upd_same⟩, for_list (K := K) (a := p12) (xs := LL) (fun j σ H' => ∃ o1 o2 o3 o4, σ = [some (.ref a), some (.ref d), z1, o1, o2, z4, z5, o3, o4] ∧ H' p12 = some (.lst LL)) ⟨_, _, _, _, rfl, upd_same⟩ (fun j σ H' _ ⟨_, _, _, _, _, g⟩ => SqL.of g) ?_ ?_⟩
      · rintro j y σ H' hj ⟨o1, o2, o3, o4, rfl, gg⟩
        obtain ⟨u, rfl, ua, ul, ur⟩ := fits3 y (List.mem_of_getElem? hj)
        exact ⟨_, rfl, u, rfl, ua, ul, ur, fun H'' s'' => ⟨_, rfl, iteF ⟨_, _, _, _, rfl, s'' _ _ gg⟩⟩⟩
      · rintro σ H' ⟨o1, o2, o3, o4, rfl, gg⟩
        exact q _
end
end Law

set_option Elab.async false
set_option linter.all false
set_option maxRecDepth 100000
set_option maxHeartbeats 4000000
namespace Law
open PySem L2
section
variable {P : Program} {w : World} {K : PySem.W.Frag} {mg : Str → Option Value} {base : Heap} {W T S N : Addr} {bT bS bN : List Value}
abbrev s_law_take : Stmt := top 19
theorem sc_law_take : FnScope ["deck", "many", "at", "cell", "one"] ["deck", "many"] (defScope s_law_take) := ⟨rfl, rfl, rfl, by decide +kernel, rfl, by decide +kernel, by decide +kernel⟩
theorem ok_law_take {f : Addr} {fd : FuncData} (F : Fun K "_law_take" "_law_take" s_law_take f fd) (B : Blt mg) : FnOk P w K mg base CX0 1 f fd ["deck", "many"] spTake := by
  refine F.ok sc_law_take (fun vs H Q E h => ?_) (fun cdv A outer s H vs Q E hr h => ?_)
  · obtain ⟨d, c, many, rfl, _⟩ := h
    rfl
  obtain ⟨d, c, many, rfl, D, m0, m1, q⟩ := h
  have hdc := D.ne
  obtain ⟨cells, a, seed, hd, hc, hl⟩ := id D
  refine ⟨_, (pss_cons (ps_set (i := 2) sc_law_take.nd rfl (by first | exact Or.inl rfl | exact Or.inr rfl) (pe_op op_mod (pe_ix ix_list (pv 0) pe_int (fun _ _ => rfl)) (pe_callB call_len_seq rfl B.len bt_len (pa_cons (pe_ix ix_list (pv 0) pe_int (fun _ _ => rfl)) pa_nil))))
      (pss_cons (ps_asg (pe_op op_add (pe_ix ix_list (pv 0) pe_int (fun _ _ => rfl)) pe_int) (pg_sub (pv 0) pe_int set_list))
      (pss_cons (ps_set (i := 3) sc_law_take.nd rfl (by first | exact Or.inl rfl | exact Or.inr rfl) (pe_ix ix_list (pe_ix ix_list (pv 0) pe_int (fun _ _ => rfl)) (pv 2) (fun _ _ => rfl)))
      (pss_cons (ps_if (PW.pt (pw_or (pt_cmpR op_eq (pv 3) pe_int (nomark _)) (pw_or1 (pt_cmpR op_eq (pv 3) (pe_un un_neg pe_int) (nomark _))))) (pss_cons (ps_set (i := 4) sc_law_take.nd rfl (by first | exact Or.inl rfl | exact Or.inr rfl) (pe_op op_mod (pe_op op_mul (pe_op op_mod (pe_op op_add (pe_ix ix_list (pv 0) pe_int (fun _ _ => rfl)) (pe_op op_mul pe_int (pe_ix ix_list (pv 0) pe_int (fun _ _ => rfl)))) pe_int) pe_int) pe_int))
      (pss_cons (ps_set (i := 4) sc_law_take.nd rfl (by first | exact Or.inl rfl | exact Or.inr rfl) (pe_op op_mod (pe_op op_mul (pe_op op_mod (pe_op op_add (pe_op op_mul (pv 4) (pv 4)) (pe_op op_mul pe_int (pe_ix ix_list (pv 0) pe_int (fun _ _ => rfl)))) pe_int) pe_int) pe_int))
      (pss_one (ps_ret (pe_op op_mod (pe_op op_fdiv (pv 4) pe_int) (pv 1)))))) pss_nil)
      (pss_cons (ps_asg (pe_op op_fdiv (pv 3) (pv 1)) (pg_sub (pe_ix ix_list (pv 0) pe_int (fun _ _ => rfl)) (pv 2) set_list))
      (pss_one (ps_ret (pe_op op_mod (pv 3) (pv 1))))))))), ?_⟩
  have lc : (cells.map V.int).length = cells.length := List.length_map _
  have l0 : 0 < (((cells.map V.int).length : Nat) : Int) := by omega
  refine ⟨_, rfl, d, _, _, _, rfl, rfl, SqL.of hd, rfl, _, rfl, d, _, _, _, rfl, rfl, SqL.of hd, rfl, c, _, rfl, .inl (SqL.of hc), _, _, rfl, rfl, l0, ?_⟩
  have i0 : 0 ≤ a % (((cells.map V.int).length : Nat) : Int) := Int.emod_nonneg _ (by omega)
  have i1 : a % (((cells.map V.int).length : Nat) : Int) < (cells.length : Int) := by rw [← lc]; exact Int.emod_lt_of_pos _ l0
  obtain ⟨j, hj⟩ : ∃ j : Nat, a % (((cells.map V.int).length : Nat) : Int) = (j : Int) := ⟨(a % (((cells.map V.int).length : Nat) : Int)).toNat, by omega⟩
  have jl : j < cells.length := by omega
  -- deck[1] = deck[1] + 1
  refine ⟨_, rfl, d, _, _, _, rfl, rfl, SqL.of hd, rfl, _, _, rfl, rfl, _, rfl, d, _, 1, 1, rfl, rfl, hd, rfl, ?_⟩
  have hd1 : (upd H d (.lst [.ref c, .int (a + 1), .int seed])) d = some (.lst [.ref c, .int (a + 1), .int seed]) := upd_same
  have hc1 : (upd H d (.lst [.ref c, .int (a + 1), .int seed])) c = some (.lst (cells.map V.int)) := by rw [upd_ne hdc.symm]; exact hc
  have k1 : Keep [d, c] H (upd H d (.lst [.ref c, .int (a + 1), .int seed])) := Keep.upd (by simp)
  obtain ⟨cell, hcell⟩ : ∃ cell, cells[j]? = some cell := ⟨cells[j], List.getElem?_eq_getElem jl⟩
  have hat : atI (cells.map V.int) (a % (((cells.map V.int).length : Nat) : Int)) = some (.int cell) := by
    rw [hj]; exact atI_nat (by rw [List.getElem?_map, hcell]; rfl)
  have hix : ixN (cells.map V.int).length (a % (((cells.map V.int).length : Nat) : Int)) = some j := by
    unfold ixN
    rw [if_pos i0, if_pos (by omega)]
    exact congrArg some (by omega)
  -- cell = deck[0][at]
  refine ⟨_, rfl, d, _, _, _, rfl, rfl, SqL.of hd1, rfl, _, rfl, c, _, _, _, rfl, rfl, SqL.of hc1, hat, ?_⟩
  have D1 : DeckAt (upd H d (.lst [.ref c, .int (a + 1), .int seed])) d c := ⟨cells, _, _, hd1, hc1, hl⟩
  -- the test
  refine ⟨_, rfl, rfl, _, rfl, ?_⟩
  refine ite2 (fun _ => iteT ?g1) (fun _ => ?g3)
  case g3 =>
    refine ⟨_, rfl, 1, rfl, rfl, _, rfl, ?_⟩
    refine ite2 (fun _ => ?g2) (fun _ => ?g4)
    case g4 =>
      refine ⟨_, rfl, _, rfl, _, _, rfl, rfl, ⟨m0, m1⟩, _, rfl, d, _, _, _, rfl, rfl, SqL.of hd1, rfl, _, rfl, c, _, _, j, rfl, rfl, hc1, hix, ?_⟩
      refine ⟨_, rfl, _, rfl, _, _, rfl, rfl, m0, ?_⟩
      refine q _ _ (Int.emod_nonneg _ (by omega)) (Int.emod_lt_of_pos _ m0) (k1.trans (Keep.upd (by simp))) ⟨cells.set j (cell / many), _, _, by rw [upd_ne hdc]; exact hd1, ?_, by rw [List.length_set]; exact hl⟩
      rw [upd_same, List.map_set]
    case g2 =>
      refine ⟨_, rfl, d, _, _, _, rfl, rfl, SqL.of hd1, rfl, _, rfl, d, _, _, _, rfl, rfl, SqL.of hd1, rfl, _, _, rfl, rfl, .inl ⟨by decide, by decide⟩, _, _, rfl, rfl, _, _, rfl, rfl, (by show (0 : Int) < _; decide), _, _, rfl, rfl, .inr ⟨by decide, by decide⟩, _, _, rfl, rfl, (by show (0 : Int) < _; decide), ?_⟩
      refine ⟨_, rfl, _, rfl, _, _, rfl, rfl, .inl ⟨by omega, by omega⟩, _, rfl, d, _, _, _, rfl, rfl, SqL.of hd1, rfl, _, _, rfl, rfl, .inl ⟨by decide, by decide⟩, _, _, rfl, rfl, _, _, rfl, rfl, (by show (0 : Int) < _; decide), _, _, rfl, rfl, .inr ⟨by decide, by decide⟩, _, _, rfl, rfl, (by show (0 : Int) < _; decide), ?_⟩
      refine ⟨_, rfl, _, _, rfl, rfl, ⟨by decide, by decide⟩, _, rfl, _, _, rfl, rfl, m0, ?_⟩
      exact q _ _ (Int.emod_nonneg _ (by omega)) (Int.emod_lt_of_pos _ m0) k1 D1
  case g1 =>
    refine ⟨_, rfl, d, _, _, _, rfl, rfl, SqL.of hd1, rfl, _, rfl, d, _, _, _, rfl, rfl, SqL.of hd1, rfl, _, _, rfl, rfl, .inl ⟨by decide, by decide⟩, _, _, rfl, rfl, _, _, rfl, rfl, (by show (0 : Int) < _; decide), _, _, rfl, rfl, .inr ⟨by decide, by decide⟩, _, _, rfl, rfl, (by show (0 : Int) < _; decide), ?_⟩
    refine ⟨_, rfl, _, rfl, _, _, rfl, rfl, .inl ⟨by omega, by omega⟩, _, rfl, d, _, _, _, rfl, rfl, SqL.of hd1, rfl, _, _, rfl, rfl, .inl ⟨by decide, by decide⟩, _, _, rfl, rfl, _, _, rfl, rfl, (by show (0 : Int) < _; decide), _, _, rfl, rfl, .inr ⟨by decide, by decide⟩, _, _, rfl, rfl, (by show (0 : Int) < _; decide), ?_⟩
    refine ⟨_, rfl, _, _, rfl, rfl, ⟨by decide, by decide⟩, _, rfl, _, _, rfl, rfl, m0, ?_⟩
    exact q _ _ (Int.emod_nonneg _ (by omega)) (Int.emod_lt_of_pos _ m0) k1 D1
abbrev s_law_number : Stmt := top 20
theorem sc_law_number : FnScope ["deck", "some"] ["deck"] (defScope s_law_number) := ⟨rfl, rfl, rfl, by decide +kernel, rfl, by decide +kernel, by decide +kernel⟩
theorem ok_law_number {f : Addr} {fd : FuncData} (F : Fun K "_law_number" "_law_number" s_law_number f fd) (B : Blt mg) (Gtake : Def P w K mg base CX0 1 "_law_take" spTake) : FnOk P w K mg base CX0 2 f fd ["deck"] (spDraw 1000000) := by
  refine F.ok sc_law_number (fun vs H Q E h => ?_) (fun cdv A outer s H vs Q E hr h => ?_)
  · obtain ⟨d, c, rfl, _⟩ := h
    rfl
  obtain ⟨d, c, rfl, D, q⟩ := h
  refine ⟨_, (pss_cons (ps_set (i := 1) sc_law_number.nd rfl (by first | exact Or.inl rfl | exact Or.inr rfl) (pe_lst (pa_cons pe_int (pa_cons pe_int (pa_cons (pe_op op_add pe_int (pe_def Gtake (hr.mono (by omega)) (pa_cons (pv 0) (pa_cons pe_int pa_nil)))) (pa_cons (pe_op op_add pe_int (pe_def Gtake (hr.mono (by omega)) (pa_cons (pv 0) (pa_cons pe_int pa_nil)))) (pa_cons pe_int (pa_cons pe_int (pa_cons pe_int pa_nil)))))))))
      (pss_cons (ps_set (i := 1) sc_law_number.nd rfl (by first | exact Or.inl rfl | exact Or.inr rfl) (pe_op op_cat (pv 1) (pe_lst (pa_cons (pe_op op_add pe_int (pe_def Gtake (hr.mono (by omega)) (pa_cons (pv 0) (pa_cons (pe_op op_pow pe_int pe_int) pa_nil)))) (pa_cons (pe_op op_pow pe_int pe_int) pa_nil)))))
      (pss_one (ps_ret (pe_ix ix_list (pv 1) (pe_def Gtake (hr.mono (by omega)) (pa_cons (pv 0) (pa_cons pe_int pa_nil))) (fun _ _ => rfl)))))), ?_⟩
  refine ⟨_, rfl, d, c, 10, rfl, D, by decide, by decide, fun r1 H1 a1 b1 k1 D1 => ⟨_, _, rfl, rfl, _, rfl, d, c, 10, rfl, D1, by decide, by decide, fun r2 H2 a2 b2 k2 D2 => ⟨_, _, rfl, rfl, (by show 7 ≤ sizeLine; decide), fun p hp => ?_⟩⟩⟩
  have D3 : DeckAt (upd H2 p (.lst [.int 1, .int 2, .int (1 + r1), .int (1 + r2), .int 25, .int 75, .int 100])) d c := D2.new hp
  have np : p ∉ [d, c] := D2.nin hp
  refine ⟨_, rfl, _, rfl, _, _, rfl, rfl, ⟨by decide, by decide, by decide⟩, d, c, _, rfl, D3, by decide, by decide, fun r3 H3 a3 b3 k3 D4 => ⟨_, _, rfl, rfl, _, _, rfl, rfl, ⟨by decide, by decide, by decide⟩, (by show 2 ≤ sizeLine; decide), fun p2 hp2 => ?_⟩⟩
  have h3 : H3 p = some (.lst [.int 1, .int 2, .int (1 + r1), .int (1 + r2), .int 25, .int 75, .int 100]) := k3 _ _ upd_same np
  refine ⟨p, p2, _, _, rfl, rfl, (by rw [upd_ne (ne_of_none h3 hp2)]; exact h3), upd_same, (by show 9 ≤ sizeLine; decide), fun p3 hp3 => ?_⟩
  have D5 : DeckAt (upd (upd H3 p2 (.lst [.int (1 + r3), .int ((10 : Int) ^ (6 : Int).toNat)])) p3 (.lst ([.int 1, .int 2, .int (1 + r1), .int (1 + r2), .int 25, .int 75, .int 100] ++ [.int (1 + r3), .int ((10 : Int) ^ (6 : Int).toNat)]))) d c := (D4.new hp2).new hp3
  have np3 : p3 ∉ [d, c] := (D4.new hp2).nin hp3
  refine ⟨_, rfl, _, rfl, d, c, 9, rfl, D5, by decide, by decide, fun r4 H4 a4 b4 k4 D6 => ?_⟩
  have h5 := k4 _ _ upd_same np3
  obtain ⟨v, hv, hm⟩ := atI_mem (xs := ([.int 1, .int 2, .int (1 + r1), .int (1 + r2), .int 25, .int 75, .int 100] ++ [.int (1 + r3), .int ((10 : Int) ^ (6 : Int).toNat)] : List V)) a4 (by exact b4)
  refine ⟨p3, _, _, _, rfl, rfl, SqL.of h5, hv, ?_⟩
  have kk : Keep [d, c] H H4 := k1.trans (k2.trans ((Keep.new hp).trans (k3.trans ((Keep.new hp2).trans ((Keep.new hp3).trans k4)))))
  have b3' : r3 < 1000000 := b3
  have e6 : (10 : Int) ^ (6 : Int).toNat = 1000000 := by decide
  simp only [List.cons_append, List.nil_append, List.mem_cons, List.not_mem_nil, or_false, e6] at hm
  rcases hm with rfl | rfl | rfl | rfl | rfl | rfl | rfl | rfl | rfl <;> exact q _ H4 (by omega) (by omega) kk D6
abbrev s_law_size : Stmt := top 25
theorem sc_law_size : FnScope ["deck"] ["deck"] (defScope s_law_size) := ⟨rfl, rfl, rfl, by decide +kernel, rfl, by decide +kernel, by decide +kernel⟩
theorem ok_law_size {f : Addr} {fd : FuncData} (F : Fun K "_law_size" "_law_size" s_law_size f fd) (B : Blt mg) (Gtake : Def P w K mg base CX0 1 "_law_take" spTake) : FnOk P w K mg base CX0 2 f fd ["deck"] (spDraw 8) := by
  refine F.ok sc_law_size (fun vs H Q E h => ?_) (fun cdv A outer s H vs Q E hr h => ?_)
  · obtain ⟨d, c, rfl, _⟩ := h
    rfl
  obtain ⟨d, c, rfl, D, q⟩ := h
  refine ⟨_, (pss_one (ps_ret (pe_ix ix_list (pe_lst (pa_cons pe_int (pa_cons pe_int (pa_cons pe_int (pa_cons pe_int (pa_cons (pe_op op_add pe_int (pe_def Gtake (hr.mono (by omega)) (pa_cons (pv 0) (pa_cons pe_int pa_nil)))) (pa_cons pe_int pa_nil))))))) (pe_def Gtake (hr.mono (by omega)) (pa_cons (pv 0) (pa_cons pe_int pa_nil))) (fun _ _ => rfl)))), ?_⟩
  refine ⟨_, rfl, d, c, 8, rfl, D, by decide, by decide, fun r1 H1 a1 b1 k1 D1 => ⟨_, _, rfl, rfl, (by show 6 ≤ sizeLine; decide), fun p hp => ?_⟩⟩
  have D3 : DeckAt (upd H1 p (.lst [.int 1, .int 2, .int 3, .int 4, .int (1 + r1), .int 8])) d c := D1.new hp
  have np : p ∉ [d, c] := D1.nin hp
  refine ⟨_, rfl, d, c, 6, rfl, D3, by decide, by decide, fun r4 H4 a4 b4 k4 D6 => ?_⟩
  have h5 := k4 _ _ upd_same np
  obtain ⟨v, hv, hm⟩ := atI_mem (xs := ([.int 1, .int 2, .int 3, .int 4, .int (1 + r1), .int 8] : List V)) a4 (by exact b4)
  refine ⟨p, _, _, _, rfl, rfl, SqL.of h5, hv, ?_⟩
  have kk : Keep [d, c] H H4 := k1.trans ((Keep.new hp).trans k4)
  simp only [List.mem_cons, List.not_mem_nil, or_false] at hm
  rcases hm with rfl | rfl | rfl | rfl | rfl | rfl <;> exact q _ H4 (by omega) (by omega) kk D6
abbrev s_law_deck : Stmt := top 18
theorem sc_law_deck : FnScope ["script", "cells", "seed", "k", "mixed"] ["script"] (defScope s_law_deck) := ⟨rfl, rfl, rfl, by decide +kernel, rfl, by decide +kernel, by decide +kernel⟩
theorem ok_law_deck {f : Addr} {fd : FuncData} (F : Fun K "_law_deck" "_law_deck" s_law_deck f fd) (B : Blt mg) : FnOk P w K mg base CX0 1 f fd ["script"] (spDeck K) := by
  refine F.ok sc_law_deck (fun vs H Q E h => ?_) (fun cdv A outer s H vs Q E hr h => ?_)
  · obtain ⟨a, ns, rfl, _⟩ := h
    rfl
  obtain ⟨a, ns, rfl, hS, hl, q⟩ := h
  have hlm : (ns.map V.int).length = ns.length := List.length_map _
  have cut : cutV (ns.map V.int) none (some (63 : Int)) = ns.map V.int := cut_all (k := 63) (by omega)
  refine ⟨_, (pss_cons (ps_set (i := 1) sc_law_deck.nd rfl (by first | exact Or.inl rfl | exact Or.inr rfl) (pe_op op_cat (pe_slice sl_list (pv 0) po_none (po_some pe_int)) (pe_lst (pa_cons (pe_callB call_len_seq rfl B.len bt_len (pa_cons (pv 0) pa_nil)) pa_nil))))
      (pss_cons (ps_set (i := 2) sc_law_deck.nd rfl (by first | exact Or.inl rfl | exact Or.inr rfl) (pe_op op_mod (pe_op op_add (pe_op op_add (pe_op op_mul (pe_callB (call_sum rfl) rfl B.sum bt_sum (pa_cons (pe_slice sl_list (pv 0) po_none (po_some pe_int)) pa_nil)) pe_int) (pe_op op_mul pe_int (pe_callB call_len_seq rfl B.len bt_len (pa_cons (pv 0) pa_nil)))) pe_int) pe_int))
      (pss_cons (ps_if (pt_cmpR op_eq (pe_op op_mod (pe_callB (call_sum rfl) rfl B.sum bt_sum (pa_cons (pe_slice sl_list (pv 0) po_none (po_some pe_int)) pa_nil)) pe_int) pe_int (nomark _)) (pss_one (ps_for PassesOwn.never rfl (pi_range1 rfl B.range (pa_cons (pe_callB call_len_seq rfl B.len bt_len (pa_cons (pv 1) pa_nil)) pa_nil)) (pg_name (i := 3) sc_law_deck.nd rfl (by first | exact Or.inl rfl | exact Or.inr rfl)) (pss_cons (ps_set (i := 4) sc_law_deck.nd rfl (by first | exact Or.inl rfl | exact Or.inr rfl) (pe_op op_mod (pe_op op_mul (pe_op op_add (pe_op op_add (pe_op op_mod (pe_ix ix_list (pv 1) (pv 3) (fun _ _ => rfl)) pe_int) (pe_op op_mul pe_int (pv 3))) pe_int) pe_int) pe_int))
      (pss_cons (ps_set (i := 4) sc_law_deck.nd rfl (by first | exact Or.inl rfl | exact Or.inr rfl) (pe_op op_mod (pe_op op_mul (pe_op op_mod (pe_op op_add (pe_op op_mul (pv 4) (pv 4)) (pe_op op_mul pe_int (pv 3))) pe_int) pe_int) pe_int))
      (pss_one (ps_asg (pe_op op_add (pe_op op_mul (pe_op op_mul (pv 4) (pv 4)) pe_int) (pe_op op_mod (pe_op op_mul (pv 4) pe_int) pe_int)) (pg_sub (pv 1) (pv 3) set_list))))))) pss_nil)
      (pss_one (ps_ret (pe_lst (pa_cons (pv 1) (pa_cons pe_int (pa_cons (pv 2) pa_nil))))))))), ?_⟩
  -- cells
  refine ⟨_, rfl, 63, rfl, a, _, rfl, hS, fun p1 hp1 => ?_⟩
  have s1 : Same H (upd H p1 (.lst (cutV (ns.map V.int) none (some (63 : Int))))) := Same.new hp1
  refine ⟨_, rfl, a, _, rfl, .inl (s1.seq hS), (by show 1 ≤ sizeLine; decide), fun p2 hp2 => ?_⟩
  have h1 : (upd H p1 (.lst (cutV (ns.map V.int) none (some (63 : Int))))) p1 = some (.lst (cutV (ns.map V.int) none (some (63 : Int)))) := upd_same
  refine ⟨p1, p2, _, _, rfl, rfl, (by rw [upd_ne (ne_of_none h1 hp2)]; exact h1), upd_same, (by rw [cut, hlm]; exact Nat.le_of_lt (small1000 (by show ns.length + 1 ≤ 1000; omega))), fun p3 hp3 => ?_⟩
  rw [cut] at hp2 hp3 ⊢
  generalize eH : upd (upd (upd H p1 (.lst (ns.map V.int))) p2 (.lst [.int (((ns.map V.int).length : Nat) : Int)])) p3 (.lst (ns.map V.int ++ [.int (((ns.map V.int).length : Nat) : Int)])) = H3
  have s3 : Same H H3 := by
    rw [← eH]
    exact (Same.new hp1).trans ((Same.new hp2).trans (Same.new hp3))
  have np3 : H p3 = none := ((Same.new hp1).trans (Same.new hp2)).free hp3
  have h3 : H3 p3 = some (.lst ((ns ++ [(((ns.map V.int).length : Nat) : Int)]).map V.int)) := by
    rw [← eH, upd_same, List.map_append]
    rfl
  -- seed
  refine ⟨_, rfl, 63, rfl, a, _, rfl, s3.seq hS, fun p4 hp4 => ⟨p4, ns, rfl, (by rw [cut]; exact SqL.of upd_same), _, _, rfl, rfl, .inr ⟨by decide, by decide⟩, _, rfl, a, _, rfl, .inl ((s3.trans (Same.new hp4)).seq hS), _, _, rfl, rfl, .inl ⟨by decide, by decide⟩, _, _, rfl, rfl, _, _, rfl, rfl, _, _, rfl, rfl, (by show (0 : Int) < _; decide), ?_⟩⟩
  have s4 := s3.trans (Same.new (o := .lst (cutV (ns.map V.int) none (some (63 : Int)))) hp4)
  have h4 := Same.new (o := .lst (cutV (ns.map V.int) none (some (63 : Int)))) hp4 _ _ h3
  refine ⟨_, rfl, 63, rfl, a, _, rfl, s4.seq hS, fun p5 hp5 => ⟨p5, ns, rfl, (by rw [cut]; exact SqL.of upd_same), _, _, rfl, rfl, (by show (0 : Int) < _; decide), rfl, _, rfl, ?_⟩⟩
  have s5 := s4.trans (Same.new (o := .lst (cutV (ns.map V.int) none (some (63 : Int)))) hp5)
  have h5 := Same.new (o := .lst (cutV (ns.map V.int) none (some (63 : Int)))) hp5 _ _ h4
  have lc : ((ns ++ [(((ns.map V.int).length : Nat) : Int)]).map V.int).length = ns.length + 1 := by simp
  refine ite2 (fun _ => ?_) (fun _ => ?_)
  · refine ⟨_, rfl, p3, _, rfl, .inl (SqL.of h5), _, rfl, (by rw [lc]; omega), (by rw [lc]; omega), for_range (n := _)
      (fun i σ H' => ∃ (cells : List Int) (sd : Int) (v m : Option V), σ = [some (.ref a), some (.ref p3), some (.int sd), v, m] ∧ Same H H' ∧ H' p3 = some (.lst (cells.map V.int)) ∧ cells.length = ns.length + 1)
      ⟨_, _, none, none, rfl, s5, h5, by simp⟩ ?_ ?_⟩
    · rintro i σ H' hi ⟨cells, sd, v, m, rfl, s6, h6, l6⟩
      rw [lc] at hi
      have lm : (cells.map V.int).length = cells.length := List.length_map _
      have i1 : (0 : Int) + (i : Int) < (((cells.map V.int).length : Nat) : Int) := by omega
      obtain ⟨x, hx, hm⟩ := atI_mem (xs := cells.map V.int) (r := 0 + (i : Int)) (by omega) i1
      obtain ⟨cell, _, rfl⟩ := List.mem_map.mp hm
      refine ⟨_, rfl, _, rfl, p3, _, _, _, rfl, rfl, SqL.of h6, hx, _, _, rfl, rfl, (by show (0 : Int) < _; decide), _, rfl, _, _, rfl, rfl, .inl ⟨by decide, by decide⟩, _, _, rfl, rfl, _, _, rfl, rfl, _, _, rfl, rfl, .inr ⟨by decide, by decide⟩, _, _, rfl, rfl, (by show (0 : Int) < _; decide), ?_⟩
      refine ⟨_, rfl, _, rfl, _, _, rfl, rfl, .inl ⟨by omega, by omega⟩, _, rfl, _, _, rfl, rfl, .inl ⟨by decide, by decide⟩, _, _, rfl, rfl, _, _, rfl, rfl, (by show (0 : Int) < _; decide), _, _, rfl, rfl, .inr ⟨by decide, by decide⟩, _, _, rfl, rfl, (by show (0 : Int) < _; decide), ?_⟩
      refine ⟨_, rfl, _, rfl, _, _, rfl, rfl, .inl ⟨by omega, by omega⟩, _, _, rfl, rfl, .inr ⟨by decide, by decide⟩, _, rfl, _, _, rfl, rfl, .inr ⟨by decide, by decide⟩, _, _, rfl, rfl, (by show (0 : Int) < _; decide), _, _, rfl, rfl, _, rfl, _, rfl, p3, _, _, _, rfl, rfl, h6, ixN_of (by omega) i1, ?_⟩
      refine ⟨_, sd, _, _, rfl, fun b o e => ?_, upd_same.trans (congrArg (fun l => some (HO.lst l)) set_int), by rw [List.length_set]; exact l6⟩
      rw [upd_ne (ne_of_none e np3)]
      exact s6 b o e
    · rintro σ H' ⟨cells, sd, v, m, rfl, s6, h6, l6⟩
      refine ⟨_, rfl, _, rfl, (by show 3 ≤ sizeLine; decide), fun d hd => ?_⟩
      exact q d p3 _ (s6.trans (Same.new hd)) (s6.free hd) np3 ⟨cells, 0, sd, upd_same, (by rw [upd_ne (ne_of_none h6 hd)]; exact h6), by omega⟩
  · refine ⟨_, rfl, _, rfl, (by show 3 ≤ sizeLine; decide), fun d hd => ?_⟩
    exact q d p3 _ (s5.trans (Same.new hd)) (s5.free hd) np3 ⟨_, 0, _, upd_same, (by rw [upd_ne (ne_of_none h5 hd)]; exact h5), by simp⟩
abbrev s_law_any_way : Stmt := top 23
theorem sc_law_any_way : FnScope ["deck", "many", "first", "word"] ["deck", "many"] (defScope s_law_any_way) := ⟨rfl, rfl, rfl, by decide +kernel, rfl, by decide +kernel, by decide +kernel⟩
theorem okw_of {r : Int} (h0 : 0 ≤ r) (h1 : r < 4) : ∃ wd : Str, atI [V.str "plus", V.str "less", V.str "times", V.str "share"] r = some (.str wd) ∧ okWord wd := by
  obtain ⟨v, hv, hm⟩ := atI_mem (xs := [V.str "plus", V.str "less", V.str "times", V.str "share"]) h0 (by exact h1)
  simp only [List.mem_cons, List.not_mem_nil, or_false] at hm
  rcases hm with rfl | rfl | rfl | rfl
  · exact ⟨_, hv, .inl rfl⟩
  · exact ⟨_, hv, .inr (.inl rfl)⟩
  · exact ⟨_, hv, .inr (.inr (.inl rfl))⟩
  · exact ⟨_, hv, .inr (.inr (.inr rfl))⟩
theorem ok_law_any_step {n : Nat} {f : Addr} {fd : FuncData} (F : Fun K "_law_any_way" "_law_any_way" s_law_any_way f fd) (B : Blt mg) (Gtake : Def P w K mg base CX0 1 "_law_take" spTake) (Gnumber : Def P w K mg base CX0 2 "_law_number" (spDraw 1000000))
    (Gany : Def P w K mg base CX0 (n + 3) "_law_any_way" (spAny n)) : FnOk P w K mg base CX0 (n + 4) f fd ["deck", "many"] (spAny (n + 1)) := by
  refine F.ok sc_law_any_way (fun vs H Q E h => ?_) (fun cdv A outer s H vs Q E hr h => ?_)
  · obtain ⟨d, c, many, rfl, _⟩ := h
    rfl
  obtain ⟨d, c, many, rfl, D, m1, m8, mn, q⟩ := h
  refine ⟨_, (pss_cons (ps_if (pt_cmpR op_eq (pv 1) pe_int (nomark _)) (pss_one (ps_ret (pe_def Gnumber (hr.mono (by omega)) (pa_cons (pv 0) pa_nil)))) pss_nil)
      (pss_cons (ps_set (i := 2) sc_law_any_way.nd rfl (by first | exact Or.inl rfl | exact Or.inr rfl) (pe_op op_add pe_int (pe_def Gtake (hr.mono (by omega)) (pa_cons (pv 0) (pa_cons (pe_op op_sub (pv 1) pe_int) pa_nil)))))
      (pss_cons (ps_set (i := 3) sc_law_any_way.nd rfl (by first | exact Or.inl rfl | exact Or.inr rfl) (pe_ix ix_list (pe_lst (pa_cons pe_str (pa_cons pe_str (pa_cons pe_str (pa_cons pe_str pa_nil))))) (pe_def Gtake (hr.mono (by omega)) (pa_cons (pv 0) (pa_cons pe_int pa_nil))) (fun _ _ => rfl)))
      (pss_one (ps_ret (pe_tup (pa_cons (pv 3) (pa_cons (pe_def Gany (hr.mono (by omega)) (pa_cons (pv 0) (pa_cons (pv 2) pa_nil))) (pa_cons (pe_def Gany (hr.mono (by omega)) (pa_cons (pv 0) (pa_cons (pe_op op_sub (pv 1) (pv 2)) pa_nil))) pa_nil))))))))), ?_⟩
  refine ⟨_, rfl, rfl, _, rfl, ?_⟩
  refine ite2 (fun e => ?_) (fun e => ?_)
  · have e1 : many = 1 := V.int.inj (of_decide_eq_true e)
    refine ⟨_, rfl, d, c, rfl, D, fun r H1 r1 r2 k1 D1 => ?_⟩
    exact q (.int r) (.num r) H1 (.num r) ⟨r1, r2⟩ e1.symm k1 D1
  have e1 : many ≠ 1 := fun z => e (decide_eq_true (congrArg V.int z))
  refine ⟨_, rfl, _, rfl, _, _, rfl, rfl, d, c, _, rfl, D, by omega, by omega, fun r H1 r1 r2 k1 D1 => ⟨_, _, rfl, rfl, ?_⟩⟩
  refine ⟨(by show 4 ≤ sizeLine; decide), fun p hp => ⟨_, rfl, d, c, 4, rfl, D1.new hp, by decide, by decide, fun r4 H4 a4 b4 k4 D4 => ?_⟩⟩
  obtain ⟨wd, hwd, hw⟩ := okw_of a4 b4
  refine ⟨p, _, _, _, rfl, rfl, SqL.of (k4 _ _ upd_same (D1.nin hp)), hwd, ?_⟩
  refine ⟨_, rfl, _, rfl, _, rfl, d, c, _, rfl, D4, by omega, by omega, by omega, fun v1 x1 H5 w1 o1 z1 k5 D5 => ?_⟩
  refine ⟨_, rfl, _, rfl, _, rfl, _, _, rfl, rfl, d, c, _, rfl, D5, by omega, by omega, by omega, fun v2 x2 H6 w2 o2 z2 k6 D6 => ⟨(by show 3 ≤ sizeLine; decide), fun t ht => ?_⟩⟩
  have kk : Keep [d, c] H H6 := k1.trans ((Keep.new hp).trans (k4.trans (k5.trans k6)))
  exact q (.ref t) (.op wd x1 x2) _ (.op upd_same ((w1.kt (D5.kt k6)).kt (KT.new ht)) (w2.kt (KT.new ht))) ⟨hw, o1, o2⟩ (by show ((x1.size + x2.size : Nat) : Int) = many; omega) (kk.trans (Keep.new ht)) (D6.new ht)
theorem ok_law_any {f : Addr} {fd : FuncData} (F : Fun K "_law_any_way" "_law_any_way" s_law_any_way f fd) (b : Binds K fd ["deck", "many"] []) (m : mg "_law_any_way" = some (.ref f)) (B : Blt mg) (Gtake : Def P w K mg base CX0 1 "_law_take" spTake) (Gnumber : Def P w K mg base CX0 2 "_law_number" (spDraw 1000000)) :
    ∀ n, FnOk P w K mg base CX0 (n + 3) f fd ["deck", "many"] (spAny n)
  | 0 => by
    have no : ∀ vs H Q E, ¬ spAny 0 vs H Q E := fun vs H Q E h => by
      obtain ⟨d, c, many, _, _, h1, _, h2, _⟩ := h
      omega
    exact ⟨fun vs H Q E h => absurd h (no vs H Q E), fun A outer s H args us vs Q E _ _ _ _ h => absurd h (no vs H Q E)⟩
  | n + 1 => ok_law_any_step F B Gtake Gnumber (mkDef (ok_law_any F b m B Gtake Gnumber n) b m F.kp)
theorem not_figs : ∀ {l : List Nat} {c : Nat}, c ∈ l → isF c = false → (l.takeWhile isF).length ≠ l.length
  | a :: l, c, h, hc => by
    rw [List.takeWhile_cons]
    cases ha : isF a with
    | false => intro e; cases e
    | true =>
      rcases List.mem_cons.mp h with rfl | h
      · rw [hc] at ha; cases ha
      · intro e
        have : (l.takeWhile isF).length + 1 = l.length + 1 := e
        exact not_figs h hc (by omega)
theorem all_figs : ∀ {l : List Nat}, (∀ c ∈ l, isF c = true) → l.takeWhile isF = l := by
  intro l h
  have := take_fig (d := l) (r := []) h (fun c r e => by cases e)
  rwa [List.append_nil] at this
theorem ok_read_way {f : Addr} {fd : FuncData} (F : Fun K "read_way" "read_way" s_read_way f fd) (B : Blt mg) (Gisf : Def P w K mg base CX0 2 "is_figures" spIsFig) (Gnum : Def P w K mg base CX0 1 "number_of" spNumberOf)
    (Gpieces : Def P w K mg base CX0 3 "pieces_of" spPieces) (Gclosed : Def P w K mg base CX0 2 "way_closed" spClosed) : FnOk P w K mg base CX0 4 f fd ["text"] spRead := by
  refine F.ok sc_read_way (fun vs H Q E h => ?_) (fun cdv A outer s H vs Q E hr h => ?_)
  · obtain ⟨x, m, rfl, _⟩ := h
    rfl
  obtain ⟨x, m, rfl, ho, hm, hz, q⟩ := h
  have tl := txt_len hm ho
  have ltx : (mkS (txt x)).length ≤ 10000 := by rw [len_mkS]; omega
  refine ⟨_, (pss_cons (ps_if (pt_val (pe_def Gisf (hr.mono (by omega)) (pa_cons (pv 0) pa_nil))) (pss_one (ps_ret (pe_def Gnum (hr.mono (by omega)) (pa_cons (pv 0) pa_nil)))) pss_nil)
      (pss_cons (ps_set (i := 1) sc_read_way.nd rfl (by first | exact Or.inl rfl | exact Or.inr rfl) (pe_lst pa_nil))
      (pss_cons (ps_for PassesOwn.never rfl (pi_list (pe_def Gpieces (hr.mono (by omega)) (pa_cons (pe_op op_add_str (pe_op op_add_str pe_str (pv 0)) pe_str) pa_nil))) (pg_name (i := 2) sc_read_way.nd rfl (by first | exact Or.inl rfl | exact Or.inr rfl)) (pss_one (ps_if (pt_cmpR op_eq (pv 2) pe_str (nomark _)) (pss_one (ps_asg (pe_lst (pa_cons (pe_def Gclosed (hr.mono (by omega)) (pa_cons (pv 1) pa_nil)) pa_nil)) (pg_subA (pv 1) (pe_sliceO (po_some (pe_un un_neg pe_int)) po_none) set_sl))) (pss_one (ps_expr (pe_bm PySem.F.plainAttrs_list PySem.F.slot_list_append PySem.F.type_list_append mt_append (pv 1) (pa_cons (pv 2) pa_nil)))))))
      (pss_cons (ps_if (pt_cmpR op_ne (pe_callB call_len_seq rfl B.len bt_len (pa_cons (pv 1) pa_nil)) pe_int (nomark _)) (pss_one ps_never) pss_nil)
      (pss_one (ps_ret (pe_ix ix_list (pv 1) pe_int (fun _ _ => rfl)))))))), ?_⟩
  refine ⟨_, rfl, _, rfl, ltx, fun b hb => ⟨_, rfl, ?_⟩⟩
  rw [cs_mkS] at hb
  cases x with
  | num n =>
    obtain ⟨h1, h2⟩ := ho
    obtain ⟨ha, hc, hl, hv⟩ := dig_facts h1 (show n < topN by omega)
    have nn : txt (.num n) ≠ [] := fun e => by
      obtain ⟨c, r, e2, _⟩ := hc
      rw [show txt (.num n) = dig n from rfl, e2] at e
      exact absurd e (by simp)
    have eb : b = true := hb.mpr ⟨nn, congrArg List.length (all_figs (l := txt (.num n)) fun c hc => (isF_iff c).mpr (ha c hc))⟩
    subst eb
    refine iteT ?_
    refine ⟨_, rfl, _, rfl, by rw [cs_mkS]; exact ha, by rw [cs_mkS]; exact hc, by rw [len_mkS]; show (dig n).length < 64; omega, fun H' s' => ?_⟩
    rw [cs_mkS, show txt (.num n) = dig n from rfl, hv]
    exact q _ _ s' (.num n)
  | op wd a1 b1 =>
    have eb : b = false := by
      rw [Bool.eq_false_iff]
      intro e
      exact not_figs (l := txt (.op wd a1 b1)) (c := 32) (by simp [txt, sgn]) (by decide +kernel) (hb.mp e).2
    subst eb
    refine iteF ?_
    refine ⟨(by show 0 ≤ sizeLine; decide), fun hd hhd => ?_⟩
    have sz : sizeLine = 16777216 := sizeLine_eq
    refine ⟨_, rfl, _, _, rfl, rfl, (by show 1 + (mkS (txt (.op wd a1 b1))).length ≤ sizeLine; omega), _, _, rfl, rfl, (by rw [cs_len_app]; show 1 + (mkS (txt (.op wd a1 b1))).length + 1 ≤ sizeLine; omega), ?_⟩
    have ecs : cs ((("(" : Str) ++ mkS (txt (.op wd a1 b1))) ++ (")" : Str)) = par (.op wd a1 b1) := by
      rw [cs_app, cs_app, cs_mkS, par_txt]; rfl
    have lx : Lex (par (.op wd a1 b1)) (toks (.op wd a1 b1)) := by
      have := lex_par hm ho (r := []) (ts := []) (fun c r e => by cases e) .nil
      rwa [List.append_nil, List.append_nil] at this
    have tkl := toks_len (.op wd a1 b1)
    refine ⟨_, _, rfl, (by rw [cs_len_app, cs_len_app]; show 1 + (mkS (txt (.op wd a1 b1))).length + 1 ≤ 10000; rw [len_mkS]; omega), by rw [ecs]; exact lx, fun r H1 s1 hr1 => ?_⟩
    have h0 : H1 hd = some (.lst []) := s1 _ _ upd_same
    have nhr : hd ≠ r := fun e => by subst e; rw [h0] at hr1; injection hr1 with hr1; injection hr1 with hr1; cases hr1
    generalize hx : Way.op wd a1 b1 = x at *
    refine ⟨r, rfl, ⟨_, SqL.of hr1⟩, for_list (K := K) (a := r) (xs := toks x) (fun i σ H' => ∃ (vl : List V) (il : List Item) (o : Option V), σ = [some (.str (mkS (txt x))), some (.ref hd), o] ∧ Same H H' ∧ H' r = some (.lst (toks x)) ∧ H' hd = some (.lst vl.reverse) ∧ Paired (ItemIn H') vl il ∧ parse ((toks x).drop i) il = some [.wy x] ∧ vl.length ≤ i)
      ⟨[], [], none, rfl, (Same.new hhd).trans s1, hr1, h0, .nil, by have := parse_toks ho [] []; rw [List.append_nil] at this; exact this, Nat.le_refl _⟩ (fun i σ H' _ ⟨_, _, _, _, _, g, _⟩ => SqL.of g) ?_ ?_⟩
    · rintro i y σ H' hi ⟨vl, il, o, rfl, sH, hR, hP, pr, hrun, hlen⟩
      have hil : i < (toks x).length := (List.getElem?_eq_some_iff.mp hi).1
      have ed : (toks x).drop i = y :: (toks x).drop (i + 1) := by
        rw [List.drop_eq_getElem_cons hil, (List.getElem?_eq_some_iff.mp hi).2]
      rw [ed] at hrun
      have big : ∀ k : Nat, k ≤ 1000 → k < sizeLine := fun k => small1000
      rcases parse_some hrun with ⟨n, rfl, hrun⟩ | ⟨rfl, hrun⟩ | ⟨w2, a2, b2, il2, rfl, rfl, hrun⟩ | ⟨w2, rfl, n1, n2, hw2, hrun⟩
      · refine ⟨_, rfl, rfl, _, rfl, ?_⟩
        rw [decide_eq_false (fun e => by cases e)]
        refine iteF ?_
        refine ⟨_, rfl, .inl ⟨rfl, _, SqL.of hP⟩, _, rfl, hd, _, _, rfl, rfl, hP, big _ (by rw [List.length_reverse]; omega), ?_⟩
        refine ⟨.int n :: vl, (.wy (.num n)) :: il, _, rfl, ?_, ?_, ?_, ?_, hrun, Nat.succ_le_succ hlen⟩
        · exact fun b o e => by rw [upd_ne (ne_of_none e hhd)]; exact sH b o e
        · rw [upd_ne nhr.symm]; exact hR
        · rw [upd_same, List.reverse_cons]
        · exact Paired.mapP (Paired.cons (.wy (.num n)) pr) fun _ _ h => h.kt (KT.upd hP)
      · refine ⟨_, rfl, rfl, _, rfl, ?_⟩
        rw [decide_eq_false (fun e => absurd (V.str.inj e) (by decide))]
        refine iteF ?_
        refine ⟨_, rfl, .inl ⟨rfl, _, SqL.of hP⟩, _, rfl, hd, _, _, rfl, rfl, hP, big _ (by rw [List.length_reverse]; omega), ?_⟩
        refine ⟨.str "(" :: vl, .br :: il, _, rfl, ?_, ?_, ?_, ?_, hrun, Nat.succ_le_succ hlen⟩
        · exact fun b o e => by rw [upd_ne (ne_of_none e hhd)]; exact sH b o e
        · rw [upd_ne nhr.symm]; exact hR
        · rw [upd_same, List.reverse_cons]
        · exact Paired.mapP (Paired.cons (.br) pr) fun _ _ h => h.kt (KT.upd hP)
      · cases pr with
        | @cons v1 _ vl1 _ i1 pr =>
          cases pr with
          | @cons v2 _ vl2 _ i2 pr =>
            cases pr with
            | @cons v3 _ vl3 _ i3 pr =>
              cases pr with
              | @cons v4 _ vl4 _ i4 pr =>
                cases i1 with
                | wy w1 =>
                cases i2 with
                | wd hw2 =>
                cases i3 with
                | wy w3 =>
                cases i4 with
                | br =>
                have erev : (v1 :: V.str w2 :: v3 :: V.str "(" :: vl4).reverse = vl4.reverse ++ [.str "(", v3, .str w2, v1] := by simp
                rw [erev] at hP
                have ln4 : vl4.length + 4 ≤ i := hlen
                refine ⟨_, rfl, rfl, _, rfl, iteT ?_⟩
                refine ⟨_, rfl, hd, _, _, _, _, _, _, rfl, hP, hw2, w3, w1, fun t H2 s2 ht => ?_⟩
                refine ⟨(by show 1 ≤ sizeLine; decide), fun lq hlq => ?_⟩
                refine ⟨_, rfl, _, rfl, _, rfl, fun sl hsl => ?_⟩
                have hP3 : (upd (upd H2 lq (.lst [.ref t])) sl (slO (some (-4)) none sl)) hd = some (.lst (vl4.reverse ++ [.str "(", v3, .str w2, v1])) := Same.new hsl _ _ (Same.new hlq _ _ (s2 _ _ hP))
                have hQ3 : (upd (upd H2 lq (.lst [.ref t])) sl (slO (some (-4)) none sl)) lq = some (.lst [.ref t]) := Same.new hsl _ _ upd_same
                have nhq : hd ≠ lq := fun e => by subst e; rw [s2 _ _ hP] at hlq; cases hlq
                have nle : (vl4.reverse ++ [V.str "(", v3, V.str w2, v1]).length = vl4.length + 4 := by simp
                refine ⟨hd, lq, sl, _, _, some (-4), none, rfl, rfl, rfl, hP3, hQ3, nhq, upd_same, ?_, ?_, ?_⟩
                · rw [nle, last4 _ (by omega), HT.sIx_none]; omega
                · rw [nle]; show vl4.length + 4 + 1 ≤ sizeLine; omega
                · rw [nle, last4 _ (by omega), HT.sIx_none, ← nle, List.drop_length, nle]
                  rw [show vl4.length + 4 - 4 = vl4.reverse.length by rw [List.length_reverse]; omega, List.take_left, List.append_nil]
                  have kt : KT H' (upd (upd (upd H2 lq (.lst [.ref t])) sl (slO (some (-4)) none sl)) hd (.lst (vl4.reverse ++ [.ref t]))) := (KT.same (s2.trans ((Same.new hlq).trans (Same.new hsl)))).trans (KT.upd hP3)
                  have hT : (upd (upd (upd H2 lq (.lst [.ref t])) sl (slO (some (-4)) none sl)) hd (.lst (vl4.reverse ++ [.ref t]))) t = some (.tup [.str w2, v3, v1]) := by
                    have := KT.upd (o := .lst (vl4.reverse ++ [.ref t])) hP3
                    exact this _ _ (Same.new hsl _ _ (Same.new hlq _ _ ht))
                  refine ⟨.ref t :: vl4, .wy (.op w2 a2 b2) :: il2, _, rfl, ?_, ?_, ?_, ?_, hrun, by show vl4.length + 1 ≤ i + 1; omega⟩
                  · exact fun b o e => by rw [upd_ne (ne_of_none e hhd)]; exact Same.new hsl _ _ (Same.new hlq _ _ (s2 _ _ (sH b o e)))
                  · rw [upd_ne nhr.symm]; exact Same.new hsl _ _ (Same.new hlq _ _ (s2 _ _ hR))
                  · rw [upd_same, List.reverse_cons]
                  · exact .cons (.wy (.op hT (w3.kt kt) (w1.kt kt))) (Paired.mapP pr fun _ _ h => h.kt kt)
      · refine ⟨_, rfl, rfl, _, rfl, ?_⟩
        rw [decide_eq_false (fun e => n2 (V.str.inj e))]
        refine iteF ?_
        refine ⟨_, rfl, .inl ⟨rfl, _, SqL.of hP⟩, _, rfl, hd, _, _, rfl, rfl, hP, big _ (by rw [List.length_reverse]; omega), ?_⟩
        refine ⟨.str w2 :: vl, (.wd w2) :: il, _, rfl, ?_, ?_, ?_, ?_, hrun, Nat.succ_le_succ hlen⟩
        · exact fun b o e => by rw [upd_ne (ne_of_none e hhd)]; exact sH b o e
        · rw [upd_ne nhr.symm]; exact hR
        · rw [upd_same, List.reverse_cons]
        · exact Paired.mapP (Paired.cons (.wd hw2) pr) fun _ _ h => h.kt (KT.upd hP)
    · rintro σ H' ⟨vl, il, o, rfl, sH, hR, hP, pr, hrun, hlen⟩
      rw [List.drop_length] at hrun
      have est : il = [.wy x] := by rw [parse] at hrun; exact Option.some.inj hrun
      subst est
      cases pr with
      | @cons v1 _ vl1 _ i1 pr =>
        cases pr
        cases i1 with
        | wy w1 =>
        refine ⟨_, rfl, hd, _, rfl, .inl (SqL.of hP), rfl, _, rfl, iteNS rfl ?_⟩
        refine ⟨_, rfl, hd, _, _, _, rfl, rfl, SqL.of hP, rfl, ?_⟩
        exact q _ _ sH w1
abbrev s_law_text : Stmt := top 26
theorem sc_law_text : FnScope ["way", "sign", "parts", "part", "text"] ["way"] (defScope s_law_text) := ⟨rfl, rfl, rfl, by decide +kernel, rfl, by decide +kernel, by decide +kernel⟩
theorem join_two (sep x y : Str) : Txt.join sep [x, y] = x ++ sep ++ y := (PySem.StrLaws.glued_eq_join sep [x, y]).trans rfl
theorem okw_ix {wd : Str} (h : okWord wd) : ∃ (j : Nat) (sg : Str), ([V.str "plus", V.str "less", V.str "times", V.str "share"][j]? = some (.str wd)) ∧ (∀ (m : Nat) (z : V), m < j → [V.str "plus", V.str "less", V.str "times", V.str "share"][m]? = some z → eqV z (.str wd) = false) ∧
    atI [V.str "+", V.str "-", V.str "*", V.str "/"] (j : Int) = some (.str sg) ∧ (" " : Str) ++ sg ++ (" " : Str) = mkS (sgn wd) ∧ sg.length = 1 := by
  rcases h with rfl | rfl | rfl | rfl
  · exact ⟨0, "+", rfl, fun m z hm => by omega, atI_nat rfl, mkS_eq (by decide +kernel), by decide +kernel⟩
  · refine ⟨1, "-", rfl, fun m z hm e => ?_, atI_nat rfl, mkS_eq (by decide +kernel), by decide +kernel⟩
    match m, hm, e with
    | 0, _, e => cases e; decide +kernel
  · refine ⟨2, "*", rfl, fun m z hm e => ?_, atI_nat rfl, mkS_eq (by decide +kernel), by decide +kernel⟩
    match m, hm, e with
    | 0, _, e => cases e; decide +kernel
    | 1, _, e => cases e; decide +kernel
  · refine ⟨3, "/", rfl, fun m z hm e => ?_, atI_nat rfl, mkS_eq (by decide +kernel), by decide +kernel⟩
    match m, hm, e with
    | 0, _, e => cases e; decide +kernel
    | 1, _, e => cases e; decide +kernel
    | 2, _, e => cases e; decide +kernel
theorem log_small {n : Int} (h0 : 1 ≤ n) (h1 : n < topN) : n.natAbs.log2 < 1920 := by
  refine log2_lt_of (by decide) ?_
  have hn : n < 10 ^ 63 := h1
  have : (10 : Int) ^ 63 < ((2 ^ 1920 : Nat) : Int) := by decide +kernel
  omega
theorem ok_text_step {n : Nat} {f : Addr} {fd : FuncData} (F : Fun K "_law_text" "_law_text" s_law_text f fd) (B : Blt mg) (Gtext : Def P w K mg base CX0 n "_law_text" (spText n)) : FnOk P w K mg base CX0 (n + 1) f fd ["way"] (spText (n + 1)) := by
  refine F.ok sc_law_text (fun vs H Q E h => ?_) (fun cdv A outer s H vs Q E hr h => ?_)
  · obtain ⟨v, x, m, rfl, _⟩ := h
    rfl
  obtain ⟨v, x, m, rfl, hx, ho, hm, hz, hh, q⟩ := h
  refine ⟨_, (pss_cons (ps_if (pt_val (pe_isin B.isinstance B.int bt_int (pv 0))) (pss_one (ps_ret (pe_callTy call_str_int rfl B.str bt_str (pa_cons (pv 0) pa_nil)))) pss_nil)
      (pss_cons (ps_set (i := 1) sc_law_text.nd rfl (by first | exact Or.inl rfl | exact Or.inr rfl) (pe_ix ix_list (pe_lst (pa_cons pe_str (pa_cons pe_str (pa_cons pe_str (pa_cons pe_str pa_nil))))) (pe_bm PySem.F.plainAttrs_list PySem.F.slot_list_index PySem.F.type_list_index mt_index (pe_lst (pa_cons pe_str (pa_cons pe_str (pa_cons pe_str (pa_cons pe_str pa_nil))))) (pa_cons (pe_ix ix_tup (pv 0) pe_int (fun _ _ => rfl)) pa_nil)) (fun _ _ => rfl)))
      (pss_cons (ps_set (i := 2) sc_law_text.nd rfl (by first | exact Or.inl rfl | exact Or.inr rfl) (pe_lst pa_nil))
      (pss_cons (ps_for PassesOwn.never rfl (pi_tup (pe_slice sl_tup (pv 0) (po_some pe_int) po_none)) (pg_name (i := 3) sc_law_text.nd rfl (by first | exact Or.inl rfl | exact Or.inr rfl)) (pss_cons (ps_set (i := 4) sc_law_text.nd rfl (by first | exact Or.inl rfl | exact Or.inr rfl) (pe_def Gtext (hr.mono (by omega)) (pa_cons (pv 3) pa_nil)))
      (pss_one (ps_expr (pe_bm PySem.F.plainAttrs_list PySem.F.slot_list_append PySem.F.type_list_append mt_append (pv 2) (pa_cons (pe_ix ix_list (pe_lst (pa_cons (pv 4) (pa_cons (pe_op op_add_str (pe_op op_add_str pe_str (pv 4)) pe_str) pa_nil))) (pe_callTy call_int1 rfl B.int bt_int (pa_cons (pe_not (pe_isin B.isinstance B.int bt_int (pv 3))) pa_nil)) (fun _ _ => rfl)) pa_nil))))))
      (pss_one (ps_ret (pe_bm PySem.F.plainAttrs_str PySem.F.slot_str_join PySem.F.type_str_join mt_join (pe_op op_add_str (pe_op op_add_str pe_str (pv 1)) pe_str) (pa_cons (pv 2) pa_nil)))))))), ?_⟩
  cases hx with
  | num k =>
    have h0 : 1 ≤ k := ho.1
    have h1 : k < topN := by have := ho.2; omega
    refine ⟨_, rfl, _, _, TyOf.int _, kit_int_int _, _, rfl, iteT ?_⟩
    refine ⟨_, rfl, k, rfl, log_small h0 h1, ?_⟩
    exact q _ (Same.refl _)
  | @op p wd x1 y1 a1 b1 hp ha hb =>
    obtain ⟨hw, oa, ob⟩ := ho
    obtain ⟨j, sg, hj, hno, hat, hsg, lsg⟩ := okw_ix hw
    have e2 : (Way.op wd a1 b1).size = a1.size + b1.size := rfl
    have e3 : (Way.op wd a1 b1).ht = max a1.ht b1.ht + 1 := rfl
    refine ⟨_, rfl, _, _, TyOf.tup hp, kit_tup_int _, _, rfl, iteF ?_⟩
    refine ⟨(by show 4 ≤ sizeLine; decide), fun p1 hp1 => ⟨(by show 4 ≤ sizeLine; decide), fun p2 hp2 => ?_⟩⟩
    have s2 : Same H (upd (upd H p1 (.lst [.str "+", .str "-", .str "*", .str "/"])) p2 (.lst [.str "plus", .str "less", .str "times", .str "share"])) := (Same.new hp1).trans (Same.new hp2)
    refine ⟨.inl ⟨rfl, _, SqL.of upd_same⟩, _, rfl, p, _, _, _, rfl, rfl, SqT.of (s2 _ _ hp), rfl, ?_⟩
    refine ⟨p2, _, .str wd, j, rfl, rfl, SqL.of upd_same, rfl, rfl, ⟨_, hj, by simp [eqV]⟩, hno, ?_⟩
    refine ⟨p1, _, _, _, rfl, rfl, SqL.of (Same.new hp2 _ _ upd_same), hat, ?_⟩
    refine ⟨(by show 0 ≤ sizeLine; decide), fun pp hpp => ?_⟩
    refine ⟨_, rfl, _, rfl, p, _, rfl, SqT.of (Same.new hpp _ _ (s2 _ _ hp)), (fun h => absurd h.1 (show ¬ (1 = 0) by decide)), fun tp htp => ?_⟩
    rw [show cutV [V.str wd, x1, y1] (some 1) none = [x1, y1] from rfl]
    have hpp' := (Same.new (o := .tup [x1, y1]) htp) _ _ (upd_same (H := upd (upd H p1 (.lst [.str "+", .str "-", .str "*", .str "/"])) p2 (.lst [.str "plus", .str "less", .str "times", .str "share"])) (a := pp) (o := .lst []))
    have s3 := s2.trans ((Same.new (o := .lst []) hpp).trans (Same.new (o := .tup [x1, y1]) htp))
    have npp : H pp = none := s2.free hpp
    refine ⟨tp, rfl, ⟨_, SqT.of upd_same⟩, for_tup (K := K) (a := tp) (xs := [x1, y1]) (fun i σ H' => ∃ (o1 o2 : Option V), σ = [some (.ref p), some (.str sg), some (.ref pp), o1, o2] ∧ Same H H' ∧ H' tp = some (.tup [x1, y1]) ∧ H' pp = some (.lst (([mkS (par a1), mkS (par b1)].take i).map V.str)))
      ⟨none, none, rfl, s3, upd_same, hpp'⟩ (fun i σ H' _ ⟨_, _, _, _, g, _⟩ => SqT.of g) ?_ ?_⟩
    · rintro i y σ H' hi ⟨o1, o2, rfl, sH, hT, hP⟩
      have hz2 : ∃ z : Way, WayIn H y z ∧ z.ok m ∧ z.size ≤ 100 ∧ z.ht < n ∧ ([mkS (par a1), mkS (par b1)].take (i + 1)).map V.str = ([mkS (par a1), mkS (par b1)].take i).map V.str ++ [V.str (mkS (par z))] ∧ i < 2 := by
        match i, hi with
        | 0, hi => cases hi; exact ⟨a1, ha, oa, by omega, by omega, rfl, by decide⟩
        | 1, hi => cases hi; exact ⟨b1, hb, ob, by omega, by omega, rfl, by decide⟩
        | i + 2, hi => cases hi
      obtain ⟨z, hwz, hoz, hsz, hhz, htk, hi2⟩ := hz2
      refine ⟨_, rfl, y, z, m, rfl, hwz.kt (KT.same sH), hoz, hm, hsz, hhz, fun H2 s2 => ?_⟩
      have hP2 := s2 _ _ hP
      have ltx : (mkS (txt z)).length ≤ 10000 := by rw [len_mkS]; have := txt_len hm hoz; omega
      have szl : sizeLine = 16777216 := sizeLine_eq
      refine ⟨_, rfl, .inl ⟨rfl, _, SqL.of hP2⟩, _, rfl, _, rfl, _, _, rfl, rfl, (by show 1 + (mkS (txt z)).length ≤ sizeLine; omega), _, _, rfl, rfl, (by rw [cs_len_app]; show 1 + (mkS (txt z)).length + 1 ≤ sizeLine; omega), (by show 2 ≤ sizeLine; decide), fun pl hpl => ?_⟩
      have hP3 := Same.new (o := .lst [.str (mkS (txt z)), .str (("(" : Str) ++ mkS (txt z) ++ (")" : Str))]) hpl _ _ hP2
      have fin : ∀ u : V, u = V.str (mkS (par z)) → ∃ l xs y', V.ref pp = .ref l ∧ [u] = [y'] ∧ (upd H2 pl (.lst [.str (mkS (txt z)), .str (("(" : Str) ++ mkS (txt z) ++ (")" : Str))])) l = some (.lst xs) ∧ xs.length < sizeLine ∧ ∃ (o1 o2 : Option V), [some (V.ref p), some (.str sg), some (.ref pp), some y, some (.str (mkS (txt z)))] = [some (.ref p), some (.str sg), some (.ref pp), o1, o2] ∧ Same H (upd (upd H2 pl (.lst [.str (mkS (txt z)), .str (("(" : Str) ++ mkS (txt z) ++ (")" : Str))])) l (.lst (xs ++ [y']))) ∧ (upd (upd H2 pl (.lst [.str (mkS (txt z)), .str (("(" : Str) ++ mkS (txt z) ++ (")" : Str))])) l (.lst (xs ++ [y']))) tp = some (.tup [x1, y1]) ∧ (upd (upd H2 pl (.lst [.str (mkS (txt z)), .str (("(" : Str) ++ mkS (txt z) ++ (")" : Str))])) l (.lst (xs ++ [y']))) pp = some (.lst (([mkS (par a1), mkS (par b1)].take (i + 1)).map V.str)) := by
        rintro u rfl
        refine ⟨pp, _, _, rfl, rfl, hP3, small1000 (by simp; omega), _, _, rfl, ?_, ?_, ?_⟩
        · exact fun b o e => by rw [upd_ne (ne_of_none e npp)]; exact Same.new hpl _ _ (s2 _ _ (sH b o e))
        · exact KT.upd hP3 _ _ (Same.new hpl _ _ (s2 _ _ hT))
        · rw [upd_same, htk]
      cases hwz with
      | num k =>
        refine ⟨_, rfl, _, _, TyOf.int _, kit_int_int _, _, rfl, .inr ⟨_, rfl, ?_⟩⟩
        refine ⟨pl, _, _, _, rfl, rfl, SqL.of upd_same, rfl, ?_⟩
        exact fin _ rfl
      | @op p' wd' x' y' a' b' h' ha' hb' =>
        refine ⟨_, rfl, _, _, TyOf.tup (Same.new hpl _ _ (s2 _ _ (sH _ _ h'))), kit_tup_int _, _, rfl, .inr ⟨_, rfl, ?_⟩⟩
        refine ⟨pl, _, _, _, rfl, rfl, SqL.of upd_same, rfl, ?_⟩
        refine fin _ (congrArg V.str (mkS_eq ?_))
        rw [cs_app, cs_app, cs_mkS, par_txt]; rfl
    · rintro σ H' ⟨o1, o2, rfl, sH, hT, hP⟩
      have szl : sizeLine = 16777216 := sizeLine_eq
      refine ⟨_, rfl, _, _, rfl, rfl, (by show 1 + sg.length ≤ sizeLine; omega), _, _, rfl, rfl, (by rw [cs_len_app]; show 1 + sg.length + 1 ≤ sizeLine; omega), rfl, ?_⟩
      have l1 := par_len hm oa
      have l2 := par_len hm ob
      refine ⟨_, rfl, _, pp, _, rfl, rfl, SqL.of hP, ?_, ?_⟩
      · show (mkS (par a1)).length + ((mkS (par b1)).length + 0) + 2 * ((" " : Str) ++ sg ++ (" " : Str)).length ≤ _
        rw [hsg, len_mkS, len_mkS, len_mkS]
        show (par a1).length + ((par b1).length + 0) + 2 * 3 ≤ _
        omega
      · show Q (.str (Txt.join ((" " : Str) ++ sg ++ (" " : Str)) [mkS (par a1), mkS (par b1)])) H'
        rw [hsg, join_two, mkS_eq (x := mkS (par a1) ++ mkS (sgn wd) ++ mkS (par b1)) (l := txt (.op wd a1 b1)) (by rw [cs_app, cs_app, cs_mkS, cs_mkS, cs_mkS]; simp [txt])]
        exact q _ sH
theorem ok_text {f : Addr} {fd : FuncData} (F : Fun K "_law_text" "_law_text" s_law_text f fd) (b : Binds K fd ["way"] []) (m : mg "_law_text" = some (.ref f)) (B : Blt mg) : ∀ n, FnOk P w K mg base CX0 n f fd ["way"] (spText n)
  | 0 => by
    have no : ∀ vs H Q E, ¬ spText 0 vs H Q E := fun vs H Q E h => by
      obtain ⟨v, x, m, _, _, _, _, _, h2, _⟩ := h
      omega
    exact ⟨fun vs H Q E h => absurd h (no vs H Q E), fun A outer s H args us vs Q E _ _ _ _ h => absurd h (no vs H Q E)⟩
  | n + 1 => ok_text_step F B (mkDef (ok_text F b m B n) b m F.kp)
abbrev s_law_same : Stmt := top 27
theorem sc_law_same : FnScope ["found", "due"] ["found", "due"] (defScope s_law_same) := ⟨rfl, rfl, rfl, by decide +kernel, rfl, by decide +kernel, by decide +kernel⟩
theorem ok_same_step {n : Nat} {f : Addr} {fd : FuncData} (F : Fun K "_law_same" "_law_same" s_law_same f fd) (B : Blt mg) (Gsame : Def P w K mg base CX0 n "_law_same" (spSame n)) : FnOk P w K mg base CX0 (n + 1) f fd ["found", "due"] (spSame (n + 1)) := by
  refine F.ok sc_law_same (fun vs H Q E h => ?_) (fun cdv A outer s H vs Q E hr h => ?_)
  · obtain ⟨v, u, d, rfl, _⟩ := h
    rfl
  obtain ⟨v, u, d, rfl, dv, du, hpu, hdp, q⟩ := h
  refine ⟨_, (pss_cons (ps_if (pt_val (pe_isin B.isinstance B.tuple bt_tuple (pv 1))) (pss_cons (ps_if (PW.pt (pw_or (pt_not (pt_val (pe_isin B.isinstance B.tuple bt_tuple (pv 0)))) (pw_or1 (pt_cmpR op_ne (pe_callB call_len_seq rfl B.len bt_len (pa_cons (pv 0) pa_nil)) (pe_callB call_len_seq rfl B.len bt_len (pa_cons (pv 1) pa_nil)) (nomark _))))) (pss_one (ps_ret pe_bl)) pss_nil)
      (pss_one (ps_ret (pe_cmpR (op_eqNil (hu60 hr)) (pe_compC (N := ["one", "other"]) rfl (csC_of [none, none] rfl (by decide +kernel) (by decide +kernel) rfl rfl) rfl (pi_zip B.zip (pa_cons (pv 0) (pa_cons (pv 1) pa_nil))) (fun _ _ _ _ => (pg_tup rfl (pgs_cons (pg_name (i := 0) (show (["one", "other"] : List Str).Nodup by decide +kernel) rfl (by first | exact Or.inl rfl | exact Or.inr rfl)) (pgs_cons (pg_name (i := 1) (show (["one", "other"] : List Str).Nodup by decide +kernel) rfl (by first | exact Or.inl rfl | exact Or.inr rfl)) pgs_nil)))) (fun _ _ _ _ => (ptl_one (pt_not (pt_val (pe_def Gsame (hr.mono (by omega)) (pa_cons (pv 0) (pa_cons (pv 1) pa_nil))))))) (fun _ _ _ _ => pe_int)) (pe_lst pa_nil) (nomark _))))) pss_nil)
      (pss_cons (ps_if (pt_val (pe_isin B.isinstance B.str bt_str (pv 1))) (pss_one (ps_ret (pe_and (pe_isin B.isinstance B.str bt_str (pv 0)) (pe_one (pe_cmpR op_eq (pv 0) (pv 1) (nomark _)))))) pss_nil)
      (pss_one (ps_ret (pe_and (pe_isin B.isinstance B.int bt_int (pv 0)) (pe_and (pe_not (pe_isin B.isinstance B.bool bt_bool (pv 0))) (pe_one (pe_cmpR op_eq (pv 0) (pv 1) (nomark _))))))))), ?_⟩
  cases d with
  | int i =>
    unfold Dat at dv du
    subst dv du
    refine ⟨_, rfl, _, _, TyOf.int _, kit_int_tuple _, _, rfl, iteF ?_⟩
    refine ⟨_, rfl, _, _, TyOf.int _, kit_int_str _, _, rfl, iteF ?_⟩
    refine ⟨_, rfl, _, _, TyOf.int _, kit_int_int _, _, rfl, iteT ?_⟩
    refine ⟨_, rfl, _, _, TyOf.int _, kit_int_bool _, _, rfl, _, rfl, iteT ?_⟩
    refine ⟨_, rfl, _, rfl, rfl, ?_⟩
    rw [decide_eq_true rfl]
    exact q _ (Same.refl _)
  | str x =>
    unfold Dat at dv du
    subst dv du
    refine ⟨_, rfl, _, _, TyOf.str _, kit_str_tuple _, _, rfl, iteF ?_⟩
    refine ⟨_, rfl, _, _, TyOf.str _, kit_str_str _, _, rfl, iteT ?_⟩
    refine ⟨_, rfl, _, _, TyOf.str _, kit_str_str _, _, rfl, iteT ?_⟩
    refine ⟨_, rfl, _, rfl, rfl, ?_⟩
    rw [decide_eq_true rfl]
    exact q _ (Same.refl _)
  | tup ds =>
    unfold Dat at dv du
    obtain ⟨p, xs, rfl, hp, dx⟩ := dv
    obtain ⟨p2, ys, rfl, hp2, dy⟩ := du
    have lx := dx.len
    have ly := dy.len
    have hlen : xs.length = ys.length := by omega
    have hpu' : pureDs ds = true := by unfold pureD at hpu; exact hpu
    have hdp' : deps ds < n := by unfold D.dep at hdp; omega
    refine ⟨_, rfl, _, _, TyOf.tup hp2, kit_tup_tup _, _, rfl, iteT ?_⟩
    refine ⟨_, rfl, _, _, TyOf.tup hp, kit_tup_tup _, _, rfl, iteF ?_⟩
    refine ⟨_, rfl, p, _, rfl, .inr (SqT.of hp), _, rfl, p2, _, rfl, .inr (SqT.of hp2), rfl, _, rfl, iteNS (congrArg V.int (by rw [hlen])) ?_⟩
    refine ⟨_, rfl, _, rfl, p, p2, rfl, ⟨_, SqT.of hp⟩, ⟨_, SqT.of hp2⟩, fun Dl hD C s3 fp => comp_zip (K := K) (p := p) (q := p2) (xs := xs) (ys := ys)
        (fun i zs σ H' => ∃ z1 z2, σ = [z1, z2] ∧ Same H H' ∧ zs = []) (fun i zs σ H' ⟨_, _, _, g, _⟩ => ⟨SqT.of (g _ _ hp), SqT.of (g _ _ hp2)⟩) hlen ⟨none, none, rfl, Same.new hD, rfl⟩ ?_ ?_⟩
    · rintro i T x y zs σ H2 hx hy hl ⟨z1, z2, rfl, s2, rfl⟩ e hT
      obtain ⟨d1, e1, k1⟩ := dx.at hx
      obtain ⟨d2, e2, k2⟩ := dy.at hy
      have e3 : d1 = d2 := Option.some.inj (e1.symm.trans e2)
      subst e3
      have sT : Same H (upd H2 T (.tup [x, y])) := s2.trans (Same.new hT)
      refine ⟨T, _, rfl, SqT.of upd_same, rfl, _, _, rfl, _, _, rfl, rfl, ?_⟩
      have := deps_get e1
      refine ⟨_, rfl, _, rfl, x, y, d1, rfl, Dat.kt (KT.same sT) _ k1, Dat.kt (KT.same sT) _ k2, pureDs_get hpu' e1, by omega, fun H5 s5 => ⟨_, rfl, iteF ?_⟩⟩
      exact ⟨[], Nat.zero_le _, ⟨_, _, rfl, sT.trans s5, rfl⟩, s5 _ _ (Same.new hT _ _ e)⟩
    · rintro zs σ H2 ⟨z1, z2, rfl, s2, rfl⟩ e
      refine ⟨(by show 0 ≤ sizeLine; decide), fun pe hpe => ⟨Dl, pe, [], rfl, rfl, SqL.of (Same.new hpe _ _ e), SqL.of upd_same, ?_⟩⟩
      exact q _ (s2.trans (Same.new hpe))
  | non => unfold pureD at hpu; cases hpu
  | bl b => unfold pureD at hpu; cases hpu
  | lst l => unfold pureD at hpu; cases hpu
theorem ok_same {f : Addr} {fd : FuncData} (F : Fun K "_law_same" "_law_same" s_law_same f fd) (b : Binds K fd ["found", "due"] []) (m : mg "_law_same" = some (.ref f)) (B : Blt mg) : ∀ n, FnOk P w K mg base CX0 n f fd ["found", "due"] (spSame n)
  | 0 => by
    have no : ∀ vs H Q E, ¬ spSame 0 vs H Q E := fun vs H Q E h => by
      obtain ⟨v, u, d, _, _, _, _, h2, _⟩ := h
      omega
    exact ⟨fun vs H Q E h => absurd h (no vs H Q E), fun A outer s H args us vs Q E _ _ _ _ h => absurd h (no vs H Q E)⟩
  | n + 1 => ok_same_step F B (mkDef (ok_same F b m B n) b m F.kp)
end
end Law

set_option Elab.async false
set_option linter.all false
set_option maxRecDepth 100000
set_option maxHeartbeats 4000000
namespace Law
open PySem L2
theorem all_mk {l : PySem.W.OpenLaw} {w : World} {K : PySem.W.Frag} {h : Heap} {mg : Str → Option Value} {fa : Addr} (X : K.In h) (G : h.Ns mainGlobals mg) (hfa : mg "law" = some (.ref fa))
    {f_number_of : Addr} {od_number_of an_number_of : Option Addr} {sl_number_of : Array (Option Value)} {oc_number_of kV_number_of dc_number_of pm_number_of cd_number_of ct_number_of : Value}
    {f_read_way : Addr} {od_read_way an_read_way : Option Addr} {sl_read_way : Array (Option Value)} {oc_read_way kV_read_way dc_read_way pm_read_way cd_read_way ct_read_way : Value}
    {f_is_figures : Addr} {od_is_figures an_is_figures : Option Addr} {sl_is_figures : Array (Option Value)} {oc_is_figures kV_is_figures dc_is_figures pm_is_figures cd_is_figures ct_is_figures : Value}
    {f_figures_end : Addr} {od_figures_end an_figures_end : Option Addr} {sl_figures_end : Array (Option Value)} {oc_figures_end kV_figures_end dc_figures_end pm_figures_end cd_figures_end ct_figures_end : Value}
    {f_pieces_of : Addr} {od_pieces_of an_pieces_of : Option Addr} {sl_pieces_of : Array (Option Value)} {oc_pieces_of kV_pieces_of dc_pieces_of pm_pieces_of cd_pieces_of ct_pieces_of : Value}
    {f_piece_at : Addr} {od_piece_at an_piece_at : Option Addr} {sl_piece_at : Array (Option Value)} {oc_piece_at kV_piece_at dc_piece_at pm_piece_at cd_piece_at ct_piece_at : Value}
    {f_way_closed : Addr} {od_way_closed an_way_closed : Option Addr} {sl_way_closed : Array (Option Value)} {oc_way_closed kV_way_closed dc_way_closed pm_way_closed cd_way_closed ct_way_closed : Value}
    {f_is_word : Addr} {od_is_word an_is_word : Option Addr} {sl_is_word : Array (Option Value)} {oc_is_word kV_is_word dc_is_word pm_is_word cd_is_word ct_is_word : Value}
    {f_is_way : Addr} {od_is_way an_is_way : Option Addr} {sl_is_way : Array (Option Value)} {oc_is_way kV_is_way dc_is_way pm_is_way cd_is_way ct_is_way : Value}
    {f_law_deck : Addr} {od_law_deck an_law_deck : Option Addr} {sl_law_deck : Array (Option Value)} {oc_law_deck kV_law_deck dc_law_deck pm_law_deck cd_law_deck ct_law_deck : Value}
    {f_law_take : Addr} {od_law_take an_law_take : Option Addr} {sl_law_take : Array (Option Value)} {oc_law_take kV_law_take dc_law_take pm_law_take cd_law_take ct_law_take : Value}
    {f_law_number : Addr} {od_law_number an_law_number : Option Addr} {sl_law_number : Array (Option Value)} {oc_law_number kV_law_number dc_law_number pm_law_number cd_law_number ct_law_number : Value}
    {f_law_any_way : Addr} {od_law_any_way an_law_any_way : Option Addr} {sl_law_any_way : Array (Option Value)} {oc_law_any_way kV_law_any_way dc_law_any_way pm_law_any_way cd_law_any_way ct_law_any_way : Value}
    {f_law_size : Addr} {od_law_size an_law_size : Option Addr} {sl_law_size : Array (Option Value)} {oc_law_size kV_law_size dc_law_size pm_law_size cd_law_size ct_law_size : Value}
    {f_law_text : Addr} {od_law_text an_law_text : Option Addr} {sl_law_text : Array (Option Value)} {oc_law_text kV_law_text dc_law_text pm_law_text cd_law_text ct_law_text : Value}
    {f_law_same : Addr} {od_law_same an_law_same : Option Addr} {sl_law_same : Array (Option Value)} {oc_law_same kV_law_same dc_law_same pm_law_same cd_law_same ct_law_same : Value}
    {f_law_number_read : Addr} {od_law_number_read an_law_number_read : Option Addr} {sl_law_number_read : Array (Option Value)} {oc_law_number_read kV_law_number_read dc_law_number_read pm_law_number_read cd_law_number_read ct_law_number_read : Value}
    {f_law_part_read : Addr} {od_law_part_read an_law_part_read : Option Addr} {sl_law_part_read : Array (Option Value)} {oc_law_part_read kV_law_part_read dc_law_part_read pm_law_part_read cd_law_part_read ct_law_part_read : Value}
    {f_law_read : Addr} {od_law_read an_law_read : Option Addr} {sl_law_read : Array (Option Value)} {oc_law_read kV_law_read dc_law_read pm_law_read cd_law_read ct_law_read : Value}
    {f_law_greatest : Addr} {od_law_greatest an_law_greatest : Option Addr} {sl_law_greatest : Array (Option Value)} {oc_law_greatest kV_law_greatest dc_law_greatest pm_law_greatest cd_law_greatest ct_law_greatest : Value}
    {f_law_spoilt : Addr} {od_law_spoilt an_law_spoilt : Option Addr} {sl_law_spoilt : Array (Option Value)} {oc_law_spoilt kV_law_spoilt dc_law_spoilt pm_law_spoilt cd_law_spoilt ct_law_spoilt : Value}
    {f_law_bounded : Addr} {od_law_bounded an_law_bounded : Option Addr} {sl_law_bounded : Array (Option Value)} {oc_law_bounded kV_law_bounded dc_law_bounded pm_law_bounded cd_law_bounded ct_law_bounded : Value}
    {f_law_right : Addr} {od_law_right an_law_right : Option Addr} {sl_law_right : Array (Option Value)} {oc_law_right kV_law_right dc_law_right pm_law_right cd_law_right ct_law_right : Value}
    {f_law : Addr} {od_law an_law : Option Addr} {sl_law : Array (Option Value)} {oc_law kV_law dc_law pm_law cd_law ct_law : Value}
    {d_SIGNS : Addr} {es_SIGNS : Array DictEntry} {n_SIGNS : Nat}
    {t_plus t_less t_times t_share tF : Tok}
    {C_WishError N_WishError : Addr} {nm_WishError qn_WishError : Str} {bs_WishError sub_WishError : List Value} {sn_WishError : List Str} {ab_WishError : Bool} {col_WishError : Option Bool} {dd_WishError : Option Addr} {k0_WishError k1_WishError k2_WishError k3_WishError k5_WishError : Option Value}
    {C_NoText N_NoText : Addr} {nm_NoText qn_NoText : Str} {bs_NoText sub_NoText : List Value} {sn_NoText : List Str} {ab_NoText : Bool} {col_NoText : Option Bool} {dd_NoText : Option Addr} {k0_NoText k1_NoText k2_NoText k3_NoText k5_NoText : Option Value} {bm_NoText : List Value}
    {C_NoAsk N_NoAsk : Addr} {nm_NoAsk qn_NoAsk : Str} {bs_NoAsk sub_NoAsk : List Value} {sn_NoAsk : List Str} {ab_NoAsk : Bool} {col_NoAsk : Option Bool} {dd_NoAsk : Option Addr} {k0_NoAsk k1_NoAsk k2_NoAsk k3_NoAsk k5_NoAsk : Option Value} {bm_NoAsk : List Value}
    {C_NoWay N_NoWay : Addr} {nm_NoWay qn_NoWay : Str} {bs_NoWay sub_NoWay : List Value} {sn_NoWay : List Str} {ab_NoWay : Bool} {col_NoWay : Option Bool} {dd_NoWay : Option Addr} {k0_NoWay k1_NoWay k2_NoWay k3_NoWay k5_NoWay : Option Value} {bm_NoWay : List Value}
    (a_number_of : PySem.W.nsIn K mainGlobals "number_of" = some (some (.ref f_number_of))) (l_number_of : K.lookup f_number_of = some ⟨oc_number_of, od_number_of, .func (PySem.W.fnOf "number_of" "number_of" (defArgs s_number_of) (defBody s_number_of) (defScope s_number_of) .none kV_number_of dc_number_of pm_number_of an_number_of cd_number_of ct_number_of), sl_number_of⟩) (c_number_of : PySem.W.codeIn K cd_number_of "number_of" = true) (k_number_of : PySem.W.keepIn K (.ref f_number_of) = true)
    (a_read_way : PySem.W.nsIn K mainGlobals "read_way" = some (some (.ref f_read_way))) (l_read_way : K.lookup f_read_way = some ⟨oc_read_way, od_read_way, .func (PySem.W.fnOf "read_way" "read_way" (defArgs s_read_way) (defBody s_read_way) (defScope s_read_way) .none kV_read_way dc_read_way pm_read_way an_read_way cd_read_way ct_read_way), sl_read_way⟩) (c_read_way : PySem.W.codeIn K cd_read_way "read_way" = true) (k_read_way : PySem.W.keepIn K (.ref f_read_way) = true)
    (a_is_figures : PySem.W.nsIn K mainGlobals "is_figures" = some (some (.ref f_is_figures))) (l_is_figures : K.lookup f_is_figures = some ⟨oc_is_figures, od_is_figures, .func (PySem.W.fnOf "is_figures" "is_figures" (defArgs s_is_figures) (defBody s_is_figures) (defScope s_is_figures) .none kV_is_figures dc_is_figures pm_is_figures an_is_figures cd_is_figures ct_is_figures), sl_is_figures⟩) (c_is_figures : PySem.W.codeIn K cd_is_figures "is_figures" = true) (k_is_figures : PySem.W.keepIn K (.ref f_is_figures) = true)
    (a_figures_end : PySem.W.nsIn K mainGlobals "figures_end" = some (some (.ref f_figures_end))) (l_figures_end : K.lookup f_figures_end = some ⟨oc_figures_end, od_figures_end, .func (PySem.W.fnOf "figures_end" "figures_end" (defArgs s_figures_end) (defBody s_figures_end) (defScope s_figures_end) .none kV_figures_end dc_figures_end pm_figures_end an_figures_end cd_figures_end ct_figures_end), sl_figures_end⟩) (c_figures_end : PySem.W.codeIn K cd_figures_end "figures_end" = true) (k_figures_end : PySem.W.keepIn K (.ref f_figures_end) = true)
    (a_pieces_of : PySem.W.nsIn K mainGlobals "pieces_of" = some (some (.ref f_pieces_of))) (l_pieces_of : K.lookup f_pieces_of = some ⟨oc_pieces_of, od_pieces_of, .func (PySem.W.fnOf "pieces_of" "pieces_of" (defArgs s_pieces_of) (defBody s_pieces_of) (defScope s_pieces_of) .none kV_pieces_of dc_pieces_of pm_pieces_of an_pieces_of cd_pieces_of ct_pieces_of), sl_pieces_of⟩) (c_pieces_of : PySem.W.codeIn K cd_pieces_of "pieces_of" = true) (k_pieces_of : PySem.W.keepIn K (.ref f_pieces_of) = true)
    (a_piece_at : PySem.W.nsIn K mainGlobals "piece_at" = some (some (.ref f_piece_at))) (l_piece_at : K.lookup f_piece_at = some ⟨oc_piece_at, od_piece_at, .func (PySem.W.fnOf "piece_at" "piece_at" (defArgs s_piece_at) (defBody s_piece_at) (defScope s_piece_at) .none kV_piece_at dc_piece_at pm_piece_at an_piece_at cd_piece_at ct_piece_at), sl_piece_at⟩) (c_piece_at : PySem.W.codeIn K cd_piece_at "piece_at" = true) (k_piece_at : PySem.W.keepIn K (.ref f_piece_at) = true)
    (a_way_closed : PySem.W.nsIn K mainGlobals "way_closed" = some (some (.ref f_way_closed))) (l_way_closed : K.lookup f_way_closed = some ⟨oc_way_closed, od_way_closed, .func (PySem.W.fnOf "way_closed" "way_closed" (defArgs s_way_closed) (defBody s_way_closed) (defScope s_way_closed) .none kV_way_closed dc_way_closed pm_way_closed an_way_closed cd_way_closed ct_way_closed), sl_way_closed⟩) (c_way_closed : PySem.W.codeIn K cd_way_closed "way_closed" = true) (k_way_closed : PySem.W.keepIn K (.ref f_way_closed) = true)
    (a_is_word : PySem.W.nsIn K mainGlobals "is_word" = some (some (.ref f_is_word))) (l_is_word : K.lookup f_is_word = some ⟨oc_is_word, od_is_word, .func (PySem.W.fnOf "is_word" "is_word" (defArgs s_is_word) (defBody s_is_word) (defScope s_is_word) .none kV_is_word dc_is_word pm_is_word an_is_word cd_is_word ct_is_word), sl_is_word⟩) (c_is_word : PySem.W.codeIn K cd_is_word "is_word" = true) (k_is_word : PySem.W.keepIn K (.ref f_is_word) = true)
    (a_is_way : PySem.W.nsIn K mainGlobals "is_way" = some (some (.ref f_is_way))) (l_is_way : K.lookup f_is_way = some ⟨oc_is_way, od_is_way, .func (PySem.W.fnOf "is_way" "is_way" (defArgs s_is_way) (defBody s_is_way) (defScope s_is_way) .none kV_is_way dc_is_way pm_is_way an_is_way cd_is_way ct_is_way), sl_is_way⟩) (c_is_way : PySem.W.codeIn K cd_is_way "is_way" = true) (k_is_way : PySem.W.keepIn K (.ref f_is_way) = true)
    (a_law_deck : PySem.W.nsIn K mainGlobals "_law_deck" = some (some (.ref f_law_deck))) (l_law_deck : K.lookup f_law_deck = some ⟨oc_law_deck, od_law_deck, .func (PySem.W.fnOf "_law_deck" "_law_deck" (defArgs s_law_deck) (defBody s_law_deck) (defScope s_law_deck) .none kV_law_deck dc_law_deck pm_law_deck an_law_deck cd_law_deck ct_law_deck), sl_law_deck⟩) (c_law_deck : PySem.W.codeIn K cd_law_deck "_law_deck" = true) (k_law_deck : PySem.W.keepIn K (.ref f_law_deck) = true)
    (a_law_take : PySem.W.nsIn K mainGlobals "_law_take" = some (some (.ref f_law_take))) (l_law_take : K.lookup f_law_take = some ⟨oc_law_take, od_law_take, .func (PySem.W.fnOf "_law_take" "_law_take" (defArgs s_law_take) (defBody s_law_take) (defScope s_law_take) .none kV_law_take dc_law_take pm_law_take an_law_take cd_law_take ct_law_take), sl_law_take⟩) (c_law_take : PySem.W.codeIn K cd_law_take "_law_take" = true) (k_law_take : PySem.W.keepIn K (.ref f_law_take) = true)
    (a_law_number : PySem.W.nsIn K mainGlobals "_law_number" = some (some (.ref f_law_number))) (l_law_number : K.lookup f_law_number = some ⟨oc_law_number, od_law_number, .func (PySem.W.fnOf "_law_number" "_law_number" (defArgs s_law_number) (defBody s_law_number) (defScope s_law_number) .none kV_law_number dc_law_number pm_law_number an_law_number cd_law_number ct_law_number), sl_law_number⟩) (c_law_number : PySem.W.codeIn K cd_law_number "_law_number" = true) (k_law_number : PySem.W.keepIn K (.ref f_law_number) = true)
    (a_law_any_way : PySem.W.nsIn K mainGlobals "_law_any_way" = some (some (.ref f_law_any_way))) (l_law_any_way : K.lookup f_law_any_way = some ⟨oc_law_any_way, od_law_any_way, .func (PySem.W.fnOf "_law_any_way" "_law_any_way" (defArgs s_law_any_way) (defBody s_law_any_way) (defScope s_law_any_way) .none kV_law_any_way dc_law_any_way pm_law_any_way an_law_any_way cd_law_any_way ct_law_any_way), sl_law_any_way⟩) (c_law_any_way : PySem.W.codeIn K cd_law_any_way "_law_any_way" = true) (k_law_any_way : PySem.W.keepIn K (.ref f_law_any_way) = true)
    (a_law_size : PySem.W.nsIn K mainGlobals "_law_size" = some (some (.ref f_law_size))) (l_law_size : K.lookup f_law_size = some ⟨oc_law_size, od_law_size, .func (PySem.W.fnOf "_law_size" "_law_size" (defArgs s_law_size) (defBody s_law_size) (defScope s_law_size) .none kV_law_size dc_law_size pm_law_size an_law_size cd_law_size ct_law_size), sl_law_size⟩) (c_law_size : PySem.W.codeIn K cd_law_size "_law_size" = true) (k_law_size : PySem.W.keepIn K (.ref f_law_size) = true)
    (a_law_text : PySem.W.nsIn K mainGlobals "_law_text" = some (some (.ref f_law_text))) (l_law_text : K.lookup f_law_text = some ⟨oc_law_text, od_law_text, .func (PySem.W.fnOf "_law_text" "_law_text" (defArgs s_law_text) (defBody s_law_text) (defScope s_law_text) .none kV_law_text dc_law_text pm_law_text an_law_text cd_law_text ct_law_text), sl_law_text⟩) (c_law_text : PySem.W.codeIn K cd_law_text "_law_text" = true) (k_law_text : PySem.W.keepIn K (.ref f_law_text) = true)
    (a_law_same : PySem.W.nsIn K mainGlobals "_law_same" = some (some (.ref f_law_same))) (l_law_same : K.lookup f_law_same = some ⟨oc_law_same, od_law_same, .func (PySem.W.fnOf "_law_same" "_law_same" (defArgs s_law_same) (defBody s_law_same) (defScope s_law_same) .none kV_law_same dc_law_same pm_law_same an_law_same cd_law_same ct_law_same), sl_law_same⟩) (c_law_same : PySem.W.codeIn K cd_law_same "_law_same" = true) (k_law_same : PySem.W.keepIn K (.ref f_law_same) = true)
    (a_law_number_read : PySem.W.nsIn K mainGlobals "_law_number_read" = some (some (.ref f_law_number_read))) (l_law_number_read : K.lookup f_law_number_read = some ⟨oc_law_number_read, od_law_number_read, .func (PySem.W.fnOf "_law_number_read" "_law_number_read" (defArgs s_law_number_read) (defBody s_law_number_read) (defScope s_law_number_read) .none kV_law_number_read dc_law_number_read pm_law_number_read an_law_number_read cd_law_number_read ct_law_number_read), sl_law_number_read⟩) (c_law_number_read : PySem.W.codeIn K cd_law_number_read "_law_number_read" = true) (k_law_number_read : PySem.W.keepIn K (.ref f_law_number_read) = true)
    (a_law_part_read : PySem.W.nsIn K mainGlobals "_law_part_read" = some (some (.ref f_law_part_read))) (l_law_part_read : K.lookup f_law_part_read = some ⟨oc_law_part_read, od_law_part_read, .func (PySem.W.fnOf "_law_part_read" "_law_part_read" (defArgs s_law_part_read) (defBody s_law_part_read) (defScope s_law_part_read) .none kV_law_part_read dc_law_part_read pm_law_part_read an_law_part_read cd_law_part_read ct_law_part_read), sl_law_part_read⟩) (c_law_part_read : PySem.W.codeIn K cd_law_part_read "_law_part_read" = true) (k_law_part_read : PySem.W.keepIn K (.ref f_law_part_read) = true)
    (a_law_read : PySem.W.nsIn K mainGlobals "_law_read" = some (some (.ref f_law_read))) (l_law_read : K.lookup f_law_read = some ⟨oc_law_read, od_law_read, .func (PySem.W.fnOf "_law_read" "_law_read" (defArgs s_law_read) (defBody s_law_read) (defScope s_law_read) .none kV_law_read dc_law_read pm_law_read an_law_read cd_law_read ct_law_read), sl_law_read⟩) (c_law_read : PySem.W.codeIn K cd_law_read "_law_read" = true) (k_law_read : PySem.W.keepIn K (.ref f_law_read) = true)
    (a_law_greatest : PySem.W.nsIn K mainGlobals "_law_greatest" = some (some (.ref f_law_greatest))) (l_law_greatest : K.lookup f_law_greatest = some ⟨oc_law_greatest, od_law_greatest, .func (PySem.W.fnOf "_law_greatest" "_law_greatest" (defArgs s_law_greatest) (defBody s_law_greatest) (defScope s_law_greatest) .none kV_law_greatest dc_law_greatest pm_law_greatest an_law_greatest cd_law_greatest ct_law_greatest), sl_law_greatest⟩) (c_law_greatest : PySem.W.codeIn K cd_law_greatest "_law_greatest" = true) (k_law_greatest : PySem.W.keepIn K (.ref f_law_greatest) = true)
    (a_law_spoilt : PySem.W.nsIn K mainGlobals "_law_spoilt" = some (some (.ref f_law_spoilt))) (l_law_spoilt : K.lookup f_law_spoilt = some ⟨oc_law_spoilt, od_law_spoilt, .func (PySem.W.fnOf "_law_spoilt" "_law_spoilt" (defArgs s_law_spoilt) (defBody s_law_spoilt) (defScope s_law_spoilt) .none kV_law_spoilt dc_law_spoilt pm_law_spoilt an_law_spoilt cd_law_spoilt ct_law_spoilt), sl_law_spoilt⟩) (c_law_spoilt : PySem.W.codeIn K cd_law_spoilt "_law_spoilt" = true) (k_law_spoilt : PySem.W.keepIn K (.ref f_law_spoilt) = true)
    (a_law_bounded : PySem.W.nsIn K mainGlobals "_law_bounded" = some (some (.ref f_law_bounded))) (l_law_bounded : K.lookup f_law_bounded = some ⟨oc_law_bounded, od_law_bounded, .func (PySem.W.fnOf "_law_bounded" "_law_bounded" (defArgs s_law_bounded) (defBody s_law_bounded) (defScope s_law_bounded) .none kV_law_bounded dc_law_bounded pm_law_bounded an_law_bounded cd_law_bounded ct_law_bounded), sl_law_bounded⟩) (c_law_bounded : PySem.W.codeIn K cd_law_bounded "_law_bounded" = true) (k_law_bounded : PySem.W.keepIn K (.ref f_law_bounded) = true)
    (a_law_right : PySem.W.nsIn K mainGlobals "_law_right" = some (some (.ref f_law_right))) (l_law_right : K.lookup f_law_right = some ⟨oc_law_right, od_law_right, .func (PySem.W.fnOf "_law_right" "_law_right" (defArgs s_law_right) (defBody s_law_right) (defScope s_law_right) .none kV_law_right dc_law_right pm_law_right an_law_right cd_law_right ct_law_right), sl_law_right⟩) (c_law_right : PySem.W.codeIn K cd_law_right "_law_right" = true) (k_law_right : PySem.W.keepIn K (.ref f_law_right) = true)
    (a_law : PySem.W.nsIn K mainGlobals "law" = some (some (.ref f_law))) (l_law : K.lookup f_law = some ⟨oc_law, od_law, .func (PySem.W.fnOf "law" "law" (defArgs s_law) (defBody s_law) (defScope s_law) .none kV_law dc_law pm_law an_law cd_law ct_law), sl_law⟩) (c_law : PySem.W.codeIn K cd_law "law" = true) (k_law : PySem.W.keepIn K (.ref f_law) = true)
    (a_SIGNS : PySem.W.nsIn K mainGlobals "SIGNS" = some (some (.ref d_SIGNS))) (l_SIGNS : K.lookup d_SIGNS = some ⟨.type "dict", none, .dict es_SIGNS n_SIGNS, #[]⟩) (k_SIGNS : PySem.W.KeysLit w.params es_SIGNS.toList)
    (e_SIGNS_plus : PySem.W.nsIn K d_SIGNS "plus" = some (some (.str " + " t_plus)))
    (e_SIGNS_less : PySem.W.nsIn K d_SIGNS "less" = some (some (.str " - " t_less)))
    (e_SIGNS_times : PySem.W.nsIn K d_SIGNS "times" = some (some (.str " * " t_times)))
    (e_SIGNS_share : PySem.W.nsIn K d_SIGNS "share" = some (some (.str " / " t_share)))
    (p_SIGNS : Paired (fun (kv : Str × V) (e : DictEntry) => (∃ t, e.key = .str kv.1 t) ∧ RelV kv.2 e.val) kvS es_SIGNS.toList)
    (y_SIGNS : (d_SIGNS == sysModules) = false)
    (a_FIGURES : PySem.W.nsIn K mainGlobals "FIGURES" = some (some (.str "0123456789" tF)))
    (a_WishError : PySem.W.nsIn K mainGlobals "WishError" = some (some (.ref C_WishError)))
    (l_WishError : K.lookup C_WishError = some (excClassObj nm_WishError qn_WishError C_WishError N_WishError bs_WishError vMro true sn_WishError sub_WishError ab_WishError col_WishError dd_WishError k0_WishError k1_WishError k2_WishError k3_WishError k5_WishError "ValueError.__new__"))
    (t_WishError : PySem.W.tailIn K vMro vMro = true)
    (kp_WishError : PySem.W.keepIn K (.ref C_WishError) = true)
    (ga_WishError : PySem.W.findIn K (.ref C_WishError) "__getattribute__" = some (some (.builtin "BaseException.__getattribute__")))
    (gh_WishError : PySem.W.findIn K (.ref C_WishError) "__getattr__" = some none)
    (gc_WishError : PySem.W.findIn K (.ref C_WishError) "__class__" = some (some (.builtin "object.__class__")))
    (sa_WishError : PySem.W.findIn K (.ref C_WishError) "__setattr__" = some (some (.builtin "object.__setattr__")))
    (a_NoText : PySem.W.nsIn K mainGlobals "NoText" = some (some (.ref C_NoText)))
    (l_NoText : K.lookup C_NoText = some (excClassObj nm_NoText qn_NoText C_NoText N_NoText bs_NoText bm_NoText true sn_NoText sub_NoText ab_NoText col_NoText dd_NoText k0_NoText k1_NoText k2_NoText k3_NoText k5_NoText "ValueError.__new__"))
    (t_NoText : PySem.W.tailIn K vMro bm_NoText = true)
    (kp_NoText : PySem.W.keepIn K (.ref C_NoText) = true)
    (ga_NoText : PySem.W.findIn K (.ref C_NoText) "__getattribute__" = some (some (.builtin "BaseException.__getattribute__")))
    (gh_NoText : PySem.W.findIn K (.ref C_NoText) "__getattr__" = some none)
    (gc_NoText : PySem.W.findIn K (.ref C_NoText) "__class__" = some (some (.builtin "object.__class__")))
    (sa_NoText : PySem.W.findIn K (.ref C_NoText) "__setattr__" = some (some (.builtin "object.__setattr__")))
    (a_NoAsk : PySem.W.nsIn K mainGlobals "NoAsk" = some (some (.ref C_NoAsk)))
    (l_NoAsk : K.lookup C_NoAsk = some (excClassObj nm_NoAsk qn_NoAsk C_NoAsk N_NoAsk bs_NoAsk bm_NoAsk true sn_NoAsk sub_NoAsk ab_NoAsk col_NoAsk dd_NoAsk k0_NoAsk k1_NoAsk k2_NoAsk k3_NoAsk k5_NoAsk "ValueError.__new__"))
    (t_NoAsk : PySem.W.tailIn K vMro bm_NoAsk = true)
    (kp_NoAsk : PySem.W.keepIn K (.ref C_NoAsk) = true)
    (ga_NoAsk : PySem.W.findIn K (.ref C_NoAsk) "__getattribute__" = some (some (.builtin "BaseException.__getattribute__")))
    (gh_NoAsk : PySem.W.findIn K (.ref C_NoAsk) "__getattr__" = some none)
    (gc_NoAsk : PySem.W.findIn K (.ref C_NoAsk) "__class__" = some (some (.builtin "object.__class__")))
    (sa_NoAsk : PySem.W.findIn K (.ref C_NoAsk) "__setattr__" = some (some (.builtin "object.__setattr__")))
    (a_NoWay : PySem.W.nsIn K mainGlobals "NoWay" = some (some (.ref C_NoWay)))
    (l_NoWay : K.lookup C_NoWay = some (excClassObj nm_NoWay qn_NoWay C_NoWay N_NoWay bs_NoWay bm_NoWay true sn_NoWay sub_NoWay ab_NoWay col_NoWay dd_NoWay k0_NoWay k1_NoWay k2_NoWay k3_NoWay k5_NoWay "ValueError.__new__"))
    (t_NoWay : PySem.W.tailIn K vMro bm_NoWay = true)
    (kp_NoWay : PySem.W.keepIn K (.ref C_NoWay) = true)
    (ga_NoWay : PySem.W.findIn K (.ref C_NoWay) "__getattribute__" = some (some (.builtin "BaseException.__getattribute__")))
    (gh_NoWay : PySem.W.findIn K (.ref C_NoWay) "__getattr__" = some none)
    (gc_NoWay : PySem.W.findIn K (.ref C_NoWay) "__class__" = some (some (.builtin "object.__class__")))
    (sa_NoWay : PySem.W.findIn K (.ref C_NoWay) "__setattr__" = some (some (.builtin "object.__setattr__")))
    (i_NoText : PySem.W.findIn K (.ref C_NoText) "__init__" = some (some (.builtin "ValueError.__init__")))
    (t_W : (Value.ref C_NoText :: bm_NoText).contains (.ref C_WishError) = true)
    (t_S : (Value.ref C_NoText :: bm_NoText).contains (.ref C_NoAsk) = false)
    (t_N : (Value.ref C_NoText :: bm_NoText).contains (.ref C_NoWay) = false)
    (z_ValueError : PySem.W.nsIn K mainGlobals "ValueError" = some none)
    (z_max : PySem.W.nsIn K mainGlobals "max" = some none)
    (z_min : PySem.W.nsIn K mainGlobals "min" = some none)
    (z_len : PySem.W.nsIn K mainGlobals "len" = some none)
    (z_sum : PySem.W.nsIn K mainGlobals "sum" = some none)
    (z_range : PySem.W.nsIn K mainGlobals "range" = some none)
    (z_isinstance : PySem.W.nsIn K mainGlobals "isinstance" = some none)
    (z_int : PySem.W.nsIn K mainGlobals "int" = some none)
    (z_str : PySem.W.nsIn K mainGlobals "str" = some none)
    (z_bool : PySem.W.nsIn K mainGlobals "bool" = some none)
    (z_tuple : PySem.W.nsIn K mainGlobals "tuple" = some none)
    (z_zip : PySem.W.nsIn K mainGlobals "zip" = some none) :
    ∃ fd : FuncData, (∀ (s : Shared) (v : Value), BindsTo s fd ⟨[v], []⟩ [("script", v)]) ∧ ∀ base : Heap, K.In base → base.Ns mainGlobals mg → FnOk l.prog w K mg base CX0 228 fa fd ["script"] (spLaw K) := by
  have e := hfa.symm.trans (PySem.W.mg_of X G a_law)
  cases e
  have F_number_of := fun_mk (st := s_number_of) l_number_of c_number_of k_number_of
  have b_number_of := F_number_of.binds (ps := ["figures"]) fun _ _ _ _ _ _ us hl => match us, hl with | [_], _ => rfl
  have m_number_of := PySem.W.mg_of X G a_number_of
  have F_read_way := fun_mk (st := s_read_way) l_read_way c_read_way k_read_way
  have b_read_way := F_read_way.binds (ps := ["text"]) fun _ _ _ _ _ _ us hl => match us, hl with | [_], _ => rfl
  have m_read_way := PySem.W.mg_of X G a_read_way
  have F_is_figures := fun_mk (st := s_is_figures) l_is_figures c_is_figures k_is_figures
  have b_is_figures := F_is_figures.binds (ps := ["text"]) fun _ _ _ _ _ _ us hl => match us, hl with | [_], _ => rfl
  have m_is_figures := PySem.W.mg_of X G a_is_figures
  have F_figures_end := fun_mk (st := s_figures_end) l_figures_end c_figures_end k_figures_end
  have b_figures_end := F_figures_end.binds (ps := ["text", "at"]) fun _ _ _ _ _ _ us hl => match us, hl with | [_, _], _ => rfl
  have m_figures_end := PySem.W.mg_of X G a_figures_end
  have F_pieces_of := fun_mk (st := s_pieces_of) l_pieces_of c_pieces_of k_pieces_of
  have b_pieces_of := F_pieces_of.binds (ps := ["text"]) fun _ _ _ _ _ _ us hl => match us, hl with | [_], _ => rfl
  have m_pieces_of := PySem.W.mg_of X G a_pieces_of
  have F_piece_at := fun_mk (st := s_piece_at) l_piece_at c_piece_at k_piece_at
  have b_piece_at := F_piece_at.binds (ps := ["text", "at"]) fun _ _ _ _ _ _ us hl => match us, hl with | [_, _], _ => rfl
  have m_piece_at := PySem.W.mg_of X G a_piece_at
  have F_way_closed := fun_mk (st := s_way_closed) l_way_closed c_way_closed k_way_closed
  have b_way_closed := F_way_closed.binds (ps := ["held"]) fun _ _ _ _ _ _ us hl => match us, hl with | [_], _ => rfl
  have m_way_closed := PySem.W.mg_of X G a_way_closed
  have F_is_word := fun_mk (st := s_is_word) l_is_word c_is_word k_is_word
  have b_is_word := F_is_word.binds (ps := ["piece"]) fun _ _ _ _ _ _ us hl => match us, hl with | [_], _ => rfl
  have m_is_word := PySem.W.mg_of X G a_is_word
  have F_is_way := fun_mk (st := s_is_way) l_is_way c_is_way k_is_way
  have b_is_way := F_is_way.binds (ps := ["piece"]) fun _ _ _ _ _ _ us hl => match us, hl with | [_], _ => rfl
  have m_is_way := PySem.W.mg_of X G a_is_way
  have F_law_deck := fun_mk (st := s_law_deck) l_law_deck c_law_deck k_law_deck
  have b_law_deck := F_law_deck.binds (ps := ["script"]) fun _ _ _ _ _ _ us hl => match us, hl with | [_], _ => rfl
  have m_law_deck := PySem.W.mg_of X G a_law_deck
  have F_law_take := fun_mk (st := s_law_take) l_law_take c_law_take k_law_take
  have b_law_take := F_law_take.binds (ps := ["deck", "many"]) fun _ _ _ _ _ _ us hl => match us, hl with | [_, _], _ => rfl
  have m_law_take := PySem.W.mg_of X G a_law_take
  have F_law_number := fun_mk (st := s_law_number) l_law_number c_law_number k_law_number
  have b_law_number := F_law_number.binds (ps := ["deck"]) fun _ _ _ _ _ _ us hl => match us, hl with | [_], _ => rfl
  have m_law_number := PySem.W.mg_of X G a_law_number
  have F_law_any_way := fun_mk (st := s_law_any_way) l_law_any_way c_law_any_way k_law_any_way
  have b_law_any_way := F_law_any_way.binds (ps := ["deck", "many"]) fun _ _ _ _ _ _ us hl => match us, hl with | [_, _], _ => rfl
  have m_law_any_way := PySem.W.mg_of X G a_law_any_way
  have F_law_size := fun_mk (st := s_law_size) l_law_size c_law_size k_law_size
  have b_law_size := F_law_size.binds (ps := ["deck"]) fun _ _ _ _ _ _ us hl => match us, hl with | [_], _ => rfl
  have m_law_size := PySem.W.mg_of X G a_law_size
  have F_law_text := fun_mk (st := s_law_text) l_law_text c_law_text k_law_text
  have b_law_text := F_law_text.binds (ps := ["way"]) fun _ _ _ _ _ _ us hl => match us, hl with | [_], _ => rfl
  have m_law_text := PySem.W.mg_of X G a_law_text
  have F_law_same := fun_mk (st := s_law_same) l_law_same c_law_same k_law_same
  have b_law_same := F_law_same.binds (ps := ["found", "due"]) fun _ _ _ _ _ _ us hl => match us, hl with | [_, _], _ => rfl
  have m_law_same := PySem.W.mg_of X G a_law_same
  have F_law_number_read := fun_mk (st := s_law_number_read) l_law_number_read c_law_number_read k_law_number_read
  have b_law_number_read := F_law_number_read.binds (ps := ["text"]) fun _ _ _ _ _ _ us hl => match us, hl with | [_], _ => rfl
  have m_law_number_read := PySem.W.mg_of X G a_law_number_read
  have F_law_part_read := fun_mk (st := s_law_part_read) l_law_part_read c_law_part_read k_law_part_read
  have b_law_part_read := F_law_part_read.binds (ps := ["text"]) fun _ _ _ _ _ _ us hl => match us, hl with | [_], _ => rfl
  have m_law_part_read := PySem.W.mg_of X G a_law_part_read
  have F_law_read := fun_mk (st := s_law_read) l_law_read c_law_read k_law_read
  have b_law_read := F_law_read.binds (ps := ["text"]) fun _ _ _ _ _ _ us hl => match us, hl with | [_], _ => rfl
  have m_law_read := PySem.W.mg_of X G a_law_read
  have F_law_greatest := fun_mk (st := s_law_greatest) l_law_greatest c_law_greatest k_law_greatest
  have b_law_greatest := F_law_greatest.binds (ps := ["way"]) fun _ _ _ _ _ _ us hl => match us, hl with | [_], _ => rfl
  have m_law_greatest := PySem.W.mg_of X G a_law_greatest
  have F_law_spoilt := fun_mk (st := s_law_spoilt) l_law_spoilt c_law_spoilt k_law_spoilt
  have b_law_spoilt := F_law_spoilt.binds (ps := ["deck", "text"]) fun _ _ _ _ _ _ us hl => match us, hl with | [_, _], _ => rfl
  have m_law_spoilt := PySem.W.mg_of X G a_law_spoilt
  have F_law_bounded := fun_mk (st := s_law_bounded) l_law_bounded c_law_bounded k_law_bounded
  have b_law_bounded := F_law_bounded.binds (ps := ["deck", "text"]) fun _ _ _ _ _ _ us hl => match us, hl with | [_, _], _ => rfl
  have m_law_bounded := PySem.W.mg_of X G a_law_bounded
  have F_law_right := fun_mk (st := s_law_right) l_law_right c_law_right k_law_right
  have b_law_right := F_law_right.binds (ps := ["text"]) fun _ _ _ _ _ _ us hl => match us, hl with | [_], _ => rfl
  have m_law_right := PySem.W.mg_of X G a_law_right
  have F_law := fun_mk (st := s_law) l_law c_law k_law
  have b_law := F_law.binds (ps := ["script"]) fun _ _ _ _ _ _ us hl => match us, hl with | [_], _ => rfl
  have m_law := PySem.W.mg_of X G a_law
  have B : Blt mg := ⟨PySem.W.mg_none_of X G z_len, PySem.W.mg_none_of X G z_sum, PySem.W.mg_none_of X G z_range, PySem.W.mg_none_of X G z_isinstance, PySem.W.mg_none_of X G z_int, PySem.W.mg_none_of X G z_str, PySem.W.mg_none_of X G z_bool, PySem.W.mg_none_of X G z_tuple, PySem.W.mg_none_of X G z_zip⟩
  refine ⟨PySem.W.fnOf "law" "law" (defArgs s_law) (defBody s_law) (defScope s_law) .none kV_law dc_law pm_law an_law cd_law ct_law, fun s v => .of_eq rfl, fun base _ _ => ?_⟩
  have c_WishError : XC K C_WishError vMro := ⟨⟨_, _, _, _, _, _, _, _, _, _, _, _, _, _, l_WishError⟩, t_WishError, kp_WishError, ga_WishError, gh_WishError, gc_WishError, sa_WishError⟩
  have c_NoText : XC K C_NoText bm_NoText := ⟨⟨_, _, _, _, _, _, _, _, _, _, _, _, _, _, l_NoText⟩, t_NoText, kp_NoText, ga_NoText, gh_NoText, gc_NoText, sa_NoText⟩
  have c_NoAsk : XC K C_NoAsk bm_NoAsk := ⟨⟨_, _, _, _, _, _, _, _, _, _, _, _, _, _, l_NoAsk⟩, t_NoAsk, kp_NoAsk, ga_NoAsk, gh_NoAsk, gc_NoAsk, sa_NoAsk⟩
  have c_NoWay : XC K C_NoWay bm_NoWay := ⟨⟨_, _, _, _, _, _, _, _, _, _, _, _, _, _, l_NoWay⟩, t_NoWay, kp_NoWay, ga_NoWay, gh_NoWay, gc_NoWay, sa_NoWay⟩
  have R : Refs l.prog w K mg base C_WishError C_NoText C_NoAsk C_NoWay bm_NoText bm_NoAsk bm_NoWay :=
    ⟨c_WishError, c_NoText, c_NoAsk, c_NoWay, PySem.W.mg_of X G a_WishError, PySem.W.mg_of X G a_NoText, PySem.W.mg_of X G a_NoAsk, PySem.W.mg_of X G a_NoWay, i_NoText, t_W, t_S, t_N⟩
  have mS := PySem.W.mg_of X G a_SIGNS
  have mF := PySem.W.mg_of X G a_FIGURES
  have TD : TopDict w K d_SIGNS := ⟨es_SIGNS, n_SIGNS, l_SIGNS, k_SIGNS⟩
  have TS : TopItems w K d_SIGNS kvS := ⟨es_SIGNS, n_SIGNS, l_SIGNS, k_SIGNS, p_SIGNS, by decide +kernel, y_SIGNS⟩
  have hS : ∀ wd, okWord wd → ∃ t, PySem.W.nsIn K d_SIGNS wd = some (some (.str (mkS (sgn wd)) t)) := fun wd h => by
    rcases h with rfl | rfl | rfl | rfl
    · exact ⟨t_plus, by rw [e_SIGNS_plus, show mkS (sgn "plus") = " + " by decide +kernel]⟩
    · exact ⟨t_less, by rw [e_SIGNS_less, show mkS (sgn "less") = " - " by decide +kernel]⟩
    · exact ⟨t_times, by rw [e_SIGNS_times, show mkS (sgn "times") = " * " by decide +kernel]⟩
    · exact ⟨t_share, by rw [e_SIGNS_share, show mkS (sgn "share") = " / " by decide +kernel]⟩
  have Bmax : mg "max" = none := PySem.W.mg_none_of X G z_max
  have Bmin : mg "min" = none := PySem.W.mg_none_of X G z_min
  have Gtake := mkDef (ok_law_take (P := l.prog) (w := w) (base := base) F_law_take B) b_law_take m_law_take k_law_take
  have Gnumber := mkDef (ok_law_number F_law_number B Gtake) b_law_number m_law_number k_law_number
  have Gsize := mkDef (ok_law_size F_law_size B Gtake) b_law_size m_law_size k_law_size
  have Gdeck := mkDef (ok_law_deck (P := l.prog) (w := w) (base := base) F_law_deck B) b_law_deck m_law_deck k_law_deck
  have Gany := mkDef (ok_law_any F_law_any_way b_law_any_way m_law_any_way B Gtake Gnumber 8) b_law_any_way m_law_any_way k_law_any_way
  have Gtext := mkDef (ok_text (P := l.prog) (w := w) (base := base) F_law_text b_law_text m_law_text B 10) b_law_text m_law_text k_law_text
  have Gsame := mkDef (ok_same (P := l.prog) (w := w) (base := base) F_law_same b_law_same m_law_same B 130) b_law_same m_law_same k_law_same
  have Gend := mkDef (ok_figures_end (P := l.prog) (w := w) (base := base) F_figures_end B mF) b_figures_end m_figures_end k_figures_end
  have Gisf := mkDef (ok_is_figures F_is_figures B Gend) b_is_figures m_is_figures k_is_figures
  have Onum := ok_number_of (P := l.prog) (w := w) (base := base) F_number_of B
  have Gnum := mkDef Onum b_number_of m_number_of k_number_of
  have GnumX : Def l.prog w K mg base (CXF l.prog w) 1 "number_of" (spNumX C_NoText) := mkDef (FnOk.or (FnOk.quiet Onum) (ok_number_bad F_number_of B R)) b_number_of m_number_of k_number_of
  have Gword := mkDef (ok_is_word (P := l.prog) (w := w) (base := base) F_is_word B) b_is_word m_is_word k_is_word
  have Gway := mkDef (ok_is_way (P := l.prog) (w := w) (base := base) F_is_way B) b_is_way m_is_way k_is_way
  have GwordX := mkDef (FnOk.quiet (ok_is_wordA (P := l.prog) (w := w) (base := base) F_is_word B)) b_is_word m_is_word k_is_word
  have GwayX := mkDef (FnOk.quiet (ok_is_wayA (P := l.prog) (w := w) (base := base) F_is_way B)) b_is_way m_is_way k_is_way
  have Opiece := ok_piece_at F_piece_at B mF mS TS Gnum Gend
  have Gpiece := mkDef Opiece b_piece_at m_piece_at k_piece_at
  have GpieceX : Def l.prog w K mg base (CXF l.prog w) 2 "piece_at" (spPieceX C_NoText) := mkDef (FnOk.or (FnOk.quiet Opiece) (ok_piece_bad F_piece_at B R mF mS TS GnumX Gend)) b_piece_at m_piece_at k_piece_at
  have Opieces := ok_pieces_of F_pieces_of B Gpiece
  have Gpieces := mkDef Opieces b_pieces_of m_pieces_of k_pieces_of
  have GpiecesX : Def l.prog w K mg base (CXF l.prog w) 3 "pieces_of" (spPiecesX C_NoText) := mkDef (FnOk.or (FnOk.quiet Opieces) (ok_pieces_bad F_pieces_of B GpieceX)) b_pieces_of m_pieces_of k_pieces_of
  have Oclosed := ok_way_closed F_way_closed B Gword Gway
  have Gclosed := mkDef Oclosed b_way_closed m_way_closed k_way_closed
  have GclosedX : Def l.prog w K mg base (CXF l.prog w) 2 "way_closed" (spClosedX C_NoText) := mkDef (FnOk.or (FnOk.quiet Oclosed) (ok_closed_bad F_way_closed B R GwordX GwayX)) b_way_closed m_way_closed k_way_closed
  have Oread := ok_read_way F_read_way B Gisf Gnum Gpieces Gclosed
  have GreadX : Def l.prog w K mg base (CXF l.prog w) 4 "read_way" (spReadX C_NoText) := mkDef (FnOk.or (FnOk.quiet Oread) (ok_read_bad F_read_way B R Gisf GnumX GpiecesX GclosedX)) b_read_way m_read_way k_read_way
  have Gnr := mkDef (ok_number_read (P := l.prog) (w := w) (base := base) F_law_number_read B) b_law_number_read m_law_number_read k_law_number_read
  have Glr : Def l.prog w K mg base CX0 226 "_law_read" (spLR 112) := mkDef (ok_law_read F_law_read b_law_read m_law_read F_law_part_read b_law_part_read m_law_part_read B Bmax Gnr 112) b_law_read m_law_read k_law_read
  have Ggr : Def l.prog w K mg base CX0 131 "_law_greatest" (spGr 130) := mkDef (ok_greatest F_law_greatest b_law_greatest m_law_greatest B Bmax 130) b_law_greatest m_law_greatest k_law_greatest
  have Gright := mkDef (ok_law_right F_law_right B R Glr Ggr Gsame GreadX (PySem.W.mg_none_of X G z_ValueError)) b_law_right m_law_right k_law_right
  have Gspoilt := mkDef (ok_spoilt F_law_spoilt B Gtake) b_law_spoilt m_law_spoilt k_law_spoilt
  have Gbounded := mkDef (ok_bounded F_law_bounded B Gspoilt) b_law_bounded m_law_bounded k_law_bounded
  exact ok_law F_law B Bmin Gdeck Gtake Gsize Gany Gtext Gright Gbounded
theorem walk {l : PySem.W.OpenLaw} {q : Program} {loose : List Str} {XP : (Str → Option Value) → Heap → Prop} {YP : World → Heap → Prop} {d : DefRec} {K : Params → PySem.W.Frag} (hn : l.most = some 63) (hdf : d.params.defaults = [])
    (hY : ∀ (w : World) (h : Heap), YP w h → (K w.params).In h)
    (F : ∀ (w : World) (mg : Str → Option Value) (fa : Addr) (h : Heap), (K w.params).In h → h.Ns mainGlobals mg → mg d.name = some (.ref fa) →
      ∃ fd : FuncData, (∀ (s : Shared) (u : Value), BindsTo s fd ⟨[u], []⟩ [("script", u)]) ∧ ∀ base : Heap, (K w.params).In base → base.Ns mainGlobals mg → FnOk l.prog w (K w.params) mg base CX0 228 fa fd ["script"] (spLaw (K w.params))) :
    PySem.W.WalkO q loose XP YP l.row.toRowW d [] (fun f vs => PySem.call f vs) :=
  L2.walk_of (n := 63) (k := 228) (x := "script") (CX := fun _ => CX0) (sp := fun w => spLaw (K w.params)) hn (by decide) hdf ⟨rfl, by decide, by decide⟩ hY F (fun _ _ a ns hl _ hS => ⟨a, ns, rfl, hS, hl, fun _ => rfl⟩) fun _ _ _ _ _ z => z
end Law
open PySem PySem.W PyProof.Rows
set_option maxRecDepth 100000 in
set_option maxHeartbeats 0 in
theorem PySem.Challenge.cw_ledtowish_k05_texts_of_none_holds : PySem.Challenge.rw_ledtowish_k05_texts_of_none.Holds := by
  w_on; o_law; k_head; (case hw => w_witness2)
  k_fill
  refine Law.walk (l := PySem.Challenge.rw_ledtowish_k05_texts_of_none) rfl rfl (fun w h Y => PySem.W.kIn_of Y) ?F
  case F =>
    intro w mg fa h KX G hmg
    refine' Law.all_mk KX G hmg ?a_number_of ?l_number_of ?c_number_of ?k_number_of ?a_read_way ?l_read_way ?c_read_way ?k_read_way ?a_is_figures ?l_is_figures ?c_is_figures ?k_is_figures ?a_figures_end ?l_figures_end ?c_figures_end ?k_figures_end ?a_pieces_of ?l_pieces_of ?c_pieces_of ?k_pieces_of ?a_piece_at ?l_piece_at ?c_piece_at ?k_piece_at ?a_way_closed ?l_way_closed ?c_way_closed ?k_way_closed ?a_is_word ?l_is_word ?c_is_word ?k_is_word ?a_is_way ?l_is_way ?c_is_way ?k_is_way ?a_law_deck ?l_law_deck ?c_law_deck ?k_law_deck ?a_law_take ?l_law_take ?c_law_take ?k_law_take ?a_law_number ?l_law_number ?c_law_number ?k_law_number ?a_law_any_way ?l_law_any_way ?c_law_any_way ?k_law_any_way ?a_law_size ?l_law_size ?c_law_size ?k_law_size ?a_law_text ?l_law_text ?c_law_text ?k_law_text ?a_law_same ?l_law_same ?c_law_same ?k_law_same ?a_law_number_read ?l_law_number_read ?c_law_number_read ?k_law_number_read ?a_law_part_read ?l_law_part_read ?c_law_part_read ?k_law_part_read ?a_law_read ?l_law_read ?c_law_read ?k_law_read ?a_law_greatest ?l_law_greatest ?c_law_greatest ?k_law_greatest ?a_law_spoilt ?l_law_spoilt ?c_law_spoilt ?k_law_spoilt ?a_law_bounded ?l_law_bounded ?c_law_bounded ?k_law_bounded ?a_law_right ?l_law_right ?c_law_right ?k_law_right ?a_law ?l_law ?c_law ?k_law ?a_SIGNS ?l_SIGNS ?k_SIGNS ?e_SIGNS_plus ?e_SIGNS_less ?e_SIGNS_times ?e_SIGNS_share ?p_SIGNS ?y_SIGNS ?a_FIGURES ?a_WishError ?l_WishError ?t_WishError ?kp_WishError ?ga_WishError ?gh_WishError ?gc_WishError ?sa_WishError ?a_NoText ?l_NoText ?t_NoText ?kp_NoText ?ga_NoText ?gh_NoText ?gc_NoText ?sa_NoText ?a_NoAsk ?l_NoAsk ?t_NoAsk ?kp_NoAsk ?ga_NoAsk ?gh_NoAsk ?gc_NoAsk ?sa_NoAsk ?a_NoWay ?l_NoWay ?t_NoWay ?kp_NoWay ?ga_NoWay ?gh_NoWay ?gc_NoWay ?sa_NoWay ?i_NoText ?t_W ?t_S ?t_N ?z_ValueError ?z_max ?z_min ?z_len ?z_sum ?z_range ?z_isinstance ?z_int ?z_str ?z_bool ?z_tuple ?z_zip
    (case a_number_of => k_is)
    (case l_number_of => k_is)
    (case c_number_of => k_is)
    (case k_number_of => k_is)
    (case a_read_way => k_is)
    (case l_read_way => k_is)
    (case c_read_way => k_is)
    (case k_read_way => k_is)
    (case a_is_figures => k_is)
    (case l_is_figures => k_is)
    (case c_is_figures => k_is)
    (case k_is_figures => k_is)
    (case a_figures_end => k_is)
    (case l_figures_end => k_is)
    (case c_figures_end => k_is)
    (case k_figures_end => k_is)
    (case a_pieces_of => k_is)
    (case l_pieces_of => k_is)
    (case c_pieces_of => k_is)
    (case k_pieces_of => k_is)
    (case a_piece_at => k_is)
    (case l_piece_at => k_is)
    (case c_piece_at => k_is)
    (case k_piece_at => k_is)
    (case a_way_closed => k_is)
    (case l_way_closed => k_is)
    (case c_way_closed => k_is)
    (case k_way_closed => k_is)
    (case a_is_word => k_is)
    (case l_is_word => k_is)
    (case c_is_word => k_is)
    (case k_is_word => k_is)
    (case a_is_way => k_is)
    (case l_is_way => k_is)
    (case c_is_way => k_is)
    (case k_is_way => k_is)
    (case a_law_deck => k_is)
    (case l_law_deck => k_is)
    (case c_law_deck => k_is)
    (case k_law_deck => k_is)
    (case a_law_take => k_is)
    (case l_law_take => k_is)
    (case c_law_take => k_is)
    (case k_law_take => k_is)
    (case a_law_number => k_is)
    (case l_law_number => k_is)
    (case c_law_number => k_is)
    (case k_law_number => k_is)
    (case a_law_any_way => k_is)
    (case l_law_any_way => k_is)
    (case c_law_any_way => k_is)
    (case k_law_any_way => k_is)
    (case a_law_size => k_is)
    (case l_law_size => k_is)
    (case c_law_size => k_is)
    (case k_law_size => k_is)
    (case a_law_text => k_is)
    (case l_law_text => k_is)
    (case c_law_text => k_is)
    (case k_law_text => k_is)
    (case a_law_same => k_is)
    (case l_law_same => k_is)
    (case c_law_same => k_is)
    (case k_law_same => k_is)
    (case a_law_number_read => k_is)
    (case l_law_number_read => k_is)
    (case c_law_number_read => k_is)
    (case k_law_number_read => k_is)
    (case a_law_part_read => k_is)
    (case l_law_part_read => k_is)
    (case c_law_part_read => k_is)
    (case k_law_part_read => k_is)
    (case a_law_read => k_is)
    (case l_law_read => k_is)
    (case c_law_read => k_is)
    (case k_law_read => k_is)
    (case a_law_greatest => k_is)
    (case l_law_greatest => k_is)
    (case c_law_greatest => k_is)
    (case k_law_greatest => k_is)
    (case a_law_spoilt => k_is)
    (case l_law_spoilt => k_is)
    (case c_law_spoilt => k_is)
    (case k_law_spoilt => k_is)
    (case a_law_bounded => k_is)
    (case l_law_bounded => k_is)
    (case c_law_bounded => k_is)
    (case k_law_bounded => k_is)
    (case a_law_right => k_is)
    (case l_law_right => k_is)
    (case c_law_right => k_is)
    (case k_law_right => k_is)
    (case a_law => k_is)
    (case l_law => k_is)
    (case c_law => k_is)
    (case k_law => k_is)
    (case a_SIGNS => k_is)
    (case l_SIGNS => k_is)
    (case k_SIGNS => k_keys)
    (case e_SIGNS_plus => k_is)
    (case e_SIGNS_less => k_is)
    (case e_SIGNS_times => k_is)
    (case e_SIGNS_share => k_is)
    (case p_SIGNS => exact .cons ⟨⟨_, rfl⟩, ⟨_, rfl⟩⟩ (.cons ⟨⟨_, rfl⟩, ⟨_, rfl⟩⟩ (.cons ⟨⟨_, rfl⟩, ⟨_, rfl⟩⟩ (.cons ⟨⟨_, rfl⟩, ⟨_, rfl⟩⟩ .nil))))
    (case y_SIGNS => rfl)
    (case a_FIGURES => k_is)
    (case a_WishError => k_is)
    (case l_WishError => k_is)
    (case t_WishError => kernel_rfl)
    (case kp_WishError => k_is)
    (case ga_WishError => k_is)
    (case gh_WishError => k_is)
    (case gc_WishError => k_is)
    (case sa_WishError => k_is)
    (case a_NoText => k_is)
    (case l_NoText => k_is)
    (case t_NoText => kernel_rfl)
    (case kp_NoText => k_is)
    (case ga_NoText => k_is)
    (case gh_NoText => k_is)
    (case gc_NoText => k_is)
    (case sa_NoText => k_is)
    (case a_NoAsk => k_is)
    (case l_NoAsk => k_is)
    (case t_NoAsk => kernel_rfl)
    (case kp_NoAsk => k_is)
    (case ga_NoAsk => k_is)
    (case gh_NoAsk => k_is)
    (case gc_NoAsk => k_is)
    (case sa_NoAsk => k_is)
    (case a_NoWay => k_is)
    (case l_NoWay => k_is)
    (case t_NoWay => kernel_rfl)
    (case kp_NoWay => k_is)
    (case ga_NoWay => k_is)
    (case gh_NoWay => k_is)
    (case gc_NoWay => k_is)
    (case sa_NoWay => k_is)
    (case i_NoText => k_is)
    (case t_W => decide +kernel)
    (case t_S => decide +kernel)
    (case t_N => decide +kernel)
    (case z_ValueError => k_is)
    (case z_max => k_is)
    (case z_min => k_is)
    (case z_len => k_is)
    (case z_sum => k_is)
    (case z_range => k_is)
    (case z_isinstance => k_is)
    (case z_int => k_is)
    (case z_str => k_is)
    (case z_bool => k_is)
    (case z_tuple => k_is)
    (case z_zip => k_is)
#print axioms PySem.Challenge.cw_ledtowish_k05_texts_of_none_holds
